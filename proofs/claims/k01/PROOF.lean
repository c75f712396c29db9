import PyProof.Rows.All
import Wide.All
import OpenK.AllK
import Wide.FinOn
import Lean
import PyProof.EqAt
import PyProof.EqKinds
import PyProof.TupleCall
import PySem.Challenge.RW_closering_k01_whole_levels
set_option Elab.async false
set_option linter.all false
set_option maxRecDepth 100000
section
namespace MI
open PySem (Str)
inductive D where
  | non | bl (b : Bool) | int (i : Int) | str (x : Str) | tup (ds : List D) | obj (n : Nat)
deriving Inhabited
mutual
def D.eq : D -> D -> Bool
  | .non, .non => true
  | .bl a, .bl b => a == b
  | .int a, .int b => a == b
  | .str a, .str b => decide (a = b)
  | .tup a, .tup b => eqs a b
  | .obj a, .obj b => a == b
  | _, _ => false
def eqs : List D -> List D -> Bool
  | [], [] => true
  | a :: r, b :: q => D.eq a b && eqs r q
  | _, _ => false
end
mutual
theorem D.eq_iff : ∀ a b : D, D.eq a b = true ↔ a = b
  | .non, b => by cases b <;> simp [D.eq]
  | .bl a, b => by cases b <;> simp [D.eq]
  | .int a, b => by cases b <;> simp [D.eq]
  | .str a, b => by cases b <;> simp [D.eq]
  | .obj a, b => by cases b <;> simp [D.eq]
  | .tup a, b => by
    cases b with
    | tup b => simp [D.eq, zst a b]
    | _ => simp [D.eq]
theorem zst : ∀ a b : List D, eqs a b = true ↔ a = b
  | [], b => by cases b <;> simp [eqs]
  | x :: r, b => by
    cases b with
    | nil => simp [eqs]
    | cons y q => simp [eqs, D.eq_iff x y, zst r q]
end
instance : DecidableEq D := fun a b => decidable_of_iff _ (D.eq_iff a b)
mutual
def D.nr : D -> Bool
  | .obj _ => false
  | .tup ds => nrs ds
  | _ => true
def nrs : List D -> Bool
  | [] => true
  | d :: r => d.nr && nrs r
end
inductive O where
  | lst (xs : List D) | scr (xs : List D) | dic (kvs : List (Int × D)) | hole | set (xs : List Int) | ins (c : Nat) (fs : List (Nat × D))
deriving Inhabited, DecidableEq
def O.flat : O -> Bool
  | .lst xs => nrs xs
  | .scr _ => false
  | .dic kvs => nrs (kvs.map (·.2))
  | .hole => false
  | .set _ => true
  | .ins _ _ => false
abbrev zA := List (Option D)
abbrev MH := List O
inductive R (α : Type) where
  | ok (a : α) (h : MH) | ex (c : Nat) (h : MH) | bad
abbrev ME (α : Type) := zA -> MH -> R α
inductive RS where
  | nx (e : zA) (h : MH) | rt (v : D) (h : MH) | bk (e : zA) (h : MH) | ct (e : zA) (h : MH) | ex (c : Nat) (h : MH) | bad
abbrev MS := zA -> MH -> RS
abbrev MF := List D -> MH -> R D
section
variable {α β : Type}
def zb (a : α) : ME α := fun _ h => .ok a h
def zJ : ME α := fun _ _ => .bad
def zn (m : ME α) (k : α -> ME β) : ME β := fun e h => match m e h with
  | .ok a h1 => k a e h1
  | .ex c h1 => .ex c h1
  | .bad => .bad
end
def var (i : Nat) : ME D := fun e h => match e[i]? with
  | some (some d) => .ok d h
  | _ => .bad
def un (f : D -> ME D) (a : ME D) : ME D := zn a f
def bin (f : D -> D -> ME D) (a b : ME D) : ME D := zn a fun x => zn b fun y => f x y
def zg3 (o : O) : ME D := fun _ h => .ok (.obj h.length) (h ++ [o])
def O.items : O -> Option (List D)
  | .lst xs => some xs
  | .scr xs => some xs
  | _ => none
def zdM (n : Nat) : ME (List D) := fun _ h => match h[n]? with
  | some (.lst xs) => .ok xs h
  | _ => .bad
def zcc : D -> ME D
  | .int i => zb (.int (-i))
  | _ => zJ
def zK : D -> D -> ME D
  | .int i, .int j => zb (.int (i + j))
  | _, _ => zJ
def z8 : D -> D -> ME D
  | .int i, .int j => zb (.int (i - j))
  | _, _ => zJ
def zcE (i : Int) : Bool := decide (-18446744073709551616 < i) && decide (i < 18446744073709551616)
def zb4 : D -> D -> ME D
  | .int i, .int j => if zcE i || zcE j then zb (.int (i * j)) else zJ
  | _, _ => zJ
def zdE : D -> D -> ME D
  | .int i, .int j => if 0 < j ∧ j < 1073741824 then zb (.int (i / j)) else zJ
  | _, _ => zJ
def zbA : D -> D -> ME D
  | .int i, .int j => if 0 < j then zb (.int (i % j)) else zJ
  | _, _ => zJ
def zhF (p : Int -> Int -> Bool) : D -> D -> ME D
  | .int i, .int j => zb (.bl (p i j))
  | _, _ => zJ
def ltV := zhF fun i j => decide (i < j)
def leV := zhF fun i j => decide (i <= j)
def gtV := zhF fun i j => decide (j < i)
def geV := zhF fun i j => decide (j <= i)
mutual
def peq : D -> D -> Bool
  | .non, .non => true
  | .bl a, .bl b => a == b
  | .bl a, .int b => (if a then 1 else 0) == b
  | .int a, .bl b => a == (if b then 1 else 0)
  | .int a, .int b => a == b
  | .str a, .str b => a == b
  | .tup a, .tup b => zcI a b
  | _, _ => false
def zcI : List D -> List D -> Bool
  | [], [] => true
  | a :: r, b :: q => peq a b && zcI r q
  | _, _ => false
end
def D.pl : Nat -> D -> Bool
  | _, .obj _ => false
  | 0, .tup _ => false
  | n + 1, .tup ds => ds.all (D.pl n)
  | _, _ => true
inductive Cmp where
  | d (x : D) | l (xs : List D)
def zcA (h : MH) : D -> Option Cmp
  | .obj n => match h[n]? with
    | some (.lst xs) => if xs.all (D.pl 5) then some (.l xs) else none
    | _ => none
  | x => if x.pl 5 then some (.d x) else none
def Cmp.eq : Cmp -> Cmp -> Bool
  | .d x, .d y => peq x y
  | .l x, .l y => zcI x y
  | _, _ => false
def eqV (x y : D) : ME D := fun _ h => match zcA h x, zcA h y with
  | some a, some b => .ok (.bl (a.eq b)) h
  | _, _ => .bad
def neV (x y : D) : ME D := fun _ h => match zcA h x, zcA h y with
  | some a, some b => .ok (.bl (!a.eq b)) h
  | _, _ => .bad
def zb7 : D -> Bool
  | .non => true
  | .bl _ => true
  | .int _ => true
  | .str _ => true
  | _ => false
def look (k : Int) : List (Int × D) -> Option D
  | [] => none
  | p :: r => if p.1 = k then some p.2 else look k r
def zfh (k : Int) (v : D) (kvs : List (Int × D)) : List (Int × D) :=
  if (kvs.any fun p => decide (p.1 = k)) = true then kvs.map (fun p => if p.1 = k then (p.1, v) else p) else kvs ++ [(k, v)]
def inB (x : D) (xs : List D) : Bool := xs.any fun y => peq y x
def inV (x y : D) : ME D := fun _ h => match y with
  | .tup ds => if zb7 x && ds.all zb7 then .ok (.bl (inB x ds)) h else .bad
  | .obj n => match h[n]? with
    | some (.lst xs) => if zb7 x && xs.all zb7 then .ok (.bl (inB x xs)) h else .bad
    | some (.scr xs) => if zb7 x && xs.all zb7 then .ok (.bl (inB x xs)) h else .bad
    | some (.dic kvs) => match x with
      | .int k => .ok (.bl (look k kvs).isSome) h
      | _ => .bad
    | _ => .bad
  | _ => .bad
def zcC (x y : D) : ME D := zn (inV x y) fun b => match b with
  | .bl b => zb (.bl !b)
  | _ => zJ
def isN : D -> D -> ME D
  | x, .non => zb (.bl (decide (x = .non)))
  | .bl a, .bl b => zb (.bl (a == b))
  | _, _ => zJ
def zcd (x y : D) : ME D := zn (isN x y) fun b => match b with
  | .bl b => zb (.bl !b)
  | _ => zJ
def zgt : D -> ME D
  | .bl b => zb (.bl !b)
  | _ => zJ
def zeF (a b : ME D) : ME D := zn a fun x => match x with
  | .bl true => b
  | .bl false => zb (.bl false)
  | _ => zJ
def orV (a b : ME D) : ME D := zn a fun x => match x with
  | .bl true => zb (.bl true)
  | .bl false => b
  | _ => zJ
def zeW (f g : D -> D -> ME D) (a b c : ME D) : ME D := zn a fun x => zn b fun y => zn (f x y) fun t => match t with
  | .bl true => zn c fun z => g y z
  | .bl false => zb (.bl false)
  | _ => zJ
def tst (m : ME D) : ME Bool := zn m fun x => match x with
  | .bl b => zb b
  | _ => zJ
def zg0 (x : D) : ME Bool := fun _ h => match x with
  | .non => .ok false h
  | .bl b => .ok b h
  | .int i => .ok (i != 0) h
  | .tup ds => .ok (!ds.isEmpty) h
  | .obj n => match h[n]? with
    | some (.lst xs) => .ok (!xs.isEmpty) h
    | some (.scr xs) => .ok (!xs.isEmpty) h
    | some (.dic kvs) => .ok (!kvs.isEmpty) h
    | _ => .bad
  | _ => .bad
def tru (m : ME D) : ME Bool := zn m zg0
def zb0 (a b : ME Bool) : ME Bool := zn a fun c => if c = true then b else zb false
def orT (a b : ME Bool) : ME Bool := zn a fun c => if c = true then zb true else b
def zbg (a : ME Bool) : ME Bool := zn a fun c => zb !c
def ifE (t : ME Bool) (a b : ME D) : ME D := zn t fun c => if c = true then a else b
def ze : ME (List D) := zb []
def za (a : ME D) (r : ME (List D)) : ME (List D) := zn a fun x => zn r fun xs => zb (x :: xs)
def zU (r : ME (List D)) : ME D := zn r fun xs => if xs.length <= 1000 then zb (.tup xs) else zJ
def zcB (r : ME (List D)) : ME (List D) := zn r fun xs => if xs.length <= 1000 then zb xs else zJ
def zN (r : ME (List D)) : ME D := zn r fun xs => zg3 (.lst xs)
def zes (a : ME D) : ME (List D) := zn a fun x => match x with
  | .obj n => zdM n
  | _ => zJ
def zbQ (a : ME D) : ME (List D) := zn a fun x => fun _ h => match x with
  | .obj n => (match h[n]? with
    | some (.lst xs) => .ok xs h
    | some (.scr xs) => .ok xs h
    | _ => .bad)
  | .tup ds => .ok ds h
  | _ => .bad
def ixN (n : Nat) (i : Int) : Option Nat := if 0 <= i then (if i < n then some i.toNat else none) else if -(n : Int) <= i then some (i + n).toNat else none
def atI {α : Type} (xs : List α) (i : Int) : Option α := (ixN xs.length i).bind fun j => xs[j]?
def zh (x i : D) : ME D := fun _ h => match x, i with
  | .tup ds, .int i => match atI ds i with
    | some d => .ok d h
    | none => .bad
  | .obj n, .int i => match h[n]? with
    | some (.lst xs) => (match atI xs i with
      | some d => .ok d h
      | none => .bad)
    | some (.scr xs) => (match atI xs i with
      | some d => .ok d h
      | none => .bad)
    | some (.dic kvs) => (match look i kvs with
      | some d => .ok d h
      | none => .bad)
    | _ => .bad
  | _, _ => .bad
def sIx (n d : Nat) : Option Int -> Nat
  | none => d
  | some v => (if v < 0 then max (v + n) 0 else min v n).toNat
def cut {α : Type} (xs : List α) (lo hi : Option Int) : List α := (xs.drop (sIx xs.length 0 lo)).take (sIx xs.length xs.length hi - sIx xs.length 0 lo)
def noP : ME (Option Int) := zb none
def zcH (a : ME D) : ME (Option Int) := zn a fun x => match x with
  | .int i => zb (some i)
  | _ => zJ
def zc5 (a : ME D) (lo hi : ME (Option Int)) : ME (List D) := zn a fun x => zn lo fun l => zn hi fun u => match x with
  | .obj n => zn (zdM n) fun xs => zb (cut xs l u)
  | _ => zJ
def zhV (a : ME D) (lo hi : ME (Option Int)) : ME D := zn a fun x => zn lo fun l => zn hi fun u => match x with
  | .tup ds => if (cut ds l u).length < ds.length then zb (.tup (cut ds l u)) else zJ
  | _ => zJ
def zhY (a : ME D) : ME D := zn a fun x => match x with
  | .tup [p, q, _] => zb (.tup [q, p])
  | _ => zJ
def zcl : List D -> Option (List Bool)
  | [] => some []
  | .bl b :: r => (zcl r).map (b :: ·)
  | _ :: _ => none
def zcu : List D -> Option (List Int)
  | [] => some []
  | .int b :: r => (zcu r).map (b :: ·)
  | _ :: _ => none
def zgX (l : ME (List D)) : ME D := zn l fun xs => match zcl xs with
  | some bs => zb (.bl (bs.all id))
  | none => zJ
def zh5 (l : ME (List D)) : ME D := zn l fun xs => match zcl xs with
  | some bs => zb (.bl (bs.any id))
  | none => zJ
def zi3 (l : ME (List D)) : ME D := zn l fun xs => match zcu xs with
  | some ns => zb (.int ns.sum)
  | none => zJ
def zbM (l : ME (List D)) : ME D := zn l fun xs => zb (.int xs.length)
def zbV : List Int -> List Int -> List Int
  | _, [] => []
  | seen, x :: r => if x ∈ seen then zbV seen r else x :: zbV (x :: seen) r
def zgY (l : ME (List D)) : ME D := zn l fun xs => match zcu xs with
  | some ns => if ns.length < 4000 then zb (.int (zbV [] ns).length) else zJ
  | none => zJ
def zdA (x : Int) : List Int -> List Int
  | [] => [x]
  | y :: r => if x <= y then x :: y :: r else y :: zdA x r
def zcy (l : List Int) : List Int := l.foldr zdA []
def ziW (l : ME (List D)) : ME (List D) := zn l fun xs => match zcu xs with
  | some ns => if ns.length < 64 then zb ((zcy ns).map .int) else zJ
  | none => zJ
def zGZ (l : ME (List D)) : ME (List D) := zn l fun xs => match zcu xs with
  | some ns => if ns.length < 64 then zb ((zcy (zbV [] ns)).map .int) else zJ
  | none => zJ
def zGo (a : ME D) : ME (List D) := zn a fun x => fun _ h => match x with
  | .obj n => match h[n]? with
    | some (.dic kvs) => if kvs.length < 64 then .ok ((zcy (kvs.map (·.1))).map .int) h else .bad
    | _ => .bad
  | _ => .bad
def zeR (a : ME D) : ME D := zn a fun x => match x with
  | .int i => zb (.int (if i < 0 then -i else i))
  | _ => zJ
def ztr (a : ME D) : ME D := zn a fun x => match x with
  | .int i => zb (.int i)
  | .bl b => zb (.int (if b then 1 else 0))
  | _ => zJ
def zio (a n : ME D) : ME (List D) := zn a fun x => zn n fun k => match x, k with
  | .obj m, .int k => zn (zdM m) fun xs => if -1000000 <= k ∧ k <= 1000000 ∧ xs.length * k.toNat <= 1000000 then zb (List.replicate k.toNat xs).flatten else zJ
  | _, _ => zJ
def zja (a : ME D) (b : ME (List D)) : ME (List D) := zn a fun x => zn b fun ys => match x with
  | .obj m => zn (zdM m) fun xs => if xs.length + ys.length <= 1000000 then zb (xs ++ ys) else zJ
  | _ => zJ
def ztX : List D -> Option (List (Int × D))
  | [] => some []
  | .tup [.int k, v] :: r => (ztX r).map ((k, v) :: ·)
  | _ :: _ => none
def zHv (l : ME (List D)) : ME D := zn l fun xs => match ztX xs with
  | some ps => if ps.length <= 1000000 then zg3 (.dic (ps.foldl (fun a p => zfh p.1 p.2 a) [])) else zJ
  | none => zJ
def ziC : ME D := zg3 (.dic [])
def zij (a : ME D) : ME (List D) := zn a fun x => match x with
  | .int i => if -1000000 <= i ∧ i <= 1000000 then zb ((List.range i.toNat).map fun (k : Nat) => D.int k) else zJ
  | _ => zJ
inductive Ty where
  | int | bool | str | list | tuple | dict
deriving DecidableEq
def zbJ (h : MH) (t : Ty) : D -> Option Bool
  | .non => some false
  | .bl _ => some (t == .bool || t == .int)
  | .int _ => some (t == .int)
  | .str _ => some (t == .str)
  | .tup _ => some (t == .tuple)
  | .obj n => match h[n]? with
    | some (.lst _) => some (t == .list)
    | some (.dic _) => some (t == .dict)
    | _ => none
def zcb (t : Ty) (a : ME D) : ME D := zn a fun x => fun _ h => match zbJ h t x with
  | some b => .ok (.bl b) h
  | none => .bad
def zcj (sub : Nat -> Nat -> Bool) (c : Nat) (a : ME D) : ME D := zn a fun x => fun _ h => match x with
  | .obj n => match h[n]? with
    | some (.ins c' _) => .ok (.bl (sub c' c)) h
    | _ => .bad
  | _ => .bad
def fld (k : Nat) (a : ME D) : ME D := zn a fun x => fun _ h => match x with
  | .obj n => match h[n]? with
    | some (.ins _ fs) => (match fs.lookup k with
      | some d => .ok d h
      | none => .bad)
    | _ => .bad
  | _ => .bad
def zfj (k : Nat) (v : D) : List (Nat × D) -> List (Nat × D)
  | [] => [(k, v)]
  | p :: r => if p.1 = k then (k, v) :: r else p :: zfj k v r
def isL (x : D) : ME Unit := fun _ h => match x with
  | .obj n => (match h[n]? with
    | some (.lst _) => .ok () h
    | _ => .bad)
  | _ => .bad
def zbj (a v : ME D) : ME D := zn a fun x => zn (isL x) fun _ => zn v fun y => fun _ h => match x with
  | .obj n => match h[n]? with
    | some (.lst xs) => if xs.length < 1000000 then .ok .non (h.set n (.lst (xs ++ [y]))) else .bad
    | _ => .bad
  | _ => .bad
def ztW (a : ME D) : ME D := zn a fun x => fun _ h => match x with
  | .obj n => match h[n]? with
    | some (.lst xs) => (match xs[xs.length - 1]? with
      | some y => .ok y (h.set n (.lst xs.dropLast))
      | none => .bad)
    | _ => .bad
  | _ => .bad
def zil (a : ME D) : ME D := zn a fun x => fun _ h => match x with
  | .obj n => match h[n]? with
    | some (.lst xs) => .ok .non (h.set n (.lst xs.reverse))
    | _ => .bad
  | _ => .bad
def zhK (a : ME D) : ME D := zn a fun x => fun _ h => match x with
  | .obj n => match h[n]? with
    | some (.lst xs) => .ok .non (h.set n (.lst []))
    | _ => .bad
  | _ => .bad
def zFL (a b : ME D) : ME D := zn a fun x => zn (isL x) fun _ => zn b fun y => fun _ h => match x, y with
  | .obj n, .obj m => match h[n]?, h[m]? with
    | some (.lst xs), some (.lst ys) => if xs.length + ys.length <= 1000000 then .ok .non (h.set n (.lst (xs ++ ys))) else .bad
    | _, _ => .bad
  | _, _ => .bad
def zeD (h1 h2 : MH) : Bool := (List.range h1.length).all fun i => decide (h2[i]? = h1[i]?) || (match h2[i]? with
  | some o => o.flat
  | none => false)
def zct (n b : Nat) (h2 : MH) : List D -> List Nat -> Option (List D × List Nat)
  | [], ms => some ([], ms)
  | .obj m :: r, ms => if m < n then (zct n b h2 r ms).map fun p => (.obj m :: p.1, p.2)
    else if m ∈ ms then none else match h2[m]? with
      | some o => if o.flat = true then (zct n b h2 r (ms ++ [m])).map fun p => (.obj (b + ms.length) :: p.1, p.2) else none
      | none => none
  | d :: r, ms => if d.nr = true then (zct n b h2 r ms).map fun p => (d :: p.1, p.2) else none
def gcV (n : Nat) (v : D) (h2 : MH) : D × MH := match v with
  | .obj m => if m < n then (v, h2.take n) else match h2[m]? with
    | some (.ins c fs) => (match zct n (n + 1) h2 (fs.map (·.2)) [] with
      | some (ds, ms) => (.obj n, h2.take n ++ .ins c ((fs.map (·.1)).zip ds) :: ms.map fun k => h2.getD k (.lst []))
      | none => (v, h2))
    | some o => if o.flat = true then (.obj n, h2.take n ++ [o]) else (v, h2)
    | none => (v, h2)
  | .tup ds => (match zct n n h2 ds [] with
    | some (ds', ms) => (.tup ds', h2.take n ++ ms.map fun k => h2.getD k (.lst []))
    | none => (v, h2))
  | _ => (v, h2.take n)
def gc (h1 : MH) : R D -> R D
  | .ok v h2 => if zeD h1 h2 = true then .ok (gcV h1.length v h2).1 (gcV h1.length v h2).2 else .ok v h2
  | r => r
def app (f : MF) (ds : List D) (h : MH) : R D := gc h (f ds h)
def zj (f : MF) (args : ME (List D)) : ME D := zn args fun ds => fun _ h => app f ds h
def mkF (c : Nat) (f : MF) : MF := fun ds h => match f (.obj h.length :: ds) (h ++ [.ins c []]) with
  | .ok .non h2 => .ok (.obj h.length) h2
  | .ok _ _ => .bad
  | .ex c h2 => .ex c h2
  | .bad => .bad
def zM (tbl : List (Nat × MF)) (o : ME D) (args : ME (List D)) : ME D := zn o fun x => fun e h => match x with
  | .obj n => match h[n]? with
    | some (.ins c _) => (match tbl.lookup c with
      | some f => zn args (fun ds => fun _ h => app f (x :: ds) h) e h
      | none => .bad)
    | _ => .bad
  | _ => .bad
def zcS {α : Type} (m : ME α) (k : α -> MS) : MS := fun e h => match m e h with
  | .ok a h1 => k a e h1
  | .ex c h1 => .ex c h1
  | .bad => .bad
def zw : MS := fun e h => .nx e h
def zhd : MS := fun _ _ => .bad
def zf (a b : MS) : MS := fun e h => match a e h with
  | .nx e1 h1 => b e1 h1
  | r => r
def ifS (t : ME Bool) (a b : MS) : MS := zcS t fun c => if c = true then a else b
def z4 (m : ME D) : MS := zcS m fun _ => zw
def zr (m : ME D) : MS := zcS m fun v _ h => .rt v h
def zF6 : MS := fun e h => .bk e h
def zGb : MS := fun e h => .ct e h
inductive Tg where
  | nm (i : Nat) | tp (l : List Nat)
def zeA : List Nat -> List D -> zA -> Option zA
  | [], [], e => some e
  | i :: r, x :: xs, e => zeA r xs (e.set i (some x))
  | _, _, _ => none
def zdS : Tg -> D -> zA -> Option zA
  | .nm i, x, e => some (e.set i (some x))
  | .tp l, .tup ds, e => zeA l ds e
  | .tp _, _, _ => none
def zhS (t : Tg) (v : D) : MS := fun e h => match zdS t v e with
  | some e1 => .nx e1 h
  | none => .bad
def zl (t : Tg) (m : ME D) : MS := zcS m (zhS t)
def zit (l : List Nat) (m : ME (List D)) : MS := zcS m fun vs e h => match zeA l vs e with
  | some e1 => .nx e1 h
  | none => .bad
def zha (f : D -> D -> ME D) (i : Nat) (m : ME D) : MS := zl (.nm i) (zn (var i) fun x => zn m fun y => f x y)
def zfG (att : Nat -> Nat -> Bool) (k : Nat) (o v : ME D) : MS := zcS v fun y => zcS o fun x => fun e h => match x with
  | .obj n => (match h[n]? with
    | some (.ins c fs) => if att c k && decide (fs.length < 100) then .nx e (h.set n (.ins c (zfj k y fs))) else .bad
    | _ => .bad)
  | _ => .bad
def zfq (o i v : ME D) : MS := zcS v fun y => zcS o fun x => zcS i fun z => fun e h => match x, z with
  | .obj n, .int k => (match h[n]? with
    | some (.lst xs) => (match ixN xs.length k with
      | some j => .nx e (h.set n (.lst (xs.set j y)))
      | none => .bad)
    | some (.dic kvs) => if kvs.length < 1000000 then .nx e (h.set n (.dic (zfh k y kvs))) else .bad
    | _ => .bad)
  | _, _ => .bad
abbrev Src := List D × List (Nat × O)
def guard (gs : List (Nat × O)) (h : MH) : Bool := gs.all fun p => decide (h[p.1]? = some p.2)
def ziZ (n : Nat) (f : List D -> List D) : ME Src := fun _ h => match h[n]? with
  | some (.lst xs) => .ok (f xs, [(n, .lst xs)]) h
  | _ => .bad
def zet (k : Nat) : List D -> List D
  | [] => []
  | x :: r => .tup [.int k, x] :: zet (k + 1) r
def zsP : List D -> List D -> List D
  | x :: r, y :: q => .tup [x, y] :: zsP r q
  | _, _ => []
def itL (a : ME D) : ME Src := zn a fun x => match x with
  | .obj n => ziZ n id
  | _ => zJ
def itT (a : ME D) : ME Src := zn a fun x => match x with
  | .tup ds => zb (ds, [])
  | _ => zJ
def itR (a : ME D) : ME Src := zn a fun x => match x with
  | .int i => if -1000000 <= i ∧ i <= 1000000 then zb ((List.range i.toNat).map fun (k : Nat) => D.int k, []) else zJ
  | _ => zJ
def itE (a : ME D) : ME Src := zn a fun x => match x with
  | .obj n => ziZ n (zet 0)
  | _ => zJ
def itZ (a b : ME D) : ME Src := zn a fun x => zn b fun y => match x, y with
  | .obj n, .obj m => fun _ h => (match h[n]?, h[m]? with
    | some (.lst xs), some (.lst ys) => .ok (zsP xs ys, [(n, .lst xs), (m, .lst ys)]) h
    | _, _ => .bad)
  | _, _ => zJ
def zfL (r : RS) (k : MS) : RS := match r with
  | .nx e h => k e h
  | .ct e h => k e h
  | .bk e h => .nx e h
  | r => r
def zde (t : Tg) (gs : List (Nat × O)) (body : MS) : List D -> MS
  | [], e, h => if guard gs h = true then .nx e h else .bad
  | x :: xs, e, h => if guard gs h = true then (match zdS t x e with
      | none => .bad
      | some e1 => zfL (body e1 h) (zde t gs body xs)) else .bad
def zdP (t : Tg) (src : ME Src) (body : MS) : MS := zcS src fun p => zde t p.2 body p.1
def ze0 (kvs : List (Int × D)) : List D := kvs.map fun p => .tup [.int p.1, p.2]
def zeX (kvs : List (Int × D)) : List D := kvs.map (·.2)
def zfN (n : Nat) (kvs : List (Int × D)) : RS -> RS
  | .nx e h => if h[n]? = some .hole then .nx e (h.set n (.dic kvs)) else .bad
  | .bk e h => if h[n]? = some .hole then .bk e (h.set n (.dic kvs)) else .bad
  | .ct e h => if h[n]? = some .hole then .ct e (h.set n (.dic kvs)) else .bad
  | .rt v h => if h[n]? = some .hole then .rt v (h.set n (.dic kvs)) else .bad
  | .ex _ _ => .bad
  | .bad => .bad
def ziF {α : Type} (n : Nat) (kvs : List (Int × D)) : R α -> R α
  | .ok a h => if h[n]? = some .hole then .ok a (h.set n (.dic kvs)) else .bad
  | .ex _ _ => .bad
  | .bad => .bad
def zhw (pr : List (Int × D) -> List D) (t : Tg) (a : ME D) (body : MS) : MS := zcS a fun x => fun e h => match x with
  | .obj n => (match h[n]? with
    | some (.dic kvs) => zfN n kvs (zde t [] body (pr kvs) e (h.set n .hole))
    | _ => .bad)
  | _ => .bad
def zfI (t : ME Bool) (body : MS) : Nat -> MS
  | 0 => zhd
  | n + 1 => zcS t fun c => if c = true then (fun e h => zfL (body e h) (zfI t body n)) else zw
def zhO (t : ME Bool) (body : MS) : MS := zfI t body 1000000
def zbT (js : List (Option Nat)) (e : zA) : zA := js.map fun j => j.bind fun k => (e[k]?).join
def zbW (t : Tg) (gs : List (Nat × O)) (cond : ME Bool) (elt : ME D) : List D -> List D -> ME (List D)
  | [], acc, e, h => if guard gs h = true then .ok acc h else .bad
  | x :: xs, acc, e, h => if guard gs h = true then (match zdS t x e with
      | none => .bad
      | some e1 => zn cond (fun c => if c = true then zn elt (fun y => zbW t gs cond elt xs (acc ++ [y])) else zbW t gs cond elt xs acc) e1 h) else .bad
def zbL : ME Bool := zb true
def zb9 (js : List (Option Nat)) (t : Tg) (src : ME Src) (cond : ME Bool) (elt : ME D) : ME (List D) := zn src fun p => fun e h => if p.1.length <= 1000000 then zbW t p.2 cond elt p.1 [] (zbT js e) h else .bad
def zhD (pr : List (Int × D) -> List D) (js : List (Option Nat)) (t : Tg) (a : ME D) (cond : ME Bool) (elt : ME D) : ME (List D) := zn a fun x => fun e h => match x with
  | .obj n => (match h[n]? with
    | some (.dic kvs) => if (pr kvs).length <= 1000000 then ziF n kvs (zbW t [] cond elt (pr kvs) [] (zbT js e) (h.set n .hole)) else .bad
    | _ => .bad)
  | _ => .bad
def zV (np nl : Nat) (body : MS) : MF := fun ds h => if ds.length = np then (match body (ds.map some ++ List.replicate (nl - np) none) h with
  | .nx _ h1 => .ok .non h1
  | .rt v h1 => .ok v h1
  | .ex c h1 => .ex c h1
  | _ => .bad) else .bad
end MI
end
section
namespace MI
open PySem (Str)
def zE {α β : Type} (r : R α) (f : α -> MH -> R β) : R β := match r with
  | .ok a h => f a h
  | .ex c h => .ex c h
  | .bad => .bad
def zcQ {α : Type} (r : R α) (f : α -> MH -> RS) : RS := match r with
  | .ok a h => f a h
  | .ex c h => .ex c h
  | .bad => .bad
def zgo (r : RS) (f : zA -> MH -> RS) : RS := match r with
  | .nx e h => f e h
  | r => r
def zhU (r : RS) : R D := match r with
  | .nx _ h1 => .ok .non h1
  | .rt v h1 => .ok v h1
  | .ex c h1 => .ex c h1
  | _ => .bad
section
variable {α β : Type} {e e1 : zA} {h h1 : MH} {x y z d v : D} {i j : Int} {n m k : Nat}
@[simp] theorem ziA (a : α) (f : α -> MH -> R β) : zE (.ok a h) f = f a h := rfl
@[simp] theorem zG6 (f : α -> MH -> R β) : zE (.bad) f = .bad := rfl
@[simp] theorem ztt (a : α) (f : α -> MH -> RS) : zcQ (.ok a h) f = f a h := rfl
@[simp] theorem zF8 (f : α -> MH -> RS) : zcQ (.bad) f = .bad := rfl
@[simp] theorem zc8 (f : zA -> MH -> RS) : zgo (.nx e h) f = f e h := rfl
@[simp] theorem zGY (f : zA -> MH -> RS) : zgo (.rt v h) f = .rt v h := rfl
@[simp] theorem zFS (f : zA -> MH -> RS) : zgo (.bk e h) f = .bk e h := rfl
@[simp] theorem zGI (f : zA -> MH -> RS) : zgo (.ct e h) f = .ct e h := rfl
@[simp] theorem zGl (f : zA -> MH -> RS) : zgo .bad f = .bad := rfl
@[simp] theorem zHc : zhU (.nx e h) = .ok .non h := rfl
@[simp] theorem zHb : zhU (.rt v h) = .ok v h := rfl
@[simp] theorem zFF : zhU .bad = .bad := rfl
@[simp] theorem zEn (f : MS) : zfL (.nx e h) f = f e h := rfl
@[simp] theorem zHz (f : MS) : zfL (.ct e h) f = f e h := rfl
@[simp] theorem zGN (f : MS) : zfL (.rt v h) f = .rt v h := rfl
@[simp] theorem zHw (f : MS) : zfL .bad f = .bad := rfl
@[simp] theorem zQ (a : ME α) (f : α -> ME β) : zn a f e h = zE (a e h) fun x h1 => f x e h1 := by unfold zn zE; cases a e h <;> rfl
@[simp] theorem ze5 (a : ME α) (f : α -> MS) : zcS a f e h = zcQ (a e h) fun x h1 => f x e h1 := by unfold zcS zcQ; cases a e h <;> rfl
@[simp] theorem zdh (a b : MS) : zf a b e h = zgo (a e h) b := by unfold zf zgo; cases a e h <;> rfl
@[simp] theorem zEb (np nl : Nat) (b : MS) (ds : List D) : zV np nl b ds h = if ds.length = np then zhU (b (ds.map some ++ List.replicate (nl - np) none) h) else .bad := by
  unfold zV zhU
  split
  . cases b (ds.map some ++ List.replicate (nl - np) none) h <;> rfl
  . rfl
@[simp] theorem zDj (a : α) : zb a e h = .ok a h := rfl
@[simp] theorem zFR : (zJ : ME α) e h = .bad := rfl
@[simp] theorem zCC : var n e h = match e[n]? with
  | some (some d) => .ok d h
  | _ => .bad := rfl
@[simp] theorem zGK (f : D -> ME D) (a : ME D) : un f a e h = zE (a e h) fun x h1 => f x e h1 := zQ _ _
@[simp] theorem ziM (f : D -> D -> ME D) (a b : ME D) : MI.bin f a b e h = zE (a e h) fun x h1 => zE (b e h1) fun y h2 => f x y e h2 := by unfold MI.bin; simp
@[simp] theorem zGm (o : O) : zg3 o e h = .ok (.obj h.length) (h ++ [o]) := rfl
@[simp] theorem zHe : zcc (.int i) e h = .ok (.int (-i)) h := rfl
@[simp] theorem zHa : zK (.int i) (.int j) e h = .ok (.int (i + j)) h := rfl
@[simp] theorem zFW : z8 (.int i) (.int j) e h = .ok (.int (i - j)) h := rfl
@[simp] theorem zHA : zdE (.int i) (.int j) e h = if 0 < j ∧ j < 1073741824 then .ok (.int (i / j)) h else .bad := by simp only [zdE]; split <;> rfl
@[simp] theorem zFT : zbA (.int i) (.int j) e h = if 0 < j then .ok (.int (i % j)) h else .bad := by simp only [zbA]; split <;> rfl
@[simp] theorem zr5 : zb4 (.int i) (.int j) e h = if (zcE i || zcE j) = true then .ok (.int (i * j)) h else .bad := by simp only [zb4]; split <;> rfl
@[simp] theorem zFH : ltV (.int i) (.int j) e h = .ok (.bl (decide (i < j))) h := rfl
@[simp] theorem zHG : leV (.int i) (.int j) e h = .ok (.bl (decide (i <= j))) h := rfl
@[simp] theorem zGO : gtV (.int i) (.int j) e h = .ok (.bl (decide (j < i))) h := rfl
@[simp] theorem zHl : geV (.int i) (.int j) e h = .ok (.bl (decide (j <= i))) h := rfl
@[simp] theorem zGk : eqV (.int i) (.int j) e h = .ok (.bl (decide (i = j))) h := by simp only [eqV, zcA, D.pl, if_pos, Cmp.eq, peq, Bool.beq_eq_decide_eq]
@[simp] theorem zFU : neV (.int i) (.int j) e h = .ok (.bl (!decide (i = j))) h := by simp only [neV, zcA, D.pl, if_pos, Cmp.eq, peq, Bool.beq_eq_decide_eq]
@[simp] theorem zG1 {a b : Bool} : eqV (.bl a) (.bl b) e h = .ok (.bl (a == b)) h := rfl
@[simp] theorem zGH {a b : Bool} : neV (.bl a) (.bl b) e h = .ok (.bl (!(a == b))) h := rfl
@[simp] theorem zGp {b : Bool} : zgt (.bl b) e h = .ok (.bl !b) h := rfl
@[simp] theorem zG4 : isN x .non e h = .ok (.bl (decide (x = .non))) h := by cases x <;> rfl
@[simp] theorem zGG {a b : Bool} : isN (.bl a) (.bl b) e h = .ok (.bl (a == b)) h := rfl
@[simp] theorem zG5 : zcd x .non e h = .ok (.bl (!decide (x = .non))) h := by cases x <;> rfl
@[simp] theorem zHk {a b : Bool} : zcd (.bl a) (.bl b) e h = .ok (.bl (!(a == b))) h := rfl
def zhR (r : R D) (f : MH -> R D) : R D := zE r fun x h1 => match x with
  | .bl true => f h1
  | .bl false => .ok (.bl false) h1
  | _ => .bad
def orR (r : R D) (f : MH -> R D) : R D := zE r fun x h1 => match x with
  | .bl true => .ok (.bl true) h1
  | .bl false => f h1
  | _ => .bad
@[simp] theorem zGR {b : Bool} (f : MH -> R D) : zhR (.ok (.bl b) h) f = if b = true then f h else .ok (.bl false) h := by cases b <;> rfl
@[simp] theorem zFQ {b : Bool} (f : MH -> R D) : orR (.ok (.bl b) h) f = if b = true then .ok (.bl true) h else f h := by cases b <;> rfl
@[simp] theorem zFY (a b : ME D) : zeF a b e h = zhR (a e h) (b e) := by
  unfold zeF zhR
  rw [zQ]
  cases a e h with
  | ok x h1 => cases x <;> first | rfl | (rename_i b; cases b <;> rfl)
  | _ => rfl
@[simp] theorem zHu (a b : ME D) : orV a b e h = orR (a e h) (b e) := by
  unfold orV orR
  rw [zQ]
  cases a e h with
  | ok x h1 => cases x <;> first | rfl | (rename_i b; cases b <;> rfl)
  | _ => rfl
@[simp] theorem zHs (f g : D -> D -> ME D) (a b c : ME D) : zeW f g a b c e h = zE (a e h) fun x h1 => zE (b e h1) fun y h2 => zhR (f x y e h2) fun h3 => zE (c e h3) fun z h4 => g y z e h4 := by
  unfold zeW
  simp only [zQ]
  congr 1; funext x h1; congr 1; funext y h2
  unfold zhR
  congr 1; funext t h3
  cases t <;> first | rfl | (rename_i b; cases b <;> simp)
def zpX (r : R D) : R Bool := zE r fun x h1 => match x with
  | .bl b => .ok b h1
  | _ => .bad
@[simp] theorem zGz {b : Bool} : zpX (.ok (.bl b) h) = .ok b h := rfl
@[simp] theorem zpo (a : ME D) : tst a e h = zpX (a e h) := by
  unfold tst zpX
  rw [zQ]
  congr 1; funext x h1; cases x <;> rfl
@[simp] theorem zDh (a : ME D) : tru a e h = zE (a e h) fun x h1 => zg0 x e h1 := by unfold tru; rw [zQ]
@[simp] theorem zBw {b : Bool} : zg0 (.bl b) e h = .ok b h := rfl
@[simp] theorem zGF : zg0 .non e h = .ok false h := rfl
@[simp] theorem zHi : zg0 (.int i) e h = .ok (i != 0) h := rfl
@[simp] theorem zGe (a b : ME Bool) : zb0 a b e h = zE (a e h) fun c h1 => if c = true then b e h1 else .ok false h1 := by unfold zb0; rw [zQ]; congr 1; funext c h1; cases c <;> rfl
@[simp] theorem zFE (a b : ME Bool) : orT a b e h = zE (a e h) fun c h1 => if c = true then .ok true h1 else b e h1 := by unfold orT; rw [zQ]; congr 1; funext c h1; cases c <;> rfl
@[simp] theorem zCO (a : ME Bool) : zbg a e h = zE (a e h) fun c h1 => .ok (!c) h1 := by unfold zbg; rw [zQ]; rfl
@[simp] theorem zGV (t : ME Bool) (a b : ME D) : ifE t a b e h = zE (t e h) fun c h1 => if c = true then a e h1 else b e h1 := by unfold ifE; rw [zQ]; congr 1; funext c h1; cases c <;> rfl
@[simp] theorem zDK : ze e h = .ok [] h := rfl
@[simp] theorem zGQ (a : ME D) (r : ME (List D)) : za a r e h = zE (a e h) fun x h1 => zE (r e h1) fun xs h2 => .ok (x :: xs) h2 := by unfold za; simp
@[simp] theorem zFG (r : ME (List D)) : zU r e h = zE (r e h) fun xs h1 => if xs.length <= 1000 then .ok (.tup xs) h1 else .bad := by unfold zU; rw [zQ]; congr 1; funext xs h1; split <;> rfl
@[simp] theorem zGi (r : ME (List D)) : zcB r e h = zE (r e h) fun xs h1 => if xs.length <= 1000 then .ok xs h1 else .bad := by unfold zcB; rw [zQ]; congr 1; funext xs h1; split <;> rfl
@[simp] theorem zGE (r : ME (List D)) : zN r e h = zE (r e h) fun xs h1 => .ok (.obj h1.length) (h1 ++ [.lst xs]) := by unfold zN; rw [zQ]; rfl
@[simp] theorem zF2 : zdM n e h = match h[n]? with
  | some (.lst xs) => .ok xs h
  | _ => .bad := rfl
@[simp] theorem zGv (a : ME D) : zes a e h = zE (a e h) fun x h1 => match x with
  | .obj n => zdM n e h1
  | _ => .bad := by unfold zes; rw [zQ]; congr 1; funext x h1; cases x <;> rfl
@[simp] theorem zFO (a : ME D) : zbQ a e h = zE (a e h) fun x h1 => match x with
  | .obj n => (match h1[n]? with
    | some (.lst xs) => .ok xs h1
    | some (.scr xs) => .ok xs h1
    | _ => .bad)
  | .tup ds => .ok ds h1
  | _ => .bad := by unfold zbQ; rw [zQ] <;> congr 1
@[simp] theorem zFX : noP e h = .ok none h := rfl
@[simp] theorem zFZ (a : ME D) : zcH a e h = zE (a e h) fun x h1 => match x with
  | .int i => .ok (some i) h1
  | _ => .bad := by unfold zcH; rw [zQ]; congr 1; funext x h1; cases x <;> rfl
@[simp] theorem zGW (a : ME D) (lo hi : ME (Option Int)) : zc5 a lo hi e h = zE (a e h) fun x h1 => zE (lo e h1) fun l h2 => zE (hi e h2) fun u h3 => match x with
  | .obj n => zE (zdM n e h3) fun xs h4 => .ok (cut xs l u) h4
  | _ => .bad := by unfold zc5; simp only [zQ]; congr 1; funext x h1; congr 1; funext l h2; congr 1; funext u h3; cases x <;> simp
@[simp] theorem zFM (a : ME D) (lo hi : ME (Option Int)) : zhV a lo hi e h = zE (a e h) fun x h1 => zE (lo e h1) fun l h2 => zE (hi e h2) fun u h3 => match x with
  | .tup ds => if (cut ds l u).length < ds.length then .ok (.tup (cut ds l u)) h3 else .bad
  | _ => .bad := by unfold zhV; simp only [zQ]; congr 1; funext x h1; congr 1; funext l h2; congr 1; funext u h3; cases x <;> first | rfl | (dsimp only; split <;> rfl)
@[simp] theorem zGr (a : ME D) : zhY a e h = zE (a e h) fun x h1 => match x with
  | .tup [p, q, _] => .ok (.tup [q, p]) h1
  | _ => .bad := by unfold zhY; rw [zQ]; congr 1; funext x h1; rcases x with _|_|_|_|l|_ <;> first | rfl | (rcases l with _|⟨a0, _|⟨a1, _|⟨a2, _|⟨a3, l⟩⟩⟩⟩ <;> rfl)
@[simp] theorem zGM (l : ME (List D)) : zgX l e h = zE (l e h) fun xs h1 => match zcl xs with
  | some bs => .ok (.bl (bs.all id)) h1
  | none => .bad := by unfold zgX; rw [zQ]; congr 1; funext x h1; cases hh : zcl x <;> simp [hh]
@[simp] theorem zF4 (l : ME (List D)) : zh5 l e h = zE (l e h) fun xs h1 => match zcl xs with
  | some bs => .ok (.bl (bs.any id)) h1
  | none => .bad := by unfold zh5; rw [zQ]; congr 1; funext x h1; cases hh : zcl x <;> simp [hh]
@[simp] theorem zHy (l : ME (List D)) : zi3 l e h = zE (l e h) fun xs h1 => match zcu xs with
  | some bs => .ok (.int bs.sum) h1
  | none => .bad := by unfold zi3; rw [zQ]; congr 1; funext x h1; cases hh : zcu x <;> simp [hh]
@[simp] theorem ztY (l : ME (List D)) : zbM l e h = zE (l e h) fun xs h1 => .ok (.int xs.length) h1 := by unfold zbM; rw [zQ]; rfl
@[simp] theorem zHr (l : ME (List D)) : zgY l e h = zE (l e h) fun xs h1 => match zcu xs with
  | some ns => if ns.length < 4000 then .ok (.int (zbV [] ns).length) h1 else .bad
  | none => .bad := by unfold zgY; rw [zQ]; congr 1; funext x h1; cases hh : zcu x <;> simp [hh]; split <;> rfl
@[simp] theorem zHf (l : ME (List D)) : ziW l e h = zE (l e h) fun xs h1 => match zcu xs with
  | some ns => if ns.length < 64 then .ok ((zcy ns).map .int) h1 else .bad
  | none => .bad := by unfold ziW; rw [zQ]; congr 1; funext x h1; cases hh : zcu x <;> simp [hh]; split <;> rfl
@[simp] theorem zG9 (a : ME D) : zeR a e h = zE (a e h) fun x h1 => match x with
  | .int i => .ok (.int (if i < 0 then -i else i)) h1
  | _ => .bad := by unfold zeR; rw [zQ]; congr 1; funext x h1; cases x <;> rfl
@[simp] theorem zHp (a : ME D) : ztr a e h = zE (a e h) fun x h1 => match x with
  | .int i => .ok (.int i) h1
  | .bl b => .ok (.int (if b then 1 else 0)) h1
  | _ => .bad := by unfold ztr; rw [zQ]; congr 1; funext x h1; cases x <;> rfl
@[simp] theorem zHn (a b : ME D) : zio a b e h = zE (a e h) fun x h1 => zE (b e h1) fun kk h2 => match x, kk with
  | .obj m, .int k => zE (zdM m e h2) fun xs h3 => if -1000000 <= k ∧ k <= 1000000 ∧ xs.length * k.toNat <= 1000000 then .ok (List.replicate k.toNat xs).flatten h3 else .bad
  | _, _ => .bad := by
  unfold zio; simp only [zQ]; congr 1; funext x h1; congr 1; funext y h2
  cases x <;> cases y <;> first | rfl | (dsimp only; rw [zQ]; congr 1; funext xs h3; split <;> rfl)
@[simp] theorem zFI (a : ME D) (b : ME (List D)) : zja a b e h = zE (a e h) fun x h1 => zE (b e h1) fun ys h2 => match x with
  | .obj m => zE (zdM m e h2) fun xs h3 => if xs.length + ys.length <= 1000000 then .ok (xs ++ ys) h3 else .bad
  | _ => .bad := by
  unfold zja; simp only [zQ]; congr 1; funext x h1; congr 1; funext y h2
  cases x <;> first | rfl | (dsimp only; rw [zQ]; congr 1; funext xs h3; split <;> rfl)
@[simp] theorem zHd : ziC e h = .ok (.obj h.length) (h ++ [.dic []]) := rfl
@[simp] theorem zGt (a : ME D) : zij a e h = zE (a e h) fun x h1 => match x with
  | .int i => if -1000000 <= i ∧ i <= 1000000 then .ok ((List.range i.toNat).map fun (k : Nat) => D.int k) h1 else .bad
  | _ => .bad := by unfold zij; rw [zQ]; congr 1; funext x h1; cases x <;> first | rfl | (dsimp only; split <;> rfl)
@[simp] theorem zF3 (t : Ty) (a : ME D) : zcb t a e h = zE (a e h) fun x h1 => match zbJ h1 t x with
  | some b => .ok (.bl b) h1
  | none => .bad := by unfold zcb; rw [zQ] <;> congr 1
@[simp] theorem zHC (s : Nat -> Nat -> Bool) (a : ME D) : zcj s n a e h = zE (a e h) fun x h1 => match x with
  | .obj n' => match h1[n']? with
    | some (.ins c' _) => .ok (.bl (s c' n)) h1
    | _ => .bad
  | _ => .bad := by unfold zcj; rw [zQ] <;> congr 1
@[simp] theorem zGw (a : ME D) : fld k a e h = zE (a e h) fun x h1 => match x with
  | .obj n => match h1[n]? with
    | some (.ins _ fs) => (match fs.lookup k with
      | some d => .ok d h1
      | none => .bad)
    | _ => .bad
  | _ => .bad := by unfold fld; rw [zQ] <;> congr 1
def zc4 (x : D) (h : MH) (r : R D) : R D := match x with
  | .obj n => (match h[n]? with
    | some (.lst _) => r
    | _ => .bad)
  | _ => .bad
@[simp] theorem zGU (a b : ME D) : zbj a b e h = zE (a e h) fun x h1 => zc4 x h1 (zE (b e h1) fun y h2 => match x with
  | .obj n => match h2[n]? with
    | some (.lst xs) => if xs.length < 1000000 then .ok .non (h2.set n (.lst (xs ++ [y]))) else .bad
    | _ => .bad
  | _ => .bad) := by
  unfold zbj; simp only [zQ]; congr 1; funext x h1
  unfold isL zc4
  cases x <;> first | rfl | skip
  dsimp only
  split <;> simp_all <;> congr 1
@[simp] theorem zHm (a : ME D) : zil a e h = zE (a e h) fun x h1 => match x with
  | .obj n => match h1[n]? with
    | some (.lst xs) => .ok .non (h1.set n (.lst xs.reverse))
    | _ => .bad
  | _ => .bad := by unfold zil; rw [zQ] <;> congr 1
@[simp] theorem zGs (a : ME D) : zhK a e h = zE (a e h) fun x h1 => match x with
  | .obj n => match h1[n]? with
    | some (.lst xs) => .ok .non (h1.set n (.lst []))
    | _ => .bad
  | _ => .bad := by unfold zhK; rw [zQ] <;> congr 1
@[simp] theorem zF0 (a : ME D) : ztW a e h = zE (a e h) fun x h1 => match x with
  | .obj n => match h1[n]? with
    | some (.lst xs) => (match xs[xs.length - 1]? with
      | some y => .ok y (h1.set n (.lst xs.dropLast))
      | none => .bad)
    | _ => .bad
  | _ => .bad := by unfold ztW; rw [zQ] <;> congr 1
@[simp] theorem zHF (f : MF) (a : ME (List D)) : zj f a e h = zE (a e h) fun ds h1 => app f ds h1 := by unfold zj; rw [zQ]
@[simp] theorem zA4 (tbl : List (Nat × MF)) (o : ME D) (a : ME (List D)) : zM tbl o a e h = zE (o e h) fun x h1 => match x with
  | .obj n => match h1[n]? with
    | some (.ins c _) => (match tbl.lookup c with
      | some f => zE (a e h1) fun ds h2 => app f (x :: ds) h2
      | none => .bad)
    | _ => .bad
  | _ => .bad := by
  unfold zM; rw [zQ] <;> congr 1
@[simp] theorem zGP : zw e h = .nx e h := rfl
@[simp] theorem zqa (t : ME Bool) (a b : MS) : ifS t a b e h = zcQ (t e h) fun c h1 => if c = true then a e h1 else b e h1 := by unfold ifS; rw [ze5]; congr 1; funext c h1; cases c <;> rfl
@[simp] theorem zGA (a : ME D) : z4 a e h = zcQ (a e h) fun _ h1 => .nx e h1 := by unfold z4; rw [ze5]; rfl
@[simp] theorem zDA (a : ME D) : zr a e h = zcQ (a e h) fun v h1 => .rt v h1 := by unfold zr; rw [ze5]
@[simp] theorem zAf (t : Tg) (a : ME D) : zl t a e h = zcQ (a e h) fun v h1 => zhS t v e h1 := by unfold zl; rw [ze5]
@[simp] theorem zHt : zhS (.nm n) v e h = .nx (e.set n (some v)) h := rfl
@[simp] theorem zHE (l : List Nat) (ds : List D) : zhS (.tp l) (.tup ds) e h = match zeA l ds e with
  | some e1 => .nx e1 h
  | none => .bad := rfl
@[simp] theorem zHq (l : List Nat) (a : ME (List D)) : zit l a e h = zcQ (a e h) fun vs h1 => match zeA l vs e with
  | some e1 => .nx e1 h1
  | none => .bad := by unfold zit; rw [ze5] <;> congr 1
@[simp] theorem zGd : zeA [] [] e = some e := rfl
@[simp] theorem zGX (l : List Nat) (ds : List D) : zeA (n :: l) (x :: ds) e = zeA l ds (e.set n (some x)) := rfl
@[simp] theorem zE1 : zdS (.nm n) x e = some (e.set n (some x)) := rfl
@[simp] theorem zGg (l : List Nat) (ds : List D) : zdS (.tp l) (.tup ds) e = zeA l ds e := rfl
@[simp] theorem zHx (f : D -> D -> ME D) (a : ME D) : zha f n a e h = zcQ (zE (var n e h) fun x h1 => zE (a e h1) fun y h2 => f x y e h2) fun v h1 => .nx (e.set n (some v)) h1 := by unfold zha; rw [zAf]; simp only [zQ]; rfl
@[simp] theorem zGT (att : Nat -> Nat -> Bool) (o a : ME D) : zfG att k o a e h = zcQ (a e h) fun y h1 => zcQ (o e h1) fun x h2 => match x with
  | .obj n => (match h2[n]? with
    | some (.ins c fs) => if (att c k && decide (fs.length < 100)) = true then .nx e (h2.set n (.ins c (zfj k y fs))) else .bad
    | _ => .bad)
  | _ => .bad := by unfold zfG; rw [ze5] <;> congr 1
@[simp] theorem zF9 (o i a : ME D) : zfq o i a e h = zcQ (a e h) fun y h1 => zcQ (o e h1) fun x h2 => zcQ (i e h2) fun z h3 => match x, z with
  | .obj n, .int k => (match h3[n]? with
    | some (.lst xs) => (match ixN xs.length k with
      | some j => .nx e (h3.set n (.lst (xs.set j y)))
      | none => .bad)
    | some (.dic kvs) => if kvs.length < 1000000 then .nx e (h3.set n (.dic (zfh k y kvs))) else .bad
    | _ => .bad)
  | _, _ => .bad := by unfold zfq; rw [ze5] <;> congr 1
@[simp] theorem zDC (t : Tg) (s : ME Src) (b : MS) : zdP t s b e h = zcQ (s e h) fun p h1 => zde t p.2 b p.1 e h1 := by unfold zdP; rw [ze5]
@[simp] theorem zG7 (a : ME D) : itL a e h = zE (a e h) fun x h1 => match x with
  | .obj n => (match h1[n]? with
    | some (.lst xs) => .ok (xs, [(n, .lst xs)]) h1
    | _ => .bad)
  | _ => .bad := by unfold itL; rw [zQ]; congr 1; funext x h1; cases x <;> rfl
@[simp] theorem zGJ (a : ME D) : itE a e h = zE (a e h) fun x h1 => match x with
  | .obj n => (match h1[n]? with
    | some (.lst xs) => .ok (zet 0 xs, [(n, .lst xs)]) h1
    | _ => .bad)
  | _ => .bad := by unfold itE; rw [zQ]; congr 1; funext x h1; cases x <;> rfl
@[simp] theorem zHg (a : ME D) : itT a e h = zE (a e h) fun x h1 => match x with
  | .tup ds => .ok (ds, []) h1
  | _ => .bad := by unfold itT; rw [zQ]; congr 1; funext x h1; cases x <;> rfl
@[simp] theorem zDU (a : ME D) : itR a e h = zE (a e h) fun x h1 => match x with
  | .int i => if -1000000 <= i ∧ i <= 1000000 then .ok ((List.range i.toNat).map fun (k : Nat) => D.int k, []) h1 else .bad
  | _ => .bad := by unfold itR; rw [zQ]; congr 1; funext x h1; cases x <;> first | rfl | (dsimp only; split <;> rfl)
@[simp] theorem zFJ (js : List (Option Nat)) (t : Tg) (s : ME Src) (c : ME Bool) (a : ME D) : zb9 js t s c a e h = zE (s e h) fun p h1 => if p.1.length <= 1000000 then zbW t p.2 c a p.1 [] (zbT js e) h1 else .bad := by unfold zb9; rw [zQ]
@[simp] theorem zFK (pr : List (Int × D) -> List D) (js : List (Option Nat)) (t : Tg) (a : ME D) (c : ME Bool) (b : ME D) : zhD pr js t a c b e h = zE (a e h) fun x h1 => match x with
  | .obj n => (match h1[n]? with
    | some (.dic kvs) => if (pr kvs).length <= 1000000 then ziF n kvs (zbW t [] c b (pr kvs) [] (zbT js e) (h1.set n .hole)) else .bad
    | _ => .bad)
  | _ => .bad := by unfold zhD; rw [zQ] <;> congr 1
@[simp] theorem zGD (pr : List (Int × D) -> List D) (t : Tg) (a : ME D) (b : MS) : zhw pr t a b e h = zcQ (a e h) fun x h1 => match x with
  | .obj n => (match h1[n]? with
    | some (.dic kvs) => zfN n kvs (zde t [] b (pr kvs) e (h1.set n .hole))
    | _ => .bad)
  | _ => .bad := by unfold zhw; rw [ze5] <;> congr 1
@[simp] theorem zFP : zbL e h = .ok true h := rfl
@[simp] theorem zGx (a : D) (l : List D) : MI.atI (a :: l) 0 = some a := by simp [MI.atI, ixN]
@[simp] theorem zGC (a b : D) (l : List D) : MI.atI (a :: b :: l) 1 = some b := by rw [MI.atI, show ixN (a :: b :: l).length 1 = some 1 from by unfold ixN; rw [if_pos (by omega), if_pos (by simp only [List.length_cons]; omega)]; rfl]; rfl
@[simp] theorem zG3 (a b c : D) (l : List D) : MI.atI (a :: b :: c :: l) 2 = some c := by rw [MI.atI, show ixN (a :: b :: c :: l).length 2 = some 2 from by unfold ixN; rw [if_pos (by omega), if_pos (by simp only [List.length_cons]; omega)]; rfl]; rfl
theorem zFe {n k : Nat} (h : k < n) : ixN n (k : Int) = some k := by
  unfold ixN
  rw [if_pos (by omega), if_pos (by omega)]; simp
theorem zfO {α : Type} {xs : List α} {k : Nat} (h : k < xs.length) : MI.atI xs (k : Int) = some xs[k] := by
  unfold MI.atI
  rw [zFe h]; simp [h]
theorem ziJ {α : Type} (xs : List α) (a : α) : MI.atI (xs ++ [a]) (-1) = some a := by
  unfold MI.atI ixN
  rw [if_neg (by omega), if_pos (by simp; omega)]
  have e : (-1 + ((xs ++ [a]).length : Int)).toNat = xs.length := by simp; omega
  rw [e]; simp
theorem zp {h : MH} {n : Nat} {o : O} (e : h[n]? = some o) (g : MH) : (h ++ g)[n]? = some o := by rw [List.getElem?_append_left (List.getElem?_eq_some_iff.mp e).1]; exact e
@[simp] theorem zF7 (h g : MH) : (h ++ g)[h.length]? = g[0]? := by rw [List.getElem?_append_right (Nat.le_refl _)]; simp
@[simp] theorem zg9 (h g : MH) (k : Nat) : (h ++ g)[h.length + k]? = g[k]? := by rw [List.getElem?_append_right (by omega)]; congr 1; omega
@[simp] theorem zG2 (h : MH) (a o : O) (g : MH) : (h ++ a :: g).set h.length o = h ++ o :: g := by rw [List.set_append_right _ _ (Nat.le_refl _)]; simp
@[simp] theorem zsX (h g : MH) (k : Nat) (o : O) : (h ++ g).set (h.length + k) o = h ++ g.set k o := by rw [List.set_append_right _ _ (by omega)]; congr 2; omega
theorem ztV {h : MH} {n : Nat} (hn : n < h.length) (o : O) (g : MH) : (h ++ g).set n o = h.set n o ++ g := by rw [List.set_append_left _ _ hn]
theorem zrY {h : MH} {n : Nat} {o : O} (e : h[n]? = some o) : h.set n o = h := by
  apply List.ext_getElem?
  intro i
  by_cases hi : n = i
  . subst hi
    rw [List.getElem?_set_self (List.getElem?_eq_some_iff.mp e).1, e]
  . rw [List.getElem?_set_ne hi]
theorem zer (h g : MH) : zeD h (h ++ g) = true := by
  unfold zeD
  rw [List.all_eq_true]
  intro i hi
  rw [List.mem_range] at hi
  rw [List.getElem?_append_left hi]; simp
theorem zHo (h : MH) : zeD h h = true := by have := zer h []; simpa using this
@[simp] theorem zGc (h : MH) : gc h .bad = .bad := rfl
theorem zAl (h g : MH) (i : Int) : gc h (.ok (.int i) (h ++ g)) = .ok (.int i) h := by simp [gc, zer, gcV]
theorem zcL (h g : MH) (b : Bool) : gc h (.ok (.bl b) (h ++ g)) = .ok (.bl b) h := by simp [gc, zer, gcV]
theorem zsx (h g : MH) : gc h (.ok .non (h ++ g)) = .ok .non h := by simp [gc, zer, gcV]
@[simp] theorem zGf (h : MH) (i : Int) : gc h (.ok (.int i) h) = .ok (.int i) h := by have := zAl h [] i; simpa using this
@[simp] theorem zGj (h : MH) (b : Bool) : gc h (.ok (.bl b) h) = .ok (.bl b) h := by have := zcL h [] b; simpa using this
@[simp] theorem zGS (h : MH) : gc h (.ok .non h) = .ok .non h := by have := zsx h []; simpa using this
theorem zss (n b : Nat) (h2 : MH) : ∀ (ds : List D) (ms : List Nat), nrs ds = true -> zct n b h2 ds ms = some (ds, ms)
  | [], ms, _ => rfl
  | d :: ds, ms, hn => by
    unfold nrs at hn
    rw [Bool.and_eq_true] at hn
    have ih := zss n b h2 ds ms hn.2
    cases d with
    | obj m => simp [D.nr] at hn
    | _ => simp only [zct, hn.1, if_pos, ih]; rfl
theorem zCi (h g : MH) {ds : List D} (hn : nrs ds = true) : gc h (.ok (.tup ds) (h ++ g)) = .ok (.tup ds) h := by
  simp only [gc, zer, if_pos, gcV, zss _ _ _ _ _ hn]
  simp
theorem ziP (h : MH) {ds : List D} (hn : nrs ds = true) : gc h (.ok (.tup ds) h) = .ok (.tup ds) h := by have := zCi h [] hn; simpa using this
theorem zpF (h g : MH) {k : Nat} {o : O} (e : g[k]? = some o) (f : o.flat = true) : gc h (.ok (.obj (h.length + k)) (h ++ g)) = .ok (.obj h.length) (h ++ [o]) := by
  have hlt : ¬ h.length + k < h.length := by omega
  simp only [gc, zer, if_pos, gcV, if_neg hlt, zg9, e]
  cases o with
  | ins c fs => cases f
  | _ => simp [f]
theorem zsg (h g : MH) {o : O} (f : o.flat = true) : gc h (.ok (.obj h.length) (h ++ o :: g)) = .ok (.obj h.length) (h ++ [o]) := zpF h (o :: g) (k := 0) rfl f
end
end MI
end
section
open PySem MI
namespace My
def zW : Nat -> Nat -> Bool := fun a b => [(0, 0), (1, 1), (2, 1), (2, 2), (3, 1), (3, 3), (4, 1), (4, 4), (5, 1), (5, 5), (6, 1), (6, 6), (7, 1), (7, 7), (8, 1), (8, 8), (9, 1), (9, 9), (10, 1), (10, 10)].contains (a, b)
def zfp : Nat -> Nat -> Bool := fun a b => [(0, 0), (0, 1), (0, 2), (2, 3), (3, 4), (4, 5), (4, 6), (5, 7), (6, 8), (6, 4), (7, 4), (8, 0), (9, 4), (10, 0)].contains (a, b)
def zdT : MF := zV 1 1
    (zr (zeF (zcb .int (var 0)) (un zgt (zcb .bool (var 0)))))
def zc9 : MF := zV 3 3
    (zr (zeF (zj zdT (za (var 0) ze)) (zeW leV leV (var 1) (var 0) (var 2))))
def zey : MF := zV 2 2
    (zr (zj zc9 (za (var 1) (za (zb (.int (0))) (za (bin z8 (var 0) (zb (.int (1)))) ze)))))
def zfV : MF := zV 2 2
    (zf (ifS (orT (zbg (tru (zcb .tuple (var 1)))) (tst (bin neV (zbM (zbQ (var 1))) (zb (.int (3)))))) (zr (zb (.bl false))) zw)
    (zf (ifS (orT (zbg (tru (zj zey (za (var 0) (za (bin zh (var 1) (zb (.int (0)))) ze))))) (zbg (tru (zj zey (za (var 0) (za (bin zh (var 1) (zb (.int (1)))) ze)))))) (zr (zb (.bl false))) zw)
    (zr (zeF (bin neV (bin zh (var 1) (zb (.int (0)))) (bin zh (var 1) (zb (.int (1))))) (zj zc9 (za (bin zh (var 1) (zb (.int (2)))) (za (un zcc (zb (.int (1000000)))) (za (zb (.int (1000000))) ze))))))))
def zfs : MF := zV 2 2
    (zf (ifS (zbg (tru (zj zfV (za (var 0) (za (var 1) ze))))) zhd zw)
    (zr (zU (za (bin zh (var 1) (zb (.int (0)))) (za (bin zh (var 1) (zb (.int (1)))) (za (bin zh (var 1) (zb (.int (2)))) ze))))))
def zdH : MF := zV 3 3
    (zf (ifS (tst (bin eqV (var 2) (zb (.int (0))))) (zr (bin eqV (var 0) (var 1))) zw)
    (zr (bin eqV (bin zbA (bin z8 (var 0) (var 1)) (var 2)) (zb (.int (0))))))
def zdI : MF := zV 4 4
    (zf (ifS (zbg (tru (zj zc9 (za (var 1) (za (zb (.int (1))) (za (zb (.int (1000000))) ze)))))) zhd zw)
    (zf (ifS (zbg (tru (zj zc9 (za (var 3) (za (zb (.int (0))) (za (zb (.int (1000000))) ze)))))) zhd zw)
    (zf (ifS (zbg (tru (zcb .list (var 2)))) zhd zw)
    (zf (zfG zfp 0 (var 0) (var 1))
    (zf (zfG zfp 1 (var 0) (var 3))
    (zfG zfp 2 (var 0) (zN (zb9 [none, some 1] (.nm 0) (itL (var 2)) zbL (zj zfs (za (var 1) (za (var 0) ze)))))))))))
def zh9 : MF := zV 1 1
    (zr (zN (zes (fld 2 (var 0)))))
def zeH : MF := zV 1 1
    (zr (zU (za (bin zh (var 0) (zb (.int (1)))) (za (bin zh (var 0) (zb (.int (0)))) (za (un zcc (bin zh (var 0) (zb (.int (2))))) ze)))))
def z7 : List (Nat × MF) := [(0, zh9)]
def zdj : MF := zV 1 1
    (zr (zj (mkF 0 zdI) (za (fld 0 (var 0)) (za (zN (zb9 [none] (.nm 0) (itL (zM z7 (var 0) ze)) zbL (zj zeH (za (var 0) ze)))) (za (fld 1 (var 0)) ze)))))
def zfW : MF := zV 2 2
    (zr (zj zc9 (za (var 1) (za (zb (.int (0))) (za (bin z8 (zbM (zbQ (var 0))) (zb (.int (1)))) ze)))))
def zeI : MF := zV 2 2
    (zf (ifS (orT (zbg (tru (zcb .tuple (var 1)))) (tst (bin neV (zbM (zbQ (var 1))) (zb (.int (2)))))) (zr (zb (.bl false))) zw)
    (zr (zeF (zj zfW (za (var 0) (za (bin zh (var 1) (zb (.int (0)))) ze))) (zeF (zj zdT (za (bin zh (var 1) (zb (.int (1)))) ze)) (bin inV (bin zh (var 1) (zb (.int (1)))) (zU (za (zb (.int (1))) (za (zb (.int (-1))) ze))))))))
def zci : MF := zV 2 3
    (zf (zl (.nm 2) (bin zh (var 0) (bin zh (var 1) (zb (.int (0))))))
    (zr (ifE (tst (bin eqV (bin zh (var 1) (zb (.int (1)))) (zb (.int (1))))) (var 2) (zj zeH (za (var 2) ze)))))
def zfX : MF := zV 3 7
    (zf (ifS (orT (zbg (tru (zj zey (za (fld 0 (var 0)) (za (var 1) ze))))) (zbg (tru (zcb .list (var 2))))) (zr (zb .non)) zw)
    (zf (zl (.nm 3) (zM z7 (var 0) ze))
    (zf (zl (.nm 4) (zN (zcB ze)))
    (zf (zl (.nm 5) (var 1))
    (zf (zdP (.nm 6) (itL (var 2))
    (zf (ifS (zbg (tru (zj zeI (za (var 3) (za (var 6) ze))))) (zr (zb .non)) zw)
    (zf (z4 (zbj (var 4) (zj zci (za (var 3) (za (var 6) ze)))))
    (zf (ifS (tst (bin neV (bin zh (bin zh (var 4) (un zcc (zb (.int (1))))) (zb (.int (0)))) (var 5))) (zr (zb .non)) zw)
    (zl (.nm 5) (bin zh (bin zh (var 4) (un zcc (zb (.int (1))))) (zb (.int (1)))))))))
    (zr (var 4)))))))
def zfY : MF := zV 1 1
    (zr (zN (zij (zbM (zbQ (zM z7 (var 0) ze))))))
def ze6 : MF := zV 2 5
    (zf (zl (.nm 2) (zM z7 (var 0) ze))
    (zf (zl (.nm 3) (zN (zb9 [none] (.nm 0) (itR (fld 0 (var 0))) zbL (zN (zcB ze)))))
    (zf (zdP (.nm 4) (itL (var 1))
    (zf (z4 (zbj (bin zh (var 3) (bin zh (bin zh (var 2) (var 4)) (zb (.int (0))))) (zU (za (var 4) (za (zb (.int (1))) ze)))))
    (z4 (zbj (bin zh (var 3) (bin zh (bin zh (var 2) (var 4)) (zb (.int (1))))) (zU (za (var 4) (za (zb (.int (-1))) ze)))))))
    (zr (var 3)))))
def zeJ : MF := zV 4 9
    (zf (zfq (var 3) (var 2) (zb .non))
    (zf (zl (.nm 4) (zN (zcB (za (var 2) ze))))
    (zf (zl (.nm 5) (zb (.int (0))))
    (zhO (tst (bin ltV (var 5) (zbM (zbQ (var 4))))) (zf (zl (.nm 6) (bin zh (var 4) (var 5)))
    (zf (zdP (.nm 7) (itL (bin zh (var 1) (var 6)))
    (zf (zl (.nm 8) (bin zh (zj zci (za (var 0) (za (var 7) ze))) (zb (.int (1)))))
    (ifS (tst (bin zcC (var 8) (var 3))) (zf (zfq (var 3) (var 8) (var 7))
    (z4 (zbj (var 4) (var 8)))) zw)))
    (zha zK 5 (zb (.int (1))))))))))
def zfZ : MF := zV 3 4
    (zf (zl (.nm 3) ziC)
    (zf (z4 (zj zeJ (za (zM z7 (var 0) ze) (za (zj ze6 (za (var 0) (za (var 1) ze))) (za (var 2) (za (var 3) ze))))))
    (zr (var 3))))
def zf0 : MF := zV 2 6
    (zf (zl (.nm 2) (zM z7 (var 0) ze))
    (zf (zl (.nm 3) (zj ze6 (za (var 0) (za (var 1) ze))))
    (zf (zl (.nm 4) ziC)
    (zf (zdP (.nm 5) (itR (fld 0 (var 0)))
    (ifS (tst (bin zcC (var 5) (var 4))) (z4 (zj zeJ (za (var 2) (za (var 3) (za (var 5) (za (var 4) ze)))))) zw))
    (zr (var 4))))))
def zf1 : MF := zV 3 6
    (zf (zl (.nm 3) (zM z7 (var 0) ze))
    (zf (zl (.nm 4) (zN (zcB ze)))
    (zf (zl (.nm 5) (var 2))
    (zf (zhO (tst (bin zcd (bin zh (var 1) (var 5)) (zb .non))) (zf (z4 (zbj (var 4) (bin zh (var 1) (var 5))))
    (zl (.nm 5) (bin zh (zj zci (za (var 3) (za (bin zh (var 1) (var 5)) ze))) (zb (.int (0)))))))
    (zf (z4 (zil (var 4)))
    (zr (var 4)))))))
def zf2 : MF := zV 1 1
    (zr (zN (ziW (zhD zeX [none] (.nm 0) (var 0) (tst (bin zcd (var 0) (zb .non))) (bin zh (var 0) (zb (.int (0))))))))
def zf3 : MF := zV 2 2
    (zr (zeF (zcb .list (var 0)) (zeF (bin eqV (zbM (zbQ (var 0))) (var 1)) (zgX (zb9 [none] (.nm 0) (itL (var 0)) zbL (zj zdT (za (var 0) ze)))))))
def ze7 : MF := zV 1 1
    (zr (bin eqV (zgY (zes (var 0))) (zbM (zbQ (var 0)))))
def zia : MF := zV 2 2
    (zfG zfp 3 (var 0) (zN (zes (var 1))))
def zhi : MF := zV 2 3
    (zf (ifS (zbg (tru (zj zf3 (za (fld 3 (var 0)) (za (fld 0 (var 1)) ze))))) (zr (zb (.bl false))) zw)
    (zf (zl (.nm 2) (fld 3 (var 0)))
    (zr (zgX (zb9 [none, some 1, some 2] (.nm 0) (itL (zM z7 (var 1) ze)) zbL (zj zdH (za (bin z8 (bin zh (var 2) (bin zh (var 0) (zb (.int (1))))) (bin zh (var 2) (bin zh (var 0) (zb (.int (0)))))) (za (bin zh (var 0) (zb (.int (2)))) (za (fld 1 (var 1)) ze)))))))))
def zhj : MF := zV 2 2
    (zfG zfp 4 (var 0) (zN (zes (var 1))))
def zhk : MF := zV 2 4
    (zf (ifS (orT (zbg (tru (zcb .list (fld 4 (var 0))))) (orT (tst (bin ltV (zbM (zbQ (fld 4 (var 0)))) (zb (.int (2))))) (zbg (tru (zj zeI (za (zM z7 (var 1) ze) (za (bin zh (fld 4 (var 0)) (zb (.int (0)))) ze))))))) (zr (zb (.bl false))) zw)
    (zf (zl (.nm 2) (bin zh (zj zci (za (zM z7 (var 1) ze) (za (bin zh (fld 4 (var 0)) (zb (.int (0)))) ze))) (zb (.int (0)))))
    (zf (zl (.nm 3) (zj zfX (za (var 1) (za (var 2) (za (fld 4 (var 0)) ze)))))
    (zf (ifS (orT (tst (bin isN (var 3) (zb .non))) (tst (bin neV (bin zh (bin zh (var 3) (un zcc (zb (.int (1))))) (zb (.int (1)))) (var 2)))) (zr (zb (.bl false))) zw)
    (zf (ifS (orT (zbg (tru (zj ze7 (za (zN (zb9 [none] (.nm 0) (itL (var 3)) zbL (bin zh (var 0) (zb (.int (1)))))) ze)))) (zbg (tru (zj ze7 (za (zN (zb9 [none] (.nm 0) (itL (fld 4 (var 0))) zbL (bin zh (var 0) (zb (.int (0)))))) ze))))) (zr (zb (.bl false))) zw)
    (zr (un zgt (zj zdH (za (zi3 (zb9 [none] (.nm 0) (itL (var 3)) zbL (bin zh (var 0) (zb (.int (2)))))) (za (zb (.int (0))) (za (fld 1 (var 1)) ze)))))))))))
def zf4 : MF := zV 2 7
    (zf (zl (.nm 2) (zM z7 (var 0) ze))
    (zf (zl (.nm 3) (zN (zio (zN (zcB (za (zb (.int (0))) ze))) (fld 0 (var 0)))))
    (zf (zhw ze0 (.tp [4, 5]) (var 1)
    (ifS (tst (bin zcd (var 5) (zb .non))) (zf (zl (.nm 6) (zj zci (za (var 2) (za (var 5) ze))))
    (zfq (var 3) (var 4) (bin zK (bin zh (var 3) (bin zh (var 6) (zb (.int (0))))) (bin zh (var 6) (zb (.int (2))))))) zw))
    (zr (var 3)))))
def zft : MF := zV 3 4
    (zf (zl (.nm 3) (bin zh (zM z7 (var 0) ze) (var 2)))
    (zr (zN (zja (zN (zcB (za (zU (za (var 2) (za (zb (.int (1))) ze))) ze))) (zes (zj zf1 (za (var 0) (za (zj zfZ (za (var 0) (za (zj zf2 (za (var 1) ze)) (za (bin zh (var 3) (zb (.int (1)))) ze)))) (za (bin zh (var 3) (zb (.int (0)))) ze)))))))))
def zdJ : MF := zV 1 5
    (zf (zl (.nm 1) (zj zf0 (za (var 0) (za (zj zfY (za (var 0) ze)) ze))))
    (zf (zl (.nm 2) (zj zf4 (za (var 0) (za (var 1) ze))))
    (zf (zdP (.tp [3, 4]) (itE (zM z7 (var 0) ze))
    (ifS (zbg (tru (zj zdH (za (bin z8 (bin zh (var 2) (bin zh (var 4) (zb (.int (1))))) (bin zh (var 2) (bin zh (var 4) (zb (.int (0)))))) (za (bin zh (var 4) (zb (.int (2)))) (za (fld 1 (var 0)) ze)))))) (zr (zj (mkF 3 zhj) (za (zj zft (za (var 0) (za (var 1) (za (var 3) ze)))) ze))) zw))
    (zr (zj (mkF 2 zia) (za (var 2) ze))))))
def zcF : MF := zV 2 2
    (zf (ifS (tst (bin ltV (var 1) (zbM (zbQ (var 0))))) (zr (bin zh (var 0) (var 1))) zw)
    (zr (zb (.int (0)))))
def zH : MF := zV 3 4
    (zf (zl (.nm 3) (zU (za (zb (.int (1000003))) (za (zb (.int (1000033))) (za (zb (.int (1000037))) (za (zb (.int (1000039))) (za (zb (.int (1000081))) (za (zb (.int (1000099))) (za (zb (.int (1000117))) (za (zb (.int (1000121))) (za (zb (.int (1000133))) (za (zb (.int (1000151))) (za (zb (.int (1000159))) (za (zb (.int (1000171))) (za (zb (.int (1000183))) (za (zb (.int (1000187))) (za (zb (.int (1000193))) (za (zb (.int (1000199))) ze))))))))))))))))))
    (zr (bin zbA (bin zbA (bin zK (bin zb4 (var 0) (zb (.int (48271)))) (bin zb4 (var 1) (zb (.int (69621))))) (bin zh (var 3) (bin zbA (var 1) (zb (.int (16)))))) (var 2))))
def zfu : MF := zV 1 15
    (zf (zl (.nm 1) (bin zdE (bin zb4 (zbM (zbQ (var 0))) (bin zh (zU (za (zb (.int (1))) (za (zb (.int (2))) (za (zb (.int (3))) ze)))) (zj zH (za (zj zcF (za (var 0) (za (zb (.int (1))) ze))) (za (zb (.int (2))) (za (zb (.int (3))) ze)))))) (zb (.int (3)))))
    (zf (zl (.nm 2) (bin zK (zb (.int (2))) (zj zH (za (zj zcF (za (var 0) (za (zb (.int (0))) ze))) (za (zb (.int (1))) (za (bin zK (zb (.int (2))) (var 1)) ze))))))
    (zf (zl (.nm 3) (bin zh (zU (za (zb (.int (0))) (za (zb (.int (0))) (za (zb (.int (2))) (za (zb (.int (3))) (za (zb (.int (12))) (za (zb (.int (1))) (za (zb (.int (1000000))) ze)))))))) (zj zH (za (zj zcF (za (var 0) (za (zb (.int (2))) ze))) (za (zb (.int (3))) (za (zb (.int (7))) ze))))))
    (zf (zl (.nm 4) (bin zh (zU (za (zb (.int (2))) (za (zb (.int (3))) (za (zb (.int (40))) (za (zb (.int (400000))) ze))))) (zj zH (za (zj zcF (za (var 0) (za (zb (.int (0))) ze))) (za (zb (.int (4))) (za (zb (.int (4))) ze))))))
    (zf (zl (.nm 5) (bin zh (zU (za (zb (.int (0))) (za (zb (.int (0))) (za (zb (.int (5))) (za (zb (.int (30))) ze))))) (zj zH (za (zj zcF (za (var 0) (za (zb (.int (1))) ze))) (za (zb (.int (5))) (za (zb (.int (4))) ze))))))
    (zf (zl (.nm 6) (zeF (bin gtV (var 2) (zb (.int (3)))) (bin eqV (zj zH (za (zj zcF (za (var 0) (za (zb (.int (2))) ze))) (za (zb (.int (8))) (za (zb (.int (4))) ze)))) (zb (.int (0))))))
    (zf (zl (.nm 7) (zN (zcB ze)))
    (zf (zdP (.nm 8) (itR (zbM (zbQ (var 0))))
    (zf (zl (.nm 9) (zj zH (za (bin zh (var 0) (var 8)) (za (bin zK (bin zbA (var 8) (zb (.int (5)))) (zb (.int (1)))) (za (var 2) ze)))))
    (zf (zl (.nm 10) (bin zbA (bin zK (bin zK (var 9) (zb (.int (1)))) (zj zH (za (bin zh (var 0) (var 8)) (za (bin zK (bin zbA (var 8) (zb (.int (7)))) (zb (.int (2)))) (za (bin z8 (var 2) (zb (.int (1)))) ze))))) (var 2)))
    (zf (ifS (tru (var 6)) (zf (zl (.nm 11) (ifE (tst (bin ltV (var 9) (bin zdE (var 2) (zb (.int (2)))))) (zb (.int (0))) (bin zdE (var 2) (zb (.int (2))))))
    (zf (zl (.nm 12) (ifE (tst (bin eqV (var 11) (zb (.int (0))))) (bin zdE (var 2) (zb (.int (2)))) (bin z8 (var 2) (var 11))))
    (zf (zl (.nm 13) (bin zK (zb (.int (1))) (zj zH (za (bin zh (var 0) (var 8)) (za (bin zK (bin zbA (var 8) (zb (.int (7)))) (zb (.int (2)))) (za (bin z8 (var 12) (zb (.int (1)))) ze))))))
    (zl (.nm 10) (bin zK (var 11) (bin zbA (bin zK (bin z8 (var 9) (var 11)) (var 13)) (var 12))))))) zw)
    (zf (zl (.nm 14) (bin z8 (zj zH (za (bin zb4 (var 10) (zb (.int (7919)))) (za (zb (.int (6))) (za (var 4) ze)))) (zj zH (za (bin zb4 (var 9) (zb (.int (7919)))) (za (zb (.int (6))) (za (var 4) ze))))))
    (zf (ifS (zb0 (tst (bin gtV (var 5) (zb (.int (0))))) (tst (bin eqV (zj zH (za (bin zh (var 0) (var 8)) (za (bin zK (bin zbA (var 8) (zb (.int (3)))) (zb (.int (9)))) (za (var 5) ze)))) (zb (.int (0)))))) (zl (.nm 14) (bin zK (var 14) (zb (.int (1))))) zw)
    (zf (ifS (zb0 (tst (bin gtV (var 3) (zb (.int (0))))) (zb0 (tst (bin eqV (zj zH (za (bin zh (var 0) (var 8)) (za (zb (.int (12))) (za (zb (.int (3))) ze)))) (zb (.int (0))))) (tst (bin ltV (bin zK (zeR (var 14)) (var 3)) (zb (.int (1000000))))))) (zl (.nm 14) (bin z8 (var 14) (var 3))) zw)
    (z4 (zbj (var 7) (zU (za (var 9) (za (var 10) (za (var 14) ze)))))))))))))
    (zr (zU (za (var 2) (za (var 7) (za (var 3) ze)))))))))))))
def zeK : MF := zV 2 2
    (zr (ifE (tst (bin eqV (var 1) (zb (.int (0))))) (bin eqV (var 0) (zb (.int (0)))) (bin eqV (bin zbA (var 0) (var 1)) (zb (.int (0))))))
def zf5 : MF := zV 3 9
    (zf (zit [3, 4] (za (zN (zcB (za (var 1) ze))) (za (zb (.int (0))) ze)))
    (zf (zdP (.nm 5) (itL (var 2))
    (zf (ifS (orT (zbg (tru (zcb .tuple (var 5)))) (tst (bin neV (zbM (zbQ (var 5))) (zb (.int (2)))))) (zr (zU (za (zN (zcB ze)) (za (zb (.int (0))) ze)))) zw)
    (zf (zl (.tp [6, 7]) (var 5))
    (zf (ifS (orT (tru (zcb .bool (var 6))) (orT (zbg (tru (zcb .int (var 6)))) (orT (zbg (tst (zeW leV ltV (zb (.int (0))) (var 6) (zbM (zbQ (var 0)))))) (tst (bin zcC (var 7) (zU (za (zb (.int (1))) (za (un zcc (zb (.int (1)))) ze)))))))) (zr (zU (za (zN (zcB ze)) (za (zb (.int (0))) ze)))) zw)
    (zf (zl (.nm 8) (ifE (tst (bin eqV (var 7) (zb (.int (1))))) (zhV (bin zh (var 0) (var 6)) noP (zcH (zb (.int (2))))) (zhY (bin zh (var 0) (var 6)))))
    (zf (ifS (tst (bin neV (bin zh (var 3) (un zcc (zb (.int (1))))) (bin zh (var 8) (zb (.int (0)))))) (zr (zU (za (zN (zcB ze)) (za (zb (.int (0))) ze)))) zw)
    (zf (z4 (zbj (var 3) (bin zh (var 8) (zb (.int (1))))))
    (zl (.nm 4) (bin zK (var 4) (bin zb4 (var 7) (bin zh (bin zh (var 0) (var 6)) (zb (.int (2))))))))))))))
    (zr (zU (za (var 3) (za (var 4) ze))))))
def zf6 : MF := zV 1 1
    (zf (ifS (zbg (tru (zcb .list (var 0)))) (zr (zb (.bl false))) zw)
    (zr (un zgt (zh5 (zb9 [none] (.nm 0) (itL (var 0)) zbL (orV (zcb .bool (var 0)) (un zgt (zcb .int (var 0)))))))))
def zf7 : MF := zV 2 4
    (zf (zl (.tp [2, 3]) (bin zh (var 1) (zb (.int (0)))))
    (zf (ifS (zbg (tst (zeW leV ltV (zb (.int (0))) (var 2) (zbM (zbQ (var 0)))))) (zr (un zcc (zb (.int (1))))) zw)
    (zr (ifE (tst (bin eqV (var 3) (zb (.int (1))))) (bin zh (bin zh (var 0) (var 2)) (zb (.int (0)))) (bin zh (bin zh (var 0) (var 2)) (zb (.int (1))))))))
def zb1 : MF := zV 4 6
    (zf (ifS (tru (zcj zW 2 (var 3))) (zf (ifS (tst (bin neV (zbM (zbQ (fld 3 (var 3)))) (var 0))) (zr (zb (.bl false))) zw)
    (zr (zgX (zb9 [none, none, none, some 2, some 3] (.tp [0, 1, 2]) (itL (var 1)) zbL (zj zeK (za (bin z8 (bin z8 (bin zh (fld 3 (var 4)) (var 1)) (bin zh (fld 3 (var 4)) (var 0))) (var 2)) (za (var 3) ze))))))) zw)
    (zf (ifS (tst (bin ltV (zbM (zbQ (fld 4 (var 3)))) (zb (.int (2))))) (zr (zb (.bl false))) zw)
    (zf (zl (.tp [4, 5]) (zj zf5 (za (var 1) (za (zj zf7 (za (var 1) (za (fld 4 (var 3)) ze))) (za (fld 4 (var 3)) ze)))))
    (zf (ifS (orT (tst (bin eqV (var 4) (zN (zcB ze)))) (orT (tst (bin neV (bin zh (var 4) (zb (.int (0)))) (bin zh (var 4) (un zcc (zb (.int (1))))))) (orT (tst (bin neV (zgY (zes (var 4))) (bin z8 (zbM (zbQ (var 4))) (zb (.int (1)))))) (tru (zj zeK (za (var 5) (za (var 2) ze))))))) (zr (zb (.bl false))) zw)
    (zr (bin eqV (zgY (zb9 [none, none] (.tp [0, 1]) (itL (fld 4 (var 3))) zbL (var 0))) (zbM (zbQ (fld 4 (var 3))))))))))
def zcT : MF := zV 4 5
    (zf (ifS (orT (zbg (tru (zcj zW 1 (var 3)))) (tst (bin eqV (zcj zW 2 (var 3)) (zcj zW 3 (var 3))))) (zr (zb (.bl false))) zw)
    (zf (zl (.nm 4) (zN (zcB (za (zcj zW 7 (var 3)) (za (zcj zW 8 (var 3)) (za (zcj zW 9 (var 3)) (za (zcj zW 10 (var 3)) ze)))))))
    (zf (ifS (orT (tru (zh5 (zes (var 4)))) (orT (tru (zcj zW 5 (var 3))) (orT (tru (zcj zW 4 (var 3))) (tru (zcj zW 6 (var 3)))))) (zr (zb (.bl false))) zw)
    (zf (ifS (zb0 (tru (zcj zW 2 (var 3))) (zbg (tru (zj zf6 (za (fld 3 (var 3)) ze))))) (zr (zb (.bl false))) zw)
    (zr (zj zb1 (za (var 0) (za (var 1) (za (var 2) (za (var 3) ze))))))))))
def zbO : List (Nat × MF) := [(2, zhi), (3, zhk)]
def zhl : MF := zV 1 9
    (zf (zl (.tp [1, 2, 3]) (zj zfu (za (var 0) ze)))
    (zf (zl (.nm 4) (zN (zes (var 2))))
    (zf (zl (.nm 5) (zj (mkF 0 zdI) (za (var 1) (za (var 4) (za (var 3) ze)))))
    (zf (z4 (zbj (var 4) (zU (za (zb (.int (0))) (za (zb (.int (0))) (za (zb (.int (0))) ze))))))
    (zf (ifS (orT (tst (bin neV (zU (za (fld 0 (var 5)) (za (fld 1 (var 5)) ze))) (zU (za (var 1) (za (var 3) ze))))) (tst (bin neV (zM z7 (var 5) ze) (var 2)))) (zr (zb (.bl false))) zw)
    (zf (z4 (zhK (zM z7 (var 5) ze)))
    (zf (zdP (.nm 6) (itR (zb (.int (2))))
    (zf (zl (.nm 7) (zj zdJ (za (var 5) ze)))
    (zf (ifS (orT (zbg (tru (zj zcT (za (var 1) (za (var 2) (za (var 3) (za (var 7) ze))))))) (tst (bin zcd (zM zbO (var 7) (za (var 5) ze)) (zb (.bl true))))) (zr (zb (.bl false))) zw)
    (zf (zl (.nm 8) (zN (zb9 [none, none, none] (.tp [0, 1, 2]) (itL (var 2)) zbL (zU (za (var 1) (za (var 0) (za (un zcc (var 2)) ze)))))))
    (zf (ifS (tst (bin neV (zM zbO (var 7) (za (zj zdj (za (var 5) ze)) ze)) (zj zb1 (za (var 1) (za (var 8) (za (var 3) (za (var 7) ze))))))) (zr (zb (.bl false))) zw)
    (zf (ifS (tst (bin neV (zM zbO (var 7) (za (zj (mkF 0 zdI) (za (var 1) (za (zN (zc5 (var 2) (zcH (zb (.int (1)))) noP)) (za (var 3) ze)))) ze)) (zj zb1 (za (var 1) (za (zN (zc5 (var 2) (zcH (zb (.int (1)))) noP)) (za (var 3) (za (var 7) ze))))))) (zr (zb (.bl false))) zw)
    (zf (ifS (tru (zcj zW 2 (var 7))) (z4 (zbj (fld 3 (var 7)) (zb (.int (0))))) (z4 (zbj (fld 4 (var 7)) (bin zh (fld 4 (var 7)) (zb (.int (0)))))))
    (ifS (tst (bin zcd (zM zbO (var 7) (za (var 5) ze)) (zb (.bl false)))) (zr (zb (.bl false))) zw))))))))
    (zr (bin eqV (zM z7 (var 5) ze) (var 2))))))))))
end My
end
section
open PySem MI
namespace Mx
open My
structure T3 where
  a : Int
  b : Int
  n : Int
def tD (t : T3) : D := .tup [.int t.a, .int t.b, .int t.n]
@[simp] theorem zHh (t : T3) (e : zA) (h : MH) : zh (tD t) (.int 0) e h = .ok (.int t.a) h := rfl
@[simp] theorem zHj (t : T3) (e : zA) (h : MH) : zh (tD t) (.int 1) e h = .ok (.int t.b) h := rfl
@[simp] theorem zHB (t : T3) (e : zA) (h : MH) : zh (tD t) (.int 2) e h = .ok (.int t.n) h := rfl
theorem zY (n : Nat) (i : Int) (e : zA) (h : MH) : zh (.obj n) (.int i) e h = match h[n]? with
    | some (.lst xs) => (match MI.atI xs i with
      | some d => .ok d h
      | none => .bad)
    | some (.scr xs) => (match MI.atI xs i with
      | some d => .ok d h
      | none => .bad)
    | some (.dic kvs) => (match look i kvs with
      | some d => .ok d h
      | none => .bad)
    | _ => .bad := rfl
theorem zBB (t : T3) : (tD t).nr = true := rfl
theorem zhg {α : Type} (f : α -> D) (hf : ∀ a, (f a).nr = true) : ∀ l : List α, nrs (l.map f) = true
  | [] => rfl
  | a :: l => by simp [nrs, hf a, zhg f hf l]
theorem zhc (l : List T3) : nrs (l.map tD) = true := zhg _ zBB l
structure T3.Ok (P : Int) (t : T3) : Prop where
  a0 : 0 <= t.a
  a1 : t.a < P
  b0 : 0 <= t.b
  b1 : t.b < P
  ne : t.a ≠ t.b
  n0 : -1000000 <= t.n
  n1 : t.n <= 1000000
@[simp] theorem zf8 (i : Int) (h : MH) : app zdT [.int i] h = .ok (.bl true) h := by
  unfold app zdT; simp [zbJ]
@[simp] theorem zf9 (i a b : Int) (h : MH) : app zc9 [.int i, .int a, .int b] h = .ok (.bl (decide (a <= i) && decide (i <= b))) h := by
  unfold app zc9; simp
  by_cases h1 : a <= i <;> simp [h1]
@[simp] theorem zga (p i : Int) (h : MH) : app zey [.int p, .int i] h = .ok (.bl (decide (0 <= i) && decide (i < p))) h := by
  have : (i <= p - 1) ↔ i < p := by omega
  unfold app zey; simp [this]
@[simp] theorem zgb (p : Int) (t : T3) (ht : t.Ok p) (h : MH) : app zfV [.int p, tD t] h = .ok (.bl true) h := by
  unfold app zfV; simp [zbJ, tD, zh, ht.a0, ht.a1, ht.b0, ht.b1, ht.ne, ht.n0, ht.n1]
@[simp] theorem zfv (p : Int) (t : T3) (ht : t.Ok p) (h : MH) : app zfs [.int p, tD t] h = .ok (tD t) h := by
  unfold app zfs; simp [ht]
  simp [tD, zh]
  exact ziP h (by rfl)
theorem zpV {α : Type} {t : Tg} {gs : List (Nat × O)} {cond : ME Bool} {elt : ME D} {h : MH} (f g : α -> D) (c : α -> Bool) (I : zA -> Prop) (hg : guard gs h = true) :
    ∀ (xs : List α), (∀ x ∈ xs, ∀ e, I e -> ∃ e1, zdS t (f x) e = some e1 ∧ I e1 ∧ cond e1 h = .ok (c x) h ∧ (c x = true -> elt e1 h = .ok (g x) h)) ->
    ∀ acc e, I e -> zbW t gs cond elt (xs.map f) acc e h = .ok (acc ++ (xs.filter c).map g) h
  | [], _, acc, e, _ => by simp [zbW, hg]
  | x :: xs, st, acc, e, he => by
    obtain ⟨e1, h1, h2, h3, h4⟩ := st x (by simp) e he
    have ih := zpV f g c I hg xs (fun y hy => st y (by simp [hy]))
    rw [List.map_cons, zbW, if_pos hg, h1]
    cases hc : c x with
    | true => simp [h3, h4 hc, hc, ih _ _ h2]
    | false => simp [h3, hc, ih _ _ h2]
theorem zeG {α : Type} {t : Tg} {gs : List (Nat × O)} {elt : ME D} {h : MH} (f g : α -> D) (I : zA -> Prop) (hg : guard gs h = true)
    (xs : List α) (st : ∀ x ∈ xs, ∀ e, I e -> ∃ e1, zdS t (f x) e = some e1 ∧ I e1 ∧ elt e1 h = .ok (g x) h) (e : zA) (he : I e) :
    zbW t gs zbL elt (xs.map f) [] e h = .ok (xs.map g) h := by
  have := zpV f g (fun _ => true) I hg xs (fun x hx e he => by obtain ⟨e1, a, b, c⟩ := st x hx e he; exact ⟨e1, a, b, rfl, fun _ => c⟩) [] e he
  rw [List.filter_eq_self.2 (fun _ _ => rfl), List.nil_append] at this
  exact this
theorem zco {h : MH} {n : Nat} {o : O} (e : h[n]? = some o) : guard [(n, o)] h = true := by simp [MI.guard, e]
theorem zhH {α : Type} {t : Tg} {gs : List (Nat × O)} {body : MS} (f : α -> D) (I : List α -> zA -> MH -> Prop) (Q : D -> MH -> Prop) :
    ∀ (rest done : List α), (∀ d x r e h, d ++ x :: r = done ++ rest -> I d e h -> guard gs h = true ∧ ∃ e1, zdS t (f x) e = some e1 ∧
        ((∃ e2 h2, body e1 h = .nx e2 h2 ∧ I (d ++ [x]) e2 h2) ∨ (∃ v h2, body e1 h = .rt v h2 ∧ Q v h2))) ->
      (∀ e h, I (done ++ rest) e h -> guard gs h = true) -> ∀ e h, I done e h ->
      (∃ e2 h2, zde t gs body (rest.map f) e h = .nx e2 h2 ∧ I (done ++ rest) e2 h2) ∨ (∃ v h2, zde t gs body (rest.map f) e h = .rt v h2 ∧ Q v h2)
  | [], done, _, hl, e, h, hi => by
    refine .inl ⟨e, h, ?_, by simpa using hi⟩
    simp only [List.map_nil, zde]
    rw [if_pos (hl e h (by simpa using hi))]
  | x :: rest, done, st, hl, e, h, hi => by
    obtain ⟨hg, e1, hb, hr⟩ := st done x rest e h rfl hi
    simp only [List.map_cons, zde]
    rw [if_pos hg, hb]
    dsimp only
    rcases hr with ⟨e2, h2, hb2, hi2⟩ | ⟨v, h2, hb2, hq⟩
    . rw [hb2, zEn]
      have ih := zhH f I Q rest (done ++ [x]) (fun d y r e h eq => st d y r e h (by simpa using eq)) (fun e h hi => hl e h (by simpa using hi)) e2 h2 hi2
      simpa using ih
    . rw [hb2]
      exact .inr ⟨v, h2, rfl, hq⟩
theorem zg6 {α : Type} {t : Tg} {gs : List (Nat × O)} {body : MS} (f : α -> D) (I : List α -> zA -> MH -> Prop) (xs : List α)
    (st : ∀ d x r e h, d ++ x :: r = xs -> I d e h -> guard gs h = true ∧ ∃ e1, zdS t (f x) e = some e1 ∧ (∃ e2 h2, body e1 h = .nx e2 h2 ∧ I (d ++ [x]) e2 h2))
    (hl : ∀ e h, I xs e h -> guard gs h = true) (e : zA) (h : MH) (hi : I [] e h) : ∃ e2 h2, zde t gs body (xs.map f) e h = .nx e2 h2 ∧ I xs e2 h2 := by
  have := zhH (t := t) (gs := gs) (body := body) f I (fun _ _ => False) xs [] (fun d x r e h eq hi => by
    obtain ⟨a, e1, b, c⟩ := st d x r e h (by simpa using eq) hi
    exact ⟨a, e1, b, .inl c⟩) (fun e h hi => hl e h (by simpa using hi)) e h hi
  rcases this with h1 | ⟨_, _, _, h2⟩
  . simpa using h1
  . exact h2.elim
theorem zs6 {t : ME Bool} {body : MS} (I : Nat -> zA -> MH -> Prop) (J : zA -> MH -> Prop)
    (st : ∀ k e h, I k e h -> (t e h = .ok false h ∧ J e h) ∨ (t e h = .ok true h ∧ ∃ k' e2 h2, k' < k ∧ body e h = .nx e2 h2 ∧ I k' e2 h2)) :
    ∀ n k e h, k < n -> I k e h -> ∃ e2 h2, zfI t body n e h = .nx e2 h2 ∧ J e2 h2
  | 0, k, e, h, hk, _ => absurd hk (by omega)
  | n + 1, k, e, h, hk, hi => by
    rw [zfI, ze5]
    rcases st k e h hi with ⟨ht, hj⟩ | ⟨ht, k', e2, h2, hk', hb, hi2⟩
    . exact ⟨e, h, by simp [ht], hj⟩
    . obtain ⟨e3, h3, hw, hj⟩ := zs6 I J st n k' e2 h2 (by omega) hi2
      exact ⟨e3, h3, by simp [ht, hb, hw], hj⟩
@[simp] theorem lk1 (a b c : D) : List.lookup 1 [(0, a), (1, b), (2, c)] = some b := rfl
@[simp] theorem lk2 (a b c : D) : List.lookup 2 [(0, a), (1, b), (2, c)] = some c := rfl
theorem ztU (h g : MH) {xs : List D} (f : nrs xs = true) : gc h (.ok (.obj h.length) (h ++ .lst xs :: g)) = .ok (.obj h.length) (h ++ [.lst xs]) := zsg (o := .lst xs) h g f
theorem zhZ (h g : MH) {k : Nat} {xs : List D} (e : g[k]? = some (.lst xs)) (f : nrs xs = true) : gc h (.ok (.obj (h.length + k)) (h ++ g)) = .ok (.obj h.length) (h ++ [.lst xs]) := zpF (o := .lst xs) h g e f
structure zbU (h : MH) (w t : Nat) (P turn : Int) (ts : List T3) : Prop where
  w : h[w]? = some (.ins 0 [(0, .int P), (1, .int turn), (2, .obj t)])
  t : h[t]? = some (.lst (ts.map tD))
theorem zbU.app {h : MH} {w t : Nat} {P turn : Int} {ts : List T3} (W : zbU h w t P turn ts) (g : MH) : zbU (h ++ g) w t P turn ts := ⟨zp W.w g, zp W.t g⟩
theorem zbU.wA {h : MH} {w t : Nat} {P turn : Int} {ts : List T3} (W : zbU h w t P turn ts) (g : MH) : (h ++ g)[w]? = some (.ins 0 [(0, .int P), (1, .int turn), (2, .obj t)]) := zp W.w g
theorem zbU.tA {h : MH} {w t : Nat} {P turn : Int} {ts : List T3} (W : zbU h w t P turn ts) (g : MH) : (h ++ g)[t]? = some (.lst (ts.map tD)) := zp W.t g
theorem zqb {h : MH} {n : Nat} {P turn : Int} {ts : List T3} (hn : h[n]? = some (.lst (ts.map tD))) (hP : 1 <= P) (hP' : P <= 1000000) (ht : 0 <= turn) (ht' : turn <= 1000000) (hl : ts.length <= 1000000) (hts : ∀ t ∈ ts, t.Ok P) :
    app (mkF 0 zdI) [.int P, .obj n, .int turn] h = .ok (.obj h.length) (h ++ [.ins 0 [(0, .int P), (1, .int turn), (2, .obj (h.length + 1))], .lst (ts.map tD)]) := by
  have c : ∀ g e, (∃ d, e = [d, some (.int P)]) -> zbW (.nm 0) [(n, .lst (ts.map tD))] zbL (zj zfs (za (var 1) (za (var 0) ze))) (ts.map tD) [] e (h ++ g) = .ok (ts.map tD) (h ++ g) := by
    intro g e he
    refine zeG tD tD (fun e => ∃ d, e = [d, some (.int P)]) (zco (zp hn g)) ts ?_ e he
    rintro t ht _ ⟨d, rfl⟩
    exact ⟨_, rfl, ⟨_, rfl⟩, by simp [zfv P t (hts t ht)]⟩
  unfold app mkF zdI
  simp [hP, hP', ht, ht', zbJ, zp hn, zfp, zfj, zbT, c, hl]
  simp only [gc]
  rw [if_pos (zer _ _)]
  have q : ¬ h.length + 1 < h.length := by omega
  simp [gcV, nrs, zct, O.flat, zhc, D.nr, q]
theorem ztL {h : MH} {P turn : Int} {ts : List T3} : zbU (h ++ [.ins 0 [(0, .int P), (1, .int turn), (2, .obj (h.length + 1))], .lst (ts.map tD)]) h.length (h.length + 1) P turn ts := ⟨by simp, by simp⟩
section
variable {h : MH} {w t : Nat} {P turn : Int} {ts : List T3}
theorem zbR (W : zbU h w t P turn ts) : app zh9 [.obj w] h = .ok (.obj h.length) (h ++ [.lst (ts.map tD)]) := by
  unfold app zh9
  simp [W.w, W.t]
  exact ztU h [] (zhc _)
@[simp] theorem zgc (t : T3) (h : MH) : app zeH [tD t] h = .ok (tD ⟨t.b, t.a, -t.n⟩) h := by
  unfold app zeH
  simp [tD, zh]
  exact ziP h (by rfl)
def tn (t : T3) : T3 := ⟨t.b, t.a, -t.n⟩
theorem zpG {t : T3} (ht : t.Ok P) : (tn t).Ok P := ⟨ht.b0, ht.b1, ht.a0, ht.a1, fun e => ht.ne e.symm, by have := ht.n1; simp [tn]; omega, by have := ht.n0; simp [tn]; omega⟩
theorem zBI (h : MH) (g : MH) (P turn : Int) {k : Nat} (ts : List T3) (hk : g[k]? = some (.ins 0 [(0, .int P), (1, .int turn), (2, .obj (h.length + k + 1))])) (hk1 : g[k + 1]? = some (.lst (ts.map tD))) :
    gc h (.ok (.obj (h.length + k)) (h ++ g)) = .ok (.obj h.length) (h ++ [.ins 0 [(0, .int P), (1, .int turn), (2, .obj (h.length + 1))], .lst (ts.map tD)]) := by
  simp only [gc]
  rw [if_pos (zer _ _)]
  have q : ¬ h.length + k < h.length := by omega
  have q1 : ¬ h.length + k + 1 < h.length := by omega
  have e1 : (h ++ g)[h.length + k + 1]? = some (.lst (ts.map tD)) := by rw [Nat.add_assoc, zg9]; exact hk1
  simp [gcV, q, hk, zct, q1, e1, D.nr, O.flat, zhc]
theorem ze8 (W : zbU h w t P turn ts) (hP : 1 <= P) (hP' : P <= 1000000) (ht : 0 <= turn) (ht' : turn <= 1000000) (hl : ts.length <= 1000000) (hts : ∀ t ∈ ts, t.Ok P) :
    app zdj [.obj w] h = .ok (.obj h.length) (h ++ [.ins 0 [(0, .int P), (1, .int turn), (2, .obj (h.length + 1))], .lst ((ts.map tn).map tD)]) := by
  have c : ∀ e, (∃ d, e = [d]) -> zbW (.nm 0) [(h.length, .lst (ts.map tD))] zbL (zj zeH (za (var 0) ze)) (ts.map tD) [] e (h ++ [.lst (ts.map tD)]) = .ok (ts.map fun t => tD (tn t)) (h ++ [.lst (ts.map tD)]) := by
    intro e he
    refine zeG tD (fun t => tD (tn t)) (fun e => ∃ d, e = [d]) (zco (by simp)) ts ?_ e he
    rintro t ht _ ⟨d, rfl⟩
    exact ⟨_, rfl, ⟨_, rfl⟩, by simp; rfl⟩
  unfold app zdj
  have c2 := zqb (h := h ++ [.lst (ts.map tD), .lst ((ts.map tn).map tD)]) (n := h.length + 1) (P := P) (turn := turn) (ts := ts.map tn) (by simp) hP hP' ht ht' (by simpa using hl) (by
    intro t hm
    obtain ⟨t', h1, rfl⟩ := List.mem_map.1 hm
    exact zpG (hts t' h1))
  simp [W.w, z7, zbR W, zbT, c, hl, W.wA]
  simp at c2
  have e0 : tD ∘ tn = fun t => tD (tn t) := rfl
  rw [<- e0, c2]
  simp
  have := zBI h [.lst (ts.map tD), .lst ((ts.map tn).map tD), .ins 0 [(0, .int P), (1, .int turn), (2, .obj (h.length + 2 + 1))], .lst ((ts.map tn).map tD)] P turn (k := 2) (ts.map tn) rfl rfl
  simpa using this
end
end Mx
end
section
open PySem MI
namespace Mx
open My
theorem zfR {α : Type} [DecidableEq α] : ∀ (l m : List α), l.Nodup -> (∀ x ∈ l, x ∈ m) -> l.length <= m.length
  | [], m, _, _ => by simp
  | x :: l, m, hn, hs => by
    have h1 := List.nodup_cons.1 hn
    have := zfR l (m.erase x) h1.2 (fun y hy => (List.mem_erase_of_ne (fun (e : y = x) => h1.1 (e ▸ hy))).2 (hs y (by simp [hy])))
    rw [List.length_erase_of_mem (hs x (by simp))] at this
    have : 0 < m.length := List.length_pos_of_mem (hs x (by simp))
    simp; omega
theorem zi7 : ∀ (l seen : List Int) (x : Int), x ∈ zbV seen l ↔ x ∈ l ∧ x ∉ seen
  | [], seen, x => by simp [zbV]
  | y :: l, seen, x => by
    unfold zbV
    by_cases hy : y ∈ seen
    . rw [if_pos hy, zi7 l seen x]
      constructor
      . rintro ⟨a, b⟩; exact ⟨by simp [a], b⟩
      . rintro ⟨a, b⟩
        rcases List.mem_cons.1 a with e | e
        . exact absurd (e ▸ hy) b
        . exact ⟨e, b⟩
    . rw [if_neg hy, List.mem_cons, zi7 l (y :: seen) x]
      constructor
      . rintro (e | ⟨a, b⟩)
        . exact ⟨by simp [e], e ▸ hy⟩
        . exact ⟨by simp [a], fun c => b (by simp [c])⟩
      . rintro ⟨a, b⟩
        by_cases e : x = y
        . exact .inl e
        . refine .inr ⟨?_, ?_⟩
          . rcases List.mem_cons.1 a with e' | e'
            . exact absurd e' e
            . exact e'
          . intro c
            rcases List.mem_cons.1 c with e' | e'
            . exact e e'
            . exact b e'
theorem zgl : ∀ (l seen : List Int), (zbV seen l).Nodup
  | [], seen => by simp [zbV]
  | y :: l, seen => by
    unfold zbV
    by_cases hy : y ∈ seen
    . rw [if_pos hy]; exact zgl l seen
    . rw [if_neg hy]
      exact List.nodup_cons.2 ⟨fun c => ((zi7 l (y :: seen) y).1 c).2 (by simp), zgl l (y :: seen)⟩
def zdi (l : List Int) : Nat := (zbV [] l).length
theorem zeC {l : List Int} {x : Int} : x ∈ zbV [] l ↔ x ∈ l := by simp [zi7]
theorem zDl {l m : List Int} (h : ∀ x, x ∈ l ↔ x ∈ m) : zdi l = zdi m :=
  Nat.le_antisymm (zfR _ _ (zgl _ _) fun x hx => zeC.2 ((h x).1 (zeC.1 hx))) (zfR _ _ (zgl _ _) fun x hx => zeC.2 ((h x).2 (zeC.1 hx)))
theorem zDz (l : List Int) : zdi l <= l.length := zfR _ _ (zgl _ _) fun x hx => zeC.1 hx
theorem zs9 {l : List Int} {x : Int} (h : x ∈ l) : zdi (x :: l) = zdi l := zDl fun y => by
  constructor
  . intro hy
    rcases List.mem_cons.1 hy with e | e
    . exact e ▸ h
    . exact e
  . intro hy; simp [hy]
theorem zD8 {l : List Int} {x : Int} (h : x ∉ l) : zdi (x :: l) = zdi l + 1 := by
  apply Nat.le_antisymm
  . have := zfR (zbV [] (x :: l)) (x :: zbV [] l) (zgl _ _) (fun y hy => by
      rcases List.mem_cons.1 (zeC.1 hy) with e | e
      . simp [e]
      . exact List.mem_cons_of_mem _ (zeC.2 e))
    simpa [zdi] using this
  . have := zfR (x :: zbV [] l) (zbV [] (x :: l)) (List.nodup_cons.2 ⟨fun c => h (zeC.1 c), zgl _ _⟩) (fun y hy => by
      rcases List.mem_cons.1 hy with e | e
      . exact zeC.2 (by simp [e])
      . exact zeC.2 (by simp [zeC.1 e]))
    simpa [zdi] using this
theorem ziL : ∀ l : List Int, zdi l = l.length ↔ l.Nodup
  | [] => by simp [zdi, zbV]
  | x :: l => by
    rw [List.nodup_cons]
    by_cases h : x ∈ l
    . rw [zs9 h]
      have := zDz l
      simp [h]; omega
    . rw [zD8 h, <- ziL l]
      simp [h]
theorem zhf : ∀ l : List Int, zcu (l.map D.int) = some l
  | [] => rfl
  | x :: l => by simp [zcu, zhf l]
theorem zh2 : ∀ l : List Bool, zcl (l.map D.bl) = some l
  | [] => rfl
  | x :: l => by simp [zcl, zh2 l]
structure St where
  k : Nat
  f : Bool
def wy (b : Bool) : Int := if b = true then 1 else -1
def sD (s : St) : D := .tup [.int s.k, .int (wy s.f)]
@[simp] theorem zG0 (t : St) (e : zA) (h : MH) : zh (sD t) (.int 0) e h = .ok (.int t.k) h := rfl
@[simp] theorem zGB (t : St) (e : zA) (h : MH) : zh (sD t) (.int 1) e h = .ok (.int (wy t.f)) h := rfl
theorem zCg (s : St) : (sD s).nr = true := rfl
theorem ziQ (l : List St) : nrs (l.map sD) = true := zhg _ zCg l
def zbf (f : Bool) (t : T3) : T3 := if f = true then t else tn t
def zL (ts : List T3) (s : St) : Option T3 := (ts[s.k]?).map (zbf s.f)
theorem zh6 {P : Int} {ts : List T3} (hts : ∀ t ∈ ts, t.Ok P) {s : St} {t : T3} (e : zL ts s = some t) : t.Ok P := by
  unfold zL at e
  cases h : ts[s.k]? with
  | none => rw [h] at e; cases e
  | some t0 =>
    rw [h] at e
    have := hts t0 (List.mem_of_getElem? h)
    simp at e
    subst e
    unfold zbf
    split
    . exact this
    . exact zpG this
theorem ze9 {h : MH} {l : Nat} {xs : List D} (hl : h[l]? = some (.lst xs)) (i : Int) : app zfW [.obj l, .int i] h = .ok (.bl (decide (0 <= i) && decide (i < xs.length))) h := by
  unfold app zfW
  have : (i <= (xs.length : Int) - 1) ↔ i < xs.length := by omega
  simp [hl, this]
theorem zhu (a b : Int) : peq (.int a) (.int b) = (a == b) := by rw [peq]
theorem zt8 (f : Bool) (e : zA) (h : MH) : inV (.int (wy f)) (.tup [.int 1, .int (-1)]) e h = .ok (.bl true) h := by
  simp only [inV, inB, List.any_cons, List.any_nil, zhu]
  cases f <;> rfl
theorem zfa {h : MH} {l : Nat} {xs : List D} (hl : h[l]? = some (.lst xs)) (s : St) : app zeI [.obj l, sD s] h = .ok (.bl (decide (s.k < xs.length))) h := by
  unfold app zeI
  have e1 : (0 : Int) <= s.k := by omega
  have e2 : ((s.k : Int) < xs.length) ↔ s.k < xs.length := by omega
  by_cases hk : s.k < xs.length
  . simp [sD, zbJ, zh, ze9 hl, e1, e2, hk, zt8]
  . simp [sD, zbJ, zh, ze9 hl, e1, e2, hk]
theorem zdU {h : MH} {l : Nat} {ts : List T3} (hl : h[l]? = some (.lst (ts.map tD))) {s : St} {t : T3} (ht : zL ts s = some t) : app zci [.obj l, sD s] h = .ok (tD t) h := by
  unfold app zci
  unfold zL at ht
  cases hk : ts[s.k]? with
  | none => rw [hk] at ht; cases ht
  | some t0 =>
    have hlt := (List.getElem?_eq_some_iff.1 hk).1
    rw [hk] at ht
    simp at ht
    subst ht
    have e1 : MI.atI (ts.map tD) (s.k : Int) = some (tD t0) := by
      rw [zfO (by simpa using hlt)]
      have := (List.getElem?_eq_some_iff.1 hk).2
      simp [this]
    cases hf : s.f
    . simp [sD, zh, hl, e1, wy, hf, zbf]
      exact ziP h (by rfl)
    . simp [sD, zh, hl, e1, wy, hf, zbf]
      exact ziP h (by rfl)
def z5 (ts : List T3) : Int -> List St -> Option (List T3)
  | _, [] => some []
  | here, s :: r => match zL ts s with
    | none => none
    | some t => if t.a = here then (z5 ts t.b r).map (t :: ·) else none
theorem zET {P : Int} {ts : List T3} (hts : ∀ t ∈ ts, t.Ok P) : ∀ (S : List St) (here : Int) (g : List T3), z5 ts here S = some g -> ∀ t ∈ g, t.Ok P
  | [], _, g, e => by simp [z5] at e; subst e; simp
  | s :: r, here, g, e => by
    unfold z5 at e
    cases hl : zL ts s with
    | none => simp [hl] at e
    | some t =>
      simp only [hl] at e
      by_cases ha : t.a = here
      . rw [if_pos ha] at e
        cases hr : z5 ts t.b r with
        | none => simp [hr] at e
        | some g' =>
          simp [hr] at e
          subst e
          intro x hx
          rcases List.mem_cons.1 hx with rfl | hx
          . exact zh6 hts hl
          . exact zET hts r _ _ hr x hx
      . simp [ha] at e
theorem zh0 {ts : List T3} : ∀ (S : List St) (here : Int) (g : List T3), z5 ts here S = some g -> g.length = S.length
  | [], _, g, e => by simp [z5] at e; subst e; simp
  | s :: r, here, g, e => by
    unfold z5 at e
    cases hl : zL ts s with
    | none => simp [hl] at e
    | some t =>
      simp only [hl] at e
      by_cases ha : t.a = here
      . rw [if_pos ha] at e
        cases hr : z5 ts t.b r with
        | none => simp [hr] at e
        | some g' =>
          simp [hr] at e
          subst e
          simp [zh0 r _ _ hr]
      . simp [ha] at e
def fin (a : Int) (g : List T3) : Int := match g.getLast? with
  | none => a
  | some t => t.b
@[simp] theorem zF5 (a : Int) : fin a [] = a := rfl
@[simp] theorem zGq (a : Int) (g : List T3) (t : T3) : fin a (g ++ [t]) = t.b := by simp [fin]
@[simp] theorem zGn (a : Int) (t : T3) (g : List T3) : fin a (t :: g) = fin t.b g := by
  unfold fin
  cases g with
  | nil => rfl
  | cons x g => simp [List.getLast?_cons_cons, List.getLast?_cons]
theorem zpS {ts : List T3} : ∀ (S R : List St) (a : Int), z5 ts a (S ++ R) = match z5 ts a S with
    | none => none
    | some g => (z5 ts (fin a g) R).map (g ++ ·)
  | [], R, a => by simp [z5]
  | s :: S, R, a => by
    simp only [List.cons_append, z5]
    cases zL ts s with
    | none => rfl
    | some t =>
      simp only
      by_cases ha : t.a = a
      . simp only [if_pos ha]
        rw [zpS S R t.b]
        cases z5 ts t.b S with
        | none => rfl
        | some g => simp [Function.comp_def]
      . simp [if_neg ha]
theorem zpu {ts : List T3} {S : List St} {a : Int} {g : List T3} (e : z5 ts a S = some g) {s : St} {t : T3} (hl : zL ts s = some t) (ha : t.a = fin a g) : z5 ts a (S ++ [s]) = some (g ++ [t]) := by
  rw [zpS, e]
  simp [z5, hl, ha]
theorem zi6 {ts : List T3} {S R : List St} {a : Int} {g : List T3} (e : z5 ts a S = some g) {s : St} (hl : ∀ t, zL ts s = some t -> t.a ≠ fin a g) : z5 ts a (S ++ s :: R) = none := by
  rw [zpS, e]
  simp only [z5]
  cases h : zL ts s with
  | none => rfl
  | some t => simp [hl t h]
theorem zFN {P : Int} {a : Int} (h0 : 0 <= a) (h1 : a < P) : ∀ {g : List T3}, (∀ t ∈ g, t.Ok P) -> 0 <= fin a g ∧ fin a g < P := by
  intro g hg
  unfold fin
  cases h : g.getLast? with
  | none => exact ⟨h0, h1⟩
  | some t => have := hg t (List.mem_of_getLast? h); exact ⟨this.b0, this.b1⟩
theorem zfw {h : MH} {w t l : Nat} {P turn : Int} {ts : List T3} (W : zbU h w t P turn ts) {S : List St} (hl : h[l]? = some (.lst (S.map sD))) (hS : S.length <= 900000) {a : Int} (h0 : 0 <= a) (h1 : a < P) :
    app zfX [.obj w, .int a, .obj l] h = match z5 ts a S with
      | none => .ok .non h
      | some g => .ok (.obj h.length) (h ++ [.lst (g.map tD)]) := by
  unfold app zfX
  have loop := zhH (t := .nm 6) (gs := [(l, .lst (S.map sD))]) (body := (zf (ifS (zbg (tru (zj zeI (za (var 3) (za (var 6) ze))))) (zr (zb .non)) zw)
    (zf (z4 (zbj (var 4) (zj zci (za (var 3) (za (var 6) ze)))))
    (zf (ifS (tst (bin neV (bin zh (bin zh (var 4) (un zcc (zb (.int (1))))) (zb (.int (0)))) (var 5))) (zr (zb .non)) zw)
    (zl (.nm 5) (bin zh (bin zh (var 4) (un zcc (zb (.int (1))))) (zb (.int (1))))))))) sD
    (fun d e h' => ∃ g x, e = [some (.obj w), some (.int a), some (.obj l), some (.obj h.length), some (.obj (h.length + 1)), some (.int (fin a g)), x] ∧ h' = h ++ [.lst (ts.map tD), .lst (g.map tD)] ∧ z5 ts a d = some g)
    (fun v h' => v = .non ∧ z5 ts a S = none ∧ ∃ g, h' = h ++ g) S [] (by
    rintro d s r e h' eq ⟨g, x, rfl, rfl, hg⟩
    simp only [List.nil_append] at eq
    refine ⟨zco (zp hl _), _, rfl, ?_⟩
    have hst := zfa (h := h ++ [.lst (ts.map tD), .lst (g.map tD)]) (l := h.length) (xs := ts.map tD) (by simp) s
    by_cases hk : s.k < ts.length
    . simp only [List.length_map, hk, decide_true] at hst
      have hleg : zL ts s = some (zbf s.f ts[s.k]) := by simp [zL, hk]
      generalize zbf s.f ts[s.k] = t at hleg
      have hlg := zdU (h := h ++ [.lst (ts.map tD), .lst (g.map tD)]) (l := h.length) (by simp) hleg
      have hla : MI.atI (g.map tD ++ [tD t]) (-1) = some (tD t) := ziJ _ _
      have hlt : g.length < 1000000 := by
        have := zh0 _ _ _ hg
        have := congrArg List.length eq
        simp at this; omega
      by_cases ha : t.a = fin a g
      . refine .inl ⟨_, h ++ [.lst (ts.map tD), .lst ((g ++ [t]).map tD)], ?_, g ++ [t], some (sD s), rfl, rfl, zpu hg hleg ha⟩
        simp [hst, hlg, zc4, hlt, zY, hla, ha]
      . refine .inr ⟨.non, h ++ [.lst (ts.map tD), .lst ((g ++ [t]).map tD)], ?_, rfl, ?_, _, rfl⟩
        . simp [hst, hlg, zc4, hlt, zY, hla, ha]
        . rw [<- eq]
          exact zi6 hg (fun t' e => by rw [hleg] at e; cases e; exact ha)
    . simp only [List.length_map, hk, decide_false] at hst
      refine .inr ⟨.non, h ++ [.lst (ts.map tD), .lst (g.map tD)], ?_, rfl, ?_, _, rfl⟩
      . simp [hst]
      . rw [<- eq]
        exact zi6 hg (fun t' e => by simp [zL, List.getElem?_eq_none (Nat.not_lt.1 hk)] at e))
    (by rintro e h' ⟨g, x, rfl, rfl, hg⟩; exact zco (zp hl _)) [some (.obj w), some (.int a), some (.obj l), some (.obj h.length), some (.obj (h.length + 1)), some (.int a), none] (h ++ [.lst (ts.map tD), .lst []]) ⟨[], none, rfl, rfl, rfl⟩
  rcases loop with ⟨e2, h2, hr, g, x, rfl, rfl, hg⟩ | ⟨v, h2, hr, rfl, hg, g, rfl⟩
  . simp at hg
    simp [W.w, h0, h1, zbJ, hl, z7, zbR W, zp hl, hr, hg]
    exact zhZ h _ (k := 1) rfl (zhc _)
  . simp [W.w, h0, h1, zbJ, hl, z7, zbR W, zp hl, hr, hg]
    exact zsx _ _
end Mx
end
section
open PySem MI
namespace Mx
open My
open Classical in
noncomputable def dcd (p : Prop) : Bool := decide p
theorem zpi {p : Prop} (h : p) : dcd p = true := by simp [dcd, h]
theorem zcM {p : Prop} (h : ¬ p) : dcd p = false := by simp [dcd, h]
def zcO (x y turn : Int) : Bool := if turn = 0 then decide (x = y) else decide ((x - y) % turn = 0)
theorem zdK {x y turn : Int} (ht : 0 <= turn) (h : MH) : app zdH [.int x, .int y, .int turn] h = .ok (.bl (zcO x y turn)) h := by
  unfold app zdH zcO
  by_cases h0 : turn = 0
  . simp [h0]
  . have : 0 < turn := by omega
    simp [h0, this]
theorem zhB {x turn : Int} (ht : 0 <= turn) (h : MH) : app zeK [.int x, .int turn] h = .ok (.bl (zcO x 0 turn)) h := by
  unfold app zeK zcO
  by_cases h0 : turn = 0
  . simp [h0]
  . have : 0 < turn := by omega
    simp [h0, this]
theorem zAS {x y turn : Int} : zcO (x - y) 0 turn = zcO x y turn := by
  unfold zcO
  split
  . congr 1; apply propext; omega
  . simp
theorem zEg {x y z turn : Int} (h : zcO (x - y) z turn = false) : zcO (z + (y - x)) 0 turn = false := by
  unfold zcO at *
  split
  . rename_i h0; rw [if_pos h0] at h; simp at h ⊢; omega
  . rename_i h0; rw [if_neg h0] at h
    simp at h ⊢
    intro c
    apply h
    have e : x - y - z = -(z + (y - x)) := by omega
    rw [e]
    have d := Int.dvd_of_emod_eq_zero c
    exact Int.emod_eq_zero_of_dvd ((Int.dvd_neg).2 d)
theorem zE0 {x turn : Int} : zcO x x turn = true := by unfold zcO; split <;> simp
def hAt (hs : List Int) (i : Int) : Int := hs.getD i.toNat 0
theorem zc3 {hs : List Int} {i : Int} (h0 : 0 <= i) (h1 : i < hs.length) : MI.atI (hs.map D.int) i = some (.int (hAt hs i)) := by
  obtain ⟨k, rfl⟩ : ∃ k : Nat, i = k := ⟨i.toNat, by omega⟩
  have hl : k < hs.length := by omega
  rw [zfO (by simpa using hl)]
  simp [hAt, hl]
def zcn (hs : List Int) (turn : Int) (t : T3) : Bool := zcO (hAt hs t.b - hAt hs t.a) t.n turn
theorem zh1 (l : List Int) : nrs (l.map D.int) = true := zhg _ (fun _ => rfl) l
theorem zeL {h : MH} {l : Nat} {hs : List Int} (hl : h[l]? = some (.lst (hs.map .int))) (hn : hs.length <= 1000000) (i : Int) : app zf3 [.obj l, .int i] h = .ok (.bl (decide ((hs.length : Int) = i))) h := by
  unfold app zf3
  have c := zeG (t := .nm 0) (gs := [(l, .lst (hs.map D.int))]) (elt := (zj zdT (za (var 0) ze))) (h := h) D.int (fun _ => D.bl true) (fun e => ∃ d, e = [d]) (zco hl) hs (by
    rintro x hx _ ⟨d, rfl⟩
    exact ⟨_, rfl, ⟨_, rfl⟩, by simp⟩) [none] ⟨_, rfl⟩
  have b : zcl (hs.map fun _ => D.bl true) = some (hs.map fun _ => true) := by have := zh2 (hs.map fun _ => true); rwa [List.map_map] at this
  by_cases hi : (hs.length : Int) = i
  . simp [hl, zbJ, hi, zbT, hn, c, b]
  . simp [hl, zbJ, hi]
theorem zeM {h : MH} {w t r q : Nat} {P turn : Int} {ts : List T3} (W : zbU h w t P turn ts) (hts : ∀ t ∈ ts, t.Ok P) (ht : 0 <= turn) (hn : ts.length <= 1000000) {hs : List Int} (hr : h[r]? = some (.ins 2 [(3, .obj q)])) (hq : h[q]? = some (.lst (hs.map .int))) (hl : hs.length <= 1000000) :
    app zhi [.obj r, .obj w] h = .ok (.bl (decide ((hs.length : Int) = P) && ts.all (zcn hs turn))) h := by
  unfold app zhi
  by_cases hi : (hs.length : Int) = P
  . have c := zeG (t := .nm 0) (gs := [(h.length, .lst (ts.map tD))]) (elt := (zj zdH (za (bin z8 (bin zh (var 2) (bin zh (var 0) (zb (.int (1))))) (bin zh (var 2) (bin zh (var 0) (zb (.int (0)))))) (za (bin zh (var 0) (zb (.int (2)))) (za (fld 1 (var 1)) ze))))) (h := h ++ [.lst (ts.map tD)]) tD (fun t => D.bl (zcn hs turn t)) (fun e => ∃ d, e = [d, some (.obj w), some (.obj q)]) (zco (by simp)) ts (by
      rintro x hx _ ⟨d, rfl⟩
      have ok := hts x hx
      refine ⟨_, rfl, ⟨_, rfl⟩, ?_⟩
      have e1 := zc3 (hs := hs) ok.b0 (by have := ok.b1; omega)
      have e2 := zc3 (hs := hs) ok.a0 (by have := ok.a1; omega)
      simp [zY, zp hq, W.wA, e1, e2, zdK ht, zcn]) [none, some (.obj w), some (.obj q)] ⟨_, rfl⟩
    have b : zcl (ts.map fun t => D.bl (zcn hs turn t)) = some (ts.map (zcn hs turn)) := by have := zh2 (ts.map (zcn hs turn)); rwa [List.map_map] at this
    simp [hr, W.w, zeL hq hl, hi, z7, zbR W, zbT, hn, c, b]
    exact zcL _ _ _
  . simp [hr, W.w, zeL hq hl, hi]
def zeu (ts : List T3) (turn : Int) (S : List St) : Prop := 2 <= S.length ∧ ∃ s t g, S.head? = some s ∧ zL ts s = some t ∧ z5 ts t.a S = some g ∧ fin t.a g = t.a ∧ (g.map (·.b)).Nodup ∧ (S.map fun s => (s.k : Int)).Nodup ∧ zcO (g.map (·.n)).sum 0 turn = false
theorem zCa {h : MH} {n : Nat} {g : List T3} (hn : h[n]? = some (.lst (g.map tD))) (d : Option D) : zbW (.nm 0) [(n, .lst (g.map tD))] zbL (bin zh (var 0) (zb (.int (1)))) (g.map tD) [] [d] h = .ok ((g.map (·.b)).map .int) h := by
  rw [List.map_map]
  exact zeG (t := .nm 0) tD (fun t => .int t.b) (fun e => ∃ d, e = [d]) (zco hn) g (by
    rintro x hx _ ⟨d, rfl⟩
    exact ⟨_, rfl, ⟨_, rfl⟩, by simp⟩) [d] ⟨_, rfl⟩
theorem zEk {h : MH} {n : Nat} {g : List T3} (hn : h[n]? = some (.lst (g.map tD))) (d : Option D) : zbW (.nm 0) [(n, .lst (g.map tD))] zbL (bin zh (var 0) (zb (.int (2)))) (g.map tD) [] [d] h = .ok ((g.map (·.n)).map .int) h := by
  rw [List.map_map]
  exact zeG (t := .nm 0) tD (fun t => .int t.n) (fun e => ∃ d, e = [d]) (zco hn) g (by
    rintro x hx _ ⟨d, rfl⟩
    exact ⟨_, rfl, ⟨_, rfl⟩, by simp⟩) [d] ⟨_, rfl⟩
theorem zDf {h : MH} {n : Nat} {g : List St} (hn : h[n]? = some (.lst (g.map sD))) (d : Option D) : zbW (.nm 0) [(n, .lst (g.map sD))] zbL (bin zh (var 0) (zb (.int (0)))) (g.map sD) [] [d] h = .ok ((g.map fun s => (s.k : Int)).map .int) h := by
  rw [List.map_map]
  exact zeG (t := .nm 0) sD (fun t => .int t.k) (fun e => ∃ d, e = [d]) (zco hn) g (by
    rintro x hx _ ⟨d, rfl⟩
    exact ⟨_, rfl, ⟨_, rfl⟩, by simp⟩) [d] ⟨_, rfl⟩
theorem zfb {h : MH} {l : Nat} {xs : List Int} (hl : h[l]? = some (.lst (xs.map .int))) (hn : xs.length < 4000) : app ze7 [.obj l] h = .ok (.bl (decide xs.Nodup)) h := by
  unfold app ze7
  simp [hl, zhf, hn]
  have := ziL xs
  unfold zdi at this
  rw [<- this]
  omega
theorem zdV {h : MH} {w t r q : Nat} {P turn : Int} {ts : List T3} (W : zbU h w t P turn ts) (hts : ∀ t ∈ ts, t.Ok P) (ht : 0 <= turn) {S : List St} (hr : h[r]? = some (.ins 3 [(4, .obj q)])) (hq : h[q]? = some (.lst (S.map sD))) (hl : S.length < 4000) :
    app zhk [.obj r, .obj w] h = .ok (.bl (dcd (zeu ts turn S))) h := by
  unfold app zhk
  rcases S with _ | ⟨s, _ | ⟨s2, S⟩⟩
  . rw [zcM (by simp [zeu])]
    simp [hr, hq, zbJ]
  . rw [zcM (by simp [zeu])]
    simp [hr, hq, zbJ]
  . have hq' := hq
    rw [List.map_cons] at hq'
    have hst := zfa (h := h ++ [.lst (ts.map tD)]) (l := h.length) (xs := ts.map tD) (by simp) s
    by_cases hk : s.k < ts.length
    . have hleg : zL ts s = some (zbf s.f ts[s.k]) := by simp [zL, hk]
      generalize zbf s.f ts[s.k] = t1 at hleg
      have ok1 := zh6 hts hleg
      simp only [List.length_map, hk, decide_true] at hst
      have hlg : ∀ g, app zci [.obj (h.length + 1), sD s] (h ++ .lst (ts.map tD) :: .lst (ts.map tD) :: g) = .ok (tD t1) (h ++ .lst (ts.map tD) :: .lst (ts.map tD) :: g) := fun g => zdU (by simp) hleg
      have hlegs := zfw (W.app [.lst (ts.map tD), .lst (ts.map tD)]) (zp hq _) (by omega) ok1.a0 ok1.a1
      have q2 : ¬ (S.length : Int) + 1 + 1 < 2 := by omega
      have W1 := zbR (W.app [.lst (ts.map tD)])
      simp at W1
      cases hg : z5 ts t1.a (s :: s2 :: S) with
      | none =>
        simp only [hg] at hlegs
        rw [zcM (by
          rintro ⟨_, s', t', g, h1, h2, h3, _⟩
          simp at h1; subst h1
          rw [hleg] at h2; cases h2
          rw [hg] at h3; cases h3)]
        simp [hr, hq, zbJ, W.w, z7, zbR W, zY, zp hr, zp hq, hst, q2, W.wA, W1, hlg, hlegs]
        exact zcL _ _ _
      | some g =>
        simp only [hg] at hlegs
        have hgl := zh0 _ _ _ hg
        have hgn : g ≠ [] := by intro c; rw [c] at hgl; simp at hgl
        obtain ⟨g0, tl, rfl⟩ : ∃ g0 tl, g = g0 ++ [tl] := ⟨g.dropLast, g.getLast hgn, (List.dropLast_concat_getLast hgn).symm⟩
        have hla : MI.atI ((g0 ++ [tl]).map tD) (-1) = some (tD tl) := by rw [List.map_append]; exact ziJ _ _
        generalize hgg : g0 ++ [tl] = g at *
        have hfin : fin t1.a g = tl.b := by rw [<- hgg]; simp
        simp at hlegs
        by_cases hf : tl.b = t1.a
        . have d1 := fun gs => zfb (h := h ++ .lst (ts.map tD) :: .lst (ts.map tD) :: .lst (g.map tD) :: .lst ((g.map (·.b)).map .int) :: gs) (l := h.length + 3) (xs := g.map (·.b)) (by simp) (by simp at hl ⊢; rw [hgl]; simp; omega)
          have cb := fun gs => zCa (h := h ++ .lst (ts.map tD) :: .lst (ts.map tD) :: .lst (g.map tD) :: gs) (n := h.length + 2) (g := g) (by simp) none
          have cn := fun gs => zEk (h := h ++ .lst (ts.map tD) :: .lst (ts.map tD) :: .lst (g.map tD) :: gs) (n := h.length + 2) (g := g) (by simp) none
          have ck := fun gs => zDf (h := h ++ gs) (n := q) (g := s :: s2 :: S) (zp hq _) none
          have d2 := fun gs => zfb (h := h ++ .lst (ts.map tD) :: .lst (ts.map tD) :: .lst (g.map tD) :: .lst ((g.map (·.b)).map .int) :: .lst (((s :: s2 :: S).map fun s => (s.k : Int)).map .int) :: gs) (l := h.length + 4) (xs := (s :: s2 :: S).map fun s => (s.k : Int)) (by simp) (by simp at hl ⊢; omega)
          have hgs : g.length <= 1000000 := by rw [hgl]; omega
          have hss : (s :: s2 :: S).length <= 1000000 := by omega
          have in1 := zhf (g.map (·.n))
          generalize hSS : s :: s2 :: S = SS at *
          have hS0 : MI.atI (SS.map sD) 0 = some (sD s) := by rw [<- hSS]; simp
          have q3 : ¬ (SS.length : Int) < 2 := by rw [<- hSS]; simp; omega
          have q4 : 2 <= SS.length := by rw [<- hSS]; simp
          have hd : SS.head? = some s := by rw [<- hSS]; rfl
          have key : dcd (zeu ts turn SS) = (decide ((g.map (·.b)).Nodup) && (decide ((SS.map fun s => (s.k : Int)).Nodup) && !zcO (g.map (·.n)).sum 0 turn)) := by
            by_cases a1 : (g.map (·.b)).Nodup
            . by_cases a2 : (SS.map fun s => (s.k : Int)).Nodup
              . cases a3 : zcO (g.map (·.n)).sum 0 turn
                . rw [zpi ⟨q4, s, t1, g, hd, hleg, hg, by rw [hfin, hf], a1, a2, a3⟩]; simp [a1, a2]
                . rw [zcM (by
                    rintro ⟨_, s', t', g', h1, h2, h3, h4, h5, h6, h7⟩
                    rw [hd] at h1; cases h1
                    rw [hleg] at h2; cases h2
                    rw [hg] at h3; cases h3
                    rw [a3] at h7; cases h7)]; simp
              . rw [zcM (by rintro ⟨_, s', t', g', h1, h2, h3, h4, h5, h6, h7⟩; exact a2 h6)]; simp [a2]
            . rw [zcM (by
                    rintro ⟨_, s', t', g', h1, h2, h3, h4, h5, h6, h7⟩
                    rw [hd] at h1; cases h1
                    rw [hleg] at h2; cases h2
                    rw [hg] at h3; cases h3
                    exact a1 h5)]; simp [a1]
          rw [key]
          simp only [List.map_map] at d1 d2 cb cn ck in1
          by_cases a1 : (g.map (·.b)).Nodup
          . by_cases a2 : (SS.map fun s => (s.k : Int)).Nodup
            . simp [hr, hq, zbJ, W.w, z7, zbR W, zY, zp hr, zp hq, hst, q3, W.wA, W1, hlg, hlegs, hla, hf, hS0, zbT, cb, cn, ck, d1, d2, hgs, hss, in1, zdK ht, a1, a2]
              exact zcL _ _ _
            . simp [hr, hq, zbJ, W.w, z7, zbR W, zY, zp hr, zp hq, hst, q3, W.wA, W1, hlg, hlegs, hla, hf, hS0, zbT, cb, cn, ck, d1, d2, hgs, hss, in1, zdK ht, a1, a2]
              exact zcL _ _ _
          . simp [hr, hq, zbJ, W.w, z7, zbR W, zY, zp hr, zp hq, hst, q3, W.wA, W1, hlg, hlegs, hla, hf, hS0, zbT, cb, cn, ck, d1, d2, hgs, hss, in1, zdK ht, a1]
            exact zcL _ _ _
        . rw [zcM (by
            rintro ⟨_, s', t', g', h1, h2, h3, h4, _⟩
            simp at h1; subst h1
            rw [hleg] at h2; cases h2
            rw [hg] at h3; cases h3
            exact hf (hfin ▸ h4))]
          simp [hr, hq, zbJ, W.w, z7, zbR W, zY, zp hr, zp hq, hst, q2, W.wA, W1, hlg, hlegs, hla, hf]
          exact zcL _ _ _
    . rw [zcM (by
        rintro ⟨_, s', t', g, h1, h2, _⟩
        simp at h1; subst h1
        simp [zL, List.getElem?_eq_none (Nat.not_lt.1 hk)] at h2)]
      simp only [List.length_map, hk, decide_false] at hst
      have q2 : ¬ (S.length : Int) + 1 + 1 < 2 := by omega
      simp [hr, hq, zbJ, W.w, z7, zbR W, zY, zp hr, zp hq, hst, q2]
      exact zcL _ _ _
end Mx
end
section
open PySem MI
namespace Mx
open My
theorem zsC (h g : MH) {k : Nat} {o : O} (i : Int) (e : g[k]? = some o) (f : o.flat = true) : gc h (.ok (.tup [.obj (h.length + k), .int i]) (h ++ g)) = .ok (.tup [.obj h.length, .int i]) (h ++ [o]) := by
  have hlt : ¬ h.length + k < h.length := by omega
  simp [gc, zer, gcV, zct, hlt, e, f, D.nr]
theorem zEG (f : Bool) (e : zA) (h : MH) : zcC (.int (wy f)) (.tup [.int 1, .int (-1)]) e h = .ok (.bl false) h := by
  unfold zcC
  rw [zQ, zt8]; rfl
@[simp] theorem zGu (x y z : D) : MI.cut [x, y, z] none (some 2) = [x, y] := rfl
theorem zDe {h : MH} {n l : Nat} {ts : List T3} (hn : h[n]? = some (.lst (ts.map tD))) {S : List St} (hl : h[l]? = some (.lst (S.map sD))) (hS : S.length <= 900000) (hts : ∀ t ∈ ts, -1000000 <= t.n ∧ t.n <= 1000000) (a : Int) :
    app zf5 [.obj n, .int a, .obj l] h = match z5 ts a S with
      | none => .ok (.tup [.obj h.length, .int 0]) (h ++ [.lst []])
      | some g => .ok (.tup [.obj h.length, .int (g.map (·.n)).sum]) (h ++ [.lst ((a :: g.map (·.b)).map .int)]) := by
  unfold app zf5
  have loop := zhH (t := .nm 5) (gs := [(l, .lst (S.map sD))]) (body := (zf (ifS (orT (zbg (tru (zcb .tuple (var 5)))) (tst (bin neV (zbM (zbQ (var 5))) (zb (.int (2)))))) (zr (zU (za (zN (zcB ze)) (za (zb (.int (0))) ze)))) zw)
    (zf (zl (.tp [6, 7]) (var 5))
    (zf (ifS (orT (tru (zcb .bool (var 6))) (orT (zbg (tru (zcb .int (var 6)))) (orT (zbg (tst (zeW leV ltV (zb (.int (0))) (var 6) (zbM (zbQ (var 0)))))) (tst (bin zcC (var 7) (zU (za (zb (.int (1))) (za (un zcc (zb (.int (1)))) ze)))))))) (zr (zU (za (zN (zcB ze)) (za (zb (.int (0))) ze)))) zw)
    (zf (zl (.nm 8) (ifE (tst (bin eqV (var 7) (zb (.int (1))))) (zhV (bin zh (var 0) (var 6)) noP (zcH (zb (.int (2))))) (zhY (bin zh (var 0) (var 6)))))
    (zf (ifS (tst (bin neV (bin zh (var 3) (un zcc (zb (.int (1))))) (bin zh (var 8) (zb (.int (0)))))) (zr (zU (za (zN (zcB ze)) (za (zb (.int (0))) ze)))) zw)
    (zf (z4 (zbj (var 3) (bin zh (var 8) (zb (.int (1))))))
    (zl (.nm 4) (bin zK (var 4) (bin zb4 (var 7) (bin zh (bin zh (var 0) (var 6)) (zb (.int (2)))))))))))))) sD
    (fun d e h' => ∃ g x y z u, e = [some (.obj n), some (.int a), some (.obj l), some (.obj h.length), some (.int (g.map (·.n)).sum), x, y, z, u] ∧ h' = h ++ [.lst ((a :: g.map (·.b)).map .int)] ∧ z5 ts a d = some g)
    (fun v h' => z5 ts a S = none ∧ ∃ o, v = .tup [.obj (h.length + 1), .int 0] ∧ h' = h ++ [o, .lst []]) S [] (by
    rintro d s r e h' eq ⟨g, x, y, z, u, rfl, rfl, hg⟩
    simp only [List.nil_append] at eq
    refine ⟨zco (zp hl _), _, rfl, ?_⟩
    have hkk : ((s.k : Int) < (ts.length : Int)) ↔ s.k < ts.length := by omega
    have hk0 : (0 : Int) <= s.k := by omega
    have hlast : ∃ p, (a :: g.map (·.b)).map D.int = p ++ [.int (fin a g)] := by
      rcases List.eq_nil_or_concat g with rfl | ⟨g0, t, rfl⟩
      . exact ⟨[], rfl⟩
      . exact ⟨(a :: g0.map (·.b)).map D.int, by simp⟩
    obtain ⟨p, hp⟩ := hlast
    have hla : MI.atI ((a :: g.map (·.b)).map D.int) (-1) = some (.int (fin a g)) := by rw [hp]; exact ziJ _ _
    have hpl : (a :: g.map (·.b)).map D.int = .int a :: (g.map (·.b)).map .int := rfl
    generalize hpp : (a :: g.map (·.b)).map D.int = pp at *
    have hplen : pp.length < 1000000 := by
      have h1 := zh0 _ _ _ hg
      have h2 := congrArg List.length eq
      rw [hpl]; simp at h2 ⊢; omega
    have hin := zEG s.f
    by_cases hk : s.k < ts.length
    . have hleg : zL ts s = some (zbf s.f ts[s.k]) := by simp [zL, hk]
      have hat : MI.atI (ts.map tD) (s.k : Int) = some (tD ts[s.k]) := by rw [zfO (by simpa using hk)]; simp
      have hsm := hts ts[s.k] (List.getElem_mem hk)
      generalize ts[s.k] = t0 at hleg hat hsm
      have hsmall : zcE t0.n = true := by simp [zcE]; omega
      by_cases ha : (zbf s.f t0).a = fin a g
      . refine .inl ⟨_, h ++ [.lst ((a :: (g ++ [zbf s.f t0]).map (·.b)).map .int)], ?_, g ++ [zbf s.f t0], some (sD s), some (.int s.k), some (.int (wy s.f)), some (.tup [.int (zbf s.f t0).a, .int (zbf s.f t0).b]), rfl, rfl, zpu hg hleg ha⟩
        have e1 : (a :: (g ++ [zbf s.f t0]).map (·.b)).map D.int = pp ++ [.int (zbf s.f t0).b] := by rw [<- hpp]; simp
        rw [e1]
        cases hf : s.f
        . simp [hf, zbf, tn] at ha
          simp [sD, zbJ, hk0, hkk, hk, hf, wy, inV, zb7, inB, zhu, zY, zp hn, hat, tD, hla, zcC, zbf, tn, ha, zc4, hplen, zh, hsmall]
        . simp [hf, zbf] at ha
          simp [sD, zbJ, hk0, hkk, hk, hf, wy, inV, zb7, inB, zhu, zY, zp hn, hat, tD, hla, zcC, zbf, tn, ha, zc4, hplen, zh, hsmall]
      . refine .inr ⟨_, h ++ [.lst pp, .lst []], ?_, ?_, _, rfl, rfl⟩
        . cases hf : s.f
          . simp [hf, zbf, tn] at ha
            simp [sD, zbJ, hk0, hkk, hk, hf, wy, inV, zb7, inB, zhu, zY, zp hn, hat, tD, hla, zcC, zbf, tn, ha, Ne.symm ha, zh]
          . simp [hf, zbf] at ha
            simp [sD, zbJ, hk0, hkk, hk, hf, wy, inV, zb7, inB, zhu, zY, zp hn, hat, tD, hla, zcC, zbf, tn, ha, Ne.symm ha, zh]
        . rw [<- eq]
          exact zi6 hg (fun t' e => by rw [hleg] at e; cases e; exact ha)
    . refine .inr ⟨_, h ++ [.lst pp, .lst []], ?_, ?_, _, rfl, rfl⟩
      . simp [sD, zbJ, hk0, hkk, hk, zY, zp hn]
      . rw [<- eq]
        exact zi6 hg (fun t' e => by simp [zL, List.getElem?_eq_none (Nat.not_lt.1 hk)] at e))
    (by rintro e h' ⟨g, x, y, z, u, rfl, rfl, hg⟩; exact zco (zp hl _)) [some (.obj n), some (.int a), some (.obj l), some (.obj h.length), some (.int 0), none, none, none, none] (h ++ [.lst [.int a]]) ⟨[], none, none, none, none, rfl, rfl, rfl⟩
  rcases loop with ⟨e2, h2, hr, g, x, y, z, u, rfl, rfl, hg⟩ | ⟨v, h2, hr, hg, o, rfl, rfl⟩
  . simp at hg
    simp [zp hl, hr, hg]
    have hf := zh1 (a :: g.map (·.b))
    rw [List.map_cons, List.map_map] at hf
    exact zsC h _ (k := 0) _ rfl hf
  . simp [zp hl, hr, hg]
    exact zsC h _ (k := 1) (o := .lst []) _ rfl rfl
theorem zCz {h : MH} {n l : Nat} {ts : List T3} (hn : h[n]? = some (.lst (ts.map tD))) {s : St} {S : List St} (hl : h[l]? = some (.lst ((s :: S).map sD))) :
    app zf7 [.obj n, .obj l] h = .ok (.int (match zL ts s with
      | none => -1
      | some t => t.a)) h := by
  unfold app zf7
  have hkk : ((s.k : Int) < (ts.length : Int)) ↔ s.k < ts.length := by omega
  have hk0 : (0 : Int) <= s.k := by omega
  have h0 : MI.atI ((s :: S).map sD) 0 = some (sD s) := by simp
  by_cases hk : s.k < ts.length
  . have hleg : zL ts s = some (zbf s.f ts[s.k]) := by simp [zL, hk]
    have hat : MI.atI (ts.map tD) (s.k : Int) = some (tD ts[s.k]) := by rw [zfO (by simpa using hk)]; simp
    generalize ts[s.k] = t0 at hleg hat
    rw [hleg]
    cases hf : s.f
    . simp [zY, hl, h0, hn]
      simp [sD, hkk, hk0, hk, hn, zY, hat, hf, wy, zbf, tn]
    . simp [zY, hl, h0, hn]
      simp [sD, hkk, hk0, hk, hn, zY, hat, hf, wy, zbf, tn]
  . have hleg : zL ts s = none := by simp [zL, List.getElem?_eq_none (Nat.not_lt.1 hk)]
    rw [hleg]
    simp [zY, hl, h0, hn]
    simp [sD, hkk, hk0, hk, hn]
theorem zsL {h : MH} {n r q : Nat} {P turn : Int} {ts : List T3} (hn : h[n]? = some (.lst (ts.map tD))) (hts : ∀ t ∈ ts, t.Ok P) (ht : 0 <= turn) (hl : ts.length <= 1000000) {hs : List Int} (hr : h[r]? = some (.ins 2 [(3, .obj q)])) (hq : h[q]? = some (.lst (hs.map .int))) :
    app zb1 [.int P, .obj n, .int turn, .obj r] h = .ok (.bl (decide ((hs.length : Int) = P) && ts.all (zcn hs turn))) h := by
  unfold app zb1
  by_cases hi : (hs.length : Int) = P
  . have c := zeG (t := .tp [0, 1, 2]) (gs := [(n, .lst (ts.map tD))]) (elt := (zj zeK (za (bin z8 (bin z8 (bin zh (fld 3 (var 4)) (var 1)) (bin zh (fld 3 (var 4)) (var 0))) (var 2)) (za (var 3) ze)))) (h := h) tD (fun t => D.bl (zcn hs turn t)) (fun e => ∃ a b c, e = [a, b, c, some (.int turn), some (.obj r)]) (zco hn) ts (by
      rintro x hx _ ⟨a, b, c, rfl⟩
      have ok := hts x hx
      refine ⟨[some (.int x.a), some (.int x.b), some (.int x.n), some (.int turn), some (.obj r)], rfl, ⟨_, _, _, rfl⟩, ?_⟩
      have e1 := zc3 (hs := hs) ok.b0 (by have := ok.b1; omega)
      have e2 := zc3 (hs := hs) ok.a0 (by have := ok.a1; omega)
      simp [hr, zY, hq, e1, e2, zhB ht, zcn, zAS]) [none, none, none, some (.int turn), some (.obj r)] ⟨_, _, _, rfl⟩
    have b : zcl (ts.map fun t => D.bl (zcn hs turn t)) = some (ts.map (zcn hs turn)) := by have := zh2 (ts.map (zcn hs turn)); rwa [List.map_map] at this
    simp [hr, hq, hi, zW, hn, zbT, hl, c, b]
  . simp [hr, hq, hi, zW]
theorem zDt {h : MH} {n : Nat} {g : List St} (hn : h[n]? = some (.lst (g.map sD))) (a b : Option D) : zbW (.tp [0, 1]) [(n, .lst (g.map sD))] zbL (var 0) (g.map sD) [] [a, b] h = .ok ((g.map fun s => (s.k : Int)).map .int) h := by
  rw [List.map_map]
  exact zeG (t := .tp [0, 1]) sD (fun t => .int t.k) (fun e => ∃ a b, e = [a, b]) (zco hn) g (by
    rintro x hx _ ⟨d, b, rfl⟩
    exact ⟨_, rfl, ⟨_, _, rfl⟩, by simp⟩) [a, b] ⟨_, _, rfl⟩
theorem zEv (l : List Int) : (l.map D.int).all (D.pl 5) = true := by simp [D.pl]
theorem zqc {h : MH} {n m : Nat} {xs : List Int} (hn : h[n]? = some (.lst (xs.map .int))) (hm : h[m]? = some (.lst [])) (e : zA) : eqV (.obj n) (.obj m) e h = .ok (.bl (decide (xs = []))) h := by
  unfold eqV zcA
  simp only [hn, hm, zEv, if_pos]
  cases xs with
  | nil => simp [Cmp.eq, zcI]
  | cons x xs => simp [Cmp.eq, zcI]
theorem ztP {h : MH} {n r q : Nat} {P turn : Int} {ts : List T3} (hn : h[n]? = some (.lst (ts.map tD))) (hts : ∀ t ∈ ts, t.Ok P) (ht : 0 <= turn) {S : List St} (hr : h[r]? = some (.ins 3 [(4, .obj q)])) (hq : h[q]? = some (.lst (S.map sD))) (hl : S.length < 3000) :
    app zb1 [.int P, .obj n, .int turn, .obj r] h = .ok (.bl (dcd (zeu ts turn S))) h := by
  unfold app zb1
  rcases S with _ | ⟨s, _ | ⟨s2, S⟩⟩
  . rw [zcM (by simp [zeu])]
    simp [hr, hq, zW]
  . rw [zcM (by simp [zeu])]
    simp [hr, hq, zW]
  . have hst := zCz hn hq
    have q4 : 2 <= (s :: s2 :: S).length := by simp
    have hd : (s :: s2 :: S).head? = some s := rfl
    have hg0 : z5 ts (-1) (s :: s2 :: S) = none ∨ ∃ t1, zL ts s = some t1 := by
      cases hh : zL ts s with
      | none => left; simp [z5, hh]
      | some t1 => exact .inr ⟨t1, rfl⟩
    have hne : (s :: s2 :: S) ≠ [] := by simp
    generalize hSS : s :: s2 :: S = SS at *
    have q3 : ¬ (SS.length : Int) < 2 := by omega
    have hw := zDe hn hq (by omega) (fun t ht => ⟨(hts t ht).n0, (hts t ht).n1⟩)
    cases hleg : zL ts s with
    | none =>
      rw [hleg] at hst
      rcases hg0 with hg0 | ⟨t1, h1⟩
      . have hw := hw (-1)
        simp only [hg0] at hw
        rw [zcM (by
          rintro ⟨_, s', t', g, h1, h2, _⟩
          rw [hd] at h1; cases h1
          rw [hleg] at h2; cases h2)]
        have en := zqc (h := h ++ [.lst [], .lst []]) (n := h.length) (m := h.length + 1) (xs := []) (by simp) (by simp)
        simp at en hst
        simp [hr, hq, zW, q3, hst, hw, en]
        exact zcL _ _ _
      . rw [hleg] at h1; cases h1
    | some t1 =>
      rw [hleg] at hst
      simp only at hst
      have hw := hw t1.a
      cases hg : z5 ts t1.a SS with
      | none =>
        simp only [hg] at hw
        rw [zcM (by
          rintro ⟨_, s', t', g, h1, h2, h3, _⟩
          rw [hd] at h1; cases h1
          rw [hleg] at h2; cases h2
          rw [hg] at h3; cases h3)]
        have en := zqc (h := h ++ [.lst [], .lst []]) (n := h.length) (m := h.length + 1) (xs := []) (by simp) (by simp)
        simp at en
        simp [hr, hq, zW, q3, hst, hw, en]
        exact zcL _ _ _
      | some g =>
        simp only [hg] at hw
        have hgl := zh0 _ _ _ hg
        have hgn : g ≠ [] := by intro c; rw [c] at hgl; simp at hgl; exact hne (List.eq_nil_of_length_eq_zero hgl.symm)
        obtain ⟨g0, tl, hgg⟩ : ∃ g0 tl, g = g0 ++ [tl] := ⟨g.dropLast, g.getLast hgn, (List.dropLast_concat_getLast hgn).symm⟩
        have hfin : fin t1.a g = tl.b := by rw [hgg]; simp
        have hmem : tl.b ∈ g.map (·.b) := by rw [hgg]; simp
        have hla : MI.atI ((t1.a :: g.map (·.b)).map D.int) (-1) = some (.int tl.b) := by
          have : (t1.a :: g.map (·.b)).map D.int = ((t1.a :: g0.map (·.b)).map D.int) ++ [.int tl.b] := by rw [hgg]; simp
          rw [this]; exact ziJ _ _
        have hfi : MI.atI ((t1.a :: g.map (·.b)).map D.int) 0 = some (.int t1.a) := by simp
        have en := zqc (h := h ++ [.lst ((t1.a :: g.map (·.b)).map D.int), .lst []]) (n := h.length) (m := h.length + 1) (xs := t1.a :: g.map (·.b)) (by simp) (by simp)
        have in1 := zhf (t1.a :: g.map (·.b))
        have hc1 : (t1.a :: g.map (·.b)).length < 4000 := by simp [hgl]; omega
        have hc2 : ((t1.a :: g.map (·.b)).map D.int).length = g.length + 1 := by simp
        have in2 := zhf (SS.map fun s => (s.k : Int))
        have hc3 : (SS.map fun s => (s.k : Int)).length < 4000 := by simp; omega
        have ck := zDt (h := h ++ [.lst ((t1.a :: g.map (·.b)).map D.int), .lst []]) (n := q) (g := SS) (zp hq _) none none
        have hss : SS.length <= 1000000 := by omega
        have cn1 := ziL (g.map (·.b))
        have cn2 := ziL (SS.map fun s => (s.k : Int))
        have cc : tl.b = t1.a -> zdi (t1.a :: g.map (·.b)) = zdi (g.map (·.b)) := fun e => zs9 (e ▸ hmem)
        unfold zdi at cc cn1 cn2
        have hpn : t1.a :: g.map (·.b) ≠ [] := by simp
        generalize (t1.a :: g.map (·.b)).map D.int = pp at *
        generalize t1.a :: g.map (·.b) = pn at *
        by_cases hf : tl.b = t1.a
        . have cc := cc hf
          by_cases a1 : (g.map (·.b)).Nodup
          . have b1 := cn1.2 a1
            simp only [List.length_map] at b1
            have b1' : ((zbV [] pn).length : Int) = (g.length : Int) := by rw [cc, b1]
            cases a3 : zcO (g.map (·.n)).sum 0 turn
            . by_cases a2 : (SS.map fun s => (s.k : Int)).Nodup
              . have b2 := cn2.2 a2
                simp only [List.length_map] at b2
                rw [zpi ⟨q4, s, t1, g, hd, hleg, hg, by rw [hfin, hf], a1, a2, a3⟩]
                simp [hr, hq, zW, q3, hst, hw, en, hpn, zp hr, zp hq, zY, hla, hfi, hf, in1, in2, hc1, hc2, zbT, hss, b1', zhB ht, a3]
                simp only [List.map_map, List.length_map] at ck in2 hc3
                simp [ck, in2, hc3, b2, zp hr, zp hq]
                exact zcL _ _ _
              . have b2 : ¬ (zbV [] (SS.map fun s => (s.k : Int))).length = SS.length := fun c => a2 (cn2.1 (by simpa using c))
                rw [zcM (by rintro ⟨_, s', t', g', h1, h2, h3, h4, h5, h6, h7⟩; exact a2 h6)]
                simp [hr, hq, zW, q3, hst, hw, en, hpn, zp hr, zp hq, zY, hla, hfi, hf, in1, in2, hc1, hc2, zbT, hss, b1', zhB ht, a3]
                simp only [List.map_map, List.length_map] at ck in2 hc3
                have b2' : ¬ ((zbV [] (SS.map fun s => (s.k : Int))).length : Int) = (SS.length : Int) := by omega
                simp [ck, in2, hc3, b2', zp hr, zp hq]
                exact zcL _ _ _
            . rw [zcM (by
                rintro ⟨_, s', t', g', h1, h2, h3, h4, h5, h6, h7⟩
                rw [hd] at h1; cases h1
                rw [hleg] at h2; cases h2
                rw [hg] at h3; cases h3
                rw [a3] at h7; cases h7)]
              simp [hr, hq, zW, q3, hst, hw, en, hpn, zp hr, zp hq, zY, hla, hfi, hf, in1, in2, hc1, hc2, zbT, hss, b1', zhB ht, a3]
              exact zcL _ _ _
          . have b1 : ¬ ((zbV [] pn).length : Int) = (g.length : Int) := fun c => a1 (cn1.1 (by rw [<- cc]; simp; omega))
            rw [zcM (by
                rintro ⟨_, s', t', g', h1, h2, h3, h4, h5, h6, h7⟩
                rw [hd] at h1; cases h1
                rw [hleg] at h2; cases h2
                rw [hg] at h3; cases h3
                exact a1 h5)]
            simp [hr, hq, zW, q3, hst, hw, en, hpn, zp hr, zp hq, zY, hla, hfi, hf, in1, in2, hc1, hc2, zbT, hss, b1, zhB ht]
            exact zcL _ _ _
        . rw [zcM (by
            rintro ⟨_, s', t', g', h1, h2, h3, h4, _⟩
            rw [hd] at h1; cases h1
            rw [hleg] at h2; cases h2
            rw [hg] at h3; cases h3
            exact hf (hfin ▸ h4))]
          simp [hr, hq, zW, q3, hst, hw, en, hpn, zp hr, zp hq, zY, hla, hfi, Ne.symm hf]
          exact zcL _ _ _
end Mx
end
section
open PySem MI
namespace Mx
open My
theorem zfx {h : MH} {w t : Nat} {P turn : Int} {ts : List T3} (W : zbU h w t P turn ts) (hl : ts.length <= 1000000) : app zfY [.obj w] h = .ok (.obj h.length) (h ++ [.lst ((List.range ts.length).map fun k => .int (k : Nat))]) := by
  unfold app zfY
  have q : (-1000000 : Int) <= ts.length ∧ (ts.length : Int) <= 1000000 := by omega
  simp [W.w, z7, zbR W, q]
  exact zhZ h _ (k := 1) rfl (zhg _ (fun _ => rfl) _)
theorem zrW {h : MH} {gs : List (Nat × O)} (hg : ∀ g, guard gs (h ++ g) = true) : ∀ (xs : List Nat) (m : Nat) (acc : List D) (d : Option D),
    zbW (.nm 0) gs zbL (zN (zcB ze)) (xs.map fun (k : Nat) => D.int k) acc [d] (h ++ List.replicate m (.lst [])) =
      .ok (acc ++ (List.range xs.length).map fun k => .obj (h.length + m + k)) (h ++ List.replicate (m + xs.length) (.lst []))
  | [], m, acc, d => by simp [zbW, hg]
  | x :: xs, m, acc, d => by
    have ih := zrW hg xs (m + 1) (acc ++ [.obj (h.length + m)]) (some (.int x))
    rw [List.map_cons, zbW, if_pos (hg _)]
    simp only [zE1]
    simp
    have e : List.replicate m (O.lst []) ++ [O.lst []] = List.replicate (m + 1) (O.lst []) := by rw [List.replicate_succ']
    rw [e]
    rw [ih]
    simp only [List.append_assoc, List.length_cons]
    congr 1
    . congr 1
      rw [List.range_succ_eq_map]
      simp [Function.comp_def, Nat.add_assoc, Nat.add_comm, Nat.add_left_comm]
    . congr 2; omega
def zeT (L : List (List St)) : MH := L.map fun ss => .lst (ss.map sD)
def Onw (ts : List T3) (cs : List Nat) (p : Nat) (ss : List St) : Prop := ∀ s : St, s ∈ ss ↔ s.k ∈ cs ∧ ∃ t, zL ts s = some t ∧ t.a = p
def zeE (n P : Nat) : List D := (List.range P).map fun k => .obj (n + k)
structure Tbl (h : MH) (m n P : Nat) (L : List (List St)) : Prop where
  tb : h[m]? = some (.lst (zeE n P))
  len : L.length = P
  at' : ∀ p (hp : p < P), h[n + p]? = some (.lst ((L[p]'(by omega)).map sD))
def stH (h : MH) (ts : List T3) (P : Nat) (L : List (List St)) : MH := h ++ (.lst (ts.map tD) :: (zeT L ++ [.lst (zeE (h.length + 1) P)]))
theorem zpd {h : MH} {ts : List T3} {P : Nat} {L : List (List St)} {p : Nat} (hp : p < L.length) : (stH h ts P L)[h.length + 1 + p]? = some (.lst (L[p].map sD)) := by
  unfold stH
  rw [Nat.add_assoc, zg9, Nat.add_comm 1 p, List.getElem?_cons_succ, List.getElem?_append_left (by simpa [zeT] using hp)]
  simp [zeT, hp]
theorem zs7 {h : MH} {ts : List T3} {P : Nat} {L : List (List St)} {p : Nat} (hp : p < L.length) (ss : List St) : (stH h ts P L).set (h.length + 1 + p) (.lst (ss.map sD)) = stH h ts P (L.set p ss) := by
  unfold stH
  rw [Nat.add_assoc, zsX, Nat.add_comm 1 p, List.set_cons_succ, List.set_append_left _ _ (by simpa [zeT] using hp)]
  simp [zeT, List.map_set]
theorem zin {h : MH} {ts : List T3} {P : Nat} {L : List (List St)} (hL : L.length = P) : (stH h ts P L)[h.length + 1 + P]? = some (.lst (zeE (h.length + 1) P)) := by
  unfold stH
  rw [Nat.add_assoc, zg9, Nat.add_comm 1 P, List.getElem?_cons_succ, List.getElem?_append_right (by simp [zeT, hL])]
  simp [zeT, hL]
theorem zBh {h : MH} {ts : List T3} {P : Nat} {L : List (List St)} : (stH h ts P L)[h.length]? = some (.lst (ts.map tD)) := by simp [stH]
theorem zp2 {n P : Nat} {i : Int} (h0 : 0 <= i) (h1 : i < P) : MI.atI (zeE n P) i = some (.obj (n + i.toNat)) := by
  obtain ⟨k, rfl⟩ : ∃ k : Nat, i = k := ⟨i.toNat, by omega⟩
  have hk : k < P := by omega
  rw [zfO (by simpa [zeE] using hk)]
  simp [zeE]
theorem zBe {ts : List T3} {d : List Nat} {k : Nat} {L : List (List St)} {t0 : T3} {P : Nat} (ok : t0.Ok P) (hL : L.length = P) (hleg : ∀ f, zL ts ⟨k, f⟩ = some (zbf f t0))
    (hO : ∀ p (hp : p < L.length), Onw ts d p L[p]) {L2 : List (List St)} (e : L2 = (L.set t0.a.toNat (L[t0.a.toNat]'(by have := ok.a0; have := ok.a1; omega) ++ [⟨k, true⟩])).set t0.b.toNat (L[t0.b.toNat]'(by have := ok.b0; have := ok.b1; omega) ++ [⟨k, false⟩])) :
    ∀ p (hp : p < L2.length), Onw ts (d ++ [k]) p L2[p] := by
  have hne : t0.a.toNat ≠ t0.b.toNat := by have := ok.a0; have := ok.b0; have := ok.ne; omega
  have ha0 := ok.a0
  have hb0 := ok.b0
  intro p hp s
  have hp' : p < L.length := by rw [e] at hp; simpa using hp
  have hOp := hO p hp' s
  have leg_s : s.k = k -> ∃ f, s = ⟨k, f⟩ := by rcases s with ⟨a, f⟩; rintro rfl; exact ⟨f, rfl⟩
  have e2 : L2[p] = if t0.b.toNat = p then L[p] ++ [⟨k, false⟩] else if t0.a.toNat = p then L[p] ++ [⟨k, true⟩] else L[p] := by
    subst e
    simp only [List.getElem_set]
    split
    . rename_i h1; subst h1; rfl
    . split
      . rename_i h1; subst h1; rfl
      . rfl
  rw [e2]
  constructor
  . intro hs
    split at hs
    . rename_i h1
      rcases List.mem_append.1 hs with hs | hs
      . have := hOp.1 hs; exact ⟨by simp [this.1], this.2⟩
      . simp at hs; subst hs
        refine ⟨by simp, zbf false t0, hleg false, ?_⟩
        clear hOp
        simp [zbf, tn]; omega
    . split at hs
      . rename_i h1
        rcases List.mem_append.1 hs with hs | hs
        . have := hOp.1 hs; exact ⟨by simp [this.1], this.2⟩
        . simp at hs; subst hs
          refine ⟨by simp, zbf true t0, hleg true, ?_⟩
          clear hOp
          simp [zbf]; omega
      . have := hOp.1 hs; exact ⟨by simp [this.1], this.2⟩
  . rintro ⟨h1, t, h2, h3⟩
    by_cases hd : s.k ∈ d
    . have := hOp.2 ⟨hd, t, h2, h3⟩
      split
      . simp [this]
      . split
        . simp [this]
        . exact this
    . have hk : s.k = k := by simpa [hd] using h1
      obtain ⟨f, rfl⟩ := leg_s hk
      rw [hleg f] at h2
      cases h2
      clear hOp
      cases f
      . simp [zbf, tn] at h3
        rw [if_pos (by omega)]; simp
      . simp [zbf] at h3
        rw [if_neg (by omega), if_pos (by omega)]; simp
theorem zeN {h : MH} {w t c : Nat} {P : Nat} {turn : Int} {ts : List T3} (W : zbU h w t P turn ts) (hts : ∀ t ∈ ts, t.Ok P) (hP0 : 1 <= P) (hP : P <= 1000000) {cs : List Nat} (hc : h[c]? = some (.lst (cs.map fun k => .int (k : Nat)))) (hcs : ∀ k ∈ cs, k < ts.length) (hcl : cs.length <= 100000) :
    ∃ g L, app ze6 [.obj w, .obj c] h = .ok (.obj (h.length + 1 + P)) (h ++ g) ∧ Tbl (h ++ g) (h.length + 1 + P) (h.length + 1) P L ∧ ∀ p (hp : p < L.length), Onw ts cs p L[p] := by
  unfold app ze6
  have loop := zg6 (t := .nm 4) (gs := [(c, .lst (cs.map fun k => .int (k : Nat)))]) (body := (zf (z4 (zbj (bin zh (var 3) (bin zh (bin zh (var 2) (var 4)) (zb (.int (0))))) (zU (za (var 4) (za (zb (.int (1))) ze)))))
    (z4 (zbj (bin zh (var 3) (bin zh (bin zh (var 2) (var 4)) (zb (.int (1))))) (zU (za (var 4) (za (zb (.int (-1))) ze))))))) (fun k : Nat => D.int k)
    (fun d e h' => ∃ L x, e = [some (.obj w), some (.obj c), some (.obj h.length), some (.obj (h.length + 1 + P)), x] ∧ h' = stH h ts P L ∧ L.length = P ∧ (∀ p (hp : p < L.length), Onw ts d p L[p]) ∧ ∀ p (hp : p < L.length), L[p].length <= 2 * d.length) cs (by
    rintro d k r e h' eq ⟨L, x, rfl, rfl, hL, hO, hN⟩
    refine ⟨zco (zp hc _), _, rfl, ?_⟩
    have hk := hcs k (by rw [<- eq]; simp)
    have hat : MI.atI (ts.map tD) (k : Int) = some (tD ts[k]) := by rw [zfO (by simpa using hk)]; simp
    have ok := hts ts[k] (List.getElem_mem hk)
    have hleg1 : ∀ f, zL ts ⟨k, f⟩ = some (zbf f ts[k]) := fun f => by simp [zL, hk]
    generalize ts[k] = t0 at hat ok hleg1
    have hdl : d.length < 100000 := by have := congrArg List.length eq; simp at this; omega
    have ha0 := ok.a0
    have ha1 := ok.a1
    have hb0 := ok.b0
    have hb1 := ok.b1
    have hne : t0.a.toNat ≠ t0.b.toNat := by have := ok.ne; omega
    have hA : t0.a.toNat < L.length := by omega
    have hB : t0.b.toNat < L.length := by omega
    have hB2 : t0.b.toNat < (L.set t0.a.toNat (L[t0.a.toNat] ++ [⟨k, true⟩])).length := by simpa using hB
    have r1 := zp2 (n := h.length + 1) (P := P) ha0 ha1
    have r2 := zp2 (n := h.length + 1) (P := P) hb0 hb1
    have l1 := hN _ hA
    have l2 := hN _ hB
    have s1 : (L[t0.a.toNat].map sD) ++ [.tup [.int k, .int 1]] = (L[t0.a.toNat] ++ [(⟨k, true⟩ : St)]).map sD := by simp [sD, wy]
    have s2 : (L[t0.b.toNat].map sD) ++ [.tup [.int k, .int (-1)]] = (L[t0.b.toNat] ++ [(⟨k, false⟩ : St)]).map sD := by simp [sD, wy]
    refine ⟨[some (.obj w), some (.obj c), some (.obj h.length), some (.obj (h.length + 1 + P)), some (.int k)], stH h ts P ((L.set t0.a.toNat (L[t0.a.toNat] ++ [⟨k, true⟩])).set t0.b.toNat (L[t0.b.toNat] ++ [⟨k, false⟩])), ?_, _, _, rfl, rfl, by simpa using hL, zBe ok hL hleg1 hO rfl, ?_⟩
    . have g1 := zpd (h := h) (ts := ts) (P := P) hA
      have g2 := zpd (h := h) (ts := ts) (P := P) hB2
      rw [List.getElem_set_ne hne] at g2
      have t1 := zin (h := h) (ts := ts) hL
      have t2 := zin (h := h) (ts := ts) (L := L.set t0.a.toNat (L[t0.a.toNat] ++ [⟨k, true⟩])) (P := P) (by simpa using hL)
      have u1 := zs7 (h := h) (ts := ts) (P := P) hA (L[t0.a.toNat] ++ [⟨k, true⟩])
      have u2 := zs7 (h := h) (ts := ts) (P := P) hB2 (L[t0.b.toNat] ++ [⟨k, false⟩])
      have m1 : L[t0.a.toNat].length < 1000000 := by omega
      have m2 : L[t0.b.toNat].length < 1000000 := by omega
      rw [<- s1] at u1
      rw [<- s2] at u2
      simp [zY, zBh, hat, r1, r2, g1, g2, t1, t2, zc4, m1, m2, u1, u2]
    . intro p hp
      have hp' : p < L.length := by simpa using hp
      have := hN p hp'
      simp only [List.getElem_set]
      split
      . rename_i e; subst e; simp; omega
      . split
        . rename_i e; subst e; simp; omega
        . simp; omega)
    (by rintro e h' ⟨L, x, rfl, rfl, _⟩; exact zco (zp hc _)) [some (.obj w), some (.obj c), some (.obj h.length), some (.obj (h.length + 1 + P)), none] (stH h ts P (List.replicate P [])) ⟨_, none, rfl, rfl, by simp, by
      intro p hp s
      simp [Onw], by simp⟩
  obtain ⟨e2, h2, hr, L, x, rfl, rfl, hL, hO, _⟩ := loop
  refine ⟨.lst (ts.map tD) :: (zeT L ++ [.lst (zeE (h.length + 1) P)]), L, ?_, ⟨?_, hL, ?_⟩, hO⟩
  . have cn := zrW (h := h ++ [.lst (ts.map tD)]) (gs := []) (fun _ => rfl) (List.range P) 0 [] none
    have q : (-1000000 : Int) <= P ∧ (P : Int) <= 1000000 := by omega
    simp at cn
    simp [W.w, z7, zbR W, W.wA, q, zbT, hP]
    have eL : (h ++ O.lst (ts.map tD) :: List.replicate P (O.lst [])).length = h.length + 1 + P := by simp; omega
    have eH : (h ++ O.lst (ts.map tD) :: List.replicate P (O.lst [])) ++ [O.lst ((List.range P).map fun k => D.obj (h.length + 1 + k))] = stH h ts P (List.replicate P []) := by simp [stH, zeT, zeE]
    have hc2 : ∀ L, (stH h ts P L)[c]? = some (.lst (cs.map fun k => .int (k : Nat))) := fun L => zp hc _
    rw [cn]
    simp only [ziA, ztt, zc8, eL, eH]
    simp [hc2, hr]
    have hlt : ¬ h.length + 1 + P < h.length := by omega
    have hfl : (O.lst (zeE (h.length + 1) P)).flat = false := by
      obtain ⟨m, rfl⟩ : ∃ m, P = m + 1 := ⟨P - 1, by omega⟩
      simp [O.flat, zeE, List.range_succ_eq_map, nrs, D.nr]
    simp only [gc]
    rw [show stH h ts P L = h ++ (.lst (ts.map tD) :: (zeT L ++ [.lst (zeE (h.length + 1) P)])) from rfl, if_pos (zer _ _)]
    have tb := zin (h := h) (ts := ts) hL
    unfold stH at tb
    simp [gcV, hlt, tb, hfl]
  . exact zin hL
  . intro p hp
    exact zpd (by omega)
end Mx
end
section
open PySem MI
namespace Mx
open My
abbrev En := Int × Option St
def oD : Option St -> D
  | none => .non
  | some s => sD s
def eD (e : En) : Int × D := (e.1, oD e.2)
def zq (A : List En) : List Int := A.map (·.1)
@[simp] theorem zg7 (A B : List En) : zq (A ++ B) = zq A ++ zq B := by simp [zq]
@[simp] theorem ziv (e : En) : zq [e] = [e.1] := rfl
@[simp] theorem zGL (e : En) (A : List En) : zq (e :: A) = e.1 :: zq A := rfl
@[simp] theorem zFV : zq [] = [] := rfl
theorem ziz : ∀ (A : List En) (k : Int), (look k (A.map eD)).isSome = decide (k ∈ zq A)
  | [], k => rfl
  | e :: A, k => by
    simp only [List.map_cons, look]
    by_cases h : e.1 = k
    . simp [eD, h]
    . have h' : ¬ k = e.1 := fun c => h c.symm
      have := ziz A k
      have hh : ¬ (eD e).1 = k := h
      rw [if_neg hh, this]
      simp [h']
theorem zts : ∀ (A : List En) (k : Int), ((A.map eD).any fun p => decide (p.1 = k)) = decide (k ∈ zq A)
  | [], k => rfl
  | e :: A, k => by
    have := zts A k
    simp only [List.map_cons, List.any_cons, this]
    by_cases h : e.1 = k
    . simp [eD, h]
    . have h' : ¬ k = e.1 := fun c => h c.symm
      simp [eD, h, h']
theorem zsc {A : List En} {k : Int} (h : k ∉ zq A) (o : Option St) : zfh k (oD o) (A.map eD) = (A ++ [(k, o)]).map eD := by
  unfold zfh
  rw [if_neg (by rw [zts]; simp [h])]
  simp [eD]
theorem zCE (o : Option St) : (oD o).nr = true := by cases o <;> rfl
theorem zpJ (A : List En) : (O.dic (A.map eD)).flat = true := by
  simp only [O.flat, List.map_map]
  exact zhg _ (fun e => zCE e.2) A
inductive zb8 (ts : List T3) (cs : List Nat) (A : List En) (start : Int) : List En -> Prop
  | root : zb8 ts cs A start [(start, none)]
  | step {N : List En} {s : St} {t : T3} : zb8 ts cs A start N -> zL ts s = some t -> s.k ∈ cs -> t.a ∈ zq N -> t.b ∉ zq (A ++ N) -> zb8 ts cs A start (N ++ [(t.b, some s)])
theorem zb8.nodup {ts : List T3} {cs : List Nat} {A N : List En} {start : Int} (G : zb8 ts cs A start N) : (zq N).Nodup := by
  induction G with
  | root => simp
  | step G hl hk ha hb ih =>
    simp only [zg7, ziv]
    rw [List.nodup_append]
    refine ⟨ih, by simp, ?_⟩
    intro x hx y hy e
    simp at hy
    subst hy; subst e
    exact hb (by simp [hx])
theorem zb8.range {ts : List T3} {cs : List Nat} {A N : List En} {start : Int} {P : Nat} (hts : ∀ t ∈ ts, t.Ok P) (h0 : 0 <= start) (h1 : start < P) (G : zb8 ts cs A start N) : ∀ x ∈ zq N, 0 <= x ∧ x < (P : Int) := by
  induction G with
  | root => simp; exact ⟨h0, h1⟩
  | step G hl hk ha hb ih =>
    intro x hx
    simp at hx
    rcases hx with hx | rfl
    . exact ih x hx
    . have := zh6 hts hl; exact ⟨this.b0, this.b1⟩
theorem zhM {l : List Int} {P : Nat} (hn : l.Nodup) (hr : ∀ x ∈ l, 0 <= x ∧ x < (P : Int)) : l.length <= P := by
  have := zfR l ((List.range P).map fun (k : Nat) => (k : Int)) hn (fun x hx => by
    have := hr x hx
    exact List.mem_map.2 ⟨x.toNat, List.mem_range.2 (by omega), by omega⟩)
  simpa using this
def spH (h : MH) (q : Nat) (A : List En) (W : List Int) : MH := h.set q (.dic (A.map eD)) ++ [.lst (W.map .int)]
section
variable {h : MH} {q : Nat} {A : List En} {W : List Int}
theorem zsp (hq : q < h.length) : (spH h q A W)[q]? = some (.dic (A.map eD)) := by
  unfold spH
  rw [List.getElem?_append_left (by simpa using hq), List.getElem?_set_self hq]
theorem zhI {n : Nat} {o : O} (hn : h[n]? = some o) (hnq : n ≠ q) : (spH h q A W)[n]? = some o := by
  unfold spH
  rw [List.getElem?_append_left (by simpa using (List.getElem?_eq_some_iff.1 hn).1), List.getElem?_set_ne (fun e => hnq e.symm)]
  exact hn
theorem zpr : (spH h q A W)[h.length]? = some (.lst (W.map .int)) := by
  unfold spH
  rw [List.getElem?_append_right (by simp)]
  simp
theorem zBY (W2 : List Int) : (spH h q A W).set h.length (.lst (W2.map .int)) = spH h q A W2 := by
  unfold spH
  rw [List.set_append_right _ _ (by simp)]
  simp
theorem zEP (hq : q < h.length) (A2 : List En) : (spH h q A W).set q (.dic (A2.map eD)) = spH h q A2 W := by
  unfold spH
  rw [List.set_append_left _ _ (by simpa using hq)]
  simp
end
theorem zAF {h : MH} {q : Nat} {o : O} (f : o.flat = true) (g : MH) : gc h (.ok .non (h.set q o ++ g)) = .ok .non (h.set q o) := by
  have ok : zeD h (h.set q o ++ g) = true := by
    unfold zeD
    rw [List.all_eq_true]
    intro i hi
    rw [List.mem_range] at hi
    rw [List.getElem?_append_left (by simpa using hi)]
    by_cases e : q = i
    . subst e
      rw [List.getElem?_set_self hi]; simp [f]
    . rw [List.getElem?_set_ne e]; simp
  simp [gc, ok, gcV]
def Clo (ts : List T3) (cs : List Nat) (ps K : List Int) : Prop := ∀ s t, s.k ∈ cs -> zL ts s = some t -> t.a ∈ ps -> t.b ∈ K
theorem zfc {h : MH} {n m b q P : Nat} {ts : List T3} {cs : List Nat} (hn : h[n]? = some (.lst (ts.map tD))) (hts : ∀ t ∈ ts, t.Ok P) (hP : P <= 900000) {L : List (List St)} (TB : Tbl h m b P L) (hO : ∀ p (hp : p < L.length), Onw ts cs p L[p])
    {A : List En} (hA : h[q]? = some (.dic (A.map eD))) (hAl : A.length + P <= 900000) {start : Int} (h0 : 0 <= start) (h1 : start < P) (hs : start ∉ zq A) :
    ∃ N, app zeJ [.obj n, .obj m, .int start, .obj q] h = .ok .non (h.set q (.dic ((A ++ N).map eD))) ∧ zb8 ts cs A start N ∧ Clo ts cs (zq N) (zq (A ++ N)) := by
  have hq : q < h.length := (List.getElem?_eq_some_iff.1 hA).1
  have hnq : n ≠ q := fun e => by rw [e, hA] at hn; cases hn
  have hmq : m ≠ q := fun e => by have := TB.tb; rw [e, hA] at this; cases this
  have hbq : ∀ p, p < P -> b + p ≠ q := fun p hp e => by have := TB.at' p hp; rw [e, hA] at this; cases this
  unfold app zeJ
  have loop := zs6 (t := (tst (bin ltV (var 5) (zbM (zbQ (var 4)))))) (body := (zf (zl (.nm 6) (bin zh (var 4) (var 5)))
    (zf (zdP (.nm 7) (itL (bin zh (var 1) (var 6)))
    (zf (zl (.nm 8) (bin zh (zj zci (za (var 0) (za (var 7) ze))) (zb (.int (1)))))
    (ifS (tst (bin zcC (var 8) (var 3))) (zf (zfq (var 3) (var 8) (var 7))
    (z4 (zbj (var 4) (var 8)))) zw)))
    (zha zK 5 (zb (.int (1)))))))
    (fun k e h' => ∃ N x y z place, e = [some (.obj n), some (.obj m), some (.int start), some (.obj q), some (.obj h.length), some (.int (place : Nat)), x, y, z] ∧ h' = spH h q (A ++ N) (zq N) ∧ zb8 ts cs A start N ∧ place <= N.length ∧ k = P - place ∧ Clo ts cs ((zq N).take place) (zq (A ++ N)))
    (fun e h' => ∃ N, h' = spH h q (A ++ N) (zq N) ∧ zb8 ts cs A start N ∧ Clo ts cs (zq N) (zq (A ++ N))) (by
    rintro k e h' ⟨N, x, y, z, place, rfl, rfl, G, hpl, rfl, hC⟩
    have hNl : N.length <= P := by have := zhM G.nodup (G.range hts h0 h1); simpa [zq] using this
    have ltest : (((tst (bin ltV (var 5) (zbM (zbQ (var 4)))))) : ME Bool) [some (.obj n), some (.obj m), some (.int start), some (.obj q), some (.obj h.length), some (.int (place : Nat)), x, y, z] (spH h q (A ++ N) (zq N)) = .ok (decide (place < N.length)) (spH h q (A ++ N) (zq N)) := by
      simp [zpr, zq]
    by_cases hlt : place < N.length
    . right
      refine ⟨by rw [ltest]; simp [hlt], ?_⟩
      have hpk : place < (zq N).length := by simpa [zq] using hlt
      have hhere := G.range hts h0 h1 _ (List.getElem_mem hpk)
      have hat : MI.atI ((zq N).map D.int) (place : Int) = some (.int (zq N)[place]) := by rw [zfO (by simpa using hpk)]; simp
      generalize hhp : (zq N)[place] = here at hhere hat
      have hhm : here ∈ zq N := by rw [<- hhp]; exact List.getElem_mem hpk
      have htk : (zq N).take (place + 1) = (zq N).take place ++ [here] := by rw [<- hhp, List.take_append_getElem hpk]
      have hpt : here.toNat < P := by omega
      have hLl : here.toNat < L.length := by rw [TB.len]; exact hpt
      have hr := zp2 (n := b) (P := P) hhere.1 hhere.2
      have hss := TB.at' here.toNat hpt
      have hon := hO here.toNat hLl
      have hbq' := hbq here.toNat hpt
      generalize hsd : L[here.toNat] = ss at hss hon
      have hcast : ((here.toNat : Nat) : Int) = here := by omega
      have inner := zg6 (t := .nm 7) (gs := [(b + here.toNat, .lst (ss.map sD))]) (body := (zf (zl (.nm 8) (bin zh (zj zci (za (var 0) (za (var 7) ze))) (zb (.int (1)))))
    (ifS (tst (bin zcC (var 8) (var 3))) (zf (zfq (var 3) (var 8) (var 7))
    (z4 (zbj (var 4) (var 8)))) zw))) sD
        (fun d e h' => ∃ M y z, e = [some (.obj n), some (.obj m), some (.int start), some (.obj q), some (.obj h.length), some (.int (place : Nat)), some (.int here), y, z] ∧ h' = spH h q (A ++ (N ++ M)) (zq (N ++ M)) ∧ zb8 ts cs A start (N ++ M) ∧ ∀ s ∈ d, ∀ t, zL ts s = some t -> t.b ∈ zq (A ++ (N ++ M))) ss (by
        rintro d s r e h' eq ⟨M, y, z, rfl, rfl, G2, hD⟩
        refine ⟨zco (zhI hss hbq'), _, rfl, ?_⟩
        obtain ⟨hk, t, hl, ha⟩ := (hon s).1 (by rw [<- eq]; simp)
        rw [hcast] at ha
        have hlg := zdU (h := spH h q (A ++ (N ++ M)) (zq (N ++ M))) (zhI hn hnq) hl
        have hNMl : (zq (N ++ M)).length <= P := zhM G2.nodup (G2.range hts h0 h1)
        by_cases hb : t.b ∈ zq (A ++ (N ++ M))
        . refine ⟨_, _, ?_, M, some (sD s), some (.int t.b), rfl, rfl, G2, ?_⟩
          . have hl1 := ziz (A ++ (N ++ M)) t.b
            rw [decide_eq_true hb] at hl1
            simp only [List.map_append, zg7] at hl1 hlg
            simp [hlg, zcC, inV, zsp hq, hl1]
          . intro s' hs' t' hl'
            rcases List.mem_append.1 hs' with h2 | h2
            . exact hD s' h2 t' hl'
            . simp at h2; subst h2; rw [hl] at hl'; cases hl'; exact hb
        . have G3 : zb8 ts cs A start (N ++ M ++ [(t.b, some s)]) := .step G2 hl hk (by rw [ha]; simp [hhm]) hb
          rw [List.append_assoc] at G3
          have hkk : zq (N ++ (M ++ [(t.b, some s)])) = zq (N ++ M) ++ [t.b] := by simp
          have haa : A ++ (N ++ (M ++ [(t.b, some s)])) = (A ++ (N ++ M)) ++ [(t.b, some s)] := by simp
          refine ⟨_, spH h q (A ++ (N ++ (M ++ [(t.b, some s)]))) (zq (N ++ (M ++ [(t.b, some s)]))), ?_, M ++ [(t.b, some s)], some (sD s), some (.int t.b), rfl, rfl, G3, ?_⟩
          . have hl1 := ziz (A ++ (N ++ M)) t.b
            rw [decide_eq_false hb] at hl1
            have hp1 := zsc hb (some s)
            rw [hkk, haa]
            have w1 := zBY (h := h) (q := q) (A := (A ++ (N ++ M)) ++ [(t.b, some s)]) (W := zq (N ++ M)) (zq (N ++ M) ++ [t.b])
            have q1 := zEP (h := h) (q := q) (A := A ++ (N ++ M)) (W := zq (N ++ M)) hq ((A ++ (N ++ M)) ++ [(t.b, some s)])
            have hlen : (A ++ (N ++ M)).length < 1000000 := by
              have e1 : (zq (N ++ M)).length = (N ++ M).length := by simp [zq]
              rw [List.length_append]; omega
            have hlen2 : (zq (N ++ M)).length < 1000000 := by omega
            have hpe : zfh t.b (sD s) ((A ++ (N ++ M)).map eD) = ((A ++ (N ++ M)) ++ [(t.b, some s)]).map eD := hp1
            rw [List.map_append] at w1
            generalize zq (N ++ M) = KN at *
            generalize A ++ (N ++ M) = AN at *
            simp only [List.map_cons, List.map_nil] at w1
            simp [hlg, zcC, inV, zsp hq, hl1]
            rw [if_pos hlen, hpe, q1]
            simp [zpr, zc4, hlen2, w1]
          . intro s' hs' t' hl'
            rw [haa]
            rcases List.mem_append.1 hs' with h2 | h2
            . have := hD s' h2 t' hl'; rw [zg7]; simp only [List.mem_append]; exact .inl this
            . simp at h2; subst h2; rw [hl] at hl'; cases hl'; simp) (by
        rintro e h' ⟨M, y, z, rfl, rfl, G2, hD⟩; exact zco (zhI hss hbq')) [some (.obj n), some (.obj m), some (.int start), some (.obj q), some (.obj h.length), some (.int (place : Nat)), some (.int here), y, z] (spH h q (A ++ N) (zq N)) ⟨[], y, z, rfl, by simp, by simpa using G, by simp⟩
      obtain ⟨e2, h2, hr2, M, y2, z2, rfl, rfl, G2, hD⟩ := inner
      refine ⟨P - (place + 1), [some (.obj n), some (.obj m), some (.int start), some (.obj q), some (.obj h.length), some (.int ((place + 1 : Nat) : Int)), some (.int here), y2, z2], spH h q (A ++ (N ++ M)) (zq (N ++ M)), by omega, ?_, N ++ M, _, _, _, place + 1, rfl, rfl, G2, by simp; omega, rfl, ?_⟩
      . simp [zY, zpr, hat, zhI TB.tb hmq, hr, zhI hss hbq', hr2]
      . intro s t hk hl ha
        rw [zg7 N M, List.take_append_of_le_length (by omega), htk] at ha
        rcases List.mem_append.1 ha with h2 | h2
        . have := hC s t hk hl h2
          simp at this ⊢
          rcases this with h3 | h3
          . exact .inl h3
          . exact .inr (.inl h3)
        . simp at h2
          exact hD s ((hon s).2 ⟨hk, t, hl, by rw [hcast]; exact h2⟩) t hl
    . left
      refine ⟨by rw [ltest]; simp [hlt], N, rfl, G, ?_⟩
      intro s t hk hl ha
      refine hC s t hk hl ?_
      rw [List.take_of_length_le (by simp [zq]; omega)]
      exact ha) 1000000 P [some (.obj n), some (.obj m), some (.int start), some (.obj q), some (.obj h.length), some (.int ((0 : Nat) : Int)), none, none, none] (spH h q (A ++ [(start, none)]) [start]) (by omega)
    ⟨[(start, none)], none, none, none, 0, rfl, rfl, .root, by simp, by omega, fun s t _ _ ha => by simp at ha⟩
  obtain ⟨e2, h2, hr, N, rfl, G, hC⟩ := loop
  refine ⟨N, ?_, G, hC⟩
  have hp1 := zsc hs none
  have hal : A.length < 1000000 := by omega
  have e1 : (h.set q (.dic ((A ++ [(start, none)]).map eD))).length = h.length := by simp
  simp only [oD] at hp1
  unfold spH at hr
  simp only [ziv, List.map_cons, List.map_nil] at hr
  simp [hA, hal, hp1]
  unfold zhO
  simp only [List.map_append, List.map_cons, List.map_nil, show ((0 : Nat) : Int) = 0 from rfl] at hr
  rw [hr]
  have hf := zpJ (A ++ N)
  rw [List.map_append] at hf
  exact zAF hf _
end Mx
end
section
open PySem MI
namespace Mx
open My
theorem Tbl.app {h : MH} {m n P : Nat} {L : List (List St)} (T : Tbl h m n P L) (g : MH) : Tbl (h ++ g) m n P L := ⟨zp T.tb g, T.len, fun p hp => zp (T.at' p hp) g⟩
theorem zfy {h : MH} {w t c P : Nat} {turn : Int} {ts : List T3} (W : zbU h w t P turn ts) (hts : ∀ t ∈ ts, t.Ok P) (hP0 : 1 <= P) (hP : P <= 900000) {cs : List Nat} (hc : h[c]? = some (.lst (cs.map fun k => .int (k : Nat)))) (hcs : ∀ k ∈ cs, k < ts.length) (hcl : cs.length <= 100000)
    {start : Int} (h0 : 0 <= start) (h1 : start < P) :
    ∃ N, app zfZ [.obj w, .obj c, .int start] h = .ok (.obj h.length) (h ++ [.dic (N.map eD)]) ∧ zb8 ts cs [] start N ∧ Clo ts cs (zq N) (zq N) := by
  unfold app zfZ
  obtain ⟨g, L, hsf, TB, hO⟩ := zeN (W.app [.dic [], .lst (ts.map tD)]) hts hP0 (by omega) (zp hc _) hcs hcl
  have hti := zbR (W.app [.dic []])
  obtain ⟨N, hsp, G, hC⟩ := zfc (h := (h ++ [.dic [], .lst (ts.map tD)]) ++ g) (n := h.length + 1) (q := h.length) (A := []) (by simp) hts hP TB hO (by simp) (by simp; omega) h0 h1 (by simp)
  refine ⟨N, ?_, G, by simpa using hC⟩
  simp at hti hsf hsp
  simp [W.wA, z7, hti, hsf, hsp]
  exact zsg (o := .dic (N.map eD)) h _ (zpJ N)
inductive zcp (ts : List T3) (cs : List Nat) : List En -> Prop
  | nil : zcp ts cs []
  | root {A : List En} {p : Int} : zcp ts cs A -> p ∉ zq A -> zcp ts cs (A ++ [(p, none)])
  | step {A : List En} {s : St} {t : T3} : zcp ts cs A -> zL ts s = some t -> s.k ∈ cs -> t.a ∈ zq A -> t.b ∉ zq A -> zcp ts cs (A ++ [(t.b, some s)])
theorem zcp.grow {ts : List T3} {cs : List Nat} {A N : List En} {start : Int} (B : zcp ts cs A) (hs : start ∉ zq A) (G : zb8 ts cs A start N) : zcp ts cs (A ++ N) := by
  induction G with
  | root => exact .root B hs
  | step G hl hk ha hb ih =>
    rw [<- List.append_assoc]
    exact .step ih hl hk (by simp [ha]) hb
theorem zcp.nodup {ts : List T3} {cs : List Nat} {A : List En} (G : zcp ts cs A) : (zq A).Nodup := by
  induction G with
  | nil => simp
  | root G hb ih =>
    simp only [zg7, ziv]
    rw [List.nodup_append]
    refine ⟨ih, by simp, ?_⟩
    intro x hx y hy e
    simp at hy
    subst hy; subst e
    exact hb (by simp [hx])
  | step G hl hk ha hb ih =>
    simp only [zg7, ziv]
    rw [List.nodup_append]
    refine ⟨ih, by simp, ?_⟩
    intro x hx y hy e
    simp at hy
    subst hy; subst e
    exact hb (by simp [hx])
def rv (s : St) : St := ⟨s.k, !s.f⟩
theorem zse {ts : List T3} {s : St} {t : T3} (h : zL ts s = some t) : zL ts (rv s) = some (tn t) := by
  unfold zL at *
  cases hk : ts[s.k]? with
  | none => rw [hk] at h; cases h
  | some t0 =>
    rw [hk] at h
    simp at h
    subst h
    simp only [rv, hk]
    cases s.f <;> simp [zbf, tn]
structure zfJ (ts : List T3) (cs : List Nat) (A : List En) (ρ : Int -> Int) : Prop where
  bld : zcp ts cs A
  clo : Clo ts cs (zq A) (zq A)
  rho : ∀ s t, s.k ∈ cs -> zL ts s = some t -> t.a ∈ zq A -> ρ t.a = ρ t.b
  rt : ∀ e ∈ A, e.2 = none -> ρ e.1 = e.1
theorem zb8.disj {ts : List T3} {cs : List Nat} {A N : List En} {start : Int} (hs : start ∉ zq A) (G : zb8 ts cs A start N) : ∀ x ∈ zq N, x ∉ zq A := by
  induction G with
  | root => simp; exact hs
  | step G hl hk ha hb ih =>
    intro x hx
    simp at hx
    rcases hx with hx | rfl
    . exact ih x hx
    . intro c; exact hb (by simp [c])
theorem zb8.roots {ts : List T3} {cs : List Nat} {A N : List En} {start : Int} (G : zb8 ts cs A start N) : ∀ e ∈ N, e.2 = none -> e.1 = start := by
  induction G with
  | root => simp
  | step G hl hk ha hb ih =>
    intro e he h2
    rcases List.mem_append.1 he with he | he
    . exact ih e he h2
    . simp at he; subst he; cases h2
theorem zb8.mem {ts : List T3} {cs : List Nat} {A N : List En} {start : Int} (G : zb8 ts cs A start N) : start ∈ zq N := by
  induction G with
  | root => simp
  | step G _ _ _ _ ih => simp [ih]
theorem zfJ.add {ts : List T3} {cs : List Nat} {A N : List En} {ρ : Int -> Int} {start : Int} (F : zfJ ts cs A ρ) (hs : start ∉ zq A) (G : zb8 ts cs A start N) (hC : Clo ts cs (zq N) (zq (A ++ N))) : ∃ ρ', zfJ ts cs (A ++ N) ρ' := by
  refine ⟨fun p => if p ∈ zq A then ρ p else start, F.bld.grow hs G, ?_, ?_, ?_⟩
  . intro s t hk hl ha
    simp at ha
    rcases ha with ha | ha
    . have := F.clo s t hk hl ha; simp [this]
    . exact hC s t hk hl ha
  . intro s t hk hl ha
    simp at ha
    rcases ha with ha | ha
    . have hb := F.clo s t hk hl ha
      simp only [if_pos ha, if_pos hb]
      exact F.rho s t hk hl ha
    . have hna := G.disj hs _ ha
      have hnb : t.b ∉ zq A := fun hb => hna (F.clo (rv s) (tn t) hk (zse hl) hb)
      simp only [if_neg hna, if_neg hnb]
  . intro e he h2
    rcases List.mem_append.1 he with he | he
    . have : e.1 ∈ zq A := List.mem_map.2 ⟨e, he, rfl⟩
      simp only [if_pos this]
      exact F.rt e he h2
    . have := G.roots e he h2
      have hn : e.1 ∉ zq A := G.disj hs _ (List.mem_map.2 ⟨e, he, rfl⟩)
      simp only [if_neg hn]
      exact this.symm
theorem zfz {h : MH} {w t c P : Nat} {turn : Int} {ts : List T3} (W : zbU h w t P turn ts) (hts : ∀ t ∈ ts, t.Ok P) (hP0 : 1 <= P) (hP : P <= 400000) {cs : List Nat} (hc : h[c]? = some (.lst (cs.map fun k => .int (k : Nat)))) (hcs : ∀ k ∈ cs, k < ts.length) (hcl : cs.length <= 100000) :
    ∃ A ρ, app zf0 [.obj w, .obj c] h = .ok (.obj h.length) (h ++ [.dic (A.map eD)]) ∧ zfJ ts cs A ρ ∧ (∀ p, 0 <= p -> p < (P : Int) -> p ∈ zq A) ∧ (∀ p ∈ zq A, 0 <= p ∧ p < (P : Int)) := by
  unfold app zf0
  obtain ⟨g, L, hsf, TB, hO⟩ := zeN (W.app [.lst (ts.map tD)]) hts hP0 (by omega) (zp hc _) hcs hcl
  have hti := zbR W
  generalize hbb : (h ++ [O.lst (ts.map tD)]) ++ g = B at *
  have hB : B = h ++ (O.lst (ts.map tD) :: g) := by rw [<- hbb]; simp
  have hBn : B[h.length]? = some (.lst (ts.map tD)) := by rw [hB]; simp
  have loop := zg6 (t := .nm 5) (gs := []) (body := (ifS (tst (bin zcC (var 5) (var 4))) (z4 (zj zeJ (za (var 2) (za (var 3) (za (var 5) (za (var 4) ze)))))) zw)) (fun k : Nat => D.int k)
    (fun d e h' => ∃ A ρ x, e = [some (.obj w), some (.obj c), some (.obj h.length), some (.obj ((h ++ [O.lst (ts.map tD)]).length + 1 + P)), some (.obj B.length), x] ∧ h' = B ++ [.dic (A.map eD)] ∧ zfJ ts cs A ρ ∧ (∀ k ∈ d, (k : Int) ∈ zq A) ∧ (∀ p ∈ zq A, 0 <= p ∧ p < (P : Int))) (List.range P) (by
    rintro d k r e h' eq ⟨A, ρ, x, rfl, rfl, F, hd, hrn⟩
    refine ⟨rfl, _, rfl, ?_⟩
    have hkP : k < P := by
      have : k ∈ List.range P := by rw [<- eq]; simp
      exact List.mem_range.1 this
    have hl1 := ziz A k
    have hAl : A.length <= P := by have := zhM F.bld.nodup hrn; simpa [zq] using this
    by_cases hin : (k : Int) ∈ zq A
    . rw [decide_eq_true hin] at hl1
      refine ⟨_, _, ?_, A, ρ, some (.int k), rfl, rfl, F, ?_, hrn⟩
      . simp [zcC, inV, hl1]
      . intro j hj
        rcases List.mem_append.1 hj with hj | hj
        . exact hd j hj
        . simp at hj; subst hj; exact hin
    . rw [decide_eq_false hin] at hl1
      obtain ⟨N, hsp, G, hC⟩ := zfc (h := B ++ [.dic (A.map eD)]) (n := h.length) (q := B.length) (A := A) (start := (k : Int)) (zp hBn _) hts (by omega) (TB.app _) hO (by simp) (by omega) (by omega) (by omega) hin
      obtain ⟨ρ', F'⟩ := F.add hin G hC
      refine ⟨[some (.obj w), some (.obj c), some (.obj h.length), some (.obj ((h ++ [O.lst (ts.map tD)]).length + 1 + P)), some (.obj B.length), some (.int k)], B ++ [.dic ((A ++ N).map eD)], ?_, A ++ N, ρ', some (.int k), rfl, rfl, F', ?_, ?_⟩
      . simp at hsp
        simp [zcC, inV, hl1, hsp]
      . intro j hj
        rcases List.mem_append.1 hj with hj | hj
        . have := hd j hj; simp [this]
        . simp at hj; subst hj
          simp [G.mem]
      . intro p hp
        simp at hp
        rcases hp with hp | hp
        . exact hrn p hp
        . exact G.range hts (by omega) (by omega) p hp) (fun _ _ _ => rfl) [some (.obj w), some (.obj c), some (.obj h.length), some (.obj ((h ++ [O.lst (ts.map tD)]).length + 1 + P)), some (.obj B.length), none] (B ++ [.dic []])
      ⟨[], fun x => x, none, rfl, rfl, ⟨.nil, fun _ _ _ _ h => by simp at h, fun _ _ _ _ h => by simp at h, fun _ h => by simp at h⟩, by simp, by simp⟩
  obtain ⟨e2, h2, hr, A, ρ, x, rfl, rfl, F, hd, hrn⟩ := loop
  refine ⟨A, ρ, ?_, F, ?_, hrn⟩
  . have q : (-1000000 : Int) <= P ∧ (P : Int) <= 1000000 := by omega
    have hBw : ∀ g, (B ++ g)[w]? = some (.ins 0 [(0, .int P), (1, .int turn), (2, .obj t)]) := fun g => by rw [hB]; simp [W.wA]
    simp at hsf hr
    simp [W.w, z7, hti, hsf, hBw, q]
    rw [hr]
    simp
    rw [hB]
    have := zpF h ((O.lst (ts.map tD) :: g) ++ [.dic (A.map eD)]) (k := (O.lst (ts.map tD) :: g).length) (o := .dic (A.map eD)) (by simp) (zpJ A)
    simpa [Nat.add_assoc] using this
  . intro p hp0 hp1
    have := hd p.toNat (List.mem_range.2 (by omega))
    have e : ((p.toNat : Nat) : Int) = p := by omega
    rwa [e] at this
end Mx
end
section
open PySem MI
namespace Mx
open My
inductive TrP (ts : List T3) (N : List En) : Int -> List St -> Prop
  | root {p : Int} : look p (N.map eD) = some .non -> TrP ts N p []
  | step {p : Int} {s : St} {t : T3} {S : List St} : look p (N.map eD) = some (sD s) -> zL ts s = some t -> TrP ts N t.a S -> TrP ts N p (S ++ [s])
theorem zsD {A B : List (Int × D)} {p : Int} {d : D} (h : look p A = some d) : look p (A ++ B) = some d := by
  induction A with
  | nil => cases h
  | cons x A ih =>
    simp only [List.cons_append, look] at h ⊢
    split
    . rename_i e; rw [if_pos e] at h; exact h
    . rename_i e; rw [if_neg e] at h; exact ih h
theorem zAz {A : List En} {p : Int} {o : Option St} (h : p ∉ zq A) : look p ((A ++ [(p, o)]).map eD) = some (oD o) := by
  induction A with
  | nil => simp [look, eD]
  | cons x A ih =>
    simp at h
    simp only [List.cons_append, List.map_cons, look]
    rw [if_neg (fun e => h.1 e.symm)]
    exact ih h.2
theorem TrP.app {ts : List T3} {N M : List En} {p : Int} {S : List St} (T : TrP ts N p S) : TrP ts (N ++ M) p S := by
  induction T with
  | root h => exact .root (by rw [List.map_append]; exact zsD h)
  | step h hl T ih => exact .step (by rw [List.map_append]; exact zsD h) hl ih
theorem zb8.trace {ts : List T3} {cs : List Nat} {N : List En} {start : Int} (G : zb8 ts cs [] start N) : ∀ p ∈ zq N, ∃ S g, TrP ts N p S ∧ z5 ts start S = some g ∧ fin start g = p ∧ (start :: g.map (·.b)).Nodup ∧ (∀ x ∈ start :: g.map (·.b), x ∈ zq N) ∧ (∀ s ∈ S, s.k ∈ cs) ∧ S.length <= N.length := by
  induction G with
  | root =>
    intro p hp
    simp at hp
    subst hp
    exact ⟨[], [], .root (by simp [look, eD, oD]), rfl, rfl, by simp, by simp, by simp, by simp⟩
  | @step N s t G hl hk ha hb ih =>
    intro p hp
    simp at hp hb
    rcases hp with hp | rfl
    . obtain ⟨S, g, h1, h2, h3, h4, h5, h6, h7⟩ := ih p hp
      exact ⟨S, g, h1.app, h2, h3, h4, fun x hx => by simp [h5 x hx], h6, by simp; omega⟩
    . obtain ⟨S, g, h1, h2, h3, h4, h5, h6, h7⟩ := ih t.a ha
      refine ⟨S ++ [s], g ++ [t], .step (zAz hb) hl h1.app, zpu h2 hl h3.symm, by simp, ?_, ?_, ?_, by simp; omega⟩
      . have : start :: (g ++ [t]).map (·.b) = (start :: g.map (·.b)) ++ [t.b] := by simp
        rw [this, List.nodup_append]
        refine ⟨h4, by simp, ?_⟩
        intro x hx y hy e
        simp at hy; subst hy; subst e
        exact hb (h5 _ hx)
      . intro x hx
        have : start :: (g ++ [t]).map (·.b) = (start :: g.map (·.b)) ++ [t.b] := by simp
        rw [this] at hx
        rcases List.mem_append.1 hx with hx | hx
        . simp [h5 x hx]
        . simp at hx; simp [hx]
      . intro x hx
        rcases List.mem_append.1 hx with hx | hx
        . exact h6 x hx
        . simp at hx; subst hx; exact hk
theorem zFg {h : MH} {ts : List T3} {N : List En} {w goal : D} {q : Nat} (hq : h[q]? = some (.dic (N.map eD))) {p : Int} {S : List St} (T : TrP ts N p S) :
    ∀ (acc : List St) (fuel : Nat), S.length < fuel -> acc.length + S.length <= 900000 -> ∃ p', zfI (tst (bin zcd (bin zh (var 1) (var 5)) (zb .non))) (zf (z4 (zbj (var 4) (bin zh (var 1) (var 5))))
    (zl (.nm 5) (bin zh (zj zci (za (var 3) (za (bin zh (var 1) (var 5)) ze))) (zb (.int (0)))))) fuel
      [some w, some (.obj q), some goal, some (.obj h.length), some (.obj (h.length + 1)), some (.int p)] (h ++ [.lst (ts.map tD), .lst (acc.map sD)]) =
      .nx [some w, some (.obj q), some goal, some (.obj h.length), some (.obj (h.length + 1)), some (.int p')] (h ++ [.lst (ts.map tD), .lst ((acc ++ S.reverse).map sD)]) := by
  induction T with
  | @root p hl =>
    intro acc fuel hf _
    obtain ⟨f, rfl⟩ : ∃ f, fuel = f + 1 := ⟨fuel - 1, by simp at hf; omega⟩
    refine ⟨p, ?_⟩
    rw [zfI]
    simp [zY, zp hq, hl]
  | @step p s t S hl hleg T ih =>
    intro acc fuel hf hal
    obtain ⟨f, rfl⟩ : ∃ f, fuel = f + 1 := ⟨fuel - 1, by omega⟩
    simp at hf hal
    obtain ⟨p', ih⟩ := ih (acc ++ [s]) f (by omega) (by simp; omega)
    refine ⟨p', ?_⟩
    have hlg := zdU (h := h ++ [.lst (ts.map tD), .lst ((acc ++ [s]).map sD)]) (l := h.length) (by simp) hleg
    have hac : acc.length < 1000000 := by omega
    have hne : ¬ sD s = .non := by simp [sD]
    simp at ih hlg
    rw [zfI]
    simp [zY, zp hq, hl, hne, zc4, hac, hlg]
    exact ih
theorem zfA {h : MH} {w t q P : Nat} {turn : Int} {ts : List T3} (W : zbU h w t P turn ts) {N : List En} (hq : h[q]? = some (.dic (N.map eD))) {p : Int} {S : List St} (T : TrP ts N p S) (hS : S.length <= 900000) :
    app zf1 [.obj w, .obj q, .int p] h = .ok (.obj h.length) (h ++ [.lst (S.map sD)]) := by
  unfold app zf1
  obtain ⟨p', hl⟩ := zFg (w := .obj w) (goal := .int p) hq T [] 1000000 (by omega) (by simp; omega)
  simp at hl
  simp [W.w, z7, zbR W, zhO, hl]
  exact zhZ h _ (k := 1) rfl (ziQ S)
def zb2 (A : List En) : List Nat := A.filterMap fun e => e.2.map (·.k)
theorem zhW {A : List En} {k : Nat} : k ∈ zb2 A ↔ ∃ e ∈ A, ∃ s, e.2 = some s ∧ s.k = k := by
  unfold zb2
  simp only [List.mem_filterMap, Option.map_eq_some_iff]
theorem zcp.ends {ts : List T3} {cs : List Nat} {A : List En} (B : zcp ts cs A) : ∀ e ∈ A, ∀ s, e.2 = some s -> s.k ∈ cs ∧ ∃ t, zL ts s = some t ∧ t.a ∈ zq A ∧ t.b ∈ zq A := by
  induction B with
  | nil => simp
  | root B hb ih =>
    intro e he s hs
    rcases List.mem_append.1 he with he | he
    . obtain ⟨h1, t, h2, h3, h4⟩ := ih e he s hs
      exact ⟨h1, t, h2, by simp [h3], by simp [h4]⟩
    . simp at he; subst he; cases hs
  | step B hl hk ha hb ih =>
    intro e he s hs
    rcases List.mem_append.1 he with he | he
    . obtain ⟨h1, t, h2, h3, h4⟩ := ih e he s hs
      exact ⟨h1, t, h2, by simp [h3], by simp [h4]⟩
    . simp at he; subst he; cases hs
      exact ⟨hk, _, hl, by simp [ha], by simp⟩
theorem zpw {ts : List T3} {s s' : St} {t t' : T3} (h : zL ts s = some t) (h' : zL ts s' = some t') (e : s.k = s'.k) : t' = t ∨ t' = tn t := by
  unfold zL at *
  rw [<- e] at h'
  cases hk : ts[s.k]? with
  | none => rw [hk] at h; cases h
  | some t0 =>
    rw [hk] at h h'
    simp at h h'
    subst h; subst h'
    cases s.f <;> cases s'.f <;> simp [zbf, tn]
theorem zcp.ks_nodup {ts : List T3} {cs : List Nat} {A : List En} (B : zcp ts cs A) : (zb2 A).Nodup := by
  induction B with
  | nil => simp [zb2]
  | root B hb ih => simpa [zb2] using ih
  | @step A s t B hl hk ha hb ih =>
    have e1 : zb2 (A ++ [(t.b, some s)]) = zb2 A ++ [s.k] := by simp [zb2]
    rw [e1, List.nodup_append]
    refine ⟨ih, by simp, ?_⟩
    intro x hx y hy e
    simp at hy
    obtain ⟨en, he, s', h1, h2⟩ := zhW.1 hx
    obtain ⟨_, t', h3, h4, h5⟩ := B.ends en he s' h1
    rcases zpw h3 hl (by omega) with h6 | h6
    . subst h6; exact hb h5
    . subst h6; exact hb h4
theorem zt2 {x y : Int} : ∀ {l : List Int}, x ∈ zdA y l ↔ x = y ∨ x ∈ l
  | [] => by simp [zdA]
  | z :: l => by
    unfold zdA
    split
    . simp
    . simp only [List.mem_cons, zt2 (l := l)]
      constructor
      . rintro (h | h | h)
        . exact .inr (.inl h)
        . exact .inl h
        . exact .inr (.inr h)
      . rintro (h | h | h)
        . exact .inr (.inl h)
        . exact .inl h
        . exact .inr (.inr h)
theorem zi2 {x : Int} : ∀ {l : List Int}, x ∈ zcy l ↔ x ∈ l
  | [] => by simp [zcy]
  | z :: l => by
    have := zi2 (x := x) (l := l)
    unfold zcy at *
    rw [List.foldr_cons, zt2, this, List.mem_cons]
theorem ztw {y : Int} : ∀ {l : List Int}, (zdA y l).length = l.length + 1
  | [] => rfl
  | z :: l => by
    unfold zdA
    split
    . simp
    . simp [ztw (l := l)]
theorem ztd : ∀ {l : List Int}, (zcy l).length = l.length
  | [] => rfl
  | z :: l => by
    have := ztd (l := l)
    unfold zcy at *
    rw [List.foldr_cons, ztw, this, List.length_cons]
theorem zfd {h : MH} {q : Nat} {A : List En} (hq : h[q]? = some (.dic (A.map eD))) (hA : A.length <= 1000000) (hk : (zb2 A).length < 64) :
    ∃ cs : List Nat, app zf2 [.obj q] h = .ok (.obj h.length) (h ++ [.lst (cs.map fun k => .int (k : Nat))]) ∧ (∀ k, k ∈ cs ↔ k ∈ zb2 A) ∧ cs.length = (zb2 A).length := by
  refine ⟨(zcy ((zb2 A).map fun (k : Nat) => (k : Int))).map Int.toNat, ?_, ?_, by simp [ztd]⟩
  . unfold app zf2
    have hql : q < h.length := (List.getElem?_eq_some_iff.1 hq).1
    have c := zpV (t := .nm 0) (gs := []) (cond := (tst (bin zcd (var 0) (zb .non)))) (elt := (bin zh (var 0) (zb (.int (0))))) (h := h.set q .hole) (fun e : En => oD e.2) (fun e : En => D.int (match e.2 with
      | none => 0
      | some s => (s.k : Int))) (fun e => e.2.isSome) (fun e => ∃ d, e = [d]) rfl A (by
      rintro ⟨p, o⟩ _ _ ⟨d, rfl⟩
      refine ⟨_, rfl, ⟨_, rfl⟩, ?_, ?_⟩
      . cases o <;> simp [oD, sD]
      . intro ho
        cases o with
        | none => cases ho
        | some s => simp [oD]) [] [none] ⟨_, rfl⟩
    have ev : zeX (A.map eD) = A.map fun e => oD e.2 := by simp [zeX, eD, Function.comp_def]
    have ek : (A.filter fun e => e.2.isSome).map (fun e : En => D.int (match e.2 with
      | none => 0
      | some s => (s.k : Int))) = ((zb2 A).map fun (k : Nat) => (k : Int)).map D.int := by
      clear c ev hk hA hq
      induction A with
      | nil => rfl
      | cons e A ih =>
        rcases e with ⟨p, o⟩
        cases o with
        | none => simpa [zb2] using ih
        | some s => simp [zb2] at ih ⊢; exact ih
    have in1 := zhf ((zb2 A).map fun (k : Nat) => (k : Int))
    have hh : (h.set q .hole)[q]? = some .hole := List.getElem?_set_self hql
    have hset : (h.set q .hole).set q (.dic (A.map eD)) = h := by rw [List.set_set]; exact zrY hq
    have fin1 : (zcy ((zb2 A).map fun (k : Nat) => (k : Int))).map D.int = ((zcy ((zb2 A).map fun (k : Nat) => (k : Int))).map Int.toNat).map fun k => D.int (k : Nat) := by
      rw [List.map_map]
      apply List.map_congr_left
      intro x hx
      rw [zi2] at hx
      obtain ⟨k, _, rfl⟩ := List.mem_map.1 hx
      simp
    rw [ek] at c
    rw [<- fin1]
    simp only [List.nil_append] at c
    generalize hkk : (zb2 A).map (fun (k : Nat) => (k : Int)) = kk at *
    have hkl : kk.length < 64 := by rw [<- hkk]; simpa using hk
    simp [hq, ev, zbT, hA, c, ziF, hh, hset, in1, hkl]
    exact ztU h [] (zh1 _)
  . intro k
    rw [List.mem_map]
    constructor
    . rintro ⟨x, hx, rfl⟩
      rw [zi2] at hx
      obtain ⟨j, hj, rfl⟩ := List.mem_map.1 hx
      simpa using hj
    . intro hk
      exact ⟨k, zi2.2 (List.mem_map.2 ⟨k, hk, rfl⟩), by simp⟩
end Mx
end
section
open PySem MI
namespace Mx
open My
theorem zcp.split {ts : List T3} {cs : List Nat} {A : List En} (B : zcp ts cs A) : ∀ d e r, A = d ++ e :: r -> zcp ts cs d ∧ e.1 ∉ zq d ∧ ∀ s, e.2 = some s -> s.k ∈ cs ∧ ∃ t, zL ts s = some t ∧ t.b = e.1 ∧ t.a ∈ zq d := by
  induction B with
  | nil => intro d e r h; simp at h
  | @root A p B hb ih =>
    intro d e r h
    rcases List.eq_nil_or_concat r with rfl | ⟨r', x, rfl⟩
    . obtain ⟨rfl, h2⟩ := List.append_inj' h rfl
      simp at h2; subst h2
      exact ⟨B, hb, fun s hs => by cases hs⟩
    . have h' : A ++ [(p, none)] = (d ++ e :: r') ++ [x] := by rw [h]; simp
      obtain ⟨rfl, _⟩ := List.append_inj' h' rfl
      exact ih d e r' rfl
  | @step A s t B hl hk ha hb ih =>
    intro d e r h
    rcases List.eq_nil_or_concat r with rfl | ⟨r', x, rfl⟩
    . obtain ⟨rfl, h2⟩ := List.append_inj' h rfl
      simp at h2; subst h2
      exact ⟨B, hb, fun s' hs => by cases hs; exact ⟨hk, t, hl, rfl, ha⟩⟩
    . have h' : A ++ [(t.b, some s)] = (d ++ e :: r') ++ [x] := by rw [h]; simp
      obtain ⟨rfl, _⟩ := List.append_inj' h' rfl
      exact ih d e r' rfl
theorem zEl {hs : List Int} {i v : Int} (h0 : 0 <= i) (h1 : i < hs.length) : hAt (hs.set i.toNat v) i = v := by
  have : i.toNat < hs.length := by omega
  simp [hAt, this]
theorem zpC {hs : List Int} {i j v : Int} (h0 : 0 <= i) (h1 : 0 <= j) (hne : j ≠ i) : hAt (hs.set i.toNat v) j = hAt hs j := by
  have : i.toNat ≠ j.toNat := by omega
  simp [hAt, List.getElem?_set_ne this]
def Fit (ts : List T3) (hs : List Int) (A : List En) : Prop := ∀ e ∈ A, ∀ s t, e.2 = some s -> zL ts s = some t -> hAt hs t.b = hAt hs t.a + t.n
theorem zfB {h : MH} {w t q P : Nat} {turn : Int} {ts : List T3} (W : zbU h w t P turn ts) (hts : ∀ t ∈ ts, t.Ok P) (hP : P <= 400000) {cs : List Nat} {A : List En} (hq : h[q]? = some (.dic (A.map eD))) (B : zcp ts cs A) :
    ∃ hs, app zf4 [.obj w, .obj q] h = .ok (.obj h.length) (h ++ [.lst (hs.map .int)]) ∧ hs.length = P ∧ Fit ts hs A := by
  unfold app zf4
  have hql : q < h.length := (List.getElem?_eq_some_iff.1 hq).1
  generalize hK : h.set q .hole = K at *
  have hKl : K.length = h.length := by rw [<- hK]; simp
  have hKq : K[q]? = some .hole := by rw [<- hK]; exact List.getElem?_set_self hql
  have hKs : K.set q (.dic (A.map eD)) = h := by rw [<- hK, List.set_set]; exact zrY hq
  have loop := zg6 (t := .tp [4, 5]) (gs := []) (body := (ifS (tst (bin zcd (var 5) (zb .non))) (zf (zl (.nm 6) (zj zci (za (var 2) (za (var 5) ze))))
    (zfq (var 3) (var 4) (bin zK (bin zh (var 3) (bin zh (var 6) (zb (.int (0))))) (bin zh (var 6) (zb (.int (2))))))) zw)) (fun e : En => .tup [.int e.1, oD e.2])
    (fun d e h' => ∃ hs x y z, e = [some (.obj w), some (.obj q), some (.obj K.length), some (.obj (K.length + 2)), x, y, z] ∧ h' = K ++ [.lst (ts.map tD), .lst [.int 0], .lst (hs.map .int)] ∧ hs.length = P ∧ Fit ts hs d) A (by
    rintro d ⟨p, o⟩ r e h' eq ⟨hs, x, y, z, rfl, rfl, hl, hf⟩
    refine ⟨rfl, _, rfl, ?_⟩
    obtain ⟨Bd, hnk, hst⟩ := B.split d (p, o) r eq.symm
    cases o with
    | none =>
      refine ⟨_, _, ?_, hs, some (.int p), some .non, z, rfl, rfl, hl, ?_⟩
      . simp [oD]
      . intro e he s t h1 h2
        rcases List.mem_append.1 he with he | he
        . exact hf e he s t h1 h2
        . simp at he; subst he; cases h1
    | some s =>
      obtain ⟨hk, t, hleg, htb, hta⟩ := hst s rfl
      have ok := zh6 hts hleg
      have a0 := ok.a0
      have a1 := ok.a1
      have b0 := ok.b0
      have b1 := ok.b1
      simp only at htb hnk
      subst htb
      have hlg := fun g => zdU (h := K ++ .lst (ts.map tD) :: g) (l := K.length) (by simp) hleg
      have r1 := zc3 (hs := hs) a0 (by omega)
      have ix : ixN hs.length t.b = some t.b.toNat := by
        unfold ixN
        rw [if_pos b0, if_pos (by omega)]
      have hne : t.a ≠ t.b := ok.ne
      have hset : (hs.map D.int).set t.b.toNat (.int (hAt hs t.a + t.n)) = (hs.set t.b.toNat (hAt hs t.a + t.n)).map D.int := by rw [List.map_set]
      refine ⟨_, K ++ [.lst (ts.map tD), .lst [.int 0], .lst ((hs.set t.b.toNat (hAt hs t.a + t.n)).map .int)], ?_, hs.set t.b.toNat (hAt hs t.a + t.n), some (.int t.b), some (sD s), some (tD t), rfl, rfl, by simpa using hl, ?_⟩
      . have hns : ¬ sD s = .non := by simp [sD]
        simp [oD, hns, hlg, zY, r1, ix]
      . intro e he s' t' h1 h2
        rcases List.mem_append.1 he with he | he
        . obtain ⟨_, t2, h3, h4, h5⟩ := Bd.ends e he s' h1
          rw [h2] at h3; cases h3
          have o' := zh6 hts h2
          rw [zpC b0 o'.b0 (fun c => hnk (c ▸ h5)), zpC b0 o'.a0 (fun c => hnk (c ▸ h4))]
          exact hf e he s' t' h1 h2
        . simp at he; subst he; cases h1
          rw [hleg] at h2; cases h2
          rw [zEl b0 (by omega), zpC b0 a0 hne])
    (fun _ _ _ => rfl) [some (.obj w), some (.obj q), some (.obj K.length), some (.obj (K.length + 2)), none, none, none] (K ++ [.lst (ts.map tD), .lst [.int 0], .lst ((List.replicate P (0 : Int)).map .int)])
      ⟨List.replicate P 0, none, none, none, rfl, rfl, by simp, fun e he => by cases he⟩
  obtain ⟨e2, h2, hr, hs, x, y, z, rfl, rfl, hl, hf⟩ := loop
  refine ⟨hs, ?_, hl, hf⟩
  have hfl : (List.replicate P [D.int 0]).flatten = (List.replicate P (0 : Int)).map .int := by
    clear hr hl hf hts W B hP
    induction P with
    | zero => rfl
    | succ n ih => simp [List.replicate_succ] at ih ⊢
  have q1 : (P : Int) <= 1000000 := by omega
  have q2 : (-1000000 : Int) <= P := by omega
  have q3 : P <= 1000000 := by omega
  have eset : (h ++ [O.lst (ts.map tD), O.lst [.int 0], O.lst ((List.replicate P (0 : Int)).map .int)]).set q .hole = K ++ [O.lst (ts.map tD), O.lst [.int 0], O.lst ((List.replicate P (0 : Int)).map .int)] := by rw [ztV hql, hK]
  have eset2 : (K ++ [O.lst (ts.map tD), O.lst [.int 0], O.lst (hs.map .int)]).set q (.dic (A.map eD)) = h ++ [O.lst (ts.map tD), O.lst [.int 0], O.lst (hs.map .int)] := by rw [ztV (by omega), hKs]
  have eit : ze0 (A.map eD) = A.map fun e => .tup [.int e.1, oD e.2] := by simp [ze0, eD, Function.comp_def]
  rw [hKl] at hr
  simp at hr eset eset2
  simp [W.w, z7, zbR W, W.wA, q1, q2, q3, hfl, zp hq, eset, eit, hr, zfN, zp hKq, eset2]
  exact zhZ h _ (k := 2) rfl (zh1 hs)
theorem zfJ.conn {ts : List T3} {cs : List Nat} {A : List En} {ρ : Int -> Int} (F : zfJ ts cs A ρ) {X : List Int} (hX : ∀ s t, s.k ∈ zb2 A -> zL ts s = some t -> t.a ∈ X -> t.b ∈ X) : ∀ p ∈ zq A, (p ∈ X ↔ ρ p ∈ X) := by
  have key : ∀ A', zcp ts cs A' -> (∀ e ∈ A', e ∈ A) -> ∀ p ∈ zq A', (p ∈ X ↔ ρ p ∈ X) := by
    intro A' B
    induction B with
    | nil => intro _ p hp; simp at hp
    | @root A' p B hb ih =>
      intro hs x hx
      simp at hx
      rcases hx with hx | rfl
      . exact ih (fun e he => hs e (by simp [he])) x hx
      . rw [F.rt (x, none) (hs _ (by simp)) rfl]
    | @step A' s t B hl hk ha hb ih =>
      intro hs x hx
      simp at hx
      rcases hx with hx | rfl
      . exact ih (fun e he => hs e (by simp [he])) x hx
      . have hmem := hs (t.b, some s) (by simp)
        have hks : s.k ∈ zb2 A := zhW.2 ⟨_, hmem, s, rfl, rfl⟩
        have haA : t.a ∈ zq A := by
          obtain ⟨e, he, h2⟩ := List.mem_map.1 ha
          exact List.mem_map.2 ⟨e, hs e (by simp [he]), h2⟩
        have r1 := F.rho s t hk hl haA
        have r2 := ih (fun e he => hs e (by simp [he])) t.a ha
        rw [<- r1, <- r2]
        constructor
        . intro h; exact hX (rv s) (tn t) hks (zse hl) h
        . intro h; exact hX s t hks hl h
  exact key A F.bld (fun e he => he)
theorem zt7 {ts : List T3} : ∀ (S : List St) (a : Int) (g : List T3), z5 ts a S = some g -> (∀ s ∈ S, ∃ t, zL ts s = some t ∧ t.a ∈ a :: g.map (·.b) ∧ t.b ∈ a :: g.map (·.b)) ∧ ((a :: g.map (·.b)).Nodup -> (S.map fun s => (s.k : Int)).Nodup)
  | [], a, g, e => by simp
  | s :: S, a, g, e => by
    unfold z5 at e
    cases hl : zL ts s with
    | none => simp [hl] at e
    | some t =>
      simp only [hl] at e
      by_cases ha : t.a = a
      . rw [if_pos ha] at e
        cases hr : z5 ts t.b S with
        | none => simp [hr] at e
        | some g' =>
          simp [hr] at e
          subst e
          obtain ⟨i1, i2⟩ := zt7 S t.b g' hr
          refine ⟨?_, ?_⟩
          . intro s' hs'
            rcases List.mem_cons.1 hs' with rfl | hs'
            . exact ⟨t, hl, by simp [ha], by simp⟩
            . obtain ⟨t', h1, h2, h3⟩ := i1 s' hs'
              exact ⟨t', h1, List.mem_cons_of_mem _ h2, List.mem_cons_of_mem _ h3⟩
          . intro hn
            rw [List.map_cons] at hn
            have hn' := List.nodup_cons.1 hn
            rw [List.map_cons, List.nodup_cons]
            refine ⟨?_, i2 hn'.2⟩
            intro hm
            obtain ⟨s', hs', hk⟩ := List.mem_map.1 hm
            obtain ⟨t', h1, h2, h3⟩ := i1 s' hs'
            rcases zpw h1 hl (by omega) with h4 | h4
            . subst h4; exact hn'.1 (ha ▸ h2)
            . subst h4; exact hn'.1 (ha ▸ h3)
      . simp [ha] at e
theorem zsd {ts : List T3} {hs : List Int} : ∀ (S : List St) (a : Int) (g : List T3), z5 ts a S = some g -> (∀ s ∈ S, ∀ t, zL ts s = some t -> hAt hs t.b = hAt hs t.a + t.n) -> (g.map (·.n)).sum = hAt hs (fin a g) - hAt hs a
  | [], a, g, e, _ => by simp [z5] at e; subst e; simp
  | s :: S, a, g, e, hf => by
    unfold z5 at e
    cases hl : zL ts s with
    | none => simp [hl] at e
    | some t =>
      simp only [hl] at e
      by_cases ha : t.a = a
      . rw [if_pos ha] at e
        cases hr : z5 ts t.b S with
        | none => simp [hr] at e
        | some g' =>
          simp [hr] at e
          subst e
          have ih := zsd S t.b g' hr (fun s hs => hf s (by simp [hs]))
          have h1 := hf s (by simp) t hl
          simp [ih]
          rw [ha] at h1
          omega
      . simp [ha] at e
theorem Fit.both {ts : List T3} {hs : List Int} {A : List En} {cs : List Nat} (B : zcp ts cs A) (F : Fit ts hs A) {s : St} {t : T3} (hk : s.k ∈ zb2 A) (hl : zL ts s = some t) : hAt hs t.b = hAt hs t.a + t.n := by
  obtain ⟨e, he, s', h1, h2⟩ := zhW.1 hk
  obtain ⟨_, t', h3, _, _⟩ := B.ends e he s' h1
  have h4 := F e he s' t' h1 h3
  rcases zpw h3 hl (by omega) with h5 | h5
  . subst h5; exact h4
  . subst h5; simp [tn]; omega
theorem zfC {h : MH} {w t q P k : Nat} {turn : Int} {ts : List T3} (W : zbU h w t P turn ts) (hts : ∀ t ∈ ts, t.Ok P) (hP0 : 1 <= P) (hP : P <= 400000) (hn : ts.length <= 63) {cs : List Nat} (hcs : ∀ j < ts.length, j ∈ cs) (hcs' : ∀ k ∈ cs, k < ts.length) {A : List En} {ρ : Int -> Int} (hq : h[q]? = some (.dic (A.map eD))) (F : zfJ ts cs A ρ)
    (hall : ∀ p, 0 <= p -> p < (P : Int) -> p ∈ zq A) (hrn : ∀ p ∈ zq A, 0 <= p ∧ p < (P : Int)) {hs : List Int} (hf : Fit ts hs A) {t0 : T3} (hk : ts[k]? = some t0) (hbad : zcn hs turn t0 = false) :
    ∃ S, app zft [.obj w, .obj q, .int k] h = .ok (.obj h.length) (h ++ [.lst (S.map sD)]) ∧ zeu ts turn S ∧ S.length <= P + 1 := by
  unfold app zft
  have hkl : k < ts.length := (List.getElem?_eq_some_iff.1 hk).1
  have ok := hts t0 (List.mem_of_getElem? hk)
  have hAl : A.length <= P := by have := zhM F.bld.nodup hrn; simpa [zq] using this
  have hksl : (zb2 A).length <= 63 := by
    have h1 : ∀ x ∈ zb2 A, x ∈ List.range ts.length := fun x hx => by
      obtain ⟨e, he, s, h1, h2⟩ := zhW.1 hx
      have := (F.bld.ends e he s h1).1
      exact List.mem_range.2 (by have := hcs' _ this; omega)
    have := zfR _ _ F.bld.ks_nodup h1
    simp at this; omega
  have hti := zbR W
  obtain ⟨tk, htk, htm, htl⟩ := zfd (h := h ++ [.lst (ts.map tD), .lst [.tup [.int k, .int 1]]]) (zp hq _) (by omega) (by omega)
  have htk' : ∀ j ∈ tk, j < ts.length := fun j hj => by
    obtain ⟨e, he, s, h1, h2⟩ := zhW.1 ((htm j).1 hj)
    have := hcs' _ (F.bld.ends e he s h1).1; omega
  obtain ⟨N, hre, G, hC⟩ := zfy (h := h ++ [.lst (ts.map tD), .lst [.tup [.int k, .int 1]], .lst (tk.map fun k => .int (k : Nat))]) (c := h.length + 2) (W.app _) hts hP0 (by omega) (cs := tk) (by simp) htk' (by omega) ok.b0 ok.b1
  have leg0 : zL ts ⟨k, true⟩ = some t0 := by simp [zL, hk, zbf]
  have hX : t0.a ∈ zq N := by
    have c := F.conn (X := zq N) (fun s t h1 h2 h3 => hC s t ((htm s.k).2 h1) h2 h3)
    have ha := hall t0.a ok.a0 ok.a1
    have hb := hall t0.b ok.b0 ok.b1
    have hr := F.rho ⟨k, true⟩ t0 (hcs k hkl) leg0 ha
    rw [c _ ha, hr, <- c _ hb]
    exact G.mem
  obtain ⟨S, g, hT, hg, hfin, hnd, hin, hks, hSl⟩ := G.trace t0.a hX
  have hNl : N.length <= P := by have := zhM G.nodup (G.range hts ok.b0 ok.b1); simpa [zq] using this
  have htr := zfA (h := h ++ [.lst (ts.map tD), .lst [.tup [.int k, .int 1]], .lst (tk.map fun k => .int (k : Nat)), .dic (N.map eD)]) (q := h.length + 3) (W.app _) (by simp) hT (by omega)
  have hat : MI.atI (ts.map tD) (k : Int) = some (tD t0) := by
    rw [zfO (by simpa using hkl)]
    have := (List.getElem?_eq_some_iff.1 hk).2
    simp [this]
  have hfit : ∀ s ∈ S, ∀ t, zL ts s = some t -> hAt hs t.b = hAt hs t.a + t.n := fun s hs t hl => hf.both F.bld ((htm s.k).1 (hks s hs)) hl
  have hsum := zsd S t0.b g hg hfit
  refine ⟨⟨k, true⟩ :: S, ?_, ⟨?_, ⟨k, true⟩, t0, t0 :: g, rfl, leg0, ?_, ?_, ?_, ?_, ?_⟩, by simp; omega⟩
  . simp at htk hre htr
    have hl2 : (S.map sD).length + 1 <= 1000000 := by simp; omega
    have hl3 : 1 + S.length <= 1000000 := by omega
    simp [W.w, z7, hti, zY, hat, htk, hre, htr, hl2, hl3]
    exact zhZ h _ (k := 5) (xs := ((⟨k, true⟩ : St) :: S).map sD) rfl (ziQ _)
  . have : S ≠ [] := by
      rintro rfl
      simp [z5] at hg
      subst hg
      simp at hfin
      exact ok.ne hfin.symm
    have := List.length_pos_iff.2 this
    simp; omega
  . simp [z5, leg0, hg]
  . simp [hfin]
  . simpa using hnd
  . rw [List.map_cons, List.nodup_cons]
    refine ⟨?_, (zt7 S _ g hg).2 hnd⟩
    intro hm
    obtain ⟨s', hs', hk'⟩ := List.mem_map.1 hm
    have h1 := (htm s'.k).1 (hks s' hs')
    have h2 : s'.k = k := by have := hk'; simp at this; omega
    have h3 := hf.both F.bld (s := ⟨k, true⟩) (h2 ▸ h1) leg0
    unfold zcn at hbad
    rw [h3] at hbad
    have : hAt hs t0.a + t0.n - hAt hs t0.a = t0.n := by omega
    rw [this, zE0] at hbad
    cases hbad
  . rw [List.map_cons, List.sum_cons, hsum, hfin]
    exact zEg hbad
end Mx
end
section
open PySem MI
namespace Mx
open My
theorem zi1 (h g : MH) {c a j : Nat} {xs : List D} (e : g[j]? = some (.ins c [(a, .obj (h.length + j + 1))])) (e1 : g[j + 1]? = some (.lst xs)) (f : nrs xs = true) : gc h (.ok (.obj (h.length + j)) (h ++ g)) = .ok (.obj h.length) (h ++ [.ins c [(a, .obj (h.length + 1))], .lst xs]) := by
  simp only [gc]
  rw [if_pos (zer _ _)]
  have q : ¬ h.length + j < h.length := by omega
  have q1 : ¬ h.length + j + 1 < h.length := by omega
  have e2 : (h ++ g)[h.length + j + 1]? = some (.lst xs) := by rw [Nat.add_assoc, zg9]; exact e1
  simp [gcV, q, e, zct, q1, e2, D.nr, O.flat, f]
theorem zE4 {h : MH} {n : Nat} {xs : List D} (hn : h[n]? = some (.lst xs)) (f : nrs xs = true) : app (mkF 3 zhj) [.obj n] h = .ok (.obj h.length) (h ++ [.ins 3 [(4, .obj (h.length + 1))], .lst xs]) := by
  unfold app mkF zhj
  simp [zp hn, zfp, zfj]
  exact zi1 h _ (j := 0) rfl rfl f
theorem zFb {h : MH} {n : Nat} {xs : List D} (hn : h[n]? = some (.lst xs)) (f : nrs xs = true) : app (mkF 2 zia) [.obj n] h = .ok (.obj h.length) (h ++ [.ins 2 [(3, .obj (h.length + 1))], .lst xs]) := by
  unfold app mkF zia
  simp [zp hn, zfp, zfj]
  exact zi1 h _ (j := 0) rfl rfl f
theorem ztK (ts : List T3) (k : Nat) : zet k (ts.map tD) = (ts.zipIdx k).map fun p => .tup [.int (p.2 : Nat), tD p.1] := by
  induction ts generalizing k with
  | nil => rfl
  | cons t ts ih => simp [zet, List.zipIdx_cons, ih]
theorem zfD {h : MH} {w t P : Nat} {turn : Int} {ts : List T3} (W : zbU h w t P turn ts) (hts : ∀ t ∈ ts, t.Ok P) (hP0 : 1 <= P) (hP : P <= 400000) (hn : ts.length <= 63) (ht : 0 <= turn) :
    (∃ hs, app zdJ [.obj w] h = .ok (.obj h.length) (h ++ [.ins 2 [(3, .obj (h.length + 1))], .lst (hs.map .int)]) ∧ hs.length = P ∧ ts.all (zcn hs turn) = true) ∨
    (∃ S, app zdJ [.obj w] h = .ok (.obj h.length) (h ++ [.ins 3 [(4, .obj (h.length + 1))], .lst (S.map sD)]) ∧ zeu ts turn S ∧ S.length <= P + 1) := by
  unfold app zdJ
  have het := zfx W (by omega)
  obtain ⟨A, ρ, hra, F, hall, hrn⟩ := zfz (h := h ++ [.lst ((List.range ts.length).map fun k => .int (k : Nat))]) (c := h.length) (W.app _) hts hP0 hP (cs := List.range ts.length) (by simp) (fun k hk => List.mem_range.1 hk) (by simp; omega)
  obtain ⟨hs, hha, hl, hf⟩ := zfB (h := h ++ [.lst ((List.range ts.length).map fun k => .int (k : Nat)), .dic (A.map eD)]) (q := h.length + 1) (W.app _) hts hP (by simp) F.bld
  have hti := zbR (W.app [.lst ((List.range ts.length).map fun k => .int (k : Nat)), .dic (A.map eD), .lst (hs.map .int)])
  generalize hg : [O.lst ((List.range ts.length).map fun k => .int (k : Nat)), .dic (A.map eD), .lst (hs.map .int), .lst (ts.map tD)] = gg at *
  have loop := zhH (t := .tp [3, 4]) (gs := [(h.length + 3, .lst (ts.map tD))]) (body := (ifS (zbg (tru (zj zdH (za (bin z8 (bin zh (var 2) (bin zh (var 4) (zb (.int (1))))) (bin zh (var 2) (bin zh (var 4) (zb (.int (0)))))) (za (bin zh (var 4) (zb (.int (2)))) (za (fld 1 (var 0)) ze)))))) (zr (zj (mkF 3 zhj) (za (zj zft (za (var 0) (za (var 1) (za (var 3) ze)))) ze))) zw)) (fun p : T3 × Nat => .tup [.int (p.2 : Nat), tD p.1])
    (fun d e h' => ∃ x y, e = [some (.obj w), some (.obj (h.length + 1)), some (.obj (h.length + 2)), x, y] ∧ h' = h ++ gg ∧ ∀ p ∈ d, zcn hs turn p.1 = true)
    (fun v h' => ∃ S o, v = .obj (h.length + 5) ∧ h' = h ++ (gg ++ [o, .ins 3 [(4, .obj (h.length + 6))], .lst (S.map sD)]) ∧ zeu ts turn S ∧ S.length <= P + 1) (ts.zipIdx) [] (by
    rintro d ⟨t0, k⟩ r e h' eq ⟨x, y, rfl, rfl, hd⟩
    have hk : ts[k]? = some t0 := by
      have : (t0, k) ∈ ts.zipIdx := by rw [<- List.nil_append ts.zipIdx, <- eq]; simp
      have := List.mk_mem_zipIdx_iff_getElem?.1 this
      exact this
    have ok := hts t0 (List.mem_of_getElem? hk)
    have e1 := zc3 (hs := hs) ok.b0 (by have := ok.b1; omega)
    have e2 := zc3 (hs := hs) ok.a0 (by have := ok.a1; omega)
    refine ⟨zco (by rw [<- hg]; simp), [some (.obj w), some (.obj (h.length + 1)), some (.obj (h.length + 2)), some (.int k), some (tD t0)], rfl, ?_⟩
    have hgh : (h ++ gg)[h.length + 2]? = some (.lst (hs.map .int)) := by rw [<- hg]; simp
    cases hfb : zcn hs turn t0
    . right
      obtain ⟨S, hrb, hR, hSl⟩ := zfC (h := h ++ gg) (q := h.length + 1) (W.app gg) hts hP0 hP hn (cs := List.range ts.length) (fun j hj => List.mem_range.2 hj) (fun k hk => List.mem_range.1 hk) (by rw [<- hg]; simp) F hall hrn hf hk hfb
      have hri := zE4 (h := (h ++ gg) ++ [.lst (S.map sD)]) (n := (h ++ gg).length) (xs := S.map sD) (by simp) (ziQ S)
      have hgl : gg.length = 4 := by rw [<- hg]; rfl
      refine ⟨_, _, ?_, S, .lst (S.map sD), rfl, rfl, hR, hSl⟩
      unfold zcn at hfb
      simp [hgl] at hrb hri
      simp [zY, hgh, e1, e2, W.wA, zdK ht, hfb, hrb, hri]
    . left
      refine ⟨_, _, ?_, some (.int k), some (tD t0), rfl, rfl, ?_⟩
      . unfold zcn at hfb
        simp [zY, hgh, e1, e2, W.wA, zdK ht, hfb]
      . intro p hp
        rcases List.mem_append.1 hp with hp | hp
        . exact hd p hp
        . simp at hp; subst hp; exact hfb)
    (by rintro e h' ⟨x, y, rfl, rfl, _⟩; exact zco (by rw [<- hg]; simp)) [some (.obj w), some (.obj (h.length + 1)), some (.obj (h.length + 2)), none, none] (h ++ gg) ⟨none, none, rfl, rfl, by simp⟩
  simp at hra hha hti
  rcases loop with ⟨e2, h2, hr, x, y, rfl, rfl, hd⟩ | ⟨v, h2, hr, S, o, rfl, rfl, hR, hSl⟩
  . left
    refine ⟨hs, ?_, hl, ?_⟩
    . have hhi := zFb (h := h ++ gg) (n := h.length + 2) (xs := hs.map .int) (by rw [<- hg]; simp) (zh1 hs)
      rw [<- ztK] at hr
      rw [<- hg] at hr hhi
      simp at hhi hr
      simp [het, hra, hha, W.wA, z7, hti, <- hg, hr, hhi]
      exact zi1 h _ (j := 4) rfl rfl (zh1 hs)
    . rw [List.all_eq_true]
      intro t0 ht0
      obtain ⟨k, hk, he⟩ := List.mem_iff_getElem.1 ht0
      refine hd (t0, k) ?_
      rw [List.nil_append]
      exact List.mk_mem_zipIdx_iff_getElem?.2 (by rw [List.getElem?_eq_getElem hk, he])
  . right
    refine ⟨S, ?_, hR, hSl⟩
    rw [<- ztK] at hr
    rw [<- hg] at hr
    simp at hr
    simp [het, hra, hha, W.wA, z7, hti, <- hg, hr]
    exact zi1 h _ (j := 5) rfl rfl (ziQ S)
end Mx
end
section
open PySem MI
namespace Mx
open My
def zeU : List Int := [1000003, 1000033, 1000037, 1000039, 1000081, 1000099, 1000117, 1000121, 1000133, 1000151, 1000159, 1000171, 1000183, 1000187, 1000193, 1000199]
@[irreducible] def zc0 (a b m : Int) : Int := (a * 48271 + b * 69621) % hAt zeU (b % 16) % m
theorem zfi (a b : Int) {m : Int} (hm : 0 < m) : 0 <= zc0 a b m := by unfold zc0; exact Int.emod_nonneg _ (by omega)
theorem zfm (a b : Int) {m : Int} (hm : 0 < m) : zc0 a b m < m := by unfold zc0; exact Int.emod_lt_of_pos _ hm
theorem zpf {l : List Int} {i : Int} (h0 : 0 <= i) (h1 : i < l.length) : hAt l i ∈ l := by
  have : i.toNat < l.length := by omega
  simp [hAt, this]
theorem zDJ {i : Int} (h0 : 0 <= i) (h1 : i < 16) : 0 < hAt zeU i := by
  have h := zpf (l := zeU) h0 (by simpa [zeU] using h1)
  revert h
  generalize hAt zeU i = x
  have : ∀ x ∈ zeU, 0 < x := by decide
  exact this x
theorem zdQ {a b m : Int} (hm : 0 < m) (h : MH) : app zH [.int a, .int b, .int m] h = .ok (.int (zc0 a b m)) h := by
  unfold app zH
  have h0 : 0 <= b % 16 := Int.emod_nonneg _ (by omega)
  have h1 : b % 16 < 16 := Int.emod_lt_of_pos _ (by omega)
  have at16 := zc3 (hs := zeU) h0 (by simpa [zeU] using h1)
  have hp := zDJ h0 h1
  have s1 : zcE 48271 = true := by decide
  have s2 : zcE 69621 = true := by decide
  unfold zc0
  generalize hAt zeU (b % 16) = p at *
  simp only [zeU, List.map_cons, List.map_nil] at at16
  simp [s1, s2, zh, at16, hp, hm]
def zr8 (ns : List Int) (i : Int) : Int := if i < ns.length then hAt ns i else 0
theorem zB7 {ns : List Int} {n : Nat} {h : MH} (hn : h[n]? = some (.scr (ns.map .int))) {i : Int} (h0 : 0 <= i) : app zcF [.obj n, .int i] h = .ok (.int (zr8 ns i)) h := by
  unfold app zcF zr8
  by_cases hl : i < ns.length
  . simp [hn, hl, zY, zc3 h0 hl]
  . simp [hn, hl]
theorem zGa (l : List Int) {i : Int} (h0 : 0 <= i) (h1 : i < l.length) : MI.atI (l.map D.int) i = some (.int (hAt l i)) := zc3 h0 h1
theorem zHH (l : List Int) {i : Int} (h0 : 0 <= i) (h1 : i < l.length) (e : zA) (h : MH) : zh (.tup (l.map D.int)) (.int i) e h = .ok (.int (hAt l i)) h := by simp [zh, zc3 h0 h1]
theorem zp0 {v c m : Int} (h0 : 0 <= v) (h1 : v < m) (c0 : 0 < c) (c1 : c < m) : 0 <= (v + c) % m ∧ (v + c) % m < m ∧ (v + c) % m ≠ v := by
  refine ⟨Int.emod_nonneg _ (by omega), Int.emod_lt_of_pos _ (by omega), ?_⟩
  by_cases h : v + c < m
  . rw [Int.emod_eq_of_lt (by omega) h]; omega
  . have : (v + c) % m = v + c - m := by
      rw [<- Int.sub_emod_right, Int.emod_eq_of_lt (by omega) (by omega)]
    omega
theorem zAd {ns : List Int} {n : Nat} {h : MH} (hn : h[n]? = some (.scr (ns.map .int))) {c P turn v4 v5 : Int} {b6 : Bool} {k : Nat} (hk : k < ns.length) {v9 v10 v14 : Int} {x y z : Option D} {ts : List T3} (hl : ts.length <= 1000) (ht : 0 <= turn) (hv : -400000 <= v14 ∧ v14 <= 400000) :
    ∃ n14, -1000000 <= n14 ∧ n14 <= 1000000 ∧ (zf (ifS (zb0 (tst (bin gtV (var 3) (zb (.int (0))))) (zb0 (tst (bin eqV (zj zH (za (bin zh (var 0) (var 8)) (za (zb (.int (12))) (za (zb (.int (3))) ze)))) (zb (.int (0))))) (tst (bin ltV (bin zK (zeR (var 14)) (var 3)) (zb (.int (1000000))))))) (zl (.nm 14) (bin z8 (var 14) (var 3))) zw)
    (z4 (zbj (var 7) (zU (za (var 9) (za (var 10) (za (var 14) ze))))))) [some (.obj n), some (.int c), some (.int P), some (.int turn), some (.int v4), some (.int v5), some (.bl b6), some (.obj h.length), some (.int k), some (.int v9), some (.int v10), x, y, z, some (.int v14)] (h ++ [.lst (ts.map tD)]) =
      .nx [some (.obj n), some (.int c), some (.int P), some (.int turn), some (.int v4), some (.int v5), some (.bl b6), some (.obj h.length), some (.int k), some (.int v9), some (.int v10), x, y, z, some (.int n14)] (h ++ [.lst ((ts ++ [(⟨v9, v10, n14⟩ : T3)]).map tD)]) := by
  have hat := zc3 (hs := ns) (i := (k : Int)) (by omega) (by omega)
  have hl' : ts.length < 1000000 := by omega
  by_cases c1 : 0 < turn
  . by_cases c2 : zc0 (hAt ns k) 12 3 = 0
    . by_cases c3 : (if v14 < 0 then -v14 else v14) + turn < 1000000
      . refine ⟨v14 - turn, by split at c3 <;> omega, by split at c3 <;> omega, ?_⟩
        simp [c1, c2, c3, zY, zp hn, hat, zdQ, zc4, hl', tD]
      . refine ⟨v14, by omega, by omega, ?_⟩
        simp [c1, c2, c3, zY, zp hn, hat, zdQ, zc4, hl', tD]
    . refine ⟨v14, by omega, by omega, ?_⟩
      simp [c1, c2, zY, zp hn, hat, zdQ, zc4, hl', tD]
  . refine ⟨v14, by omega, by omega, ?_⟩
    simp [c1, zY, zp hn, hat, zdQ, zc4, hl', tD]
theorem zA8 {ns : List Int} {n : Nat} {h : MH} (hn : h[n]? = some (.scr (ns.map .int))) {c P turn v4 v5 : Int} {b6 : Bool} {k : Nat} (hk : k < ns.length) {v9 v10 : Int} {x y z u : Option D} {ts : List T3} (hl : ts.length <= 1000) (ht : 0 <= turn) (h4 : 0 < v4) (h4' : v4 <= 400000) (h5 : 0 <= v5) :
    ∃ n14, -1000000 <= n14 ∧ n14 <= 1000000 ∧ (zf (zl (.nm 14) (bin z8 (zj zH (za (bin zb4 (var 10) (zb (.int (7919)))) (za (zb (.int (6))) (za (var 4) ze)))) (zj zH (za (bin zb4 (var 9) (zb (.int (7919)))) (za (zb (.int (6))) (za (var 4) ze))))))
    (zf (ifS (zb0 (tst (bin gtV (var 5) (zb (.int (0))))) (tst (bin eqV (zj zH (za (bin zh (var 0) (var 8)) (za (bin zK (bin zbA (var 8) (zb (.int (3)))) (zb (.int (9)))) (za (var 5) ze)))) (zb (.int (0)))))) (zl (.nm 14) (bin zK (var 14) (zb (.int (1))))) zw)
    (zf (ifS (zb0 (tst (bin gtV (var 3) (zb (.int (0))))) (zb0 (tst (bin eqV (zj zH (za (bin zh (var 0) (var 8)) (za (zb (.int (12))) (za (zb (.int (3))) ze)))) (zb (.int (0))))) (tst (bin ltV (bin zK (zeR (var 14)) (var 3)) (zb (.int (1000000))))))) (zl (.nm 14) (bin z8 (var 14) (var 3))) zw)
    (z4 (zbj (var 7) (zU (za (var 9) (za (var 10) (za (var 14) ze))))))))) [some (.obj n), some (.int c), some (.int P), some (.int turn), some (.int v4), some (.int v5), some (.bl b6), some (.obj h.length), some (.int k), some (.int v9), some (.int v10), x, y, z, u] (h ++ [.lst (ts.map tD)]) =
      .nx [some (.obj n), some (.int c), some (.int P), some (.int turn), some (.int v4), some (.int v5), some (.bl b6), some (.obj h.length), some (.int k), some (.int v9), some (.int v10), x, y, z, some (.int n14)] (h ++ [.lst ((ts ++ [(⟨v9, v10, n14⟩ : T3)]).map tD)]) := by
  have hat := zc3 (hs := ns) (i := (k : Int)) (by omega) (by omega)
  have s1 : zcE 7919 = true := by decide
  have a0 := zfi (v10 * 7919) 6 h4
  have a1 := zfm (v10 * 7919) 6 h4
  have b0 := zfi (v9 * 7919) 6 h4
  have b1 := zfm (v9 * 7919) 6 h4
  have hdr := zdQ (a := v10 * 7919) (b := 6) h4
  have hdr2 := zdQ (a := v9 * 7919) (b := 6) h4
  generalize zc0 (v10 * 7919) 6 v4 = d1 at *
  generalize zc0 (v9 * 7919) 6 v4 = d2 at *
  have key : ∃ v14, -400000 <= v14 ∧ v14 <= 400000 ∧ (ifS (zb0 (tst (bin gtV (var 5) (zb (.int (0))))) (tst (bin eqV (zj zH (za (bin zh (var 0) (var 8)) (za (bin zK (bin zbA (var 8) (zb (.int (3)))) (zb (.int (9)))) (za (var 5) ze)))) (zb (.int (0)))))) (zl (.nm 14) (bin zK (var 14) (zb (.int (1))))) zw) [some (.obj n), some (.int c), some (.int P), some (.int turn), some (.int v4), some (.int v5), some (.bl b6), some (.obj h.length), some (.int k), some (.int v9), some (.int v10), x, y, z, some (.int (d1 - d2))] (h ++ [.lst (ts.map tD)]) =
      .nx [some (.obj n), some (.int c), some (.int P), some (.int turn), some (.int v4), some (.int v5), some (.bl b6), some (.obj h.length), some (.int k), some (.int v9), some (.int v10), x, y, z, some (.int v14)] (h ++ [.lst (ts.map tD)]) := by
    by_cases c1 : 0 < v5
    . by_cases c2 : zc0 (hAt ns k) ((k : Int) % 3 + 9) v5 = 0
      . exact ⟨d1 - d2 + 1, by omega, by omega, by simp [c1, c2, zY, zp hn, hat, zdQ]⟩
      . exact ⟨d1 - d2, by omega, by omega, by simp [c1, c2, zY, zp hn, hat, zdQ]⟩
    . exact ⟨d1 - d2, by omega, by omega, by simp [c1]⟩
  obtain ⟨v14, k0, k1, hkey⟩ := key
  obtain ⟨n14, m0, m1, htl⟩ := zAd hn (c := c) (P := P) (turn := turn) (v4 := v4) (v5 := v5) (b6 := b6) hk (v9 := v9) (v10 := v10) (x := x) (y := y) (z := z) hl ht ⟨k0, k1⟩
  refine ⟨n14, m0, m1, ?_⟩
  have st : (zl (.nm 14) (bin z8 (zj zH (za (bin zb4 (var 10) (zb (.int (7919)))) (za (zb (.int (6))) (za (var 4) ze)))) (zj zH (za (bin zb4 (var 9) (zb (.int (7919)))) (za (zb (.int (6))) (za (var 4) ze)))))) [some (.obj n), some (.int c), some (.int P), some (.int turn), some (.int v4), some (.int v5), some (.bl b6), some (.obj h.length), some (.int k), some (.int v9), some (.int v10), x, y, z, u] (h ++ [.lst (ts.map tD)]) =
      .nx [some (.obj n), some (.int c), some (.int P), some (.int turn), some (.int v4), some (.int v5), some (.bl b6), some (.obj h.length), some (.int k), some (.int v9), some (.int v10), x, y, z, some (.int (d1 - d2))] (h ++ [.lst (ts.map tD)]) := by
    simp [s1, hdr, hdr2]
  rw [zdh, st, zc8, zdh, hkey, zc8]
  exact htl
theorem zA3 {ns : List Int} {n : Nat} {h : MH} (hn : h[n]? = some (.scr (ns.map .int))) {c P turn v4 v5 : Int} {b6 : Bool} (h6 : b6 = true -> 3 < P) (hP : 2 <= P) (hP' : P <= 1000) {k : Nat} (hk : k < ns.length) {x9 x10 x y z u : Option D} {ts : List T3} (hl : ts.length <= 1000) (ht : 0 <= turn) (h4 : 0 < v4) (h4' : v4 <= 400000) (h5 : 0 <= v5) :
    ∃ t3 : T3, t3.Ok P ∧ ∃ x9' x10' x' y' z' u', (zf (zl (.nm 9) (zj zH (za (bin zh (var 0) (var 8)) (za (bin zK (bin zbA (var 8) (zb (.int (5)))) (zb (.int (1)))) (za (var 2) ze)))))
    (zf (zl (.nm 10) (bin zbA (bin zK (bin zK (var 9) (zb (.int (1)))) (zj zH (za (bin zh (var 0) (var 8)) (za (bin zK (bin zbA (var 8) (zb (.int (7)))) (zb (.int (2)))) (za (bin z8 (var 2) (zb (.int (1)))) ze))))) (var 2)))
    (zf (ifS (tru (var 6)) (zf (zl (.nm 11) (ifE (tst (bin ltV (var 9) (bin zdE (var 2) (zb (.int (2)))))) (zb (.int (0))) (bin zdE (var 2) (zb (.int (2))))))
    (zf (zl (.nm 12) (ifE (tst (bin eqV (var 11) (zb (.int (0))))) (bin zdE (var 2) (zb (.int (2)))) (bin z8 (var 2) (var 11))))
    (zf (zl (.nm 13) (bin zK (zb (.int (1))) (zj zH (za (bin zh (var 0) (var 8)) (za (bin zK (bin zbA (var 8) (zb (.int (7)))) (zb (.int (2)))) (za (bin z8 (var 12) (zb (.int (1)))) ze))))))
    (zl (.nm 10) (bin zK (var 11) (bin zbA (bin zK (bin z8 (var 9) (var 11)) (var 13)) (var 12))))))) zw)
    (zf (zl (.nm 14) (bin z8 (zj zH (za (bin zb4 (var 10) (zb (.int (7919)))) (za (zb (.int (6))) (za (var 4) ze)))) (zj zH (za (bin zb4 (var 9) (zb (.int (7919)))) (za (zb (.int (6))) (za (var 4) ze))))))
    (zf (ifS (zb0 (tst (bin gtV (var 5) (zb (.int (0))))) (tst (bin eqV (zj zH (za (bin zh (var 0) (var 8)) (za (bin zK (bin zbA (var 8) (zb (.int (3)))) (zb (.int (9)))) (za (var 5) ze)))) (zb (.int (0)))))) (zl (.nm 14) (bin zK (var 14) (zb (.int (1))))) zw)
    (zf (ifS (zb0 (tst (bin gtV (var 3) (zb (.int (0))))) (zb0 (tst (bin eqV (zj zH (za (bin zh (var 0) (var 8)) (za (zb (.int (12))) (za (zb (.int (3))) ze)))) (zb (.int (0))))) (tst (bin ltV (bin zK (zeR (var 14)) (var 3)) (zb (.int (1000000))))))) (zl (.nm 14) (bin z8 (var 14) (var 3))) zw)
    (z4 (zbj (var 7) (zU (za (var 9) (za (var 10) (za (var 14) ze)))))))))))) [some (.obj n), some (.int c), some (.int P), some (.int turn), some (.int v4), some (.int v5), some (.bl b6), some (.obj h.length), some (.int k), x9, x10, x, y, z, u] (h ++ [.lst (ts.map tD)]) =
      .nx [some (.obj n), some (.int c), some (.int P), some (.int turn), some (.int v4), some (.int v5), some (.bl b6), some (.obj h.length), some (.int k), x9', x10', x', y', z', u'] (h ++ [.lst ((ts ++ [t3]).map tD)]) := by
  have hat := zc3 (hs := ns) (i := (k : Int)) (by omega) (by omega)
  have hP1 : 0 < P := by omega
  have hP2 : 0 < P - 1 := by omega
  have v90 := zfi (hAt ns k) ((k : Int) % 5 + 1) hP1
  have v91 := zfm (hAt ns k) ((k : Int) % 5 + 1) hP1
  have hd9 := zdQ (a := hAt ns k) (b := (k : Int) % 5 + 1) hP1
  have e0 := zfi (hAt ns k) ((k : Int) % 7 + 2) hP2
  have e1 := zfm (hAt ns k) ((k : Int) % 7 + 2) hP2
  have hd10 := zdQ (a := hAt ns k) (b := (k : Int) % 7 + 2) hP2
  generalize zc0 (hAt ns k) ((k : Int) % 5 + 1) P = v9 at *
  generalize zc0 (hAt ns k) ((k : Int) % 7 + 2) (P - 1) = d at *
  have first : ∀ v10, 0 <= v10 -> v10 < P -> v10 ≠ v9 -> ∀ x y z, (∃ t3 : T3, t3.Ok P ∧ ∃ x9' x10' x' y' z' u', (zf (zl (.nm 14) (bin z8 (zj zH (za (bin zb4 (var 10) (zb (.int (7919)))) (za (zb (.int (6))) (za (var 4) ze)))) (zj zH (za (bin zb4 (var 9) (zb (.int (7919)))) (za (zb (.int (6))) (za (var 4) ze))))))
    (zf (ifS (zb0 (tst (bin gtV (var 5) (zb (.int (0))))) (tst (bin eqV (zj zH (za (bin zh (var 0) (var 8)) (za (bin zK (bin zbA (var 8) (zb (.int (3)))) (zb (.int (9)))) (za (var 5) ze)))) (zb (.int (0)))))) (zl (.nm 14) (bin zK (var 14) (zb (.int (1))))) zw)
    (zf (ifS (zb0 (tst (bin gtV (var 3) (zb (.int (0))))) (zb0 (tst (bin eqV (zj zH (za (bin zh (var 0) (var 8)) (za (zb (.int (12))) (za (zb (.int (3))) ze)))) (zb (.int (0))))) (tst (bin ltV (bin zK (zeR (var 14)) (var 3)) (zb (.int (1000000))))))) (zl (.nm 14) (bin z8 (var 14) (var 3))) zw)
    (z4 (zbj (var 7) (zU (za (var 9) (za (var 10) (za (var 14) ze))))))))) [some (.obj n), some (.int c), some (.int P), some (.int turn), some (.int v4), some (.int v5), some (.bl b6), some (.obj h.length), some (.int k), some (.int v9), some (.int v10), x, y, z, u] (h ++ [.lst (ts.map tD)]) =
      .nx [some (.obj n), some (.int c), some (.int P), some (.int turn), some (.int v4), some (.int v5), some (.bl b6), some (.obj h.length), some (.int k), x9', x10', x', y', z', u'] (h ++ [.lst ((ts ++ [t3]).map tD)])) := by
    intro v10 a0 a1 a2 x y z
    obtain ⟨n14, m0, m1, he⟩ := zA8 hn (c := c) (P := P) (turn := turn) (v4 := v4) (v5 := v5) (b6 := b6) hk (v9 := v9) (v10 := v10) (x := x) (y := y) (z := z) (u := u) hl ht h4 h4' h5
    exact ⟨⟨v9, v10, n14⟩, ⟨v90, v91, a0, a1, fun e => a2 e.symm, m0, m1⟩, _, _, _, _, _, _, he⟩
  generalize hT : (zf (zl (.nm 14) (bin z8 (zj zH (za (bin zb4 (var 10) (zb (.int (7919)))) (za (zb (.int (6))) (za (var 4) ze)))) (zj zH (za (bin zb4 (var 9) (zb (.int (7919)))) (za (zb (.int (6))) (za (var 4) ze))))))
    (zf (ifS (zb0 (tst (bin gtV (var 5) (zb (.int (0))))) (tst (bin eqV (zj zH (za (bin zh (var 0) (var 8)) (za (bin zK (bin zbA (var 8) (zb (.int (3)))) (zb (.int (9)))) (za (var 5) ze)))) (zb (.int (0)))))) (zl (.nm 14) (bin zK (var 14) (zb (.int (1))))) zw)
    (zf (ifS (zb0 (tst (bin gtV (var 3) (zb (.int (0))))) (zb0 (tst (bin eqV (zj zH (za (bin zh (var 0) (var 8)) (za (zb (.int (12))) (za (zb (.int (3))) ze)))) (zb (.int (0))))) (tst (bin ltV (bin zK (zeR (var 14)) (var 3)) (zb (.int (1000000))))))) (zl (.nm 14) (bin z8 (var 14) (var 3))) zw)
    (z4 (zbj (var 7) (zU (za (var 9) (za (var 10) (za (var 14) ze))))))))) = tl at *
  cases b6 with
  | false =>
    have hm := zp0 v90 v91 (c := 1 + d) (by omega) (by omega)
    rw [<- Int.add_assoc] at hm
    obtain ⟨t3, ok, x9', x10', x', y', z', u', he⟩ := first ((v9 + 1 + d) % P) hm.1 hm.2.1 hm.2.2 x y z
    refine ⟨t3, ok, x9', x10', x', y', z', u', ?_⟩
    rw [<- he]
    simp [zY, zp hn, hat, hd9, hd10, hP1]
  | true =>
    have hP3 := h6 rfl
    by_cases hh : v9 < P / 2
    . have q0 : 0 < P / 2 - 1 := by omega
      have q00 : 0 < P / 2 := by omega
      have f0 := zfi (hAt ns k) ((k : Int) % 7 + 2) q0
      have f1 := zfm (hAt ns k) ((k : Int) % 7 + 2) q0
      have hd11 := zdQ (a := hAt ns k) (b := (k : Int) % 7 + 2) q0
      generalize zc0 (hAt ns k) ((k : Int) % 7 + 2) (P / 2 - 1) = d2 at *
      have hm := zp0 v90 hh (c := 1 + d2) (by omega) (by omega)
      obtain ⟨t3, ok, x9', x10', x', y', z', u', he⟩ := first ((v9 + (1 + d2)) % (P / 2)) hm.1 (by omega) hm.2.2 (some (.int 0)) (some (.int (P / 2))) (some (.int (1 + d2)))
      refine ⟨t3, ok, x9', x10', x', y', z', u', ?_⟩
      rw [<- he]
      simp [zY, zp hn, hat, hd9, hd10, hP1, hh, hd11, q00]
    . have q0 : 0 < P - P / 2 - 1 := by omega
      have q00 : 0 < P - P / 2 := by omega
      have q1 : ¬ P / 2 = 0 := by omega
      have q2 : P / 2 < P := by omega
      have f0 := zfi (hAt ns k) ((k : Int) % 7 + 2) q0
      have f1 := zfm (hAt ns k) ((k : Int) % 7 + 2) q0
      have hd11 := zdQ (a := hAt ns k) (b := (k : Int) % 7 + 2) q0
      generalize zc0 (hAt ns k) ((k : Int) % 7 + 2) (P - P / 2 - 1) = d2 at *
      have hm := zp0 (v := v9 - P / 2) (m := P - P / 2) (by omega) (by omega) (c := 1 + d2) (by omega) (by omega)
      obtain ⟨t3, ok, x9', x10', x', y', z', u', he⟩ := first (P / 2 + (v9 - P / 2 + (1 + d2)) % (P - P / 2)) (by omega) (by omega) (by omega) (some (.int (P / 2))) (some (.int (P - P / 2))) (some (.int (1 + d2)))
      refine ⟨t3, ok, x9', x10', x', y', z', u', ?_⟩
      rw [<- he]
      simp [zY, zp hn, hat, hd9, hd10, hP1, hh, hd11, q00, q1, q2]
theorem zG8 (l : List Int) (a b : Int) {m : Int} (hm : (l.length : Int) = m) (h0 : 0 < m) : ∃ v, v ∈ l ∧ MI.atI (l.map D.int) (zc0 a b m) = some (.int v) :=
  ⟨hAt l (zc0 a b m), zpf (zfi _ _ h0) (by rw [hm]; exact zfm _ _ h0), zc3 (zfi _ _ h0) (by rw [hm]; exact zfm _ _ h0)⟩
theorem zsT (ds : List D) (i : Int) (e : zA) (h : MH) : zh (.tup ds) (.int i) e h = match MI.atI ds i with
    | some d => .ok d h
    | none => .bad := rfl
theorem ztR {j : Int} (hj : zcE j = true) (i : Int) (e : zA) (h : MH) : zb4 (.int i) (.int j) e h = .ok (.int (i * j)) h := by simp [hj]
theorem zr9 (h g : MH) {k : Nat} {o : O} (i j : Int) (e : g[k]? = some o) (f : o.flat = true) : gc h (.ok (.tup [.int i, .obj (h.length + k), .int j]) (h ++ g)) = .ok (.tup [.int i, .obj h.length, .int j]) (h ++ [o]) := by
  have hlt : ¬ h.length + k < h.length := by omega
  simp [gc, zer, gcV, zct, hlt, e, f, D.nr]
theorem zpl (a b : Int) {m : Int} (hm : 0 < m) : ∃ v, (∀ h, app zH [.int a, .int b, .int m] h = .ok (.int v) h) ∧ 0 <= v ∧ v < m := ⟨_, zdQ hm, zfi a b hm, zfm a b hm⟩
theorem zpE {ns : List Int} {n : Nat} {h : MH} (hn : h[n]? = some (.scr (ns.map .int))) {i : Int} (h0 : 0 <= i) : ∃ v, app zcF [.obj n, .int i] h = .ok (.int v) h := ⟨_, zB7 hn h0⟩
theorem ziu (l : List Int) (a b : Int) {m : Int} (hm : (l.length : Int) = m) (h0 : 0 < m) : ∃ x v, (∀ h, app zH [.int a, .int b, .int m] h = .ok (.int x) h) ∧ v ∈ l ∧ MI.atI (l.map D.int) x = some (.int v) := by
  obtain ⟨x, h1, h2, h3⟩ := zpl a b h0
  exact ⟨x, hAt l x, h1, zpf h2 (by omega), zc3 h2 (by omega)⟩
theorem zEx {ns : List Int} (hns : ns.length <= 63) {n : Nat} {h : MH} (hn : h[n]? = some (.scr (ns.map .int))) :
    ∃ (P : Nat) (turn : Int) (ts : List T3), app zfu [.obj n] h = .ok (.tup [.int P, .obj h.length, .int turn]) (h ++ [.lst (ts.map tD)]) ∧ 1 <= P ∧ P <= 100 ∧ 0 <= turn ∧ turn <= 1000000 ∧ ts.length <= 63 ∧ ∀ t ∈ ts, t.Ok P := by
  obtain ⟨y0, c0⟩ := zpE hn (i := 0) (by omega)
  obtain ⟨y1, c1⟩ := zpE hn (i := 1) (by omega)
  obtain ⟨y2, c2⟩ := zpE hn (i := 2) (by omega)
  obtain ⟨x1, a1, d1, p1, g1⟩ := ziu [1, 2, 3] y1 2 (m := 3) (by simp) (by omega)
  obtain ⟨x3, turn, d3, p3, g3⟩ := ziu [0, 0, 2, 3, 12, 1, 1000000] y2 3 (m := 7) (by simp) (by omega)
  obtain ⟨x4, v4, d4, p4, g4⟩ := ziu [2, 3, 40, 400000] y0 4 (m := 4) (by simp) (by omega)
  obtain ⟨x5, v5, d5, p5, g5⟩ := ziu [0, 0, 5, 30] y1 5 (m := 4) (by simp) (by omega)
  obtain ⟨x6, d6, _, _⟩ := zpl y2 8 (m := 4) (by omega)
  simp only [List.map_cons, List.map_nil] at g1 g3 g4 g5
  have a10 : 1 <= a1 ∧ a1 <= 3 := by simp at p1; omega
  have ht : 0 <= turn ∧ turn <= 1000000 := by simp at p3; omega
  have h4 : 0 < v4 ∧ v4 <= 400000 := by simp at p4; omega
  have h5 : 0 <= v5 := by simp at p5; omega
  have sm : zcE a1 = true := by simp [zcE]; omega
  obtain ⟨l, hl0⟩ : ∃ l : Int, l = (ns.length : Int) := ⟨_, rfl⟩
  have hlen : ∀ (e' : zA) (h' : MH), e'[0]? = some (some (.obj n)) -> h'[n]? = some (.scr (ns.map .int)) -> zbM (zbQ (var 0)) e' h' = .ok (.int l) h' := by
    intro e' h' h1 h2
    rw [hl0]
    simp [h1, h2]
  have hlt : l.toNat = ns.length := by omega
  obtain ⟨c, hc⟩ : ∃ c, l * a1 / 3 = c := ⟨_, rfl⟩
  have hc0 : 0 <= c ∧ c <= 63 := by
    have e1 : (0 : Int) <= l * a1 := Int.mul_nonneg (by omega) (by omega)
    have e2 : l * a1 <= 63 * 3 := Int.mul_le_mul (by omega) (by omega) (by omega) (by omega)
    omega
  obtain ⟨x2, d2, b0, b1⟩ := zpl y0 1 (m := 2 + c) (by omega)
  obtain ⟨P, hP⟩ : ∃ P : Nat, 2 + x2 = (P : Int) := ⟨(2 + x2).toNat, by omega⟩
  have hPb : 2 <= P ∧ P <= 100 := by omega
  obtain ⟨b6, hb6⟩ : ∃ b6 : Bool, b6 = (decide (3 < (P : Int)) && decide (x6 = 0)) := ⟨_, rfl⟩
  have h6 : b6 = true -> 3 < (P : Int) := by intro e; rw [e] at hb6; have := hb6.symm; simp at this; omega
  have loop := zg6 (t := .nm 8) (gs := []) (body := (zf (zl (.nm 9) (zj zH (za (bin zh (var 0) (var 8)) (za (bin zK (bin zbA (var 8) (zb (.int (5)))) (zb (.int (1)))) (za (var 2) ze)))))
    (zf (zl (.nm 10) (bin zbA (bin zK (bin zK (var 9) (zb (.int (1)))) (zj zH (za (bin zh (var 0) (var 8)) (za (bin zK (bin zbA (var 8) (zb (.int (7)))) (zb (.int (2)))) (za (bin z8 (var 2) (zb (.int (1)))) ze))))) (var 2)))
    (zf (ifS (tru (var 6)) (zf (zl (.nm 11) (ifE (tst (bin ltV (var 9) (bin zdE (var 2) (zb (.int (2)))))) (zb (.int (0))) (bin zdE (var 2) (zb (.int (2))))))
    (zf (zl (.nm 12) (ifE (tst (bin eqV (var 11) (zb (.int (0))))) (bin zdE (var 2) (zb (.int (2)))) (bin z8 (var 2) (var 11))))
    (zf (zl (.nm 13) (bin zK (zb (.int (1))) (zj zH (za (bin zh (var 0) (var 8)) (za (bin zK (bin zbA (var 8) (zb (.int (7)))) (zb (.int (2)))) (za (bin z8 (var 12) (zb (.int (1)))) ze))))))
    (zl (.nm 10) (bin zK (var 11) (bin zbA (bin zK (bin z8 (var 9) (var 11)) (var 13)) (var 12))))))) zw)
    (zf (zl (.nm 14) (bin z8 (zj zH (za (bin zb4 (var 10) (zb (.int (7919)))) (za (zb (.int (6))) (za (var 4) ze)))) (zj zH (za (bin zb4 (var 9) (zb (.int (7919)))) (za (zb (.int (6))) (za (var 4) ze))))))
    (zf (ifS (zb0 (tst (bin gtV (var 5) (zb (.int (0))))) (tst (bin eqV (zj zH (za (bin zh (var 0) (var 8)) (za (bin zK (bin zbA (var 8) (zb (.int (3)))) (zb (.int (9)))) (za (var 5) ze)))) (zb (.int (0)))))) (zl (.nm 14) (bin zK (var 14) (zb (.int (1))))) zw)
    (zf (ifS (zb0 (tst (bin gtV (var 3) (zb (.int (0))))) (zb0 (tst (bin eqV (zj zH (za (bin zh (var 0) (var 8)) (za (zb (.int (12))) (za (zb (.int (3))) ze)))) (zb (.int (0))))) (tst (bin ltV (bin zK (zeR (var 14)) (var 3)) (zb (.int (1000000))))))) (zl (.nm 14) (bin z8 (var 14) (var 3))) zw)
    (z4 (zbj (var 7) (zU (za (var 9) (za (var 10) (za (var 14) ze))))))))))))) (fun k : Nat => D.int k)
    (fun d e h' => ∃ ts x8 x9 x10 x y z u, e = [some (.obj n), some (.int c), some (.int P), some (.int turn), some (.int v4), some (.int v5), some (.bl b6), some (.obj h.length), x8, x9, x10, x, y, z, u] ∧ h' = h ++ [.lst (ts.map tD)] ∧ ts.length = d.length ∧ ∀ t ∈ ts, t.Ok P) (List.range ns.length) (by
    rintro d k r e h' eq ⟨ts, x8, x9, x10, x, y, z, u, rfl, rfl, hl, hok⟩
    refine ⟨rfl, _, rfl, ?_⟩
    have hk : k < ns.length := by
      have : k ∈ List.range ns.length := by rw [<- eq]; simp
      exact List.mem_range.1 this
    have hdl : d.length <= 63 := by
      have := congrArg List.length eq
      simp at this; omega
    obtain ⟨t3, ok, x9', x10', x', y', z', u', he⟩ := zA3 hn (c := c) (P := (P : Int)) (turn := turn) (v4 := v4) (v5 := v5) (b6 := b6) h6 (by omega) (by omega) hk (x9 := x9) (x10 := x10) (x := x) (y := y) (z := z) (u := u) (ts := ts) (by omega) ht.1 h4.1 h4.2 h5
    refine ⟨_, _, he, ts ++ [t3], _, _, _, _, _, _, _, rfl, rfl, by simp [hl], ?_⟩
    intro t htm
    rcases List.mem_append.1 htm with h1 | h1
    . exact hok t h1
    . simp at h1; subst h1; exact ok) (fun _ _ _ => rfl) [some (.obj n), some (.int c), some (.int P), some (.int turn), some (.int v4), some (.int v5), some (.bl b6), some (.obj h.length), none, none, none, none, none, none, none] (h ++ [.lst []])
      ⟨[], _, _, _, _, _, _, _, rfl, rfl, rfl, by simp⟩
  obtain ⟨e2, h2, hr, ts, x8, x9, x10, x, y, z, u, rfl, rfl, hl, hok⟩ := loop
  refine ⟨P, turn, ts, ?_, by omega, by omega, ht.1, ht.2, by rw [hl]; simp; omega, hok⟩
  unfold app zfu
  have q : (-1000000 : Int) <= ns.length ∧ (ns.length : Int) <= 1000000 := by omega
  have q1 : l <= 1000000 := by omega
  have q2 : (-1000000 : Int) <= l := by omega
  by_cases hb : 3 < (P : Int)
  . simp [hb] at hb6
    subst hb6
    simp [-ztY, hlen, hlt, -zr5, ztR sm, c0, c1, c2, hn, d1, d3, d4, d5, d6, zsT, g1, g3, g4, g5, hc, d2, hP, hb, q1, q2, zp hn, hr]
    exact zr9 h _ (k := 0) _ _ rfl (zhc ts)
  . simp [hb] at hb6
    subst hb6
    simp [-ztY, hlen, hlt, -zr5, ztR sm, c0, c1, c2, hn, d1, d3, d4, d5, d6, zsT, g1, g3, g4, g5, hc, d2, hP, hb, q1, q2, zp hn, hr]
    exact zr9 h _ (k := 0) _ _ rfl (zhc ts)
end Mx
end
section
open PySem MI
namespace Mx
open My
theorem zAX {h : MH} {l : Nat} {hs : List Int} (hl : h[l]? = some (.lst (hs.map .int))) (hn : hs.length <= 1000000) : app zf6 [.obj l] h = .ok (.bl true) h := by
  unfold app zf6
  have c := zeG (t := .nm 0) (gs := [(l, .lst (hs.map D.int))]) (elt := (orV (zcb .bool (var 0)) (un zgt (zcb .int (var 0))))) (h := h) D.int (fun _ => D.bl false) (fun e => ∃ d, e = [d]) (zco hl) hs (by
    rintro x hx _ ⟨d, rfl⟩
    exact ⟨_, rfl, ⟨_, rfl⟩, by simp [zbJ]⟩) [none] ⟨_, rfl⟩
  have b : zcl (hs.map fun _ => D.bl false) = some (hs.map fun _ => false) := by have := zh2 (hs.map fun _ => false); rwa [List.map_map] at this
  simp [hl, zbJ, zbT, hn, c, b]
theorem zCd {h : MH} {n r q : Nat} {P turn : Int} {ts : List T3} (hn : h[n]? = some (.lst (ts.map tD))) (hts : ∀ t ∈ ts, t.Ok P) (ht : 0 <= turn) (hl : ts.length <= 1000000) {hs : List Int} (hr : h[r]? = some (.ins 2 [(3, .obj q)])) (hq : h[q]? = some (.lst (hs.map .int))) (hh : hs.length <= 1000000) :
    app zcT [.int P, .obj n, .int turn, .obj r] h = .ok (.bl (decide ((hs.length : Int) = P) && ts.all (zcn hs turn))) h := by
  unfold app zcT
  have hd := zsL (zp hn [.lst [.bl false, .bl false, .bl false, .bl false]]) hts ht hl (zp hr _) (zp hq _)
  have hnu := zAX (zp hq [.lst [.bl false, .bl false, .bl false, .bl false]]) hh
  simp [hr, zW, zp hr, hnu, hd, zcl]
  exact zcL _ _ _
theorem zEp {h : MH} {n r q : Nat} {P turn : Int} {ts : List T3} (hn : h[n]? = some (.lst (ts.map tD))) (hts : ∀ t ∈ ts, t.Ok P) (ht : 0 <= turn) {S : List St} (hr : h[r]? = some (.ins 3 [(4, .obj q)])) (hq : h[q]? = some (.lst (S.map sD))) (hl : S.length < 3000) :
    app zcT [.int P, .obj n, .int turn, .obj r] h = .ok (.bl (dcd (zeu ts turn S))) h := by
  unfold app zcT
  have hd := ztP (zp hn [.lst [.bl false, .bl false, .bl false, .bl false]]) hts ht (zp hr _) (zp hq _) hl
  simp [hr, zW, zp hr, hd, zcl]
  exact zcL _ _ _
theorem zB9 (l : List T3) : MI.cut (l.map tD) (some 1) none = (l.drop 1).map tD := by
  cases l with
  | nil => rfl
  | cons x l =>
    have e : (min (1 : Int) ((l.length : Int) + 1)).toNat = 1 := by omega
    simp [MI.cut, sIx, e]
    exact List.take_of_length_le (by simp)
theorem zpp : ∀ l : List T3, zcI (l.map tD) (l.map tD) = true
  | [] => rfl
  | t :: l => by
    rw [List.map_cons, zcI, zpp l]
    simp [tD, peq, zcI]
theorem ztb (l : List T3) : (l.map tD).all (D.pl 5) = true := by simp [tD, D.pl]
theorem zDy {h : MH} {n m : Nat} {ts : List T3} (hn : h[n]? = some (.lst (ts.map tD))) (hm : h[m]? = some (.lst (ts.map tD))) (e : zA) : eqV (.obj n) (.obj m) e h = .ok (.bl true) h := by
  unfold eqV zcA
  simp only [hn, hm, ztb, if_pos, Cmp.eq, zpp]
theorem zDX {h : MH} {n m : Nat} {ts : List T3} (hn : h[n]? = some (.lst (ts.map tD))) (hm : h[m]? = some (.lst (ts.map tD))) (e : zA) : neV (.obj n) (.obj m) e h = .ok (.bl false) h := by
  unfold neV zcA
  simp only [hn, hm, ztb, if_pos, Cmp.eq, zpp]
  rfl
theorem zCA (a b : Int) (e : zA) (h : MH) : neV (.tup [.int a, .int b]) (.tup [.int a, .int b]) e h = .ok (.bl false) h := by
  unfold neV zcA
  simp [D.pl, Cmp.eq, peq, zcI]
theorem zCN {h : MH} {n : Nat} {ts : List T3} (hn : h[n]? = some (.lst (ts.map tD))) : zbW (.tp [0, 1, 2]) [(n, .lst (ts.map tD))] zbL (zU (za (var 1) (za (var 0) (za (un zcc (var 2)) ze)))) (ts.map tD) [] [none, none, none] h = .ok ((ts.map tn).map tD) h := by
  rw [List.map_map]
  exact zeG (t := .tp [0, 1, 2]) tD (fun t => tD (tn t)) (fun e => ∃ a b c, e = [a, b, c]) (zco hn) ts (by
    rintro x hx _ ⟨a, b, c, rfl⟩
    exact ⟨_, rfl, ⟨_, _, _, rfl⟩, by simp [tn, tD]⟩) [none, none, none] ⟨_, _, _, rfl⟩
@[simp] theorem lkS (a b : MF) : List.lookup 3 [(2, a), (3, b)] = some b := rfl
structure Ans (H : MH) (r c : Nat) (P : Nat) (turn : Int) (V : List T3 -> Bool) : Prop where
  cls : ∀ g, ∃ fs, (H ++ g)[r]? = some (.ins c fs)
  shows : ∃ f, zbO.lookup c = some f ∧ ∀ g w t ts, zbU (H ++ g) w t P turn ts -> ts.length <= 63 -> (∀ t ∈ ts, t.Ok P) -> app f [.obj r, .obj w] (H ++ g) = .ok (.bl (V ts)) (H ++ g)
  due : ∀ g n ts, (H ++ g)[n]? = some (.lst (ts.map tD)) -> ts.length <= 63 -> (∀ t ∈ ts, t.Ok P) -> app zb1 [.int P, .obj n, .int turn, .obj r] (H ++ g) = .ok (.bl (V ts)) (H ++ g)
  right : ∀ n ts, H[n]? = some (.lst (ts.map tD)) -> ts.length <= 63 -> (∀ t ∈ ts, t.Ok P) -> app zcT [.int P, .obj n, .int turn, .obj r] H = .ok (.bl (V ts)) H
theorem Ans.meth {H : MH} {r c P : Nat} {turn : Int} {V : List T3 -> Bool} (A : Ans H r c P turn V) {g g2 : MH} {w t : Nat} {ts : List T3} {X : ME D} {e : zA} (he : e[7]? = some (some (.obj r))) (hX : X e (H ++ g) = .ok (.obj w) (H ++ g2)) (W : zbU (H ++ g2) w t P turn ts) (hl : ts.length <= 63) (hts : ∀ t ∈ ts, t.Ok P) :
    zM zbO (var 7) (za X ze) e (H ++ g) = .ok (.bl (V ts)) (H ++ g2) := by
  obtain ⟨fs, hc⟩ := A.cls g
  obtain ⟨f, hf, hs⟩ := A.shows
  simp [he, hc, hf, hX, hs g2 w t ts W hl hts]
theorem ztv {H : MH} {w t n r c P : Nat} {turn : Int} {ts : List T3} {V : List T3 -> Bool} (A : Ans H r c P turn V) (hV : V ts = true) (W : zbU H w t P turn ts) (hn : H[n]? = some (.lst (ts.map tD))) (hts : ∀ t ∈ ts, t.Ok P) (hP0 : 1 <= P) (hP : P <= 100) (ht : 0 <= turn) (ht' : turn <= 1000000) (hl : ts.length <= 63) {x0 x4 x6 x8 : Option D} :
    ∃ x8' g, (zf (ifS (orT (zbg (tru (zj zcT (za (var 1) (za (var 2) (za (var 3) (za (var 7) ze))))))) (tst (bin zcd (zM zbO (var 7) (za (var 5) ze)) (zb (.bl true))))) (zr (zb (.bl false))) zw)
    (zf (zl (.nm 8) (zN (zb9 [none, none, none] (.tp [0, 1, 2]) (itL (var 2)) zbL (zU (za (var 1) (za (var 0) (za (un zcc (var 2)) ze)))))))
    (zf (ifS (tst (bin neV (zM zbO (var 7) (za (zj zdj (za (var 5) ze)) ze)) (zj zb1 (za (var 1) (za (var 8) (za (var 3) (za (var 7) ze))))))) (zr (zb (.bl false))) zw)
    (zf (ifS (tst (bin neV (zM zbO (var 7) (za (zj (mkF 0 zdI) (za (var 1) (za (zN (zc5 (var 2) (zcH (zb (.int (1)))) noP)) (za (var 3) ze)))) ze)) (zj zb1 (za (var 1) (za (zN (zc5 (var 2) (zcH (zb (.int (1)))) noP)) (za (var 3) (za (var 7) ze))))))) (zr (zb (.bl false))) zw)
    (zf (ifS (tru (zcj zW 2 (var 7))) (z4 (zbj (fld 3 (var 7)) (zb (.int (0))))) (z4 (zbj (fld 4 (var 7)) (bin zh (fld 4 (var 7)) (zb (.int (0)))))))
    (ifS (tst (bin zcd (zM zbO (var 7) (za (var 5) ze)) (zb (.bl false)))) (zr (zb (.bl false))) zw)))))) [x0, some (.int P), some (.obj n), some (.int turn), x4, some (.obj w), x6, some (.obj r), x8] H = (zf (ifS (tru (zcj zW 2 (var 7))) (z4 (zbj (fld 3 (var 7)) (zb (.int (0))))) (z4 (zbj (fld 4 (var 7)) (bin zh (fld 4 (var 7)) (zb (.int (0)))))))
    (ifS (tst (bin zcd (zM zbO (var 7) (za (var 5) ze)) (zb (.bl false)))) (zr (zb (.bl false))) zw)) [x0, some (.int P), some (.obj n), some (.int turn), x4, some (.obj w), x6, some (.obj r), x8'] (H ++ g) := by
  have htn : ∀ t ∈ ts.map tn, t.Ok P := fun t hm => by
    obtain ⟨t', h1, rfl⟩ := List.mem_map.1 hm
    exact zpG (hts t' h1)
  have htd : ∀ t ∈ ts.drop 1, t.Ok P := fun t hm => hts t (List.mem_of_mem_drop hm)
  have hdl : (ts.drop 1).length <= 63 := by simp; omega
  have hnl : (ts.map tn).length <= 63 := by simpa using hl
  have hl6 : ts.length <= 1000000 := by omega
  let g1 : MH := [.lst ((ts.map tn).map tD)]
  let g2 : MH := g1 ++ [.ins 0 [(0, .int P), (1, .int turn), (2, .obj (H.length + 2))], .lst ((ts.map tn).map tD)]
  let g3 : MH := g2 ++ [.lst ((ts.drop 1).map tD)]
  let g4 : MH := g3 ++ [.ins 0 [(0, .int P), (1, .int turn), (2, .obj (H.length + 5))], .lst ((ts.drop 1).map tD)]
  let g5 : MH := g4 ++ [.lst ((ts.drop 1).map tD)]
  let e1 : zA := [x0, some (.int P), some (.obj n), some (.int turn), x4, some (.obj w), x6, some (.obj r), x8]
  let e2 : zA := [x0, some (.int P), some (.obj n), some (.int turn), x4, some (.obj w), x6, some (.obj r), some (.obj H.length)]
  have st1 : (ifS (orT (zbg (tru (zj zcT (za (var 1) (za (var 2) (za (var 3) (za (var 7) ze))))))) (tst (bin zcd (zM zbO (var 7) (za (var 5) ze)) (zb (.bl true))))) (zr (zb (.bl false))) zw) e1 H = .nx e1 H := by
    have h1 := A.right n ts hn hl hts
    rw [hV] at h1
    have h2 := A.meth (g := []) (g2 := []) (X := var 5) (e := e1) (w := w) (t := t) (ts := ts) rfl (by simp [e1]) (by simpa using W) hl hts
    rw [hV] at h2
    simp only [List.append_nil] at h2
    have r1 : (zj zcT (za (var 1) (za (var 2) (za (var 3) (za (var 7) ze))))) e1 H = .ok (.bl true) H := by simp [e1, h1]
    simp only [zqa, zFE, zCO, zDh, r1, ziA, zBw, Bool.not_true, Bool.false_eq_true, if_false, zpo, ziM, h2]
    simp
  have st2 : (zl (.nm 8) (zN (zb9 [none, none, none] (.tp [0, 1, 2]) (itL (var 2)) zbL (zU (za (var 1) (za (var 0) (za (un zcc (var 2)) ze))))))) e1 H = .nx e2 (H ++ g1) := by
    have c := zCN hn
    simp [e1, e2, g1, hn, zbT, hl6]
    simp at c
    simp [c]
  have st3 : (ifS (tst (bin neV (zM zbO (var 7) (za (zj zdj (za (var 5) ze)) ze)) (zj zb1 (za (var 1) (za (var 8) (za (var 3) (za (var 7) ze))))))) (zr (zb (.bl false))) zw) e2 (H ++ g1) = .nx e2 (H ++ g2) := by
    have ha := ze8 (W.app g1) (by omega) (by omega) ht ht' hl6 hts
    have W2 := ztL (h := H ++ g1) (P := P) (turn := turn) (ts := ts.map tn)
    have h2 := A.meth (g := g1) (g2 := g2) (X := zj zdj (za (var 5) ze)) (e := e2) (w := H.length + 1) (t := H.length + 2) (ts := ts.map tn) rfl (by simp [e2, ha, g1, g2] at ha ⊢; rw [ha]) (by simpa [g1, g2] using W2) hnl htn
    have hd := A.due g2 H.length (ts.map tn) (by simp [g2, g1]) hnl htn
    simp only [zqa, zpo, ziM, h2]
    simp [e2, hd]
  have st4 : (ifS (tst (bin neV (zM zbO (var 7) (za (zj (mkF 0 zdI) (za (var 1) (za (zN (zc5 (var 2) (zcH (zb (.int (1)))) noP)) (za (var 3) ze)))) ze)) (zj zb1 (za (var 1) (za (zN (zc5 (var 2) (zcH (zb (.int (1)))) noP)) (za (var 3) (za (var 7) ze))))))) (zr (zb (.bl false))) zw) e2 (H ++ g2) = .nx e2 (H ++ g5) := by
    have hi := zqb (h := H ++ g3) (n := H.length + 3) (P := P) (turn := turn) (ts := ts.drop 1) (by simp [g3, g2, g1]) (by omega) (by omega) ht ht' (by omega) htd
    have W2 := ztL (h := H ++ g3) (P := P) (turn := turn) (ts := ts.drop 1)
    have hcut := zB9 ts
    have h2 := A.meth (g := g2) (g2 := g4) (X := (zj (mkF 0 zdI) (za (var 1) (za (zN (zc5 (var 2) (zcH (zb (.int (1)))) noP)) (za (var 3) ze))))) (e := e2) (w := H.length + 4) (t := H.length + 5) (ts := ts.drop 1) rfl (by
      simp [e2, zp hn, hcut]
      simp [g4, g3, g2, g1] at hi ⊢
      rw [hi]) (by simpa [g1, g2, g3, g4] using W2) hdl htd
    have hd := A.due g5 (H.length + 6) (ts.drop 1) (by simp [g5, g4, g3, g2, g1]) hdl htd
    simp only [zqa, zpo, ziM, h2]
    simp [e2, zp hn, hcut]
    simp [g5, g4, g3, g2, g1] at hd ⊢
    rw [hd]
    simp
  refine ⟨some (.obj H.length), g5, ?_⟩
  rw [zdh, st1, zc8, zdh, st2, zc8, zdh, st3, zc8, zdh, st4, zc8]
theorem zAH {H0 : MH} {P : Nat} {turn : Int} (ht : 0 <= turn) {hs : List Int} (hh : hs.length <= 1000) : Ans (H0 ++ [.ins 2 [(3, .obj (H0.length + 1))], .lst (hs.map .int)]) H0.length 2 P turn (fun ts => decide ((hs.length : Int) = P) && ts.all (zcn hs turn)) where
  cls := fun g => ⟨[(3, .obj (H0.length + 1))], zp (by simp) g⟩
  shows := ⟨zhi, rfl, fun g w t ts W hl hts => zeM (q := H0.length + 1) W hts ht (by omega) (zp (by simp) g) (zp (by simp) g) (by omega)⟩
  due := fun g n ts hn hl hts => zsL (q := H0.length + 1) hn hts ht (by omega) (zp (by simp) g) (zp (by simp) g)
  right := fun n ts hn hl hts => zCd hn hts ht (by omega) (q := H0.length + 1) (by simp) (by simp) (by omega)
theorem zDP {H0 : MH} {P : Nat} {turn : Int} (ht : 0 <= turn) {S : List St} (hh : S.length <= 1000) : Ans (H0 ++ [.ins 3 [(4, .obj (H0.length + 1))], .lst (S.map sD)]) H0.length 3 P turn (fun ts => dcd (zeu ts turn S)) where
  cls := fun g => ⟨[(4, .obj (H0.length + 1))], zp (by simp) g⟩
  shows := ⟨zhk, rfl, fun g w t ts W hl hts => zdV (q := H0.length + 1) W hts ht (zp (by simp) g) (zp (by simp) g) (by omega)⟩
  due := fun g n ts hn hl hts => ztP (q := H0.length + 1) hn hts ht (zp (by simp) g) (zp (by simp) g) (by omega)
  right := fun n ts hn hl hts => zEp hn hts ht (q := H0.length + 1) (by simp) (by simp) (by omega)
theorem zBo {H : MH} {w t n P : Nat} {turn : Int} {ts : List T3} (W : zbU H w t P turn ts) (hn : H[n]? = some (.lst (ts.map tD))) (hts : ∀ t ∈ ts, t.Ok P) (hP0 : 1 <= P) (hP : P <= 100) (ht : 0 <= turn) (ht' : turn <= 1000000) (hl : ts.length <= 63) {x0 x4 x6 x7 x8 : Option D} :
    ∃ x7' x8' g, (zf (zl (.nm 7) (zj zdJ (za (var 5) ze)))
    (zf (ifS (orT (zbg (tru (zj zcT (za (var 1) (za (var 2) (za (var 3) (za (var 7) ze))))))) (tst (bin zcd (zM zbO (var 7) (za (var 5) ze)) (zb (.bl true))))) (zr (zb (.bl false))) zw)
    (zf (zl (.nm 8) (zN (zb9 [none, none, none] (.tp [0, 1, 2]) (itL (var 2)) zbL (zU (za (var 1) (za (var 0) (za (un zcc (var 2)) ze)))))))
    (zf (ifS (tst (bin neV (zM zbO (var 7) (za (zj zdj (za (var 5) ze)) ze)) (zj zb1 (za (var 1) (za (var 8) (za (var 3) (za (var 7) ze))))))) (zr (zb (.bl false))) zw)
    (zf (ifS (tst (bin neV (zM zbO (var 7) (za (zj (mkF 0 zdI) (za (var 1) (za (zN (zc5 (var 2) (zcH (zb (.int (1)))) noP)) (za (var 3) ze)))) ze)) (zj zb1 (za (var 1) (za (zN (zc5 (var 2) (zcH (zb (.int (1)))) noP)) (za (var 3) (za (var 7) ze))))))) (zr (zb (.bl false))) zw)
    (zf (ifS (tru (zcj zW 2 (var 7))) (z4 (zbj (fld 3 (var 7)) (zb (.int (0))))) (z4 (zbj (fld 4 (var 7)) (bin zh (fld 4 (var 7)) (zb (.int (0)))))))
    (ifS (tst (bin zcd (zM zbO (var 7) (za (var 5) ze)) (zb (.bl false)))) (zr (zb (.bl false))) zw))))))) [x0, some (.int P), some (.obj n), some (.int turn), x4, some (.obj w), x6, x7, x8] H = .nx [x0, some (.int P), some (.obj n), some (.int turn), x4, some (.obj w), x6, x7', x8'] (H ++ g) := by
  rcases zfD W hts hP0 (by omega) hl ht with ⟨hs, hlv, hlen, hall⟩ | ⟨S, hlv, hR, hSl⟩
  . obtain ⟨x8', g, hm⟩ := ztv (x0 := x0) (x4 := x4) (x6 := x6) (x8 := x8) (zAH (H0 := H) (P := P) ht (hs := hs) (by omega)) (by simp [hlen, hall]) (W.app _) (zp hn _) hts hP0 hP ht ht' hl
    have st : (zl (.nm 7) (zj zdJ (za (var 5) ze))) [x0, some (.int P), some (.obj n), some (.int turn), x4, some (.obj w), x6, x7, x8] H = .nx [x0, some (.int P), some (.obj n), some (.int turn), x4, some (.obj w), x6, some (.obj H.length), x8] (H ++ [.ins 2 [(3, .obj (H.length + 1))], .lst (hs.map .int)]) := by
      simp [hlv]
    refine ⟨some (.obj H.length), x8', .ins 2 [(3, .obj (H.length + 1))] :: .lst ((hs ++ [0]).map .int) :: g, ?_⟩
    rw [zdh, st, zc8, hm]
    have W2 := W.app (.ins 2 [(3, .obj (H.length + 1))] :: .lst ((hs ++ [0]).map .int) :: g)
    have hsh := zeM W2 hts ht (by omega) (r := H.length) (q := H.length + 1) (hs := hs ++ [0]) (by simp) (by simp) (by simp; omega)
    have hne : ¬ ((hs ++ [0]).length : Int) = P := by simp; omega
    simp only [hne, decide_false, Bool.false_and] at hsh
    have hl2 : hs.length < 1000000 := by omega
    simp at hsh
    simp [zW, zc4, hl2, zbO, hsh]
  . obtain ⟨x8', g, hm⟩ := ztv (x0 := x0) (x4 := x4) (x6 := x6) (x8 := x8) (zDP (H0 := H) (P := P) ht (S := S) (by omega)) (by simp [zpi hR]) (W.app _) (zp hn _) hts hP0 hP ht ht' hl
    have st : (zl (.nm 7) (zj zdJ (za (var 5) ze))) [x0, some (.int P), some (.obj n), some (.int turn), x4, some (.obj w), x6, x7, x8] H = .nx [x0, some (.int P), some (.obj n), some (.int turn), x4, some (.obj w), x6, some (.obj H.length), x8] (H ++ [.ins 3 [(4, .obj (H.length + 1))], .lst (S.map sD)]) := by
      simp [hlv]
    obtain ⟨s, S', rfl⟩ : ∃ s S', S = s :: S' := by
      obtain ⟨_, s, _, _, hd, _⟩ := hR
      cases S with
      | nil => cases hd
      | cons a b => exact ⟨a, b, rfl⟩
    refine ⟨some (.obj H.length), x8', .ins 3 [(4, .obj (H.length + 1))] :: .lst ((s :: S' ++ [s]).map sD) :: g, ?_⟩
    rw [zdh, st, zc8, hm]
    have W2 := W.app (.ins 3 [(4, .obj (H.length + 1))] :: .lst ((s :: S' ++ [s]).map sD) :: g)
    have hsh := zdV W2 hts ht (r := H.length) (q := H.length + 1) (S := s :: S' ++ [s]) (by simp) (by simp) (by simp at hSl ⊢; omega)
    rw [zcM (by
      rintro ⟨_, _, _, _, _, _, _, _, _, h6, _⟩
      simp at h6)] at hsh
    have hl2 : S'.length + 1 < 1000000 := by simp at hSl; omega
    simp at hsh
    simp [zW, zc4, hl2, zbO, hsh, zY]
theorem zt5 (h : MH) : guard [] h = true := rfl
theorem law_true (ns : List Int) (h63 : ns.length <= 63) : ∃ h', zhl [.obj 0] [.scr (ns.map .int)] = .ok (.bl true) h' := by
  obtain ⟨P, turn, ts, hw, hP0, hP, ht, ht', hl, hts⟩ := zEx h63 (n := 0) (h := [.scr (ns.map .int)]) rfl
  have hl6 : ts.length <= 1000000 := by omega
  have hwi := zqb (h := [.scr (ns.map .int), .lst (ts.map tD), .lst (ts.map tD)]) (n := 2) (P := P) (turn := turn) (ts := ts) rfl (by omega) (by omega) ht ht' hl6 hts
  let B : MH := [.scr (ns.map .int), .lst (ts.map tD), .lst (ts.map tD ++ [.tup [.int 0, .int 0, .int 0]]), .ins 0 [(0, .int P), (1, .int turn), (2, .obj 4)], .lst (ts.map tD)]
  have WB : zbU B 3 4 P turn ts := ⟨rfl, rfl⟩
  have hB1 : B[1]? = some (.lst (ts.map tD)) := rfl
  have hti := fun g => zbR (WB.app g)
  have loop := zg6 (t := .nm 6) (gs := []) (body := (zf (zl (.nm 7) (zj zdJ (za (var 5) ze)))
    (zf (ifS (orT (zbg (tru (zj zcT (za (var 1) (za (var 2) (za (var 3) (za (var 7) ze))))))) (tst (bin zcd (zM zbO (var 7) (za (var 5) ze)) (zb (.bl true))))) (zr (zb (.bl false))) zw)
    (zf (zl (.nm 8) (zN (zb9 [none, none, none] (.tp [0, 1, 2]) (itL (var 2)) zbL (zU (za (var 1) (za (var 0) (za (un zcc (var 2)) ze)))))))
    (zf (ifS (tst (bin neV (zM zbO (var 7) (za (zj zdj (za (var 5) ze)) ze)) (zj zb1 (za (var 1) (za (var 8) (za (var 3) (za (var 7) ze))))))) (zr (zb (.bl false))) zw)
    (zf (ifS (tst (bin neV (zM zbO (var 7) (za (zj (mkF 0 zdI) (za (var 1) (za (zN (zc5 (var 2) (zcH (zb (.int (1)))) noP)) (za (var 3) ze)))) ze)) (zj zb1 (za (var 1) (za (zN (zc5 (var 2) (zcH (zb (.int (1)))) noP)) (za (var 3) (za (var 7) ze))))))) (zr (zb (.bl false))) zw)
    (zf (ifS (tru (zcj zW 2 (var 7))) (z4 (zbj (fld 3 (var 7)) (zb (.int (0))))) (z4 (zbj (fld 4 (var 7)) (bin zh (fld 4 (var 7)) (zb (.int (0)))))))
    (ifS (tst (bin zcd (zM zbO (var 7) (za (var 5) ze)) (zb (.bl false)))) (zr (zb (.bl false))) zw)))))))) (fun k : Nat => D.int k)
    (fun d e h' => ∃ x6 x7 x8 g, e = [some (.obj 0), some (.int P), some (.obj 1), some (.int turn), some (.obj 2), some (.obj 3), x6, x7, x8] ∧ h' = B ++ g) [0, 1] (by
    rintro d k r e h' eq ⟨x6, x7, x8, g, rfl, rfl⟩
    refine ⟨zt5 _, _, rfl, ?_⟩
    obtain ⟨x7', x8', g', he⟩ := zBo (WB.app g) (zp hB1 g) hts hP0 hP ht ht' hl (x0 := some (.obj 0)) (x4 := some (.obj 2)) (x6 := some (.int k)) (x7 := x7) (x8 := x8)
    exact ⟨_, _, he, some (.int k), x7', x8', g ++ g', rfl, by rw [List.append_assoc]⟩) (fun _ _ _ => zt5 _) [some (.obj 0), some (.int P), some (.obj 1), some (.int turn), some (.obj 2), some (.obj 3), none, none, none] (B ++ [.lst (ts.map tD), .lst []]) ⟨none, none, none, _, rfl, rfl⟩
  obtain ⟨e2, h2, hr, x6, x7, x8, g, rfl, rfl⟩ := loop
  have h1 := hti []
  have h2 := hti [.lst (ts.map tD)]
  have h3 := hti g
  have n1 := zDX (h := B ++ [.lst (ts.map tD)]) (n := 5) (m := 1) (ts := ts) rfl rfl
  have n2 := zDy (h := B ++ (g ++ [.lst (ts.map tD)])) (n := (B ++ g).length) (m := 1) (ts := ts) (by rw [<- List.append_assoc]; simp) (zp hB1 _)
  have hBl : B.length = 5 := rfl
  have hB3 := WB.wA
  let e0 : zA := [some (.obj 0), none, none, none, none, none, none, none, none]
  let e1 : zA := [some (.obj 0), some (.int P), some (.obj 1), some (.int turn), none, none, none, none, none]
  let e2 : zA := [some (.obj 0), some (.int P), some (.obj 1), some (.int turn), some (.obj 2), none, none, none, none]
  let e3 : zA := [some (.obj 0), some (.int P), some (.obj 1), some (.int turn), some (.obj 2), some (.obj 3), none, none, none]
  let e4 : zA := [some (.obj 0), some (.int P), some (.obj 1), some (.int turn), some (.obj 2), some (.obj 3), x6, x7, x8]
  have stA : (zl (.tp [1, 2, 3]) (zj zfu (za (var 0) ze))) e0 [.scr (ns.map .int)] = .nx e1 [.scr (ns.map .int), .lst (ts.map tD)] := by
    simp [e0, e1, hw]
  have stB : (zl (.nm 4) (zN (zes (var 2)))) e1 [.scr (ns.map .int), .lst (ts.map tD)] = .nx e2 [.scr (ns.map .int), .lst (ts.map tD), .lst (ts.map tD)] := by
    simp [e1, e2]
  have stC : (zl (.nm 5) (zj (mkF 0 zdI) (za (var 1) (za (var 4) (za (var 3) ze))))) e2 [.scr (ns.map .int), .lst (ts.map tD), .lst (ts.map tD)] = .nx e3 [.scr (ns.map .int), .lst (ts.map tD), .lst (ts.map tD), .ins 0 [(0, .int P), (1, .int turn), (2, .obj 4)], .lst (ts.map tD)] := by
    simp [e2, e3, hwi]
  have hl7 : ts.length < 1000000 := by omega
  have stD : (z4 (zbj (var 4) (zU (za (zb (.int (0))) (za (zb (.int (0))) (za (zb (.int (0))) ze)))))) e3 [.scr (ns.map .int), .lst (ts.map tD), .lst (ts.map tD), .ins 0 [(0, .int P), (1, .int turn), (2, .obj 4)], .lst (ts.map tD)] = .nx e3 B := by
    simp [e3, zc4, hl7, B]
  have WB0 := WB.w
  have stE : (ifS (orT (tst (bin neV (zU (za (fld 0 (var 5)) (za (fld 1 (var 5)) ze))) (zU (za (var 1) (za (var 3) ze))))) (tst (bin neV (zM z7 (var 5) ze) (var 2)))) (zr (zb (.bl false))) zw) e3 B = .nx e3 (B ++ [.lst (ts.map tD)]) := by
    simp only [List.append_nil, hBl] at h1
    simp only [e3]
    simp [WB0, zCA, z7, h1, n1]
  have stF : (z4 (zhK (zM z7 (var 5) ze))) e3 (B ++ [.lst (ts.map tD)]) = .nx e3 (B ++ [.lst (ts.map tD), .lst []]) := by
    have hg := zg9 B [O.lst (ts.map tD), O.lst (ts.map tD)] 1
    have hs := zsX B [O.lst (ts.map tD), O.lst (ts.map tD)] 1 (.lst [])
    rw [hBl] at hg hs
    simp at hg hs
    simp only [List.append_assoc, List.length_append, hBl] at h2
    simp at h2
    simp only [e3]
    simp [hB3, z7, h2, hg, hs]
  have stG : (zdP (.nm 6) (itR (zb (.int (2))))
    (zf (zl (.nm 7) (zj zdJ (za (var 5) ze)))
    (zf (ifS (orT (zbg (tru (zj zcT (za (var 1) (za (var 2) (za (var 3) (za (var 7) ze))))))) (tst (bin zcd (zM zbO (var 7) (za (var 5) ze)) (zb (.bl true))))) (zr (zb (.bl false))) zw)
    (zf (zl (.nm 8) (zN (zb9 [none, none, none] (.tp [0, 1, 2]) (itL (var 2)) zbL (zU (za (var 1) (za (var 0) (za (un zcc (var 2)) ze)))))))
    (zf (ifS (tst (bin neV (zM zbO (var 7) (za (zj zdj (za (var 5) ze)) ze)) (zj zb1 (za (var 1) (za (var 8) (za (var 3) (za (var 7) ze))))))) (zr (zb (.bl false))) zw)
    (zf (ifS (tst (bin neV (zM zbO (var 7) (za (zj (mkF 0 zdI) (za (var 1) (za (zN (zc5 (var 2) (zcH (zb (.int (1)))) noP)) (za (var 3) ze)))) ze)) (zj zb1 (za (var 1) (za (zN (zc5 (var 2) (zcH (zb (.int (1)))) noP)) (za (var 3) (za (var 7) ze))))))) (zr (zb (.bl false))) zw)
    (zf (ifS (tru (zcj zW 2 (var 7))) (z4 (zbj (fld 3 (var 7)) (zb (.int (0))))) (z4 (zbj (fld 4 (var 7)) (bin zh (fld 4 (var 7)) (zb (.int (0)))))))
    (ifS (tst (bin zcd (zM zbO (var 7) (za (var 5) ze)) (zb (.bl false)))) (zr (zb (.bl false))) zw)))))))) e3 (B ++ [.lst (ts.map tD), .lst []]) = .nx e4 (B ++ g) := by
    simp only [zDC, zDU, zDj, ziA]
    exact hr
  have stH : (zr (bin eqV (zM z7 (var 5) ze) (var 2))) e4 (B ++ g) = .rt (.bl true) (B ++ (g ++ [.lst (ts.map tD)])) := by
    rw [List.append_assoc] at h3
    simp only [e4]
    simp only [zDA, ziM, zA4, zCC, List.getElem?_cons_succ, List.getElem?_cons_zero, ziA, hB3, z7, List.lookup_cons, beq_self_eq_true, zDK, h3, n2, ztt]
  refine ⟨B ++ (g ++ [.lst (ts.map tD)]), ?_⟩
  unfold zhl
  have e00 : ([D.obj 0].map some ++ List.replicate (9 - 1) none : zA) = e0 := rfl
  rw [zEb, if_pos (show [D.obj 0].length = 1 from rfl), e00, zdh, stA, zc8, zdh, stB, zc8, zdh, stC, zc8, zdh, stD, zc8, zdh, stE, zc8, zdh, stF, zc8, zdh, stG, zc8, stH]
  rfl
end Mx
end
section
namespace L2
open PySem PySem.Spec PyProof.Rows
abbrev Key := Sum Int Str
def zhe : Key -> Value -> Bool
  | .inl k, v => Value.isInt k v
  | .inr x, v => Value.isStrOf x v
def zAK (w : World) : Key -> Int
  | .inl k => hashInt k
  | .inr x => hashStr w x
theorem ze4 : ∀ {k : Key} {v : Value}, zhe k v = true -> (∃ i t, k = Sum.inl i ∧ v = Value.int i t) ∨ (∃ x t, k = Sum.inr x ∧ v = Value.str x t)
  | .inl i, v, h => by
    obtain ⟨t, e⟩ := Value.isInt_shape (k := i) (v := v) h
    exact .inl ⟨i, t, rfl, e⟩
  | .inr x, v, h => by
    obtain ⟨t, e⟩ := Value.isStrOf_shape (x := x) (v := v) h
    exact .inr ⟨x, t, rfl, e⟩
theorem zDo (i : Int) (t : Tok) : zhe (.inl i) (.int i t) = true := by simp [zhe, Value.isInt]
theorem zAr (x : Str) (t : Tok) : zhe (.inr x) (.str x t) = true := by simp [zhe, Value.isStrOf]
theorem zER (a b : Int) : decide ((Sum.inl a : Key) = Sum.inl b) = (a == b) := by
  by_cases e : a = b
  . subst e; simp
  . have h : ¬ (Sum.inl a : Key) = Sum.inl b := fun q => e (Sum.inl.inj q)
    rw [decide_eq_false h]
    exact (beq_eq_false_iff_ne.mpr e).symm
theorem zFw (a b : Str) : decide ((Sum.inr a : Key) = Sum.inr b) = decide (a = b) := by
  by_cases e : a = b
  . subst e; simp
  . have h : ¬ (Sum.inr a : Key) = Sum.inr b := fun q => e (Sum.inr.inj q)
    rw [decide_eq_false h, decide_eq_false e]
theorem zEf (a : Int) (b : Str) : decide ((Sum.inl a : Key) = Sum.inr b) = false := decide_eq_false (fun q => nomatch q)
theorem zD4 (a : Str) (b : Int) : decide ((Sum.inr a : Key) = Sum.inl b) = false := decide_eq_false (fun q => nomatch q)
def zbZ (prog : Program) (w : World) : PySem.KeyKind prog w Key where
  is := zhe
  hash := zAK w
  inj := fun v a b ha hb => by
    rcases ze4 ha with ⟨i, t, rfl, rfl⟩ | ⟨x, t, rfl, rfl⟩
    . rcases ze4 hb with ⟨j, u, rfl, e⟩ | ⟨y, u, rfl, e⟩
      . injection e with e1 _; rw [e1]
      . exact nomatch e
    . rcases ze4 hb with ⟨j, u, rfl, e⟩ | ⟨y, u, rfl, e⟩
      . exact nomatch e
      . injection e with e1 _; rw [e1]
  byValue := fun k v h => by
    rcases ze4 h with ⟨i, t, rfl, rfl⟩ | ⟨x, t, rfl, rfl⟩ <;> rfl
  pyHash := fun hv h => by
    rcases ze4 hv with ⟨i, t, rfl, rfl⟩ | ⟨x, t, rfl, rfl⟩
    . exact wpAny_pyHash_int h
    . exact wpAny_pyHash_str h
  eqBool := fun hu hv h => by
    rcases ze4 hu with ⟨i, t, rfl, rfl⟩ | ⟨x, t, rfl, rfl⟩
    . rcases ze4 hv with ⟨j, u, rfl, rfl⟩ | ⟨y, u, rfl, rfl⟩
      . rw [zER] at h; exact wpAny_eqBool_int h
      . rw [zEf] at h; exact SeqAt.EqAt.int_str i t y u _ _ _ _ h
    . rcases ze4 hv with ⟨j, u, rfl, rfl⟩ | ⟨y, u, rfl, rfl⟩
      . rw [zD4] at h; exact SeqAt.EqAt.str_int x t j u _ _ _ _ h
      . rw [zFw] at h; exact wpAny_eqBool_str h
  «strs» := fun k x t v h => by
    rcases ze4 h with ⟨i, u, rfl, e⟩ | ⟨y, u, rfl, e⟩
    . exact nomatch e
    . injection e with e1 _
      subst e1
      cases v <;> rfl
theorem zCQ (prog : Program) (w : World) (i : Int) (t : Tok) : (zbZ prog w).is (.inl i) (.int i t) = true := zDo i t
theorem zEa (prog : Program) (w : World) (x : Str) (t : Tok) : (zbZ prog w).is (.inr x) (.str x t) = true := zAr x t
end L2
namespace L2
open PySem PySem.Spec PyProof.Rows
inductive V where
  | non | bl (b : Bool) | int (i : Int) | str (x : Str) | byt (b : Array UInt8) | flt (b : UInt64) | ref (a : Addr) | ty (n : String)
  deriving DecidableEq
def zu : V -> Value -> Prop
  | .non, u => u = Value.none
  | .bl b, u => u = Value.bool b
  | .int i, u => ∃ t, u = Value.int i t
  | .str x, u => ∃ t, u = Value.str x t
  | .byt b, u => ∃ t, u = Value.bytes b t
  | .flt b, u => ∃ t, u = Value.float b t
  | .ref a, u => u = Value.ref a
  | .ty n, u => u = Value.type n
abbrev zy : List V -> List Value -> Prop := Paired zu
theorem zy.length {xs : List V} {us : List Value} (r : zy xs us) : xs.length = us.length := Paired.length r
theorem zy.get : ∀ {xs : List V} {us : List Value} {i : Nat} {x : V}, zy xs us -> xs[i]? = some x -> ∃ u, us[i]? = some u ∧ zu x u
  | _, _, _, _, .nil, e => by simp at e
  | _, _, 0, _, .cons r _, e => by simp at e; subst e; exact ⟨_, rfl, r⟩
  | _, _, i + 1, x, .cons _ t, e => by
    obtain ⟨u, h1, h2⟩ := zy.get (i := i) (x := x) t (by simpa using e)
    exact ⟨u, by simpa using h1, h2⟩
theorem zy.set {x : V} {u : Value} (r : zu x u) : ∀ {xs : List V} {us : List Value} (i : Nat), zy xs us -> zy (xs.set i x) (us.set i u)
  | _, _, _, .nil => .nil
  | _, _, 0, .cons _ t => .cons r t
  | _, _, i + 1, .cons q t => .cons q (zy.set r i t)
theorem zy.append : ∀ {xs ys : List V} {us ws : List Value}, zy xs us -> zy ys ws -> zy (xs ++ ys) (us ++ ws)
  | _, _, _, _, .nil, s => s
  | _, _, _, _, .cons r t, s => .cons r (zy.append t s)
theorem zy.take : ∀ {xs : List V} {us : List Value} (n : Nat), zy xs us -> zy (xs.take n) (us.take n)
  | _, _, 0, _ => .nil
  | _, _, _ + 1, .nil => .nil
  | _, _, n + 1, .cons r t => .cons r (zy.take n t)
theorem zy.drop : ∀ {xs : List V} {us : List Value} (n : Nat), zy xs us -> zy (xs.drop n) (us.drop n)
  | _, _, 0, r => r
  | _, _, _ + 1, .nil => .nil
  | _, _, n + 1, .cons _ t => zy.drop n t
def zc1 : Option V -> Option Value -> Prop
  | some v, some u => zu v u
  | none, none => True
  | _, _ => False
def KV {κ : Type} : List (κ × V) -> List (κ × Value) -> Prop := Paired fun (p : κ × V) (q : κ × Value) => p.1 = q.1 ∧ zu p.2 q.2
def kV : Key -> V
  | .inl i => .int i
  | .inr x => .str x
inductive HO where
  | lst (xs : List V)
  | tup (xs : List V)
  | dK (kvs : List (Key × V)) | dT (kvs : List (List Key × V))
  | set (S : Int -> Bool) (n : Nat)
  | ins (C dx : Addr) (fs : List (Str × V))
  | own (x : Addr)
  | xd (fs : List (Str × V))
  | met (f x : Addr)
  | rng (lo hi : Int)
  | frz (o : Obj) (u : HO)
  | tbl (ps : Array Value)
  | ext (φ : Heap -> Prop)
abbrev Hp := Addr -> Option HO
def upd (H : Hp) (a : Addr) (o : HO) : Hp := fun b => if b = a then some o else H b
theorem zbN {H : Hp} {a : Addr} {o : HO} : upd H a o a = some o := by unfold upd; rw [if_pos rfl]
theorem zD {H : Hp} {a b : Addr} {o : HO} (h : b ≠ a) : upd H a o b = H b := by unfold upd; rw [if_neg h]
theorem zAL {H : Hp} {a b : Addr} {o u : HO} (h : H a = some o) (h' : H b = some u) (d : o ≠ u) : a ≠ b := by
  intro e; subst e; rw [h] at h'; exact d (Option.some.inj h')
theorem zdN {H : Hp} {a b : Addr} {o : HO} (h : H a = some o) (h' : H b = none) : a ≠ b := by
  intro e; subst e; rw [h] at h'; cases h'
section
variable (P : Program) (w : World)
def zbn (H : Hp) (h : Heap) (a : Addr) : HO -> Prop
  | .lst xs => xs.length <= sizeLine ∧ ∃ (its : List Value) (n : Nat), zy xs its ∧ h.get? a = some { cls := .type "list", data := .seq its.toArray n }
  | .tup xs => xs.length <= sizeLine ∧ ∃ its : List Value, zy xs its ∧ IsTup h a its.toArray
  | .dK kvs => kvs.length <= sizeLine ∧ (a == sysModules) = false ∧ ∃ vs, KV kvs vs ∧ h.DictOf (zbZ P w) a vs
  | .dT kvs => kvs.length <= sizeLine ∧ (a == sysModules) = false ∧ ∃ xs : List (List Key × Addr × Value),
      Paired (fun (p : List Key × V) (q : List Key × Addr × Value) => p.1 = q.1 ∧ H q.2.1 = some (.tup (p.1.map kV)) ∧ zu p.2 q.2.2) kvs xs ∧
      ∃ o es ep, h.get? a = some o ∧ o.ExactDict ∧ o.data = .dict es ep ∧ es.toList = xs.map (entryOfKey (tupleKind (zbZ P w))) ∧ (xs.map (·.1)).Nodup
  | .set S n => h.SetOf (intKind P w) a S n
  | .ins C dx fs => H dx = some (.own a) ∧ fs.length <= 1000 ∧ dx ≠ a ∧ h.get? a = some (PySem.W.instObj C dx) ∧
      ∃ mA, h.Ns1 dx mA ∧ (∀ f, zc1 (fs.lookup f) (mA f)) ∧ PySem.Within mA (fs.map (·.1))
  | .own _ => ∃ o, h.get? a = some o
  | .xd fs => ∃ mA, h.Ns1 a mA ∧ ∀ f, zc1 (fs.lookup f) (mA f)
  | .rng lo hi => ∃ t u v, h.get? a = some { cls := .type "range", data := .fields #[.int lo t, .int hi u, .int 1 v] }
  | .frz o u => h.get? a = some o ∧ zbn H h a u
  | .tbl ps => h.get? a = some { cls := .none, data := .fields ps }
  | .met f x => h.get? a = some (PySem.W.methodObj (.ref f) (.ref x))
  | .ext φ => φ h ∧ (∃ o, h.get? a = some o) ∧ ∀ h1 h2 : Heap, φ h1 -> (∀ o, h1.get? a = some o -> h2.get? a = some o) -> φ h2
def HOk (H : Hp) (h : Heap) : Prop := ∀ a o, H a = some o -> zbn P w H h a o
end
section
variable {P : Program} {w : World} {H H' : Hp} {h h' : Heap} {a : Addr} {o : HO}
theorem zbn.lt (x : zbn P w H h a o) : a < h.objs.size := by
  cases o with
  | lst xs => obtain ⟨_, _, _, _, e⟩ := x; exact Heap.lt_size e
  | tup xs => obtain ⟨_, _, _, p⟩ := x; exact p.lt
  | dK kvs => obtain ⟨_, _, _, _, o, _, _, e, _⟩ := x; exact Heap.lt_size e
  | dT kvs => obtain ⟨_, _, _, _, o, _, _, e, _⟩ := x; exact Heap.lt_size e
  | set S n => obtain ⟨o, _, _, _, e, _⟩ := x; exact Heap.lt_size e
  | ins C dx fs => obtain ⟨_, _, _, e, _⟩ := x; exact Heap.lt_size e
  | own y => obtain ⟨_, e⟩ := x; exact Heap.lt_size e
  | xd fs => obtain ⟨_, ⟨_, _, _, e, _⟩, _⟩ := x; exact Heap.lt_size e
  | rng lo hi => obtain ⟨_, _, _, e⟩ := x; exact Heap.lt_size e
  | frz ob u => obtain ⟨e, _⟩ := x; exact Heap.lt_size e
  | tbl ps => exact Heap.lt_size (show h.get? a = some _ from x)
  | met f y => exact Heap.lt_size (show h.get? a = some _ from x)
  | ext φ => obtain ⟨_, ⟨_, e⟩, _⟩ := x; exact Heap.lt_size e
theorem Paired.mapP {α β : Type} {F G : α -> β -> Prop} : ∀ {l₁ : List α} {l₂ : List β}, Paired F l₁ l₂ -> (∀ a b, F a b -> G a b) -> Paired G l₁ l₂
  | _, _, .nil, _ => .nil
  | _, _, .cons r t, f => .cons (f _ _ r) (Paired.mapP t f)
theorem zbn.stay (x : zbn P w H h a o) (k : ∀ b u, (b = a ∨ H b = some (.own a)) -> h.get? b = some u -> h'.get? b = some u)
    (ho : ∀ b, H b = some (.own a) -> H' b = some (.own a)) (ht : ∀ b xs, H b = some (.tup xs) -> H' b = some (.tup xs)) : zbn P w H' h' a o := by
  induction o with
  | lst xs => obtain ⟨z, its, n, r, e⟩ := x; exact ⟨z, its, n, r, k _ _ (.inl rfl) e⟩
  | tup xs => obtain ⟨z, its, r, ob, e, c⟩ := x; exact ⟨z, its, r, ob, k _ _ (.inl rfl) e, c⟩
  | dK kvs => obtain ⟨z, y, vs, r, ob, es, ep, e, c⟩ := x; exact ⟨z, y, vs, r, ob, es, ep, k _ _ (.inl rfl) e, c⟩
  | dT kvs =>
    obtain ⟨z, y, xs, r, ob, es, ep, e, c⟩ := x
    exact ⟨z, y, xs, Paired.mapP r fun p q z => ⟨z.1, ht _ _ z.2.1, z.2.2⟩, ob, es, ep, k _ _ (.inl rfl) e, c⟩
  | set S n => obtain ⟨ob, es, ep, t, e, c⟩ := x; exact ⟨ob, es, ep, t, k _ _ (.inl rfl) e, c⟩
  | ins C dx fs =>
    obtain ⟨d, z, ne, e, mA, ⟨od, es, ep, e2, c⟩, r⟩ := x
    exact ⟨ho _ d, z, ne, k _ _ (.inl rfl) e, mA, ⟨od, es, ep, k _ _ (.inr d) e2, c⟩, r⟩
  | own y => obtain ⟨ob, e⟩ := x; exact ⟨ob, k _ _ (.inl rfl) e⟩
  | xd fs => obtain ⟨mA, ⟨od, es, ep, e, c⟩, r⟩ := x; exact ⟨mA, ⟨od, es, ep, k _ _ (.inl rfl) e, c⟩, r⟩
  | rng lo hi => obtain ⟨t, u, v, e⟩ := x; exact ⟨t, u, v, k _ _ (.inl rfl) e⟩
  | frz ob u ih => obtain ⟨e, q⟩ := x; exact ⟨k _ _ (.inl rfl) e, ih q⟩
  | tbl ps =>
    have e : h.get? a = some { cls := .none, data := .fields ps } := x
    show h'.get? a = some { cls := .none, data := .fields ps }
    exact k a _ (.inl rfl) e
  | met f y =>
    have e : h.get? a = some (PySem.W.methodObj (.ref f) (.ref y)) := x
    show h'.get? a = some (PySem.W.methodObj (.ref f) (.ref y))
    exact k a _ (.inl rfl) e
  | ext φ => obtain ⟨p, ⟨o, e⟩, st⟩ := x; exact ⟨st _ _ p fun o q => k _ _ (.inl rfl) q, ⟨o, k _ _ (.inl rfl) e⟩, st⟩
theorem HOk.lt (x : HOk P w H h) (e : H a = some o) : a < h.objs.size := (x a o e).lt
theorem HOk.fresh (x : HOk P w H h) (e : h.objs.size <= a) : H a = none := by
  cases q : H a with
  | none => rfl
  | some u => exact absurd (Nat.lt_of_lt_of_le (x.lt q) e) (Nat.lt_irrefl _)
theorem HOk.kept (x : HOk P w H h) (k : ∀ b u, h.get? b = some u -> h'.get? b = some u) : HOk P w H h' := fun a o e =>
  (x a o e).stay (fun b u _ q => k b u q) (fun _ q => q) fun _ _ q => q
theorem HOk.laid (x : HOk P w H h) (k : ∀ b u, h.get? b = some u -> h'.get? b = some u) (hp : h.objs.size <= a) (new : zbn P w (upd H a o) h' a o) : HOk P w (upd H a o) h' := fun b u e => by
  have hn := x.fresh hp
  by_cases hb : b = a
  . subst hb; rw [zbN] at e; cases e; exact new
  . rw [zD hb] at e
    exact (x b u e).stay (fun c v _ q => k c v q) (fun c q => by rw [zD (zdN q hn)]; exact q) fun c xs q => by rw [zD (zdN q hn)]; exact q
end
def Rd (H : Hp) (a : Addr) (u : HO) : Prop := H a = some u ∨ ∃ o, H a = some (.frz o u)
theorem Rd.ok {P : Program} {w : World} {H : Hp} {h : Heap} {a : Addr} {u : HO} (r : Rd H a u) (x : HOk P w H h) : zbn P w H h a u := by
  rcases r with r | ⟨o, r⟩
  . exact x a u r
  . obtain ⟨_, q⟩ := x a _ r
    exact q
def Mut : Option HO -> Prop
  | some (.lst _) => True
  | some (.dK _) => True
  | some (.dT _) => True
  | some (.set _ _) => True
  | some (.ins _ _ _) => True
  | some (.ext _) => True
  | _ => False
section
variable {P : Program} {w : World} {H : Hp} {h h' : Heap} {x e : Addr} {o' : HO}
theorem HOk.write (ok : HOk P w H h) (mu : Mut (H x)) (he : e = x ∨ H e = some (.own x)) (k : ∀ b u, b ≠ e -> h.get? b = some u -> h'.get? b = some u) (heo : ∃ u, h'.get? e = some u)
    (new : zbn P w (upd H x o') h' x o') : HOk P w (upd H x o') h' := fun b u q => by
  have nown : ∀ c y, H c = some (.own y) -> c ≠ x := fun c y r z => by subst z; rw [r] at mu; exact mu
  have ntup : ∀ c xs, H c = some (.tup xs) -> c ≠ x := fun c xs r z => by subst z; rw [r] at mu; exact mu
  by_cases hb : b = x
  . subst hb; rw [zbN] at q; cases q; exact new
  . rw [zD hb] at q
    by_cases hbe : b = e
    . have q' : H b = some (.own x) := by
        rcases he with z | z
        . exact absurd (hbe.trans z) hb
        . rw [hbe]; exact z
      rw [q] at q'; cases q'
      obtain ⟨v, hv⟩ := heo
      exact ⟨v, by rw [hbe]; exact hv⟩
    . refine (ok b u q).stay (fun c v hc r => k c v ?_ r) (fun c r => by rw [zD (nown c b r)]; exact r) fun c xs r => by rw [zD (ntup c xs r)]; exact r
      rcases hc with rfl | hc
      . exact hbe
      . rintro rfl
        rcases he with z | z
        . exact nown c b hc z
        . rw [hc] at z; cases z; exact hb rfl
end
structure Un (fs ex : List Addr) (H H' : Hp) (h h' : Heap) : Prop where
  keep : ∀ b o, h.get? b = some o -> H b = none -> b ∉ fs -> b ∉ ex -> h'.get? b = some o
  slot : ∀ b o, h.get? b = some o -> H b = none -> b ∈ fs -> b ∉ ex -> ∃ sl, h'.get? b = some { o with slots := sl }
  free : ∀ b o, h.get? b = some o -> H b = none -> b ∉ ex -> H' b = none
  there : ∀ b o, h.get? b = some o -> b ∉ ex -> ∃ o', h'.get? b = some o'
  tups : ∀ b xs, H b = some (.tup xs) -> H' b = some (.tup xs)
  frzs : ∀ b o u, H b = some (.frz o u) -> H' b = some (.frz o u)
  tbls : ∀ b ps, H b = some (.tbl ps) -> ∃ more, H' b = some (.tbl (ps ++ more))
section
variable {fs fs' ex ex' : List Addr} {H H1 H2 : Hp} {h h1 h2 h' : Heap} {a x e : Addr} {o : HO}
theorem Un.any (u : Un fs ex H H1 h h1) {b : Addr} {ob : Obj} (q : h.get? b = some ob) (n : H b = none) (hx : b ∉ ex) : ∃ sl, h1.get? b = some { ob with slots := sl } := by
  by_cases hb : b ∈ fs
  . exact u.slot b ob q n hb hx
  . exact ⟨ob.slots, u.keep b ob q n hb hx⟩
theorem Un.kept (k : ∀ b u, h.get? b = some u -> h'.get? b = some u) : Un fs ex H H h h' :=
  ⟨fun b ob q _ _ _ => k b ob q, fun b ob q _ _ _ => ⟨ob.slots, k b ob q⟩, fun _ _ _ n _ => n, fun b ob q _ => ⟨ob, k b ob q⟩, fun _ _ q => q, fun _ _ _ q => q, fun _ ps q => ⟨#[], by rw [q]; simp⟩⟩
theorem Un.refl : Un fs ex H H h h := Un.kept fun _ _ q => q
theorem Un.laid (k : ∀ b u, h.get? b = some u -> h'.get? b = some u) (hp : h.objs.size <= a) (hn : H a = none) : Un fs ex H (upd H a o) h h' where
  keep := fun b u q _ _ _ => k b u q
  slot := fun b u q _ _ _ => ⟨u.slots, k b u q⟩
  free := fun b u q n _ => by rw [zD (Nat.ne_of_lt (Nat.lt_of_lt_of_le (Heap.lt_size q) hp))]; exact n
  there := fun b u q _ => ⟨u, k b u q⟩
  tups := fun b xs q => by rw [zD (zdN q hn)]; exact q
  frzs := fun b u xs q => by rw [zD (zdN q hn)]; exact q
  tbls := fun b ps q => ⟨#[], by rw [zD (zdN q hn), q]; simp⟩
theorem Un.write (mu : Mut (H x)) (he : e = x ∨ H e = some (.own x)) (k : ∀ b u, b ≠ e -> h.get? b = some u -> h'.get? b = some u) (heo : ∃ u, h'.get? e = some u) : Un fs ex H (upd H x o) h h' := by
  have hx : ∀ b, H b = none -> b ≠ x := fun b n z => by subst z; rw [n] at mu; exact mu
  have hb : ∀ b, H b = none -> b ≠ e := fun b n z => by
    subst z
    rcases he with r | r
    . exact hx b n r
    . rw [n] at r; cases r
  have hm : ∀ b u, H b = some u -> ¬ Mut (some u) -> b ≠ x := fun b u q nm z => by subst z; rw [q] at mu; exact nm mu
  refine ⟨fun b u q n _ _ => k b u (hb b n) q, fun b u q n _ _ => ⟨u.slots, k b u (hb b n) q⟩, fun b u q n _ => by rw [zD (hx b n)]; exact n, fun b u q _ => ?_,
    fun b xs q => by rw [zD (hm b _ q fun z => z)]; exact q, fun b u xs q => by rw [zD (hm b _ q fun z => z)]; exact q, fun b ps q => ⟨#[], by rw [zD (hm b _ q fun z => z), q]; simp⟩⟩
  by_cases hbe : b = e
  . subst hbe; exact heo
  . exact ⟨u, k b u hbe q⟩
end
def trk (h : Heap) (H : Hp) : List Addr := (List.range h.objs.size).filter fun a => (H a).isSome
def zfr (h : Heap) (H : Hp) : Heap := PySem.W.hideAll h (trk h H)
theorem zBg (h : Heap) (H : Hp) : (zfr h H).objs.size = h.objs.size := PySem.W.hideAll_size _ _
theorem zCL {h : Heap} {H : Hp} {b : Addr} {o : Obj} (e : h.get? b = some o) (n : H b = none) : (zfr h H).get? b = some o :=
  PySem.W.hideAll_get _ e fun hm => by
    have q : (H b).isSome = true := (List.mem_filter.mp hm).2
    rw [n] at q; simp at q
theorem zAu {h : Heap} {H : Hp} {b : Addr} {o : Obj} (e : (zfr h H).get? b = some o) : h.get? b = some o ∧ H b = none := by
  have e' : h.get? b = some o := PySem.W.of_hideAll (trk h H) e
  refine ⟨e', ?_⟩
  cases q : H b with
  | none => rfl
  | some x =>
    have hm : b ∈ trk h H := List.mem_filter.mpr ⟨List.mem_range.mpr (Heap.lt_size e'), by simp [q]⟩
    have z : (zfr h H).get? b = none := PySem.W.hideAll_none (trk h H) hm
    rw [z] at e; cases e
end L2
namespace L2
open PySem PySem.Spec PyProof.Rows
structure Mod (K : PySem.W.Frag) (mg : Str -> Option Value) (base : Heap) : Prop where
  kin : K.In base
  glob : base.Ns mainGlobals mg
  blt : ∃ mb, base.Ns builtinsNs mb ∧ ∀ x : Str, x ≠ "__name__" -> mb x = bootBuiltins x
  nolimit : base.NoLimit
structure Cx where
  prog : Program
  w : World
  K : PySem.W.Frag
  mg : Str -> Option Value
  base : Heap
  A : Around
  N : List Str
  s₀ : Shared
  H₀ : Hp
  env : Env
  outer : List Env
  stack : List Env
  ex : List Addr
  fn : Str -> Bool
  calm : Bool
  pn : List (Addr × Obj)
  xe : Value -> Shared -> Prop
def frs (l : List Env) : List Addr := l.filterMap (·.frame)
abbrev Cx.fs (X : Cx) : List Addr := frs X.outer
def Vis (sc : Scope) (x : Str) : Prop := sc.names.lookup x = some .local ∨ sc.names.lookup x = some .cell ∨ sc.names.lookup x = some .free
def Loc (sc : Scope) (x : Str) : Prop := sc.names.lookup x = some .local ∨ sc.names.lookup x = some .cell
def zEu (env : Env) (h : Heap) (m : Str -> Option Value) (x : Str) (u : Value) : Prop :=
  (env.kindOf x = some .local ∧ m x = some u) ∨ ((env.kindOf x = some .cell ∨ env.kindOf x = some .free) ∧ ∃ c, env.cells.lookup x = some c ∧ h.IsCell c (some u))
structure Cx.Ok (X : Cx) : Prop where
  mod : Mod X.K X.mg X.base
  kind : X.env.scope.kind = .function
  glob : X.env.globals = mainGlobals
  blt : X.env.builtins = builtinsNs
  above : X.s₀.heap.objs.size <= X.env.locals
  inj : ∀ x y c, X.env.cells.lookup x = some c -> X.env.cells.lookup y = some c -> x = y
  has : ∀ x, (X.env.kindOf x = some .cell ∨ X.env.kindOf x = some .free) -> ∃ c, X.env.cells.lookup x = some c
  cab : ∀ x c, X.fn x = true -> X.env.cells.lookup x = some c -> X.s₀.heap.objs.size <= c
  hd : X.calm = true -> X.A.handled = none
  frames : X.A.frames = some X.stack
  stk : X.stack = X.outer ∨ (X.stack = X.env :: X.outer ∧ X.env.frame = some X.env.locals)
  exf : ∀ b ∈ X.ex, b ≠ X.env.locals ∧ ∀ x c, X.env.cells.lookup x = some c -> c ≠ b
  bs : ∀ b o, X.base.get? b = some o -> X.s₀.heap.get? b = some o ∧ X.H₀ b = none
  bsz : X.base.objs.size <= X.s₀.heap.objs.size
  noex : ∀ b o, X.base.get? b = some o -> b ∉ X.ex
  exfs : ∀ b ∈ X.ex, b ∉ X.fs
  funs : X.s₀.heap.FunFrames X.base X.outer
  frf : ∀ b ∈ X.fs, X.H₀ b = none
structure Inv (X : Cx) (pins : List (Addr × Obj)) (σ : List (Option V)) (H : Hp) (s : Shared) : Prop where
  ok : X.Ok
  os : s.os = X.s₀.os
  bare : AllBare s.gens
  base : Un X.fs X.ex X.H₀ H X.s₀.heap s.heap
  loc : ∃ m, s.heap.Ns X.env.locals m ∧ ∀ (i : Nat) (x : Str) (v : V), X.N[i]? = some x -> σ[i]? = some (some v) -> Vis X.env.scope x -> ∃ u, zu v u ∧ zEu X.env s.heap m x u
  cell : ∀ x c, X.env.cells.lookup x = some c -> ∃ v, s.heap.IsCell c v
  free : H X.env.locals = none
  freeC : ∀ x c, X.env.cells.lookup x = some c -> H c = none
  pin : ∀ p ∈ X.pn ++ pins, s.heap.get? p.1 = some p.2 ∧ H p.1 = none ∧ p.1 ≠ X.env.locals ∧ p.1 ∉ X.fs ∧ ∀ v, p.2.data ≠ .cell v
  hok : HOk X.prog X.w H s.heap
  len : σ.length = X.N.length
section
variable {X : Cx} {pins : List (Addr × Obj)} {σ : List (Option V)} {H H' : Hp} {s : Shared} {h' : Heap}
theorem Cx.Ok.nofr (ok : X.Ok) {b : Addr} {o : Obj} (e : X.base.get? b = some o) : b ∉ X.fs := fun hb => by
  have := (ok.funs.mem hb).1
  rw [e] at this; cases this
theorem Inv.bs (I : Inv X pins σ H s) : ∀ b o, X.base.get? b = some o -> s.heap.get? b = some o ∧ H b = none := fun b o e =>
  ⟨I.base.keep b o (I.ok.bs b o e).1 (I.ok.bs b o e).2 (I.ok.nofr e) (I.ok.noex b o e), I.base.free b o (I.ok.bs b o e).1 (I.ok.bs b o e).2 (I.ok.noex b o e)⟩
theorem Inv.bk (I : Inv X pins σ H s) : ∀ b o, X.base.get? b = some o -> s.heap.get? b = some o := fun b o e => (I.bs b o e).1
theorem Inv.mod (I : Inv X pins σ H s) : Mod X.K X.mg X.base := I.ok.mod
theorem Inv.kIn (I : Inv X pins σ H s) : X.K.In s.heap := I.ok.mod.kin.keeps I.bk
theorem Inv.lt (I : Inv X pins σ H s) : X.env.locals < s.heap.objs.size := let ⟨_, hn, _⟩ := I.loc; hn.lt
theorem Inv.sz (I : Inv X pins σ H s) : X.s₀.heap.objs.size <= s.heap.objs.size := Nat.le_trans I.ok.above (Nat.le_of_lt I.lt)
theorem Inv.nofs (I : Inv X pins σ H s) {a : Addr} (h : s.heap.objs.size <= a) : a ∉ X.fs := fun hb => by
  obtain ⟨_, o, ho, _⟩ := I.ok.funs.mem hb
  exact absurd (Nat.lt_of_lt_of_le (Heap.lt_size ho) (Nat.le_trans I.sz h)) (Nat.lt_irrefl _)
theorem Inv.cne (I : Inv X pins σ H s) : ∀ x c, X.env.cells.lookup x = some c -> c ≠ X.env.locals := fun x c e z => by
  obtain ⟨v, o, ho, hd⟩ := I.cell x c e
  obtain ⟨m, ⟨o', es, ep, ho', hd', _⟩, _⟩ := I.loc
  rw [z, ho'] at ho; cases ho; rw [hd'] at hd; cases hd
theorem Inv.funs (I : Inv X pins σ H s) : s.heap.FunFrames X.base X.outer := by
  have all : ∀ (l : List Env), (∀ b ∈ frs l, b ∈ X.fs) -> X.s₀.heap.FunFrames X.base l -> s.heap.FunFrames X.base l := by
    intro l
    induction l with
    | nil => intro _ _; trivial
    | cons env r ih =>
      intro hs hl
      obtain ⟨hk, ⟨L, o, hf, hn, ho, hd⟩, hr⟩ := hl
      have hL : L ∈ X.fs := hs L (by unfold frs; rw [List.filterMap_cons, hf]; exact List.mem_cons_self)
      obtain ⟨sl, e⟩ := I.base.slot L o ho (I.ok.frf L hL) hL fun z => I.ok.exfs L z hL
      exact ⟨hk, ⟨L, _, hf, hn, e, hd⟩, ih (fun b hb => hs b (by unfold frs; rw [List.filterMap_cons, hf]; exact List.mem_cons_of_mem _ hb)) hr⟩
  exact all X.outer (fun _ hb => hb) I.ok.funs
theorem Inv.stack (I : Inv X pins σ H s) : s.heap.FunFrames X.base X.stack := by
  rcases I.ok.stk with e | ⟨e, hf⟩
  . rw [e]; exact I.funs
  . rw [e]
    obtain ⟨m, hn, _⟩ := I.loc
    refine .cons (by rw [I.ok.kind]; decide) hf hn ?_ I.funs
    exact Heap.get?_none_of_le (Nat.le_trans I.ok.bsz I.ok.above)
theorem Inv.stkSub (I : Inv X pins σ H s) : ∀ b ∈ frs X.stack, b ∈ X.env.locals :: X.fs := fun b hb => by
  rcases I.ok.stk with e | ⟨e, hf⟩
  . rw [e] at hb; exact List.mem_cons_of_mem _ hb
  . rw [e] at hb
    unfold frs at hb
    rw [List.filterMap_cons, hf] at hb
    exact hb
theorem Inv.stkFree (I : Inv X pins σ H s) : ∀ b ∈ frs X.stack, H b = none := fun b hb => by
  rcases List.mem_cons.mp (I.stkSub b hb) with e | hb
  . rw [e]; exact I.free
  . obtain ⟨_, o, ho, _⟩ := I.ok.funs.mem hb
    exact I.base.free b o ho (I.ok.frf b hb) fun z => I.ok.exfs b z hb
theorem Inv.step {g' : Array GenState} {t' : Nat} {d' : Drawn} {ch : List Addr} (I : Inv X pins σ H s)
    (hch : ∀ b ∈ ch, (b ∈ X.ex ∨ X.s₀.heap.objs.size <= b) ∧ b ≠ X.env.locals ∧ (∀ x c, X.env.cells.lookup x = some c -> c ≠ b) ∧ ∀ p ∈ X.pn ++ pins, p.1 ≠ b)
    (keep : ∀ b o, b ≠ X.env.locals -> b ∉ X.fs -> b ∉ ch -> s.heap.get? b = some o -> H b = none -> h'.get? b = some o)
    (slot : ∀ b o, b ≠ X.env.locals -> b ∈ X.fs -> b ∉ ch -> s.heap.get? b = some o -> H b = none -> ∃ sl, h'.get? b = some { o with slots := sl }) (free : ∀ b o, b ∉ ch -> s.heap.get? b = some o -> H b = none -> H' b = none)
    (there : ∀ b o, b ∉ ch -> s.heap.get? b = some o -> ∃ o', h'.get? b = some o')
    (tups : ∀ b xs, H b = some (.tup xs) -> H' b = some (.tup xs)) (frzs : ∀ b o u, H b = some (.frz o u) -> H' b = some (.frz o u)) (tbls : ∀ b ps, H b = some (.tbl ps) -> ∃ more, H' b = some (.tbl (ps ++ more)))
    (ns : ∀ m, s.heap.Ns X.env.locals m -> h'.Ns X.env.locals m) (hok : HOk X.prog X.w H' h') (hg : AllBare g') :
    Inv X pins σ H' { s with heap := h', gens := g', drawn := d', toks := t' } := by
  have neL : ∀ b o, X.s₀.heap.get? b = some o -> b ≠ X.env.locals := fun b o e => Nat.ne_of_lt (Nat.lt_of_lt_of_le (Heap.lt_size e) I.ok.above)
  have neC : ∀ b o, X.s₀.heap.get? b = some o -> b ∉ X.ex -> b ∉ ch := fun b o e hx hb => by
    rcases (hch b hb).1 with z | z
    . exact hx z
    . exact absurd (Nat.lt_of_lt_of_le (Heap.lt_size e) z) (Nat.lt_irrefl _)
  have cellK : ∀ x c, X.env.cells.lookup x = some c -> ∀ v, s.heap.IsCell c v -> h'.IsCell c v := fun x c e v ⟨o, ho, hd⟩ => by
    have nch : c ∉ ch := fun z => (hch c z).2.2.1 x c e rfl
    by_cases hc : c ∈ X.fs
    . obtain ⟨sl, q⟩ := slot c o (I.cne x c e) hc nch ho (I.freeC x c e)
      exact ⟨_, q, hd⟩
    . exact ⟨o, keep c o (I.cne x c e) hc nch ho (I.freeC x c e), hd⟩
  refine ⟨I.ok, I.os, hg, ⟨fun b o e n hb hx => ?_, fun b o e n hb hx => ?_, fun b o e n hx => ?_, fun b o e hx => ?_, fun b xs e => tups b xs (I.base.tups b xs e), fun b o xs e => frzs b o xs (I.base.frzs b o xs e), fun b ps e => ?_⟩, ?_, fun x c e => ?_, ?_, fun x c e => ?_, fun p hp => ?_, hok, I.len⟩
  . exact keep b o (neL b o e) hb (neC b o e hx) (I.base.keep b o e n hb hx) (I.base.free b o e n hx)
  . obtain ⟨sl, e1⟩ := I.base.slot b o e n hb hx
    obtain ⟨sl', e2⟩ := slot b _ (neL b o e) hb (neC b o e hx) e1 (I.base.free b o e n hx)
    exact ⟨sl', e2⟩
  . obtain ⟨o', e1⟩ := I.base.there b o e hx
    exact free b o' (neC b o e hx) e1 (I.base.free b o e n hx)
  . obtain ⟨o', e1⟩ := I.base.there b o e hx
    exact there b o' (neC b o e hx) e1
  . obtain ⟨m1, e1⟩ := I.base.tbls b ps e
    obtain ⟨m2, e2⟩ := tbls b _ e1
    exact ⟨m1 ++ m2, by rw [e2, Array.append_assoc]⟩
  . obtain ⟨m, hn, hl⟩ := I.loc
    refine ⟨m, ns m hn, fun i x v e1 e2 e3 => ?_⟩
    obtain ⟨u, r, l⟩ := hl i x v e1 e2 e3
    refine ⟨u, r, ?_⟩
    rcases l with l | ⟨k, c, e, z⟩
    . exact .inl l
    . exact .inr ⟨k, c, e, cellK x c e _ z⟩
  . obtain ⟨v, z⟩ := I.cell x c e
    exact ⟨v, cellK x c e v z⟩
  . obtain ⟨m, ⟨o, _, _, ho, _⟩, _⟩ := I.loc
    exact free _ o (fun z => (hch _ z).2.1 rfl) ho I.free
  . obtain ⟨v, o, ho, hd⟩ := I.cell x c e
    exact free c o (fun z => (hch c z).2.2.1 x c e rfl) ho (I.freeC x c e)
  . obtain ⟨e, n, ne, nf, d⟩ := I.pin p hp
    have nch : p.1 ∉ ch := fun z => (hch p.1 z).2.2.2 p hp rfl
    exact ⟨keep p.1 p.2 ne nf nch e n, free p.1 p.2 nch e n, ne, nf, d⟩
theorem Inv.un {t' : Nat} (I : Inv X pins σ H s) (u : Un X.fs [] H H' s.heap h') (hok : HOk X.prog X.w H' h') : Inv X pins σ H' { s with heap := h', toks := t' } := by
  obtain ⟨m, ⟨o, es, ep, ho, r⟩, _⟩ := id I.loc
  obtain ⟨sl, hL⟩ := u.any ho I.free (by simp)
  exact I.step (g' := s.gens) (d' := s.drawn) (ch := []) (fun _ z => nomatch z) (fun b o _ hb _ e n => u.keep b o e n hb (by simp)) (fun b o _ hb _ e n => u.slot b o e n hb (by simp)) (fun b o _ e n => u.free b o e n (by simp)) (fun b o _ e => u.there b o e (by simp)) u.tups u.frzs u.tbls (fun m' hm => by
    obtain ⟨o', es', ep', ho', r'⟩ := hm
    rw [ho] at ho'; cases ho'
    exact ⟨_, es', ep', hL, r'⟩) hok I.bare
theorem Inv.call {g' : Array GenState} {t' : Nat} {d' : Drawn} {ch : List Addr} (I : Inv X pins σ H s) (u : Un (frs X.stack) ch H H' s.heap h') (hok : HOk X.prog X.w H' h') (hg : AllBare g')
    (hch : ∀ b ∈ ch, (b ∈ X.ex ∨ X.s₀.heap.objs.size <= b) ∧ b ≠ X.env.locals ∧ (∀ x c, X.env.cells.lookup x = some c -> c ≠ b) ∧ ∀ p ∈ X.pn ++ pins, p.1 ≠ b) :
    Inv X pins σ H' { s with heap := h', gens := g', drawn := d', toks := t' } := by
  obtain ⟨m, ⟨o, es, ep, ho, r⟩, _⟩ := id I.loc
  obtain ⟨sl, hL⟩ := u.any ho I.free fun z => (hch _ z).2.1 rfl
  exact I.step (ch := ch) hch (fun b o hL hb hc e n => u.keep b o e n (fun z => (List.mem_cons.mp (I.stkSub b z)).elim hL hb) hc) (fun b o _ _ hc e n => u.any e n hc) (fun b o hc e n => u.free b o e n hc) (fun b o hc e => u.there b o e hc) u.tups u.frzs u.tbls (fun m' hm => by
    obtain ⟨o', es', ep', ho', r'⟩ := hm
    rw [ho] at ho'; cases ho'
    exact ⟨_, es', ep', hL, r'⟩) hok hg
theorem Inv.turned {t' : Nat} {it : Addr} (I : Inv X pins σ H s) (k : ∀ b o, b ≠ it -> s.heap.get? b = some o -> h'.get? b = some o) (hn : H it = none) (hL : it ≠ X.env.locals)
    (h1 : it ∈ X.ex ∨ X.s₀.heap.objs.size <= it) (h2 : ∀ x c, X.env.cells.lookup x = some c -> c ≠ it) (h3 : ∀ p ∈ X.pn ++ pins, p.1 ≠ it) : Inv X pins σ H { s with heap := h', toks := t' } := by
  have nit : ∀ b u, H b = some u -> b ≠ it := fun b u e z => by rw [z, hn] at e; cases e
  refine I.step (g' := s.gens) (d' := s.drawn) (ch := [it]) (fun b hb => ?_) (fun b o _ _ hc e _ => k b o (fun z => hc (by simp [z])) e) (fun b o _ _ hc e _ => ⟨o.slots, k b o (fun z => hc (by simp [z])) e⟩) (fun _ _ _ _ n => n)
    (fun b o hc e => ⟨o, k b o (fun z => hc (by simp [z])) e⟩) (fun _ _ e => e) (fun _ _ _ e => e) (fun b ps e => ⟨#[], by rw [e]; simp⟩) (fun m hm => ?_) (fun b u e => ?_) I.bare
  . have e : b = it := by simpa using hb
    subst e
    exact ⟨h1, hL, h2, h3⟩
  . obtain ⟨o, es, ep, ho, r⟩ := hm
    exact ⟨o, es, ep, k _ o (Ne.symm hL) ho, r⟩
  . refine (I.hok b u e).stay (fun c v hc q => k c v ?_ q) (fun _ q => q) fun _ _ q => q
    rcases hc with z | z
    . rw [z]; exact nit b u e
    . exact nit c _ z
theorem Inv.tok (I : Inv X pins σ H s) (t : Nat) : Inv X pins σ H { s with toks := t } := I.un (h' := s.heap) (t' := t) Un.refl I.hok
theorem Inv.kept {t' : Nat} (I : Inv X pins σ H s) (k : ∀ b u, s.heap.get? b = some u -> h'.get? b = some u) : Inv X pins σ H { s with heap := h', toks := t' } := I.un (Un.kept k) (I.hok.kept k)
theorem Inv.laid {a : Addr} {o : HO} {t' : Nat} (I : Inv X pins σ H s) (k : ∀ b u, s.heap.get? b = some u -> h'.get? b = some u) (hp : s.heap.objs.size <= a) (new : zbn X.prog X.w (upd H a o) h' a o) :
    Inv X pins σ (upd H a o) { s with heap := h', toks := t' } := I.un (Un.laid k hp (I.hok.fresh hp)) (I.hok.laid k hp new)
theorem Inv.write {x e : Addr} {o : HO} {t' : Nat} (I : Inv X pins σ H s) (mu : Mut (H x)) (he : e = x ∨ H e = some (.own x)) (k : ∀ b u, b ≠ e -> s.heap.get? b = some u -> h'.get? b = some u) (heo : ∃ u, h'.get? e = some u)
    (new : zbn X.prog X.w (upd H x o) h' x o) : Inv X pins σ (upd H x o) { s with heap := h', toks := t' } := I.un (Un.write mu he k heo) (I.hok.write mu he k heo new)
theorem Inv.pins_of {pins' : List (Addr × Obj)} (I : Inv X pins σ H s) (h : ∀ p ∈ pins', s.heap.get? p.1 = some p.2 ∧ H p.1 = none ∧ p.1 ≠ X.env.locals ∧ p.1 ∉ X.fs ∧ ∀ v, p.2.data ≠ .cell v) : Inv X pins' σ H s :=
  ⟨I.ok, I.os, I.bare, I.base, I.loc, I.cell, I.free, I.freeC, fun p hp => (List.mem_append.mp hp).elim (fun z => I.pin p (List.mem_append_left _ z)) (h p), I.hok, I.len⟩
theorem zp7 {N : List Str} (hN : N.Nodup) {i j : Nat} {x : Str} (a : N[i]? = some x) (b : N[j]? = some x) : i = j := by
  obtain ⟨h1, e1⟩ := List.getElem?_eq_some_iff.mp a
  obtain ⟨h2, e2⟩ := List.getElem?_eq_some_iff.mp b
  exact (List.getElem_inj hN).mp (e1.trans e2.symm)
theorem zs8 {M : Model} {A : Around} {E : Value -> Shared -> Prop} {i : Nat} {x : Str} {v : V} {u : Value} {Q : Unit -> Shared -> Prop} (I : Inv X pins σ H s) (hN : X.N.Nodup) (hi : X.N[i]? = some x) (hx : Loc X.env.scope x) (r : zu v u)
    (h : ∀ s', Inv X pins (σ.set i (some v)) H s' -> (∃ a, Heap.SameBut a s.heap s'.heap ∧ (a = X.env.locals ∨ X.env.cells.lookup x = some a)) -> Q () s') (hf : X.fn x = true ∨ X.env.scope.names.lookup x = some .local := by first | exact .inl rfl | exact .inr rfl | assumption) : wpAny M A (storeName X.env x u) Q E s := by
  obtain ⟨m, hn, hl⟩ := id I.loc
  have hcls : (X.env.scope.kind == .class || (X.env.scope.kind == .module && X.env.locals != X.env.globals)) = false := by rw [I.ok.kind]; rfl
  have hiσ : i < σ.length := by rw [I.len]; exact (List.getElem?_eq_some_iff.mp hi).1
  have cne := I.cne
  have tracked : ∀ {a : Addr} {h' : Heap}, (∃ o, s.heap.get? a = some o ∧ H a = none) -> Heap.SameBut a s.heap h' -> HOk X.prog X.w H h' := fun {a h'} ha hs b ob e => by
    obtain ⟨_, _, hfree⟩ := ha
    refine (I.hok b ob e).stay (fun c w' hc q => (hs.2 c ?_).trans q) (fun _ q => q) fun _ _ q => q
    rintro rfl
    rcases hc with rfl | hc
    . rw [hfree] at e; cases e
    . rw [hfree] at hc; cases hc
  rcases hx with hk | hk
  . refine wpAny_storeName_local hk hn (fun h' hn' hs => ?_) hcls
    obtain ⟨oL, _, _, hoL, _⟩ := id hn
    refine h _ ⟨I.ok, I.os, I.bare, ⟨fun b o e n hb hx => ?_, fun b o e n hb hx => ?_, I.base.free, fun b o e hx => ?_, I.base.tups, I.base.frzs, I.base.tbls⟩, ⟨_, hn', fun j y v' e1 e2 e3 => ?_⟩, fun y c e => ?_, I.free, I.freeC, fun p hp => ?_, tracked ⟨oL, hoL, I.free⟩ hs, by simpa using I.len⟩ ⟨_, hs, .inl rfl⟩
    . exact (hs.2 b (Nat.ne_of_lt (Nat.lt_of_lt_of_le (Heap.lt_size e) I.ok.above))).trans (I.base.keep b o e n hb hx)
    . obtain ⟨sl, e1⟩ := I.base.slot b o e n hb hx
      exact ⟨sl, (hs.2 b (Nat.ne_of_lt (Nat.lt_of_lt_of_le (Heap.lt_size e) I.ok.above))).trans e1⟩
    . obtain ⟨o', e1⟩ := I.base.there b o e hx
      exact ⟨o', (hs.2 b (Nat.ne_of_lt (Nat.lt_of_lt_of_le (Heap.lt_size e) I.ok.above))).trans e1⟩
    . by_cases hj : j = i
      . subst hj
        rw [hi] at e1; cases e1
        rw [List.getElem?_set_self hiσ] at e2
        cases e2
        exact ⟨u, r, .inl ⟨hk, by simp⟩⟩
      . rw [List.getElem?_set_ne (Ne.symm hj)] at e2
        obtain ⟨u', r', q⟩ := hl j y v' e1 e2 e3
        refine ⟨u', r', ?_⟩
        rcases q with ⟨k, e⟩ | ⟨k, c, e, z⟩
        . refine .inl ⟨k, ?_⟩
          have : y ≠ x := fun e => hj (zp7 hN e1 (e ▸ hi))
          simp [this, e]
        . exact .inr ⟨k, c, e, z.sameBut hs (cne y c e)⟩
    . obtain ⟨w', z⟩ := I.cell y c e
      exact ⟨w', z.sameBut hs (cne y c e)⟩
    . obtain ⟨e, n, ne, nf, d⟩ := I.pin p hp
      exact ⟨(hs.2 p.1 ne).trans e, n, ne, nf, d⟩
  . have hfn : X.fn x = true := by
      rcases hf with z | z
      . exact z
      . rw [z] at hk; cases hk
    obtain ⟨c, hc⟩ := I.ok.has x (.inl hk)
    obtain ⟨w', z⟩ := I.cell x c hc
    refine wpAny_storeName_cell I.ok.kind hk hc z (fun h' hc' hs => ?_)
    obtain ⟨oc, hoc, hocd⟩ := id z
    refine h { s with heap := h' } ⟨I.ok, I.os, I.bare, ⟨fun b o e n hb hx => ?_, fun b o e n hb hx => ?_, I.base.free, fun b o e hx => ?_, I.base.tups, I.base.frzs, I.base.tbls⟩, ⟨m, hn.sameBut hs (Ne.symm (cne x c hc)), fun j y v' e1 e2 e3 => ?_⟩, fun y c' e => ?_, I.free, I.freeC, fun p hp => ?_, tracked ⟨oc, hoc, I.freeC x c hc⟩ hs, by simpa using I.len⟩ ⟨c, hs, .inr hc⟩
    . exact (hs.2 b (Nat.ne_of_lt (Nat.lt_of_lt_of_le (Heap.lt_size e) (I.ok.cab x c hfn hc)))).trans (I.base.keep b o e n hb hx)
    . obtain ⟨sl, e1⟩ := I.base.slot b o e n hb hx
      exact ⟨sl, (hs.2 b (Nat.ne_of_lt (Nat.lt_of_lt_of_le (Heap.lt_size e) (I.ok.cab x c hfn hc)))).trans e1⟩
    . obtain ⟨o', e1⟩ := I.base.there b o e hx
      exact ⟨o', (hs.2 b (Nat.ne_of_lt (Nat.lt_of_lt_of_le (Heap.lt_size e) (I.ok.cab x c hfn hc)))).trans e1⟩
    . by_cases hj : j = i
      . subst hj
        rw [hi] at e1; cases e1
        rw [List.getElem?_set_self hiσ] at e2
        cases e2
        exact ⟨u, r, .inr ⟨.inl hk, c, hc, hc'⟩⟩
      . rw [List.getElem?_set_ne (Ne.symm hj)] at e2
        obtain ⟨u', r', q⟩ := hl j y v' e1 e2 e3
        refine ⟨u', r', ?_⟩
        rcases q with q | ⟨k, c', e, z'⟩
        . exact .inl q
        . refine .inr ⟨k, c', e, z'.sameBut hs ?_⟩
          rintro rfl
          exact hj (zp7 hN e1 (I.ok.inj _ _ _ e hc ▸ hi))
    . by_cases hcc : c' = c
      . subst hcc; exact ⟨_, hc'⟩
      . obtain ⟨w2, z2⟩ := I.cell y c' e
        exact ⟨w2, z2.sameBut hs hcc⟩
    . obtain ⟨e, n, ne, nf, d⟩ := I.pin p hp
      refine ⟨(hs.2 p.1 ?_).trans e, n, ne, nf, d⟩
      intro q
      rw [q, hoc] at e
      have q' : oc = p.2 := Option.some.inj e
      exact d w' (by rw [<- q']; exact hocd)
theorem zh8 {M : Model} {A : Around} {E : Value -> Shared -> Prop} {i : Nat} {x : Str} {v : V} {u : Value} {Q : Unit -> Shared -> Prop} (I : Inv X pins σ H s) (hN : X.N.Nodup) (hi : X.N[i]? = some x) (hx : Loc X.env.scope x) (r : zu v u)
    (h : ∀ s', Inv X pins (σ.set i (some v)) H s' -> Q () s') (hf : X.fn x = true ∨ X.env.scope.names.lookup x = some .local := by first | exact .inl rfl | exact .inr rfl | assumption) : wpAny M A (storeName X.env x u) Q E s :=
  zs8 I hN hi hx r (fun s' I' _ => h s' I') hf
theorem Inv.call' {s' : Shared} {ch : List Addr} (I : Inv X pins σ H s) (ho : s'.os = s.os) (u : Un (frs X.stack) ch H H' s.heap s'.heap) (hok : HOk X.prog X.w H' s'.heap) (hg : AllBare s'.gens)
    (hch : ∀ b ∈ ch, (b ∈ X.ex ∨ X.s₀.heap.objs.size <= b) ∧ b ≠ X.env.locals ∧ (∀ x c, X.env.cells.lookup x = some c -> c ≠ b) ∧ ∀ p ∈ X.pn ++ pins, p.1 ≠ b) : Inv X pins σ H' s' := by
  obtain ⟨h', g', d', t', o'⟩ := s'
  have e : o' = s.os := ho
  subst e
  exact I.call (g' := g') (t' := t') (d' := d') u hok hg hch
end
abbrev XK := Value -> Option Addr -> Hp -> Prop
abbrev St := List (Option V)
abbrev VK := V -> Hp -> Prop
abbrev TE := St -> Hp -> VK -> Prop
abbrev TT := St -> Hp -> (Bool -> Hp -> Prop) -> Prop
abbrev TA := St -> Hp -> (List V -> Hp -> Prop) -> Prop
structure zeV where
  nx : St -> Hp -> Prop
  rt : VK
  bk : St -> Hp -> Prop := fun _ _ => False
  ct : St -> Hp -> Prop := fun _ _ => False
abbrev TS := zeV -> St -> Hp -> Prop
def EP (X : Cx) (pins : List (Addr × Obj)) (σ : St) (Q : VK) (u : Value) (s' : Shared) : Prop := ∃ v H', Inv X pins σ H' s' ∧ zu v u ∧ Q v H'
def TP (X : Cx) (pins : List (Addr × Obj)) (σ : St) (Q : Bool -> Hp -> Prop) (b : Bool) (s' : Shared) : Prop := ∃ H', Inv X pins σ H' s' ∧ Q b H'
def AP (X : Cx) (pins : List (Addr × Obj)) (σ : St) (Q : List V -> Hp -> Prop) (us : List Value) (s' : Shared) : Prop := ∃ vs H', Inv X pins σ H' s' ∧ zy vs us ∧ Q vs H'
def SP (X : Cx) (pins : List (Addr × Obj)) (D : zeV) (f : Flow) (s' : Shared) : Prop :=
  match f with
  | .next => ∃ σ' H', Inv X pins σ' H' s' ∧ D.nx σ' H'
  | .brk => ∃ σ' H', Inv X pins σ' H' s' ∧ D.bk σ' H'
  | .cont => ∃ σ' H', Inv X pins σ' H' s' ∧ D.ct σ' H'
  | .ret u => ∃ v σ' H', Inv X pins σ' H' s' ∧ zu v u ∧ D.rt v H'
def PE (X : Cx) (e : Expr) (t : TE) : Prop :=
  ∀ (pins : List (Addr × Obj)) (s : Shared) (σ : St) (H : Hp) (Q : VK), Inv X pins σ H s -> t σ H Q -> wpAny (model X.prog X.w) X.A (eval e X.env) (EP X pins σ Q) X.xe s
def PT (X : Cx) (e : Expr) (t : TT) : Prop :=
  ∀ (pins : List (Addr × Obj)) (s : Shared) (σ : St) (H : Hp) (Q : Bool -> Hp -> Prop), Inv X pins σ H s -> t σ H Q -> wpAny (model X.prog X.w) X.A (isTrue e X.env (eval e X.env)) (TP X pins σ Q) X.xe s
def PW (X : Cx) (e : Expr) (t : TT) : Prop :=
  ∀ (whole : Sem Value) (pins : List (Addr × Obj)) (s : Shared) (σ : St) (H : Hp) (Q : Bool -> Hp -> Prop), Inv X pins σ H s -> t σ H Q -> wpAny (model X.prog X.w) X.A (isTrue e X.env whole) (TP X pins σ Q) X.xe s
theorem PW.pt {X : Cx} {e : Expr} {t : TT} (h : PW X e t) : PT X e t := h _
def PA (X : Cx) (es : List Expr) (t : TA) : Prop :=
  ∀ (pos : Pos) (pins : List (Addr × Obj)) (s : Shared) (σ : St) (H : Hp) (Q : List V -> Hp -> Prop), Inv X pins σ H s -> t σ H Q -> wpAny (model X.prog X.w) X.A (spliced (backTo pos (starEach es X.env))) (AP X pins σ Q) X.xe s
def PS (X : Cx) (st : Stmt) (t : TS) : Prop :=
  ∀ (pins : List (Addr × Obj)) (s : Shared) (σ : St) (H : Hp) (D : zeV), Inv X pins σ H s -> t D σ H -> wpAny (model X.prog X.w) X.A (exec st X.env) (SP X pins D) X.xe s
def PSs (X : Cx) (st : List Stmt) (t : TS) : Prop :=
  ∀ (pins : List (Addr × Obj)) (s : Shared) (σ : St) (H : Hp) (D : zeV), Inv X pins σ H s -> t D σ H -> wpAny (model X.prog X.w) X.A (execs st X.env) (SP X pins D) X.xe s
theorem thn {α : Type} {t : Sem α} {Q Q' : α -> Shared -> Prop} {M : Model} {A : Around} {E : Value -> Shared -> Prop} {s : Shared} (h : wpAny M A t Q E s) (hQ : ∀ a s, Q a s -> Q' a s) : wpAny M A t Q' E s := wpAny_mono h hQ fun _ _ x => x
end L2
namespace L2
open PySem PySem.Spec PyProof.Rows
section
variable {X : Cx}
def zAx (i : Nat) : TE := fun σ H Q => ∃ v, σ[i]? = some (some v) ∧ Q v H
def tC (v : V) : TE := fun _ H Q => Q v H
theorem zAT {i : Nat} {x : Str} {pos : Pos} (hN : X.N[i]? = some x) (hv : Vis X.env.scope x) (hd : (x == ("__debug__" : Str)) = false := by decide) (hcd : (x == ("__classdict__" : Str)) = false := by decide) : PE X (.Name x pos) (zAx i) := by
  intro pins s σ H Q I h
  obtain ⟨v, e, h⟩ := h
  obtain ⟨m, hn, hl⟩ := I.loc
  obtain ⟨u, r, l⟩ := hl i x v hN e hv
  have fin : EP X pins σ Q u s := ⟨v, H, I, r, h⟩
  rcases l with ⟨hk, hm⟩ | ⟨hk, c, hc, hcell⟩
  . exact wpAny_Name (wpAny_loadName_local I.ok.kind hk hn hm fin) hd
  . rcases hk with hk | hk
    . exact wpAny_Name (wpAny_loadName_cell I.ok.kind hk hc hcell fin) hd
    . exact wpAny_Name (wpAny_loadName_free I.ok.kind hk hc hcell fin hcd) hd
theorem zp4 {i j pos} : PE X (.Constant (.int i) j pos) (tC (.int i)) := fun _ _ _ H _ I h => wpAny_Constant_int ⟨.int i, H, I.tok _, ⟨_, rfl⟩, h⟩
theorem zFu {b j pos} : PE X (.Constant (.bool b) j pos) (tC (.bl b)) := fun _ _ _ H _ I h => Constant_bool ⟨.bl b, H, I, rfl, h⟩
theorem zBt {j pos} : PE X (.Constant .none j pos) (tC .non) := fun _ _ _ H _ I h => Constant_none ⟨.non, H, I, rfl, h⟩
def Gl (X : Cx) (x : Str) : Prop := X.env.kindOf x = some .globalImplicit
theorem zpt {E : Value -> Shared -> Prop} {pins : List (Addr × Obj)} {s : Shared} {σ : St} {H : Hp} {x : Str} {u : Value} {pos : Pos} {Q : Value -> Shared -> Prop} (I : Inv X pins σ H s) (hg : Gl X x) (hm : X.mg x = some u) (h : Q u s)
    (hd : (x == ("__debug__" : Str)) = false := by decide) : wpAny (model X.prog X.w) X.A (eval (.Name x pos) X.env) Q E s :=
  Calls.Name_function_global I.ok.kind hg (Calls.loadGlobal_global (by rw [I.ok.glob]; exact I.mod.glob.keeps I.bk) hm h) hd
theorem zgu {E : Value -> Shared -> Prop} {pins : List (Addr × Obj)} {s : Shared} {σ : St} {H : Hp} {x : Str} {u : Value} {pos : Pos} {Q : Value -> Shared -> Prop} (I : Inv X pins σ H s) (hg : Gl X x) (hm : X.mg x = none) (hv : bootBuiltins x = some u) (h : Q u s)
    (hn : x ≠ "__name__" := by decide) (hd : (x == ("__debug__" : Str)) = false := by decide) : wpAny (model X.prog X.w) X.A (eval (.Name x pos) X.env) Q E s := by
  obtain ⟨mb, h1, h2⟩ := I.mod.blt
  exact Calls.Name_function_global I.ok.kind hg (Calls.loadGlobal_builtin (by rw [I.ok.glob]; exact I.mod.glob.keeps I.bk) hm (by rw [I.ok.blt]; exact h1.keeps I.bk) ((h2 x hn).trans hv) h) hd
theorem zrV {x : Str} {v : V} {u : Value} {pos : Pos} (hg : Gl X x) (hm : X.mg x = some u) (r : zu v u) (hd : (x == ("__debug__" : Str)) = false := by decide) : PE X (.Name x pos) (tC v) :=
  fun _ _ _ H _ I h => zpt I hg hm ⟨v, H, I, r, h⟩ hd
theorem zFs {x : Str} {v : V} {u : Value} {pos : Pos} (hg : Gl X x) (hm : X.mg x = none) (hv : bootBuiltins x = some u) (r : zu v u) (hn : x ≠ "__name__" := by decide) (hd : (x == ("__debug__" : Str)) = false := by decide) : PE X (.Name x pos) (tC v) :=
  fun _ _ _ H _ I h => zgu I hg hm hv ⟨v, H, I, r, h⟩ hn hd
variable {a b : Expr} {ta tb : TE} {pos : Pos}
variable {tA tB' : TT} {rest : List Expr}
def zEZ (t u : TT) : TT := fun σ H Q => t σ H fun c H1 => if c = true then u σ H1 Q else Q false H1
def tOr (t u : TT) : TT := fun σ H Q => t σ H fun c H1 => if c = true then Q true H1 else u σ H1 Q
def zEO (t : TT) : TT := fun σ H Q => t σ H fun c H1 => Q (!c) H1
theorem zB1 (ha : PT X a tA) : PW X (.BoolOp .And [a] pos) tA := by
  intro wh pins s σ H Q I h
  refine isTrue_and (thn (ha pins s σ H Q I h) fun c s1 e => ?_)
  cases c with
  | true => exact isTrue_and_nil e
  | false => exact e
theorem zAk (ha : PT X a tA) : PW X (.BoolOp .Or [a] pos) tA := by
  intro wh pins s σ H Q I h
  refine isTrue_or (thn (ha pins s σ H Q I h) fun c s1 e => ?_)
  cases c with
  | false => exact isTrue_or_nil e
  | true => exact e
theorem zAb (ha : PT X a tA) (hb : PW X (.BoolOp .And (b :: rest) pos) tB') : PW X (.BoolOp .And (a :: b :: rest) pos) (zEZ tA tB') := by
  intro wh pins s σ H Q I h
  refine isTrue_and (thn (ha pins s σ H _ I h) fun c s1 ⟨H1, I1, q1⟩ => ?_)
  cases c with
  | true => exact hb wh pins s1 σ H1 Q I1 q1
  | false => exact ⟨H1, I1, q1⟩
theorem zEi (ha : PT X a tA) (hb : PW X (.BoolOp .Or (b :: rest) pos) tB') : PW X (.BoolOp .Or (a :: b :: rest) pos) (tOr tA tB') := by
  intro wh pins s σ H Q I h
  refine isTrue_or (thn (ha pins s σ H _ I h) fun c s1 ⟨H1, I1, q1⟩ => ?_)
  cases c with
  | true => exact ⟨H1, I1, q1⟩
  | false => exact hb wh pins s1 σ H1 Q I1 q1
theorem zCt (ha : PT X a tA) : PT X (.UnaryOp .Not a pos) (zEO tA) := by
  intro pins s σ H Q I h
  exact isTrue_not (ha pins s σ H (fun c H1 => Q (!c) H1) I h)
def zEA (ta tb : TE) : TE := fun σ H Q => ta σ H fun x H1 => ∃ c, x = .bl c ∧ if c = true then tb σ H1 Q else Q (.bl false) H1
def zAB (ta tb : TE) : TE := fun σ H Q => ta σ H fun x H1 => ∃ c, x = .bl c ∧ if c = true then Q (.bl true) H1 else tb σ H1 Q
def zE8 (ta : TE) : TE := fun σ H Q => ta σ H fun x H1 => ∃ c, x = .bl c ∧ Q (.bl (!c)) H1
theorem zFq {op} {t : TE} (h : PE X a t) : PE X (.BoolOp op [a] pos) t := fun pins s σ H Q I hw => BoolOp_one (h pins s σ H Q I hw)
theorem zEE (ha : PE X a ta) (hb : PE X (.BoolOp .And (b :: rest) pos) tb) : PE X (.BoolOp .And (a :: b :: rest) pos) (zEA ta tb) := by
  intro pins s σ H Q I h
  refine BoolOp_and (thn (ha pins s σ H _ I h) fun v s1 ⟨x, H1, I1, r1, q1⟩ => ?_)
  obtain ⟨c, rfl, q1⟩ := q1
  cases r1
  refine wpAny_truthy_bool ?_
  cases c with
  | true => exact hb pins s1 σ H1 Q I1 q1
  | false => exact ⟨.bl false, H1, I1, rfl, q1⟩
theorem zD6 (ha : PE X a ta) (hb : PE X (.BoolOp .Or (b :: rest) pos) tb) : PE X (.BoolOp .Or (a :: b :: rest) pos) (zAB ta tb) := by
  intro pins s σ H Q I h
  refine BoolOp_or (thn (ha pins s σ H _ I h) fun v s1 ⟨x, H1, I1, r1, q1⟩ => ?_)
  obtain ⟨c, rfl, q1⟩ := q1
  cases r1
  refine wpAny_truthy_bool ?_
  cases c with
  | false => exact hb pins s1 σ H1 Q I1 q1
  | true => exact ⟨.bl true, H1, I1, rfl, q1⟩
theorem zEW (ha : PE X a ta) : PE X (.UnaryOp .Not a pos) (zE8 ta) := by
  intro pins s σ H Q I h
  refine UnaryOp_ (thn (ha pins s σ H _ I h) fun v s1 ⟨x, H1, I1, r1, q1⟩ => ?_)
  obtain ⟨c, rfl, q1⟩ := q1
  cases r1
  exact not_of (wpAny_truthy_bool ⟨.bl (!c), H1, I1, rfl, q1⟩)
def tIf (t : TT) (ta tb : TE) : TE := fun σ H Q => t σ H fun c H1 => if c = true then ta σ H1 Q else tb σ H1 Q
theorem zFh {c : Expr} (hc : PT X c tA) (ha : PE X a ta) (hb : PE X b tb) : PE X (.IfExp c a b pos) (tIf tA ta tb) := by
  intro pins s σ H Q I h
  refine wpAny_IfExp (thn (hc pins s σ H _ I h) fun d s1 ⟨H1, I1, q1⟩ => ?_)
  cases d with
  | true => exact ha pins s1 σ H1 Q I1 q1
  | false => exact hb pins s1 σ H1 Q I1 q1
end
end L2
namespace L2
open PySem PySem.Spec PyProof.Rows
def SqL (K : PySem.W.Frag) (H : Hp) (a : Addr) (xs : List V) : Prop :=
  Rd H a (.lst xs) ∨
    ∃ (o : Obj) (its : Array Value) (n : Nat), K.lookup a = some o ∧ o.cls = .type "list" ∧ o.dict = none ∧ o.data = .seq its n ∧ its.size <= sizeLine ∧ zy xs its.toList
def SqT (K : PySem.W.Frag) (H : Hp) (a : Addr) (xs : List V) : Prop :=
  Rd H a (.tup xs) ∨
    ∃ (o : Obj) (its : Array Value) (n : Nat), K.lookup a = some o ∧ o.cls = .type "tuple" ∧ o.data = .seq its n ∧ its.size <= sizeLine ∧ zy xs its.toList
def zAn : Value -> Option V
  | .none => some .non
  | .bool b => some (.bl b)
  | .int i _ => some (.int i)
  | .str x _ => some (.str x)
  | .bytes b _ => some (.byt b)
  | .float b _ => some (.flt b)
  | .ref a => some (.ref a)
  | .type n => some (.ty n)
  | _ => none
theorem zu.abs {x : V} {u : Value} (r : zu x u) : zAn u = some x := by
  cases x with
  | non => cases r; rfl
  | bl _ => cases r; rfl
  | int _ => obtain ⟨t, rfl⟩ := r; rfl
  | str _ => obtain ⟨t, rfl⟩ := r; rfl
  | byt _ => obtain ⟨t, rfl⟩ := r; rfl
  | flt _ => obtain ⟨t, rfl⟩ := r; rfl
  | ref _ => cases r; rfl
  | ty _ => cases r; rfl
theorem zu.inj {x y : V} {u : Value} (r : zu x u) (q : zu y u) : x = y := Option.some.inj (r.abs.symm.trans q.abs)
theorem zy.inj : ∀ {xs ys : List V} {us : List Value}, zy xs us -> zy ys us -> xs = ys
  | _, _, _, .nil, .nil => rfl
  | _, _, _, .cons r t, .cons r' t' => by rw [r.inj r', zy.inj t t']
section
variable {X : Cx} {pins : List (Addr × Obj)} {σ : St} {H : Hp} {s : Shared} {a : Addr} {xs ys : List V}
theorem SqL.of {K : PySem.W.Frag} (h : H a = some (.lst xs)) : SqL K H a xs := .inl (.inl h)
theorem SqT.of {K : PySem.W.Frag} (h : H a = some (.tup xs)) : SqT K H a xs := .inl (.inl h)
theorem Inv.list (I : Inv X pins σ H s) (h : SqL X.K H a xs) : ∃ its : List Value, zy xs its ∧ PlainL s.heap a its.toArray ∧ xs.length <= sizeLine := by
  rcases h with h | ⟨o, its, n, hk, hc, hd, hs, hz, r⟩
  . obtain ⟨z, its, n, r, e⟩ := h.ok I.hok
    exact ⟨its, r, ⟨_, n, e, rfl, rfl, rfl⟩, z⟩
  . refine ⟨its.toList, r, ⟨o, n, I.kIn a o hk, hc, hd, by simpa using hs⟩, ?_⟩
    have e := r.length
    simp only [Array.length_toList] at e
    omega
theorem Inv.tuple (I : Inv X pins σ H s) (h : SqT X.K H a xs) : ∃ its : List Value, zy xs its ∧ IsTup s.heap a its.toArray ∧ xs.length <= sizeLine := by
  rcases h with h | ⟨o, its, n, hk, hc, hs, hz, r⟩
  . obtain ⟨z, its, r, p⟩ := h.ok I.hok
    exact ⟨its, r, p, z⟩
  . refine ⟨its.toList, r, ⟨o, I.kIn a o hk, hc, n, by simpa using hs⟩, ?_⟩
    have e := r.length
    simp only [Array.length_toList] at e
    omega
theorem Inv.list_inj (I : Inv X pins σ H s) (h : SqL X.K H a xs) (h' : SqL X.K H a ys) : xs = ys := by
  obtain ⟨its, r, ⟨o, n, e, _, _, d⟩, _⟩ := I.list h
  obtain ⟨its', r', ⟨o', n', e', _, _, d'⟩, _⟩ := I.list h'
  rw [e] at e'; cases e'
  rw [d] at d'
  injection d' with d1 _
  have : its = its' := by simpa using congrArg Array.toList d1
  subst this
  exact r.inj r'
theorem Inv.tuple_inj (I : Inv X pins σ H s) (h : SqT X.K H a xs) (h' : SqT X.K H a ys) : xs = ys := by
  obtain ⟨its, r, ⟨o, e, _, n, d⟩, _⟩ := I.tuple h
  obtain ⟨its', r', ⟨o', e', _, n', d'⟩, _⟩ := I.tuple h'
  rw [e] at e'; cases e'
  rw [d] at d'
  injection d' with d1 _
  have : its = its' := by simpa using congrArg Array.toList d1
  subst this
  exact r.inj r'
end
abbrev Cx.wish (X : Cx) (E : Value -> Shared -> Prop) : Cx := { X with xe := E }
abbrev Cx.nox (X : Cx) : Cx := X.wish fun _ _ => False
theorem Cx.Ok.wish {X : Cx} (ok : X.Ok) (E : Value -> Shared -> Prop) : (X.wish E).Ok :=
  ⟨ok.mod, ok.kind, ok.glob, ok.blt, ok.above, ok.inj, ok.has, ok.cab, ok.hd, ok.frames, ok.stk, ok.exf, ok.bs, ok.bsz, ok.noex, ok.exfs, ok.funs, ok.frf⟩
theorem Cx.Ok.unwish {X : Cx} {E : Value -> Shared -> Prop} (ok : (X.wish E).Ok) : X.Ok :=
  ⟨ok.mod, ok.kind, ok.glob, ok.blt, ok.above, ok.inj, ok.has, ok.cab, ok.hd, ok.frames, ok.stk, ok.exf, ok.bs, ok.bsz, ok.noex, ok.exfs, ok.funs, ok.frf⟩
section
variable {X : Cx} {pins : List (Addr × Obj)} {σ : St} {H : Hp} {s : Shared} {E : Value -> Shared -> Prop}
theorem Inv.wish (I : Inv X pins σ H s) (E : Value -> Shared -> Prop) : Inv (X.wish E) pins σ H s := ⟨I.ok.wish E, I.os, I.bare, I.base, I.loc, I.cell, I.free, I.freeC, I.pin, I.hok, I.len⟩
theorem Inv.unwish (I : Inv (X.wish E) pins σ H s) : Inv X pins σ H s := ⟨I.ok.unwish, I.os, I.bare, I.base, I.loc, I.cell, I.free, I.freeC, I.pin, I.hok, I.len⟩
theorem SP.unwish {D : zeV} {f : Flow} {s' : Shared} (h : SP (X.wish E) pins D f s') : SP X pins D f s' := by
  cases f with
  | next => obtain ⟨σ', H', I, q⟩ := h; exact ⟨σ', H', I.unwish, q⟩
  | brk => obtain ⟨σ', H', I, q⟩ := h; exact ⟨σ', H', I.unwish, q⟩
  | cont => obtain ⟨σ', H', I, q⟩ := h; exact ⟨σ', H', I.unwish, q⟩
  | ret u => obtain ⟨v, σ', H', I, r, q⟩ := h; exact ⟨v, σ', H', I.unwish, r, q⟩
theorem PSs.nox {st : List Stmt} {t : TS} (h : PSs X.nox st t) : PSs X st t := fun pins s σ H D I hw =>
  wpAny_mono (h pins s σ H D (I.wish _) hw) (fun _ _ q => q.unwish) fun _ _ z => False.elim z
end
section
variable {X : Cx} {st : Stmt} {rest : List Stmt} {t u : TS} {e : Expr} {te : TE} {pos : Pos}
def zCx : TS := fun D σ H => D.nx σ H
def zAi (t u : TS) : TS := fun D σ H => t { D with nx := u D } σ H
theorem zCq : PSs X [] zCx := fun _ _ σ H _ I h => wpAny_execs_nil ⟨σ, H, I, h⟩
theorem zBz (h1 : PS X st t) (h2 : PSs X rest u) : PSs X (st :: rest) (zAi t u) := by
  intro pins s σ H D I h
  refine wpAny_execs_cons (thn (h1 pins s σ H { D with nx := u D } I h) fun f s1 q => ?_)
  cases f with
  | next =>
    obtain ⟨σ', H', I', q⟩ := q
    exact h2 pins s1 σ' H' D I' q
  | ret v => exact q
  | brk => exact q
  | cont => exact q
theorem zDB (h1 : PS X st t) : PSs X [st] t := by
  intro pins s σ H D I h
  refine wpAny_execs_cons (thn (h1 pins s σ H D I h) fun f s1 q => ?_)
  cases f with
  | next => exact wpAny_execs_nil q
  | ret v => exact q
  | brk => exact q
  | cont => exact q
theorem Inv.quiet {pins : List (Addr × Obj)} {σ : St} {H : Hp} {s : Shared} (I : Inv X pins σ H s) : interactive X.env = false := by simp [interactive, I.ok.kind]
def zFz (te : TE) : TS := fun D σ H => te σ H fun _ H1 => D.nx σ H1
theorem zAa (he : PE X e te) (hs : swapsWith e none pos.line X.env = pure false := by rfl) : PS X (.Expr e pos) (zFz te) := by
  intro pins s σ H D I h
  exact wpAny_Expr_any (thn (he pins s σ H _ I h) fun v s1 ⟨x, H1, I1, r1, q1⟩ => ⟨σ, H1, I1, q1⟩) I.quiet hs
def zB0 (te : TE) : TS := fun D σ H => te σ H D.rt
theorem zAv (he : PE X e te) : PS X (.Return (some e) pos) (zB0 te) := by
  intro pins s σ H D I h
  exact wpAny_Return_some (thn (he pins s σ H _ I h) fun v s1 ⟨x, H1, I1, r1, q1⟩ => ⟨x, σ, H1, I1, r1, q1⟩)
def zB2 (c : TT) (t u : TS) : TS := fun D σ H => c σ H fun b H1 => if b = true then t D σ H1 else u D σ H1
theorem zE9 {c : Expr} {a b : List Stmt} {tc : TT} (hc : PT X c tc) (ha : PSs X a t) (hb : PSs X b u) : PS X (.If c a b pos) (zB2 tc t u) := by
  intro pins s σ H D I h
  refine wpAny_If (thn (hc pins s σ H _ I h) fun d s1 ⟨H1, I1, q1⟩ => ?_)
  cases d with
  | true => exact ha pins s1 σ H1 D I1 q1
  | false => exact hb pins s1 σ H1 D I1 q1
def zAc : TS := fun _ _ _ => False
theorem zAJ : PS X st zAc := fun _ _ _ _ _ _ h => h.elim
end
abbrev TG := V -> St -> Hp -> (St -> Hp -> Prop) -> Prop
abbrev TGs := List V -> St -> Hp -> (St -> Hp -> Prop) -> Prop
def PG (X : Cx) (target : Expr) (t : TG) : Prop :=
  ∀ (pins : List (Addr × Obj)) (s : Shared) (σ : St) (H : Hp) (v : V) (u : Value) (Q : St -> Hp -> Prop), Inv X pins σ H s -> zu v u -> t v σ H Q ->
    wpAny (model X.prog X.w) X.A (assign target X.env u) (fun _ s' => ∃ σ' H', Inv X pins σ' H' s' ∧ Q σ' H') X.xe s
def PGs (X : Cx) (ts : List Expr) (t : TGs) : Prop :=
  ∀ (pins : List (Addr × Obj)) (s : Shared) (σ : St) (H : Hp) (vs : List V) (us : List Value) (Q : St -> Hp -> Prop), Inv X pins σ H s -> zy vs us -> t vs σ H Q ->
    wpAny (model X.prog X.w) X.A (assignInOrder ((assignEach ts X.env).map (·.2)) us) (fun _ s' => ∃ σ' H', Inv X pins σ' H' s' ∧ Q σ' H') X.xe s
abbrev zhQ := V -> V -> V -> Hp -> (Hp -> Prop) -> Prop
def zg1 (X : Cx) (t : zhQ) : Prop :=
  ∀ (pins : List (Addr × Obj)) (s : Shared) (σ : St) (H : Hp) (o i v : V) (ov iv u : Value) (Q : Hp -> Prop), Inv X pins σ H s -> zu o ov -> zu i iv -> zu v u -> t o i v H Q ->
    wpAny (model X.prog X.w) X.A (setItem ov iv u) (fun _ s' => ∃ H', Inv X pins σ H' s' ∧ Q H') X.xe s
abbrev TIp := V -> V -> Hp -> VK -> Prop
def PIp (X : Cx) (op : Operator) (t : TIp) : Prop :=
  ∀ (pins : List (Addr × Obj)) (s : Shared) (σ : St) (H : Hp) (x y : V) (v u : Value) (Q : VK), Inv X pins σ H s -> zu x v -> zu y u -> t x y H Q ->
    wpAny (model X.prog X.w) X.A (inplaceOp op v u) (EP X pins σ Q) X.xe s
section
variable {X : Cx} {pos : Pos}
def ziD (i : Nat) : TG := fun v σ H Q => Q (σ.set i (some v)) H
theorem zr1 {i : Nat} {x : Str} (hN : X.N.Nodup) (hi : X.N[i]? = some x) (hx : Loc X.env.scope x) (hf : X.fn x = true ∨ X.env.scope.names.lookup x = some .local := by first | exact .inl rfl | exact .inr rfl | assumption) : PG X (.Name x pos) (ziD i) := by
  intro pins s σ H v u Q I r h
  exact wpAny_assign_Name (zh8 I hN hi hx r (fun s' I' => ⟨_, H, I', h⟩) hf)
def zDw : TGs := fun vs σ H Q => vs = [] ∧ Q σ H
def zDZ (t : TG) (u : TGs) : TGs := fun vs σ H Q => ∃ v r, vs = v :: r ∧ t v σ H fun σ' H' => u r σ' H' Q
theorem zC7 : PGs X [] zDw := by
  intro pins s σ H vs us Q I r h
  obtain ⟨e, h⟩ := h
  subst e
  cases r
  exact assignInOrder_nil ⟨σ, H, I, h⟩
theorem zBJ {e : Expr} {es : List Expr} {t : TG} {u : TGs} (h1 : PG X e t) (h2 : PGs X es u)
    (hs : (assignEach (e :: es) X.env).map (·.2) = assign e X.env :: (assignEach es X.env).map (·.2) := by rfl) : PGs X (e :: es) (zDZ t u) := by
  intro pins s σ H vs us Q I r h
  obtain ⟨v, vr, e1, h⟩ := h
  subst e1
  cases r with
  | cons r rr =>
    rw [hs]
    refine assignInOrder_cons (thn (h1 pins s σ H _ _ _ I r h) fun _ s1 ⟨σ1, H1, I1, q1⟩ => ?_)
    exact h2 pins s1 σ1 H1 _ _ Q I1 rr q1
def zBn (K : PySem.W.Frag) (n : Nat) (t : TGs) : TG := fun v σ H Q => ∃ a xs, v = .ref a ∧ SqT K H a xs ∧ xs.length = n ∧ t xs σ H Q
theorem zBa {es : List Expr} {k : Nat} {t : TGs} {n : Nat} (hc : X.calm = true) (h : PGs X es t)
    (hn : (assignEach es X.env).length = n := by rfl) (hst : (assignEach es X.env).findIdx? (·.1) = none := by rfl) : PG X (.Tuple es k pos) (zBn X.K n t) := by
  intro pins s σ H v u Q I r hw
  obtain ⟨a, xs, e1, hq, hl, hw⟩ := hw
  subst e1
  cases r
  obtain ⟨its, rv, ht, hz⟩ := I.tuple hq
  refine assign_Tuple_tuple (I.ok.hd hc) ht (by simp [hn, <- hl, rv.length]) hst fun h' hx => ?_
  have I1 : Inv X pins σ H { s with heap := h' } := I.kept (t' := s.toks) fun b o e => hx b o (Nat.ne_of_lt (Heap.lt_size e)) e
  exact h pins _ σ H xs _ Q I1 (by simpa using rv) hw
def zD7 (to ti : TE) (t : zhQ) : TG := fun v σ H Q => to σ H fun o H1 => ti σ H1 fun i H2 => t o i v H2 fun H3 => Q σ H3
theorem zD5 {o i : Expr} {to ti : TE} {t : zhQ} (ho : PE X o to) (hi : PE X i ti) (hs : zg1 X t)
    (ha : ∀ v, assign (.Subscript o i pos) X.env v = (do
      let ov <- holding [v] (eval o X.env)
      let iv <- holding [v, ov] (eval i X.env)
      standAt pos
      holding [v, ov, iv] (setItem ov iv v)
      release [v, ov, iv] []) := by intro _; rfl) : PG X (.Subscript o i pos) (zD7 to ti t) := by
  intro pins s σ H v u Q I r h
  rw [ha]
  refine wpAny_bind (wpAny_holding (thn (ho pins s σ H _ I h) fun ov s1 ⟨x, H1, I1, r1, q1⟩ => ?_))
  refine wpAny_bind (wpAny_holding (thn (hi pins s1 σ H1 _ I1 q1) fun iv s2 ⟨y, H2, I2, r2, q2⟩ => ?_))
  refine wpAny_bind (wpAny_standAt (wpAny_bind (wpAny_holding (thn (hs pins s2 σ H2 x y v ov iv u _ I2 r1 r2 r q2) fun _ s3 ⟨H3, I3, q3⟩ => ?_))))
  exact wpAny_release ⟨σ, H3, I3, q3⟩
def zpA (te : TE) (g : TG) : TS := fun D σ H => te σ H fun x H1 => g x σ H1 D.nx
theorem zsO {tg e : Expr} {te : TE} {g : TG} (he : PE X e te) (hg : PG X tg g) (hs : swapsWithSole [tg] e pos.line X.env = pure false := by rfl) (hw : swappedStores [tg] e X.env = pure none := by rfl)
    (h1 : (assignEach [tg] X.env).map (·.2) = [assign tg X.env] := by rfl) : PS X (.Assign [tg] e pos) (zpA te g) := by
  intro pins s σ H D I h
  refine wpAny_Assign_stores (thn (he pins s σ H _ I h) fun v s1 ⟨x, H1, I1, r1, q1⟩ => ?_) hs hw
  rw [h1]
  exact thn (hg pins s1 σ H1 x v _ I1 r1 q1) fun _ s2 q => q
theorem zCm {i : Nat} {x : Str} {e : Expr} {te : TE} {pos' : Pos} (hN : X.N.Nodup) (hi : X.N[i]? = some x) (hx : Loc X.env.scope x) (he : PE X e te) (hs : swapsWith e (some (.Name x pos')) pos.line X.env = pure false := by rfl) (hf : X.fn x = true ∨ X.env.scope.names.lookup x = some .local := by first | exact .inl rfl | exact .inr rfl | assumption) :
    PS X (.Assign [.Name x pos'] e pos) (zpA te (ziD i)) := by
  intro pins s σ H D I h
  refine wpAny_Assign_Name (thn (he pins s σ H _ I h) fun v s1 ⟨y, H1, I1, r1, q1⟩ => ?_) hs
  exact zh8 I1 hN hi hx r1 (fun s2 I2 => ⟨_, H1, I2, q1⟩) hf
def zCy (i j : Nat) (ta : TA) : TS := fun D σ H => ta σ H fun vs H1 => ∃ v w, vs = [v, w] ∧ D.nx ((σ.set i (some v)).set j (some w)) H1
theorem zBr {i j : Nat} {x y : Str} {a b : Expr} {ta : TA} {px py pt : Pos} {kt k2 pt2} (hc : X.calm = true) (hN : X.N.Nodup) (hi : X.N[i]? = some x) (hj : X.N[j]? = some y) (hij : i ≠ j)
    (hx : X.env.scope.names.lookup x = some .local) (hy : X.env.scope.names.lookup y = some .local) (ha : PA X [a, b] ta)
    (hw : swappedStores [.Tuple [.Name x px, .Name y py] kt pt] (.Tuple [a, b] k2 pt2) X.env = pure (some [x, y]))
    (hs : swapsWithSole [.Tuple [.Name x px, .Name y py] kt pt] (.Tuple [a, b] k2 pt2) pos.line X.env = pure false := by rfl) :
    PS X (.Assign [.Tuple [.Name x px, .Name y py] kt pt] (.Tuple [a, b] k2 pt2) pos) (zCy i j ta) := by
  intro pins s σ H D I h
  rw [exec_Assign_arm]
  refine wpAny_bind (wpAny_standAt ?_)
  rw [hs]
  refine wpAny_bind (wpAny_pure ?_)
  rw [if_neg (by decide)]
  refine wpAny_bind (Tuple_ (thn (ha _ pins s σ H _ I h) fun us s1 ⟨vs, H1, I1, r1, q1⟩ => ?_))
  obtain ⟨v, w, e1, q1⟩ := q1
  subst e1
  obtain ⟨u1, u2, rfl, rv, rw'⟩ : ∃ u1 u2, us = [u1, u2] ∧ zu v u1 ∧ zu w u2 := by
    cases r1 with
    | cons p q =>
      cases q with
      | cons p' q' =>
        cases q'
        exact ⟨_, _, rfl, p, p'⟩
  refine wpAny_newObj_type ?_ (by show 2 <= sizeLine; decide)
  have I2 : Inv X pins σ H1 { s1 with heap := s1.heap.push { cls := .type "tuple", data := .seq [u1, u2].toArray } } := I1.kept (t' := s1.toks) fun b o e => Heap.get?_push_of_some _ e
  rw [hw]
  refine wpAny_bind (wpAny_pure ?_)
  show wpAny (model X.prog X.w) X.A (do rule "assign.swapped-stores"; let items <- unpackItems (.ref s1.heap.objs.size) 2 none; assignInOrder [fun v => bindName X.env y v, fun v => bindName X.env x v] items.reverse; pure Flow.next) _ _ _
  refine wpAny_bind (wpAny_rule (wpAny_bind (unpackItems_tuple (items := #[u1, u2]) (I.ok.hd hc) (IsTup.new s1.heap _) fun h' hx' => ?_)))
  have I3 := I2.kept (h' := h') (t' := s1.toks) fun b o e => hx' b o (Nat.ne_of_lt (Heap.lt_size e)) e
  show wpAny _ _ (assignInOrder [fun v => bindName X.env y v, fun v => bindName X.env x v] [u2, u1] >>= fun _ => pure Flow.next) _ _ _
  refine wpAny_bind (assignInOrder_cons (wpAny_bindName (zh8 I3 hN hj (.inl hy) rw' (fun s2 I4 => ?_) (.inr hy))))
  refine assignInOrder_cons (wpAny_bindName (zh8 I4 hN hi (.inl hx) rv (fun s3 I5 => assignInOrder_nil (wpAny_pure ?_)) (.inr hx)))
  rw [List.set_comm _ _ (Ne.symm hij)] at I5
  exact ⟨_, H1, I5, q1⟩
def zDR (i : Nat) (te : TE) (ti : TIp) : TS := fun D σ H => ∃ x, σ[i]? = some (some x) ∧ te σ H fun y H1 => ti x y H1 fun z H2 => D.nx (σ.set i (some z)) H2
theorem zDO {i : Nat} {x : Str} {e : Expr} {te : TE} {op : Operator} {ti : TIp} {pos' : Pos} (hN : X.N.Nodup) (hi : X.N[i]? = some x) (hx : Loc X.env.scope x) (he : PE X e te) (ho : PIp X op ti) (hf : X.fn x = true ∨ X.env.scope.names.lookup x = some .local := by first | exact .inl rfl | exact .inr rfl | assumption) :
    PS X (.AugAssign (.Name x pos') op e pos) (zDR i te ti) := by
  intro pins s σ H D I h
  obtain ⟨v, e1, h⟩ := h
  obtain ⟨m, hn, hl⟩ := I.loc
  have vis : Vis X.env.scope x := by rcases hx with k | k; exact .inl k; exact .inr (.inl k)
  obtain ⟨u, r, l⟩ := hl i x v hi e1 vis
  refine wpAny_AugAssign_Name ?_
  have go : wpAny (model X.prog X.w) X.A (eval e X.env) (fun w s₂ => wpAny (model X.prog X.w) X.A (inplaceOp op u w) (fun r s₃ => wpAny (model X.prog X.w) X.A (storeName X.env x r) (fun _ => SP X pins D .next) X.xe s₃) X.xe s₂) X.xe s := by
    refine thn (he pins s σ H _ I h) fun w s1 ⟨y, H1, I1, r1, q1⟩ => ?_
    refine thn (ho pins s1 σ H1 v y u w _ I1 r r1 q1) fun z s2 ⟨zv, H2, I2, r2, q2⟩ => ?_
    exact zh8 I2 hN hi hx r2 (fun s3 I3 => ⟨_, H2, I3, q2⟩) hf
  rcases l with ⟨hk, hm⟩ | ⟨hk, c, hc, hcell⟩
  . exact wpAny_loadName_local I.ok.kind hk hn hm go
  . rcases hk with hk | hk
    . exact wpAny_loadName_cell I.ok.kind hk hc hcell go
    . rcases hx with k | k
      . have : X.env.scope.names.lookup x = some .free := hk
        rw [k] at this; cases this
      . have : X.env.scope.names.lookup x = some .free := hk
        rw [k] at this; cases this
end
section
variable {X : Cx} {pos : Pos}
def zED (c : TT) (tb : TS) : TS := fun D σ H => ∃ W : Nat -> St -> Hp -> Prop, (∃ m, W m σ H) ∧ ∀ m σ H, W m σ H ->
  c σ H fun b H1 => if b = true then ∃ N : St -> Hp -> Prop, (∀ σ' H', N σ' H' -> ∃ m', m' < m ∧ W m' σ' H') ∧ tb { D with nx := N, ct := N, bk := D.nx } σ H1 else D.nx σ H1
theorem zEQ {c : Expr} {body : List Stmt} {tc : TT} {tb : TS} (hp : PassesOwn (model X.prog X.w) X.A X.env X.xe) (hc : PT X c tc) (hb : PSs X body tb) : PS X (.While c body [] pos) (zED tc tb) := by
  intro pins s σ H D I h
  obtain ⟨W, ⟨m0, w0⟩, turn⟩ := h
  refine wpAny_While (codeAny_whileLoop (fun n s' => ∃ σ' H', Inv X pins σ' H' s' ∧ W n σ' H') ?_ m0 ⟨σ, H, I, w0⟩)
  rintro n s1 ⟨σ1, H1, I1, w1⟩
  refine wpAny_passesOwn hp (thn (hc pins s1 σ1 H1 _ I1 (turn n σ1 H1 w1)) fun b s2 ⟨H2, I2, q2⟩ => ?_)
  cases b with
  | true =>
    obtain ⟨N, hN, q2⟩ := q2
    rw [if_pos rfl]
    refine wpAny_passesOwn hp (thn (hb pins s2 σ1 H2 _ I2 q2) fun f s3 q3 => ?_)
    cases f with
    | next =>
      obtain ⟨σ3, H3, I3, n3⟩ := q3
      obtain ⟨m', hm, w3⟩ := hN σ3 H3 n3
      exact ⟨m', hm, σ3, H3, I3, w3⟩
    | cont =>
      obtain ⟨σ3, H3, I3, n3⟩ := q3
      obtain ⟨m', hm, w3⟩ := hN σ3 H3 n3
      exact ⟨m', hm, σ3, H3, I3, w3⟩
    | brk => exact q3
    | ret v => exact q3
  | false =>
    rw [if_neg Bool.false_ne_true]
    exact wpAny_execs_nil ⟨σ1, H2, I2, q2⟩
end
structure It where
  go : Nat -> Hp -> Prop
  yld : Nat -> Hp -> V -> Hp -> Prop
  stop : Nat -> Hp -> Prop
def zdu (X : Cx) (pins : List (Addr × Obj)) (H : Hp) (b : Addr) : Prop :=
  H b = none ∧ b ≠ X.env.locals ∧ b ∉ X.fs ∧ (b ∈ X.ex ∨ X.s₀.heap.objs.size <= b) ∧ (∀ x c, X.env.cells.lookup x = some c -> c ≠ b) ∧ ∀ p ∈ X.pn ++ pins, p.1 ≠ b
theorem Inv.fpOk {X : Cx} {pins : List (Addr × Obj)} {σ : St} {H H' : Hp} {s : Shared} {b : Addr} (I : Inv X pins σ H s) (hb : s.heap.objs.size <= b) (hn : H' b = none) : zdu X pins H' b := by
  refine ⟨hn, Nat.ne_of_gt (Nat.lt_of_lt_of_le I.lt hb), I.nofs hb, .inr (Nat.le_trans I.sz hb), fun x c e z => ?_, fun p hp z => ?_⟩
  . obtain ⟨v, q⟩ := I.cell x c e
    exact absurd (Nat.lt_of_lt_of_le q.lt (by rw [z]; exact hb)) (Nat.lt_irrefl _)
  . exact absurd (Nat.lt_of_lt_of_le (Heap.lt_size (I.pin p hp).1) (by rw [z]; exact hb)) (Nat.lt_irrefl _)
structure zgs (P : Program) (w : World) (K : PySem.W.Frag) (tg : Expr) (J : It) (fp : List Addr) (it : Addr) (tn : Nat -> Heap -> Prop) : Prop where
  mem : it ∈ fp
  obj : ∀ i h, tn i h -> ∀ b ∈ fp, ∃ o, h.get? b = some o ∧ ∀ v, o.data ≠ .cell v
  keep : ∀ i h h', tn i h -> (∀ b ∈ fp, ∀ o, h.get? b = some o -> h'.get? b = some o) -> tn i h'
  item : ∀ (X : Cx), X.prog = P -> X.w = w -> X.K = K -> X.calm = true -> ∀ (i : Nat) (pins : List (Addr × Obj)) (s : Shared) (σ : St) (H : Hp) (E : Value -> Shared -> Prop), Inv X pins σ H s -> (∀ b ∈ fp, zdu X pins H b) -> tn i s.heap -> J.go i H ->
    wpAny (model P w) X.A (pyNext (.ref it)) (fun r s1 => ∃ u, r = some u ∧
      wpAny (model P w) X.A (letOwnedTupleGo tg (.ref it) u) (fun _ s2 => ∃ x H', Inv X pins σ H' s2 ∧ zu x u ∧ J.yld i H x H' ∧ tn (i + 1) s2.heap ∧ ∀ b ∈ fp, H' b = none) E s1) E s
  done : ∀ (X : Cx), X.prog = P -> X.w = w -> X.K = K -> X.calm = true -> ∀ (i : Nat) (pins : List (Addr × Obj)) (s : Shared) (σ : St) (H : Hp) (E : Value -> Shared -> Prop), Inv X pins σ H s -> (∀ b ∈ fp, zdu X pins H b) -> tn i s.heap -> J.stop i H ->
    wpAny (model P w) X.A (pyNext (.ref it)) (fun r s1 => r = none ∧ Inv X pins σ H s1) E s
  self : ∀ (A : Around) (i : Nat) (s : Shared) (Q : Value -> Shared -> Prop) (E : Value -> Shared -> Prop), tn i s.heap -> Q (.ref it) s -> wpAny (model P w) A (pyIter (.ref it)) Q E s
abbrev TI := St -> Hp -> (It -> Hp -> Prop) -> Prop
def PIE (X : Cx) (pins : List (Addr × Obj)) (σ : St) (tg : Expr) (R : It -> Hp -> Prop) (itv : Value) (s2 : Shared) : Prop :=
  ∃ (it : Addr) (fp : List Addr) (tn : Nat -> Heap -> Prop) (J : It) (H' : Hp), itv = .ref it ∧ Inv X pins σ H' s2 ∧ zgs X.prog X.w X.K tg J fp it tn ∧ tn 0 s2.heap ∧ (∀ b ∈ fp, zdu X pins H' b) ∧ R J H'
def PI (X : Cx) (tg iter : Expr) (wi : TI) : Prop :=
  ∀ (pins : List (Addr × Obj)) (s : Shared) (σ : St) (H : Hp) (R : It -> Hp -> Prop), Inv X pins σ H s -> wi σ H R ->
    wpAny (model X.prog X.w) X.A (eval iter X.env) (fun v s1 => wpAny (model X.prog X.w) X.A (pyIter v) (PIE X pins σ tg R) X.xe s1) X.xe s
theorem zpT {M : Model} {A : Around} {E : Value -> Shared -> Prop} {s : Shared} {tg : Expr} {it : Addr} {u : Value} {o : Obj} {n : String} {vs : Array Value} {Q : Unit -> Shared -> Prop} (ho : s.heap.get? it = some o) (hc : o.cls = .type n) (hd : o.data = .fields vs)
    (hn : ["enumerate", "zip", "dict_itemiterator", "dict_reverseitemiterator", "odict_iterator", "itertools.zip_longest", "itertools.pairwise"].contains n = false) (hQ : Q () s) : wpAny M A (letOwnedTupleGo tg (.ref it) u) Q E s := by
  unfold letOwnedTupleGo
  cases tg <;> first
    | exact wpAny_pure hQ
    | (cases u <;> first
        | exact wpAny_pure hQ
        | (refine wpAny_bind (wpAny_load ho ?_)
           rw [hc, hd]
           show wpAny M A (if (["enumerate", "zip", "dict_itemiterator", "dict_reverseitemiterator", "odict_iterator", "itertools.zip_longest", "itertools.pairwise"].contains n && vs[0]? == some (rawInt _)) = true then _ else _) Q E s
           rw [if_neg (by intro h; rw [hn, Bool.false_and] at h; cases h)]
           exact wpAny_pure hQ))
def Itl (K : PySem.W.Frag) (a : Addr) : It :=
  ⟨fun i H => ∃ xs x, SqL K H a xs ∧ xs[i]? = some x, fun i H x H' => H' = H ∧ ∀ xs, SqL K H a xs -> xs[i]? = some x, fun i H => ∃ xs, SqL K H a xs ∧ xs.length <= i⟩
def Itr (lo : Int) (n : Nat) : It := ⟨fun i _ => i < n, fun i H x H' => H' = H ∧ x = .int (lo + i), fun i _ => n <= i⟩
theorem zE7 {P : Program} {w : World} {K : PySem.W.Frag} {tg : Expr} (a it : Addr) : zgs P w K tg (Itl K a) [it] it (fun i h => h.IsListIter it a i) where
  mem := by simp
  obj := fun i h st b hb => by
    have e : b = it := by simpa using hb
    subst e
    obtain ⟨o, e, c, d⟩ := st
    exact ⟨o, e, fun v z => by rw [d] at z; cases z⟩
  keep := fun i h h' st k => st.at fun o e => k it (by simp) o e
  item := by
    intro X hP hw hK hc i pins s σ H E I hf st hg
    subst hP hw hK
    obtain ⟨xs, x, hq, hx⟩ := hg
    obtain ⟨its, rv, p, hz⟩ := I.list hq
    obtain ⟨u, hu, ru⟩ := rv.get hx
    obtain ⟨f0, f1, f2, f3, f4, f5⟩ := hf it (by simp)
    refine wpAny_pyNext_list_item st p.isList (x := u) (by simpa using hu) fun h' st' sb => ?_
    have I1 : Inv X pins σ H { s with heap := h' } := I.turned (t' := s.toks) (fun b o hb e => (sb.2 b hb).trans e) f0 f1 f3 f4 f5
    obtain ⟨o, e, c, d⟩ := id st'
    exact ⟨u, rfl, zpT (s := { s with heap := h' }) e c d (by decide) ⟨x, H, I1, ru, ⟨rfl, fun ys hy => by rw [I.list_inj hy hq]; exact hx⟩, st', fun b hb => (hf b hb).1⟩⟩
  done := by
    intro X hP hw hK hc i pins s σ H E I hf st hg
    subst hP hw hK
    obtain ⟨xs, hq, hx⟩ := hg
    obtain ⟨its, rv, p, hz⟩ := I.list hq
    obtain ⟨f0, f1, f2, f3, f4, f5⟩ := hf it (by simp)
    have hl := rv.length
    exact wpAny_pyNext_list_end (I.ok.hd hc) st p.isList (by simp; omega) fun h' eb => ⟨rfl, I.turned (t' := s.toks) (fun b o hb e => eb b o hb e) f0 f1 f3 f4 f5⟩
  self := fun _ _ _ _ _ st h => wpAny_pyIter_listiter st h
theorem zFl {P : Program} {w : World} {K : PySem.W.Frag} {tg : Expr} (it : Addr) (lo : Int) (n : Nat) : zgs P w K tg (Itr lo n) [it] it (fun i h => IsRangeIter h it (lo + (i : Nat) * 1) ((n : Int) - (i : Nat)) 1) where
  mem := by simp
  obj := fun i h st b hb => by
    have e : b = it := by simpa using hb
    subst e
    exact ⟨_, st, fun v z => by
      have z' : Data.fields _ = Data.cell v := z
      cases z'⟩
  keep := fun i h h' st k => k it (by simp) _ st
  item := by
    intro X hP hw hK hc i pins s σ H E I hf st hg
    subst hP hw hK
    obtain ⟨f0, f1, f2, f3, f4, f5⟩ := hf it (by simp)
    have W := Walks.range (prog := X.prog) (w := X.w) (I.ok.hd hc) it lo 1 n
    refine W.item i s _ _ hg st fun v h' tk hv st' kk => ?_
    obtain ⟨t, rfl⟩ := hv
    have I1 : Inv X pins σ H { s with heap := h', toks := tk } := I.turned (fun b o hb e => kk b o (by simpa using hb) e) f0 f1 f3 f4 f5
    refine ⟨_, rfl, zpT (s := { s with heap := h', toks := tk }) (n := "range_iterator") st' rfl rfl (by decide) ⟨.int (lo + i), H, I1, ⟨t, ?_⟩, ⟨rfl, rfl⟩, st', fun b hb => (hf b hb).1⟩⟩
    rw [Int.mul_one]
  done := by
    intro X hP hw hK hc i pins s σ H E I hf st hg
    subst hP hw hK
    obtain ⟨f0, f1, f2, f3, f4, f5⟩ := hf it (by simp)
    exact wpAny_pyNext_range_end (I.ok.hd hc) st (by have : n <= i := hg; omega) fun h' eb => ⟨rfl, I.turned (t' := s.toks) (fun b o hb e => eb b o hb e) f0 f1 f3 f4 f5⟩
  self := fun _ _ _ _ _ st h => wpAny_pyIter_rangeiter st h
end L2
namespace L2
open PySem PySem.Spec PyProof.Rows
section
variable {X : Cx} {tg : Expr}
def zEw (K : PySem.W.Frag) (tl : TE) : TI := fun σ H R => tl σ H fun x H1 => ∃ a, x = .ref a ∧ (∃ xs, SqL K H1 a xs) ∧ R (Itl K a) H1
theorem zBj {l : Expr} {tl : TE} (hl : PE X l tl) : PI X tg l (zEw X.K tl) := by
  intro pins s σ H R I h
  refine thn (hl pins s σ H _ I h) fun v s1 ⟨x, H1, I1, r1, q1⟩ => ?_
  obtain ⟨a, e, ⟨xs, hq⟩, q⟩ := q1
  subst e
  cases r1
  obtain ⟨its, rv, p, hz⟩ := I1.list hq
  refine wpAny_pyIter_list p.isList ?_
  refine ⟨s1.heap.objs.size, [s1.heap.objs.size], _, _, H1, rfl, I1.kept (t' := s1.toks) fun b o e => Heap.get?_push_of_some _ e, zE7 a _, ⟨_, Heap.get?_push_size _ rfl, rfl, rfl⟩, fun b hb => ?_, q⟩
  have e : b = s1.heap.objs.size := by simpa using hb
  subst e
  exact I1.fpOk (Nat.le_refl _) (I1.hok.fresh (Nat.le_refl _))
theorem zDE {pins : List (Addr × Obj)} {σ : St} {H : Hp} {s : Shared} {R : It -> Hp -> Prop} {E : Value -> Shared -> Prop} {lo hi : Int} {t u v : Tok} {tk : Nat} (I : Inv X pins σ H s) (h1 : -(2 ^ 62) <= lo) (h2 : lo < 2 ^ 62) (h3 : -(2 ^ 62) <= hi) (h4 : hi < 2 ^ 62)
    (q : R (Itr lo (hi - lo).toNat) H) : wpAny (model X.prog X.w) X.A (pyIter (.ref s.heap.objs.size)) (PIE X pins σ tg R) E { s with heap := s.heap.push { cls := .type "range", data := .fields #[.int lo t, .int hi u, .int 1 v] }, toks := tk } := by
  refine wpAny_pyIter_range (IsRange.new ..) (small_one h1 h2 h3 h4) ?_
  have I1 : Inv X pins σ H { s with heap := s.heap.push { cls := .type "range", data := .fields #[.int lo t, .int hi u, .int 1 v] }, toks := tk } := I.kept fun b o e => Heap.get?_push_of_some _ e
  refine ⟨(s.heap.push { cls := .type "range", data := .fields #[.int lo t, .int hi u, .int 1 v] }).objs.size, [(s.heap.push { cls := .type "range", data := .fields #[.int lo t, .int hi u, .int 1 v] }).objs.size], _, _, H, rfl,
    I1.kept (t' := tk) fun b o e => Heap.get?_push_of_some _ e, zFl _ lo (hi - lo).toNat, ?_, fun b hb => ?_, q⟩
  . have e1 : lo + ((0 : Nat) : Int) * 1 = lo := by simp
    have e2 : (((hi - lo).toNat : Nat) : Int) - ((0 : Nat) : Int) = Builtin.Range.rangeSize lo hi 1 := by rw [rangeSize_one]; split <;> omega
    show IsRangeIter _ _ (lo + ((0 : Nat) : Int) * 1) ((((hi - lo).toNat : Nat) : Int) - ((0 : Nat) : Int)) 1
    rw [e1, e2]
    exact Heap.get?_push_size _ rfl
  . have e : b = (s.heap.push { cls := .type "range", data := .fields #[.int lo t, .int hi u, .int 1 v] }).objs.size := by simpa using hb
    subst e
    exact I1.fpOk (Nat.le_refl _) (I1.hok.fresh (Nat.le_refl _))
def zDc (ta : TA) : TI := fun σ H R => ta σ H fun vs H1 => ∃ j : Int, vs = [.int j] ∧ -(2 ^ 62) <= j ∧ j < 2 ^ 62 ∧ R (Itr 0 j.toNat) H1
theorem zCJ {a : Expr} {ta : TA} {p pos : Pos} (hg : Gl X "range") (hm : X.mg "range" = none) (ha : PA X [a] ta) (hs : starEach [a] X.env = [(false, eval a X.env)] := by rfl) : PI X tg (.Call (.Name "range" p) [a] [] pos) (zDc ta) := by
  intro pins s σ H R I h
  refine Call_ (zgu I hg hm boot_range (PyProof.Rows.callWith_type1 (thn (ha pos pins s σ H _ I h) fun us s1 ⟨vs, H1, I1, r1, q1⟩ => ?_) hs rfl))
  obtain ⟨j, e, q1, q2, q⟩ := q1
  subst e
  cases r1 with
  | cons r rr =>
    cases rr
    obtain ⟨t, rfl⟩ := r
    exact call_range_1 (zDE I1 (by omega) (by omega) q1 q2 (by simpa using q))
def zsv (wi : TI) (g : TG) (tb : TS) : TS := fun D σ H => wi σ H fun J H1 => ∃ W : Nat -> Nat -> St -> Hp -> Prop, (∃ m, W 0 m σ H1) ∧ ∀ i m σ H, W i m σ H ->
  (J.stop i H ∧ D.nx σ H) ∨ (J.go i H ∧ ∃ N : St -> Hp -> Prop, (∀ σ' H', N σ' H' -> ∃ m', m' < m ∧ W (i + 1) m' σ' H') ∧ ∀ x H', J.yld i H x H' -> g x σ H' fun σ2 H2 => tb { D with nx := N, ct := N, bk := D.nx } σ2 H2)
def zhx (fp : List Addr) (h : Heap) : List (Addr × Obj) := fp.filterMap fun b => (h.get? b).map fun o => (b, o)
theorem ziU {fp : List Addr} {h : Heap} {b : Addr} {o : Obj} (hb : b ∈ fp) (e : h.get? b = some o) : (b, o) ∈ zhx fp h := List.mem_filterMap.mpr ⟨b, hb, by rw [e]; rfl⟩
theorem zDY {fp : List Addr} {h : Heap} {p : Addr × Obj} (hp : p ∈ zhx fp h) : p.1 ∈ fp ∧ h.get? p.1 = some p.2 := by
  obtain ⟨b, hb, e⟩ := List.mem_filterMap.mp hp
  cases q : h.get? b with
  | none => rw [q] at e; cases e
  | some o =>
    rw [q] at e
    have e' : (b, o) = p := Option.some.inj e
    subst e'
    exact ⟨hb, q⟩
theorem Inv.pinned {pins : List (Addr × Obj)} {σ : St} {H : Hp} {s : Shared} {fp : List Addr} (I : Inv X pins σ H s) (hf : ∀ b ∈ fp, zdu X pins H b) (ho : ∀ b ∈ fp, ∃ o, s.heap.get? b = some o ∧ ∀ v, o.data ≠ .cell v) : Inv X (pins ++ zhx fp s.heap) σ H s :=
  I.pins_of fun p hp => (List.mem_append.mp hp).elim (fun z => I.pin p (List.mem_append_right _ z)) fun z => by
    obtain ⟨hb, e⟩ := zDY z
    obtain ⟨f0, f1, f2, _⟩ := hf p.1 hb
    obtain ⟨o, e', d⟩ := ho p.1 hb
    rw [e] at e'; cases e'
    exact ⟨e, f0, f1, f2, d⟩
theorem Inv.unpinned {pins pl : List (Addr × Obj)} {σ : St} {H : Hp} {s : Shared} (I : Inv X (pins ++ pl) σ H s) : Inv X pins σ H s := I.pins_of fun p hp => I.pin p (List.mem_append_right _ (List.mem_append_left _ hp))
theorem zto {iter : Expr} {body : List Stmt} {wi : TI} {g : TG} {tb : TS} {pos : Pos} (hp : PassesOwn (model X.prog X.w) X.A X.env X.xe) (hc : X.calm = true) (hi : PI X tg iter wi) (hg : PG X tg g) (hb : PSs X body tb)
    (hs : ∀ x, foldedSetIterable iter X.env x = pure x := by intro _; rfl) : PS X (.For tg iter body [] pos) (zsv wi g tb) := by
  intro pins s σ H D I h
  refine wpAny_For (thn (hi pins s σ H _ I h) fun v s1 h1 => thn h1 fun itv s2 h2 => ?_) hs
  obtain ⟨it, fp, tn, J, H2, e, I2, T, st2, f2, W, ⟨m0, w0⟩, turn⟩ := h2
  subst e
  have stat : ∀ {H' : Hp}, (∀ b ∈ fp, H' b = none) -> ∀ b ∈ fp, zdu X pins H' b := fun hn b hb => ⟨hn b hb, (f2 b hb).2⟩
  refine codeAny_forLoop_any (fun n s' => ∃ i σ' H', Inv X pins σ' H' s' ∧ tn i s'.heap ∧ (∀ b ∈ fp, H' b = none) ∧ W i n σ' H') ?_ m0 ⟨0, σ, H2, I2, st2, fun b hb => (f2 b hb).1, w0⟩
  rintro n s3 ⟨i, σ3, H3, I3, st3, fr3, w3⟩
  rcases turn i n σ3 H3 w3 with ⟨stop, qn⟩ | ⟨go, N, hN, step⟩
  . refine wpAny_passesOwn hp (thn (T.done X rfl rfl rfl hc i pins s3 σ3 H3 X.xe I3 (stat fr3) st3 stop) fun r s4 ⟨hr, I4⟩ => ?_)
    subst hr
    exact wpAny_execs_nil ⟨σ3, H3, I4, qn⟩
  . refine wpAny_passesOwn hp (thn (T.item X rfl rfl rfl hc i pins s3 σ3 H3 X.xe I3 (stat fr3) st3 go) fun r s4 ⟨u, hr, h4⟩ => ?_)
    subst hr
    refine wpAny_passesOwn hp (thn h4 fun _ s5 ⟨x, H5, I5, r5, y5, st5, fr5⟩ => ?_)
    have I5' := I5.pinned (stat fr5) (T.obj _ _ st5)
    refine wpAny_passesOwn hp (thn (hg _ s5 σ3 H5 x u _ I5' r5 (step x H5 y5)) fun _ s6 ⟨σ6, H6, I6, q6⟩ => ?_)
    refine wpAny_passesOwn hp (thn (hb _ s6 σ6 H6 _ I6 q6) fun f s7 q7 => ?_)
    have again : ∀ {σ7 : St} {H7 : Hp}, Inv X (pins ++ zhx fp s5.heap) σ7 H7 s7 -> N σ7 H7 -> ∃ m, m < n ∧ ∃ i σ' H', Inv X pins σ' H' s7 ∧ tn i s7.heap ∧ (∀ b ∈ fp, H' b = none) ∧ W i m σ' H' := fun {σ7 H7} I7 n7 => by
      obtain ⟨m', hm, w7⟩ := hN σ7 H7 n7
      refine ⟨m', hm, i + 1, σ7, H7, I7.unpinned, T.keep _ _ _ st5 fun b hb o e => (I7.pin (b, o) (List.mem_append_right _ (List.mem_append_right _ (ziU hb e)))).1, fun b hb => ?_, w7⟩
      obtain ⟨o, e, d⟩ := T.obj _ _ st5 b hb
      exact (I7.pin (b, o) (List.mem_append_right _ (List.mem_append_right _ (ziU hb e)))).2.1
    cases f with
    | next => obtain ⟨σ7, H7, I7, n7⟩ := q7; exact again I7 n7
    | cont => obtain ⟨σ7, H7, I7, n7⟩ := q7; exact again I7 n7
    | brk => obtain ⟨σ7, H7, I7, q7⟩ := q7; exact ⟨σ7, H7, I7.unpinned, q7⟩
    | ret v => obtain ⟨x7, σ7, H7, I7, r7, q7⟩ := q7; exact ⟨x7, σ7, H7, I7.unpinned, r7, q7⟩
end
end L2
namespace L2
open PySem PySem.Spec PyProof.Rows
abbrev R2 := V -> V -> Hp -> VK -> Prop
def OpR (X : Cx) (f : Value -> Value -> Sem Value) (r : R2) : Prop :=
  ∀ (pins : List (Addr × Obj)) (s : Shared) (σ : St) (H : Hp) (x y : V) (v u : Value) (Q : VK), Inv X pins σ H s -> zu x v -> zu y u -> r x y H Q ->
    wpAny (model X.prog X.w) X.A (f v u) (EP X pins σ Q) X.xe s
def UnR (X : Cx) (f : Value -> Sem Value) (r : V -> Hp -> VK -> Prop) : Prop :=
  ∀ (pins : List (Addr × Obj)) (s : Shared) (σ : St) (H : Hp) (x : V) (v : Value) (Q : VK), Inv X pins σ H s -> zu x v -> r x H Q ->
    wpAny (model X.prog X.w) X.A (f v) (EP X pins σ Q) X.xe s
def zew (X : Cx) (f : Value) (r : List V -> Hp -> VK -> Prop) : Prop :=
  ∀ (pins : List (Addr × Obj)) (s : Shared) (σ : St) (H : Hp) (xs : List V) (us : List Value) (Q : VK), Inv X pins σ H s -> zy xs us -> r xs H Q ->
    wpAny (model X.prog X.w) X.A (call f us) (EP X pins σ Q) X.xe s
def zCU (X : Cx) (r : V -> Hp -> (Bool -> Hp -> Prop) -> Prop) : Prop :=
  ∀ (pins : List (Addr × Obj)) (s : Shared) (σ : St) (H : Hp) (x : V) (v : Value) (Q : Bool -> Hp -> Prop), Inv X pins σ H s -> zu x v -> r x H Q ->
    wpAny (model X.prog X.w) X.A (truthy v) (TP X pins σ Q) X.xe s
def tOp (r : R2) (ta tb : TE) : TE := fun σ H Q => ta σ H fun x H1 => tb σ H1 fun y H2 => r x y H2 Q
def tUn (r : V -> Hp -> VK -> Prop) (ta : TE) : TE := fun σ H Q => ta σ H fun x H1 => r x H1 Q
def rI (C : Int -> Int -> Prop) (g : Int -> Int -> V) : R2 := fun x y H Q => ∃ i j, x = .int i ∧ y = .int j ∧ C i j ∧ Q (g i j) H
def rI0 (g : Int -> Int -> V) : R2 := fun x y H Q => ∃ i j, x = .int i ∧ y = .int j ∧ Q (g i j) H
def rU (g : Int -> V) : V -> Hp -> VK -> Prop := fun x H Q => ∃ i, x = .int i ∧ Q (g i) H
section
variable {X : Cx} {a b c : Expr} {ta tb tc : TE} {pos : Pos}
theorem zpZ (ha : PE X a ta) (hb : PE X b tb) {pins : List (Addr × Obj)} {s : Shared} {σ : St} {H : Hp} {R : V -> V -> Hp -> Prop} (I : Inv X pins σ H s)
    (h : ta σ H fun x H1 => tb σ H1 fun y H2 => R x y H2) {Q : Value -> Shared -> Prop} {f : Value -> Value -> Sem Value}
    (hf : ∀ v u s2 x y H2, Inv X pins σ H2 s2 -> zu x v -> zu y u -> R x y H2 -> wpAny (model X.prog X.w) X.A (f v u) Q X.xe s2) :
    wpAny (model X.prog X.w) X.A (eval a X.env) (fun v s₁ => wpAny (model X.prog X.w) X.A (eval b X.env) (fun u s₂ => wpAny (model X.prog X.w) X.A (f v u) Q X.xe s₂) X.xe s₁) X.xe s := by
  refine thn (ha pins s σ H _ I h) fun v s1 ⟨x, H1, I1, r1, q1⟩ => ?_
  refine thn (hb pins s1 σ H1 _ I1 q1) fun u s2 ⟨y, H2, I2, r2, q2⟩ => ?_
  exact hf v u s2 x y H2 I2 r1 r2 q2
theorem zpq {op : Operator} {r : R2} (ho : OpR X (binaryOp op) r) (ha : PE X a ta) (hb : PE X b tb) : PE X (.BinOp a op b pos) (tOp r ta tb) := by
  intro pins s σ H Q I h
  exact wpAny_BinOp (zpZ ha hb I h fun v u s2 x y H2 I2 rx ry q => ho pins s2 σ H2 x y v u Q I2 rx ry q)
theorem zsB {op : UnaryOp} {r : V -> Hp -> VK -> Prop} (ho : UnR X (unaryOp op) r) (ha : PE X a ta) : PE X (.UnaryOp op a pos) (tUn r ta) := by
  intro pins s σ H Q I h
  exact UnaryOp_ (thn (ha pins s σ H _ I h) fun v s1 ⟨x, H1, I1, r1, q1⟩ => ho pins s1 σ H1 x v Q I1 r1 q1)
theorem opI {f : Value -> Value -> Sem Value} {C : Int -> Int -> Prop} {g : Int -> Int -> Int}
    (rule : ∀ (i j : Int) (t u : Tok) (s : Shared) (Q : Value -> Shared -> Prop) (E : Value -> Shared -> Prop), C i j -> Q (.int (g i j) s.toks) { s with toks := s.toks + 1 } -> wpAny (model X.prog X.w) X.A (f (.int i t) (.int j u)) Q E s) :
    OpR X f (rI C fun i j => .int (g i j)) := by
  intro pins s σ H x y v u Q I rx ry h
  obtain ⟨i, j, rfl, rfl, hc, q⟩ := h
  obtain ⟨t, rfl⟩ := rx
  obtain ⟨t', rfl⟩ := ry
  exact rule i j t t' s _ _ hc ⟨.int (g i j), H, I.tok _, ⟨_, rfl⟩, q⟩
theorem zp9 {f : Value -> Value -> Sem Value} {g : Int -> Int -> Int}
    (rule : ∀ (i j : Int) (t u : Tok) (s : Shared) (Q : Value -> Shared -> Prop) (E : Value -> Shared -> Prop), Q (.int (g i j) s.toks) { s with toks := s.toks + 1 } -> wpAny (model X.prog X.w) X.A (f (.int i t) (.int j u)) Q E s) :
    OpR X f (rI0 fun i j => .int (g i j)) := by
  intro pins s σ H x y v u Q I rx ry h
  obtain ⟨i, j, rfl, rfl, q⟩ := h
  obtain ⟨t, rfl⟩ := rx
  obtain ⟨t', rfl⟩ := ry
  exact rule i j t t' s _ _ ⟨.int (g i j), H, I.tok _, ⟨_, rfl⟩, q⟩
theorem zpL {f : Value -> Value -> Sem Value} {g : Int -> Int -> Bool}
    (rule : ∀ (i j : Int) (t u : Tok) (s : Shared) (Q : Value -> Shared -> Prop) (E : Value -> Shared -> Prop), Q (.bool (g i j)) s -> wpAny (model X.prog X.w) X.A (f (.int i t) (.int j u)) Q E s) :
    OpR X f (rI0 fun i j => .bl (g i j)) := by
  intro pins s σ H x y v u Q I rx ry h
  obtain ⟨i, j, rfl, rfl, q⟩ := h
  obtain ⟨t, rfl⟩ := rx
  obtain ⟨t', rfl⟩ := ry
  exact rule i j t t' s _ _ ⟨.bl (g i j), H, I, rfl, q⟩
def ztB (i j : Int) : Prop := 0 < j ∧ j < 1073741824
def zhE (i j : Int) : Prop := (-(2 ^ 64) < i ∧ i < 2 ^ 64) ∨ (-(2 ^ 64) < j ∧ j < 2 ^ 64)
theorem zhE.ok {i j : Int} (h : zhE i j) : IntMulOk i j := by
  rcases h with ⟨h1, h2⟩ | ⟨h1, h2⟩
  . exact .of_left (intBits_le_64 h1 h2)
  . exact .of_right (intBits_le_64 h1 h2)
theorem zDp : OpR X (binaryOp .Add) (rI0 fun i j => .int (i + j)) := zp9 fun _ _ _ _ _ _ _ q => add_int q
theorem zCb : OpR X (binaryOp .Sub) (rI0 fun i j => .int (i - j)) := zp9 fun _ _ _ _ _ _ _ q => sub_int q
theorem zEz : OpR X (binaryOp .Mult) (rI zhE fun i j => .int (i * j)) := opI fun _ _ _ _ _ _ _ hc q => mul_int q hc.ok
theorem zBO : OpR X (binaryOp .FloorDiv) (rI ztB fun i j => .int (i / j)) := opI fun i j _ _ _ _ _ hc q => by
  have h1 : (0 : Int) < j := hc.1
  have h2 : j < 1073741824 := hc.2
  exact floordiv_int (by omega) (by rw [Int.fdiv_eq_ediv_of_nonneg i (by omega)]; exact q) (.inl (PyProof.noPylong_small (by omega)))
theorem zBF : OpR X (binaryOp .Mod) (rI (fun _ j => 0 < j) fun i j => .int (i % j)) := opI fun i j _ _ _ _ _ hc q => by
  have h1 : (0 : Int) < j := hc
  exact mod_int' (by omega) (by rw [Int.fmod_eq_emod_of_nonneg i (by omega)]; exact q)
theorem zDD : OpR X (inplaceOp .Add) (rI0 fun i j => .int (i + j)) := zp9 fun _ _ _ _ _ _ _ q => iadd_int q
theorem unI {f : Value -> Sem Value} {g : Int -> Int}
    (rule : ∀ (i : Int) (t : Tok) (s : Shared) (Q : Value -> Shared -> Prop) (E : Value -> Shared -> Prop), Q (.int (g i) s.toks) { s with toks := s.toks + 1 } -> wpAny (model X.prog X.w) X.A (f (.int i t)) Q E s) :
    UnR X f (rU fun i => .int (g i)) := by
  intro pins s σ H x v Q I rx h
  obtain ⟨i, rfl, q⟩ := h
  obtain ⟨t, rfl⟩ := rx
  exact rule i t s _ _ ⟨.int (g i), H, I.tok _, ⟨_, rfl⟩, q⟩
theorem zr0 : UnR X (unaryOp .USub) (rU fun i => .int (-i)) := unI fun _ _ _ _ _ q => neg_int q
end
section
variable {X : Cx} {a b c : Expr} {ta tb tc : TE} {pos : Pos}
theorem zsh {pins : List (Addr × Obj)} {σ : St} {H : Hp} {s : Shared} {Q : VK} {k k' : Bool} (I : Inv X pins σ H s) (q : Q (.bl k) H) (e : k = k') : EP X pins σ Q (.bool k') s := by
  subst e
  exact ⟨.bl k, H, I, rfl, q⟩
theorem zAg : OpR X (compareOp .Lt) (rI0 fun i j => .bl (decide (i < j))) := zpL fun _ _ _ _ _ _ _ q => lt_int q
theorem zFm : OpR X (compareOp .LtE) (rI0 fun i j => .bl (decide (i <= j))) := zpL fun _ _ _ _ _ _ _ q => le_int q
theorem zCY : OpR X (compareOp .Gt) (rI0 fun i j => .bl (decide (j < i))) := zpL fun _ _ _ _ _ _ _ q => gt_int q
theorem zBM : OpR X (compareOp .Is) (fun x y H Q => y = .non ∧ Q (.bl (decide (x = .non))) H) := by
  intro pins s σ H x y v u Q I rx ry h
  obtain ⟨rfl, q⟩ := h
  cases ry
  refine is_none_gen (zsh I q ?_)
  cases x <;> first
    | (cases rx; rfl)
    | (obtain ⟨t, rfl⟩ := rx; rfl)
theorem zDu : OpR X (compareOp .IsNot) (fun x y H Q => y = .non ∧ Q (.bl (!decide (x = .non))) H) := by
  intro pins s σ H x y v u Q I rx ry h
  obtain ⟨rfl, q⟩ := h
  cases ry
  refine isnot_none_gen (zsh I q ?_)
  cases x <;> first
    | (cases rx; rfl)
    | (obtain ⟨t, rfl⟩ := rx; rfl)
def zGy : HO -> Bool
  | .lst _ => true
  | .ins _ _ _ => true
  | _ => false
theorem OpR.or {f : Value -> Value -> Sem Value} {r r' : R2} (h : OpR X f r) (h' : OpR X f r') : OpR X f (fun x y H Q => r x y H Q ∨ r' x y H Q) := by
  intro pins s σ H x y v u Q I rx ry q
  rcases q with q | q
  . exact h pins s σ H x y v u Q I rx ry q
  . exact h' pins s σ H x y v u Q I rx ry q
theorem zS (b : Expr) {op : CmpOp} (h : op ≠ .In := by decide) (h2 : op ≠ .NotIn := by decide) : behindInMarks op b = false := by
  have e1 : (op == CmpOp.In) = false := by cases op <;> first | rfl | exact absurd rfl h
  have e2 : (op == CmpOp.NotIn) = false := by cases op <;> first | rfl | exact absurd rfl h2
  cases b <;> simp [behindInMarks, e1, e2]
theorem zEN {op : CmpOp} {r : R2} (ho : OpR X (compareOp op) r) (ha : PE X a ta) (hb : PE X b tb) (hm : behindInMarks op b = false) : PE X (.Compare a [op] [b] pos) (tOp r ta tb) := by
  intro pins s σ H Q I h
  exact wpAny_Compare1 (zpZ ha hb I h fun v u s2 x y H2 I2 rx ry q => ho pins s2 σ H2 x y v u Q I2 rx ry q) hm
def zsS (t : TE) : TT := fun σ H Q => t σ H fun x H' => ∃ k, x = .bl k ∧ Q k H'
theorem zCs {op : CmpOp} {r : R2} (ho : OpR X (compareOp op) r) (ha : PE X a ta) (hb : PE X b tb) (hm : behindInMarks op b = false) : PT X (.Compare a [op] [b] pos) (zsS (tOp r ta tb)) := by
  intro pins s σ H Q I h
  refine wpAny_isTrue_Compare1 (thn (ha pins s σ H _ I h) fun v s1 ⟨x, H1, I1, r1, q1⟩ => thn (hb pins s1 σ H1 _ I1 q1) fun u s2 ⟨y, H2, I2, r2, q2⟩ =>
    thn (ho pins s2 σ H2 x y v u _ I2 r1 r2 q2) fun c s3 ⟨z, H3, I3, r3, k, e, q3⟩ => ?_) hm
  subst e
  cases r3
  exact wpAny_truthy_bool ⟨H3, I3, q3⟩
def zpe (r r' : R2) (ta tb tc : TE) : TE := fun σ H Q => ta σ H fun x H1 => tb σ H1 fun y H2 => r x y H2 fun z H3 => ∃ k, z = .bl k ∧
  (if k = true then tc σ H3 fun w' H4 => r' y w' H4 Q else Q (.bl false) H3)
theorem zFr {op op' : CmpOp} {r r' : R2} (ho : OpR X (compareOp op) r) (ho' : OpR X (compareOp op') r') (ha : PE X a ta) (hb : PE X b tb) (hc : PE X c tc)
    (hm : lastMarks [op, op'] [b, c] = false := by with_unfolding_all rfl) : PE X (.Compare a [op, op'] [b, c] pos) (zpe r r' ta tb tc) := by
  intro pins s σ H Q I h
  refine Compare_chain (thn (ha pins s σ H _ I h) fun v s1 ⟨x, H1, I1, r1, q1⟩ => chain_link (thn (hb pins s1 σ H1 _ I1 q1) fun u s2 ⟨y, H2, I2, r2, q2⟩ =>
    thn (ho pins s2 σ H2 x y v u _ I2 r1 r2 q2) fun d s3 ⟨z, H3, I3, r3, k, e, q3⟩ => ?_)) hm
  subst e
  cases r3
  refine wpAny_truthy_bool ?_
  cases k with
  | false => exact ite_ff ⟨.bl false, H3, I3, rfl, q3⟩
  | true => exact ite_tt (chain_last (thn (hc pins s3 σ H3 _ I3 q3) fun w' s4 ⟨z', H4, I4, r4, q4⟩ => ho' pins s4 σ H4 y z' u w' Q I4 r2 r4 q4))
theorem zBK {op op' : CmpOp} {r r' : R2} (ho : OpR X (compareOp op) r) (ho' : OpR X (compareOp op') r') (ha : PE X a ta) (hb : PE X b tb) (hc : PE X c tc)
    (hm : lastMarks [op, op'] [b, c] = false := by with_unfolding_all rfl) : PT X (.Compare a [op, op'] [b, c] pos) (zsS (zpe r r' ta tb tc)) := by
  intro pins s σ H Q I h
  refine isTrue_chain (thn (ha pins s σ H _ I h) fun v s1 ⟨x, H1, I1, r1, q1⟩ => test_link (thn (hb pins s1 σ H1 _ I1 q1) fun u s2 ⟨y, H2, I2, r2, q2⟩ =>
    thn (ho pins s2 σ H2 x y v u _ I2 r1 r2 q2) fun d s3 ⟨z, H3, I3, r3, k, e, q3⟩ => ?_)) hm
  subst e
  cases r3
  refine wpAny_truthy_bool ?_
  cases k with
  | false =>
    obtain ⟨k', e', q'⟩ := q3
    cases e'
    exact ite_ff ⟨H3, I3, q'⟩
  | true =>
    refine ite_tt (test_last (thn (hc pins s3 σ H3 _ I3 q3) fun w' s4 ⟨z', H4, I4, r4, q4⟩ => thn (ho' pins s4 σ H4 y z' u w' _ I4 r2 r4 q4) fun d' s5 ⟨z2, H5, I5, r5, k2, e2, q5⟩ => ?_))
    subst e2
    cases r5
    exact wpAny_truthy_bool ⟨H5, I5, q5⟩
def zsH (K : PySem.W.Frag) (x : V) (H : Hp) (k : Bool) : Prop :=
  match x with
  | .non => k = false
  | .bl b => k = b
  | .int i => k = (i != 0)
  | .str y => y.length <= sizeLine ∧ k = ((y.length : Int) != 0)
  | .byt y => y.size <= sizeLine ∧ k = ((y.size : Int) != 0)
  | .ref p => (∃ xs, SqL K H p xs ∧ k = !xs.isEmpty) ∨ (∃ xs, SqT K H p xs ∧ k = !xs.isEmpty) ∨ ∃ kvs, H p = some (.dK kvs) ∧ k = !kvs.isEmpty
  | _ => False
theorem zBi {κ : Type} {kvs : List (κ × V)} {vs : List (κ × Value)} (r : KV kvs vs) : (!vs.isEmpty) = !kvs.isEmpty := by
  cases r <;> rfl
theorem zsF {xs : List V} {its : List Value} (r : zy xs its) : (!its.toArray.isEmpty) = !xs.isEmpty := by
  cases r <;> simp
theorem zhX : (sizeLine : Nat) < 2 ^ 63 := by rw [sizeLine_eq]; decide
theorem zA5 : zCU X (fun x H Q => ∃ k, zsH X.K x H k ∧ Q k H) := by
  intro pins s σ H x v Q I rx h
  obtain ⟨k, e, q⟩ := h
  have hl := zhX
  have hs : sizeLine = 16777216 := sizeLine_eq
  cases x with
  | non =>
    cases rx
    have e' : k = false := e
    subst e'
    exact truthy_none ⟨H, I, q⟩
  | bl b =>
    cases rx
    have e' : k = b := e
    subst e'
    exact wpAny_truthy_bool ⟨H, I, q⟩
  | int i =>
    obtain ⟨t, rfl⟩ := rx
    have e' : k = (i != 0) := e
    subst e'
    exact PySem.P.truthy_int ⟨H, I, q⟩
  | str y =>
    obtain ⟨t, rfl⟩ := rx
    obtain ⟨hy, e'⟩ : y.length <= sizeLine ∧ k = ((y.length : Int) != 0) := e
    subst e'
    exact PySem.P.truthy_str (by omega) ⟨H, I.tok _, q⟩
  | byt y =>
    obtain ⟨t, rfl⟩ := rx
    obtain ⟨hy, e'⟩ : y.size <= sizeLine ∧ k = ((y.size : Int) != 0) := e
    subst e'
    exact PySem.W.truthy_bytes (by omega) ⟨H, I.tok _, q⟩
  | ref p =>
    cases rx
    have e' : (∃ xs, SqL X.K H p xs ∧ k = !xs.isEmpty) ∨ (∃ xs, SqT X.K H p xs ∧ k = !xs.isEmpty) ∨ ∃ kvs, H p = some (.dK kvs) ∧ k = !kvs.isEmpty := e
    rcases e' with ⟨xs, hx, e'⟩ | ⟨xs, hx, e'⟩ | ⟨kvs, hx, e'⟩
    . subst e'
      obtain ⟨its, r, pl, hz⟩ := I.list hx
      have hlen := r.length
      exact wpAny_truthy_list pl.isList (by simp only [List.size_toArray]; omega) ⟨H, I.tok _, by rw [zsF r]; exact q⟩
    . subst e'
      obtain ⟨its, r, pl, hz⟩ := I.tuple hx
      have hlen := r.length
      exact truthy_tuple pl (by simp only [List.size_toArray]; omega) ⟨H, I.tok _, by rw [zsF r]; exact q⟩
    . subst e'
      obtain ⟨hz, hS, vs, r, m⟩ : kvs.length <= sizeLine ∧ (p == sysModules) = false ∧ ∃ vs, KV kvs vs ∧ s.heap.DictOf (zbZ X.prog X.w) p vs := I.hok p _ hx
      have hlen : kvs.length = vs.length := Paired.length r
      exact wpAny_truthy_dict hS m (by omega) ⟨H, I.tok _, by rw [zBi r]; exact q⟩
  | _ => exact (show False from e).elim
theorem zCl (ha : PE X a ta) (he : ∀ whole, isTrue a X.env whole = (do let v <- whole; standAt a.pos; holding [v] (truthy v))) :
    PT X a (fun σ H Q => ta σ H fun x H' => ∃ k, zsH X.K x H' k ∧ Q k H') := by
  intro pins s σ H Q I h
  exact isTrue_plain (thn (ha pins s σ H _ I h) fun v s1 ⟨x, H1, I1, r1, q1⟩ => zA5 pins s1 σ H1 x v Q I1 r1 q1) (he _)
theorem zeO {x : V} {us : List Value} (r : zy [x] us) : ∃ u, us = [u] ∧ zu x u := by
  cases r with
  | cons r1 r2 => cases r2; exact ⟨_, rfl, r1⟩
theorem zpy {x y : V} {us : List Value} (r : zy [x, y] us) : ∃ u w', us = [u, w'] ∧ zu x u ∧ zu y w' := by
  cases r with
  | cons r1 r2 =>
    cases r2 with
    | cons r3 r4 => cases r4; exact ⟨_, _, rfl, r1, r3⟩
theorem zC3 : zew X (.builtin "abs") (fun xs H Q => ∃ i, xs = [.int i] ∧ Q (.int (if i < 0 then -i else i)) H) := by
  intro pins s σ H xs us Q I r h
  obtain ⟨i, rfl, q⟩ := h
  obtain ⟨u, rfl, t, rfl⟩ := zeO r
  exact call_abs_int fun u tk => ⟨.int (if i < 0 then -i else i), H, I.tok _, ⟨_, rfl⟩, q⟩
end
end L2
namespace L2
open PySem PySem.Spec PyProof.Rows
structure zgr (h : Heap) (x dx C : Addr) (mA : Str -> Option Value) : Prop where
  obj : h.get? x = some (PySem.W.instObj C dx)
  ns : h.Ns1 dx mA
  ne : dx ≠ x
theorem zFn {h : Heap} {dx : Addr} {mA : Str -> Option Value} (n : h.Ns1 dx mA) : ∃ od, h.get? dx = some od ∧ ∀ name, PySem.W.lookIn name od = some (mA name) := by
  obtain ⟨o, es, ep, ho, hd, hk, _, hm⟩ := n
  refine ⟨o, ho, fun name => ?_⟩
  have e := hm name
  unfold nsFind findBy at e
  rw [<- Array.find?_toList] at e
  unfold PySem.W.lookIn
  rw [hd]
  dsimp only
  split
  . rename_i y q
    rw [q] at e
    exact congrArg some e
  . rename_i q
    rw [q] at e
    have a : es.toList.any (·.refKey) = false := by
      rw [List.any_eq_false]
      intro y hy
      obtain ⟨z, t, hkey⟩ := hk y (Array.mem_toList_iff.mp hy)
      simp [DictEntry.refKey, hkey]
    have a' : ¬ es.toList.any (·.refKey) = true := by rw [a]; exact Bool.false_ne_true
    rw [if_neg a']
    exact congrArg some e
theorem zgr.look {h : Heap} {x dx C : Addr} {mA : Str -> Option Value} (I : zgr h x dx C mA) : ∃ od, PySem.W.InstAt h x (PySem.W.instObj C dx) C (some od) ∧ ∀ name, PySem.W.lookIn name od = some (mA name) :=
  let ⟨od, ho, hl⟩ := zFn I.ns
  ⟨od, ⟨I.obj, rfl, rfl, ho⟩, hl⟩
section
variable {prog : Program} {w : World} {A : Around} {E : Value -> Shared -> Prop} {s : Shared} {K : PySem.W.Frag} {x dx C f : Addr} {mA : Str -> Option Value} {name : Str} {v : Value}
theorem zCG {expr : Bool} {Q : Value -> Shared -> Prop} (X : K.In s.heap) (I : zgr s.heap x dx C mA) (hg : PySem.W.plainGet K C name = true) (hh : PySem.W.hasDictIn K C = true)
    (ha : PySem.W.findIn K (.ref C) name = some none) (hv : mA name = some v) (hv' : PySem.W.handedIn v = true) (h : Q v { s with toks := s.toks + 1 }) :
    wpAny (model prog w) A (getAttr (.ref x) name expr) Q E s := by
  obtain ⟨od, J, hl⟩ := I.look
  exact PySem.W.get_value X J (PySem.W.plainGet_of hg).1 (PySem.W.findObj_own hh ha rfl (by rw [hl, hv])) hv' h
theorem zB8 {pl : Sem Bool} {Q : Value × List Value -> Shared -> Prop} (X : K.In s.heap) (I : zgr s.heap x dx C mA) (hg : PySem.W.plainGet K C name = true)
    (hf : PySem.W.findIn K (.ref C) name = some (some (.ref f))) (ht : PySem.W.isFn K (.ref f) = true) (hv : mA name = none) (h : Q (.ref f, [.ref x]) s) :
    wpAny (model prog w) A (getMethod (.ref x) name pl) Q E s := by
  obtain ⟨od, J, hl⟩ := I.look
  exact PySem.W.method_fn X J (PySem.W.plainGet_of hg).1 (PySem.W.plainGet_of hg).2 hf (beq_iff_eq.mp ht) (by show (PySem.W.lookIn name od).map (·.isSome) = some false; rw [hl, hv]; rfl) h
theorem zEm {ns : List Str} {Q : Unit -> Shared -> Prop} (X : K.In s.heap) (I : zgr s.heap x dx C mA)
    (hs : PySem.W.findIn K (.ref C) "__setattr__" = some (some (.builtin "object.__setattr__"))) (hp : PySem.W.plainOver K C = true) (ht : PySem.W.takerIn K C name = some none) (hh : PySem.W.hasDictIn K C = true)
    (hw : PySem.Within mA ns) (hsz : ns.length <= sizeLine)
    (h : ∀ h', zgr h' x dx C (fun y => if y = name then some v else mA y) -> Heap.SameBut dx s.heap h' -> Q () { s with heap := h', toks := s.toks + 2 }) :
    wpAny (model prog w) A (setAttr (.ref x) name v) Q E s := by
  obtain ⟨od, J, hl⟩ := I.look
  refine PySem.W.set_plain X J hs (PySem.W.osa_open (s := { s with toks := s.toks + 1 }) (r := none) X J hp ht fun b => ?_)
  obtain ⟨cd, hc, hd'⟩ := PySem.W.any_some hh
  have hx : s.heap.get? x = some ⟨.ref C, some dx, .plain, #[]⟩ := I.obj
  refine wpAny_bind (wpAny_pure (wpAny_bind (wpAny_bind (wpAny_loadPart hx (wpAny_bind (PySem.W.Looks.here (s := { s with toks := s.toks + 1 }) (PySem.W.looks_clsIn X hc) ?_))))))
  rw [hd']
  refine wpAny_pure (a := some dx) (wpAny_bind (wpAny_pure (wpAny_bind ?_)))
  refine wpAny_nsSet1 (s := { s with toks := s.toks + 1 }) I.ns fun h' hn2 hs2 => ?_
  obtain ⟨oD, esD, epD, hoD, hdD, hcD⟩ := hn2.count (PySem.Within.cons name v hw)
  refine wpAny_bind (wpAny_lookBehind hoD (by rw [hdD]; exact pastItsLine_dict (Nat.le_trans hcD (by rw [List.length_cons]; omega))) ?_)
  exact wpAny_pure (h _ ⟨(hs2.2 _ (Ne.symm I.ne)).trans I.obj, hn2, I.ne⟩ hs2)
theorem zCH {R : Result -> Shared -> Prop} {vs : List Value} {kw : List (Str × Value)} (X : K.In s.heap) (hm : PySem.W.makesIn K C = true)
    (hi : PySem.W.findIn K (.ref C) "__init__" = some (some (.ref f))) (hf : PySem.W.typeIn K (.ref f) = some (.type "function"))
    (h : codeAny (model prog w) (A.under (.builtin "type.__call__" ⟨.ref C :: vs, kw⟩)) (.call (.ref f) ⟨.ref (s.heap.objs.size + 1) :: vs, kw⟩) (PySem.W.InitBack (s.heap.objs.size + 1) R)
      { s with heap := (s.heap.push PySem.W.emptyDict).push (PySem.W.instObj C s.heap.objs.size) }) :
    codeAny (model prog w) A (.call (.ref C) ⟨vs, kw⟩) R s := by
  obtain ⟨hh, g, d, t, os⟩ := s
  exact PySem.W.make_core (PySem.W.makes_of X hm) (PySem.W.looks_findIn X hi) (fun self => PySem.W.bind_fn X self hf) (.inl rfl) h
end
def zcx (f : Str) (v : V) : List (Str × V) -> List (Str × V)
  | [] => [(f, v)]
  | (g, x) :: r => if g = f then (g, v) :: r else (g, x) :: zcx f v r
theorem zsY (f g : Str) (v : V) : ∀ fs : List (Str × V), (zcx f v fs).lookup g = if g = f then some v else fs.lookup g
  | [] => by
    show List.lookup g [(f, v)] = _
    by_cases h : g = f
    . have hb : (g == f) = true := beq_iff_eq.mpr h
      simp only [List.lookup, hb, if_pos h]
    . have hb : (g == f) = false := beq_eq_false_iff_ne.mpr h
      simp only [List.lookup, hb, if_neg h]
  | (k, x) :: r => by
    have ih := zsY f g v r
    rw [show zcx f v ((k, x) :: r) = (if k = f then (k, v) :: r else (k, x) :: zcx f v r) from rfl]
    by_cases hk : k = f
    . rw [if_pos hk]
      by_cases h : g = k
      . have hb : (g == k) = true := beq_iff_eq.mpr h
        simp only [List.lookup, hb, if_pos (h.trans hk)]
      . have hb : (g == k) = false := beq_eq_false_iff_ne.mpr h
        simp only [List.lookup, hb, if_neg (fun e : g = f => h (e.trans hk.symm))]
    . rw [if_neg hk]
      by_cases h : g = k
      . have hb : (g == k) = true := beq_iff_eq.mpr h
        simp only [List.lookup, hb, if_neg (fun e : g = f => hk (h.symm.trans e))]
      . have hb : (g == k) = false := beq_eq_false_iff_ne.mpr h
        simp only [List.lookup, hb]
        exact ih
theorem zpN (f : Str) (v : V) : ∀ fs : List (Str × V), f ∈ (zcx f v fs).map (·.1) ∧ ∀ g, g ∈ fs.map (·.1) -> g ∈ (zcx f v fs).map (·.1)
  | [] => ⟨by simp [zcx], fun g h => by simp at h⟩
  | (k, x) :: r => by
    obtain ⟨i1, i2⟩ := zpN f v r
    rw [show zcx f v ((k, x) :: r) = (if k = f then (k, v) :: r else (k, x) :: zcx f v r) from rfl]
    by_cases hk : k = f
    . rw [if_pos hk]
      subst hk
      exact ⟨by simp, fun g h => by simpa using h⟩
    . rw [if_neg hk]
      refine ⟨?_, fun g h => ?_⟩
      . rw [List.map_cons]
        exact List.mem_cons_of_mem _ i1
      . rw [List.map_cons] at h ⊢
        rcases List.mem_cons.mp h with e | e
        . exact List.mem_cons.mpr (.inl e)
        . exact List.mem_cons_of_mem _ (i2 g e)
theorem zs5 (f : Str) (v : V) : ∀ fs : List (Str × V), (zcx f v fs).length <= fs.length + 1
  | [] => by simp [zcx]
  | (k, x) :: r => by
    have ih := zs5 f v r
    rw [show zcx f v ((k, x) :: r) = (if k = f then (k, v) :: r else (k, x) :: zcx f v r) from rfl]
    by_cases hk : k = f
    . rw [if_pos hk, List.length_cons, List.length_cons]; omega
    . rw [if_neg hk, List.length_cons, List.length_cons]; omega
theorem zc1.some_of {v : V} {o : Option Value} (r : zc1 (some v) o) : ∃ u, o = some u ∧ zu v u := by
  cases o with
  | none => exact (show False from r).elim
  | some u => exact ⟨u, rfl, r⟩
theorem zc1.none_of {o : Option Value} (r : zc1 none o) : o = none := by
  cases o with
  | none => rfl
  | some u => exact (show False from r).elim
theorem zDQ {v : V} {u : Value} (r : zu v u) : PySem.W.handedIn u = true := by
  cases v with
  | non => cases (show u = Value.none from r); rfl
  | bl b => cases (show u = Value.bool b from r); rfl
  | int i => obtain ⟨t, e⟩ := (show ∃ t, u = Value.int i t from r); cases e; rfl
  | str x => obtain ⟨t, e⟩ := (show ∃ t, u = Value.str x t from r); cases e; rfl
  | byt b => obtain ⟨t, e⟩ := (show ∃ t, u = Value.bytes b t from r); cases e; rfl
  | flt b => obtain ⟨t, e⟩ := (show ∃ t, u = Value.float b t from r); cases e; rfl
  | ref a => cases (show u = Value.ref a from r); rfl
  | ty n => cases (show u = Value.type n from r); rfl
section
variable {P : Program} {w : World} {H H' : Hp} {h h' : Heap} {a C dx : Addr} {fs fs' : List (Str × V)}
theorem zis (hok : HOk P w H h) (e : H a = some (.ins C dx fs)) : ∃ mA, zgr h a dx C mA ∧ (∀ f, zc1 (fs.lookup f) (mA f)) ∧ PySem.Within mA (fs.map (·.1)) ∧ fs.length <= 1000 ∧ H dx = some (.own a) := by
  obtain ⟨d, z, ne, ob, mA, n, r, q⟩ := (show zbn P w H h a (.ins C dx fs) from hok a _ e)
  exact ⟨mA, ⟨ob, n, ne⟩, r, q, z, d⟩
end
structure Cls (K : PySem.W.Frag) (C : Addr) : Prop where
  pg : PySem.W.plainGet K C Str.empty = true
  hd : PySem.W.hasDictIn K C = true
  po : PySem.W.plainOver K C = true
  sa : PySem.W.findIn K (.ref C) "__setattr__" = some (some (.builtin "object.__setattr__"))
theorem Cls.get {K : PySem.W.Frag} {C : Addr} (c : Cls K C) (f : Str) : PySem.W.plainGet K C f = true := c.pg
def zb3 (K : PySem.W.Frag) (C : Addr) (f : Str) : Prop := PySem.W.findIn K (.ref C) f = some none
theorem zb3.taker {K : PySem.W.Frag} {C : Addr} {f : Str} (n : zb3 K C f) : PySem.W.takerIn K C f = some none := by
  unfold PySem.W.takerIn
  rw [show PySem.W.findIn K (.ref C) f = some none from n]
  rfl
structure zfl (K : PySem.W.Frag) (C : Addr) (m : Str) (f : Addr) : Prop where
  at_ : PySem.W.findIn K (.ref C) m = some (some (.ref f))
  fn : PySem.W.isFn K (.ref f) = true
  kp : PySem.W.keepIn K (.ref f) = true
section
variable {X : Cx} {pins : List (Addr × Obj)} {σ : St} {H : Hp} {s : Shared} {a C dx : Addr} {fs : List (Str × V)} {f : Str} {v : V} {A : Around} {E : Value -> Shared -> Prop}
theorem zAh {b : Bool} {Q : Value -> Shared -> Prop} (I : Inv X pins σ H s) (e : H a = some (.ins C dx fs)) (c : Cls X.K C) (n : zb3 X.K C f) (l : fs.lookup f = some v)
    (h : ∀ u s', Inv X pins σ H s' -> zu v u -> Q u s') : wpAny (model X.prog X.w) A (getAttr (.ref a) f b) Q E s := by
  obtain ⟨mA, O, r, _, _, _⟩ := zis I.hok e
  obtain ⟨u, hu, ru⟩ := zc1.some_of (v := v) (o := mA f) (by rw [<- l]; exact r f)
  exact zCG I.kIn O (c.get f) c.hd n hu (zDQ ru) (h u _ (I.tok _) ru)
theorem zpD {m : Str} {g : Addr} {pl : Sem Bool} {Q : Value × List Value -> Shared -> Prop} (I : Inv X pins σ H s) (e : H a = some (.ins C dx fs)) (c : Cls X.K C) (k : zfl X.K C m g) (l : fs.lookup m = none)
    (h : Q (.ref g, [.ref a]) s) : wpAny (model X.prog X.w) A (getMethod (.ref a) m pl) Q E s := by
  obtain ⟨mA, O, r, _, _, _⟩ := zis I.hok e
  have hn : mA m = none := zc1.none_of (by rw [<- l]; exact r m)
  exact zB8 I.kIn O (c.get m) k.at_ k.fn hn h
theorem zBL {y : V} {u : Value} {Q : Unit -> Shared -> Prop} (I : Inv X pins σ H s) (e : H a = some (.ins C dx fs)) (c : Cls X.K C) (n : zb3 X.K C f) (hl : fs.length < 1000) (ry : zu y u)
    (h : ∀ s', Inv X pins σ (upd H a (.ins C dx (zcx f y fs))) s' -> Q () s') : wpAny (model X.prog X.w) A (setAttr (.ref a) f u) Q E s := by
  obtain ⟨mA, O, r, wi, _, ho⟩ := zis I.hok e
  have hz : (fs.map (·.1)).length <= sizeLine := by rw [List.length_map, sizeLine_eq]; omega
  refine zEm I.kIn O c.sa c.po n.taker c.hd wi hz fun h' O' sb => h _ ?_
  have hd : ∃ o, h'.get? dx = some o := let ⟨o, _, _, e', _⟩ := O'.ns; ⟨o, e'⟩
  refine I.write (x := a) (e := dx) (by rw [e]; exact True.intro) (.inr ho) (fun b q hb z => (sb.2 b hb).trans z) hd ?_
  refine ⟨by rw [zD O.ne]; exact ho, ?_, O.ne, O'.obj, _, O'.ns, fun g => ?_, fun g hg => ?_⟩
  . have := zs5 f y fs; omega
  . show zc1 ((zcx f y fs).lookup g) (if g = f then some u else mA g)
    rw [zsY]
    by_cases q : g = f
    . rw [if_pos q, if_pos q]; exact ry
    . rw [if_neg q, if_neg q]; exact r g
  . by_cases q : g = f
    . rw [q]; exact (zpN f y fs).1
    . refine (zpN f y fs).2 g (wi g fun z => hg ?_)
      show (if g = f then some u else mA g) = none
      rw [if_neg q]; exact z
theorem Inv.made (I : Inv X pins σ H s) : Inv X pins σ (upd (upd H s.heap.objs.size (.own (s.heap.objs.size + 1))) (s.heap.objs.size + 1) (.ins C s.heap.objs.size []))
    { s with heap := (s.heap.push PySem.W.emptyDict).push (PySem.W.instObj C s.heap.objs.size) } := by
  have e1 : (s.heap.push PySem.W.emptyDict).get? s.heap.objs.size = some PySem.W.emptyDict := Heap.get?_push_size s.heap rfl
  have e2 : ((s.heap.push PySem.W.emptyDict).push (PySem.W.instObj C s.heap.objs.size)).get? (s.heap.objs.size + 1) = some (PySem.W.instObj C s.heap.objs.size) := by
    have := Heap.get?_push_size (s.heap.push PySem.W.emptyDict) (o := PySem.W.instObj C s.heap.objs.size) rfl
    rwa [Heap.size_push] at this
  have e3 : (s.heap.push PySem.W.emptyDict).Ns s.heap.objs.size (fun _ => none) := ⟨PySem.W.emptyDict, #[], _, e1, rfl, (fun e he => absurd he (by simp)), fun _ => rfl⟩
  have I1 := I.laid (a := s.heap.objs.size) (o := .own (s.heap.objs.size + 1)) (h' := s.heap.push PySem.W.emptyDict) (t' := s.toks) (fun b u q => Heap.get?_push_of_some _ q) (Nat.le_refl _) ⟨_, e1⟩
  refine I1.laid (a := s.heap.objs.size + 1) (o := .ins C s.heap.objs.size []) (t' := s.toks) (fun b u q => Heap.get?_push_of_some _ q) (Nat.le_of_eq (Heap.size_push _ _)) ?_
  have ne : s.heap.objs.size ≠ s.heap.objs.size + 1 := Nat.ne_of_lt (Nat.lt_succ_self _)
  refine ⟨by rw [zD ne, zbN], Nat.zero_le _, ne, e2, fun _ => none, (Heap.Ns1.of_empty e3).at fun o q => Heap.get?_push_of_some _ q, fun _ => True.intro, fun y hy => absurd rfl hy⟩
theorem zDF {prog : Program} {w : World} {env : Env} {e : Expr} {f : Str} {pos : Pos} {s : Shared} {Q : Value -> Shared -> Prop} (hb : attributeBase e f env (eval e env) = eval e env)
    (h : wpAny (model prog w) A (eval e env) (fun o s₁ => wpAny (model prog w) A (getAttr o f true) Q E s₁) E s) : wpAny (model prog w) A (eval (.Attribute e f pos) env) Q E s :=
  Attribute_any_ h (by rw [arm_eval_Attribute, hb])
end
def zEL (K : PySem.W.Frag) (ta : TE) (f : Str) : TE := fun σ H Q => ta σ H fun x H1 => ∃ a C dx fs v, x = .ref a ∧ H1 a = some (.ins C dx fs) ∧ Cls K C ∧ zb3 K C f ∧ fs.lookup f = some v ∧ Q v H1
def zAC (K : PySem.W.Frag) (ta tv : TE) (f : Str) : TS := fun D σ H => tv σ H fun y H1 => ta σ H1 fun x H2 => ∃ a C dx fs, x = .ref a ∧ H2 a = some (.ins C dx fs) ∧ Cls K C ∧ zb3 K C f ∧ fs.length < 1000 ∧
  D.nx σ (upd H2 a (.ins C dx (zcx f y fs)))
section
variable {X : Cx} {o e value : Expr} {f : Str} {pos pos' tpos : Pos} {ta tv : TE}
theorem zD1 (he : PE X e ta) (hb : attributeBase e f X.env (eval e X.env) = eval e X.env) : PE X (.Attribute e f pos) (zEL X.K ta f) := by
  intro pins s σ H Q I h
  refine zDF hb (thn (he pins s σ H _ I h) fun u s1 ⟨x, H1, I1, rx, a, C, dx, fs, v, ex, ea, c, n, l, q⟩ => ?_)
  subst ex
  obtain rfl : u = Value.ref a := rx
  exact zAh I1 ea c n l fun u' s2 I2 ru => ⟨v, H1, I2, ru, q⟩
theorem zDk (ha : PE X o ta) (hv : PE X value tv) (hs : swapsWith value (some (.Attribute o f pos')) pos.line X.env = pure false) : PS X (.Assign [.Attribute o f pos'] value pos) (zAC X.K ta tv f) := by
  intro pins s σ H D I h
  refine plainObj_wpAny_Assign_Attribute (thn (hv pins s σ H _ I h) fun u s1 ⟨y, H1, I1, ry, q⟩ => thn (ha pins s1 σ H1 _ I1 q) fun ov s2 ⟨x, H2, I2, rx, a, C, dx, fs, ex, ea, c, n, l, q2⟩ => ?_) hs
  subst ex
  obtain rfl : ov = Value.ref a := rx
  exact zBL I2 ea c n l ry fun s3 I3 => ⟨σ, _, I3, q2⟩
theorem zHD {pl : Sem Bool} {m : Str} {apos : Pos} {args : List Expr} {pins : List (Addr × Obj)} {s : Shared} {σ : St} {H : Hp} {Q : Value -> Shared -> Prop} {te : TE} (he : PE X e te) (I : Inv X pins σ H s)
    (h : te σ H fun x H1 => ∃ a C dx fs g, x = .ref a ∧ H1 a = some (.ins C dx fs) ∧ Cls X.K C ∧ zfl X.K C m g ∧ fs.lookup m = none ∧
      ∀ s1, Inv X pins σ H1 s1 -> wpAny (model X.prog X.w) X.A (callWith pos (.ref g) [.ref a] (backTo pos (starEach args X.env)) (backToKw pos (keywordEach [] X.env))) Q X.xe s1)
    (ht : eval (.Call (.Attribute e m apos) args [] pos) X.env = (do
      let ov <- eval e X.env
      standAt apos.atName
      let (f, first) <- holding [ov] (getMethod ov m pl)
      callWith pos f first (backTo pos (starEach args X.env)) (backToKw pos (keywordEach [] X.env)))) :
    wpAny (model X.prog X.w) X.A (eval (.Call (.Attribute e m apos) args [] pos) X.env) Q X.xe s := by
  refine PySem.W.methodCall_KW (pl := pl) (thn (he pins s σ H _ I h) fun u s1 ⟨x, H1, I1, rx, a, C, dx, fs, g, ex, ea, c, k, l, q⟩ => ?_) ht
  subst ex
  obtain rfl : u = Value.ref a := rx
  exact zpD I1 ea c k l (q s1 I1)
end
section
variable {X : Cx} {pins : List (Addr × Obj)} {σ : St} {H : Hp} {s : Shared} {A : Around} {E : Value -> Shared -> Prop} {Q : Value -> Shared -> Prop} {c : Value} {b : Bool}
inductive zdD (K : PySem.W.Frag) (H : Hp) : V -> Value -> Prop where
  | non : zdD K H .non (.type "NoneType")
  | bl (x : Bool) : zdD K H (.bl x) (.type "bool")
  | int (i : Int) : zdD K H (.int i) (.type "int")
  | str (x : Str) : zdD K H (.str x) (.type "str")
  | flt (x : UInt64) : zdD K H (.flt x) (.type "float")
  | lst {a : Addr} {xs : List V} (e : H a = some (.lst xs)) : zdD K H (.ref a) (.type "list")
  | frz {a : Addr} {o : Obj} {xs : List V} (e : H a = some (.frz o (.lst xs))) : zdD K H (.ref a) (.type "list")
  | tup {a : Addr} {xs : List V} (e : H a = some (.tup xs)) : zdD K H (.ref a) (.type "tuple")
  | dK {a : Addr} {kvs : List (Key × V)} (e : H a = some (.dK kvs)) : zdD K H (.ref a) (.type "dict")
  | dT {a : Addr} {kvs : List (List Key × V)} (e : H a = some (.dT kvs)) : zdD K H (.ref a) (.type "dict")
  | ins {a C dx : Addr} {fs : List (Str × V)} (e : H a = some (.ins C dx fs)) (cl : Cls K C) (ha : PySem.W.findIn K (.ref C) "__class__" = some (some (.builtin "object.__class__")))
      (hn : PySem.W.specialIn K (.builtin "object.__class__") "__get__" = some (some (.builtin "getset_descriptor.__get__"))) (htk : PySem.W.takesIn K (.builtin "object.__class__") = some true)
      (hm : PySem.W.mroIn K C (.type "object") = some true) : zdD K H (.ref a) (.ref C)
theorem ztT {x : V} {u t : Value} (I : Inv X pins σ H s) (rx : zu x u) (ty : zdD X.K H x t) (e : PySem.W.kitOne X.K t c = some b) (h : ∀ tk, Q (.bool b) { s with toks := tk }) :
    wpAny (model X.prog X.w) A (call (.builtin "isinstance") [u, c]) Q E s := by
  cases ty with
  | non => cases (show u = Value.none from rx); exact PySem.W.kia_one PySem.W.kitx_none I.kIn True.intro e (fun z => nomatch z) h
  | bl y => cases (show u = Value.bool y from rx); exact PySem.W.kia_one PySem.W.kitx_bool I.kIn True.intro e (fun z => nomatch z) h
  | int i => obtain ⟨t, q⟩ := (show ∃ t, u = Value.int i t from rx); cases q; exact PySem.W.kia_one PySem.W.kitx_int I.kIn True.intro e (fun z => nomatch z) h
  | str y => obtain ⟨t, q⟩ := (show ∃ t, u = Value.str y t from rx); cases q; exact PySem.W.kia_one PySem.W.kitx_str I.kIn True.intro e (fun z => nomatch z) h
  | flt y => obtain ⟨t, q⟩ := (show ∃ t, u = Value.float y t from rx); cases q; exact PySem.W.kia_one PySem.W.kitx_float I.kIn True.intro e (fun z => nomatch z) h
  | @lst a xs ea =>
    cases (show u = Value.ref a from rx)
    obtain ⟨_, _, n, _, h1⟩ := (show zbn X.prog X.w H s.heap a (.lst xs) from I.hok a _ ea)
    exact PySem.W.kia_one PySem.W.kitx_list I.kIn ⟨_, h1, rfl⟩ e (fun z => nomatch z) h
  | @frz a ob xs ea =>
    cases (show u = Value.ref a from rx)
    obtain ⟨_, _, _, n, _, h1⟩ := (show zbn X.prog X.w H s.heap a (.frz ob (.lst xs)) from I.hok a _ ea)
    exact PySem.W.kia_one PySem.W.kitx_list I.kIn ⟨_, h1, rfl⟩ e (fun z => nomatch z) h
  | @tup a xs ea =>
    cases (show u = Value.ref a from rx)
    obtain ⟨_, _, _, p⟩ := (show zbn X.prog X.w H s.heap a (.tup xs) from I.hok a _ ea)
    obtain ⟨o, h1, h2, _⟩ := p
    exact PySem.W.kia_one PySem.W.kitx_tuple I.kIn ⟨o, h1, h2⟩ e (fun z => nomatch z) h
  | @dK a kvs ea =>
    cases (show u = Value.ref a from rx)
    obtain ⟨_, _, vs, _, p⟩ := (show zbn X.prog X.w H s.heap a (.dK kvs) from I.hok a _ ea)
    obtain ⟨o, es, ep, h1, h2, _⟩ := p
    exact PySem.W.kia_one PySem.W.kitx_dict I.kIn ⟨o, h1, h2.1⟩ e (fun z => nomatch z) h
  | @dT a kvs ea =>
    cases (show u = Value.ref a from rx)
    obtain ⟨_, _, xs, _, o, es, ep, h1, h2, _⟩ := (show zbn X.prog X.w H s.heap a (.dT kvs) from I.hok a _ ea)
    exact PySem.W.kia_one PySem.W.kitx_dict I.kIn ⟨o, h1, h2.1⟩ e (fun z => nomatch z) h
  | @ins a C dx fs ea cl ha hn htk hm =>
    cases (show u = Value.ref a from rx)
    obtain ⟨mA, O, _⟩ := zis I.hok ea
    obtain ⟨od, J, _⟩ := O.look
    exact PySem.W.kia_one (PySem.W.kitx_own (cl.get _) cl.hd ha hn htk hm) I.kIn J e (fun z => nomatch z) h
end
end L2
namespace L2
open PySem PySem.Spec PyProof.Rows
structure zR (k : Nat) (A : Around) : Prop where
  hd : A.handled = none
  dp : A.depth + 3 * k + 5 < recursionLimit
  un : A.units + 16 * k + 200 < cLine
theorem zR.mono {j k : Nat} {A : Around} (r : zR k A) (h : j <= k) : zR j A := ⟨r.hd, by have := r.dp; omega, by have := r.un; omega⟩
theorem zR.deeper {k : Nat} {A : Around} (r : zR (k + 1) A) (env : Env) : zR k (A.deeper env) :=
  ⟨r.hd, by have := r.dp; show A.depth + 1 + 3 * k + 5 < _; omega, by have := r.un; show A.units + 3 + 16 * k + 200 < _; omega⟩
theorem zEI {A : Around} {C : Addr} {us : List Value} {kw : List (Str × Value)} : (A.under (.builtin "type.__call__" ⟨.ref C :: us, kw⟩)).depth = A.depth + 1 := by
  first | rfl | simp [Around.under, Code.weight, Code.isCreation, Code.isGuard, Code.isCaller, Code.frames, Code.isFrame, guardIds]
theorem zAU {A : Around} {C : Addr} {us : List Value} {kw : List (Str × Value)} : (A.under (.builtin "type.__call__" ⟨.ref C :: us, kw⟩)).units = A.units + 1 := by
  first | rfl | simp [Around.under, Code.cUnits, Code.frames, Code.isFrame]
theorem zR.make {k : Nat} {A : Around} (r : zR (k + 1) A) (C : Addr) (us : List Value) (kw : List (Str × Value)) : zR k (A.under (.builtin "type.__call__" ⟨.ref C :: us, kw⟩)) :=
  ⟨r.hd, by have := r.dp; rw [zEI]; omega, by have := r.un; rw [zAU]; omega⟩
theorem zR.depth {k : Nat} {A : Around} (r : zR k A) : A.depth < recursionLimit := by have := r.dp; omega
theorem zR.units {k : Nat} {A : Around} (r : zR k A) : A.units + 64 < cLine := by have := r.un; omega
def zql : TA := fun _ H Q => Q [] H
def ztM (ta : TE) (tr : TA) : TA := fun σ H Q => ta σ H fun x H1 => tr σ H1 fun xs H2 => Q (x :: xs) H2
section
variable {X : Cx} {e : Expr} {es : List Expr} {te : TE} {t : TA} {pos : Pos}
theorem zdd : PA X [] zql := fun _ _ _ _ H Q I h => Calls.spliced_nil ⟨[], H, I, .nil, h⟩
theorem zcP (ha : PE X e te) (hr : PA X es t) (hs : starEach (e :: es) X.env = (false, eval e X.env) :: starEach es X.env := by rfl) : PA X (e :: es) (ztM te t) := by
  intro pos pins s σ H Q I h
  rw [hs]
  show wpAny _ _ (spliced ((false, eval e X.env) :: backTo pos (starEach es X.env))) _ _ s
  refine Calls.spliced_cons (thn (ha pins s σ H _ I h) fun u s1 ⟨x, H1, I1, r1, q1⟩ => ?_)
  exact thn (hr pos pins s1 σ H1 _ I1 q1) fun us s2 ⟨xs, H2, I2, r2, q2⟩ => ⟨x :: xs, H2, I2, .cons r1 r2, q2⟩
def zDL (t : TA) : TE := fun σ H Q => t σ H fun xs H1 => xs.length <= sizeLine ∧ ∀ p, H1 p = none -> Q (.ref p) (upd H1 p (.tup xs))
def zD0 (t : TA) : TE := fun σ H Q => t σ H fun xs H1 => xs.length <= sizeLine ∧ ∀ p, H1 p = none -> Q (.ref p) (upd H1 p (.lst xs))
theorem zC5 {x1} (h : PA X es t) : PE X (.Tuple es x1 pos) (zDL t) := by
  intro pins s σ H Q I hq
  refine wpAny_Tuple_spliced (thn (h pos pins s σ H _ I hq) fun us s1 ⟨xs, H1, I1, r, z, q⟩ => ⟨by rw [<- r.length]; exact z, ?_⟩)
  have hf : H1 s1.heap.objs.size = none := I1.hok.fresh (Nat.le_refl _)
  refine ⟨.ref s1.heap.objs.size, upd H1 s1.heap.objs.size (.tup xs), I1.laid (t' := s1.toks) (fun b u e => Heap.get?_push_of_some _ e) (Nat.le_refl _) ?_, rfl, q _ hf⟩
  exact ⟨z, us, r, ⟨_, Heap.get?_push_size _ rfl, rfl, _, rfl⟩⟩
theorem zDI (h : PA X es t) : PE X (.List es pos) (zD0 t) := by
  intro pins s σ H Q I hq
  refine wpAny_List_spliced (thn (h pos pins s σ H _ I hq) fun us s1 ⟨xs, H1, I1, r, z, q⟩ => ⟨by rw [<- r.length]; exact z, ?_⟩)
  have hf : H1 s1.heap.objs.size = none := I1.hok.fresh (Nat.le_refl _)
  refine ⟨.ref s1.heap.objs.size, upd H1 s1.heap.objs.size (.lst xs), I1.laid (t' := s1.toks) (fun b u e => Heap.get?_push_of_some _ e) (Nat.le_refl _) ?_, rfl, q _ hf⟩
  exact ⟨z, us, 0, r, Heap.get?_push_size _ rfl⟩
end
abbrev Sp := List V -> Hp -> VK -> XK -> Prop
abbrev CXT := List Env -> Hp -> Shared -> XK -> Value -> Shared -> Prop
structure zgi (P : Program) (w : World) (K : PySem.W.Frag) (mg : Str -> Option Value) (base : Heap) (A : Around) (outer : List Env) (s : Shared) (H : Hp) : Prop where
  frames : A.frames = some outer
  mod : Mod K mg base
  bs : ∀ b o, base.get? b = some o -> s.heap.get? b = some o ∧ H b = none
  bsz : base.objs.size <= s.heap.objs.size
  funs : s.heap.FunFrames base outer
  frf : ∀ b ∈ frs outer, H b = none
  hok : HOk P w H s.heap
  bare : AllBare s.gens
def CE (outer : List Env) (P : Program) (w : World) (H : Hp) (s : Shared) (Q : VK) (u : Value) (s' : Shared) : Prop :=
  ∃ v H', s'.os = s.os ∧ AllBare s'.gens ∧ Un (frs outer) [] H H' s.heap s'.heap ∧ HOk P w H' s'.heap ∧ zu v u ∧ Q v H'
def CR (CX : CXT) (outer : List Env) (P : Program) (w : World) (H : Hp) (s : Shared) (Q : VK) (E : XK) (r : Result) (s' : Shared) : Prop :=
  match r with
  | .ok (.ret u) => CE outer P w H s Q u s'
  | .ok _ => False
  | .error e => CX outer H s E e s'
structure zI (P : Program) (w : World) (K : PySem.W.Frag) (mg : Str -> Option Value) (base : Heap) (CX : CXT) (k : Nat) (f : Addr) (fd : FuncData) (ps : List Str) (sp : Sp) : Prop where
  len : ∀ vs H Q E, sp vs H Q E -> vs.length = ps.length
  run : ∀ (A : Around) (outer : List Env) (s : Shared) (H : Hp) (args : Args) (us : List Value) (vs : List V) (Q : VK) (E : XK), zR k A -> zgi P w K mg base A outer s H -> BindsTo s fd args (ps.zip us) -> zy vs us -> sp vs H Q E ->
    codeAny (model P w) A (.call (.ref f) args) (CR CX outer P w H s Q E) s
theorem zI.imp {P : Program} {w : World} {K : PySem.W.Frag} {mg : Str -> Option Value} {base : Heap} {CX : CXT} {k : Nat} {f : Addr} {fd : FuncData} {ps : List Str} {sp sp' : Sp} (F : zI P w K mg base CX k f fd ps sp)
    (h : ∀ vs H Q E, sp' vs H Q E -> sp vs H Q E) : zI P w K mg base CX k f fd ps sp' :=
  ⟨fun vs H Q E q => F.len vs H Q E (h _ _ _ _ q), fun A outer s H args us vs Q E hr he hb hv hs => F.run A outer s H args us vs Q E hr he hb hv (h _ _ _ _ hs)⟩
theorem zgi.make {P : Program} {w : World} {K : PySem.W.Frag} {mg : Str -> Option Value} {base : Heap} {A : Around} {outer : List Env} {s : Shared} {H : Hp} (e : zgi P w K mg base A outer s H) (C : Addr) (us : List Value) (kw : List (Str × Value)) :
    zgi P w K mg base (A.under (.builtin "type.__call__" ⟨.ref C :: us, kw⟩)) outer s H := ⟨by first | exact e.frames | (simpa [Around.under, Code.envs, Code.isFrame, pushEnvs] using e.frames), e.mod, e.bs, e.bsz, e.funs, e.frf, e.hok, e.bare⟩
section
variable {X : Cx} {pins : List (Addr × Obj)} {σ : St} {H : Hp} {s s' : Shared}
theorem Inv.env0 (I : Inv X pins σ H s) : zgi X.prog X.w X.K X.mg X.base X.A X.stack s H :=
  ⟨I.ok.frames, I.ok.mod, I.bs, Nat.le_trans I.ok.bsz I.sz, I.stack, I.stkFree, I.hok, I.bare⟩
theorem Inv.after {Q : VK} {u : Value} (I : Inv X pins σ H s) (h : CE X.stack X.prog X.w H s Q u s') : EP X pins σ Q u s' := by
  obtain ⟨v, H', os, bare, un, hok, r, q⟩ := h
  obtain ⟨hh, g, d, t, os'⟩ := s'
  obtain rfl : os' = s.os := os
  exact ⟨v, H', I.call (h' := hh) (g' := g) (d' := d) (t' := t) (ch := []) un hok bare (fun b z => absurd z (by simp)), r, q⟩
end
def zBb (sp : Sp) (dvs : List V) (E : XK) (t : TA) : TE := fun σ H Q => t σ H fun vs H1 => sp (vs ++ dvs) H1 Q E
def zpx (C : Addr) (m : Str) (sp : Sp) (dvs : List V) (E : XK) (ta : TE) (t : TA) : TE := fun σ H Q => ta σ H fun x H1 => ∃ a dx fs, x = .ref a ∧ H1 a = some (.ins C dx fs) ∧ fs.lookup m = none ∧
  t σ H1 fun vs H2 => sp (x :: (vs ++ dvs)) H2 Q E
def zFo (C : Addr) (sp : Sp) (dvs : List V) (E : XK) (t : TA) : TE := fun σ H Q => t σ H fun vs H1 => ∀ x dx, H1 x = none -> H1 dx = none -> dx ≠ x ->
  sp (.ref x :: (vs ++ dvs)) (upd (upd H1 dx (.own x)) x (.ins C dx [])) (fun v H2 => v = .non ∧ Q (.ref x) H2) E
def zdB (K : PySem.W.Frag) (fd : FuncData) (ps : List Str) (ds : List Value) : Prop :=
  ∀ (s : Shared) (us : List Value), K.In s.heap -> (us ++ ds).length = ps.length -> BindsTo s fd ⟨us, []⟩ (ps.zip (us ++ ds))
theorem zdB.all {K : PySem.W.Frag} {fd : FuncData} {ps : List Str} (h : ∀ us : List Value, us.length = ps.length -> bindArgs fd ⟨us, []⟩ = pure (ps.zip us)) : zdB K fd ps [] := fun s us _ hl => by
  rw [List.append_nil] at hl ⊢
  exact .of_eq (h us hl)
def zgn (CX : CXT) (X : Cx) (E : XK) : Prop := ∀ (pins : List (Addr × Obj)) (σ : St) (H : Hp) (s : Shared) (e : Value) (s' : Shared), Inv X pins σ H s -> CX X.stack H s E e s' -> X.xe e s'
section
variable {X : Cx} {CX : CXT} {k : Nat} {f C : Addr} {fd : FuncData} {ps : List Str} {sp : Sp} {dvs : List V} {ds : List Value} {E : XK} {x m : Str} {p pos apos : Pos} {e o : Expr} {es : List Expr} {ta : TE} {t : TA}
theorem zqi {pins : List (Addr × Obj)} {σ : St} {H : Hp} {s : Shared} {Q : VK} {us : List Value} {vs : List V} (F : zI X.prog X.w X.K X.mg X.base CX k f fd ps sp) (hr : zR k X.A) (hb : zdB X.K fd ps ds) (hd : zy dvs ds) (hx : zgn CX X E)
    (I : Inv X pins σ H s) (r : zy vs us) (h : sp (vs ++ dvs) H Q E) : wpAny (model X.prog X.w) X.A (call (.ref f) us) (EP X pins σ Q) X.xe s := by
  have r2 : zy (vs ++ dvs) (us ++ ds) := r.append hd
  have hl : (us ++ ds).length = ps.length := by rw [<- r2.length]; exact F.len _ _ _ _ h
  refine wpAny_call (codeAny_mono (F.run X.A X.stack s H ⟨us, []⟩ (us ++ ds) (vs ++ dvs) Q E hr I.env0 (hb s us I.kIn hl) r2 h) fun r s' hq => ?_)
  cases r with
  | error e => exact hx pins σ H s e s' I hq
  | ok fl =>
    cases fl with
    | ret u => exact I.after hq
    | next => exact False.elim hq
    | brk => exact False.elim hq
    | cont => exact False.elim hq
theorem zBE (F : zI X.prog X.w X.K X.mg X.base CX k f fd ps sp) (hr : zR k X.A) (hg : Gl X x) (hm : X.mg x = some (.ref f)) (hk : PySem.W.keepIn X.K (.ref f) = true) (hb : zdB X.K fd ps ds) (hd : zy dvs ds) (hx : zgn CX X E)
    (ha : PA X (e :: es) t) (hdb : (x == ("__debug__" : Str)) = false := by decide) (he : starEach (e :: es) X.env = (false, eval e X.env) :: starEach es X.env := by rfl) (hpl : (backTo pos (starEach es X.env)).any (·.1) = false := by rfl) :
    PE X (.Call (.Name x p) (e :: es) [] pos) (zBb sp dvs E t) := by
  intro pins s σ H Q I h
  refine wpAny_Call_Name_kw (zpt I hg hm ?_ hdb)
  refine PySem.W.callWith_K (h₀ := X.base) I.ok.mod.kin hk (thn (ha pos pins s σ H _ I h) fun us s1 ⟨vs, H1, I1, r, q⟩ => ⟨I1.kIn, ?_⟩) he hpl
  exact zqi F hr hb hd hx I1 r q
theorem zAQ {pl : Sem Bool} (he : PE X o ta) (c : Cls X.K C) (hm : zfl X.K C m f) (F : zI X.prog X.w X.K X.mg X.base CX k f fd ps sp) (hr : zR k X.A) (hb : zdB X.K fd ps ds) (hd : zy dvs ds) (hx : zgn CX X E) (ha : PA X (e :: es) t)
    (hst : starEach (e :: es) X.env = (false, eval e X.env) :: starEach es X.env := by rfl) (hpl : (backTo pos (starEach es X.env)).any (·.1) = false := by rfl)
    (ht : eval (.Call (.Attribute o m apos) (e :: es) [] pos) X.env = (do
      let ov <- eval o X.env
      standAt apos.atName
      let (f, first) <- holding [ov] (getMethod ov m pl)
      callWith pos f first (backTo pos (starEach (e :: es) X.env)) (backToKw pos (keywordEach [] X.env))) := by rfl) :
    PE X (.Call (.Attribute o m apos) (e :: es) [] pos) (zpx C m sp dvs E ta t) := by
  intro pins s σ H Q I h
  refine PySem.W.methodCall_KW (pl := pl) (thn (he pins s σ H _ I h) fun u s1 ⟨x, H1, I1, rx, a, dx, fs, ex, ea, l, q⟩ => ?_) ht
  subst ex
  obtain rfl : u = Value.ref a := rx
  refine zpD I1 ea c hm l ?_
  refine PySem.W.callWith_K (first := [.ref a]) (h₀ := X.base) I.ok.mod.kin hm.kp (thn (ha pos pins s1 σ H1 _ I1 q) fun us s2 ⟨vs, H2, I2, r, q2⟩ => ⟨I2.kIn, ?_⟩) hst hpl
  exact zqi (us := .ref a :: us) (vs := .ref a :: vs) F hr hb hd hx I2 (.cons rfl r) q2
theorem zDS {pl : Sem Bool} (he : PE X o ta) (c : Cls X.K C) (hm : zfl X.K C m f) (F : zI X.prog X.w X.K X.mg X.base CX k f fd ps sp) (hr : zR k X.A) (hb : zdB X.K fd ps ds) (hd : zy dvs ds) (hx : zgn CX X E)
    (ht : eval (.Call (.Attribute o m apos) [] [] pos) X.env = (do
      let ov <- eval o X.env
      standAt apos.atName
      let (f, first) <- holding [ov] (getMethod ov m pl)
      callWith pos f first (backTo pos (starEach [] X.env)) (backToKw pos (keywordEach [] X.env))) := by rfl) :
    PE X (.Call (.Attribute o m apos) [] [] pos) (zpx C m sp dvs E ta zql) := by
  intro pins s σ H Q I h
  refine PySem.W.methodCall_KW (pl := pl) (thn (he pins s σ H _ I h) fun u s1 ⟨x, H1, I1, rx, a, dx, fs, ex, ea, l, q⟩ => ?_) ht
  subst ex
  obtain rfl : u = Value.ref a := rx
  refine zpD I1 ea c hm l ?_
  exact PySem.W.callWith_K0 (first := [.ref a]) I1.kIn hm.kp (zqi (us := [.ref a]) (vs := [.ref a]) F hr hb hd hx I1 (.cons rfl .nil) q)
structure Mk (K : PySem.W.Frag) (C f : Addr) : Prop where
  makes : PySem.W.makesIn K C = true
  init : PySem.W.findIn K (.ref C) "__init__" = some (some (.ref f))
  fn : PySem.W.isFn K (.ref f) = true
  kp : PySem.W.keepIn K (.ref C) = true
theorem zDm {pins : List (Addr × Obj)} {σ : St} {H : Hp} {s : Shared} {Q : VK} {us : List Value} {vs : List V} (M : Mk X.K C f) (F : zI X.prog X.w X.K X.mg X.base CX k f fd ps sp) (hr : zR (k + 1) X.A) (hb : zdB X.K fd ps ds) (hd : zy dvs ds)
    (hx : zgn CX X E) (I : Inv X pins σ H s) (r : zy vs us)
    (h : ∀ x dx, H x = none -> H dx = none -> dx ≠ x -> sp (.ref x :: (vs ++ dvs)) (upd (upd H dx (.own x)) x (.ins C dx [])) (fun v H2 => v = .non ∧ Q (.ref x) H2) E) :
    wpAny (model X.prog X.w) X.A (call (.ref C) us) (EP X pins σ Q) X.xe s := by
  have hq := h (s.heap.objs.size + 1) s.heap.objs.size (I.hok.fresh (Nat.le_succ _)) (I.hok.fresh (Nat.le_refl _)) (Nat.ne_of_lt (Nat.lt_succ_self _))
  have I2 := Inv.made (C := C) I
  have r2 : zy (V.ref (s.heap.objs.size + 1) :: (vs ++ dvs)) (Value.ref (s.heap.objs.size + 1) :: (us ++ ds)) := .cons rfl (r.append hd)
  have hl : (Value.ref (s.heap.objs.size + 1) :: us ++ ds).length = ps.length := by
    have e := r2.length
    rw [F.len _ _ _ _ hq] at e
    exact e.symm
  refine wpAny_call (zCH (f := f) I.kIn M.makes M.init (beq_iff_eq.mp M.fn) (codeAny_mono (F.run _ X.stack _ _ ⟨Value.ref (s.heap.objs.size + 1) :: us, []⟩ (Value.ref (s.heap.objs.size + 1) :: (us ++ ds)) _ _ E (hr.make C us [])
    (I2.env0.make C us []) (hb _ (Value.ref (s.heap.objs.size + 1) :: us) I2.kIn hl) r2 hq) fun r s' hq' => ?_))
  cases r with
  | error e => exact hx pins σ _ _ e s' I2 hq'
  | ok fl =>
    cases fl with
    | ret u =>
      obtain ⟨v, H', I3, rv, ev, q3⟩ := I2.after hq'
      subst ev
      exact ⟨rv, ⟨V.ref (s.heap.objs.size + 1), H', I3, rfl, q3⟩⟩
    | next => exact False.elim hq'
    | brk => exact False.elim hq'
    | cont => exact False.elim hq'
theorem zCD (M : Mk X.K C f) (F : zI X.prog X.w X.K X.mg X.base CX k f fd ps sp) (hr : zR (k + 1) X.A) (hg : Gl X x) (hm : X.mg x = some (.ref C)) (hb : zdB X.K fd ps ds) (hd : zy dvs ds) (hx : zgn CX X E)
    (ha : PA X (e :: es) t) (hdb : (x == ("__debug__" : Str)) = false := by decide) (he : starEach (e :: es) X.env = (false, eval e X.env) :: starEach es X.env := by rfl) (hpl : (backTo pos (starEach es X.env)).any (·.1) = false := by rfl) :
    PE X (.Call (.Name x p) (e :: es) [] pos) (zFo C sp dvs E t) := by
  intro pins s σ H Q I h
  refine wpAny_Call_Name_kw (zpt I hg hm ?_ hdb)
  refine PySem.W.callWith_K (h₀ := X.base) I.ok.mod.kin M.kp (thn (ha pos pins s σ H _ I h) fun us s1 ⟨vs, H1, I1, r, q⟩ => ⟨I1.kIn, ?_⟩) he hpl
  exact zDm M F hr hb hd hx I1 r q
end
section
variable {X : Cx} {CX : CXT} {k : Nat} {f C : Addr} {fd : FuncData} {ps ks : List Str} {sp : Sp} {E : XK} {x m : Str} {p pos apos kpos : Pos} {e o : Expr} {es : List Expr} {kws : List Keyword} {te ta : TE} {t tk : TA} {nm : Option Str}
variable {g : List Value -> List Value -> List Value} {gV : List V -> List V -> List V}
end
structure zZ (N P : List Str) (sc : Scope) : Prop where
  kind : sc.kind = .function
  co : sc.isCoroutine = false
  gen : sc.isGenerator = false
  nd : N.Nodup
  pre : N.take P.length = P
  par : ∀ x ∈ P, sc.names.lookup x = some .local ∨ sc.names.lookup x = some .cell
  nofree : ∀ y ∈ sc.names, y.2 ≠ .free
theorem zsy {kindOf : Str -> Option NameKind} {x : Str} : ∀ {binds : List (Str × Value)} {m : Str -> Option Value}, (∀ v, (x, v) ∉ binds) -> bindL kindOf binds m x = m x
  | [], _, _ => rfl
  | (n, v) :: r, m, h => by
    unfold bindL
    rw [zsy fun w hw => h w (List.mem_cons_of_mem _ hw)]
    split
    . have : x ≠ n := by rintro rfl; exact h v List.mem_cons_self
      simp [this]
    . rfl
theorem zsb {kindOf : Str -> Option NameKind} {x : Str} : ∀ {binds : List (Str × Value)} {m : Str -> Option Value}, (∀ v, (x, v) ∉ binds) -> bindC kindOf binds m x = m x
  | [], _, _ => rfl
  | (n, v) :: r, m, h => by
    unfold bindC
    rw [zsb fun w hw => h w (List.mem_cons_of_mem _ hw)]
    split
    . rfl
    . have : x ≠ n := by rintro rfl; exact h v List.mem_cons_self
      simp [this]
theorem zsJ {kindOf : Str -> Option NameKind} {x : Str} {v : Value} : ∀ {P : List Str} {vs : List Value} {i : Nat} {m : Str -> Option Value}, P.Nodup -> P[i]? = some x -> vs[i]? = some v -> kindOf x = some .local ->
    bindL kindOf (P.zip vs) m x = some v
  | [], _, _, _, _, h, _, _ => by simp at h
  | _ :: _, [], _, _, _, _, h, _ => by simp at h
  | p :: P, w :: vs, 0, m, nd, h1, h2, hk => by
    simp at h1 h2; subst h1; subst h2
    show bindL kindOf ((p, w) :: P.zip vs) m p = _
    unfold bindL
    rw [zsy fun v hv => (List.nodup_cons.mp nd).1 (List.of_mem_zip hv).1, if_pos hk]
    simp
  | p :: P, w :: vs, i + 1, m, nd, h1, h2, hk => by
    show bindL kindOf ((p, w) :: P.zip vs) m x = _
    unfold bindL
    exact zsJ (i := i) (List.nodup_cons.mp nd).2 (by simpa using h1) (by simpa using h2) hk
theorem ztS {kindOf : Str -> Option NameKind} {x : Str} {v : Value} : ∀ {P : List Str} {vs : List Value} {i : Nat} {m : Str -> Option Value}, P.Nodup -> P[i]? = some x -> vs[i]? = some v -> kindOf x ≠ some .local ->
    bindC kindOf (P.zip vs) m x = some v
  | [], _, _, _, _, h, _, _ => by simp at h
  | _ :: _, [], _, _, _, _, h, _ => by simp at h
  | p :: P, w :: vs, 0, m, nd, h1, h2, hk => by
    simp at h1 h2; subst h1; subst h2
    show bindC kindOf ((p, w) :: P.zip vs) m p = _
    unfold bindC
    rw [zsb fun v hv => (List.nodup_cons.mp nd).1 (List.of_mem_zip hv).1, if_neg hk]
    simp
  | p :: P, w :: vs, i + 1, m, nd, h1, h2, hk => by
    show bindC kindOf ((p, w) :: P.zip vs) m x = _
    unfold bindC
    exact ztS (i := i) (List.nodup_cons.mp nd).2 (by simpa using h1) (by simpa using h2) hk
def start (N : List Str) (vs : List V) : St := vs.map some ++ List.replicate (N.length - vs.length) none
def zgk (CX : CXT) (P : Program) (w : World) (K : PySem.W.Frag) (mg : Str -> Option Value) (base : Heap) (N : List Str) (qual : Str) (scope : Scope) (f : Addr) (cd : Value) (A : Around) (outer : List Env) (s : Shared) (H : Hp) (E : XK) : Cx where
  prog := P
  w := w
  K := K
  mg := mg
  base := base
  A := A.deeper (envOfC qual scope s.heap.objs.size f cd)
  N := N
  s₀ := s
  H₀ := H
  env := envOfC qual scope s.heap.objs.size f cd
  outer := outer
  stack := envOfC qual scope s.heap.objs.size f cd :: outer
  ex := []
  calm := true
  fn := fun _ => true
  pn := []
  xe := fun e s' => wpAny (model P w) (A.deeper (envOfC qual scope s.heap.objs.size f cd)) (leaving (envOfC qual scope s.heap.objs.size f cd) e) (fun _ s'' => CX outer H s E e s'') (fun e' s'' => CX outer H s E e' s'') s'
theorem zsj {sc : Scope} {n : Nat} {x : Str} (h : sc.names.lookup x = some .cell) : ∃ c, (cellsFrom n sc.names []).lookup x = some c := by
  have q := PySem.W.cellsFrom_some sc.names n [] (.inl h)
  exact Option.isSome_iff_exists.mp q
theorem zDn {CX : CXT} {P : Program} {w : World} {K : PySem.W.Frag} {mg : Str -> Option Value} {base : Heap} {N ps : List Str} {qual : Str} {scope : Scope} {f : Addr} {cd : Value} {A : Around} {outer : List Env} {s s1 : Shared} {H : Hp} {E : XK} {us : List Value} {vs : List V}
    (S : zZ N ps scope) (hd : A.handled = none) (e0 : zgi P w K mg base A outer s H) (hl : vs.length = ps.length) (r : zy vs us)
    (x : InCallC s s.heap.objs.size (bindL (envOfC qual scope s.heap.objs.size f cd).kindOf (ps.zip us) fun _ => none) (cellsFrom (s.heap.objs.size + 1) scope.names []) (bindC (envOfC qual scope s.heap.objs.size f cd).kindOf (ps.zip us) fun _ => none) s1) :
    Inv (zgk CX P w K mg base N qual scope f cd A outer s H E) [] (start N vs) H s1 := by
  have hpl : ps.length <= N.length := by have := congrArg List.length S.pre; rw [List.length_take] at this; omega
  obtain ⟨h1, tk, rfl, hk⟩ := x.done
  have noA : ∀ b : Addr, b ∉ (zgk CX P w K mg base N qual scope f cd A outer s H E).ex := fun b z => absurd (show b ∈ ([] : List Addr) from z) (by simp)
  refine ⟨⟨e0.mod, S.kind, rfl, rfl, Nat.le_refl _, fun y z c h1 h2 => ?_, fun y hy => ?_, fun y c _ h => ?_, fun _ => hd, Around.frames_deeper e0.frames, .inr ⟨rfl, rfl⟩, fun b z => absurd z (noA b), e0.bs, e0.bsz, fun b _ _ => noA b, fun b z => absurd z (noA b), e0.funs, e0.frf⟩,
    rfl, e0.bare, Un.kept hk, ⟨_, x.toInCall.ns, fun i y v h1 h2 h3 => ?_⟩, fun y c h => ⟨_, x.cell y c h⟩, e0.hok.fresh (Nat.le_refl _), fun y c h => ?_, fun p hp => absurd (show p ∈ ([] : List (Addr × Obj)) from hp) (by simp), e0.hok.kept hk, ?_⟩
  . exact name_of_addr x.apart (PySem.mem_of_lookup h1) (PySem.mem_of_lookup h2)
  . have hy : scope.names.lookup y = some .cell ∨ scope.names.lookup y = some .free := hy
    rcases hy with hy | hy
    . exact zsj hy
    . exact absurd rfl (S.nofree _ (PySem.mem_of_lookup hy))
  . exact Nat.le_of_lt (x.above y c (PySem.mem_of_lookup h))
  . have hi : i < vs.length := by
      unfold start at h2
      by_cases hi : i < vs.length
      . exact hi
      . rw [List.getElem?_append_right (by simpa using hi)] at h2
        rw [List.getElem?_replicate] at h2
        split at h2 <;> cases h2
    have ha : vs[i]? = some v := by
      unfold start at h2
      rw [List.getElem?_append_left (by simpa using hi), List.getElem?_map] at h2
      cases e : vs[i]? with
      | none => rw [e] at h2; cases h2
      | some a => rw [e] at h2; cases h2; rfl
    obtain ⟨u, hu, rv⟩ := r.get ha
    have hp : ps[i]? = some y := by
      rw [<- S.pre, List.getElem?_take_of_lt (by omega)]; exact h1
    have ndP : ps.Nodup := by rw [<- S.pre]; exact S.nd.sublist (List.take_sublist _ _)
    refine ⟨u, rv, ?_⟩
    rcases S.par y (List.mem_of_getElem? hp) with k | k
    . exact .inl ⟨k, zsJ ndP hp hu k⟩
    . obtain ⟨c, e⟩ := zsj (n := s.heap.objs.size + 1) k
      refine .inr ⟨.inl k, c, e, ?_⟩
      have q := x.cell y c e
      rw [ztS ndP hp hu (by show scope.names.lookup y ≠ _; rw [k]; decide)] at q
      exact q
  . exact e0.hok.fresh (Nat.le_of_lt (x.above y c (PySem.mem_of_lookup h)))
  . unfold start
    show _ = N.length
    rw [List.length_append, List.length_map, List.length_replicate]
    omega
theorem zA6 {CX : CXT} {P : Program} {w : World} {K : PySem.W.Frag} {mg : Str -> Option Value} {base : Heap} {k : Nat} {f : Addr} {name qual : Str} {params : Arguments} {body : List Stmt} {scope : Scope} {dV kV doc pm cdv ct oc : Value} {an od : Option Addr}
    {osl : Array (Option Value)} {N ps : List Str} {sp : Sp} (lk : K.lookup f = some ⟨oc, od, .func (PySem.W.fnOf name qual params body scope dV kV doc pm an cdv ct), osl⟩) (hcd : PySem.W.codeIn K cdv qual = true) (S : zZ N ps scope)
    (len : ∀ vs H Q E, sp vs H Q E -> vs.length = ps.length)
    (hbody : ∀ (A : Around) (outer : List Env) (s : Shared) (H : Hp) (vs : List V) (Q : VK) (E : XK), zR k (A.deeper (envOfC qual scope s.heap.objs.size f cdv)) -> sp vs H Q E ->
      ∃ t, PSs (zgk CX P w K mg base N qual scope f cdv A outer s H E) body t ∧ t { nx := fun _ H' => Q .non H', rt := Q } (start N vs) H) :
    zI P w K mg base CX (k + 1) f (PySem.W.fnOf name qual params body scope dV kV doc pm an cdv ct) ps sp := by
  refine ⟨len, fun A outer s H args us vs Q E hr e0 hb r hsp => ?_⟩
  have hl := len _ _ _ _ hsp
  have KX : K.In s.heap := e0.mod.kin.keeps fun b o e => (e0.bs b o e).1
  have lim : s.heap.NoLimit := e0.mod.nolimit.keeps fun b o e => (e0.bs b o e).1
  have hkind : ∀ y ∈ ps.zip us, scope.names.lookup y.1 = some .local ∨ (scope.names.lookup y.1 = some .cell ∧ ((cellsFrom (s.heap.objs.size + 1) scope.names []).lookup y.1).isSome = true) := fun ⟨n, v⟩ hy => by
    rcases S.par n (List.of_mem_zip hy).1 with q | q
    . exact .inl q
    . exact .inr ⟨q, PySem.W.cellsFrom_some _ _ _ (.inl q)⟩
  refine codeAny_call_function hr.depth (KX _ _ lk) rfl S.co S.gen rfl (PySem.W.codeRec_of KX hcd) (hb _ _ _ _ ?_)
  refine wpAny_newFunctionEnv_cells S.kind hkind fun env he s1 x => ?_
  subst he
  refine ⟨lim.keeps x.toInCall.keep, codeAny_func ?_⟩
  obtain ⟨t, ht, hq⟩ := hbody A outer s H vs Q E (hr.deeper _) hsp
  have I : Inv (zgk CX P w K mg base N qual scope f cdv A outer s H E) [] (start N vs) H s1 := zDn S hr.hd e0 hl r x
  refine wpAny_mono (ht [] s1 (start N vs) H _ I hq) (fun fl s' hs => ?_) fun e s' hs => hs
  have fin : ∀ {σ' : St} {H' : Hp} {v : V} {u : Value}, Inv (zgk CX P w K mg base N qual scope f cdv A outer s H E) [] σ' H' s' -> zu v u -> Q v H' -> CE outer P w H s Q u s' :=
    fun {σ' H' v u} J rv q => ⟨v, H', J.os, J.bare, J.base, J.hok, rv, q⟩
  cases fl with
  | ret u =>
    obtain ⟨v, σ', H', J, rv, q⟩ := hs
    exact fin J rv q
  | next =>
    obtain ⟨σ', H', J, q⟩ := hs
    exact fin (v := V.non) (u := Value.none) J rfl q
  | brk =>
    obtain ⟨_, _, _, q⟩ := hs
    exact False.elim q
  | cont =>
    obtain ⟨_, _, _, q⟩ := hs
    exact False.elim q
end L2
namespace L2
open PySem PySem.Spec PyProof.Rows
section
variable {X : Cx} {x : Str} {p pos : Pos} {e : Expr} {es : List Expr} {t : TA} {id T : String} {r : List V -> Hp -> VK -> Prop}
def tCB (r : List V -> Hp -> VK -> Prop) (t : TA) : TE := fun σ H Q => t σ H fun vs H1 => r vs H1 Q
theorem zff (hc : zew X (.builtin id) r) (hg : Gl X x) (hm : X.mg x = none) (hv : bootBuiltins x = some (.builtin id)) (ha : PA X (e :: es) t) (hn : x ≠ "__name__" := by decide) (hdb : (x == ("__debug__" : Str)) = false := by decide)
    (he : starEach (e :: es) X.env = (false, eval e X.env) :: starEach es X.env := by rfl) (hpl : (backTo pos (starEach es X.env)).any (·.1) = false := by rfl) : PE X (.Call (.Name x p) (e :: es) [] pos) (tCB r t) := by
  intro pins s σ H Q I h
  refine wpAny_Call_Name_kw (zgu I hg hm hv ?_ hn hdb)
  exact PyProof.Rows.callWith_builtin1 (thn (ha pos pins s σ H _ I h) fun us s1 ⟨vs, H1, I1, r1, q1⟩ => hc pins s1 σ H1 vs us Q I1 r1 q1) he hpl
theorem ztA (hc : zew X (.type T) r) (hg : Gl X x) (hm : X.mg x = none) (hv : bootBuiltins x = some (.type T)) (ha : PA X (e :: es) t) (hn : x ≠ "__name__" := by decide) (hdb : (x == ("__debug__" : Str)) = false := by decide)
    (he : starEach (e :: es) X.env = (false, eval e X.env) :: starEach es X.env := by rfl) (hpl : (backTo pos (starEach es X.env)).any (·.1) = false := by rfl) : PE X (.Call (.Name x p) (e :: es) [] pos) (tCB r t) := by
  intro pins s σ H Q I h
  refine wpAny_Call_Name_kw (zgu I hg hm hv ?_ hn hdb)
  exact PyProof.Rows.callWith_type1 (thn (ha pos pins s σ H _ I h) fun us s1 ⟨vs, H1, I1, r1, q1⟩ => hc pins s1 σ H1 vs us Q I1 r1 q1) he hpl
end
end L2
namespace HT
open PySem PyProof.Rows
section
open PySem.SeqAt
open PySem.AutoSeq1 (wpAny_loadPart')
open PySem.MeetsSeq PySem.MeetsSeq2 PySem.MeetsSeq3
end
section
variable {prog : Program} {w : World} {A : Around} {E : Value -> Shared -> Prop} {s : Shared}
def sIx (n d : Nat) : Option Int -> Nat
  | none => d
  | some v => if v < 0 then (v + (n : Int)).toNat else min v.toNat n
theorem zAV (n d : Nat) (hd : d <= n) (o : Option Int) : sIx n d o <= n := by
  cases o with
  | none => exact hd
  | some v =>
    show (if v < 0 then (v + (n : Int)).toNat else min v.toNat n) <= n
    by_cases hv : v < 0
    . rw [if_pos hv]; omega
    . rw [if_neg hv]; exact Nat.min_le_right _ _
theorem clip_eq (v : Int) (n d : Nat) : (if v < 0 then max (v + (n : Int)) 0 else min v (n : Int)) = ((sIx n d (some v) : Nat) : Int) := by
  show (if v < 0 then max (v + (n : Int)) 0 else min v (n : Int)) = (((if v < 0 then (v + (n : Int)).toNat else min v.toNat n) : Nat) : Int)
  by_cases hv : v < 0
  . simp only [if_pos hv]; omega
  . simp only [if_neg hv]; omega
theorem zBN (lo hi : Option Int) (n : Nat) : Builtin.Slice.sliceAdjust lo hi 1 (n : Int) = (((sIx n 0 lo : Nat) : Int), ((sIx n n hi : Nat) : Int)) := by
  have h1 : ¬ ((1 : Int) < 0) := by omega
  unfold Builtin.Slice.sliceAdjust
  simp only [h1, if_false]
  refine Prod.ext ?_ ?_
  . cases lo with
    | none => rfl
    | some v => exact clip_eq v n 0
  . cases hi with
    | none => rfl
    | some v => exact clip_eq v n n
theorem zDd (i j : Nat) : Builtin.Slice.slicePlaces (i : Int) (j : Int) 1 = j - i := by
  unfold Builtin.Slice.slicePlaces
  have h1 : (1 : Int) > 0 := by omega
  simp only [h1, if_true, Int.ediv_one]
  split <;> omega
theorem slicePart_ {v : Value} {o : Option Int} {Q : Option Int -> Shared -> Prop} (p : IsPart v o) (h : Q o s) : wpAny (model prog w) A (Builtin.Slice.slicePartIndex v) Q E s := by
  cases p with
  | none => exact slicePart_none h
  | int i t => exact slicePart_int h
theorem zC0 {sl : Addr} {vl vu : Value} {lo hi : Option Int} {n : Nat} {Q : Int × Int × Nat -> Shared -> Prop} (hs : s.heap.IsSliceOf sl vl vu .none) (pl : IsPart vl lo) (pu : IsPart vu hi)
    (h : Q (((sIx n 0 lo : Nat) : Int), 1, sIx n n hi - sIx n 0 lo) s) : wpAny (model prog w) A (Builtin.Slice.sliceApplied (.ref sl) (pure (n : Int))) Q E s := by
  obtain ⟨os, hos, hcs, hds⟩ := id hs
  unfold Builtin.Slice.sliceApplied Builtin.Slice.sliceFields
  refine wpAny_bind (wpAny_bind (wpAny_field hos hds (x := vl) rfl (wpAny_bind (wpAny_field hos hds (x := vu) rfl (wpAny_bind (wpAny_field hos hds (x := .none) rfl (wpAny_pure ?_)))))))
  refine wpAny_bind (slicePart_none ?_)
  show wpAny _ _ (if ((1 : Int) == 0) = true then _ else _) _ _ s
  rw [if_neg (by decide)]
  refine wpAny_bind (slicePart_ pl (wpAny_bind (slicePart_ pu (wpAny_bind (wpAny_pure ?_)))))
  show wpAny _ _ (match Builtin.Slice.sliceAdjust lo hi 1 (n : Int) with | (lo, hi) => pure (lo, (1 : Int), Builtin.Slice.slicePlaces lo hi 1)) _ _ s
  rw [zBN lo hi n]
  show wpAny _ _ (pure (((sIx n 0 lo : Nat) : Int), (1 : Int), Builtin.Slice.slicePlaces ((sIx n 0 lo : Nat) : Int) ((sIx n n hi : Nat) : Int) 1)) _ _ s
  rw [zDd]
  exact wpAny_pure h
theorem zES (xs : Array Value) (i k : Nat) : ((List.range k).filterMap fun (m : Nat) => xs[((i : Int) + (m : Int) * 1).toNat]?).toArray = ((xs.toList.drop i).take k).toArray := by
  have e : (fun (m : Nat) => xs[((i : Int) + (m : Int) * 1).toNat]?) = fun m => xs[i + m]? := by
    funext m
    have : ((i : Int) + (m : Int) * 1).toNat = i + m := by omega
    rw [this]
  rw [e]
  have := pick_run xs i k
  rw [List.filterMap_map] at this
  have e2 : ((fun x => xs[x]?) ∘ fun x => i + x) = fun m => xs[i + m]? := rfl
  rw [e2] at this
  rw [this]
theorem getItem_tuple_cut {t sl : Addr} {items : Array Value} {vl vu : Value} {lo hi : Option Int} {Q : Value -> Shared -> Prop} (ht : IsTup s.heap t items) (hs : s.heap.IsSliceOf sl vl vu .none) (pl : IsPart vl lo) (pu : IsPart vu hi)
    (hw : ¬ (sIx items.size 0 lo = 0 ∧ sIx items.size items.size hi = items.size))
    (h : Q (.ref s.heap.objs.size) { s with heap := s.heap.push { cls := .type "tuple", data := .seq ((items.toList.drop (sIx items.size 0 lo)).take (sIx items.size items.size hi - sIx items.size 0 lo)).toArray } })
    (hsz : items.size <= sizeLine) : wpAny (model prog w) A (getItem (.ref t) (.ref sl)) Q E s := by
  have htake : sizeOk (.seq ((items.toList.drop (sIx items.size 0 lo)).take (sIx items.size items.size hi - sIx items.size 0 lo)).toArray) := by
    show ((items.toList.drop (sIx items.size 0 lo)).take (sIx items.size items.size hi - sIx items.size 0 lo)).toArray.size <= sizeLine
    rw [List.size_toArray, List.length_take, List.length_drop, Array.length_toList]
    omega
  have hj : sIx items.size items.size hi <= items.size := zAV _ _ (Nat.le_refl _) hi
  obtain ⟨os, hos, hcs, hds⟩ := id hs
  have hTs : s.TypeIs (.ref sl) "slice" := ⟨os, hos, hcs⟩
  unfold getItem
  try with_reducible refine wpAny_holding ?_
  first | refine wpAny_bind (wpAny_pure ?_) | skip
  refine wpAny_bind (wpAny_sequenceKey ht.typeIs (by decide) ?_)
  refine wpAny_bind (wpAny_callSpecial?_slot (name := Str.ofString "__getitem__") ht.typeIs PyProof.Rows.slot_tuple_getitem
    (wpAny_call_entry PyProof.Rows.slot_tuple_getitem ht.typeIs entry_tuple_getitem ?_ (args_tuple_getitem _ _)))
  show wpAny _ _ (Builtin.Tuple.tupleItemsOf (.ref t) >>= _) _ _ s
  refine wpAny_bind (tupleItemsOf_ ht ?_)
  refine wpAny_bind (wpAny_typeOf hTs ?_)
  rw [if_pos (by decide)]
  refine wpAny_bind (zC0 hs pl pu ?_)
  have hno : ¬ ((((sIx items.size 0 lo : Nat) : Int) == 0 && (1 : Int) == 1 && (sIx items.size items.size hi - sIx items.size 0 lo) == items.size) = true) := by
    intro q
    rw [Bool.and_eq_true, Bool.and_eq_true] at q
    have q1 : ((sIx items.size 0 lo : Nat) : Int) = 0 := eq_of_beq q.1.1
    have q2 : sIx items.size items.size hi - sIx items.size 0 lo = items.size := eq_of_beq q.2
    exact hw ⟨by omega, by omega⟩
  show wpAny _ _ (if (((sIx items.size 0 lo : Nat) : Int) == 0 && (1 : Int) == 1 && (sIx items.size items.size hi - sIx items.size 0 lo) == items.size) = true then _ else _) _ _ s
  rw [if_neg hno, zES]
  first
    | exact wpAny_bind (m := Builtin.Tuple.tupleExact _) (wpAny_newObj_type (wpAny_pure ⟨_, rfl, wpAny_pure h⟩) htake)
    | exact wpAny_bind (m := Builtin.Tuple.tupleExact _) (wpAny_newObj_type (wpAny_bind (wpAny_pure (wpAny_pure ⟨_, rfl, wpAny_pure h⟩))) htake)
    | exact wpAny_bind (wpAny_bind (m := Builtin.Tuple.tupleExact _) (wpAny_newObj_type (wpAny_pure (wpAny_pure ⟨_, rfl, wpAny_pure h⟩)) htake))
    | exact wpAny_bind (wpAny_bind (m := Builtin.Tuple.tupleExact _) (wpAny_newObj_type (wpAny_pure ⟨_, rfl, wpAny_pure h⟩) htake))
end
end HT
namespace L2
open PySem PySem.Spec PyProof.Rows
abbrev TO := St -> Hp -> (Option Int -> Hp -> Prop) -> Prop
def PO (X : Cx) (e : Option Expr) (t : TO) : Prop :=
  ∀ (pins : List (Addr × Obj)) (s : Shared) (σ : St) (H : Hp) (Q : Option Int -> Hp -> Prop), Inv X pins σ H s -> t σ H Q ->
    wpAny (model X.prog X.w) X.A (evalPart e X.env) (fun u s' => ∃ o H', Inv X pins σ H' s' ∧ IsPart u o ∧ Q o H') X.xe s
def zAP : TO := fun _ H Q => Q none H
def zEe (t : TE) : TO := fun σ H Q => t σ H fun x H1 => ∃ i, x = .int i ∧ Q (some i) H1
theorem zr6 {ns : List Int} : ∀ {us : List Value}, zy (ns.map V.int) us -> IntsAre us ns := by
  induction ns with
  | nil => intro us r; rw [List.map_nil] at r; cases r; exact .nil
  | cons n ns ih =>
    intro us r
    rw [List.map_cons] at r
    cases r with
    | cons r1 r2 =>
      obtain ⟨t, e⟩ := r1
      subst e
      exact .cons n t (ih r2)
section
variable {X : Cx} {e : Expr} {te : TE} {lo hi : Option Expr} {tl th : TO} {pos p2 : Pos}
theorem zsR : PO X none zAP := by
  intro pins s σ H Q I h
  rw [evalPart_none]
  exact wpAny_pure ⟨none, H, I, .none, h⟩
theorem zpK (h : PE X e te) : PO X (some e) (zEe te) := by
  intro pins s σ H Q I hw
  rw [evalPart_some]
  refine thn (h pins s σ H _ I hw) fun u s1 ⟨x, H1, I1, r1, q1⟩ => ?_
  obtain ⟨i, rfl, q⟩ := q1
  obtain ⟨t, rfl⟩ := r1
  exact ⟨some i, H1, I1, .int i t, q⟩
def SlR (X : Cx) (r : V -> Option Int -> Option Int -> Hp -> VK -> Prop) : Prop :=
  ∀ (pins : List (Addr × Obj)) (s : Shared) (σ : St) (H : Hp) (x : V) (v vl vu : Value) (lo hi : Option Int) (sl : Addr) (Q : VK), Inv X pins σ H s -> zu x v -> s.heap.IsSliceOf sl vl vu .none -> IsPart vl lo -> IsPart vu hi -> r x lo hi H Q ->
    ∃ T id, typeLookup (.type T) "__getitem__" = pure (some (.builtin id)) ∧ s.TypeIs v T ∧ wpAny (model X.prog X.w) X.A (getItem v (.ref sl)) (EP X pins σ Q) X.xe s
def tSl (r : V -> Option Int -> Option Int -> Hp -> VK -> Prop) (te : TE) (tl th : TO) : TE := fun σ H Q => te σ H fun x H1 => tl σ H1 fun l H2 => th σ H2 fun u H3 => r x l u H3 Q
theorem ztu {r : V -> Option Int -> Option Int -> Hp -> VK -> Prop} (hr : SlR X r) (he : PE X e te) (hl : PO X lo tl) (hu : PO X hi th) : PE X (.Subscript e (.Slice lo hi none p2) pos) (tSl r te tl th) := by
  intro pins s σ H Q I h
  refine Subscript_ (thn (he pins s σ H _ I h) fun v s1 ⟨x, H1, I1, r1, q1⟩ => ?_)
  refine wpAny_Slice (thn (hl pins s1 σ H1 _ I1 q1) fun vl s2 ⟨l, H2, I2, pl, q2⟩ => thn (hu pins s2 σ H2 _ I2 q2) fun vu s3 ⟨u, H3, I3, pu, q3⟩ => ?_)
  rw [evalPart_none]
  refine wpAny_pure ?_
  have I4 : Inv X pins σ H3 { s3 with heap := s3.heap.push { cls := .type "slice", data := .fields #[vl, vu, .none] } } := I3.kept (t' := s3.toks) fun b ob q => Heap.get?_push_of_some _ q
  obtain ⟨T, id, hT, ht, hg⟩ := hr pins { s3 with heap := s3.heap.push { cls := .type "slice", data := .fields #[vl, vu, .none] } } σ H3 x v vl vu l u s3.heap.objs.size Q I4 r1 (Heap.IsSliceOf.new ..) pl pu q3
  show wpAny (model X.prog X.w) X.A (subscriptTail e (.Slice lo hi none p2) v (.ref s3.heap.objs.size)) (EP X pins σ Q) X.xe { s3 with heap := s3.heap.push { cls := .type "slice", data := .fields #[vl, vu, .none] } }
  exact tail_any (ops := [.ref s3.heap.objs.size, v]) ht hT hg (by with_unfolding_all rfl)
def cutV (xs : List V) (lo hi : Option Int) : List V := (xs.drop (HT.sIx xs.length 0 lo)).take (HT.sIx xs.length xs.length hi - HT.sIx xs.length 0 lo)
theorem ztz (xs : List V) (lo hi : Option Int) : (cutV xs lo hi).length <= xs.length := by
  unfold cutV
  rw [List.length_take, List.length_drop]
  omega
def zBV (K : PySem.W.Frag) : V -> Option Int -> Option Int -> Hp -> VK -> Prop := fun x lo hi H Q => ∃ a xs, x = .ref a ∧ SqT K H a xs ∧
  ¬ (HT.sIx xs.length 0 lo = 0 ∧ HT.sIx xs.length xs.length hi = xs.length) ∧ ∀ p, H p = none -> Q (.ref p) (upd H p (.tup (cutV xs lo hi)))
theorem zC2 : SlR X (zBV X.K) := by
  intro pins s σ H x v vl vu lo hi sl Q I rx hs pl pu h
  obtain ⟨a, xs, rfl, hx, hw, q⟩ := h
  cases rx
  obtain ⟨its, r, ht, hz⟩ := I.tuple hx
  have hlen : its.toArray.size = xs.length := by rw [List.size_toArray]; exact r.length.symm
  refine ⟨"tuple", _, PyProof.Rows.slot_tuple_getitem.lookup, ht.typeIs, ?_⟩
  refine HT.getItem_tuple_cut ht hs pl pu (by rw [hlen]; exact hw) ?_ (by rw [hlen]; exact hz)
  rw [hlen]
  refine ⟨.ref s.heap.objs.size, _, I.laid (t' := s.toks) (o := .tup (cutV xs lo hi)) (fun b ob q => Heap.get?_push_of_some _ q) (Nat.le_refl _) ?_, rfl, q _ (I.hok.fresh (Nat.le_refl _))⟩
  exact ⟨Nat.le_trans (ztz xs lo hi) hz, _, (r.drop (HT.sIx xs.length 0 lo)).take (HT.sIx xs.length xs.length hi - HT.sIx xs.length 0 lo), IsTup.new _ _⟩
end
end L2
namespace L2
open PySem PySem.Spec PyProof.Rows
def ixN (n : Nat) (i : Int) : Option Nat := if 0 <= i then (if i < n then some i.toNat else none) else if -(n : Int) <= i then some (i + n).toNat else none
def atI {α : Type} (xs : List α) (i : Int) : Option α := (ixN xs.length i).bind fun j => xs[j]?
theorem zr3 {n : Nat} {i : Int} {j : Nat} (h : ixN n i = some j) : seqIndex? i n = some j ∧ j < n ∧ -(n : Int) <= i ∧ i < n := by
  unfold ixN at h
  by_cases h0 : 0 <= i
  . rw [if_pos h0] at h
    by_cases h1 : i < n
    . rw [if_pos h1] at h
      have e : i.toNat = j := Option.some.inj h
      exact ⟨by rw [seqIndex_of h0 h1, e], by omega, by omega, h1⟩
    . rw [if_neg h1] at h; cases h
  . rw [if_neg h0] at h
    by_cases h1 : -(n : Int) <= i
    . rw [if_pos h1] at h
      have e : (i + n).toNat = j := Option.some.inj h
      exact ⟨by rw [seqIndex_neg (by omega) h1, e], by omega, h1, by omega⟩
    . rw [if_neg h1] at h; cases h
theorem zrX {α : Type} {xs : List α} {i : Int} {v : α} (h : atI xs i = some v) : ∃ j, seqIndex? i xs.length = some j ∧ xs[j]? = some v ∧ j < xs.length ∧ -(xs.length : Int) <= i ∧ i < xs.length := by
  unfold atI at h
  cases e : ixN xs.length i with
  | none => rw [e] at h; cases h
  | some j =>
    rw [e] at h
    obtain ⟨h1, h2, h3, h4⟩ := zr3 e
    exact ⟨j, h1, h, h2, h3, h4⟩
def ztD (b : Expr) : Prop := ∀ o i, subscripted b false o i = operate [o, i] (getItem o i)
def IxR (X : Cx) (r : R2) : Prop :=
  ∀ (value slice : Expr) (pins : List (Addr × Obj)) (s : Shared) (σ : St) (H : Hp) (x y : V) (v u : Value) (Q : VK), Inv X pins σ H s -> zu x v -> zu y u -> r x y H Q ->
    subscripted slice false v u = operate [v, u] (getItem v u) -> wpAny (model X.prog X.w) X.A (subscriptTail value slice v u) (EP X pins σ Q) X.xe s
def MtR (X : Cx) (id : String) (r : V -> List V -> Hp -> VK -> Prop) : Prop :=
  ∀ (pins : List (Addr × Obj)) (s : Shared) (σ : St) (H : Hp) (x : V) (xs : List V) (v : Value) (us : List Value) (Q : VK), Inv X pins σ H s -> zu x v -> zy xs us -> r x xs H Q ->
    wpAny (model X.prog X.w) X.A (call (.builtin id) (v :: us)) (EP X pins σ Q) X.xe s
section
variable {X : Cx} {a b : Expr} {ta tb : TE} {pos : Pos}
theorem IxR.or {r r' : R2} (h : IxR X r) (h' : IxR X r') : IxR X (fun x y H Q => r x y H Q ∨ r' x y H Q) := by
  intro value slice pins s σ H x y v u Q I rx ry q hs
  rcases q with q | q
  . exact h value slice pins s σ H x y v u Q I rx ry q hs
  . exact h' value slice pins s σ H x y v u Q I rx ry q hs
theorem zFd {r : R2} (hr : IxR X r) (ha : PE X a ta) (hb : PE X b tb) (hs : ztD b) : PE X (.Subscript a b pos) (tOp r ta tb) := by
  intro pins s σ H Q I h
  exact Subscript_ (zpZ ha hb I h fun v u s2 x y H2 I2 rx ry q => hr a b pins s2 σ H2 x y v u Q I2 rx ry q (hs _ _))
def zEJ (K : PySem.W.Frag) : R2 := fun x y H Q => ∃ p xs i v, x = .ref p ∧ y = .int i ∧ SqL K H p xs ∧ atI xs i = some v ∧ Q v H
def zA2 (K : PySem.W.Frag) : R2 := fun x y H Q => ∃ p xs i v, x = .ref p ∧ y = .int i ∧ SqT K H p xs ∧ atI xs i = some v ∧ Q v H
theorem zC4 : IxR X (zEJ X.K) := by
  intro value slice pins s σ H x y v u Q I rx ry h hs
  obtain ⟨p, xs, i, z, rfl, rfl, hq, he, q⟩ := h
  cases rx
  obtain ⟨t, rfl⟩ := ry
  obtain ⟨its, r, pl, hz⟩ := I.list hq
  obtain ⟨j, h1, h2, h3, h4, h5⟩ := zrX he
  obtain ⟨w, ew, rw'⟩ := r.get h2
  have hl := r.length
  have hn := zhX
  have fin : EP X pins σ Q w s := ⟨z, H, I, rw', q⟩
  by_cases h0 : 0 <= i
  . have hj : i.toNat = j := by
      rw [seqIndex_of h0 h5] at h1
      exact Option.some.inj h1
    exact item_listR pl.isList h0 (by omega) (by rw [hj]; simpa using ew) fin hs
  . have hj : (i + (its.toArray.size : Int)).toNat = j := by
      rw [seqIndex_neg (by omega) h4] at h1
      rw [List.size_toArray, <- hl]
      exact Option.some.inj h1
    exact subscriptTail_builtinR (x := w) pl.isList.typeIs slot_list_getitem.lookup
      (wpAny_getItem_list_neg (Q := fun r s' => r = w ∧ EP X pins σ Q r s') pl.isList (by omega) (by rw [List.size_toArray] <;> omega) (by omega) (by rw [hj]; simpa using ew) ⟨rfl, fin⟩) hs
theorem zFA : IxR X (zA2 X.K) := by
  intro value slice pins s σ H x y v u Q I rx ry h hs
  obtain ⟨p, xs, i, z, rfl, rfl, hq, he, q⟩ := h
  cases rx
  obtain ⟨t, rfl⟩ := ry
  obtain ⟨its, r, pl, hz⟩ := I.tuple hq
  obtain ⟨j, h1, h2, h3, h4, h5⟩ := zrX he
  obtain ⟨w, ew, rw'⟩ := r.get h2
  have hl := r.length
  have hn := zhX
  have fin : EP X pins σ Q w s := ⟨z, H, I, rw', q⟩
  exact subscriptTail_builtinR (x := w) pl.typeIs slot_tuple_getitem.lookup
    (getItem_tuple (j := j) (Q := fun r s' => r = w ∧ EP X pins σ Q r s') pl (by omega) (by omega) (by rw [List.size_toArray, <- hl]; exact h1) (by simpa using ew) ⟨rfl, fin⟩) hs
theorem zB6 (its : List Value) (n j : Nat) (u : Value) : Obj.mapSeq (·.setIfInBounds j u) { cls := .type "list", data := .seq its.toArray n } = { cls := .type "list", data := .seq (its.set j u).toArray n } := by
  simp [Obj.mapSeq]
theorem Inv.lst {pins : List (Addr × Obj)} {σ : St} {H : Hp} {s : Shared} {p : Addr} {xs : List V} (I : Inv X pins σ H s) (h : H p = some (.lst xs)) :
    ∃ (its : List Value) (n : Nat), zy xs its ∧ s.heap.get? p = some { cls := .type "list", data := .seq its.toArray n } ∧ xs.length <= sizeLine := by
  obtain ⟨z, its, n, r, e⟩ := I.hok p _ h
  exact ⟨its, n, r, e, z⟩
theorem Inv.lstUpd {pins : List (Addr × Obj)} {σ : St} {H : Hp} {s : Shared} {p : Addr} {xs ys : List V} {its its' : List Value} {n n' : Nat} {f : Obj -> Obj} (I : Inv X pins σ H s) (h : H p = some (.lst xs))
    (ho : s.heap.get? p = some { cls := .type "list", data := .seq its.toArray n }) (hf : f { cls := .type "list", data := .seq its.toArray n } = { cls := .type "list", data := .seq its'.toArray n' }) (r : zy ys its') (hz : ys.length <= sizeLine) (t : Nat) :
    Inv X pins σ (upd H p (.lst ys)) { s with heap := s.heap.update p f, toks := t } := by
  have e : (s.heap.update p f).get? p = some { cls := .type "list", data := .seq its'.toArray n' } := by
    rw [Heap.get?_update_self f ho (by rw [hf] <;> rfl), hf]
  refine I.write (x := p) (e := p) (by rw [h]; trivial) (.inl rfl) (fun b u hb q => (Heap.get?_update_other _ _ (Ne.symm hb)).trans q) ⟨_, e⟩ ?_
  exact ⟨hz, its', n', r, e⟩
def zBD : V -> V -> V -> Hp -> (Hp -> Prop) -> Prop := fun o i v H Q => ∃ p xs k j, o = .ref p ∧ i = .int k ∧ H p = some (.lst xs) ∧ ixN xs.length k = some j ∧ Q (upd H p (.lst (xs.set j v)))
theorem zAD : zg1 X zBD := by
  intro pins s σ H o i v ov iv u Q I ro ri rv h
  obtain ⟨p, xs, k, j, rfl, rfl, hp, hj, q⟩ := h
  cases ro
  obtain ⟨t, rfl⟩ := ri
  obtain ⟨its, n, r, ho, hz⟩ := I.lst hp
  obtain ⟨h1, h2, h3, h4⟩ := zr3 hj
  have hl := r.length
  have hn := zhX
  have I' : Inv X pins σ (upd H p (.lst (xs.set j v))) { s with heap := s.heap.update p (Obj.mapSeq (·.setIfInBounds j u)) } :=
    I.lstUpd hp ho (zB6 its n j u) (r.set rv j) (by rw [List.length_set]; exact hz) s.toks
  by_cases h0 : 0 <= k
  . have hk : k.toNat = j := by
      rw [seqIndex_of h0 h4] at h1
      exact Option.some.inj h1
    exact PySem.W.ki_setAt ho h0 (by omega) (by rw [List.size_toArray, <- hl]; exact h4) (by rw [hk]; exact ⟨_, I', q⟩)
  . have hk : (k + (its.toArray.size : Int)).toNat = j := by
      rw [seqIndex_neg (by omega) h3] at h1
      rw [List.size_toArray, <- hl]
      exact Option.some.inj h1
    exact PySem.W.ki_setBack ho (by omega) (by rw [List.size_toArray, <- hl]; exact h3) (by omega) (by rw [hk]; exact ⟨_, I', q⟩)
theorem zCc (lo hi : Option Int) (n : Nat) : (sliceBounds lo hi none n).1 = ((HT.sIx n 0 lo : Nat) : Int) ∧ (sliceBounds lo hi none n).2.1 = ((HT.sIx n n hi : Nat) : Int) ∧ (sliceBounds lo hi none n).2.2 = 1 := by
  refine ⟨?_, ?_, rfl⟩
  . cases lo with
    | none => simp [sliceBounds, HT.sIx]
    | some i =>
      simp only [sliceBounds, HT.sIx, Option.getD_none, show (1 : Int) > 0 by decide, if_true]
      by_cases h : i < 0
      . simp only [h, if_true] <;> omega
      . simp only [h, if_false] <;> omega
  . cases hi with
    | none => simp [sliceBounds, HT.sIx]
    | some i =>
      simp only [sliceBounds, HT.sIx, Option.getD_none, show (1 : Int) > 0 by decide, if_true]
      by_cases h : i < 0
      . simp only [h, if_true] <;> omega
      . simp only [h, if_false] <;> omega
theorem zCI (its : List Value) (lo hi : Option Int) : slicePick its.toArray lo hi none = ((its.drop (HT.sIx its.length 0 lo)).take (HT.sIx its.length its.length hi - HT.sIx its.length 0 lo)).toArray := by
  obtain ⟨h1, h2, h3⟩ := zCc lo hi its.toArray.size
  unfold slicePick
  rw [h1, h2, h3]
  simp only [sliceRange_one, pick_run, List.size_toArray] <;> rfl
def zEq (K : PySem.W.Frag) : V -> Option Int -> Option Int -> Hp -> VK -> Prop := fun x lo hi H Q => ∃ a xs, x = .ref a ∧ SqL K H a xs ∧ ∀ p, H p = none -> Q (.ref p) (upd H p (.lst (cutV xs lo hi)))
theorem zCu : SlR X (zEq X.K) := by
  intro pins s σ H x v vl vu lo hi sl Q I rx hs pl pu h
  obtain ⟨a, xs, rfl, hx, q⟩ := h
  cases rx
  obtain ⟨its, r, ht, hz⟩ := I.list hx
  have hlen := r.length
  refine ⟨"list", _, slot_list_getitem.lookup, ht.isList.typeIs, ?_⟩
  refine wpAny_getItem_list_slice ht.isList hs pl pu .none (by simp) ?_ (by rw [List.size_toArray] <;> omega)
  rw [zCI, <- hlen]
  refine ⟨.ref s.heap.objs.size, _, I.laid (t' := s.toks) (o := .lst (cutV xs lo hi)) (fun b ob q => Heap.get?_push_of_some _ q) (Nat.le_refl _) ?_, rfl, q _ (I.hok.fresh (Nat.le_refl _))⟩
  exact ⟨Nat.le_trans (ztz xs lo hi) hz, _, 0, (r.drop (HT.sIx xs.length 0 lo)).take (HT.sIx xs.length xs.length hi - HT.sIx xs.length 0 lo), Heap.get?_push_size _ rfl⟩
def zb6 : V -> Bool
  | .non => true
  | .bl _ => true
  | .int _ => true
  | .str _ => true
  | _ => false
def eqV : V -> V -> Bool
  | .non, .non => true
  | .bl a, .bl b => a == b
  | .bl a, .int b => (if a then 1 else 0) == b
  | .int a, .bl b => a == (if b then 1 else 0)
  | .int a, .int b => a == b
  | .str a, .str b => a == b
  | _, _ => false
theorem zph {A : Around} {s : Shared} {y x : V} {u v : Value} (ry : zu y u) (rx : zu x v) (fy : zb6 y = true) (fx : zb6 x = true) : SeqAt.EqAt A s u v (eqV y x) := by
  cases y with
  | non =>
    cases ry
    cases x with
    | non => cases rx; exact SeqAt.EqAt.same _
    | bl b => cases rx; exact SeqAt.EqAt.none_bool b
    | int b => obtain ⟨t, rfl⟩ := rx; exact SeqAt.EqAt.none_int b t
    | str b => obtain ⟨t, rfl⟩ := rx; exact SeqAt.EqAt.none_str b t
    | _ => exact absurd (show false = true from fx) Bool.false_ne_true
  | bl a =>
    cases ry
    cases x with
    | non => cases rx; exact SeqAt.EqAt.bool_none a
    | bl b => cases rx; exact SeqAt.EqAt.bool_bool a b
    | int b => obtain ⟨t, rfl⟩ := rx; exact SeqAt.EqAt.bool_int a b t
    | str b => obtain ⟨t, rfl⟩ := rx; exact SeqAt.EqAt.bool_str a b t
    | _ => exact absurd (show false = true from fx) Bool.false_ne_true
  | int a =>
    obtain ⟨t', rfl⟩ := ry
    cases x with
    | non => cases rx; exact SeqAt.EqAt.int_none a t'
    | bl b => cases rx; exact SeqAt.EqAt.int_bool a t' b
    | int b => obtain ⟨t, rfl⟩ := rx; exact SeqAt.EqAt.int_int a t' b t
    | str b => obtain ⟨t, rfl⟩ := rx; exact SeqAt.EqAt.int_str a t' b t
    | _ => exact absurd (show false = true from fx) Bool.false_ne_true
  | str a =>
    obtain ⟨t', rfl⟩ := ry
    cases x with
    | non => cases rx; exact SeqAt.EqAt.str_none a t'
    | bl b => cases rx; exact SeqAt.EqAt.str_bool a t' b
    | int b => obtain ⟨t, rfl⟩ := rx; exact SeqAt.EqAt.str_int a t' b t
    | str b => obtain ⟨t, rfl⟩ := rx; exact SeqAt.EqAt.str_str a t' b t
    | _ => exact absurd (show false = true from fx) Bool.false_ne_true
  | _ => exact absurd (show false = true from fy) Bool.false_ne_true
def eqU (x : V) (u : Value) : Bool := match u with
  | .none => eqV .non x
  | .bool b => eqV (.bl b) x
  | .int i _ => eqV (.int i) x
  | .str z _ => eqV (.str z) x
  | _ => false
theorem zte {x y : V} {u : Value} (r : zu y u) (f : zb6 y = true) : eqU x u = eqV y x := by
  cases y with
  | non => cases r; rfl
  | bl b => cases r; rfl
  | int i => obtain ⟨t, rfl⟩ := r; rfl
  | str z => obtain ⟨t, rfl⟩ := r; rfl
  | _ => exact absurd (show false = true from f) Bool.false_ne_true
theorem zhP {x : V} : ∀ {xs : List V} {us : List Value}, zy xs us -> xs.all zb6 = true -> us.any (eqU x) = xs.any fun y => eqV y x
  | _, _, .nil, _ => rfl
  | y :: xs, u :: us, .cons r t, f => by
    rw [List.all_cons, Bool.and_eq_true] at f
    rw [List.any_cons, List.any_cons, zte r f.1, zhP t f.2]
theorem zhT {A : Around} {s : Shared} {x : V} {v : Value} (rx : zu x v) (fx : zb6 x = true) : ∀ {xs : List V} {us : List Value}, zy xs us -> xs.all zb6 = true -> ∀ u ∈ us, SeqAt.EqAt A s u v (eqU x u)
  | _, _, .nil, _ => fun u hu => by cases hu
  | y :: xs, u :: us, .cons r t, f => fun u' hu => by
    rw [List.all_cons, Bool.and_eq_true] at f
    rcases List.mem_cons.mp hu with rfl | hu
    . rw [zte r f.1]; exact zph r rx f.1 fx
    . exact zhT rx fx t f.2 u' hu
def inV (x : V) (xs : List V) : Bool := xs.any fun y => eqV y x
def rIn (K : PySem.W.Frag) (neg : Bool) : R2 := fun x y H Q => ∃ p xs, y = .ref p ∧ (SqL K H p xs ∨ SqT K H p xs) ∧ zb6 x = true ∧ xs.all zb6 = true ∧ Q (.bl (if neg then !inV x xs else inV x xs)) H
theorem zCv : OpR X (compareOp .In) (rIn X.K false) := by
  intro pins s σ H x y v u Q I rx ry h
  obtain ⟨p, xs, rfl, hq, fx, fs, q⟩ := h
  cases ry
  rcases hq with hq | hq
  . obtain ⟨its, r, pl, hz⟩ := I.list hq
    refine SeqAt.in_listAt (eqU x) pl.isList (fun w hw => zhT rx fx r fs w (by simpa using hw)) ⟨.bl _, H, I, rfl, ?_⟩
    rw [show its.toArray.any (eqU x) = its.any (eqU x) by simp, zhP r fs]
    exact q
  . obtain ⟨its, r, pl, hz⟩ := I.tuple hq
    refine SeqAt.in_tupleAt (eqU x) pl (fun w hw => zhT rx fx r fs w (by simpa using hw)) ⟨.bl _, H, I, rfl, ?_⟩
    rw [show its.toArray.any (eqU x) = its.any (eqU x) by simp, zhP r fs]
    exact q
theorem zBX : OpR X (compareOp .NotIn) (rIn X.K true) := by
  intro pins s σ H x y v u Q I rx ry h
  obtain ⟨p, xs, rfl, hq, fx, fs, q⟩ := h
  cases ry
  rcases hq with hq | hq
  . obtain ⟨its, r, pl, hz⟩ := I.list hq
    refine SeqAt.notIn_listAt (eqU x) pl.isList (fun w hw => zhT rx fx r fs w (by simpa using hw)) ⟨.bl _, H, I, rfl, ?_⟩
    rw [show its.toArray.any (eqU x) = its.any (eqU x) by simp, zhP r fs]
    exact q
  . obtain ⟨its, r, pl, hz⟩ := I.tuple hq
    refine SeqAt.notIn_tupleAt (eqU x) pl (fun w hw => zhT rx fx r fs w (by simpa using hw)) ⟨.bl _, H, I, rfl, ?_⟩
    rw [show its.toArray.any (eqU x) = its.any (eqU x) by simp, zhP r fs]
    exact q
theorem zCX : zew X (.builtin "len") (fun xs H Q => ∃ p ys, xs = [.ref p] ∧ (SqL X.K H p ys ∨ SqT X.K H p ys) ∧ Q (.int ys.length) H) := by
  intro pins s σ H xs us Q I r h
  obtain ⟨p, ys, rfl, hq, q⟩ := h
  obtain ⟨u, rfl, rx⟩ := zeO r
  cases rx
  have hn := zhX
  rcases hq with hq | hq
  . obtain ⟨its, r', pl, hz⟩ := I.list hq
    have hlen := r'.length
    exact Calls.call_len_list pl.isList (by simp only [List.size_toArray] <;> omega) ⟨.int ys.length, H, I.tok _, ⟨s.toks + 1, by rw [List.size_toArray, hlen]⟩, q⟩
  . obtain ⟨its, r', pl, hz⟩ := I.tuple hq
    have hlen := r'.length
    exact len_tuple pl (by simp only [List.size_toArray] <;> omega) ⟨.int ys.length, H, I.tok _, ⟨s.toks + 1, by rw [List.size_toArray, hlen]⟩, q⟩
theorem zCw : zew X (.type "list") (fun xs H Q => ∃ p ys, xs = [.ref p] ∧ (SqL X.K H p ys ∨ SqT X.K H p ys) ∧ ∀ l, H l = none -> Q (.ref l) (upd H l (.lst ys))) := by
  intro pins s σ H xs us Q I r h
  obtain ⟨p, ys, rfl, hq, q⟩ := h
  obtain ⟨u, rfl, rx⟩ := zeO r
  cases rx
  have fin : ∀ (its : List Value), zy ys its -> ys.length <= sizeLine -> ∀ (h' : Heap) (c' : Nat), (∀ b o', s.heap.get? b = some o' -> h'.get? b = some o') ->
      h'.get? s.heap.objs.size = some { cls := .type "list", dict := none, data := .seq its.toArray c', slots := #[] } -> EP X pins σ Q (.ref s.heap.objs.size) { s with heap := h' } := fun its r' hz h' c' kp e =>
    ⟨.ref s.heap.objs.size, _, I.laid (t' := s.toks) kp (Nat.le_refl _) (show zbn X.prog X.w _ h' _ (.lst ys) from ⟨hz, its, c', r', e⟩), rfl, q _ (I.hok.fresh (Nat.le_refl _))⟩
  rcases hq with hq | hq
  . obtain ⟨its, r', pl, hz⟩ := I.list hq
    have hlen := r'.length
    obtain ⟨o, ho, hc, n, hd⟩ := pl.isList
    exact call_list_seq p (.inl rfl) ho hc hd (fun h' c' kp e => fin its r' hz h' c' kp e) (by simp only [List.size_toArray] <;> omega)
  . obtain ⟨its, r', pl, hz⟩ := I.tuple hq
    have hlen := r'.length
    obtain ⟨o, ho, hc, n, hd⟩ := pl
    exact call_list_seq p (.inr rfl) ho hc hd (fun h' c' kp e => fin its r' hz h' c' kp e) (by simp only [List.size_toArray] <;> omega)
def tyV (K : PySem.W.Frag) (T : String) (x : V) (H : Hp) : Prop := match x with
  | .str _ => T = "str"
  | .int _ => T = "int"
  | .ref p => (T = "list" ∧ ∃ xs, SqL K H p xs) ∨ (T = "tuple" ∧ ∃ o, K.lookup p = some o ∧ o.cls = .type "tuple" ∧ o.dict = none) ∨
      (T = "dict" ∧ ((∃ kvs, H p = some (.dK kvs)) ∨ ∃ kvs, H p = some (.dT kvs))) ∨ (T = "set" ∧ ∃ S n, H p = some (.set S n))
  | _ => False
theorem zi0 {pins : List (Addr × Obj)} {σ : St} {H : Hp} {s : Shared} {T : String} {x : V} {v : Value} (I : Inv X pins σ H s) (r : zu x v) (ty : tyV X.K T x H) :
    s.TypeIs v T ∧ ∀ a, v = .ref a -> ∃ ob, s.heap.get? a = some ob ∧ ob.dict = none := by
  cases x with
  | str z =>
    obtain ⟨t, rfl⟩ := r
    cases (show T = "str" from ty)
    exact ⟨typeIs_str s z t, fun _ e => nomatch e⟩
  | int i =>
    obtain ⟨t, rfl⟩ := r
    cases (show T = "int" from ty)
    exact ⟨typeIs_int s i t, fun _ e => nomatch e⟩
  | ref p =>
    cases r
    rcases ty with ⟨rfl, xs, hq⟩ | ⟨rfl, o, hk, hc, hd⟩ | ⟨rfl, hk⟩ | ⟨rfl, S, n, hk⟩
    . obtain ⟨its, _, pl, _⟩ := I.list hq
      refine ⟨pl.isList.typeIs, fun a e => ?_⟩
      cases e
      obtain ⟨o, n, e, c, hd, _⟩ := pl
      exact ⟨o, e, hd⟩
    . refine ⟨⟨o, I.kIn p o hk, hc⟩, fun a e => ?_⟩
      cases e
      exact ⟨o, I.kIn _ o hk, hd⟩
    . have z : ∃ o, s.heap.get? p = some o ∧ o.ExactDict := by
        rcases hk with ⟨kvs, hk⟩ | ⟨kvs, hk⟩
        . obtain ⟨_, _, _, _, o, _, _, e, ex, _⟩ := I.hok p _ hk
          exact ⟨o, e, ex⟩
        . obtain ⟨_, _, _, _, o, _, _, e, ex, _⟩ := I.hok p _ hk
          exact ⟨o, e, ex⟩
      obtain ⟨o, e, ex⟩ := z
      refine ⟨⟨o, e, ex.1⟩, fun a e2 => ?_⟩
      cases e2
      exact ⟨o, e, ex.2.1⟩
    . obtain ⟨o, _, _, _, e, ex, _⟩ := I.hok p _ hk
      refine ⟨⟨o, e, ex.1⟩, fun a e2 => ?_⟩
      cases e2
      exact ⟨o, e, ex.2.1⟩
  | _ => exact False.elim ty
def zBC (K : PySem.W.Frag) (T : String) (r : V -> List V -> Hp -> VK -> Prop) (to : TE) : TE := fun σ H Q => to σ H fun x H1 => tyV K T x H1 ∧ r x [] H1 Q
def tBM (K : PySem.W.Frag) (T : String) (r : V -> List V -> Hp -> VK -> Prop) (to : TE) (t : TA) : TE := fun σ H Q => to σ H fun x H1 => tyV K T x H1 ∧ t σ H1 fun xs H2 => r x xs H2 Q
variable {o e : Expr} {es : List Expr} {to : TE} {t : TA} {name : Str} {apos cpos : Pos} {T id : String} {r : V -> List V -> Hp -> VK -> Prop}
theorem zsl (pa : PlainAttrs T) (slot : Slot T name id) (hty : typeOf (.builtin id) = pure (.type "method_descriptor")) (hm : MtR X id r) (ho : PE X o to)
    (hbase : attributeBase o name X.env (eval o X.env) = eval o X.env := by rfl) (hline : (apos.endLine == cpos.line) = true := by rfl) : PE X (.Call (.Attribute o name apos) [] [] cpos) (zBC X.K T r to) := by
  intro pins s σ H Q I h
  refine wpAny_Call_method0_late hbase hline (thn (ho pins s σ H _ I h) fun v s1 ⟨x, H1, I1, r1, ty, q1⟩ => ?_)
  obtain ⟨h1, h2⟩ := zi0 I1 r1 ty
  exact ⟨T, id, pa, slot, hty, h1, h2, Calls.callWith_builtin rfl (PySem.evalArgs_none (hm pins s1 σ H1 x [] v [] Q I1 r1 .nil q1))⟩
theorem zCM (pa : PlainAttrs T) (slot : Slot T name id) (hty : typeOf (.builtin id) = pure (.type "method_descriptor")) (hm : MtR X id r) (ho : PE X o to) (ha : PA X (e :: es) t)
    (hbase : attributeBase o name X.env (eval o X.env) = eval o X.env := by rfl)
    (hfew : ((backTo cpos (starEach (e :: es) X.env)).all (fun x => !x.1) && (backToKw cpos (keywordEach [] X.env)).all (fun x => x.1.isSome)
      && decide ((e :: es).length + ([] : List Keyword).length + (if ([] : List Keyword).isEmpty then 0 else 1) < 30)) = true := by rfl)
    (hline : (apos.endLine == cpos.line) = true := by rfl) (hs : starEach (e :: es) X.env = (false, eval e X.env) :: starEach es X.env := by rfl) (hplain : (backTo cpos (starEach es X.env)).any (·.1) = false := by rfl) :
    PE X (.Call (.Attribute o name apos) (e :: es) [] cpos) (tBM X.K T r to t) := by
  intro pins s σ H Q I h
  refine wpAny_Call_method_late hbase hfew hline rfl (thn (ho pins s σ H _ I h) fun v s1 ⟨x, H1, I1, r1, ty, q1⟩ => ?_)
  obtain ⟨h1, h2⟩ := zi0 I1 r1 ty
  refine ⟨T, id, pa, slot, hty, h1, h2, ?_⟩
  have hA := ha cpos pins s1 σ H1 _ I1 q1
  rw [hs] at hA ⊢
  refine Calls.callWith_builtin (by show (false || (backTo cpos (starEach es X.env)).any (·.1)) = false; rw [hplain] <;> rfl) (Calls.evalArgs_plain ?_)
  exact thn hA fun us s2 ⟨vs, H2, I2, r2, q2⟩ => hm pins s2 σ H2 x vs v us Q I2 r1 r2 q2
end
end L2
namespace L2
open PySem PySem.Spec PyProof.Rows
def MtM (X : Cx) (id : String) (r : V -> List V -> Hp -> VK -> Prop) : Prop :=
  ∀ (pins : List (Addr × Obj)) (s : Shared) (σ : St) (H : Hp) (x : V) (xs : List V) (v : Value) (us : List Value) (Q : VK), Inv X pins σ H s -> zu x v -> zy xs us -> r x xs H Q ->
    wpAny (model X.prog X.w) X.A (call (.builtin id) (v :: us)) (EP X pins σ Q) X.xe s
theorem zy.one : ∀ {x : V} {us : List Value}, zy [x] us -> ∃ u, us = [u] ∧ zu x u
  | _, _, .cons r .nil => ⟨_, rfl, r⟩
theorem zy.zero : ∀ {us : List Value}, zy [] us -> us = []
  | _, .nil => rfl
theorem zy.reverse {xs : List V} {us : List Value} (h : zy xs us) : zy xs.reverse us.reverse := by
  induction h with
  | nil => exact .nil
  | cons r t ih => rw [List.reverse_cons, List.reverse_cons]; exact zy.append ih (.cons r .nil)
theorem zy.rep {xs : List V} {us : List Value} (h : zy xs us) : ∀ k : Nat, zy (List.replicate k xs).flatten (List.replicate k us).flatten
  | 0 => .nil
  | k + 1 => by
    rw [List.replicate_succ, List.replicate_succ, List.flatten_cons, List.flatten_cons]
    exact zy.append h (zy.rep h k)
theorem ztF (its : List Value) : ∀ (k : Nat) (acc : List Value),
    List.foldl (fun x1 x2 => x1 ++ x2) acc.toArray (List.replicate k its.toArray) = (acc ++ (List.replicate k its).flatten).toArray
  | 0, acc => by simp
  | k + 1, acc => by
    have e : acc.toArray ++ its.toArray = (acc ++ its).toArray := by simp
    have e2 : (acc ++ its) ++ (List.replicate k its).flatten = acc ++ (List.replicate (k + 1) its).flatten := by
      rw [List.replicate_succ, List.flatten_cons, List.append_assoc]
    rw [<- e2, <- ztF its k (acc ++ its), <- e, List.replicate_succ, List.foldl_cons]
section
variable {X : Cx} {pins : List (Addr × Obj)} {σ : St} {H : Hp} {s : Shared} {l b : Addr} {xs ys zs : List V}
theorem Inv.lset {its its' : List Value} {n : Nat} {f : Array Value -> Array Value} {t' : Nat} (I : Inv X pins σ H s) (hH : H l = some (.lst xs))
    (e : s.heap.get? l = some { cls := .type "list", data := .seq its.toArray n }) (hf : f its.toArray = its'.toArray) (hv : zy ys its') (hz : ys.length <= sizeLine) :
    Inv X pins σ (upd H l (.lst ys)) { s with heap := s.heap.update l (Obj.mapSeq f), toks := t' } := by
  have q := PySem.IsL.update e f
  rw [hf] at q
  refine I.write (x := l) (e := l) (by rw [hH]; exact trivial) (.inl rfl) (fun b' u hb hu => (Heap.get?_update_other s.heap (Obj.mapSeq f) (Ne.symm hb)).trans hu) ⟨_, q⟩ ?_
  exact ⟨hz, its', _, hv, q⟩
theorem Inv.lnew {its : List Value} {t' : Nat} (I : Inv X pins σ H s) (hv : zy ys its) (hz : ys.length <= sizeLine) :
    Inv X pins σ (upd H s.heap.objs.size (.lst ys)) { s with heap := s.heap.push { cls := .type "list", data := .seq its.toArray }, toks := t' } :=
  I.laid (fun _ _ q => Heap.get?_push_of_some _ q) (Nat.le_refl _) ⟨hz, its, 0, hv, Heap.get?_push_size _ rfl⟩
theorem Inv.fresh (I : Inv X pins σ H s) : H s.heap.objs.size = none := I.hok.fresh (Nat.le_refl _)
theorem Inv.lstM (I : Inv X pins σ H s) (hH : H l = some (.lst xs)) : xs.length <= sizeLine ∧ ∃ (its : List Value) (n : Nat), zy xs its ∧ xs.length = its.length ∧ s.heap.get? l = some { cls := .type "list", data := .seq its.toArray n } := by
  obtain ⟨z, its, n, r, e⟩ := I.hok l _ hH
  exact ⟨z, its, n, r, r.length, e⟩
theorem zBZ {n : Nat} (h : n <= sizeLine) : Builtin.List.listTooLong n = false := by
  unfold Builtin.List.listTooLong
  exact decide_eq_false (by omega)
end
section
variable {X : Cx}
def zE5 : V -> List V -> Hp -> VK -> Prop := fun x vs H Q => ∃ l xs y, x = .ref l ∧ vs = [y] ∧ H l = some (.lst xs) ∧ xs.length < sizeLine ∧ Q .non (upd H l (.lst (xs ++ [y])))
theorem ztG : MtM X "list.append" zE5 := by
  intro pins s σ H x vs v us Q I rx rv h
  obtain ⟨l, xs, y, rfl, rfl, hH, hz, q⟩ := h
  cases rx
  obtain ⟨u, rfl, ru⟩ := rv.one
  obtain ⟨z, its, n, r, hl, e⟩ := I.lstM hH
  refine call_meets F.slot_list_append ⟨_, e, rfl⟩ F.entry_list_append (F.args_list_append_2 _ _) (PySem.list_append l its.toArray n u (by rw [List.size_toArray]; omega)) ⟨e, ?_⟩
  refine ⟨.non, _, I.lset (its' := its ++ [u]) hH e (by simp) (r.append (.cons ru .nil)) ?_, rfl, q⟩
  rw [List.length_append, List.length_singleton]
  omega
def zEs : V -> List V -> Hp -> VK -> Prop := fun x vs H Q => ∃ l xs, x = .ref l ∧ vs = [] ∧ H l = some (.lst xs) ∧ Q .non (upd H l (.lst xs.reverse))
theorem zFf : MtM X "list.reverse" zEs := by
  intro pins s σ H x vs v us Q I rx rv h
  obtain ⟨l, xs, rfl, rfl, hH, q⟩ := h
  cases rx
  have hus := rv.zero
  subst hus
  obtain ⟨z, its, n, r, hl, e⟩ := I.lstM hH
  refine call_meets F.slot_list_reverse ⟨_, e, rfl⟩ F.entry_list_reverse (F.args_list_reverse_1 _) (AutoSeq1.list_reverse_list_0 l its.toArray n (by rw [List.size_toArray]; omega)) ⟨e, ?_⟩
  refine ⟨.non, _, I.lset (its' := its.reverse) hH e (by simp) r.reverse ?_, rfl, q⟩
  rw [List.length_reverse]
  omega
def zAs : V -> List V -> Hp -> VK -> Prop := fun x vs H Q => ∃ l xs, x = .ref l ∧ vs = [] ∧ H l = some (.lst xs) ∧ Q .non (upd H l (.lst []))
theorem zCj : MtM X "list.clear" zAs := by
  intro pins s σ H x vs v us Q I rx rv h
  obtain ⟨l, xs, rfl, rfl, hH, q⟩ := h
  cases rx
  have hus := rv.zero
  subst hus
  obtain ⟨z, its, n, r, hl, e⟩ := I.lstM hH
  refine call_meets F.slot_list_clear ⟨_, e, rfl⟩ F.entry_list_clear (F.args_list_clear_1 _) (AutoSeq1.list_clear_list_0 l its.toArray n (by rw [List.size_toArray]; omega)) ⟨e, ?_⟩
  exact ⟨.non, _, I.lset (its' := []) (ys := []) hH e rfl .nil (Nat.zero_le _), rfl, q⟩
def zDH : R2 := fun x y H Q => ∃ l b xs zs, x = .ref l ∧ y = .ref b ∧ H l = some (.lst xs) ∧ H b = some (.lst zs) ∧ xs.length + zs.length <= sizeLine ∧ ∀ p, H p = none -> Q (.ref p) (upd H p (.lst (xs ++ zs)))
theorem zDs : OpR X (binaryOp .Add) zDH := by
  intro pins s σ H x y v u Q I rx ry h
  obtain ⟨l, b, xs, zs, rfl, rfl, hH, hB, hz, q⟩ := h
  cases rx
  cases ry
  obtain ⟨z, its, n, r, hl, e⟩ := I.lstM hH
  obtain ⟨z2, its2, n2, r2, hl2, e2⟩ := I.lstM hB
  refine PySem.P.add_list e e2 ?_ (by rw [List.size_toArray, List.size_toArray]; omega)
  have ea : its.toArray ++ its2.toArray = (its ++ its2).toArray := by simp
  rw [ea]
  exact ⟨.ref _, _, I.lnew (t' := s.toks) (r.append r2) (by rw [List.length_append]; omega), rfl, q _ I.fresh⟩
def zDT : R2 := fun x y H Q => ∃ l k xs, x = .ref l ∧ y = .int k ∧ H l = some (.lst xs) ∧ -(2 ^ 63) <= k ∧ k < 2 ^ 63 ∧ xs.length * k.toNat <= sizeLine ∧
  ∀ p, H p = none -> Q (.ref p) (upd H p (.lst (List.replicate k.toNat xs).flatten))
theorem zCp {α : Type} (xs : List α) (k : Nat) : (List.replicate k xs).flatten.length = k * xs.length := by
  induction k with
  | zero => simp
  | succ k ih => rw [List.replicate_succ, List.flatten_cons, List.length_append, ih, Nat.succ_mul, Nat.add_comm]
theorem zAO : OpR X (binaryOp .Mult) zDT := by
  intro pins s σ H x y v u Q I rx ry h
  obtain ⟨l, k, xs, rfl, rfl, hH, h1, h2, hz, q⟩ := h
  cases rx
  obtain ⟨t, rfl⟩ := ry
  obtain ⟨z, its, n, r, hl, e⟩ := I.lstM hH
  have hlen : its.toArray.size * k.toNat <= sizeLine := by rw [List.size_toArray, <- hl]; exact hz
  have hcap : ¬ its.toArray.size * k.toNat > (2 ^ 63 - 1) / 8 := by
    have : (sizeLine : Nat) <= (2 ^ 63 - 1) / 8 := by decide
    omega
  have hfit : ¬ (!Builtin.List.listFitsIndex k) = true := by
    rw [fitsIndex_both h1 h2]
    exact Bool.false_ne_true
  have hlong : ¬ Builtin.List.listTooLong (its.toArray.size * k.toNat) = true := by
    rw [zBZ hlen]
    exact Bool.false_ne_true
  have hnew : List.foldl (fun x1 x2 => x1 ++ x2) #[] (List.replicate (if its.toArray.isEmpty = true then 0 else k.toNat) its.toArray) = (List.replicate k.toNat its).flatten.toArray := by
    have f0 : ∀ m : Nat, List.foldl (fun x1 x2 => x1 ++ x2) #[] (List.replicate m its.toArray) = (List.replicate m its).flatten.toArray := fun m => by
      have := ztF its m []
      rw [List.nil_append] at this
      exact this
    rw [f0]
    cases its with
    | nil => simp
    | cons a r' => rw [if_neg (by simp)]
  refine wpAny_binaryOp_repeat_ref (T := "list") (U := "int") (by decide) ⟨_, e, rfl⟩ (fun s' => typeIs_int s' k t) noFill_list_mul F.fills_int_mul F.slot_int_rmul repeat_list F.slot_int_index.lookup
    (call_meets F.slot_int_rmul (typeIs_int s k t) F.entry_int_rmul (F.args_int_rmul_2 _ _) (int___rmul___int_list k t l its.toArray n)
      ⟨e, rfl, ⟨_, e, rfl⟩, call_meets F.slot_list_mul ⟨_, e, rfl⟩ F.entry_list_mul (F.args_list_mul_2 _ _) (AutoListH.list___mul___list_int_3 l its.toArray n k t hfit hcap hlong) ⟨e, ?_⟩⟩)
  rw [hnew]
  exact ⟨.ref _, _, I.lnew (t' := s.toks) (r.rep k.toNat) (by rw [zCp, Nat.mul_comm]; exact hz), rfl, q _ I.fresh⟩
end
section
variable {prog : Program} {w : World} {A : Around} {E : Value -> Shared -> Prop} {s : Shared}
end
section
variable {X : Cx}
end
end L2
namespace Att
open PySem PySem.W PySem.Calls PyProof.Rows
theorem zBR {P : Params} {h : Heap} : ∀ (ns : List Int) (vs : List Value), WellAll P h vs (ns.map WData.int) -> IntsAre vs ns := by
  intro ns
  induction ns with
  | nil =>
    intro vs w
    rw [List.map_nil] at w
    cases w
    exact .nil
  | cons n ns ih =>
    intro vs w
    rw [List.map_cons] at w
    cases w with
    | cons a b =>
      cases a
      exact .cons _ _ (ih _ b)
theorem zBH {l : OpenLaw} {n : Nat} (hn : l.most = some n) {P : Params} {h : Heap} {args : List WData} {vals : List Value}
    (hpre : l.row.toRowW.claim.pre args = true) (hwl : WellAll P h vals args) :
    ∃ a vs ns, vals = [Value.ref a] ∧ args = [WData.list (ns.map WData.int)] ∧ h.get? a = some { cls := .type "list", data := .seq vs.toArray } ∧ IntsAre vs ns ∧ ns.length <= n := by
  have hsh : WShape.hasAll [] args [.list .int] = true := (pre_splitW hpre).1
  have hc : l.pre.holds [] { args := args } = true := (pre_splitW hpre).2
  obtain ⟨d, r, rfl, h1, h2⟩ := hasAllW_cons hsh
  obtain rfl := hasAllW_nil h2
  obtain ⟨xs, rfl, h3⟩ := hasW_list h1
  obtain ⟨ns, rfl⟩ := items_int h3
  have hlen : ns.length <= n := by
    unfold OpenLaw.pre at hc
    have h4 : (WTm.not (.lt (.lit (.int (n : Int))) (.len (.arg 0)))).holds [] { args := [.list (ns.map .int)] } = true := by
      have h4 := (holds_andW hc).1
      rw [hn] at h4
      exact h4
    have h5 := condW_of h4 (w_not (w_lt w_lit (w_len_list (w_arg rfl))))
    rw [List.length_map] at h5
    refine Nat.le_of_not_lt fun q => ?_
    have q' : (n : Int) < ((ns.length : Nat) : Int) := by omega
    first
      | (rw [decide_eq_true q'] at h5; exact absurd h5 (by decide))
      | (simp at h5; omega)
  cases hwl with
  | cons w1 w2 =>
    cases w2
    cases w1 with
    | list ho hall => exact ⟨_, _, ns, rfl, rfl, ho, zBR ns _ hall, hlen⟩
theorem zE3 (l : OpenLaw) (args : List WData) : l.row.toRowW.claim.post args (.bool true) args = true :=
  postW_of (r := l.row.toRowW) (X := (true == true))
    (show WShape.has [] (.bool true) .bool = true by first | rfl | decide | simp [WShape.has, WShape.arms, WShape.armsAll])
    (show (WTm.eq .res (.lit (.bool true))).value [] { args := args, res := some (.bool true), after := args } = some (.bool (true == true)) from w_eq_bool (w_res rfl) w_lit) rfl
theorem attach_call {l : OpenLaw} {n : Nat} {q : Program} {loose : List Str} {XP : (Str -> Option Value) -> Heap -> Prop} {YP : World -> Heap -> Prop} {d : DefRec}
    (hn : l.most = some n) (hdf : d.params.defaults = [])
    (call : ∀ (w : World) (s₀ s₁ : Shared) (mg mb : Str -> Option Value) (fa : Addr) (o : Obj) (pm cd doc : Value) (a : Addr) (vs : List Value) (ns : List Int),
      Ground q loose [] XP w s₀ mg mb s₁.heap -> YP w s₁.heap ->
      s₁.heap.get? fa = some o -> o.data = .func (docDef d.name d.params d.body d.scope pm cd doc) -> s₁.heap.CodeRec cd d.name -> mg d.name = some (.ref fa) ->
      s₁.heap.get? a = some { cls := .type "list", data := .seq vs.toArray } -> IntsAre vs ns -> ns.length <= n -> s₁.gens = #[] ->
      codeAny (model l.prog w) callerA (.call (.ref fa) ⟨[.ref a], []⟩) (fun r s' => r = .ok (.ret (.bool true)) ∧ OldK s₁.heap s'.heap ∧ s'.os = s₁.os ∧ AllBare s'.gens) s₁) :
    WalkO q loose XP YP l.row.toRowW d [] (fun f vs => PySem.call f vs) := by
  intro w s₀ s₁ mg mb G Y fa o pm cd doc dV kV ho hd hcd hD hmg hg args vals as hpre hlay hrd hwl hlo
  obtain rfl : dV = .none := Dflts.none hD hdf
  obtain rfl : kV = .none := Dflts.noKw hD
  obtain ⟨a, vs, ns, rfl, rfl, hobj, hints, hlen⟩ := zBH hn hpre hwl
  refine enter_call (codeAny_mono (call w s₀ s₁ mg mb fa o pm cd doc a vs ns G Y ho (fd_plain hd) hcd hmg hobj hints hlen hg) fun r s' hq => ?_)
  obtain ⟨rfl, h2, h3, h4⟩ := hq
  exact ⟨.inl ⟨.bool true, .bool true, [], rfl, fun _ => rfl, .bool true, zE3 l _, fun _ => ⟨List.Pairwise.nil, fun _ hm => (nomatch hm)⟩⟩, h2, h3, h4⟩
section
variable {prog : Program} {w : World} {A : Around} {E : Value -> Shared -> Prop} {s : Shared} {K : Frag}
theorem zF1 {R : Result -> Shared -> Prop} {C fI : Addr} {rest : List Value} {kw : List (Str × Value)}
    (X : K.In s.heap) (hm : makesIn K C = true) (hi : findIn K (.ref C) "__init__" = some (some (.ref fI))) (hf : isFn K (.ref fI) = true)
    (h : codeAny (model prog w) (A.under (.builtin "type.__call__" ⟨.ref C :: rest, kw⟩)) (.call (.ref fI) ⟨.ref (s.heap.objs.size + 1) :: rest, kw⟩) (InitBack (s.heap.objs.size + 1) R)
      { s with heap := (s.heap.push emptyDict).push (instObj C s.heap.objs.size) }) : codeAny (model prog w) A (.call (.ref C) ⟨rest, kw⟩) R s := by
  obtain ⟨hh, g, d, t, os⟩ := s
  exact make_core (makes_of X hm) (looks_findIn X hi) (fun self => bind_fn X self (beq_iff_eq.mp hf)) (.inl rfl) h
theorem zGh {x C : Addr} {ox : Obj} {es : List DictEntry} {n : Nat} {name : Str} {expr : Bool} {v : Value} {Q : Value -> Shared -> Prop}
    (X : K.In s.heap) (I : PySem.W.InstAt s.heap x ox C (some (dictOf es n))) (hg : plainGet K C name = true) (hh : hasDictIn K C = true) (ha : findIn K (.ref C) name = some none)
    (hl : getL name es = some (some v)) (hv : handedIn v = true) (h : Q v { s with toks := s.toks + 1 }) : wpAny (model prog w) A (getAttr (.ref x) name expr) Q E s :=
  get_value X I (plainGet_of hg).1 (findObj_own hh ha rfl hl) hv h
end
end Att
namespace L2
open PySem PySem.Spec PyProof.Rows
theorem zpn : ∀ {vs : List Value} {ns : List Int}, IntsAre vs ns -> zy (ns.map V.int) vs
  | _, _, .nil => .nil
  | _, _, .cons n t h => .cons ⟨t, rfl⟩ (zpn h)
def zh3 (H : Hp) : Prop := ∀ b, H b = none ∨ ∃ o xs, H b = some (.frz o (.lst xs))
theorem zB3 {P : Program} {w : World} {K : PySem.W.Frag} {mg mb : Str -> Option Value} {CX : CXT} {k : Nat} {fa a : Addr} {fd : FuncData} {x : Str} {sp : Sp} {s₁ : Shared} {vs : List Value} {ns : List Int}
    (KX : K.In s₁.heap) (hns : s₁.heap.Ns mainGlobals mg) (hb : s₁.heap.Ns builtinsNs mb) (hbb : ∀ x : Str, x ≠ "__name__" -> mb x = bootBuiltins x) (hlim : s₁.heap.NoLimit) (hg : s₁.gens = #[])
    (ha : s₁.heap.get? a = some { cls := .type "list", data := .seq vs.toArray }) (hi : IntsAre vs ns) (hl : ns.length <= sizeLine) (hr : zR k callerA)
    (F : ∀ base : Heap, K.In base -> base.Ns mainGlobals mg -> zI P w K mg base CX k fa fd [x] sp) (hbind : ∀ (s : Shared) (u : Value), BindsTo s fd ⟨[u], []⟩ [(x, u)])
    (hsp : ∀ H : Hp, zh3 H -> SqL K H a (ns.map V.int) -> sp [.ref a] H (fun v _ => v = .bl true) fun _ _ _ => False)
    (hCX : ∀ H e s', CX [] H s₁ (fun _ _ _ => False) e s' -> False) :
    codeAny (model P w) callerA (.call (.ref fa) ⟨[.ref a], []⟩) (fun r s' => r = .ok (.ret (.bool true)) ∧ OldK s₁.heap s'.heap ∧ s'.os = s₁.os ∧ AllBare s'.gens) s₁ := by
  have rv := zpn hi
  have lenV := hi.length
  have core : ∀ H : Hp, zh3 H -> SqL K H a (ns.map V.int) -> HOk P w H s₁.heap -> (∀ b, H b ≠ none -> b = a) -> (H a ≠ none -> K.lookup a = none) ->
      codeAny (model P w) callerA (.call (.ref fa) ⟨[.ref a], []⟩) (fun r s' => r = .ok (.ret (.bool true)) ∧ OldK s₁.heap s'.heap ∧ s'.os = s₁.os ∧ AllBare s'.gens) s₁ := by
    intro H hO hS hok hA hK
    have base_of : ∀ {b : Addr} {o : Obj}, s₁.heap.get? b = some o -> H b = none -> (zfr s₁.heap H).get? b = some o := fun e n => zCL e n
    have noA : ∀ {b : Addr} {o : Obj} {es : Array DictEntry} {ep : Nat}, s₁.heap.get? b = some o -> o.data = .dict es ep -> H b = none := fun {b o es ep} e d => by
      cases q : H b with
      | none => rfl
      | some u =>
        have e' : b = a := hA b (by rw [q]; simp)
        subst e'
        rw [ha] at e; cases e
        have d' : Data.seq vs.toArray _ = Data.dict es ep := d
        cases d'
    have nsK : ∀ {b : Addr} {m : Str -> Option Value}, s₁.heap.Ns b m -> (zfr s₁.heap H).Ns b m := fun {b m} ⟨o, es, ep, e, d, r⟩ => ⟨o, es, ep, base_of e (noA e d), d, r⟩
    have hKb : K.In (zfr s₁.heap H) := fun b o e => base_of (KX b o e) (by
      cases q : H b with
      | none => rfl
      | some u =>
        have e' : b = a := hA b (by rw [q]; simp)
        subst e'
        rw [hK (by rw [q]; simp)] at e; cases e)
    have hM : Mod K mg (zfr s₁.heap H) := ⟨hKb, nsK hns, ⟨mb, nsK hb, hbb⟩, let ⟨mc, h1, h2⟩ := hlim; ⟨mc, nsK h1, h2⟩⟩
    have e0 : zgi P w K mg (zfr s₁.heap H) callerA [] s₁ H := ⟨rfl, hM, fun b o e => zAu e, Nat.le_of_eq (zBg _ _), trivial, fun b hb => absurd (show b ∈ ([] : List Addr) from hb) (by simp), hok, .of_eq hg⟩
    refine codeAny_mono ((F _ hKb (nsK hns)).run callerA [] s₁ H ⟨[.ref a], []⟩ [.ref a] [.ref a] _ _ hr e0 (hbind s₁ (.ref a)) (.cons rfl .nil) (hsp H hO hS)) fun r s' h => ?_
    cases r with
    | error e => exact (hCX H e s' h).elim
    | ok fl =>
      cases fl with
      | next => exact False.elim h
      | brk => exact False.elim h
      | cont => exact False.elim h
      | ret u =>
        obtain ⟨v, H', os, bare, un, hok', r', q⟩ := h
        have q' : v = .bl true := q
        subst q'
        obtain rfl : u = Value.bool true := r'
        refine ⟨rfl, OldK.of_keep fun b o e => ?_, os, bare⟩
        cases q : H b with
        | none => exact un.keep b o e q (by intro z; exact absurd (show b ∈ ([] : List Addr) from z) (by simp)) (by simp)
        | some u =>
          rcases hO b with z | ⟨ob, xs, z⟩
          . rw [q] at z; cases z
          . have z2 := un.frzs b ob _ z
            obtain ⟨e1, _⟩ := hok b _ z
            obtain ⟨e2, _⟩ := hok' b _ z2
            rw [e] at e1; cases e1
            exact e2
  cases hk : K.lookup a with
  | some o =>
    have e := KX a o hk
    rw [ha] at e
    cases e
    refine core (fun _ => none) (fun _ => .inl rfl) (.inr ⟨_, vs.toArray, _, hk, rfl, rfl, rfl, by rw [List.size_toArray, lenV]; exact hl, by simpa using rv⟩) (fun b u z => by have z' : (none : Option HO) = some u := z; cases z') (fun b z => absurd rfl z) fun z => absurd rfl z
  | none =>
    refine core (fun b => if b = a then some (.frz { cls := .type "list", data := .seq vs.toArray } (.lst (ns.map V.int))) else none) (fun b => ?_) (.inl (.inr ⟨{ cls := .type "list", data := .seq vs.toArray }, if_pos rfl⟩)) (fun b u z => ?_) (fun b z => ?_) fun _ => hk
    . by_cases hb : b = a
      . exact .inr ⟨_, _, if_pos hb⟩
      . exact .inl (if_neg hb)
    . by_cases hb : b = a
      . have z' := (if_pos hb).symm.trans z
        cases z'
        subst hb
        exact ⟨ha, by rw [List.length_map]; exact hl, vs, _, rv, ha⟩
      . have z' := (if_neg hb).symm.trans z
        cases z'
    . by_cases hb : b = a
      . exact hb
      . exact absurd (if_neg hb) z
end L2
namespace L2
open PySem PySem.Spec PyProof.Rows
theorem walk_of {l : PySem.W.OpenLaw} {n k : Nat} {q : Program} {loose : List Str} {XP : (Str -> Option Value) -> Heap -> Prop} {YP : World -> Heap -> Prop} {d : DefRec} {K : Params -> PySem.W.Frag} {CX : World -> CXT} {sp : World -> Sp} {x : Str}
    (hn : l.most = some n) (hn2 : n <= sizeLine) (hdf : d.params.defaults = []) (hr : zR k callerA)
    (hY : ∀ (w : World) (h : Heap), YP w h -> (K w.params).In h)
    (F : ∀ (w : World) (mg : Str -> Option Value) (fa : Addr) (h : Heap), (K w.params).In h -> h.Ns mainGlobals mg -> mg d.name = some (.ref fa) ->
      ∃ fd : FuncData, (∀ (s : Shared) (u : Value), BindsTo s fd ⟨[u], []⟩ [(x, u)]) ∧
        ∀ base : Heap, (K w.params).In base -> base.Ns mainGlobals mg -> zI l.prog w (K w.params) mg base (CX w) k fa fd [x] (sp w))
    (hsp : ∀ (w : World) (H : Hp) (a : Addr) (ns : List Int), ns.length <= n -> zh3 H -> SqL (K w.params) H a (ns.map V.int) -> sp w [.ref a] H (fun v _ => v = .bl true) fun _ _ _ => False)
    (hCX : ∀ (w : World) (H : Hp) (s : Shared) (e : Value) (s' : Shared), CX w [] H s (fun _ _ _ => False) e s' -> False) :
    PySem.W.WalkO q loose XP YP l.row.toRowW d [] (fun f vs => PySem.call f vs) := by
  refine Att.attach_call hn hdf fun w s₀ s₁ mg mb fa o pm cd doc a vs ns G Y ho hd hcd hmg hobj hints hlen hg => ?_
  have KX := hY w _ Y
  obtain ⟨fd, hb, hF⟩ := F w mg fa _ KX G.T.g hmg
  exact zB3 KX G.T.g G.T.b G.T.builtins G.T.nolimit hg hobj hints (Nat.le_trans hlen hn2) hr hF hb (fun H hO hS => hsp w H a ns hlen hO hS) fun H e s' => hCX w H s₁ e s'
end L2
namespace L2
open PySem PySem.Spec PyProof.Rows
def zg8 (s : Stmt) (j : Nat) : Stmt := match s with
  | .ClassDef _ _ _ body _ _ _ _ _ _ _ => body.getD j (.Pass ⟨0, 0, 0, 0⟩)
  | _ => .Pass ⟨0, 0, 0, 0⟩
def zX (s : Stmt) : Arguments := match s with
  | .FunctionDef _ a _ _ _ _ _ _ _ _ => a
  | _ => { posonlyargs := [], args := [], vararg := none, kwonlyargs := [], kw_defaults := [], kwarg := none, defaults := [] }
def zT (s : Stmt) : List Stmt := match s with
  | .FunctionDef _ _ b _ _ _ _ _ _ _ => b
  | _ => []
def zo (s : Stmt) : Scope := match s with
  | .FunctionDef _ _ _ _ _ _ sc _ _ _ => sc
  | _ => { kind := .function, names := [], isGenerator := false, isCoroutine := false }
abbrev CX0 : CXT := fun _ _ _ _ _ _ => False
abbrev E0 : XK := fun _ _ _ => False
theorem zi8 {X : Cx} : zgn CX0 X E0 := fun _ _ _ _ _ _ _ h => h.elim
structure Fun (K : PySem.W.Frag) (x qual : Str) (st : Stmt) (f : Addr) (fd : FuncData) : Prop where
  ex : ∃ (oc : Value) (od : Option Addr) (kV doc pm : Value) (an : Option Addr) (cdv ct : Value) (osl : Array (Option Value)),
    fd = PySem.W.fnOf x qual (zX st) (zT st) (zo st) .none kV doc pm an cdv ct ∧ K.lookup f = some ⟨oc, od, .func fd, osl⟩ ∧ PySem.W.codeIn K cdv qual = true
  kp : PySem.W.keepIn K (.ref f) = true
section
variable {P : Program} {w : World} {K : PySem.W.Frag} {mg : Str -> Option Value} {base : Heap}
theorem Fun.ok {x qual : Str} {st : Stmt} {f : Addr} {fd : FuncData} {N ps : List Str} {k : Nat} {sp : Sp} (F : Fun K x qual st f fd) (S : zZ N ps (zo st)) (len : ∀ vs H Q E, sp vs H Q E -> vs.length = ps.length)
    (hbody : ∀ (cdv : Value) (A : Around) (outer : List Env) (s : Shared) (H : Hp) (vs : List V) (Q : VK) (E : XK), zR k (A.deeper (envOfC qual (zo st) s.heap.objs.size f cdv)) -> sp vs H Q E ->
      ∃ t, PSs (zgk CX0 P w K mg base N qual (zo st) f cdv A outer s H E).nox (zT st) t ∧ t { nx := fun _ H' => Q .non H', rt := Q } (start N vs) H) : zI P w K mg base CX0 (k + 1) f fd ps sp := by
  obtain ⟨oc, od, kV, doc, pm, an, cdv, ct, osl, rfl, lk, hcd⟩ := F.ex
  refine zA6 lk hcd S len fun A outer s H vs Q E hr hsp => ?_
  obtain ⟨t, h, q⟩ := hbody cdv A outer s H vs Q E hr hsp
  exact ⟨t, h.nox, q⟩
theorem Fun.binds {x qual : Str} {st : Stmt} {f : Addr} {fd : FuncData} {ps : List Str} (F : Fun K x qual st f fd)
    (h : ∀ (kV doc pm : Value) (an : Option Addr) (cdv ct : Value) (us : List Value), us.length = ps.length -> bindArgs (PySem.W.fnOf x qual (zX st) (zT st) (zo st) .none kV doc pm an cdv ct) ⟨us, []⟩ = pure (ps.zip us)) : zdB K fd ps [] := by
  obtain ⟨oc, od, kV, doc, pm, an, cdv, ct, osl, rfl, lk, hcd⟩ := F.ex
  exact .all (h kV doc pm an cdv ct)
theorem zbe {x qual : Str} {st : Stmt} {f : Addr} {oc : Value} {od an : Option Addr} {osl : Array (Option Value)} {kV doc pm cdv ct : Value} (l : K.lookup f = some ⟨oc, od, .func (PySem.W.fnOf x qual (zX st) (zT st) (zo st) .none kV doc pm an cdv ct), osl⟩)
    (c : PySem.W.codeIn K cdv qual = true) (k : PySem.W.keepIn K (.ref f) = true) : Fun K x qual st f (PySem.W.fnOf x qual (zX st) (zT st) (zo st) .none kV doc pm an cdv ct) := ⟨⟨oc, od, kV, doc, pm, an, cdv, ct, osl, rfl, l, c⟩, k⟩
end
theorem zi9 {A : Around} {k : Nat} (hr : zR k A) : A.units + 1 < cLine := Nat.lt_of_le_of_lt (Nat.add_le_add_left (by decide : 1 <= 64) _) hr.units
section
variable {X : Cx}
end
end L2
end
section
namespace L2
open PySem PySem.Spec PyProof.Rows
section
variable {κ : Type} [DecidableEq κ]
def zdF (kvs : List (κ × V)) (k : κ) : Option V := (kvs.find? fun kv => decide (kv.1 = k)).map (·.2)
def zdg (kvs : List (κ × V)) (k : κ) (v : V) : List (κ × V) :=
  if (kvs.any fun kv => decide (kv.1 = k)) = true then kvs.map (fun kv => if kv.1 = k then (kv.1, v) else kv) else kvs ++ [(k, v)]
theorem ziB {p : κ × V} {r : List (κ × V)} {k : κ} (e : p.1 = k) : zdF (p :: r) k = some p.2 := by simp [zdF, List.find?_cons, e]
theorem ziV {p : κ × V} {r : List (κ × V)} {k : κ} (e : ¬ p.1 = k) : zdF (p :: r) k = zdF r k := by simp [zdF, List.find?_cons, e]
theorem ztm (k : κ) : ∀ kvs : List (κ × V), (kvs.any fun kv => decide (kv.1 = k)) = (zdF kvs k).isSome
  | [] => rfl
  | p :: r => by
    rw [List.any_cons]
    by_cases e : p.1 = k
    . simp only [ziB e, decide_eq_true e, Bool.true_or, Option.isSome_some]
    . rw [ziV e, decide_eq_false e, Bool.false_or]; exact ztm k r
theorem zth (kvs : List (κ × V)) (k : κ) (v : V) : (zdg kvs k v).length <= kvs.length + 1 := by
  unfold zdg
  split
  . rw [List.length_map]; omega
  . rw [List.length_append, List.length_cons, List.length_nil]; omega
theorem zc1.isSome_eq {o : Option V} {u : Option Value} (r : zc1 o u) : o.isSome = u.isSome := by
  cases o with
  | none => cases u with
    | none => rfl
    | some _ => exact (show False from r).elim
  | some _ => cases u with
    | none => exact (show False from r).elim
    | some _ => rfl
theorem KV.val {kvs : List (κ × V)} {vs : List (κ × Value)} (r : KV kvs vs) (k : κ) : zc1 (zdF kvs k) (valueAt vs k) := by
  unfold KV at r
  induction r with
  | nil => exact True.intro
  | @cons p q ps qs h t ih =>
    obtain ⟨h1, h2⟩ := h
    by_cases e : p.1 = k
    . have e' : q.1 = k := h1.symm.trans e
      have b : valueAt (q :: qs) k = some q.2 := by simp [valueAt, List.find?_cons, e']
      rw [ziB e, b]; exact h2
    . have e' : ¬ q.1 = k := fun z => e (h1.trans z)
      have b : valueAt (q :: qs) k = valueAt qs k := by simp [valueAt, List.find?_cons, e']
      rw [ziV e, b]; exact ih
theorem KV.any {kvs : List (κ × V)} {vs : List (κ × Value)} (r : KV kvs vs) (k : κ) : (kvs.any fun kv => decide (kv.1 = k)) = vs.any fun kv => decide (kv.1 = k) := by
  unfold KV at r
  induction r with
  | nil => rfl
  | cons h t ih => rw [List.any_cons, List.any_cons, ih, h.1]
theorem KV.repl {kvs : List (κ × V)} {vs : List (κ × Value)} (r : KV kvs vs) (k : κ) {y : V} {u : Value} (ry : zu y u) :
    KV (kvs.map fun kv => if kv.1 = k then (kv.1, y) else kv) (vs.map fun kv => if kv.1 = k then (kv.1, u) else kv) := by
  unfold KV at r ⊢
  induction r with
  | nil => exact .nil
  | @cons p q ps qs h t ih =>
    rw [List.map_cons, List.map_cons]
    refine .cons ?_ ih
    obtain ⟨h1, h2⟩ := h
    by_cases e : p.1 = k
    . rw [if_pos e, if_pos (h1.symm.trans e)]; exact ⟨h1, ry⟩
    . rw [if_neg e, if_neg (fun z => e (h1.trans z))]; exact ⟨h1, h2⟩
theorem KV.put {kvs : List (κ × V)} {vs : List (κ × Value)} (r : KV kvs vs) (k : κ) {y : V} {u : Value} (ry : zu y u) : KV (zdg kvs k y) (stored vs k u) := by
  unfold zdg stored
  rw [r.any k]
  by_cases e : (vs.any fun kv => decide (kv.1 = k)) = true
  . rw [if_pos e, if_pos e]; exact r.repl k ry
  . rw [if_neg e, if_neg e]; exact Paired.snoc r ⟨rfl, ry⟩
theorem KV.length {kvs : List (κ × V)} {vs : List (κ × Value)} (r : KV kvs vs) : kvs.length = vs.length := Paired.length r
end
theorem zhC {P : Program} {w : World} {k : Key} {u : Value} (r : zu (kV k) u) : (zbZ P w).is k u = true := by
  cases k with
  | inl i => obtain ⟨t, e⟩ := (show ∃ t, u = Value.int i t from r); subst e; exact zCQ P w i t
  | inr x => obtain ⟨t, e⟩ := (show ∃ t, u = Value.str x t from r); subst e; exact zEa P w x t
theorem ztx {P : Program} {w : World} : ∀ {ks : List Key} {us : List Value}, zy (ks.map kV) us -> ItemsAre (zbZ P w) ks us
  | [], _, r => by rw [List.map_nil] at r; cases r; exact .nil
  | k :: ks, _, r => by
    rw [List.map_cons] at r
    cases r with
    | cons h t => exact .cons (zhC h) (ztx t)
abbrev KT (H : Hp) : List (List Key × V) -> List (List Key × Addr × Value) -> Prop := Paired fun p q => p.1 = q.1 ∧ H q.2.1 = some (.tup (p.1.map kV)) ∧ zu p.2 q.2.2
theorem KT.val {H : Hp} {kvs : List (List Key × V)} {xs : List (List Key × Addr × Value)} (r : KT H kvs xs) (k : List Key) : zc1 (zdF kvs k) ((atKey xs k).map (·.2)) := by
  induction r with
  | nil => exact True.intro
  | @cons p q ps qs h t ih =>
    obtain ⟨h1, _, h2⟩ := h
    by_cases e : p.1 = k
    . have e' : q.1 = k := h1.symm.trans e
      have b : atKey (q :: qs) k = some q.2 := by simp [atKey, List.find?_cons, e']
      rw [ziB e, b]; exact h2
    . have e' : ¬ q.1 = k := fun z => e (h1.trans z)
      have b : atKey (q :: qs) k = atKey qs k := by simp [atKey, List.find?_cons, e']
      rw [ziV e, b]; exact ih
theorem KT.repl {H : Hp} {kvs : List (List Key × V)} {xs : List (List Key × Addr × Value)} (r : KT H kvs xs) (k : List Key) {y : V} {u : Value} (ry : zu y u) :
    KT H (kvs.map fun kv => if kv.1 = k then (kv.1, y) else kv) (xs.map (putAt k u)) := by
  induction r with
  | nil => exact .nil
  | @cons p q ps qs h t ih =>
    rw [List.map_cons, List.map_cons]
    refine .cons ?_ ih
    obtain ⟨h1, h2, h3⟩ := h
    unfold putAt
    by_cases e : p.1 = k
    . rw [if_pos e, if_pos (h1.symm.trans e)]; exact ⟨h1, h2, ry⟩
    . rw [if_neg e, if_neg (fun z => e (h1.trans z))]; exact ⟨h1, h2, h3⟩
theorem KT.put {H : Hp} {kvs : List (List Key × V)} {xs : List (List Key × Addr × Value)} (r : KT H kvs xs) (k : List Key) {b : Addr} {y : V} {u : Value} (hb : H b = some (.tup (k.map kV))) (ry : zu y u) :
    KT H (zdg kvs k y) (storedH xs k b u) := by
  have e : (kvs.any fun kv => decide (kv.1 = k)) = (atKey xs k).isSome := by
    rw [ztm, (r.val k).isSome_eq, Option.isSome_map]
  unfold zdg storedH
  rw [e]
  by_cases q : (atKey xs k).isSome = true
  . rw [if_pos q, if_pos q]; exact r.repl k ry
  . rw [if_neg q, if_neg q]; exact Paired.snoc r ⟨rfl, hb, ry⟩
theorem KT.keeps {H H' : Hp} {kvs : List (List Key × V)} {xs : List (List Key × Addr × Value)} (r : KT H kvs xs) (ht : ∀ b ys, H b = some (.tup ys) -> H' b = some (.tup ys)) : KT H' kvs xs :=
  Paired.mapP r fun _ _ z => ⟨z.1, ht _ _ z.2.1, z.2.2⟩
section
variable {P : Program} {w : World} {H : Hp} {h : Heap} {a : Addr}
theorem zsK {u : HO} (ok : HOk P w H h) (e : Rd H a u) : zbn P w H h a u := e.ok ok
theorem zhL {kvs : List (Key × V)} (ok : HOk P w H h) (e : Rd H a (.dK kvs)) : kvs.length <= sizeLine ∧ (a == sysModules) = false ∧ ∃ vs, KV kvs vs ∧ h.DictOf (zbZ P w) a vs :=
  show zbn P w H h a (.dK kvs) from zsK ok e
theorem zBy {kvs : List (Key × V)} (ok : HOk P w H h) (e : H a = some (.dK kvs)) : kvs.length <= sizeLine ∧ (a == sysModules) = false ∧ ∃ vs, KV kvs vs ∧ h.DictOf (zbZ P w) a vs := zhL ok (.inl e)
theorem zhN {ks : List Key} (ok : HOk P w H h) (e : H a = some (.tup (ks.map kV))) : (tupleKind (zbZ P w)).is h ks a := by
  obtain ⟨_, its, r, o, h1, h2, n, h3⟩ := (show zbn P w H h a (.tup (ks.map kV)) from ok a _ e)
  exact ⟨o, its.toArray, n, h1, h2, h3, by simpa using ztx r⟩
theorem zhv {kvs : List (List Key × V)} (ok : HOk P w H h) (e : Rd H a (.dT kvs)) : kvs.length <= sizeLine ∧ (a == sysModules) = false ∧
    ∃ xs, KT H kvs xs ∧ h.DictOfH (tupleKind (zbZ P w)) a xs := by
  obtain ⟨z, y, xs, r, o, es, ep, h1, h2, h3, h4, h5⟩ := (show zbn P w H h a (.dT kvs) from zsK ok e)
  refine ⟨z, y, xs, r, o, es, ep, h1, h2, h3, h4, fun x hx => ?_, h5⟩
  have all : ∀ {l : List (List Key × V)} {m : List (List Key × Addr × Value)}, KT H l m -> ∀ x ∈ m, (tupleKind (zbZ P w)).is h x.1 x.2.1 := by
    intro l m q
    induction q with
    | nil => intro x hx; exact nomatch hx
    | @cons p q ps qs hq t ih =>
      intro x hx
      rcases List.mem_cons.mp hx with e | hx
      . subst e
        exact zhN ok (by rw [<- hq.1]; exact hq.2.1)
      . exact ih x hx
  exact all r x hx
theorem zAZ {kvs : List (List Key × V)} (ok : HOk P w H h) (e : H a = some (.dT kvs)) : kvs.length <= sizeLine ∧ (a == sysModules) = false ∧
    ∃ xs, KT H kvs xs ∧ h.DictOfH (tupleKind (zbZ P w)) a xs := zhv ok (.inl e)
end
def zeQ (H : Hp) (a : Addr) (y : V) (r : Option V) : Prop :=
  (∃ kvs k, Rd H a (.dK kvs) ∧ y = kV k ∧ r = zdF kvs k) ∨ ∃ kvs k b, Rd H a (.dT kvs) ∧ y = .ref b ∧ H b = some (.tup (k.map kV)) ∧ r = zdF kvs k
def zhA (H : Hp) (a : Addr) (y v : V) (H' : Hp) : Prop :=
  (∃ kvs k, H a = some (.dK kvs) ∧ y = kV k ∧ kvs.length < sizeLine ∧ H' = upd H a (.dK (zdg kvs k v))) ∨
  ∃ kvs k b, H a = some (.dT kvs) ∧ y = .ref b ∧ H b = some (.tup (k.map kV)) ∧ kvs.length < sizeLine ∧ H' = upd H a (.dT (zdg kvs k v))
theorem zeQ.k {H : Hp} {a : Addr} {kvs : List (Key × V)} {k : Key} (e : H a = some (.dK kvs)) : zeQ H a (kV k) (zdF kvs k) := .inl ⟨kvs, k, .inl e, rfl, rfl⟩
theorem zhA.k {H : Hp} {a : Addr} {kvs : List (Key × V)} {k : Key} {v : V} (e : H a = some (.dK kvs)) (hl : kvs.length < sizeLine) : zhA H a (kV k) v (upd H a (.dK (zdg kvs k v))) := .inl ⟨kvs, k, e, rfl, hl, rfl⟩
section
variable {X : Cx} {pins : List (Addr × Obj)} {σ : St} {H : Hp} {s : Shared} {a : Addr} {y v : V} {u r : Value} {o : Option V} {A : Around} {E : Value -> Shared -> Prop}
theorem Inv.big (I : Inv X pins σ H s) : sysModules < s.heap.objs.size := by
  have h : mainGlobals < s.heap.objs.size := (I.mod.glob.keeps I.bk).lt
  exact Nat.lt_trans (by decide) h
theorem zA0 {Q : Value -> Shared -> Prop} (hu : A.units + 1 < cLine) (I : Inv X pins σ H s) (g : zeQ H a y (some v)) (ry : zu y u) (h : ∀ w' s', Inv X pins σ H s' -> zu v w' -> Q w' s') :
    wpAny (model X.prog X.w) A (getItem (.ref a) u) Q E s := by
  rcases g with ⟨kvs, k, e, ey, l⟩ | ⟨kvs, k, b, e, ey, eb, l⟩
  . subst ey
    obtain ⟨z, hd, vs, rel, dd⟩ := zhL I.hok e
    obtain ⟨w', hw, rw'⟩ := zc1.some_of (v := v) (o := valueAt vs k) (by rw [l]; exact rel.val k)
    exact wpAny_getItem_of (zhC ry) dd.mapOf hw (h w' _ (I.tok _) rw')
  . subst ey
    cases (show u = Value.ref b from ry)
    obtain ⟨z, hd, xs, rel, dd⟩ := zhv I.hok e
    obtain ⟨w', hw, rw'⟩ := zc1.some_of (v := v) (o := (atKey xs k).map (·.2)) (by rw [l]; exact rel.val k)
    obtain ⟨p, hp, hp2⟩ := Option.map_eq_some_iff.mp hw
    refine wpAny_getItem_heap (tupleKind_room_in1 hu) (zhN I.hok eb) dd hp ?_
    rw [hp2]
    exact h w' _ (I.tok _) rw'
theorem zC8 {Q : Value -> Shared -> Prop} (hu : A.units + 1 < cLine) (I : Inv X pins σ H s) (g : zeQ H a y o) (ry : zu y u) (h : ∀ s', Inv X pins σ H s' -> Q (.bool o.isSome) s') :
    wpAny (model X.prog X.w) A (compareOp .In u (.ref a)) Q E s := by
  rcases g with ⟨kvs, k, e, ey, l⟩ | ⟨kvs, k, b, e, ey, eb, l⟩
  . subst ey
    obtain ⟨z, hd, vs, rel, dd⟩ := zhL I.hok e
    refine wpAny_in_of (zhC ry) hd dd.mapOf ?_
    rw [<- (rel.val k).isSome_eq, <- l]
    exact h _ (I.tok _)
  . subst ey
    cases (show u = Value.ref b from ry)
    obtain ⟨z, hd, xs, rel, dd⟩ := zhv I.hok e
    refine wpAny_in_heap (tupleKind_room_in1 hu) (zhN I.hok eb) hd dd ?_
    have q := (rel.val k).isSome_eq
    rw [Option.isSome_map] at q
    rw [<- q, <- l]
    exact h _ (I.tok _)
theorem zBm {Q : Value -> Shared -> Prop} (hu : A.units + 1 < cLine) (I : Inv X pins σ H s) (g : zeQ H a y o) (ry : zu y u) (h : ∀ s', Inv X pins σ H s' -> Q (.bool (!o.isSome)) s') :
    wpAny (model X.prog X.w) A (compareOp .NotIn u (.ref a)) Q E s := by
  rcases g with ⟨kvs, k, e, ey, l⟩ | ⟨kvs, k, b, e, ey, eb, l⟩
  . subst ey
    obtain ⟨z, hd, vs, rel, dd⟩ := zhL I.hok e
    refine wpAny_notIn_of (zhC ry) hd dd.mapOf ?_
    rw [<- (rel.val k).isSome_eq, <- l]
    exact h _ (I.tok _)
  . subst ey
    cases (show u = Value.ref b from ry)
    obtain ⟨z, hd, xs, rel, dd⟩ := zhv I.hok e
    refine wpAny_notIn_heap (tupleKind_room_in1 hu) (zhN I.hok eb) hd dd ?_
    have q := (rel.val k).isSome_eq
    rw [Option.isSome_map] at q
    rw [<- q, <- l]
    exact h _ (I.tok _)
theorem zsr {h' : Heap} {t' : Nat} {ob : HO} (I : Inv X pins σ H s) (mu : Mut (H a)) (hs : Heap.SameBut a s.heap h') (he : ∃ q, h'.get? a = some q) (new : zbn X.prog X.w (upd H a ob) h' a ob) :
    Inv X pins σ (upd H a ob) { s with heap := h', toks := t' } :=
  I.write (x := a) (e := a) mu (.inl rfl) (fun b q hb z => (hs.2 b hb).trans z) he new
theorem zDq {P : Program} {w : World} {H' : Hp} {h' : Heap} {kvs : List (Key × V)} {vs : List (Key × Value)} (z : kvs.length <= sizeLine) (hd : (a == sysModules) = false) (rel : KV kvs vs) (dd : h'.DictOf (zbZ P w) a vs) :
    zbn P w H' h' a (.dK kvs) := ⟨z, hd, vs, rel, dd⟩
theorem zAG {H' : Hp} {Q : Unit -> Shared -> Prop} (hu : A.units + 1 < cLine) (I : Inv X pins σ H s) (g : zhA H a y v H') (ry : zu y u) (rv : zu v r) (h : ∀ s', Inv X pins σ H' s' -> Q () s') :
    wpAny (model X.prog X.w) A (setItem (.ref a) u r) Q E s := by
  rcases g with ⟨kvs, k, e, ey, l, eH⟩ | ⟨kvs, k, b, e, ey, eb, l, eH⟩
  . subst ey eH
    obtain ⟨z, hd, vs, rel, dd⟩ := zBy I.hok e
    have hz : vs.length <= sizeLine := by rw [<- rel.length]; exact z
    have hl : (zdg kvs k v).length <= sizeLine := by have := zth kvs k v; omega
    refine wpAny_setItem_pairs (hsz := hz) (zhC ry) dd fun h' dd' hs => h _ ?_
    have he : ∃ q, h'.get? a = some q := let ⟨q, _, _, hq, _⟩ := dd'; ⟨q, hq⟩
    exact zsr I (by rw [e]; exact True.intro) hs he (zDq hl hd (rel.put k rv) dd')
  . subst ey eH
    cases (show u = Value.ref b from ry)
    obtain ⟨z, hd, xs, rel, dd⟩ := zAZ I.hok e
    have hz : xs.length <= sizeLine := by rw [<- Paired.length rel]; exact z
    have hl : (zdg kvs k v).length <= sizeLine := by have := zth kvs k v; omega
    refine wpAny_setItem_heap (hsz := hz) (tupleKind_room_in1 hu) (zhN I.hok eb) dd fun h' dd' hs => h _ ?_
    obtain ⟨q, es, ep, hq, h2, h3, h4, _, h5⟩ := dd'
    refine zsr I (by rw [e]; exact True.intro) hs ⟨q, hq⟩ ⟨hl, hd, _, (rel.put k eb rv).keeps fun c ys ec => ?_, q, es, ep, hq, h2, h3, h4, h5⟩
    rw [zD (zAL ec e (fun z => nomatch z))]
    exact ec
end
section
variable {X : Cx} {pins : List (Addr × Obj)} {σ : St} {H : Hp} {s : Shared} {a : Addr} {kvs : List (Key × V)} {k : Key} {u : Value} {A : Around} {E : Value -> Shared -> Prop}
end
theorem zC1 {X : Cx} {pins : List (Addr × Obj)} {σ : St} {H : Hp} {s : Shared} {a : Addr} {y : V} {o : Option V} (I : Inv X pins σ H s) (g : zeQ H a y o) : s.TypeIs (.ref a) "dict" := by
  rcases g with ⟨kvs, k, e, _, _⟩ | ⟨kvs, k, b, e, _, _, _⟩
  . obtain ⟨_, _, vs, _, dd⟩ := zhL I.hok e
    exact dd.typeIs
  . obtain ⟨_, _, xs, _, dd⟩ := zhv I.hok e
    exact dd.typeIs
section
variable {X : Cx} {o i e value : Expr} {pos pos' tpos : Pos} {td ty tv : TE}
end
theorem zFp {P : Program} {w : World} {H : Hp} (h : Heap) (hb : sysModules < h.objs.size) : zbn P w H (h.push { cls := .type "dict", data := .dict #[] }) h.objs.size (.dK []) :=
  ⟨Nat.zero_le _, beq_eq_false_iff_ne.mpr (Ne.symm (Nat.ne_of_lt hb)), [], .nil, Heap.DictOf.new h⟩
def zDN : TE := fun _ H Q => ∀ p, H p = none -> Q (.ref p) (upd H p (.dK []))
section
variable {X : Cx} {pos : Pos}
theorem zAj : PE X (.Dict [] [] pos) zDN := fun pins s σ H Q I h =>
  wpAny_Dict_empty ⟨.ref s.heap.objs.size, _, I.laid (a := s.heap.objs.size) (o := .dK []) (t' := s.toks) (fun _ _ q => Heap.get?_push_of_some _ q) (Nat.le_refl _) (zFp s.heap I.big), rfl, h _ (I.hok.fresh (Nat.le_refl _))⟩
end
section
variable {X : Cx} {pins : List (Addr × Obj)} {σ : St} {H : Hp} {s : Shared} {a : Addr} {y d : V} {u r : Value} {o : Option V} {A : Around} {E : Value -> Shared -> Prop}
end
section
variable {X : Cx} {o e f : Expr} {apos cpos : Pos} {td ty tx : TE}
end
section
variable {X : Cx} {pins : List (Addr × Obj)} {σ : St} {H : Hp} {s : Shared} {a : Addr} {kvs : List (Key × V)} {A : Around} {E : Value -> Shared -> Prop}
end
section
variable {X : Cx} {pins : List (Addr × Obj)} {σ : St} {H : Hp} {s : Shared} {a : Addr} {y : V} {u : Value} {A : Around} {E : Value -> Shared -> Prop}
end
end L2
end
section
namespace L2
open PySem PySem.Spec PyProof.Rows
theorem zqe {env : Env} : ∀ (names : List (Str × NameKind)) (acc : List (Str × Addr)), (∀ x ∈ names, x.2 = .free -> ∃ c, env.cells.lookup x.1 = some c) ->
    ∃ cl : List (Str × Addr), (forIn names acc fun (x : Str × NameKind) (cs : List (Str × Addr)) => if (x.2 == NameKind.free) = true then (do let a <- cellOf env x.1; pure (ForInStep.yield ((x.1, a) :: cs)) : Sem _) else pure (ForInStep.yield cs)) = pure cl ∧
      (∀ x c, (x, c) ∈ cl -> (x, c) ∈ acc ∨ ((x, NameKind.free) ∈ names ∧ env.cells.lookup x = some c)) ∧
      (∀ x c, (x, c) ∈ acc ∨ ((x, NameKind.free) ∈ names ∧ env.cells.lookup x = some c) -> (x, c) ∈ cl)
  | [], acc, _ => ⟨acc, rfl, fun x c h => .inl h, fun x c h => h.elim id fun z => nomatch z.1⟩
  | (n, k) :: r, acc, h => by
    have hr : ∀ x ∈ r, x.2 = NameKind.free -> ∃ c, env.cells.lookup x.1 = some c := fun x hx => h x (List.mem_cons_of_mem _ hx)
    by_cases hk : k = NameKind.free
    . subst hk
      obtain ⟨c, hc⟩ := h (n, NameKind.free) List.mem_cons_self rfl
      obtain ⟨cl, e, h1, h2⟩ := zqe r ((n, c) :: acc) hr
      refine ⟨cl, ?_, fun x d hx => ?_, fun x d hx => ?_⟩
      . rw [List.forIn_cons]
        have e1 : cellOf env n = (pure c : Sem Addr) := by unfold cellOf; rw [hc]
        simp only [beq_self_eq_true, if_true, e1]
        exact e
      . rcases h1 x d hx with z | ⟨z, z'⟩
        . rcases List.mem_cons.mp z with z | z
          . cases z; exact .inr ⟨List.mem_cons_self, hc⟩
          . exact .inl z
        . exact .inr ⟨List.mem_cons_of_mem _ z, z'⟩
      . apply h2
        rcases hx with z | ⟨z, z'⟩
        . exact .inl (List.mem_cons_of_mem _ z)
        . rcases List.mem_cons.mp z with z | z
          . cases z
            rw [hc] at z'; cases z'
            exact .inl List.mem_cons_self
          . exact .inr ⟨z, z'⟩
    . obtain ⟨cl, e, h1, h2⟩ := zqe r acc hr
      have hb : (k == NameKind.free) = false := by simpa using hk
      refine ⟨cl, ?_, fun x d hx => ?_, fun x d hx => ?_⟩
      . rw [List.forIn_cons]
        simp only [hb, Bool.false_eq_true, if_false]
        exact e
      . rcases h1 x d hx with z | ⟨z, z'⟩
        . exact .inl z
        . exact .inr ⟨List.mem_cons_of_mem _ z, z'⟩
      . apply h2
        rcases hx with z | ⟨z, z'⟩
        . exact .inl z
        . rcases List.mem_cons.mp z with z | z
          . cases z; exact absurd rfl hk
          . exact .inr ⟨z, z'⟩
theorem zsk {α : Type} : ∀ {l : List (Str × α)} {x : Str} {c : α}, (x, c) ∈ l -> ∃ d, l.lookup x = some d ∧ (x, d) ∈ l
  | (n, k) :: r, x, c, h => by
    cases e : x == n with
    | true =>
      have e' : x = n := by simpa using e
      subst e'
      exact ⟨k, by simp [List.lookup_cons], List.mem_cons_self⟩
    | false =>
      rcases List.mem_cons.mp h with z | z
      . cases z; simp at e
      . obtain ⟨d, h1, h2⟩ := zsk z
        exact ⟨d, by rw [List.lookup_cons, e]; exact h1, List.mem_cons_of_mem _ h2⟩
theorem mem_of_lookup {α : Type} : ∀ {l : List (Str × α)} {x : Str} {c : α}, l.lookup x = some c -> (x, c) ∈ l
  | (n, k) :: r, x, c, h => by
    rw [List.lookup_cons] at h
    cases e : x == n with
    | true =>
      have e' : x = n := by simpa using e
      subst e'
      rw [e] at h; cases h
      exact List.mem_cons_self
    | false =>
      rw [e] at h
      exact List.mem_cons_of_mem _ (mem_of_lookup h)
theorem zCW {scope : Scope} {env : Env} (h : ∀ x ∈ scope.names, x.2 = .free -> ∃ c, env.cells.lookup x.1 = some c) :
    ∃ cl : List (Str × Addr), closureFor scope env = pure cl ∧ (∀ x c, cl.lookup x = some c -> (x, NameKind.free) ∈ scope.names ∧ env.cells.lookup x = some c) ∧
      (∀ x c, (x, NameKind.free) ∈ scope.names -> env.cells.lookup x = some c -> cl.lookup x = some c) := by
  obtain ⟨cl, e, h1, h2⟩ := zqe (env := env) scope.names [] h
  have g1 : ∀ x c, cl.lookup x = some c -> (x, NameKind.free) ∈ scope.names ∧ env.cells.lookup x = some c := fun x c z => by
    rcases h1 x c (mem_of_lookup z) with q | q
    . exact nomatch q
    . exact q
  refine ⟨cl, ?_, g1, fun x c z z' => ?_⟩
  . unfold closureFor
    show (forIn scope.names [] _ >>= _) = _
    have e2 := congrArg (fun m : Sem (List (Str × Addr)) => m >>= fun cs => pure cs) e
    refine Eq.trans ?_ (Eq.trans e2 ?_)
    . congr 1
    . rfl
  . obtain ⟨d, e1, _⟩ := zsk (h2 x c (.inr ⟨z, z'⟩))
    have := (g1 x d e1).2
    rw [z'] at this; cases this
    exact e1
theorem zsu {env : Env} : ∀ {names : List (Str × NameKind)} {x : Str}, names.lookup x = some .free ->
    (names.map fun (n, k) => if (k == NameKind.free && env.scope.kind == .function && env.kindOf n == some .cell) then (n, NameKind.cell) else (n, k)).lookup x = some .cell ∨
    (names.map fun (n, k) => if (k == NameKind.free && env.scope.kind == .function && env.kindOf n == some .cell) then (n, NameKind.cell) else (n, k)).lookup x = some .free
  | [], _, h => by simp at h
  | (n, k) :: r, x, h => by
    have ih := @zsu env r x
    rw [List.map_cons]
    by_cases hc : (k == NameKind.free && env.scope.kind == .function && env.kindOf n == some .cell) = true
    . simp only [hc, if_true]
      cases hx : x == n with
      | true => left; simp [List.lookup_cons, hx]
      | false =>
        simp only [List.lookup_cons, hx] at h ⊢
        exact ih h
    . simp only [hc, if_false, Bool.false_eq_true]
      cases hx : x == n with
      | true =>
        simp only [List.lookup_cons, hx] at h ⊢
        cases h
        right; rfl
      | false =>
        simp only [List.lookup_cons, hx] at h ⊢
        exact ih h
theorem zs0 {env : Env} : ∀ {names : List (Str × NameKind)} {x : Str}, (∀ y ∈ names, y.2 ≠ .cell) ->
    ((names.map fun (n, k) => if (k == NameKind.free && env.scope.kind == .function && env.kindOf n == some .cell) then (n, NameKind.cell) else (n, k)).lookup x = some .cell ∨
    (names.map fun (n, k) => if (k == NameKind.free && env.scope.kind == .function && env.kindOf n == some .cell) then (n, NameKind.cell) else (n, k)).lookup x = some .free) -> names.lookup x = some .free
  | [], _, _, h => by simp at h
  | (n, k) :: r, x, hn, h => by
    have ih := @zs0 env r x fun y hy => hn y (List.mem_cons_of_mem _ hy)
    have hk := hn (n, k) List.mem_cons_self
    rw [List.map_cons] at h
    by_cases hc : (k == NameKind.free && env.scope.kind == .function && env.kindOf n == some .cell) = true
    . simp only [hc, if_true] at h
      have hf : k = .free := by
        simp only [Bool.and_eq_true, beq_iff_eq] at hc
        exact hc.1.1
      cases hx : x == n with
      | true => simp [List.lookup_cons, hx, hf]
      | false =>
        simp only [List.lookup_cons, hx] at h ⊢
        exact ih h
    . simp only [hc, if_false, Bool.false_eq_true] at h
      cases hx : x == n with
      | true =>
        simp only [List.lookup_cons, hx] at h ⊢
        rcases h with h | h
        . cases h; exact absurd rfl hk
        . exact h
      | false =>
        simp only [List.lookup_cons, hx] at h ⊢
        exact ih h
def zcg (X : Cx) (scope : Scope) (N : List Str) (cl : List (Str × Addr)) (s₀ : Shared) (H₀ : Hp) (fp : List Addr) : Cx :=
  { X with N := N, s₀ := s₀, H₀ := H₀, env := compEnvC scope cl s₀.heap.objs.size X.env, outer := X.stack, ex := fp, fn := fun x => scope.names.lookup x == some .local, pn := [], xe := fun _ _ => False }
def zgv (js : List (Option Nat)) (σ : St) : St := js.map fun j => j.bind fun k => (σ[k]?).join
structure zbX (X : Cx) (scope : Scope) (N : List Str) (js : List (Option Nat)) : Prop where
  kind : scope.kind = .function
  cell : ∀ y ∈ scope.names, y.2 ≠ .cell
  names : ∀ y ∈ scope.names, scope.names.lookup y.1 = some y.2
  free : ∀ y ∈ scope.names, y.2 = .free -> X.env.kindOf y.1 = some .cell ∨ X.env.kindOf y.1 = some .free
  len : js.length = N.length
  slot : ∀ (i k : Nat), js[i]? = some (some k) -> ∃ x, N[i]? = some x ∧ X.N[k]? = some x ∧ scope.names.lookup x = some .free
section
variable {X : Cx} {pins : List (Addr × Obj)} {σ : St} {H : Hp} {s : Shared} {scope : Scope} {N : List Str} {js : List (Option Nat)} {cl : List (Str × Addr)} {fp : List Addr}
theorem zFi (S : zbX X scope N js) (I : Inv X pins σ H s) (hf : ∀ b ∈ fp, zdu X pins H b) (hlt : ∀ b ∈ fp, b < s.heap.objs.size)
    (h1 : ∀ x c, cl.lookup x = some c -> (x, NameKind.free) ∈ scope.names ∧ X.env.cells.lookup x = some c)
    (h2 : ∀ x c, (x, NameKind.free) ∈ scope.names -> X.env.cells.lookup x = some c -> cl.lookup x = some c) : (zcg X scope N cl s H fp).Ok where
  mod := I.ok.mod
  kind := S.kind
  glob := I.ok.glob
  blt := I.ok.blt
  above := Nat.le_refl _
  inj := fun x y c hx hy => I.ok.inj x y c (h1 x c hx).2 (h1 y c hy).2
  has := fun x hx => by
    have e : scope.names.lookup x = some .free := zs0 S.cell hx
    have hm := mem_of_lookup e
    obtain ⟨c, hc⟩ := I.ok.has x (S.free (x, .free) hm rfl)
    exact ⟨c, h2 x c hm hc⟩
  cab := fun x c hx hc => by
    have hm := (h1 x c hc).1
    have e := S.names (x, .free) hm
    have hx' : (scope.names.lookup x == some NameKind.local) = true := hx
    rw [e] at hx'
    have hx2 : (some NameKind.free == some NameKind.local) = true := hx'
    exact absurd hx2 (by decide)
  hd := I.ok.hd
  frames := I.ok.frames
  stk := .inl rfl
  exf := fun b hb => ⟨Nat.ne_of_lt (hlt b hb), fun x c hc => (hf b hb).2.2.2.2.1 x c (h1 x c hc).2⟩
  bs := I.bs
  bsz := Nat.le_trans I.ok.bsz I.sz
  noex := fun b o e hb => by
    rcases (hf b hb).2.2.2.1 with z | z
    . exact I.ok.noex b o e z
    . exact absurd (Nat.lt_of_lt_of_le (Heap.lt_size e) (Nat.le_trans I.ok.bsz z)) (Nat.lt_irrefl _)
  exfs := fun b hb z => by
    rcases List.mem_cons.mp (I.stkSub b z) with e | e
    . exact (hf b hb).2.1 e
    . exact (hf b hb).2.2.1 e
  funs := I.stack
  frf := I.stkFree
theorem zDi {h' : Heap} {t' : Nat} {m' : Str -> Option Value} (S : zbX X scope N js) (I : Inv X pins σ H s) (hf : ∀ b ∈ fp, zdu X pins H b) (hlt : ∀ b ∈ fp, b < s.heap.objs.size)
    (h1 : ∀ x c, cl.lookup x = some c -> (x, NameKind.free) ∈ scope.names ∧ X.env.cells.lookup x = some c)
    (h2 : ∀ x c, (x, NameKind.free) ∈ scope.names -> X.env.cells.lookup x = some c -> cl.lookup x = some c)
    (hn : h'.Ns s.heap.objs.size m') (hk : ∀ b o, s.heap.get? b = some o -> h'.get? b = some o) :
    Inv (zcg X scope N cl s H fp) [] (zgv js σ) H { s with heap := h', toks := t' } := by
  refine ⟨zFi S I hf hlt h1 h2, rfl, I.bare, Un.kept hk, ⟨m', hn, fun i x v e1 e2 e3 => ?_⟩, fun x c e => ?_, I.hok.fresh (Nat.le_refl _), fun x c e => I.freeC x c (h1 x c e).2, fun p hp => (List.not_mem_nil (show p ∈ ([] : List (Addr × Obj)) from hp)).elim, I.hok.kept hk, ?_⟩
  . have e2' : (js.map fun j => j.bind fun k => (σ[k]?).join)[i]? = some (some v) := e2
    rw [List.getElem?_map] at e2'
    cases ej : js[i]? with
    | none => rw [ej] at e2'; cases e2'
    | some j =>
      rw [ej] at e2'
      cases j with
      | none => cases e2'
      | some k =>
        have e4 : (σ[k]?).join = some v := Option.some.inj e2'
        have e5 : σ[k]? = some (some v) := by
          cases eσ : σ[k]? with
          | none => rw [eσ] at e4; cases e4
          | some o => rw [eσ] at e4; exact congrArg some e4
        obtain ⟨x', hx1, hx2, hx3⟩ := S.slot i k ej
        have e1' : N[i]? = some x := e1
        rw [hx1] at e1'; cases e1'
        have hm := mem_of_lookup hx3
        have hfr := S.free (x, .free) hm rfl
        obtain ⟨m, hns, hl⟩ := I.loc
        obtain ⟨u, r, l⟩ := hl k x v hx2 e5 (hfr.elim (fun z => .inr (.inl z)) fun z => .inr (.inr z))
        refine ⟨u, r, .inr ⟨zsu hx3, ?_⟩⟩
        rcases l with ⟨z, _⟩ | ⟨_, c, hc, o, ho, hd⟩
        . rcases hfr with y | y
          . have y' : X.env.kindOf x = some .cell := y
            rw [z] at y'; cases y'
          . have y' : X.env.kindOf x = some .free := y
            rw [z] at y'; cases y'
        . exact ⟨c, h2 x c hm hc, o, hk c o ho, hd⟩
  . obtain ⟨v, o, ho, hd⟩ := I.cell x c (h1 x c e).2
    exact ⟨v, o, hk c o ho, hd⟩
  . show (js.map _).length = N.length
    rw [List.length_map, S.len]
theorem zDa {H' : Hp} {s' : Shared} {σ' : St} (I : Inv X pins σ H s) (hf : ∀ b ∈ fp, zdu X pins H b) (J : Inv (zcg X scope N cl s H fp) [] σ' H' s') : Inv X pins σ H' s' :=
  I.call' (ch := fp) J.os J.base J.hok J.bare fun b hb => by
    obtain ⟨f0, f1, f2, f3, f4, f5⟩ := hf b hb
    exact ⟨f3, f1, f4, f5⟩
theorem zt1 {C : Addr} {H' : Hp} {s' : Shared} {σ' : St} {h'' : Heap} (I : Inv X pins σ H s) (hC : C = s.heap.objs.size) (hn : H' C = none) (J : Inv X pins σ' H' s') (hs : Heap.SameBut C s'.heap h'') : Inv X pins σ' H' { s' with heap := h'' } := by
  have J1 := J.turned (h' := h'') (t' := s'.toks) (it := C) (fun b o hb e => (hs.2 b hb).trans e) hn (by rw [hC]; exact Nat.ne_of_gt I.lt) (.inr (by rw [hC]; exact I.sz))
    (fun x c e z => by
      obtain ⟨v, o, ho, _⟩ := I.cell x c e
      have := Heap.lt_size ho
      rw [z, hC] at this
      exact absurd this (Nat.lt_irrefl _))
    (fun p hp z => by
      have := Heap.lt_size (I.pin p hp).1
      rw [z, hC] at this
      exact absurd this (Nat.lt_irrefl _))
  exact J1
end
def zg5 (Y : Cx) (ifs : List Expr) (t : TT) : Prop :=
  ∀ (pins : List (Addr × Obj)) (s : Shared) (σ : St) (H : Hp) (Q : Bool -> Hp -> Prop) , Inv Y pins σ H s -> t σ H Q ->
    wpAny (model Y.prog Y.w) Y.A (forIn ifs true fun c r => if r = true then do let ok <- isTrue c Y.env (eval c Y.env); pure (ForInStep.yield ok) else pure (ForInStep.yield r)) (TP Y pins σ Q) Y.xe s
def zA9 : TT := fun _ H Q => Q true H
theorem zBf {Y : Cx} : zg5 Y [] zA9 := fun pins s σ H Q I h => wpAny_tests_nil ⟨H, I, h⟩
theorem zDM {Y : Cx} {c : Expr} {t : TT} (hc : PT Y c t) : zg5 Y [c] t := fun pins s σ H Q I h => wpAny_tests_one (hc pins s σ H Q I h)
def zqg (J : It) (g : TG) (tc : TT) (te : TE) (D : Addr) (σ : St) (H1 : Hp) (js : List (Option Nat)) (Q : VK) : Prop :=
  ∃ W : Nat -> Nat -> St -> Hp -> Prop, (∃ m, W 0 m (zgv js σ) (upd H1 D (.lst []))) ∧ ∀ i m σ' H', W i m σ' H' ->
    (J.stop i H' ∧ Q (.ref D) H') ∨ (J.go i H' ∧ ∀ x H2, J.yld i H' x H2 -> g x σ' H2 fun σ2 H3 => tc σ2 H3 fun b H4 =>
      if b = true then te σ2 H4 fun y H5 => ∃ xs, H5 D = some (.lst xs) ∧ xs.length < sizeLine ∧ ∃ m', m' < m ∧ W (i + 1) m' σ2 (upd H5 D (.lst (xs ++ [y])))
      else ∃ m', m' < m ∧ W (i + 1) m' σ2 H4)
def ziO (js : List (Option Nat)) (wi : TI) (g : TG) (tc : TT) (te : TE) : TE := fun σ H Q => wi σ H fun J H1 => ∀ D, H1 D = none -> zqg J g tc te D σ H1 js Q
section
variable {X : Cx} {scope : Scope} {N : List Str} {js : List (Option Nat)} {tg iter elt : Expr} {ifs : List Expr} {wi : TI} {g : TG} {tc : TT} {te : TE} {pos : Pos}
structure zpz (X : Cx) (scope : Scope) (N : List Str) (tg elt : Expr) (ifs : List Expr) (g : TG) (tc : TT) (te : TE) : Prop where
  run : ∀ (cl : List (Str × Addr)) (s₀ : Shared) (H₀ : Hp) (fp : List Addr), PG (zcg X scope N cl s₀ H₀ fp) tg g ∧ zg5 (zcg X scope N cl s₀ H₀ fp) ifs tc ∧ PE (zcg X scope N cl s₀ H₀ fp) elt te
theorem zsG {E : Value -> Shared -> Prop} {RR : Value -> Addr -> Result -> Shared -> Prop} {Q : VK} {pins : List (Addr × Obj)} {σ : St} {H1 : Hp} {s2 : Shared} {J : It} {it : Addr} {fp : List Addr} {tn : Nat -> Heap -> Prop}
    {cl : List (Str × Addr)} (hc : X.calm = true) (S : zbX X scope N js) (Pt : zpz X scope N tg elt ifs g tc te) (hcl : closureFor scope X.env = pure cl)
    (h1 : ∀ x c, cl.lookup x = some c -> (x, NameKind.free) ∈ scope.names ∧ X.env.cells.lookup x = some c)
    (h2 : ∀ x c, (x, NameKind.free) ∈ scope.names -> X.env.cells.lookup x = some c -> cl.lookup x = some c)
    (I2 : Inv X pins σ H1 s2) (T : zgs X.prog X.w X.K tg J fp it tn) (st2 : tn 0 s2.heap) (f2 : ∀ b ∈ fp, zdu X pins H1 b)
    (h : ∀ D, H1 D = none -> zqg J g tc te D σ H1 js Q)
    (hRR : ∀ (D C : Addr) (s0 s' : Shared) (H0 H' : Hp) (m : Str -> Option Value), Inv X pins σ H0 s0 -> C = s0.heap.objs.size -> H' C = none -> s'.heap.Ns C m -> Inv X pins σ H' s' -> Q (.ref D) H' -> RR (.ref D) C (.ok .next) s') :
    wpAny (model X.prog X.w) X.A (newList []) (fun acc s₃ => wpAny (model X.prog X.w) X.A (newFunctionEnv scope X.env.globals cl [] X.env.qual none .none (some X.env)) (fun cenv s₄ =>
      codeAny (model X.prog X.w) X.A (.compStart (.ListComp elt [⟨tg, iter, ifs, 0⟩] scope pos) 0 (.ref it) acc { cenv with scope := relabel scope X.env }) (RR acc cenv.locals) s₄) E s₃) E s2 := by
  obtain ⟨W, ⟨m0, w0⟩, turn⟩ := h s2.heap.objs.size (I2.hok.fresh (Nat.le_refl _))
  refine wpAny_newObj_type (wpAny_newFunctionEnv S.cell (by intro y hy; simp at hy) (fun h₁ hns₁ hsb₁ => ?_) S.kind)
  dsimp only at hns₁ hsb₁ ⊢
  have I3 : Inv X pins σ (upd H1 s2.heap.objs.size (.lst [])) { s2 with heap := s2.heap.push { cls := .type "list", dict := none, data := .seq ([] : List Value).toArray } } :=
    I2.lnew (its := []) (t' := s2.toks) .nil (Nat.zero_le _)
  generalize hH3 : (upd H1 s2.heap.objs.size (.lst [])) = H3 at I3 w0
  generalize hs3 : ({ s2 with heap := s2.heap.push { cls := .type "list", dict := none, data := .seq ([] : List Value).toArray } } : Shared) = s3 at I3
  have e3 : s2.heap.push { cls := .type "list", dict := none, data := .seq ([] : List Value).toArray } = s3.heap := by rw [<- hs3]
  rw [e3] at hns₁ hsb₁ ⊢
  have hsz : s3.heap.objs.size = s2.heap.objs.size + 1 := by rw [<- e3, Heap.size_push]
  have hlt2 : ∀ b ∈ fp, b < s2.heap.objs.size := fun b hb => by
    obtain ⟨o, ho, _⟩ := T.obj 0 _ st2 b hb
    exact Heap.lt_size ho
  have hlt3 : ∀ b ∈ fp, b < s3.heap.objs.size := fun b hb => by rw [hsz]; exact Nat.lt_succ_of_lt (hlt2 b hb)
  have f3 : ∀ b ∈ fp, zdu X pins H3 b := fun b hb => ⟨by rw [<- hH3, zD (Nat.ne_of_lt (hlt2 b hb))]; exact (f2 b hb).1, (f2 b hb).2⟩
  have old : ∀ b o, s3.heap.get? b = some o -> h₁.get? b = some o := fun b o e => hsb₁.extBut b o (Nat.ne_of_lt (Heap.lt_size e)) (Heap.get?_push_of_some _ e)
  have old2 : ∀ b o, s2.heap.get? b = some o -> h₁.get? b = some o := fun b o e => old b o (by rw [<- e3]; exact Heap.get?_push_of_some _ e)
  have st4 : tn 0 h₁ := T.keep 0 _ _ st2 fun b _ o e => old2 b o e
  have I4 : ∀ t', Inv (zcg X scope N cl s3 H3 fp) [] (zgv js σ) H3 { s3 with heap := h₁, toks := t' } := fun t' => zDi S I3 f3 hlt3 h1 h2 hns₁ old
  obtain ⟨pg, pif, pe⟩ := Pt.run cl s3 H3 fp
  have stat : ∀ {H' : Hp} {pl : List (Addr × Obj)}, (∀ b ∈ fp, H' b = none) -> pl = [] -> ∀ b ∈ fp, zdu (zcg X scope N cl s3 H3 fp) pl H' b := fun hn e b hb => by
    subst e
    refine ⟨hn b hb, Nat.ne_of_lt (hlt3 b hb), fun z => ?_, .inl hb, fun x c hc => (f3 b hb).2.2.2.2.1 x c (h1 x c hc).2, fun p hp => (List.not_mem_nil (show p ∈ ([] : List (Addr × Obj)) from hp)).elim⟩
    rcases List.mem_cons.mp (I3.stkSub b z) with e | e
    . exact (f3 b hb).2.1 e
    . exact (f3 b hb).2.2.1 e
  have loop : ∀ s₄ : Shared, s₄ = { s3 with heap := h₁, toks := s2.toks + ([] : List (Str × Value)).length } ->
      codeAny (model X.prog X.w) X.A (.compLoop (.ListComp elt [⟨tg, iter, ifs, 0⟩] scope pos) 0 (.ref it) (.ref s2.heap.objs.size) (compEnvC scope cl s3.heap.objs.size X.env)) (RR (.ref s2.heap.objs.size) s3.heap.objs.size) s₄ := by
    rintro s₄ rfl
    refine codeAny_loop rfl (fun n s' => ∃ i σ' H', Inv (zcg X scope N cl s3 H3 fp) [] σ' H' s' ∧ tn i s'.heap ∧ (∀ b ∈ fp, H' b = none) ∧ W i n σ' H') ?_ m0 ⟨0, zgv js σ, H3, I4 _, st4, fun b hb => (f3 b hb).1, w0⟩
    rintro n s5 ⟨i, σ5, H5, I5, st5, fr5, w5⟩
    show wpAny _ X.A ((compTurn (.ListComp elt [⟨tg, iter, ifs, 0⟩] scope pos) 0 (.ref it) (.ref s2.heap.objs.size) (compEnvC scope cl s3.heap.objs.size X.env)).onRaise (fun x => do noteFrame x (compEnvC scope cl s3.heap.objs.size X.env); theTreesLotGoes x)) _ _ s5
    refine wpAny_noted ?_
    rw [compTurn_list]
    have nox : ∀ {α : Type} {t : Sem α} {Q : α -> Shared -> Prop} {E' : Value -> Shared -> Prop} {s' : Shared}, wpAny (model X.prog X.w) X.A t Q (fun _ _ => False) s' -> wpAny (model X.prog X.w) X.A t Q E' s' := fun h => wpAny_mono h (fun _ _ x => x) fun _ _ x => x.elim
    refine wpAny_bind (wpAny_standAt (wpAny_bind ?_))
    rcases turn i n σ5 H5 w5 with ⟨stop, qn⟩ | ⟨go, step⟩
    . refine nox (thn (T.done (zcg X scope N cl s3 H3 fp) rfl rfl rfl hc i [] s5 σ5 H5 _ I5 (stat fr5 rfl) st5 stop) fun r s6 ⟨hr, I6⟩ => ?_)
      subst hr
      obtain ⟨m6, hn6, _⟩ := id I6.loc
      exact wpAny_pure (hRR _ _ s3 s6 H3 H5 m6 I3 rfl I6.free hn6 (zDa I3 f3 I6) qn)
    . refine nox (thn (T.item (zcg X scope N cl s3 H3 fp) rfl rfl rfl hc i [] s5 σ5 H5 _ I5 (stat fr5 rfl) st5 go) fun r s6 ⟨u, hr, h6⟩ => ?_)
      subst hr
      refine wpAny_bind (nox (thn h6 fun _ s7 ⟨x, H7, I7, r7, y7, st7, fr7⟩ => ?_))
      have I7' := I7.pinned (stat fr7 rfl) (T.obj _ _ st7)
      refine wpAny_bind (nox (thn (pg _ s7 σ5 H7 x u _ I7' r7 (step x H7 y7)) fun _ s8 ⟨σ8, H8, I8, q8⟩ => ?_))
      refine wpAny_bind (nox (thn (pif _ s8 σ8 H8 _ I8 q8) fun ok s9 ⟨H9, I9, q9⟩ => ?_))
      have again : ∀ {σa : St} {Ha : Hp} {sa : Shared} {m' : Nat}, Inv (zcg X scope N cl s3 H3 fp) ([] ++ zhx fp s7.heap) σa Ha sa -> m' < n -> W (i + 1) m' σa Ha -> ∃ m, m < n ∧ ∃ i σ' H', Inv (zcg X scope N cl s3 H3 fp) [] σ' H' sa ∧ tn i sa.heap ∧ (∀ b ∈ fp, H' b = none) ∧ W i m σ' H' := fun {σa Ha sa m'} Ia hm wa => by
        refine ⟨m', hm, i + 1, σa, Ha, Ia.unpinned, T.keep _ _ _ st7 fun b hb o e => (Ia.pin (b, o) (List.mem_append_right _ (List.mem_append_right _ (ziU hb e)))).1, fun b hb => ?_, wa⟩
        obtain ⟨o, e, d⟩ := T.obj _ _ st7 b hb
        exact (Ia.pin (b, o) (List.mem_append_right _ (List.mem_append_right _ (ziU hb e)))).2.1
      cases ok with
      | false =>
        obtain ⟨m', hm, wa⟩ := q9
        exact wpAny_pure ⟨rfl, again I9 hm wa⟩
      | true =>
        refine wpAny_bind (wpAny_bind (nox (thn (pe _ s9 σ8 H9 _ I9 q9) fun y sa ⟨vy, Ha, Ia, ra, xs, hD, hz, m', hm, wa⟩ => ?_)))
        refine wpAny_bind (nox (thn (ztG _ sa σ8 Ha (.ref s2.heap.objs.size) [vy] (.ref s2.heap.objs.size) [y] (fun _ H' => H' = upd Ha s2.heap.objs.size (.lst (xs ++ [vy]))) Ia rfl (.cons ra .nil) ⟨_, _, _, rfl, rfl, hD, hz, rfl⟩) fun z sb ⟨vz, Hb, Ib, rb, eb⟩ => ?_))
        subst eb
        exact wpAny_pure (wpAny_pure ⟨rfl, again Ib hm wa⟩)
  exact codeAny_compStart_list (loop _ (by rw [<- hs3])) (T.self _ 0 _ _ _ st4 (loop _ (by rw [<- hs3])))
end
end L2
end
section
namespace L2
open PySem PySem.Spec PyProof.Rows
section
variable {X : Cx} {scope : Scope} {N : List Str} {js : List (Option Nat)} {tg iter elt : Expr} {ifs : List Expr} {wi : TI} {g : TG} {tc : TT} {te : TE} {pos : Pos}
theorem zbX.clos (S : zbX X scope N js) {pins : List (Addr × Obj)} {σ : St} {H : Hp} {s : Shared} (I : Inv X pins σ H s) :
    ∃ cl : List (Str × Addr), closureFor scope X.env = pure cl ∧ (∀ x c, cl.lookup x = some c -> (x, NameKind.free) ∈ scope.names ∧ X.env.cells.lookup x = some c) ∧
      (∀ x c, (x, NameKind.free) ∈ scope.names -> X.env.cells.lookup x = some c -> cl.lookup x = some c) :=
  zCW fun x hx hf => I.ok.has x.1 (S.free x hx hf)
theorem ztg (hc : X.calm = true) (S : zbX X scope N js) (hi : PI X tg iter wi) (Pt : zpz X scope N tg elt ifs g tc te) (hs : ∀ x, foldedSetIterable iter X.env x = pure x := by intro _; rfl) :
    PE X (.ListComp elt [⟨tg, iter, ifs, 0⟩] scope pos) (ziO js wi g tc te) := by
  intro pins s σ H Q I h
  obtain ⟨cl, hcl, h1, h2⟩ := S.clos I
  rw [eval_ListComp]
  refine wpAny_comprehension_free (use := none) (cl := cl) rfl hs hcl S.kind (fun x hx hl => by rw [S.names x hx, hl]) ?_
  refine wpAny_mono (hi pins s σ H _ I h) (fun v s1 p1 => wpAny_mono p1 (fun itv s2 p2 => ?_) fun _ _ e => e) fun _ _ e => e
  obtain ⟨it, fp, tn, J, H2, e, I2, T, st2, f2, r2⟩ := p2
  subst e
  refine zsG (RR := fun acc C => compPost (model X.prog X.w) X.A X.xe none (EP X pins σ Q) acc C) hc S Pt hcl h1 h2 I2 T st2 f2 r2 ?_
  intro D C s0 s' H0 H' m I0 hC hn hns I' q
  exact ⟨m, hns, fun h' hs' => ⟨.ref D, H', zt1 I0 hC hn I' hs', rfl, q⟩⟩
theorem zAe {j : Nat} {y : Str} {py spos : Pos} (hc : X.calm = true) (hN : X.N.Nodup) (hj : X.N[j]? = some y) (hy : X.env.scope.names.lookup y = some .local) (S : zbX X scope N js) (hi : PI X tg iter wi) (Pt : zpz X scope N tg elt ifs g tc te)
    (hsw : swapsWith (.ListComp elt [⟨tg, iter, ifs, 0⟩] scope pos) (some (.Name y py)) spos.line X.env = pure true := by rfl) (hs : ∀ x, foldedSetIterable iter X.env x = pure x := by intro _; rfl) :
    PS X (.Assign [.Name y py] (.ListComp elt [⟨tg, iter, ifs, 0⟩] scope pos) spos) (zpA (ziO js wi g tc te) (ziD j)) := by
  intro pins s σ H D I h
  obtain ⟨cl, hcl, h1, h2⟩ := S.clos I
  rw [exec_Assign_Name_used _ _ _ _ hsw]
  refine wpAny_bind (wpAny_standAt (wpAny_bind ?_))
  show wpAny _ X.A (do let _ <- comprehension (.ListComp elt [⟨tg, iter, ifs, 0⟩] scope pos) scope X.env _ (newList []) false (eval iter X.env) (some (assign (.Name y py) X.env))) _ _ s
  refine wpAny_bind (wpAny_mono (wpAny_comprehension_free (use := some (assign (.Name y py) X.env)) (Q := fun _ s' => SP X pins D .next s') (cl := cl) rfl hs hcl S.kind (fun x hx hl => by rw [S.names x hx, hl]) ?_) (fun _ s' hq => wpAny_pure (wpAny_pure hq)) fun _ _ e => e)
  refine wpAny_mono (hi pins s σ H _ I h) (fun v s1 p1 => wpAny_mono p1 (fun itv s2 p2 => ?_) fun _ _ e => e) fun _ _ e => e
  obtain ⟨it, fp, tn, J, H2, e, I2, T, st2, f2, r2⟩ := p2
  subst e
  refine zsG (Q := fun x H1 => ziD j x σ H1 D.nx) (RR := fun acc C => compPost (model X.prog X.w) X.A X.xe (some (assign (.Name y py) X.env)) (fun _ s' => SP X pins D .next s') acc C) hc S Pt hcl h1 h2 I2 T st2 f2 r2 ?_
  intro D' C s0 s' H0 H' m I0 hC hn hns I' q
  show wpAny _ X.A (assign (.Name y py) X.env (.ref D')) _ _ _
  refine wpAny_assign_Name (zs8 I' hN hj (.inl hy) (v := .ref D') rfl (fun s'' I'' ⟨a, sb, ha⟩ => ?_) (.inr hy))
  have hCa : C ≠ a := by
    rcases ha with ha | ha
    . rw [ha, hC]; exact Nat.ne_of_gt I0.lt
    . obtain ⟨v, o, ho, _⟩ := I0.cell y a ha
      rw [hC]; exact Nat.ne_of_gt (Heap.lt_size ho)
  exact ⟨m, hns.sameBut sb hCa, fun h' hs' => ⟨_, _, zt1 I0 hC hn I'' hs', q⟩⟩
end
end L2
end
section
namespace L2
open PySem PySem.Spec PyProof.Rows
inductive D where
  | non | bl (b : Bool) | int (i : Int) | str (x : Str) | lst (ds : List D) | tup (ds : List D)
mutual
def Dat (H : Hp) : D -> V -> Prop
  | .non, v => v = .non
  | .bl b, v => v = .bl b
  | .int i, v => v = .int i
  | .str x, v => v = .str x
  | .lst ds, v => ∃ a xs, v = .ref a ∧ Rd H a (.lst xs) ∧ zbI H ds xs
  | .tup ds, v => ∃ a xs, v = .ref a ∧ H a = some (.tup xs) ∧ zbI H ds xs
def zbI (H : Hp) : List D -> List V -> Prop
  | [], xs => xs = []
  | d :: ds, xs => ∃ x r, xs = x :: r ∧ Dat H d x ∧ zbI H ds r
end
mutual
def dpt : D -> Nat
  | .lst ds => zcz ds + 1
  | .tup ds => zcz ds + 1
  | _ => 0
def zcz : List D -> Nat
  | [] => 0
  | d :: r => max (dpt d) (zcz r)
end
mutual
def eqD : D -> D -> Bool
  | .lst a, .lst b => zce a b
  | .tup a, .tup b => zce a b
  | .non, .non => true
  | .bl a, .bl b => a == b
  | .bl a, .int b => (if a then 1 else 0) == b
  | .int a, .bl b => a == (if b then 1 else 0)
  | .int a, .int b => a == b
  | .str a, .str b => a == b
  | _, _ => false
def zce : List D -> List D -> Bool
  | [], [] => true
  | a :: r, b :: q => eqD a b && zce r q
  | _, _ => false
end
theorem zbI.length {H : Hp} : ∀ {ds : List D} {xs : List V}, zbI H ds xs -> ds.length = xs.length
  | [], xs, h => by unfold zbI at h; subst h; rfl
  | d :: ds, xs, h => by
    unfold zbI at h
    obtain ⟨x, r, h1, h2, h3⟩ := h
    subst h1
    simp [zbI.length h3]
theorem zbI.get {H : Hp} : ∀ {ds : List D} {xs : List V} {i : Nat} {x : V}, zbI H ds xs -> xs[i]? = some x -> ∃ d, ds[i]? = some d ∧ Dat H d x
  | [], xs, i, x, h, e => by unfold zbI at h; subst h; simp at e
  | d :: ds, xs, i, x, h, e => by
    unfold zbI at h
    obtain ⟨y, r, h1, h2, h3⟩ := h
    subst h1
    cases i with
    | zero => simp at e; subst e; exact ⟨d, rfl, h2⟩
    | succ i =>
      obtain ⟨d', e1, e2⟩ := zbI.get (i := i) h3 (by simpa using e)
      exact ⟨d', by simpa using e1, e2⟩
theorem zsq : ∀ {ds : List D} {i : Nat} {d : D}, ds[i]? = some d -> dpt d <= zcz ds
  | [], _, _, e => by simp at e
  | d' :: ds, 0, d, e => by simp at e; subst e; unfold zcz; omega
  | d' :: ds, i + 1, d, e => by
    have := zsq (ds := ds) (i := i) (d := d) (by simpa using e)
    unfold zcz; omega
theorem zgj : ∀ (a b : List D), a.length = b.length -> ((List.range a.length).all fun j => eqD (a.getD j .non) (b.getD j .non)) = zce a b
  | [], [], _ => by simp [zce]
  | x :: a, y :: b, h => by
    have ih := zgj a b (by simpa using h)
    rw [List.length_cons, List.range_succ_eq_map, List.all_cons, List.all_map]
    show (eqD x y && (List.range a.length).all fun j => eqD (a.getD j .non) (b.getD j .non)) = zce (x :: a) (y :: b)
    rw [ih, zce]
theorem zgq : ∀ (a b : List D), a.length ≠ b.length -> zce a b = false
  | [], [], h => absurd rfl h
  | [], _ :: _, _ => by unfold zce; rfl
  | _ :: _, [], _ => by unfold zce; rfl
  | x :: a, y :: b, h => by
    rw [zce, zgq a b (by simpa using h), Bool.and_false]
end L2
end
section
namespace L2
open PySem PySem.Spec PyProof.Rows
section
variable {X : Cx} {pins : List (Addr × Obj)} {σ : St} {H : Hp} {s : Shared}
theorem Inv.noboth (I : Inv X pins σ H s) {a : Addr} {xs ys : List V} (h : Rd H a (.lst xs)) (h' : H a = some (.tup ys)) : False := by
  rcases h with h | ⟨o, h⟩
  . rw [h] at h'; cases h'
  . rw [h] at h'; cases h'
mutual
theorem zpQ (I : Inv X pins σ H s) : ∀ (d d' : D) (v : V), Dat H d v -> Dat H d' v -> eqD d d' = true
  | .non, d', v, h, h' => by
    unfold Dat at h; subst h
    cases d' <;> simp [Dat] at h' <;> simp [eqD]
  | .bl b, d', v, h, h' => by
    unfold Dat at h; subst h
    cases d' <;> simp [Dat] at h' <;> simp [eqD, h']
  | .int b, d', v, h, h' => by
    unfold Dat at h; subst h
    cases d' <;> simp [Dat] at h' <;> simp [eqD, h']
  | .str b, d', v, h, h' => by
    unfold Dat at h; subst h
    cases d' <;> simp [Dat] at h' <;> simp [eqD, h']
  | .lst ds, d', v, h, h' => by
    unfold Dat at h
    obtain ⟨a, xs, rfl, h1, h2⟩ := h
    cases d' with
    | lst ds' =>
      unfold Dat at h'
      obtain ⟨b, ys, e, h3, h4⟩ := h'
      cases e
      have e := I.list_inj (.inl h1) (.inl h3)
      subst e
      unfold eqD
      exact zpW I ds ds' xs h2 h4
    | tup ds' =>
      unfold Dat at h'
      obtain ⟨b, ys, e, h3, h4⟩ := h'
      cases e
      exact (I.noboth h1 h3).elim
    | _ => simp [Dat] at h'
  | .tup ds, d', v, h, h' => by
    unfold Dat at h
    obtain ⟨a, xs, rfl, h1, h2⟩ := h
    cases d' with
    | tup ds' =>
      unfold Dat at h'
      obtain ⟨b, ys, e, h3, h4⟩ := h'
      cases e
      have e := I.tuple_inj (SqT.of h1) (SqT.of h3)
      subst e
      unfold eqD
      exact zpW I ds ds' xs h2 h4
    | lst ds' =>
      unfold Dat at h'
      obtain ⟨b, ys, e, h3, h4⟩ := h'
      cases e
      exact (I.noboth h3 h1).elim
    | _ => simp [Dat] at h'
theorem zpW (I : Inv X pins σ H s) : ∀ (ds ds' : List D) (vs : List V), zbI H ds vs -> zbI H ds' vs -> zce ds ds' = true
  | [], ds', vs, h, h' => by
    unfold zbI at h; subst h
    cases ds' with
    | nil => simp [zce]
    | cons d r => simp [zbI] at h'
  | d :: ds, ds', vs, h, h' => by
    unfold zbI at h
    obtain ⟨x, r, rfl, h1, h2⟩ := h
    cases ds' with
    | nil => simp [zbI] at h'
    | cons d' r' =>
      unfold zbI at h'
      obtain ⟨y, q, e, h3, h4⟩ := h'
      cases e
      unfold zce
      rw [zpQ I d d' x h1 h3, zpW I ds r' r h2 h4]
      rfl
end
theorem Dat.flat {d : D} {v : V} (h : Dat H d v) : (zb6 v = true ∧ ∀ d' v', Dat H d' v' -> zb6 v' = true -> eqD d d' = eqV v v') ∨ (∃ ds a xs, d = .lst ds ∧ v = .ref a ∧ Rd H a (.lst xs) ∧ zbI H ds xs) ∨ (∃ ds a xs, d = .tup ds ∧ v = .ref a ∧ H a = some (.tup xs) ∧ zbI H ds xs) := by
  cases d with
  | lst ds => unfold Dat at h; obtain ⟨a, xs, e, h1, h2⟩ := h; exact .inr (.inl ⟨ds, a, xs, rfl, e, h1, h2⟩)
  | tup ds => unfold Dat at h; obtain ⟨a, xs, e, h1, h2⟩ := h; exact .inr (.inr ⟨ds, a, xs, rfl, e, h1, h2⟩)
  | _ =>
    unfold Dat at h; subst h
    refine .inl ⟨rfl, fun d' v' h' f => ?_⟩
    cases d' with
    | lst ds => unfold Dat at h'; obtain ⟨a, xs, rfl, _⟩ := h'; cases f
    | tup ds => unfold Dat at h'; obtain ⟨a, xs, rfl, _⟩ := h'; cases f
    | _ => unfold Dat at h'; subst h'; simp [eqD, eqV]
theorem zg4 {A : Around} {ds ds' : List D} {xs ys : List V} {us ws : List Value}
    (ih : ∀ (d d' : D) (x y : V) (u v : Value), dpt d <= zcz ds -> Dat H d x -> Dat H d' y -> zu x u -> zu y v -> SeqAt.EqAt A s u v (eqD d d'))
    (h : zbI H ds xs) (h' : zbI H ds' ys) (r : zy xs us) (r' : zy ys ws) (j : Nat) (h1 : j < us.toArray.size) (h2 : j < ws.toArray.size) :
    SeqAt.EqAt A s us.toArray[j] ws.toArray[j] (eqD (ds.getD j .non) (ds'.getD j .non)) := by
  have l1 := r.length
  have l2 := r'.length
  have k1 := h.length
  have k2 := h'.length
  have h1' : j < us.length := by simpa using h1
  have h2' : j < ws.length := by simpa using h2
  have e1 : xs[j]? = some xs[j] := List.getElem?_eq_getElem (by omega)
  have e2 : ys[j]? = some ys[j] := List.getElem?_eq_getElem (by omega)
  obtain ⟨d, ed, hd⟩ := h.get e1
  obtain ⟨d', ed', hd'⟩ := h'.get e2
  obtain ⟨u, eu, ru⟩ := r.get e1
  obtain ⟨w, ew, rw'⟩ := r'.get e2
  have g1 : ds.getD j .non = d := by rw [List.getD_eq_getElem?_getD, ed]; rfl
  have g2 : ds'.getD j .non = d' := by rw [List.getD_eq_getElem?_getD, ed']; rfl
  have g3 : us.toArray[j] = u := by
    have : us[j]? = some us[j] := List.getElem?_eq_getElem h1'
    rw [eu] at this; simpa using (Option.some.inj this).symm
  have g4 : ws.toArray[j] = w := by
    have : ws[j]? = some ws[j] := List.getElem?_eq_getElem h2'
    rw [ew] at this; simpa using (Option.some.inj this).symm
  rw [g1, g2, g3, g4]
  exact ih d d' _ _ u w (zsq ed) hd hd' ru rw'
theorem zDx {A : Around} {y x : V} {u v : Value} (ry : zu y u) (rx : zu x v) (fy : zb6 y = true) (fx : zb6 x = true) : SeqAt.RcAt A s u v (eqV y x) := by
  cases y with
  | non =>
    cases ry
    cases x with
    | non =>
      cases rx
      exact SeqAt.RcAt.none_none
    | bl b =>
      cases rx
      exact SeqAt.RcAt.none_bool _
    | int b =>
      obtain ⟨_, rfl⟩ := rx
      exact SeqAt.RcAt.none_int _ _
    | str b =>
      obtain ⟨_, rfl⟩ := rx
      exact SeqAt.RcAt.none_str _ _
    | _ => exact absurd (show false = true from fx) Bool.false_ne_true
  | bl a =>
    cases ry
    cases x with
    | non =>
      cases rx
      exact SeqAt.RcAt.bool_none _
    | bl b =>
      cases rx
      exact SeqAt.RcAt.bool_bool _ _
    | int b =>
      obtain ⟨_, rfl⟩ := rx
      exact SeqAt.RcAt.bool_int _ _ _
    | str b =>
      obtain ⟨_, rfl⟩ := rx
      exact SeqAt.RcAt.bool_str _ _ _
    | _ => exact absurd (show false = true from fx) Bool.false_ne_true
  | int a =>
    obtain ⟨_, rfl⟩ := ry
    cases x with
    | non =>
      cases rx
      exact SeqAt.RcAt.int_none _ _
    | bl b =>
      cases rx
      exact SeqAt.RcAt.int_bool _ _ _
    | int b =>
      obtain ⟨_, rfl⟩ := rx
      exact SeqAt.RcAt.int_int _ _ _ _
    | str b =>
      obtain ⟨_, rfl⟩ := rx
      exact SeqAt.RcAt.int_str _ _ _ _
    | _ => exact absurd (show false = true from fx) Bool.false_ne_true
  | str a =>
    obtain ⟨_, rfl⟩ := ry
    cases x with
    | non =>
      cases rx
      exact SeqAt.RcAt.str_none _ _
    | bl b =>
      cases rx
      exact SeqAt.RcAt.str_bool _ _ _
    | int b =>
      obtain ⟨_, rfl⟩ := rx
      exact SeqAt.RcAt.str_int _ _ _ _
    | str b =>
      obtain ⟨_, rfl⟩ := rx
      exact SeqAt.RcAt.str_str _ _ _ _
    | _ => exact absurd (show false = true from fx) Bool.false_ne_true
  | _ => exact absurd (show false = true from fy) Bool.false_ne_true
theorem zAY {A : Around} {y x : V} {u v : Value} (ry : zu y u) (rx : zu x v) (fy : zb6 y = true) (fx : zb6 x = true) : SeqAt.RcNeAt A s u v (!eqV y x) := by
  cases y with
  | non =>
    cases ry
    cases x with
    | non =>
      cases rx
      exact SeqAt.RcNeAt.none_none
    | bl b =>
      cases rx
      exact SeqAt.RcNeAt.none_bool _
    | int b =>
      obtain ⟨_, rfl⟩ := rx
      exact SeqAt.RcNeAt.none_int _ _
    | str b =>
      obtain ⟨_, rfl⟩ := rx
      exact SeqAt.RcNeAt.none_str _ _
    | _ => exact absurd (show false = true from fx) Bool.false_ne_true
  | bl a =>
    cases ry
    cases x with
    | non =>
      cases rx
      exact SeqAt.RcNeAt.bool_none _
    | bl b =>
      cases rx
      exact SeqAt.RcNeAt.bool_bool _ _
    | int b =>
      obtain ⟨_, rfl⟩ := rx
      exact SeqAt.RcNeAt.bool_int _ _ _
    | str b =>
      obtain ⟨_, rfl⟩ := rx
      exact SeqAt.RcNeAt.bool_str _ _ _
    | _ => exact absurd (show false = true from fx) Bool.false_ne_true
  | int a =>
    obtain ⟨_, rfl⟩ := ry
    cases x with
    | non =>
      cases rx
      exact SeqAt.RcNeAt.int_none _ _
    | bl b =>
      cases rx
      exact SeqAt.RcNeAt.int_bool _ _ _
    | int b =>
      obtain ⟨_, rfl⟩ := rx
      exact SeqAt.RcNeAt.int_int _ _ _ _
    | str b =>
      obtain ⟨_, rfl⟩ := rx
      exact SeqAt.RcNeAt.int_str _ _ _ _
    | _ => exact absurd (show false = true from fx) Bool.false_ne_true
  | str a =>
    obtain ⟨_, rfl⟩ := ry
    cases x with
    | non =>
      cases rx
      exact SeqAt.RcNeAt.str_none _ _
    | bl b =>
      cases rx
      exact SeqAt.RcNeAt.str_bool _ _ _
    | int b =>
      obtain ⟨_, rfl⟩ := rx
      exact SeqAt.RcNeAt.str_int _ _ _ _
    | str b =>
      obtain ⟨_, rfl⟩ := rx
      exact SeqAt.RcNeAt.str_str _ _ _ _
    | _ => exact absurd (show false = true from fx) Bool.false_ne_true
  | _ => exact absurd (show false = true from fy) Bool.false_ne_true
theorem zpv {A : Around} {y : V} {u : Value} {a : Addr} {its : Array Value} (hu : A.units < cLine) (ry : zu y u) (fy : zb6 y = true) (p : s.heap.IsList a its) : SeqAt.EqAt A s u (.ref a) false ∧ SeqAt.EqAt A s (.ref a) u false := by
  cases y with
  | non =>
    cases ry
    exact ⟨SeqAt.EqAt.none_list p hu, SeqAt.EqAt.list_none p hu⟩
  | bl a =>
    cases ry
    exact ⟨SeqAt.EqAt.bool_list _ p hu, SeqAt.EqAt.list_bool _ p hu⟩
  | int a =>
    obtain ⟨_, rfl⟩ := ry
    exact ⟨SeqAt.EqAt.int_list _ _ p hu, SeqAt.EqAt.list_int _ _ p hu⟩
  | str a =>
    obtain ⟨_, rfl⟩ := ry
    exact ⟨SeqAt.EqAt.str_list _ _ p hu, SeqAt.EqAt.list_str _ _ p hu⟩
  | _ => exact absurd (show false = true from fy) Bool.false_ne_true
theorem zpB {A : Around} {y : V} {u : Value} {a : Addr} {its : Array Value} (hu : A.units < cLine) (ry : zu y u) (fy : zb6 y = true) (p : s.heap.IsTuple a its) : SeqAt.EqAt A s u (.ref a) false ∧ SeqAt.EqAt A s (.ref a) u false := by
  cases y with
  | non =>
    cases ry
    exact ⟨SeqAt.EqAt.none_tuple p hu, SeqAt.EqAt.tuple_none p hu⟩
  | bl a =>
    cases ry
    exact ⟨SeqAt.EqAt.bool_tuple _ p hu, SeqAt.EqAt.tuple_bool _ p hu⟩
  | int a =>
    obtain ⟨_, rfl⟩ := ry
    exact ⟨SeqAt.EqAt.int_tuple _ _ p hu, SeqAt.EqAt.tuple_int _ _ p hu⟩
  | str a =>
    obtain ⟨_, rfl⟩ := ry
    exact ⟨SeqAt.EqAt.str_tuple _ _ p hu, SeqAt.EqAt.tuple_str _ _ p hu⟩
  | _ => exact absurd (show false = true from fy) Bool.false_ne_true
theorem zt0 {A : Around} {y : V} {u : Value} {a : Addr} {its : Array Value} (hu : A.units < cLine) (ry : zu y u) (fy : zb6 y = true) (p : s.heap.IsList a its) : SeqAt.RcAt A s u (.ref a) false ∧ SeqAt.RcAt A s (.ref a) u false := by
  cases y with
  | non =>
    cases ry
    exact ⟨SeqAt.RcAt.none_list p hu, SeqAt.RcAt.list_none p hu⟩
  | bl a =>
    cases ry
    exact ⟨SeqAt.RcAt.bool_list _ p hu, SeqAt.RcAt.list_bool _ p hu⟩
  | int a =>
    obtain ⟨_, rfl⟩ := ry
    exact ⟨SeqAt.RcAt.int_list _ _ p hu, SeqAt.RcAt.list_int _ _ p hu⟩
  | str a =>
    obtain ⟨_, rfl⟩ := ry
    exact ⟨SeqAt.RcAt.str_list _ _ p hu, SeqAt.RcAt.list_str _ _ p hu⟩
  | _ => exact absurd (show false = true from fy) Bool.false_ne_true
theorem zsM {A : Around} {y : V} {u : Value} {a : Addr} {its : Array Value} (hu : A.units < cLine) (ry : zu y u) (fy : zb6 y = true) (p : s.heap.IsTuple a its) : SeqAt.RcAt A s u (.ref a) false ∧ SeqAt.RcAt A s (.ref a) u false := by
  cases y with
  | non =>
    cases ry
    exact ⟨SeqAt.RcAt.none_tuple p hu, SeqAt.RcAt.tuple_none p hu⟩
  | bl a =>
    cases ry
    exact ⟨SeqAt.RcAt.bool_tuple _ p hu, SeqAt.RcAt.tuple_bool _ p hu⟩
  | int a =>
    obtain ⟨_, rfl⟩ := ry
    exact ⟨SeqAt.RcAt.int_tuple _ _ p hu, SeqAt.RcAt.tuple_int _ _ p hu⟩
  | str a =>
    obtain ⟨_, rfl⟩ := ry
    exact ⟨SeqAt.RcAt.str_tuple _ _ p hu, SeqAt.RcAt.tuple_str _ _ p hu⟩
  | _ => exact absurd (show false = true from fy) Bool.false_ne_true
theorem ztc {A : Around} {y : V} {u : Value} {a : Addr} {its : Array Value} (hu : A.units < cLine) (ry : zu y u) (fy : zb6 y = true) (p : s.heap.IsList a its) : SeqAt.RcNeAt A s u (.ref a) true ∧ SeqAt.RcNeAt A s (.ref a) u true := by
  cases y with
  | non =>
    cases ry
    exact ⟨SeqAt.RcNeAt.none_list p hu, SeqAt.RcNeAt.list_none p hu⟩
  | bl a =>
    cases ry
    exact ⟨SeqAt.RcNeAt.bool_list _ p hu, SeqAt.RcNeAt.list_bool _ p hu⟩
  | int a =>
    obtain ⟨_, rfl⟩ := ry
    exact ⟨SeqAt.RcNeAt.int_list _ _ p hu, SeqAt.RcNeAt.list_int _ _ p hu⟩
  | str a =>
    obtain ⟨_, rfl⟩ := ry
    exact ⟨SeqAt.RcNeAt.str_list _ _ p hu, SeqAt.RcNeAt.list_str _ _ p hu⟩
  | _ => exact absurd (show false = true from fy) Bool.false_ne_true
theorem zrU {A : Around} {y : V} {u : Value} {a : Addr} {its : Array Value} (hu : A.units < cLine) (ry : zu y u) (fy : zb6 y = true) (p : s.heap.IsTuple a its) : SeqAt.RcNeAt A s u (.ref a) true ∧ SeqAt.RcNeAt A s (.ref a) u true := by
  cases y with
  | non =>
    cases ry
    exact ⟨SeqAt.RcNeAt.none_tuple p hu, SeqAt.RcNeAt.tuple_none p hu⟩
  | bl a =>
    cases ry
    exact ⟨SeqAt.RcNeAt.bool_tuple _ p hu, SeqAt.RcNeAt.tuple_bool _ p hu⟩
  | int a =>
    obtain ⟨_, rfl⟩ := ry
    exact ⟨SeqAt.RcNeAt.int_tuple _ _ p hu, SeqAt.RcNeAt.tuple_int _ _ p hu⟩
  | str a =>
    obtain ⟨_, rfl⟩ := ry
    exact ⟨SeqAt.RcNeAt.str_tuple _ _ p hu, SeqAt.RcNeAt.tuple_str _ _ p hu⟩
  | _ => exact absurd (show false = true from fy) Bool.false_ne_true
theorem zdz {d : D} {v : V} (h : Dat H d v) (f : zb6 v = true) (ds : List D) : eqD d (.lst ds) = false ∧ eqD d (.tup ds) = false ∧ eqD (.lst ds) d = false ∧ eqD (.tup ds) d = false := by
  cases d with
  | lst e => unfold Dat at h; obtain ⟨_, _, rfl, _⟩ := h; cases f
  | tup e => unfold Dat at h; obtain ⟨_, _, rfl, _⟩ := h; cases f
  | _ => simp [eqD]
theorem zjb (I : Inv X pins σ H s) : ∀ (n : Nat) (A : Around) (d d' : D) (x y : V) (u v : Value), A.units + n < cLine -> dpt d <= n -> Dat H d x -> Dat H d' y -> zu x u -> zu y v -> SeqAt.EqAt A s u v (eqD d d') := by
  intro n
  induction n with
  | zero =>
    intro A d d' x y u v hu hn h h' r r'
    rcases h.flat with ⟨f, q⟩ | ⟨ds, a, xs, rfl, rfl, h1, h2⟩ | ⟨ds, a, xs, rfl, rfl, h1, h2⟩
    . rcases h'.flat with ⟨f', q'⟩ | ⟨ds, a, xs, rfl, rfl, h1, h2⟩ | ⟨ds, a, xs, rfl, rfl, h1, h2⟩
      . rw [q d' y h' f']; exact zph r r' f f'
      . cases r'
        obtain ⟨its, _, p, _⟩ := I.list (.inl h1)
        rw [(zdz h f ds).1]; exact (zpv (by omega) r f p.isList).1
      . cases r'
        obtain ⟨its, _, p, _⟩ := I.tuple (SqT.of h1)
        rw [(zdz h f ds).2.1]; exact (zpB (by omega) r f (show s.heap.IsTuple a its.toArray from p)).1
    . unfold dpt at hn; omega
    . unfold dpt at hn; omega
  | succ n ih =>
    intro A d d' x y u v hu hn h h' r r'
    rcases h.flat with ⟨f, q⟩ | ⟨ds, a, xs, rfl, rfl, h1, h2⟩ | ⟨ds, a, xs, rfl, rfl, h1, h2⟩
    . rcases h'.flat with ⟨f', q'⟩ | ⟨ds, a, xs, rfl, rfl, h1, h2⟩ | ⟨ds, a, xs, rfl, rfl, h1, h2⟩
      . rw [q d' y h' f']; exact zph r r' f f'
      . cases r'
        obtain ⟨its, _, p, _⟩ := I.list (.inl h1)
        rw [(zdz h f ds).1]; exact (zpv (by omega) r f p.isList).1
      . cases r'
        obtain ⟨its, _, p, _⟩ := I.tuple (SqT.of h1)
        rw [(zdz h f ds).2.1]; exact (zpB (by omega) r f (show s.heap.IsTuple a its.toArray from p)).1
    . cases r
      obtain ⟨its, rv, p, _⟩ := I.list (.inl h1)
      rcases h'.flat with ⟨f', q'⟩ | ⟨ds', b, ys, rfl, rfl, h3, h4⟩ | ⟨ds', b, ys, rfl, rfl, h3, h4⟩
      . rw [(zdz h' f' ds).2.2.1]; exact (zpv (by omega) r' f' p.isList).2
      . cases r'
        obtain ⟨its', rv', p', _⟩ := I.list (.inl h3)
        by_cases hab : a = b
        . subst hab
          rw [zpQ I _ _ _ h h']; exact SeqAt.EqAt.same _
        . refine SeqAt.EqAt.of_refs hab ?_
          by_cases hl : ds.length = ds'.length
          . have e := SeqAt.RcAt.lists (A := A) p.isList p'.isList (by simp [<- rv.length, <- rv'.length, <- h2.length, <- h4.length, hl]) (by omega)
              (fun j j1 j2 => zg4 (fun d d' x y u v hd a1 a2 a3 a4 => ih A.in1 d d' x y u v (by show A.units + 1 + n < cLine; omega) (by unfold dpt at hn; omega) a1 a2 a3 a4) h2 h4 rv rv' j j1 j2)
            have e2 : its.toArray.size = ds.length := by simp [<- rv.length, <- h2.length]
            rw [e2, zgj ds ds' hl] at e
            unfold eqD; exact e
          . unfold eqD
            rw [zgq _ _ hl]
            exact SeqAt.RcAt.lists_lengths p.isList p'.isList (by simpa [<- rv.length, <- rv'.length, <- h2.length, <- h4.length] using hl) (by omega)
      . cases r'
        obtain ⟨its', rv', p', _⟩ := I.tuple (SqT.of h3)
        unfold eqD
        exact SeqAt.EqAt.list_tuple p.isList (show s.heap.IsTuple b its'.toArray from p') (by omega)
    . cases r
      obtain ⟨its, rv, p0, _⟩ := I.tuple (SqT.of h1)
      have p : s.heap.IsTuple a its.toArray := p0
      rcases h'.flat with ⟨f', q'⟩ | ⟨ds', b, ys, rfl, rfl, h3, h4⟩ | ⟨ds', b, ys, rfl, rfl, h3, h4⟩
      . rw [(zdz h' f' ds).2.2.2]; exact (zpB (by omega) r' f' p).2
      . cases r'
        obtain ⟨its', rv', p', _⟩ := I.list (.inl h3)
        unfold eqD
        exact SeqAt.EqAt.tuple_list p p'.isList (by omega)
      . cases r'
        obtain ⟨its', rv', p0', _⟩ := I.tuple (SqT.of h3)
        have p' : s.heap.IsTuple b its'.toArray := p0'
        by_cases hab : a = b
        . subst hab
          rw [zpQ I _ _ _ h h']; exact SeqAt.EqAt.same _
        . refine SeqAt.EqAt.of_refs hab ?_
          have e := SeqAt.RcAt.tuples (A := A) p p' (by omega)
            (fun j j1 j2 => zg4 (fun d d' x y u v hd a1 a2 a3 a4 => ih A.in1 d d' x y u v (by show A.units + 1 + n < cLine; omega) (by unfold dpt at hn; omega) a1 a2 a3 a4) h2 h4 rv rv' j j1 j2)
          have e2 : its.toArray.size = ds.length := by simp [<- rv.length, <- h2.length]
          have e3 : its'.toArray.size = ds'.length := by simp [<- rv'.length, <- h4.length]
          rw [e2, e3] at e
          unfold eqD
          by_cases hl : ds.length = ds'.length
          . rw [show min ds.length ds'.length = ds.length by omega, zgj ds ds' hl, beq_iff_eq.mpr hl, Bool.and_true] at e
            exact e
          . rw [beq_eq_false_iff_ne.mpr hl, Bool.and_false] at e
            rw [zgq _ _ hl]; exact e
theorem zCn (I : Inv X pins σ H s) {A : Around} {d d' : D} {x y : V} {u v : Value} (hu : A.units + dpt d < cLine) (h : Dat H d x) (h' : Dat H d' y) (r : zu x u) (r' : zu y v) : SeqAt.RcAt A s u v (eqD d d') := by
  rcases h.flat with ⟨f, q⟩ | ⟨ds, a, xs, rfl, rfl, h1, h2⟩ | ⟨ds, a, xs, rfl, rfl, h1, h2⟩
  . rcases h'.flat with ⟨f', q'⟩ | ⟨ds, a, xs, rfl, rfl, h1, h2⟩ | ⟨ds, a, xs, rfl, rfl, h1, h2⟩
    . rw [q d' y h' f']; exact zDx r r' f f'
    . cases r'
      obtain ⟨its, _, p, _⟩ := I.list (.inl h1)
      rw [(zdz h f ds).1]; exact (zt0 (by omega) r f p.isList).1
    . cases r'
      obtain ⟨its, _, p, _⟩ := I.tuple (SqT.of h1)
      rw [(zdz h f ds).2.1]; exact (zsM (by omega) r f (show s.heap.IsTuple a its.toArray from p)).1
  . cases r
    obtain ⟨its, rv, p, _⟩ := I.list (.inl h1)
    rcases h'.flat with ⟨f', q'⟩ | ⟨ds', b, ys, rfl, rfl, h3, h4⟩ | ⟨ds', b, ys, rfl, rfl, h3, h4⟩
    . rw [(zdz h' f' ds).2.2.1]; exact (zt0 (by omega) r' f' p.isList).2
    . cases r'
      obtain ⟨its', rv', p', _⟩ := I.list (.inl h3)
      by_cases hl : ds.length = ds'.length
      . have e := SeqAt.RcAt.lists (A := A) p.isList p'.isList (by simp [<- rv.length, <- rv'.length, <- h2.length, <- h4.length, hl]) (by omega)
          (fun j j1 j2 => zg4 (fun d d' x y u v hd a1 a2 a3 a4 => zjb I (zcz ds) A.in1 d d' x y u v (by unfold dpt at hu; show A.units + 1 + zcz ds < cLine; omega) hd a1 a2 a3 a4) h2 h4 rv rv' j j1 j2)
        have e2 : its.toArray.size = ds.length := by simp [<- rv.length, <- h2.length]
        rw [e2, zgj ds ds' hl] at e
        unfold eqD; exact e
      . unfold eqD
        rw [zgq _ _ hl]
        exact SeqAt.RcAt.lists_lengths p.isList p'.isList (by simpa [<- rv.length, <- rv'.length, <- h2.length, <- h4.length] using hl) (by omega)
    . cases r'
      obtain ⟨its', rv', p', _⟩ := I.tuple (SqT.of h3)
      unfold eqD
      exact SeqAt.RcAt.list_tuple p.isList (show s.heap.IsTuple b its'.toArray from p') (by omega)
  . cases r
    obtain ⟨its, rv, p0, _⟩ := I.tuple (SqT.of h1)
    have p : s.heap.IsTuple a its.toArray := p0
    rcases h'.flat with ⟨f', q'⟩ | ⟨ds', b, ys, rfl, rfl, h3, h4⟩ | ⟨ds', b, ys, rfl, rfl, h3, h4⟩
    . rw [(zdz h' f' ds).2.2.2]; exact (zsM (by omega) r' f' p).2
    . cases r'
      obtain ⟨its', rv', p', _⟩ := I.list (.inl h3)
      unfold eqD
      exact SeqAt.RcAt.tuple_list p p'.isList (by omega)
    . cases r'
      obtain ⟨its', rv', p0', _⟩ := I.tuple (SqT.of h3)
      have p' : s.heap.IsTuple b its'.toArray := p0'
      have e := SeqAt.RcAt.tuples (A := A) p p' (by omega)
        (fun j j1 j2 => zg4 (fun d d' x y u v hd a1 a2 a3 a4 => zjb I (zcz ds) A.in1 d d' x y u v (by unfold dpt at hu; show A.units + 1 + zcz ds < cLine; omega) hd a1 a2 a3 a4) h2 h4 rv rv' j j1 j2)
      have e2 : its.toArray.size = ds.length := by simp [<- rv.length, <- h2.length]
      have e3 : its'.toArray.size = ds'.length := by simp [<- rv'.length, <- h4.length]
      rw [e2, e3] at e
      unfold eqD
      by_cases hl : ds.length = ds'.length
      . rw [show min ds.length ds'.length = ds.length by omega, zgj ds ds' hl, beq_iff_eq.mpr hl, Bool.and_true] at e
        exact e
      . rw [beq_eq_false_iff_ne.mpr hl, Bool.and_false] at e
        rw [zgq _ _ hl]; exact e
theorem zCr (I : Inv X pins σ H s) {A : Around} {d d' : D} {x y : V} {u v : Value} (hu : A.units + dpt d < cLine) (h : Dat H d x) (h' : Dat H d' y) (r : zu x u) (r' : zu y v) : SeqAt.RcNeAt A s u v (!eqD d d') := by
  rcases h.flat with ⟨f, q⟩ | ⟨ds, a, xs, rfl, rfl, h1, h2⟩ | ⟨ds, a, xs, rfl, rfl, h1, h2⟩
  . rcases h'.flat with ⟨f', q'⟩ | ⟨ds, a, xs, rfl, rfl, h1, h2⟩ | ⟨ds, a, xs, rfl, rfl, h1, h2⟩
    . rw [q d' y h' f']; exact zAY r r' f f'
    . cases r'
      obtain ⟨its, _, p, _⟩ := I.list (.inl h1)
      rw [(zdz h f ds).1]; exact (ztc (by omega) r f p.isList).1
    . cases r'
      obtain ⟨its, _, p, _⟩ := I.tuple (SqT.of h1)
      rw [(zdz h f ds).2.1]; exact (zrU (by omega) r f (show s.heap.IsTuple a its.toArray from p)).1
  . cases r
    obtain ⟨its, rv, p, _⟩ := I.list (.inl h1)
    rcases h'.flat with ⟨f', q'⟩ | ⟨ds', b, ys, rfl, rfl, h3, h4⟩ | ⟨ds', b, ys, rfl, rfl, h3, h4⟩
    . rw [(zdz h' f' ds).2.2.1]; exact (ztc (by omega) r' f' p.isList).2
    . cases r'
      obtain ⟨its', rv', p', _⟩ := I.list (.inl h3)
      by_cases hl : ds.length = ds'.length
      . have e := SeqAt.RcNeAt.lists (A := A) p.isList p'.isList (by simp [<- rv.length, <- rv'.length, <- h2.length, <- h4.length, hl]) (by omega)
          (fun j j1 j2 => zg4 (fun d d' x y u v hd a1 a2 a3 a4 => zjb I (zcz ds) A.in1 d d' x y u v (by unfold dpt at hu; show A.units + 1 + zcz ds < cLine; omega) hd a1 a2 a3 a4) h2 h4 rv rv' j j1 j2)
        have e2 : its.toArray.size = ds.length := by simp [<- rv.length, <- h2.length]
        rw [e2, zgj ds ds' hl] at e
        unfold eqD; exact e
      . unfold eqD
        rw [zgq _ _ hl]
        exact SeqAt.RcNeAt.lists_lengths p.isList p'.isList (by simpa [<- rv.length, <- rv'.length, <- h2.length, <- h4.length] using hl) (by omega)
    . cases r'
      obtain ⟨its', rv', p', _⟩ := I.tuple (SqT.of h3)
      unfold eqD
      exact SeqAt.RcNeAt.list_tuple p.isList (show s.heap.IsTuple b its'.toArray from p') (by omega)
  . cases r
    obtain ⟨its, rv, p0, _⟩ := I.tuple (SqT.of h1)
    have p : s.heap.IsTuple a its.toArray := p0
    rcases h'.flat with ⟨f', q'⟩ | ⟨ds', b, ys, rfl, rfl, h3, h4⟩ | ⟨ds', b, ys, rfl, rfl, h3, h4⟩
    . rw [(zdz h' f' ds).2.2.2]; exact (zrU (by omega) r' f' p).2
    . cases r'
      obtain ⟨its', rv', p', _⟩ := I.list (.inl h3)
      unfold eqD
      exact SeqAt.RcNeAt.tuple_list p p'.isList (by omega)
    . cases r'
      obtain ⟨its', rv', p0', _⟩ := I.tuple (SqT.of h3)
      have p' : s.heap.IsTuple b its'.toArray := p0'
      have e := SeqAt.RcNeAt.tuples (A := A) p p' (by omega)
        (fun j j1 j2 => zg4 (fun d d' x y u v hd a1 a2 a3 a4 => zjb I (zcz ds) A.in1 d d' x y u v (by unfold dpt at hu; show A.units + 1 + zcz ds < cLine; omega) hd a1 a2 a3 a4) h2 h4 rv rv' j j1 j2)
      have e2 : its.toArray.size = ds.length := by simp [<- rv.length, <- h2.length]
      have e3 : its'.toArray.size = ds'.length := by simp [<- rv'.length, <- h4.length]
      rw [e2, e3] at e
      unfold eqD
      by_cases hl : ds.length = ds'.length
      . rw [show min ds.length ds'.length = ds.length by omega, zgj ds ds' hl, beq_iff_eq.mpr hl, Bool.and_true] at e
        exact e
      . rw [beq_eq_false_iff_ne.mpr hl, Bool.and_false] at e
        rw [zgq _ _ hl]; exact e
end
section
variable {X : Cx}
def ziq : R2 := fun x y H Q => ∃ d d', Dat H d x ∧ Dat H d' y ∧ dpt d <= 100 ∧ Q (.bl (eqD d d')) H
def ziK : R2 := fun x y H Q => ∃ d d', Dat H d x ∧ Dat H d' y ∧ dpt d <= 100 ∧ Q (.bl (!eqD d d')) H
theorem zEC {k : Nat} (hr : zR k X.A) : OpR X (compareOp .Eq) ziq := by
  intro pins s σ H x y v u Q I r r' h
  obtain ⟨d, d', h1, h2, h3, q⟩ := h
  exact zCn I (by have := hr.un; omega) h1 h2 r r' _ _ _ _ ⟨.bl _, H, I, rfl, q⟩
theorem zDv {k : Nat} (hr : zR k X.A) : OpR X (compareOp .NotEq) ziK := by
  intro pins s σ H x y v u Q I r r' h
  obtain ⟨d, d', h1, h2, h3, q⟩ := h
  exact zCr I (by have := hr.un; omega) h1 h2 r r' _ _ _ _ ⟨.bl _, H, I, rfl, q⟩
end
end L2
end
section
namespace L2
open PySem PySem.Spec PyProof.Rows
section
variable {X : Cx}
def zEX (K : PySem.W.Frag) : List V -> Hp -> VK -> Prop := fun xs H Q => ∃ x t b, zdD K H x t ∧ ((∃ n, xs = [x, .ty n] ∧ PySem.W.kitOne K t (.type n) = some b) ∨ (∃ C, xs = [x, .ref C] ∧ PySem.W.kitOne K t (.ref C) = some b)) ∧ Q (.bl b) H
theorem zs3 : zew X (.builtin "isinstance") (zEX X.K) := by
  intro pins s σ H xs us Q I r h
  obtain ⟨x, t, b, ty, h | h, q⟩ := h
  . obtain ⟨n, rfl, hk⟩ := h
    obtain ⟨u, c, rfl, ru, rc⟩ := zpy r
    cases rc
    exact ztT I ru ty hk fun tk => ⟨.bl b, H, I.tok _, rfl, q⟩
  . obtain ⟨C, rfl, hk⟩ := h
    obtain ⟨u, c, rfl, ru, rc⟩ := zpy r
    cases rc
    exact ztT I ru ty hk fun tk => ⟨.bl b, H, I.tok _, rfl, q⟩
theorem zBG : OpR X (compareOp .Is) (fun x y H Q => ∃ b c, x = .bl b ∧ y = .bl c ∧ Q (.bl (b == c)) H) := by
  intro pins s σ H x y v u Q I r r' h
  obtain ⟨b, c, rfl, rfl, q⟩ := h
  cases r; cases r'
  refine wpAny_is_plain rfl ⟨.bl (b == c), H, I, ?_, q⟩
  cases b <;> cases c <;> rfl
theorem zAq : OpR X (compareOp .IsNot) (fun x y H Q => ∃ b c, x = .bl b ∧ y = .bl c ∧ Q (.bl (!(b == c))) H) := by
  intro pins s σ H x y v u Q I r r' h
  obtain ⟨b, c, rfl, rfl, q⟩ := h
  cases r; cases r'
  refine wpAny_isNot_plain rfl ⟨.bl (!(b == c)), H, I, ?_, q⟩
  cases b <;> cases c <;> rfl
theorem zso {xs : List V} {us : List Value} (r : zy xs us) {i : Nat} {v : Value} (e : us.toArray[i]? = some v) : ∃ x, xs[i]? = some x ∧ zu x v := by
  have e' : us[i]? = some v := by simpa using e
  have hi : i < us.length := (List.getElem?_eq_some_iff.mp e').1
  have l := r.length
  have ex : xs[i]? = some xs[i] := List.getElem?_eq_getElem (by omega)
  obtain ⟨u, eu, ru⟩ := r.get ex
  rw [e'] at eu; cases eu
  exact ⟨_, ex, ru⟩
theorem zBx (bs : List Bool) : ((List.range bs.length).all fun i => bs.getD i false) = bs.all id := by
  rw [Bool.eq_iff_iff, List.all_eq_true, List.all_eq_true]
  constructor
  . intro q b hb
    obtain ⟨i, hi, e⟩ := List.getElem_of_mem hb
    have := q i (List.mem_range.mpr hi)
    rw [List.getD_eq_getElem?_getD, List.getElem?_eq_getElem hi, e] at this
    exact this
  . intro q i hi
    have hi' := List.mem_range.mp hi
    rw [List.getD_eq_getElem?_getD, List.getElem?_eq_getElem hi']
    exact q _ (List.getElem_mem hi')
theorem zBk (bs : List Bool) : ((List.range bs.length).any fun i => bs.getD i false) = bs.any id := by
  rw [Bool.eq_iff_iff, List.any_eq_true, List.any_eq_true]
  constructor
  . rintro ⟨i, hi, q⟩
    have hi' := List.mem_range.mp hi
    rw [List.getD_eq_getElem?_getD, List.getElem?_eq_getElem hi'] at q
    exact ⟨_, List.getElem_mem hi', q⟩
  . rintro ⟨b, hb, q⟩
    obtain ⟨i, hi, e⟩ := List.getElem_of_mem hb
    refine ⟨i, List.mem_range.mpr hi, ?_⟩
    rw [List.getD_eq_getElem?_getD, List.getElem?_eq_getElem hi, e]
    exact q
theorem zpm {pins : List (Addr × Obj)} {σ : St} {H : Hp} {s : Shared} {a : Addr} {its : Array Value} (I : Inv X pins σ H s) {h' : Heap} {tk : Nat}
    (hk : ∀ b o, b ∉ [s.heap.objs.size] -> (s.heap.push { cls := .type "list_iterator", data := .fields #[.ref a, .int 0 0] }).get? b = some o -> h'.get? b = some o) : Inv X pins σ H { s with heap := h', toks := tk } :=
  I.kept fun b o e => hk b o (by simpa using Nat.ne_of_lt (Heap.lt_size e)) (Heap.get?_push_of_some _ e)
theorem ztn {A : Around} {bs : List Bool} {its : List Value} (rv : zy (bs.map V.bl) its) : TruthOf X.prog X.w A (fun i v => its.toArray[i]? = some v) (fun i => bs.getD i false) := by
  intro i v s Q E hp hq
  obtain ⟨x, ex, rx⟩ := zso rv hp
  rw [List.getElem?_map] at ex
  cases eb : bs[i]? with
  | none => rw [eb] at ex; cases ex
  | some b =>
    rw [eb] at ex
    cases ex
    cases rx
    have hq' : Q (bs.getD i false) s := hq
    rw [List.getD_eq_getElem?_getD, eb] at hq'
    exact wpAny_truthy_bool hq'
theorem zAw (hc : X.calm = true) : zew X (.builtin "all") (fun xs H Q => ∃ (a : Addr) (bs : List Bool), xs = [.ref a] ∧ SqL X.K H a (bs.map V.bl) ∧ Q (.bl (bs.all id)) H) := by
  intro pins s σ H xs us Q I r h
  obtain ⟨a, bs, rfl, hq, q⟩ := h
  obtain ⟨u, rfl, ru⟩ := zeO r
  cases ru
  obtain ⟨its, rv, p, _⟩ := I.list hq
  refine call_all_walk (wpAny_pyIter_list p.isList ?_)
  obtain ⟨o, ho, _⟩ := id p.isList
  refine ⟨s.heap.objs.size, _, _, _, _, _, _, rfl, Walks.list (A := X.A.in1) (I.ok.hd hc) _ a (Nat.ne_of_lt (Heap.lt_size ho)) its.toArray, ⟨⟨_, Heap.get?_push_size _ rfl, rfl, rfl⟩, p.isList.at fun o e => Heap.get?_push_of_some _ e⟩, ztn (A := X.A.in1) rv, fun h' tk hk => ?_⟩
  refine ⟨.bl (bs.all id), H, zpm (a := a) (its := its.toArray) I hk, ?_, q⟩
  have e : its.toArray.size = bs.length := by simp [<- rv.length]
  rw [e, zBx]; rfl
theorem zDr (hc : X.calm = true) : zew X (.builtin "any") (fun xs H Q => ∃ (a : Addr) (bs : List Bool), xs = [.ref a] ∧ SqL X.K H a (bs.map V.bl) ∧ Q (.bl (bs.any id)) H) := by
  intro pins s σ H xs us Q I r h
  obtain ⟨a, bs, rfl, hq, q⟩ := h
  obtain ⟨u, rfl, ru⟩ := zeO r
  cases ru
  obtain ⟨its, rv, p, _⟩ := I.list hq
  refine call_any_walk (wpAny_pyIter_list p.isList ?_)
  obtain ⟨o, ho, _⟩ := id p.isList
  refine ⟨s.heap.objs.size, _, _, _, _, _, _, rfl, Walks.list (A := X.A.in1) (I.ok.hd hc) _ a (Nat.ne_of_lt (Heap.lt_size ho)) its.toArray, ⟨⟨_, Heap.get?_push_size _ rfl, rfl, rfl⟩, p.isList.at fun o e => Heap.get?_push_of_some _ e⟩, ztn (A := X.A.in1) rv, fun h' tk hk => ?_⟩
  refine ⟨.bl (bs.any id), H, zpm (a := a) (its := its.toArray) I hk, ?_, q⟩
  have e : its.toArray.size = bs.length := by simp [<- rv.length]
  rw [e, zBk]; rfl
theorem zBq : ∀ (ns : List Int) (k : Nat), k <= ns.length -> preSum (fun i => ns.getD i 0) k = (ns.take k).sum := by
  intro ns k
  induction k with
  | zero => intro _; simp [preSum]
  | succ k ih =>
    intro hk
    have e : ns[k]? = some ns[k] := List.getElem?_eq_getElem (by omega)
    rw [List.take_add_one, e, List.sum_append]
    show preSum (fun i => ns.getD i 0) k + ns.getD k 0 = _
    rw [ih (by omega), List.getD_eq_getElem?_getD, e]
    simp
theorem zBT (hc : X.calm = true) : zew X (.builtin "sum") (fun xs H Q => ∃ (a : Addr) (ns : List Int), xs = [.ref a] ∧ SqL X.K H a (ns.map V.int) ∧ Q (.int ns.sum) H) := by
  intro pins s σ H xs us Q I r h
  obtain ⟨a, ns, rfl, hq, q⟩ := h
  obtain ⟨u, rfl, ru⟩ := zeO r
  cases ru
  obtain ⟨its, rv, p, _⟩ := I.list hq
  refine call_sum_walkG (wpAny_pyIter_list p.isList ?_)
  obtain ⟨o, ho, _⟩ := id p.isList
  refine ⟨s.heap.objs.size, _, _, _, _, _, fun i => ns.getD i 0, rfl, Walks.list (A := X.A.in1) (I.ok.hd hc) _ a (Nat.ne_of_lt (Heap.lt_size ho)) its.toArray, ⟨⟨_, Heap.get?_push_size _ rfl, rfl, rfl⟩, p.isList.at fun o e => Heap.get?_push_of_some _ e⟩, ?_, ?_, fun h' tk t' hk => ?_⟩
  . intro b hb
    rw [Heap.size_push]
    rcases List.mem_cons.mp hb with e | e
    . rw [e]; exact Nat.lt_succ_self _
    . have e' : b = a := by simpa using e
      rw [e']; exact Nat.lt_succ_of_lt (Heap.lt_size ho)
  . intro i v hp
    obtain ⟨x, ex, rx⟩ := zso rv hp
    rw [List.getElem?_map] at ex
    cases eb : ns[i]? with
    | none => rw [eb] at ex; cases ex
    | some b =>
      rw [eb] at ex
      cases ex
      obtain ⟨t, rfl⟩ := rx
      exact ⟨t, by show Value.int b t = Value.int (ns.getD i 0) t; rw [List.getD_eq_getElem?_getD, eb]; rfl⟩
  . refine ⟨.int ns.sum, H, zpm (a := a) (its := its.toArray) I hk, ⟨t', ?_⟩, q⟩
    have e : its.toArray.size = ns.length := by simp [<- rv.length]
    rw [e, zBq ns ns.length (Nat.le_refl _), List.take_length]
def ze2 (ns : List Int) : List Int := firstMet (fun i => ns.getD i 0) ns.length
theorem zAW (hc : X.calm = true) : zew X (.type "set") (fun xs H Q => ∃ (a : Addr) (ns : List Int), xs = [.ref a] ∧ SqL X.K H a (ns.map V.int) ∧ ns.length < 4000 ∧ ∀ p, H p = none -> Q (.ref p) (upd H p (.set (fun k => (ze2 ns).any (· == k)) (ze2 ns).length))) := by
  intro pins s σ H xs us Q I r h
  obtain ⟨a, ns, rfl, hq, hn, q⟩ := h
  obtain ⟨u, rfl, ru⟩ := zeO r
  cases ru
  obtain ⟨its, rv, p, _⟩ := I.list hq
  have e : its.toArray.size = ns.length := by simp [<- rv.length]
  refine call_set_list (items := its.toArray) (ns := ns) (I.ok.hd hc) p.isList (by simpa using zr6 rv) (by rw [e]; unfold scanBound; omega) fun h' tk hS hk => ?_
  rw [e] at hS
  exact ⟨.ref s.heap.objs.size, _, I.laid (a := s.heap.objs.size) (o := .set (fun k => (ze2 ns).any (· == k)) (ze2 ns).length) (fun b o eb => hk b o (Heap.lt_size eb) eb) (Nat.le_refl _) hS, rfl, q _ (I.hok.fresh (Nat.le_refl _))⟩
theorem zC9 : zew X (.builtin "len") (fun xs H Q => ∃ p S n, xs = [.ref p] ∧ H p = some (.set S n) ∧ Q (.int n) H) := by
  intro pins s σ H xs us Q I r h
  obtain ⟨p, S, n, rfl, hp, q⟩ := h
  obtain ⟨u, rfl, ru⟩ := zeO r
  cases ru
  obtain ⟨o, es, ep, t, ho, hex, hd, _, _, hb, hf, hn⟩ := I.hok p _ hp
  refine call_len_set ho hex hd hf (by unfold scanBound at hb; omega) ⟨.int n, H, I.tok _, ⟨_, by rw [hn]⟩, q⟩
end
end L2
end
section
namespace L2
open PySem PySem.Spec PyProof.Rows
def zsI (osc scope : Scope) (N0 N : List Str) (js : List (Option Nat)) : Bool :=
  decide (scope.kind = .function) && scope.names.all (fun y => decide (y.2 ≠ .cell) && decide (scope.names.lookup y.1 = some y.2) && (decide (y.2 ≠ .free) || decide (osc.names.lookup y.1 = some .cell) || decide (osc.names.lookup y.1 = some .free))) &&
    decide (js.length = N.length) && (List.range js.length).all fun i => match js[i]? with
      | some (some k) => match N[i]?, N0[k]? with
        | some x, some y => decide (x = y) && decide (scope.names.lookup x = some .free)
        | _, _ => false
      | _ => true
theorem zbX.of {X : Cx} {osc scope : Scope} {N0 N : List Str} {js : List (Option Nat)} (hs : X.env.scope = osc) (hN : X.N = N0) (hc : zsI osc scope N0 N js = true) : zbX X scope N js := by
  unfold zsI at hc
  rw [Bool.and_eq_true, Bool.and_eq_true, Bool.and_eq_true] at hc
  obtain ⟨⟨⟨h1, h2⟩, h3⟩, h4⟩ := hc
  rw [List.all_eq_true] at h2 h4
  have g : ∀ y ∈ scope.names, y.2 ≠ .cell ∧ scope.names.lookup y.1 = some y.2 ∧ (y.2 ≠ .free ∨ osc.names.lookup y.1 = some .cell ∨ osc.names.lookup y.1 = some .free) := fun y hy => by
    have := h2 y hy
    simp only [Bool.and_eq_true, Bool.or_eq_true, decide_eq_true_eq] at this
    exact ⟨this.1.1, this.1.2, by rcases this.2 with (z | z) | z <;> simp [z]⟩
  refine ⟨of_decide_eq_true h1, fun y hy => (g y hy).1, fun y hy => (g y hy).2.1, fun y hy hf => ?_, of_decide_eq_true h3, fun i k e => ?_⟩
  . rcases (g y hy).2.2 with z | z | z
    . exact absurd hf z
    . left; show X.env.scope.names.lookup y.1 = _; rw [hs]; exact z
    . right; show X.env.scope.names.lookup y.1 = _; rw [hs]; exact z
  . have hi : i < js.length := (List.getElem?_eq_some_iff.mp e).1
    have q := h4 i (List.mem_range.mpr hi)
    rw [e] at q
    cases e1 : N[i]? with
    | none => rw [e1] at q; cases q
    | some x =>
      cases e2 : N0[k]? with
      | none =>
        rw [e1] at q
        dsimp only at q
        rw [e2] at q
        cases q
      | some y =>
        rw [e1] at q
        dsimp only at q
        rw [e2] at q
        simp only [Bool.and_eq_true, decide_eq_true_eq] at q
        exact ⟨x, rfl, by rw [hN, e2, q.1], q.2⟩
section
variable {K : PySem.W.Frag} {a D : Addr} {xs : List V} {g : TG} {tc : TT} {te : TE} {σ : St} {H1 : Hp} {js : List (Option Nat)} {Q : VK}
end
section
variable {prog : Program} {w : World} {A : Around} {E : Value -> Shared -> Prop} {s : Shared}
theorem zFy {sl : Addr} {vu : Value} {t1 t2 : Tok} {Q : Int × Int × Nat -> Shared -> Prop} (hs : s.heap.IsSliceOf sl (.int 1 t1) .none (.int (-1) t2))
    (h : Q (1, -1, 2) s) : wpAny (model prog w) A (Builtin.Slice.sliceApplied (.ref sl) (pure (3 : Int))) Q E s := by
  obtain ⟨os, hos, hcs, hds⟩ := id hs
  unfold Builtin.Slice.sliceApplied Builtin.Slice.sliceFields
  refine wpAny_bind (wpAny_bind (wpAny_field hos hds (x := .int 1 t1) rfl (wpAny_bind (wpAny_field hos hds (x := .none) rfl (wpAny_bind (wpAny_field hos hds (x := .int (-1) t2) rfl (wpAny_pure ?_)))))))
  refine wpAny_bind (HT.slicePart_ (.int (-1) t2) ?_)
  show wpAny _ _ (if ((-1 : Int) == 0) = true then _ else _) _ _ s
  rw [if_neg (by decide)]
  exact wpAny_bind (HT.slicePart_ (.int 1 t1) (wpAny_bind (HT.slicePart_ .none (wpAny_bind (wpAny_pure (wpAny_pure h))))))
theorem zAI {t sl : Addr} {v0 v1 v2 : Value} {t1 t2 : Tok} {Q : Value -> Shared -> Prop} (ht : IsTup s.heap t #[v0, v1, v2]) (hs : s.heap.IsSliceOf sl (.int 1 t1) .none (.int (-1) t2))
    (h : Q (.ref s.heap.objs.size) { s with heap := s.heap.push { cls := .type "tuple", data := .seq #[v1, v0] } }) : wpAny (model prog w) A (getItem (.ref t) (.ref sl)) Q E s := by
  obtain ⟨os, hos, hcs, hds⟩ := id hs
  have hTs : s.TypeIs (.ref sl) "slice" := ⟨os, hos, hcs⟩
  unfold getItem
  try with_reducible refine wpAny_holding ?_
  first | refine wpAny_bind (wpAny_pure ?_) | skip
  refine wpAny_bind (wpAny_sequenceKey ht.typeIs (by decide) ?_)
  refine wpAny_bind (wpAny_callSpecial?_slot (name := Str.ofString "__getitem__") ht.typeIs PyProof.Rows.slot_tuple_getitem
    (wpAny_call_entry PyProof.Rows.slot_tuple_getitem ht.typeIs entry_tuple_getitem ?_ (args_tuple_getitem _ _)))
  show wpAny _ _ (Builtin.Tuple.tupleItemsOf (.ref t) >>= _) _ _ s
  refine wpAny_bind (tupleItemsOf_ ht ?_)
  refine wpAny_bind (wpAny_typeOf hTs ?_)
  rw [if_pos (by decide)]
  refine wpAny_bind (zFy (vu := .none) hs ?_)
  have hz : sizeOk (.seq #[v1, v0]) := by show 2 <= sizeLine; decide
  first
    | exact wpAny_bind (m := Builtin.Tuple.tupleExact _) (wpAny_newObj_type (wpAny_pure ⟨_, rfl, wpAny_pure h⟩) hz)
    | exact wpAny_bind (m := Builtin.Tuple.tupleExact _) (wpAny_newObj_type (wpAny_bind (wpAny_pure (wpAny_pure ⟨_, rfl, wpAny_pure h⟩))) hz)
    | exact wpAny_bind (wpAny_bind (m := Builtin.Tuple.tupleExact _) (wpAny_newObj_type (wpAny_pure (wpAny_pure ⟨_, rfl, wpAny_pure h⟩)) hz))
    | exact wpAny_bind (wpAny_bind (m := Builtin.Tuple.tupleExact _) (wpAny_newObj_type (wpAny_pure ⟨_, rfl, wpAny_pure h⟩) hz))
end
section
variable {X : Cx} {e st : Expr} {te : TE} {lo hi : Option Expr} {tl th ts : TO} {pos p2 : Pos}
def zD9 (te : TE) (tl th ts : TO) : TE := fun σ H Q => te σ H fun x H1 => tl σ H1 fun l H2 => th σ H2 fun u H3 => ts σ H3 fun k H4 => l = some 1 ∧ u = none ∧ k = some (-1) ∧ ∃ a p q r, x = .ref a ∧ H4 a = some (.tup [p, q, r]) ∧
  ∀ b, H4 b = none -> Q (.ref b) (upd H4 b (.tup [q, p]))
theorem zEh (he : PE X e te) (hl : PO X lo tl) (hu : PO X hi th) (hst : PO X (some st) ts) : PE X (.Subscript e (.Slice lo hi (some st) p2) pos) (zD9 te tl th ts) := by
  intro pins s σ H Q I h
  refine Subscript_ (thn (he pins s σ H _ I h) fun v s1 ⟨x, H1, I1, r1, q1⟩ => ?_)
  refine wpAny_Slice (thn (hl pins s1 σ H1 _ I1 q1) fun vl s2 ⟨l, H2, I2, pl, q2⟩ => thn (hu pins s2 σ H2 _ I2 q2) fun vu s3 ⟨u, H3, I3, pu, q3⟩ => thn (hst pins s3 σ H3 _ I3 q3) fun vs s4 ⟨k, H4, I4, ps, q4⟩ => ?_)
  obtain ⟨rfl, rfl, rfl, a, p, q, r, rfl, ha, q5⟩ := q4
  obtain ⟨t1, rfl⟩ : ∃ t, vl = .int 1 t := by cases pl; exact ⟨_, rfl⟩
  obtain rfl : vu = .none := by cases pu; rfl
  obtain ⟨t2, rfl⟩ : ∃ t, vs = .int (-1) t := by cases ps; exact ⟨_, rfl⟩
  cases r1
  have I5 : Inv X pins σ H4 { s4 with heap := s4.heap.push { cls := .type "slice", data := .fields #[.int 1 t1, .none, .int (-1) t2] } } := I4.kept (t' := s4.toks) fun b ob q => Heap.get?_push_of_some _ q
  show wpAny (model X.prog X.w) X.A (subscriptTail e (.Slice lo hi (some st) p2) (.ref a) (.ref s4.heap.objs.size)) (EP X pins σ Q) X.xe { s4 with heap := s4.heap.push { cls := .type "slice", data := .fields #[.int 1 t1, .none, .int (-1) t2] } }
  obtain ⟨its, rv, ht, hz⟩ := I5.tuple (SqT.of ha)
  obtain ⟨u0, r0, rfl, rv0, rv'⟩ : ∃ u r0, its = u :: r0 ∧ zu p u ∧ zy [q, r] r0 := by cases rv with | cons a b => exact ⟨_, _, rfl, a, b⟩
  obtain ⟨u1, u2, rfl, rv1, rv2⟩ := zpy rv'
  refine tail_any (ops := [.ref a, .ref s4.heap.objs.size]) ht.typeIs slot_tuple_getitem.lookup (zAI ht (Heap.IsSliceOf.new ..) ?_) (by with_unfolding_all rfl)
  refine ⟨.ref _, _, I5.laid (t' := s4.toks) (o := .tup [q, p]) (fun b ob q => Heap.get?_push_of_some _ q) (Nat.le_refl _) ?_, rfl, q5 _ (I5.hok.fresh (Nat.le_refl _))⟩
  exact ⟨by show 2 <= sizeLine; decide, [u1, u0], .cons rv1 (.cons rv0 .nil), IsTup.new _ _⟩
end
end L2
namespace L2
open PySem PySem.Spec PyProof.Rows
structure ztZ (K : PySem.W.Frag) (C : Addr) : Prop where
  ha : PySem.W.findIn K (.ref C) "__class__" = some (some (.builtin "object.__class__"))
  hn : PySem.W.specialIn K (.builtin "object.__class__") "__get__" = some (some (.builtin "getset_descriptor.__get__"))
  htk : PySem.W.takesIn K (.builtin "object.__class__") = some true
  hm : PySem.W.mroIn K C (.type "object") = some true
structure DF (K : PySem.W.Frag) (x q : Str) (st : Stmt) (ps : List Str) where
  a : Addr
  d : FuncData
  F : Fun K x q st a d
  b : zdB K d ps []
structure CF (K : PySem.W.Frag) (mg : Str -> Option Value) (x : Str) where
  c : Addr
  m : mg x = some (.ref c)
  cl : Cls K c
  ic : ztZ K c
structure VF (mg : Str -> Option Value) (x : Str) (v : V) where
  u : Value
  m : mg x = some u
  r : zu v u
def Isa (K : PySem.W.Frag) (C C' : Addr) (b : Bool) : Prop := PySem.W.kitOne K (.ref C) (.ref C') = some b
end L2
namespace L2
open PySem
section
variable {env : Env} {es : List Expr}
theorem zC {c j p} : starEach (.Constant c j p :: es) env = (false, eval (.Constant c j p) env) :: starEach es env := rfl
theorem zi {x p} : starEach (.Name x p :: es) env = (false, eval (.Name x p) env) :: starEach es env := rfl
theorem zds {a o b p} : starEach (.BinOp a o b p :: es) env = (false, eval (.BinOp a o b p) env) :: starEach es env := rfl
theorem zim {o a p} : starEach (.UnaryOp o a p :: es) env = (false, eval (.UnaryOp o a p) env) :: starEach es env := rfl
theorem zbq {f a k p} : starEach (.Call f a k p :: es) env = (false, eval (.Call f a k p) env) :: starEach es env := rfl
theorem zcf {o a p} : starEach (.Attribute o a p :: es) env = (false, eval (.Attribute o a p) env) :: starEach es env := rfl
theorem zbP {o a p} : starEach (.Subscript o a p :: es) env = (false, eval (.Subscript o a p) env) :: starEach es env := rfl
theorem ziS {a p} : starEach (.List a p :: es) env = (false, eval (.List a p) env) :: starEach es env := rfl
theorem zh4 {a k p} : starEach (.Tuple a k p :: es) env = (false, eval (.Tuple a k p) env) :: starEach es env := rfl
theorem ze3 {a g sc p} : starEach (.ListComp a g sc p :: es) env = (false, eval (.ListComp a g sc p) env) :: starEach es env := rfl
end
end L2
namespace L2
open PySem
end L2
namespace L2
open PySem
end L2
namespace L2
open PySem
end L2
end
section
namespace L2
open PySem PySem.Spec PyProof.Rows
section
variable {X : Cx} {pins : List (Addr × Obj)} {σ : St} {H : Hp} {s : Shared} {h' : Heap}
theorem Inv.turnedL {t' : Nat} {fp : List Addr} (I : Inv X pins σ H s) (hf : ∀ b ∈ fp, zdu X pins H b) (k : ∀ b o, b ∉ fp -> s.heap.get? b = some o -> h'.get? b = some o) : Inv X pins σ H { s with heap := h', toks := t' } := by
  have nit : ∀ b u, H b = some u -> b ∉ fp := fun b u e z => by rw [(hf b z).1] at e; cases e
  refine I.step (g' := s.gens) (d' := s.drawn) (ch := fp) (fun b hb => ?_) (fun b o _ _ hc e _ => k b o hc e) (fun b o _ _ hc e _ => ⟨o.slots, k b o hc e⟩) (fun _ _ _ _ n => n)
    (fun b o hc e => ⟨o, k b o hc e⟩) (fun _ _ e => e) (fun _ _ _ e => e) (fun b ps e => ⟨#[], by rw [e]; simp⟩) (fun m hm => ?_) (fun b u e => ?_) I.bare
  . obtain ⟨f0, f1, f2, f3, f4, f5⟩ := hf b hb
    exact ⟨f3, f1, f4, f5⟩
  . obtain ⟨o, es, ep, ho, r⟩ := hm
    exact ⟨o, es, ep, k _ o (fun z => (hf _ z).2.1 rfl) ho, r⟩
  . refine (I.hok b u e).stay (fun c v hc q => k c v ?_ q) (fun _ q => q) fun _ _ q => q
    rcases hc with z | z
    . rw [z]; exact nit b u e
    . exact nit c _ z
theorem Inv.turnNew {t' : Nat} {fp : List Addr} {T : Addr} {u : HO} (I : Inv X pins σ H s) (hf : ∀ b ∈ fp, zdu X pins H b) (k : ∀ b o, b ∉ fp -> s.heap.get? b = some o -> h'.get? b = some o) (hT : s.heap.objs.size <= T)
    (new : zbn X.prog X.w (upd H T u) h' T u) : Inv X pins σ (upd H T u) { s with heap := h', toks := t' } := by
  have nit : ∀ b u, H b = some u -> b ∉ fp := fun b u e z => by rw [(hf b z).1] at e; cases e
  have hn : H T = none := I.hok.fresh hT
  refine I.step (g' := s.gens) (d' := s.drawn) (ch := fp) (fun b hb => ?_) (fun b o _ _ hc e _ => k b o hc e) (fun b o _ _ hc e _ => ⟨o.slots, k b o hc e⟩) (fun b o _ e n => by rw [zD (Nat.ne_of_lt (Nat.lt_of_lt_of_le (Heap.lt_size e) hT))]; exact n)
    (fun b o hc e => ⟨o, k b o hc e⟩) (fun b xs e => by rw [zD (zdN e hn)]; exact e) (fun b o xs e => by rw [zD (zdN e hn)]; exact e) (fun b ps e => ⟨#[], by rw [zD (zdN e hn), e]; simp⟩) (fun m hm => ?_) (fun b v e => ?_) I.bare
  . obtain ⟨f0, f1, f2, f3, f4, f5⟩ := hf b hb
    exact ⟨f3, f1, f4, f5⟩
  . obtain ⟨o, es, ep, ho, r⟩ := hm
    exact ⟨o, es, ep, k _ o (fun z => (hf _ z).2.1 rfl) ho, r⟩
  . by_cases hb : b = T
    . subst hb; rw [zbN] at e; cases e; exact new
    . rw [zD hb] at e
      refine (I.hok b v e).stay (fun c v hc q => k c v ?_ q) (fun c q => by rw [zD (zdN q hn)]; exact q) fun c xs q => by rw [zD (zdN q hn)]; exact q
      rcases hc with z | z
      . rw [z]; exact nit b _ e
      . exact nit c _ z
end
def Ite (K : PySem.W.Frag) (a : Addr) : It :=
  ⟨fun i H => ∃ xs x, SqL K H a xs ∧ xs[i]? = some x, fun i H x H' => ∃ T v, x = .ref T ∧ H T = none ∧ H' = upd H T (.tup [.int i, v]) ∧ ∀ xs, SqL K H a xs -> xs[i]? = some v, fun i H => ∃ xs, SqL K H a xs ∧ xs.length <= i⟩
theorem zDg {P : Program} {w : World} {K : PySem.W.Frag} {es : List Expr} {k : Nat} {tp : Pos} (a e it : Addr) (hei : e ≠ it) :
    zgs P w K (.Tuple es k tp) (Ite K a) [e, it] e (fun i h => (∃ old, IsEnum h e it i old) ∧ h.IsListIter it a i) where
  mem := by simp
  obj := fun i h ⟨⟨old, he⟩, hi⟩ b hb => by
    rcases List.mem_cons.mp hb with rfl | hb
    . exact ⟨_, he, fun v z => nomatch z⟩
    . have eb : b = it := by simpa using hb
      subst eb
      obtain ⟨o, e, c, d⟩ := hi
      exact ⟨o, e, fun v z => by rw [d] at z; cases z⟩
  keep := fun i h h' ⟨⟨old, he⟩, hi⟩ kk => ⟨⟨old, kk e (by simp) _ he⟩, hi.at fun o x => kk it (by simp) o x⟩
  item := by
    intro X hP hw hK hc i pins s σ H E I hf ⟨⟨old, he⟩, hi⟩ ⟨xs, x, hq, hx⟩
    subst hP hw hK
    obtain ⟨its, rv, p, hz⟩ := I.list hq
    obtain ⟨u, hu, ru⟩ := rv.get hx
    refine wpAny_pyNext_enum_item he hi p.isList (x := u) (by simpa using hu) hei fun h' ho hi' hT hsz hk => ⟨_, rfl, ?_⟩
    refine wpAny_letOwnedTupleGo_enum ho fun h2 he2 hs2 => ?_
    have hlt : e < s.heap.objs.size := Heap.lt_size he
    have kk : ∀ b o, b ∉ [e, it] -> s.heap.get? b = some o -> h2.get? b = some o := fun b o hb eb => (hs2.2 b (fun z => hb (by simp [z]))).trans (hk b o (fun z => hb (by simp [z])) (fun z => hb (by simp [z])) eb)
    have hT2 : h2.get? s.heap.objs.size = some { cls := .type "tuple", data := .seq #[.int i s.toks, u] } := (hs2.2 _ (Nat.ne_of_gt hlt)).trans hT
    have I2 : Inv X pins σ (upd H s.heap.objs.size (.tup [.int i, x])) { s with heap := h2, toks := s.toks + 1 } := I.turnNew hf kk (Nat.le_refl _) ⟨by show 2 <= sizeLine; decide, [.int i s.toks, u], .cons ⟨_, rfl⟩ (.cons ru .nil), ⟨_, hT2, rfl, _, rfl⟩⟩
    refine ⟨.ref s.heap.objs.size, _, I2, rfl, ⟨s.heap.objs.size, x, rfl, I.hok.fresh (Nat.le_refl _), rfl, fun ys hy => by rw [I.list_inj hy hq]; exact hx⟩, ⟨⟨_, by simpa using he2⟩, hi'.at fun o y => (hs2.2 it hei.symm).trans y⟩, fun b hb => ?_⟩
    rw [zD]
    . exact (hf b hb).1
    . rcases List.mem_cons.mp hb with rfl | hb
      . exact Nat.ne_of_lt hlt
      . have eb : b = it := by simpa using hb
        subst eb
        obtain ⟨_, y, _⟩ := hi
        exact Nat.ne_of_lt (Heap.lt_size y)
  done := by
    intro X hP hw hK hc i pins s σ H E I hf ⟨⟨old, he⟩, hi⟩ ⟨xs, hq, hl⟩
    subst hP hw hK
    obtain ⟨its, rv, p, hz⟩ := I.list hq
    have hlen := rv.length
    exact wpAny_pyNext_enum_end (I.ok.hd hc) he hi p.isList (Array.getElem?_eq_none (by simp; omega)) fun h' hx => ⟨rfl, I.turnedL (t' := s.toks) hf fun b o hb y => hx b o (fun z => hb (by simp [z])) y⟩
  self := fun _ _ _ _ _ ⟨⟨old, he⟩, _⟩ h => wpAny_pyIter_enum he h
def zCo (K : PySem.W.Frag) (tl : TE) : TI := fun σ H R => tl σ H fun x H1 => ∃ a, x = .ref a ∧ (∃ xs, SqL K H1 a xs) ∧ R (Ite K a) H1
section
variable {X : Cx} {es : List Expr} {k : Nat} {tp p pos : Pos} {l l2 o : Expr} {tl tl2 to : TE}
theorem zCV (hg : Gl X "enumerate") (hm : X.mg "enumerate" = none) (hl : PE X l tl) (hs : starEach [l] X.env = (false, eval l X.env) :: starEach [] X.env) : PI X (.Tuple es k tp) (.Call (.Name "enumerate" p) [l] [] pos) (zCo X.K tl) := by
  intro pins s σ H R I h
  have hb : bootBuiltins ("enumerate" : Str) = some (.type "enumerate") := by decide +kernel
  refine Call_ (zgu I hg hm hb (callWith_type1 (thn (zcP hl zdd hs pos pins s σ H (fun vs H1 => ∃ a, vs = [.ref a] ∧ (∃ xs, SqL X.K H1 a xs) ∧ R (Ite X.K a) H1) I ?_) fun us s1 ⟨vs, H1, I1, r1, q1⟩ => ?_) hs rfl))
  . have mono : ∀ {P Q : VK}, (∀ v H, P v H -> Q v H) -> tl σ H P -> tl σ H Q -> True := fun _ _ _ => trivial
    show tl σ H fun x H1 => ∃ a, [x] = [V.ref a] ∧ _ ∧ _
    have e : (fun (x : V) H1 => ∃ a, x = .ref a ∧ (∃ xs, SqL X.K H1 a xs) ∧ R (Ite X.K a) H1) = (fun (x : V) H1 => ∃ a, [x] = [V.ref a] ∧ (∃ xs, SqL X.K H1 a xs) ∧ R (Ite X.K a) H1) := by
      funext x H1; simp
    rw [<- e]; exact h
  . obtain ⟨a, e, ⟨xs, hq⟩, q⟩ := q1
    subst e
    obtain ⟨u, rfl, ru⟩ := zeO r1
    cases ru
    obtain ⟨its, rv, pl, hz⟩ := I1.list hq
    refine call_enumerate_list pl.isList fun h' he hit hsz hk => ?_
    refine wpAny_pyIter_enum he ?_
    refine ⟨s1.heap.objs.size + 1, [s1.heap.objs.size + 1, s1.heap.objs.size], _, _, H1, rfl, I1.kept (t' := s1.toks) hk, zDg a _ _ (Nat.succ_ne_self _), ⟨⟨_, he⟩, hit⟩, fun b hb => ?_, q⟩
    rcases List.mem_cons.mp hb with rfl | hb
    . exact I1.fpOk (Nat.le_succ _) (I1.hok.fresh (Nat.le_succ _))
    . have eb : b = s1.heap.objs.size := by simpa using hb
      subst eb
      exact I1.fpOk (Nat.le_refl _) (I1.hok.fresh (Nat.le_refl _))
end
section
variable {X : Cx} {es : List Expr} {k : Nat} {tp p pos apos : Pos} {l l2 o : Expr} {tl tl2 to : TE}
def zfk (X : Cx) (a : Addr) : Prop := ∀ o u, X.H₀ a ≠ some (.frz o u)
theorem Inv.freeze {pins : List (Addr × Obj)} {σ : St} {H : Hp} {s : Shared} {a : Addr} {kvs : List (Key × V)} (I : Inv X pins σ H s) (ha : H a = some (.dK kvs)) : zfk X a ∧ ∃ o, s.heap.get? a = some o ∧ Inv X pins σ (upd H a (.frz o (.dK kvs))) s := by
  have nf : zfk X a := fun o u z => by have := I.base.frzs a o u z; rw [ha] at this; cases this
  have x := I.hok a _ ha
  obtain ⟨o, ho⟩ : ∃ o, s.heap.get? a = some o := by obtain ⟨_, _, _, _, o, _, _, e, _⟩ := x; exact ⟨o, e⟩
  refine ⟨nf, o, ho, ?_⟩
  have tp : ∀ b xs, H b = some (.tup xs) -> upd H a (.frz o (.dK kvs)) b = some (.tup xs) := fun b xs z => by
    rw [zD]
    . exact z
    . intro q; subst q; rw [ha] at z; cases z
  have st : ∀ {b u}, H b = some u -> zbn X.prog X.w (upd H a (.frz o (.dK kvs))) s.heap b u := fun {b u} e => (I.hok b u e).stay (fun _ _ _ q => q) (fun c q => by
    rw [zD]
    . exact q
    . intro z; subst z; rw [ha] at q; cases q) tp
  refine ⟨I.ok, I.os, I.bare, ⟨I.base.keep, I.base.slot, fun b ob e n hx => ?_, I.base.there, fun b xs e => tp b xs (I.base.tups b xs e), fun b ob u e => ?_, fun b ps e => ?_⟩, I.loc, I.cell, ?_, fun x c e => ?_, fun q hq => ?_, fun b u e => ?_, I.len⟩
  . rw [zD]
    . exact I.base.free b ob e n hx
    . intro z; subst z; have := I.base.free _ ob e n hx; rw [ha] at this; cases this
  . rw [zD]
    . exact I.base.frzs b ob u e
    . intro z; subst z; exact nf _ _ e
  . obtain ⟨m, e1⟩ := I.base.tbls b ps e
    refine ⟨m, ?_⟩
    rw [zD]
    . exact e1
    . intro z; subst z; rw [ha] at e1; cases e1
  . rw [zD]
    . exact I.free
    . intro z; have := I.free; rw [z, ha] at this; cases this
  . rw [zD]
    . exact I.freeC x c e
    . intro z; have := I.freeC x c e; rw [z, ha] at this; cases this
  . obtain ⟨e, n, r⟩ := I.pin q hq
    refine ⟨e, ?_, r⟩
    rw [zD]
    . exact n
    . intro z; rw [z, ha] at n; cases n
  . by_cases hb : b = a
    . subst hb
      rw [zbN] at e; cases e
      exact ⟨ho, st ha⟩
    . rw [zD hb] at e
      exact st e
theorem Inv.thaw {pins : List (Addr × Obj)} {σ : St} {H : Hp} {s : Shared} {a : Addr} {o : Obj} {kvs : List (Key × V)} (I : Inv X pins σ H s) (nf : zfk X a) (ha : H a = some (.frz o (.dK kvs))) : Inv X pins σ (upd H a (.dK kvs)) s := by
  have tp : ∀ b xs, H b = some (.tup xs) -> upd H a (.dK kvs) b = some (.tup xs) := fun b xs z => by
    rw [zD]
    . exact z
    . intro q; subst q; rw [ha] at z; cases z
  have st : ∀ {b u}, zbn X.prog X.w H s.heap b u -> zbn X.prog X.w (upd H a (.dK kvs)) s.heap b u := fun {b u} e => e.stay (fun _ _ _ q => q) (fun c q => by
    rw [zD]
    . exact q
    . intro z; subst z; rw [ha] at q; cases q) tp
  refine ⟨I.ok, I.os, I.bare, ⟨I.base.keep, I.base.slot, fun b ob e n hx => ?_, I.base.there, fun b xs e => tp b xs (I.base.tups b xs e), fun b ob u e => ?_, fun b ps e => ?_⟩, I.loc, I.cell, ?_, fun x c e => ?_, fun q hq => ?_, fun b u e => ?_, I.len⟩
  . rw [zD]
    . exact I.base.free b ob e n hx
    . intro z; subst z; have := I.base.free _ ob e n hx; rw [ha] at this; cases this
  . rw [zD]
    . exact I.base.frzs b ob u e
    . intro z; subst z; exact nf _ _ e
  . obtain ⟨m, e1⟩ := I.base.tbls b ps e
    refine ⟨m, ?_⟩
    rw [zD]
    . exact e1
    . intro z; subst z; rw [ha] at e1; cases e1
  . rw [zD]
    . exact I.free
    . intro z; have := I.free; rw [z, ha] at this; cases this
  . rw [zD]
    . exact I.freeC x c e
    . intro z; have := I.freeC x c e; rw [z, ha] at this; cases this
  . obtain ⟨e, n, r⟩ := I.pin q hq
    refine ⟨e, ?_, r⟩
    rw [zD]
    . exact n
    . intro z; rw [z, ha] at n; cases n
  . by_cases hb : b = a
    . subst hb
      rw [zbN] at e; cases e
      obtain ⟨_, q⟩ := (show zbn X.prog X.w H s.heap b (.frz o (.dK kvs)) from I.hok b _ ha)
      exact st q
    . rw [zD hb] at e
      exact st (I.hok b u e)
def zdx (X : Cx) (R : Hp -> Prop) (H' : Hp) : Prop := ∃ a o kvs, H' a = some (.frz o (.dK kvs)) ∧ zfk X a ∧ R (upd H' a (.dK kvs))
theorem zBP {e : Expr} {t : TE} (h : PE X e t) : PE X e (fun σ H Q => t σ H fun v H' => zdx X (Q v) H') := fun pins s σ H Q I hw => by
  refine thn (h pins s σ H _ I hw) fun v s1 ⟨x, H1, I1, r, a, o, kvs, ha, nf, q⟩ => ⟨x, _, I1.thaw nf ha, r, q⟩
theorem zAm {st : Stmt} {t : TS} (h : PS X st t) : PS X st (fun D σ H => t { nx := fun σ' H' => zdx X (D.nx σ') H', rt := fun v H' => zdx X (D.rt v) H', bk := fun σ' H' => zdx X (D.bk σ') H', ct := fun σ' H' => zdx X (D.ct σ') H' } σ H) := fun pins s σ H D I hw => by
  refine thn (h pins s σ H _ I hw) fun f s1 q => ?_
  cases f with
  | next => obtain ⟨σ', H', I', a, o, kvs, ha, nf, q⟩ := q; exact ⟨σ', _, I'.thaw nf ha, q⟩
  | brk => obtain ⟨σ', H', I', a, o, kvs, ha, nf, q⟩ := q; exact ⟨σ', _, I'.thaw nf ha, q⟩
  | cont => obtain ⟨σ', H', I', a, o, kvs, ha, nf, q⟩ := q; exact ⟨σ', _, I'.thaw nf ha, q⟩
  | ret u => obtain ⟨v, σ', H', I', r, a, o, kvs, ha, nf, q⟩ := q; exact ⟨v, σ', _, I'.thaw nf ha, r, q⟩
def Iti (o : Obj) (a : Addr) (kvs : List (Key × V)) : It :=
  ⟨fun i H => H a = some (.frz o (.dK kvs)) ∧ i < kvs.length, fun i H x H' => ∃ T kk v, kvs[i]? = some (kk, v) ∧ x = .ref T ∧ H T = none ∧ H' = upd H T (.tup [kV kk, v]), fun i H => H a = some (.frz o (.dK kvs)) ∧ kvs.length <= i⟩
def Itv (o : Obj) (a : Addr) (kvs : List (Key × V)) : It :=
  ⟨fun i H => H a = some (.frz o (.dK kvs)) ∧ i < kvs.length, fun i H x H' => H' = H ∧ ∃ kk, kvs[i]? = some (kk, x), fun i H => H a = some (.frz o (.dK kvs)) ∧ kvs.length <= i⟩
theorem KV.get {κ : Type} : ∀ {kvs : List (κ × V)} {vs : List (κ × Value)} {i : Nat} {kk : κ} {v : V}, KV kvs vs -> kvs[i]? = some (kk, v) -> ∃ u, vs[i]? = some (kk, u) ∧ zu v u := by
  intro kvs vs i kk v r
  unfold KV at r
  induction r generalizing i with
  | nil => intro e; simp at e
  | @cons p q ps qs h t ih =>
    intro e
    cases i with
    | zero =>
      simp at e; subst e
      obtain ⟨h1, h2⟩ := h
      obtain ⟨q1, q2⟩ := q
      have h1' : kk = q1 := h1
      subst h1'
      exact ⟨q2, rfl, h2⟩
    | succ i => exact ih (by simpa using e)
theorem zD2 {P : Program} {w : World} {kk : Key} {u : Value} (h : (zbZ P w).is kk u = true) : zu (kV kk) u := by
  rcases ze4 (k := kk) (v := u) h with ⟨i, t, rfl, rfl⟩ | ⟨x, t, rfl, rfl⟩
  . exact ⟨t, rfl⟩
  . exact ⟨t, rfl⟩
theorem zpg {pins : List (Addr × Obj)} {σ : St} {H : Hp} {s : Shared} {a : Addr} {ob : Obj} {kvs : List (Key × V)} (I : Inv X pins σ H s) (ha : H a = some (.frz ob (.dK kvs))) :
    s.heap.get? a = some ob ∧ ∃ vs, KV kvs vs ∧ ∃ ep, s.heap.DictAt (zbZ X.prog X.w) a vs ep := by
  obtain ⟨e, _, _, vs, r, dd⟩ := (show zbn X.prog X.w H s.heap a (.frz ob (.dK kvs)) from I.hok a _ ha)
  exact ⟨e, vs, r, dd.dictAt⟩
theorem zB5 {P : Program} {w : World} {h h' : Heap} {a : Addr} {ob : Obj} {vs vs' : List (Key × Value)} {ep ep' : Nat} (e : h.get? a = some ob) (e' : h'.get? a = some ob) (d : h.DictAt (zbZ P w) a vs ep) (d' : h'.DictAt (zbZ P w) a vs' ep') : ep = ep' := by
  obtain ⟨o, es, h1, h2, h3, _⟩ := d
  obtain ⟨o', es', h1', h2', h3', _⟩ := d'
  rw [e] at h1; cases h1
  rw [e'] at h1'; cases h1'
  rw [h3] at h3'
  injection h3'
theorem zAE {P : Program} {w : World} {K : PySem.W.Frag} {es : List Expr} {k : Nat} {tp : Pos} (ob : Obj) (a it : Addr) (kvs : List (Key × V)) (ep : Nat) (hep : ∀ (X : Cx) pins σ H s, X.prog = P -> X.w = w -> Inv X pins σ H s -> H a = some (.frz ob (.dK kvs)) -> ∃ vs, KV kvs vs ∧ s.heap.DictAt (zbZ X.prog X.w) a vs ep) :
    zgs P w K (.Tuple es k tp) (Iti ob a kvs) [it] it (fun i h => ∃ ok ov, IsItemIter h it a i kvs.length ep ok ov) where
  mem := by simp
  obj := fun i h ⟨ok, ov, st⟩ b hb => by
    have e : b = it := by simpa using hb
    subst e
    exact ⟨_, st, fun v z => nomatch z⟩
  keep := fun i h h' ⟨ok, ov, st⟩ kk => ⟨ok, ov, kk it (by simp) _ st⟩
  item := by
    intro X hP hw hK hc i pins s σ H E I hf ⟨ok, ov, st⟩ ⟨ha, hi⟩
    obtain ⟨vs, r, dat⟩ := hep X pins σ H s hP hw I ha
    subst hP hw hK
    obtain ⟨⟨kk, v⟩, hx⟩ : ∃ p, kvs[i]? = some p := ⟨kvs[i], by simp [hi]⟩
    obtain ⟨u, hu, ru⟩ := r.get hx
    rw [r.length] at st
    refine wpAny_pyNext_items_item st dat hu fun key h' hkey ho hT hsz hk => ⟨_, rfl, ?_⟩
    refine wpAny_letOwnedTupleGo_items ho fun h2 he2 hs2 => ?_
    have hlt : it < s.heap.objs.size := Heap.lt_size st
    have kk2 : ∀ b o, b ∉ [it] -> s.heap.get? b = some o -> h2.get? b = some o := fun b o hb eb => (hs2.2 b (fun z => hb (by simp [z]))).trans (hk b o (fun z => hb (by simp [z])) eb)
    have hT2 : h2.get? s.heap.objs.size = some { cls := .type "tuple", data := .seq #[key, u] } := (hs2.2 _ (Nat.ne_of_gt hlt)).trans hT
    have I2 : Inv X pins σ (upd H s.heap.objs.size (.tup [kV kk, v])) { s with heap := h2, toks := s.toks } := I.turnNew hf kk2 (Nat.le_refl _) ⟨by show 2 <= sizeLine; decide, [key, u], .cons (zD2 hkey) (.cons ru .nil), ⟨_, hT2, rfl, _, rfl⟩⟩
    refine ⟨.ref s.heap.objs.size, _, I2, rfl, ⟨s.heap.objs.size, kk, v, hx, rfl, I.hok.fresh (Nat.le_refl _), rfl⟩, ⟨_, _, by rw [r.length]; exact he2⟩, fun b hb => ?_⟩
    have eb : b = it := by simpa using hb
    subst eb
    rw [zD (Nat.ne_of_lt hlt)]
    exact (hf b hb).1
  done := by
    intro X hP hw hK hc i pins s σ H E I hf ⟨ok, ov, st⟩ ⟨ha, hi⟩
    obtain ⟨vs, r, dat⟩ := hep X pins σ H s hP hw I ha
    subst hP hw hK
    rw [r.length] at st hi
    exact wpAny_pyNext_items_end (I.ok.hd hc) st dat (List.getElem?_eq_none hi) fun h' hx => ⟨rfl, I.turnedL (t' := s.toks) hf fun b o hb y => hx b o (fun z => hb (by simp [z])) y⟩
  self := fun _ _ _ _ _ ⟨ok, ov, st⟩ h => PySem.W.kcp_self st h
theorem zBd {P : Program} {w : World} {K : PySem.W.Frag} {tg : Expr} (ob : Obj) (a it : Addr) (kvs : List (Key × V)) (ep : Nat) (hep : ∀ (X : Cx) pins σ H s, X.prog = P -> X.w = w -> Inv X pins σ H s -> H a = some (.frz ob (.dK kvs)) -> ∃ vs, KV kvs vs ∧ s.heap.DictAt (zbZ X.prog X.w) a vs ep) :
    zgs P w K tg (Itv ob a kvs) [it] it (fun i h => h.IsValIter it a i kvs.length ep) where
  mem := by simp
  obj := fun i h st b hb => by
    have e : b = it := by simpa using hb
    subst e
    obtain ⟨o, e, c, d⟩ := st
    exact ⟨o, e, fun v z => by rw [d] at z; cases z⟩
  keep := fun i h h' st kk => st.at fun o e => kk it (by simp) o e
  item := by
    intro X hP hw hK hc i pins s σ H E I hf st ⟨ha, hi⟩
    obtain ⟨vs, r, dat⟩ := hep X pins σ H s hP hw I ha
    subst hP hw hK
    obtain ⟨⟨kk, v⟩, hx⟩ : ∃ p, kvs[i]? = some p := ⟨kvs[i], by simp [hi]⟩
    obtain ⟨u, hu, ru⟩ := r.get hx
    rw [r.length] at st
    refine wpAny_pyNext_values_item st dat hu fun h' st' sb => ?_
    have I1 : Inv X pins σ H { s with heap := h' } := I.turnedL (t' := s.toks) hf fun b o hb e => (sb.2 b (fun z => hb (by simp [z]))).trans e
    obtain ⟨o, e, c, d⟩ := id st'
    exact ⟨u, rfl, zpT (s := { s with heap := h' }) e c d (by decide) ⟨v, H, I1, ru, ⟨rfl, kk, hx⟩, by rw [r.length]; exact st', fun b hb => (hf b hb).1⟩⟩
  done := by
    intro X hP hw hK hc i pins s σ H E I hf st ⟨ha, hi⟩
    obtain ⟨vs, r, dat⟩ := hep X pins σ H s hP hw I ha
    subst hP hw hK
    rw [r.length] at st hi
    exact wpAny_pyNext_values_end (I.ok.hd hc) st dat (List.getElem?_eq_none hi) fun h' hx => ⟨rfl, I.turnedL (t' := s.toks) hf fun b o hb y => hx b o (fun z => hb (by simp [z])) y⟩
  self := fun _ _ _ _ _ st h => wpAny_pyIter_valiter st h
theorem zta {s : Shared} {a : Addr} {ob : Obj} {kvs : List (Key × V)} {vs : List (Key × Value)} {ep : Nat} (e : s.heap.get? a = some ob) (d : s.heap.DictAt (zbZ X.prog X.w) a vs ep) :
    ∀ (Y : Cx) pins σ H s', Y.prog = X.prog -> Y.w = X.w -> Inv Y pins σ H s' -> H a = some (.frz ob (.dK kvs)) -> ∃ vs, KV kvs vs ∧ s'.heap.DictAt (zbZ Y.prog Y.w) a vs ep := fun Y pins σ H s' hP hw I ha => by
  obtain ⟨e', vs', r, ep', d'⟩ := zpg I ha
  have d2 : s'.heap.DictAt (zbZ X.prog X.w) a vs' ep' := by rw [<- hP, <- hw]; exact d'
  have := zB5 e e' d d2
  subst this
  exact ⟨vs', r, d'⟩
def zDW (X : Cx) (to : TE) : TI := fun σ H R => to σ H fun x H1 => ∃ a kvs, x = .ref a ∧ H1 a = some (.dK kvs) ∧ ∀ ob, zfk X a -> R (Iti ob a kvs) (upd H1 a (.frz ob (.dK kvs)))
def zCR (X : Cx) (to : TE) : TI := fun σ H R => to σ H fun x H1 => ∃ a kvs, x = .ref a ∧ H1 a = some (.dK kvs) ∧ ∀ ob, zfk X a -> R (Itv ob a kvs) (upd H1 a (.frz ob (.dK kvs)))
theorem zCK {cpos : Pos} (ho : PE X o to) (hbase : attributeBase o "items" X.env (eval o X.env) = eval o X.env := by rfl) (hline : (apos.endLine == cpos.line) = true := by rfl) : PI X (.Tuple es k tp) (.Call (.Attribute o "items" apos) [] [] cpos) (zDW X to) := by
  intro pins s σ H R I h
  refine wpAny_Call_method0_late hbase hline (thn (ho pins s σ H _ I h) fun v s1 ⟨x, H1, I1, r1, a, kvs, ex, ha, q⟩ => ?_)
  subst ex
  cases r1
  obtain ⟨nf, ob, eob, I2⟩ := I1.freeze ha
  obtain ⟨_, vs, rv, ep, dat⟩ := zpg I2 zbN
  obtain ⟨h1, h2⟩ := zi0 (T := "dict") (x := .ref a) (v := .ref a) I1 rfl (.inr (.inr (.inl ⟨rfl, .inl ⟨kvs, ha⟩⟩)))
  obtain ⟨_, hd, _⟩ := (show zbn X.prog X.w H1 s1.heap a (.dK kvs) from I1.hok a _ ha)
  refine ⟨"dict", "dict.items", F.plainAttrs_dict, F.slot_dict_items, F.type_dict_items, h1, h2, Calls.callWith_builtin rfl (PySem.evalArgs_none ?_)⟩
  refine call_meetsIn F.slot_dict_items dat.dictOf.typeIs F.entry_dict_items (F.args_dict_items_1 _) (meets_dict_items (zbZ X.prog X.w) a hd) ⟨⟨vs, dat.dictOf⟩, ?_⟩
  refine wpAny_pyIter_items (d := a) ⟨_, Heap.get?_push_size _ rfl, rfl, rfl⟩ (dat.push _) ?_
  have I3 : Inv X pins σ (upd H1 a (.frz ob (.dK kvs))) { s1 with heap := s1.heap.push { cls := .type "dict_items", data := .fields #[.ref a] } } := I2.kept (t' := s1.toks) fun b o e => Heap.get?_push_of_some _ e
  refine ⟨_, [_], _, _, _, rfl, I3.kept (t' := s1.toks) fun b o e => Heap.get?_push_of_some _ e, zAE ob a _ kvs ep (zta eob dat), ⟨.none, .none, ?_⟩, fun b hb => ?_, q ob nf⟩
  . rw [rv.length]; exact Heap.get?_push_size _ rfl
  . have eb := List.mem_singleton.mp hb
    subst eb
    exact I3.fpOk (Nat.le_refl _) (I3.hok.fresh (Nat.le_refl _))
theorem zFa {tg : Expr} {cpos : Pos} (ho : PE X o to) (hbase : attributeBase o "values" X.env (eval o X.env) = eval o X.env := by rfl) (hline : (apos.endLine == cpos.line) = true := by rfl) : PI X tg (.Call (.Attribute o "values" apos) [] [] cpos) (zCR X to) := by
  intro pins s σ H R I h
  refine wpAny_Call_method0_late hbase hline (thn (ho pins s σ H _ I h) fun v s1 ⟨x, H1, I1, r1, a, kvs, ex, ha, q⟩ => ?_)
  subst ex
  cases r1
  obtain ⟨nf, ob, eob, I2⟩ := I1.freeze ha
  obtain ⟨_, vs, rv, ep, dat⟩ := zpg I2 zbN
  obtain ⟨h1, h2⟩ := zi0 (T := "dict") (x := .ref a) (v := .ref a) I1 rfl (.inr (.inr (.inl ⟨rfl, .inl ⟨kvs, ha⟩⟩)))
  obtain ⟨_, hd, _⟩ := (show zbn X.prog X.w H1 s1.heap a (.dK kvs) from I1.hok a _ ha)
  refine ⟨"dict", "dict.values", F.plainAttrs_dict, F.slot_dict_values, F.type_dict_values, h1, h2, Calls.callWith_builtin rfl (PySem.evalArgs_none ?_)⟩
  refine call_meetsIn F.slot_dict_values dat.dictOf.typeIs F.entry_dict_values (F.args_dict_values_1 _) (meets_dict_values (zbZ X.prog X.w) a hd) ⟨⟨vs, dat.dictOf⟩, ?_⟩
  refine wpAny_pyIter_values (d := a) ⟨_, Heap.get?_push_size _ rfl, rfl, rfl⟩ (dat.push _) ?_
  have I3 : Inv X pins σ (upd H1 a (.frz ob (.dK kvs))) { s1 with heap := s1.heap.push { cls := .type "dict_values", data := .fields #[.ref a] } } := I2.kept (t' := s1.toks) fun b o e => Heap.get?_push_of_some _ e
  refine ⟨_, [_], _, _, _, rfl, I3.kept (t' := s1.toks) fun b o e => Heap.get?_push_of_some _ e, zBd ob a _ kvs ep (zta eob dat), ⟨_, Heap.get?_push_size _ rfl, rfl, by rw [rv.length]; rfl⟩, fun b hb => ?_, q ob nf⟩
  have eb := List.mem_singleton.mp hb
  subst eb
  exact I3.fpOk (Nat.le_refl _) (I3.hok.fresh (Nat.le_refl _))
end
end L2
end
section
namespace MI
open PySem PySem.Spec L2
structure GP where
  K : PySem.W.Frag
  cm : List Addr
  an : List Str
structure GP.Ok (G : GP) (sub att : Nat -> Nat -> Bool) : Prop where
  cls : ∀ (c : Nat) C, G.cm[c]? = some C -> Cls G.K C ∧ ztZ G.K C
  noat : ∀ (c : Nat) C (k : Nat) f, G.cm[c]? = some C -> att c k = true -> G.an[k]? = some f -> zb3 G.K C f
  nd : G.an.Nodup
  isa : ∀ (c c' : Nat) C C', G.cm[c]? = some C -> G.cm[c']? = some C' -> Isa G.K C C' (sub c c')
mutual
def RD (ρ : List Addr) (H : Hp) : D -> V -> Prop
  | .non, v => v = .non
  | .bl b, v => v = .bl b
  | .int i, v => v = .int i
  | .str x, v => v = .str x
  | .tup ds, v => ∃ a vs, v = .ref a ∧ H a = some (.tup vs) ∧ RDs ρ H ds vs
  | .obj n, v => ∃ a, v = .ref a ∧ ρ[n]? = some a
def RDs (ρ : List Addr) (H : Hp) : List D -> List V -> Prop
  | [], vs => vs = []
  | d :: ds, vs => ∃ x r, vs = x :: r ∧ RD ρ H d x ∧ RDs ρ H ds r
end
structure Ext (F : Addr -> Prop) (ρ ρ1 : List Addr) (H H1 : Hp) : Prop where
  pre : ∃ t, ρ1 = ρ ++ t
  tup : ∀ b xs, H b = some (.tup xs) -> H1 b = some (.tup xs)
  frm : ∀ b, F b -> H1 b = H b
theorem Ext.refl {F : Addr -> Prop} {ρ : List Addr} {H : Hp} : Ext F ρ ρ H H := ⟨⟨[], by simp⟩, fun _ _ h => h, fun _ _ => rfl⟩
theorem Ext.trans {F : Addr -> Prop} {ρ ρ1 ρ2 : List Addr} {H H1 H2 : Hp} (a : Ext F ρ ρ1 H H1) (b : Ext F ρ1 ρ2 H1 H2) : Ext F ρ ρ2 H H2 := by
  obtain ⟨t, rfl⟩ := a.pre
  obtain ⟨u, rfl⟩ := b.pre
  exact ⟨⟨t ++ u, by simp⟩, fun c xs h => b.tup c xs (a.tup c xs h), fun c hc => (b.frm c hc).trans (a.frm c hc)⟩
theorem Ext.get {F : Addr -> Prop} {ρ ρ1 : List Addr} {H H1 : Hp} (e : Ext F ρ ρ1 H H1) {n : Nat} {a : Addr} (h : ρ[n]? = some a) : ρ1[n]? = some a := by
  obtain ⟨t, rfl⟩ := e.pre
  rw [List.getElem?_append_left (List.getElem?_eq_some_iff.mp h).1]; exact h
mutual
theorem RD.ext {F : Addr -> Prop} {ρ ρ1 : List Addr} {H H1 : Hp} (e : Ext F ρ ρ1 H H1) : ∀ (d : D) (v : V), RD ρ H d v -> RD ρ1 H1 d v
  | .non, v, h => by unfold RD at h ⊢; exact h
  | .bl b, v, h => by unfold RD at h ⊢; exact h
  | .int i, v, h => by unfold RD at h ⊢; exact h
  | .str x, v, h => by unfold RD at h ⊢; exact h
  | .tup ds, v, h => by
    unfold RD at h ⊢
    obtain ⟨a, vs, h1, h2, h3⟩ := h
    exact ⟨a, vs, h1, e.tup _ _ h2, RDs.ext e ds vs h3⟩
  | .obj n, v, h => by
    unfold RD at h ⊢
    obtain ⟨a, h1, h2⟩ := h
    exact ⟨a, h1, e.get h2⟩
theorem RDs.ext {F : Addr -> Prop} {ρ ρ1 : List Addr} {H H1 : Hp} (e : Ext F ρ ρ1 H H1) : ∀ (ds : List D) (vs : List V), RDs ρ H ds vs -> RDs ρ1 H1 ds vs
  | [], vs, h => by unfold RDs at h ⊢; exact h
  | d :: ds, vs, h => by
    unfold RDs at h ⊢
    obtain ⟨x, r, h1, h2, h3⟩ := h
    exact ⟨x, r, h1, RD.ext e d x h2, RDs.ext e ds r h3⟩
end
mutual
def D.bd (n : Nat) : D -> Prop
  | .obj m => m < n
  | .tup ds => bds n ds
  | _ => True
def bds (n : Nat) : List D -> Prop
  | [] => True
  | d :: r => d.bd n ∧ bds n r
end
mutual
theorem RD.bd {ρ : List Addr} {H : Hp} : ∀ (d : D) (v : V), RD ρ H d v -> d.bd ρ.length
  | .non, v, h => by simp [D.bd]
  | .bl b, v, h => by simp [D.bd]
  | .int i, v, h => by simp [D.bd]
  | .str x, v, h => by simp [D.bd]
  | .tup ds, v, h => by
    unfold RD at h; unfold D.bd
    obtain ⟨a, vs, h1, h2, h3⟩ := h
    exact RDs.bd ds vs h3
  | .obj n, v, h => by
    unfold RD at h; unfold D.bd
    obtain ⟨a, h1, h2⟩ := h
    exact (List.getElem?_eq_some_iff.mp h2).1
theorem RDs.bd {ρ : List Addr} {H : Hp} : ∀ (ds : List D) (vs : List V), RDs ρ H ds vs -> bds ρ.length ds
  | [], vs, h => by simp [bds]
  | d :: ds, vs, h => by
    unfold RDs at h; unfold bds
    obtain ⟨x, r, h1, h2, h3⟩ := h
    exact ⟨RD.bd d x h2, RDs.bd ds r h3⟩
end
mutual
theorem D.nr_bd {n : Nat} : ∀ (d : D), d.nr = true -> d.bd n
  | .non, h => by simp [D.bd]
  | .bl b, h => by simp [D.bd]
  | .int i, h => by simp [D.bd]
  | .str x, h => by simp [D.bd]
  | .tup ds, h => by unfold D.nr at h; unfold D.bd; exact zpI ds h
  | .obj n, h => by simp [D.nr] at h
theorem zpI {n : Nat} : ∀ (ds : List D), nrs ds = true -> bds n ds
  | [], h => by simp [bds]
  | d :: ds, h => by
    unfold nrs at h; unfold bds
    rw [Bool.and_eq_true] at h
    exact ⟨D.nr_bd d h.1, zpI ds h.2⟩
end
mutual
theorem RD.cut {ρ ρ1 : List Addr} {H : Hp} {n : Nat} (e : ∀ m, m < n -> ρ1[m]? = ρ[m]?) : ∀ (d : D) (v : V), d.bd n -> RD ρ H d v -> RD ρ1 H d v
  | .non, v, _, h => by unfold RD at h ⊢; exact h
  | .bl b, v, _, h => by unfold RD at h ⊢; exact h
  | .int i, v, _, h => by unfold RD at h ⊢; exact h
  | .str x, v, _, h => by unfold RD at h ⊢; exact h
  | .tup ds, v, b, h => by
    unfold RD at h ⊢; unfold D.bd at b
    obtain ⟨a, vs, h1, h2, h3⟩ := h
    exact ⟨a, vs, h1, h2, RDs.cut e ds vs b h3⟩
  | .obj m, v, b, h => by
    unfold RD at h ⊢; unfold D.bd at b
    obtain ⟨a, h1, h2⟩ := h
    exact ⟨a, h1, by rw [e m b]; exact h2⟩
theorem RDs.cut {ρ ρ1 : List Addr} {H : Hp} {n : Nat} (e : ∀ m, m < n -> ρ1[m]? = ρ[m]?) : ∀ (ds : List D) (vs : List V), bds n ds -> RDs ρ H ds vs -> RDs ρ1 H ds vs
  | [], vs, _, h => by unfold RDs at h ⊢; exact h
  | d :: ds, vs, b, h => by
    unfold RDs at h ⊢; unfold bds at b
    obtain ⟨x, r, h1, h2, h3⟩ := h
    exact ⟨x, r, h1, RD.cut e d x b.1 h2, RDs.cut e ds r b.2 h3⟩
end
section
variable {ρ : List Addr} {H : Hp}
theorem RDs.length : ∀ {ds : List D} {vs : List V}, RDs ρ H ds vs -> ds.length = vs.length
  | [], vs, h => by unfold RDs at h; subst h; rfl
  | d :: ds, vs, h => by
    unfold RDs at h
    obtain ⟨x, r, h1, h2, h3⟩ := h
    subst h1; simp [RDs.length h3]
theorem RDs.get : ∀ {ds : List D} {vs : List V} {i : Nat} {d : D}, RDs ρ H ds vs -> ds[i]? = some d -> ∃ v, vs[i]? = some v ∧ RD ρ H d v
  | [], vs, i, d, h, e => by simp at e
  | x :: ds, vs, i, d, h, e => by
    unfold RDs at h
    obtain ⟨y, r, h1, h2, h3⟩ := h
    subst h1
    cases i with
    | zero => simp at e; subst e; exact ⟨y, rfl, h2⟩
    | succ i =>
      obtain ⟨v, e1, e2⟩ := RDs.get (i := i) h3 (by simpa using e)
      exact ⟨v, by simpa using e1, e2⟩
theorem RDs.nil : RDs ρ H [] [] := by unfold RDs; rfl
theorem RDs.cons {d : D} {v : V} {ds : List D} {vs : List V} (h : RD ρ H d v) (hs : RDs ρ H ds vs) : RDs ρ H (d :: ds) (v :: vs) := by
  unfold RDs; exact ⟨v, vs, rfl, h, hs⟩
theorem RDs.append {ds2 : List D} {vs2 : List V} (h : RDs ρ H ds2 vs2) : ∀ {ds : List D} {vs : List V}, RDs ρ H ds vs -> RDs ρ H (ds ++ ds2) (vs ++ vs2)
  | [], vs, hs => by unfold RDs at hs; subst hs; exact h
  | d :: ds, vs, hs => by
    unfold RDs at hs
    obtain ⟨y, r, h1, h2, h3⟩ := hs
    subst h1
    exact RDs.cons h2 (RDs.append h h3)
theorem RDs.snoc {d : D} {v : V} {ds : List D} {vs : List V} (hs : RDs ρ H ds vs) (h : RD ρ H d v) : RDs ρ H (ds ++ [d]) (vs ++ [v]) := RDs.append (RDs.cons h RDs.nil) hs
theorem RDs.take : ∀ (n : Nat) {ds : List D} {vs : List V}, RDs ρ H ds vs -> RDs ρ H (ds.take n) (vs.take n)
  | 0, _, _, h => by simp; exact RDs.nil
  | n + 1, [], vs, h => by unfold RDs at h; subst h; simp; exact RDs.nil
  | n + 1, d :: ds, vs, h => by
    unfold RDs at h
    obtain ⟨y, r, h1, h2, h3⟩ := h
    subst h1
    exact RDs.cons h2 (RDs.take n h3)
theorem RDs.drop : ∀ (n : Nat) {ds : List D} {vs : List V}, RDs ρ H ds vs -> RDs ρ H (ds.drop n) (vs.drop n)
  | 0, _, _, h => h
  | n + 1, [], vs, h => by unfold RDs at h; subst h; simp; exact RDs.nil
  | n + 1, d :: ds, vs, h => by
    unfold RDs at h
    obtain ⟨y, r, h1, h2, h3⟩ := h
    subst h1
    exact RDs.drop n h3
theorem RDs.reverse : ∀ {ds : List D} {vs : List V}, RDs ρ H ds vs -> RDs ρ H ds.reverse vs.reverse
  | [], vs, h => by unfold RDs at h; subst h; simp; exact RDs.nil
  | d :: ds, vs, h => by
    unfold RDs at h
    obtain ⟨y, r, h1, h2, h3⟩ := h
    subst h1
    rw [List.reverse_cons, List.reverse_cons]
    exact RDs.snoc (RDs.reverse h3) h2
theorem RDs.set {d : D} {v : V} (h : RD ρ H d v) : ∀ (i : Nat) {ds : List D} {vs : List V}, RDs ρ H ds vs -> RDs ρ H (ds.set i d) (vs.set i v)
  | _, [], vs, hs => by unfold RDs at hs; subst hs; simp; exact RDs.nil
  | 0, x :: ds, vs, hs => by
    unfold RDs at hs
    obtain ⟨y, r, h1, h2, h3⟩ := hs
    subst h1
    exact RDs.cons h h3
  | i + 1, x :: ds, vs, hs => by
    unfold RDs at hs
    obtain ⟨y, r, h1, h2, h3⟩ := hs
    subst h1
    exact RDs.cons h2 (RDs.set h i h3)
theorem RDs.rep {ds : List D} {vs : List V} (h : RDs ρ H ds vs) : ∀ k : Nat, RDs ρ H (List.replicate k ds).flatten (List.replicate k vs).flatten
  | 0 => by simp; exact RDs.nil
  | k + 1 => by
    rw [List.replicate_succ, List.replicate_succ, List.flatten_cons, List.flatten_cons]
    exact RDs.append (RDs.rep h k) h
theorem RDs.ints : ∀ ns : List Int, RDs ρ H (ns.map D.int) (ns.map V.int)
  | [] => by simp; exact RDs.nil
  | n :: r => RDs.cons (by unfold RD; rfl) (RDs.ints r)
theorem RDs.of_ints : ∀ {ds : List D} {ns : List Int} {vs : List V}, zcu ds = some ns -> RDs ρ H ds vs -> vs = ns.map V.int
  | [], ns, vs, e, h => by
    unfold RDs at h; subst h
    simp [zcu] at e; subst e; rfl
  | d :: ds, ns, vs, e, h => by
    unfold RDs at h
    obtain ⟨y, r, h1, h2, h3⟩ := h
    cases d with
    | int i =>
      rw [zcu, Option.map_eq_some_iff] at e
      obtain ⟨ms, e1, rfl⟩ := e
      unfold RD at h2
      subst h1 h2
      rw [RDs.of_ints e1 h3]; rfl
    | _ => simp [zcu] at e
theorem RDs.of_bools : ∀ {ds : List D} {ns : List Bool} {vs : List V}, zcl ds = some ns -> RDs ρ H ds vs -> vs = ns.map V.bl
  | [], ns, vs, e, h => by
    unfold RDs at h; subst h
    simp [zcl] at e; subst e; rfl
  | d :: ds, ns, vs, e, h => by
    unfold RDs at h
    obtain ⟨y, r, h1, h2, h3⟩ := h
    cases d with
    | bl i =>
      rw [zcl, Option.map_eq_some_iff] at e
      obtain ⟨ms, e1, rfl⟩ := e
      unfold RD at h2
      subst h1 h2
      rw [RDs.of_bools e1 h3]; rfl
    | _ => simp [zcl] at e
end
def KRs (ρ : List Addr) (H : Hp) : List (Int × D) -> List (Key × V) -> Prop
  | [], vs => vs = []
  | p :: r, vs => ∃ v q, vs = (Sum.inl p.1, v) :: q ∧ RD ρ H p.2 v ∧ KRs ρ H r q
def FRs (G : GP) (ρ : List Addr) (H : Hp) (C : Addr) : List (Nat × D) -> List (Str × V) -> Prop
  | [], vs => vs = []
  | p :: r, vs => ∃ f v q, vs = (f, v) :: q ∧ G.an[p.1]? = some f ∧ zb3 G.K C f ∧ RD ρ H p.2 v ∧ FRs G ρ H C r q
def KL (K : PySem.W.Frag) (a : Addr) (xs : List V) : Prop :=
  ∃ (o : Obj) (its : Array Value) (n : Nat), K.lookup a = some o ∧ o.cls = .type "list" ∧ o.dict = none ∧ o.data = .seq its n ∧ its.size <= sizeLine ∧ zy xs its.toList
def RO (G : GP) (ρ : List Addr) (H : Hp) (a : Addr) : O -> Prop
  | .lst xs => ∃ vs, H a = some (.lst vs) ∧ RDs ρ H xs vs
  | .scr xs => ∃ vs, ((∃ o, H a = some (.frz o (.lst vs))) ∨ KL G.K a vs) ∧ RDs ρ H xs vs
  | .dic kvs => ∃ vs, H a = some (.dK vs) ∧ KRs ρ H kvs vs
  | .hole => True
  | .set xs => ∃ S n, H a = some (.set S n) ∧ n = xs.length ∧ ∀ x, S x = decide (x ∈ xs)
  | .ins c fs => ∃ C dx vs, G.cm[c]? = some C ∧ H a = some (.ins C dx vs) ∧ FRs G ρ H C fs vs
theorem KRs.map {ρ ρ1 : List Addr} {H H1 : Hp} : ∀ {kvs : List (Int × D)} {vs : List (Key × V)}, KRs ρ H kvs vs -> (∀ p ∈ kvs, ∀ v, RD ρ H p.2 v -> RD ρ1 H1 p.2 v) -> KRs ρ1 H1 kvs vs
  | [], vs, h, _ => h
  | p :: r, vs, h, f => by
    unfold KRs at h ⊢
    obtain ⟨v, q, h1, h2, h3⟩ := h
    exact ⟨v, q, h1, f p List.mem_cons_self v h2, KRs.map h3 fun x hx => f x (List.mem_cons_of_mem _ hx)⟩
theorem FRs.map {G : GP} {ρ ρ1 : List Addr} {H H1 : Hp} {C : Addr} : ∀ {kvs : List (Nat × D)} {vs : List (Str × V)}, FRs G ρ H C kvs vs -> (∀ p ∈ kvs, ∀ v, RD ρ H p.2 v -> RD ρ1 H1 p.2 v) -> FRs G ρ1 H1 C kvs vs
  | [], vs, h, _ => h
  | p :: r, vs, h, f => by
    unfold FRs at h ⊢
    obtain ⟨g, v, q, h1, h2, h3, h4, h5⟩ := h
    exact ⟨g, v, q, h1, h2, h3, f p List.mem_cons_self v h4, FRs.map h5 fun x hx => f x (List.mem_cons_of_mem _ hx)⟩
theorem RO.map {G : GP} {ρ ρ1 : List Addr} {H H1 : Hp} {a : Addr} {o : O} (h : RO G ρ H a o) (ha : ∀ u, H a = some u -> H1 a = some u) (f : ∀ d v, RD ρ H d v -> RD ρ1 H1 d v) (fs : ∀ ds vs, RDs ρ H ds vs -> RDs ρ1 H1 ds vs) : RO G ρ1 H1 a o := by
  cases o with
  | lst xs => obtain ⟨vs, h1, h2⟩ := h; exact ⟨vs, ha _ h1, fs _ _ h2⟩
  | scr xs =>
    obtain ⟨vs, h1, h2⟩ := h
    refine ⟨vs, ?_, fs _ _ h2⟩
    rcases h1 with ⟨o, h1⟩ | h1
    . exact .inl ⟨o, ha _ h1⟩
    . exact .inr h1
  | dic kvs => obtain ⟨vs, h1, h2⟩ := h; exact ⟨vs, ha _ h1, h2.map fun p _ v => f _ _⟩
  | hole => trivial
  | set xs => obtain ⟨S, n, h1, h2⟩ := h; exact ⟨S, n, ha _ h1, h2⟩
  | ins c fs => obtain ⟨C, dx, vs, h1, h2, h3⟩ := h; exact ⟨C, dx, vs, h1, ha _ h2, h3.map fun p _ v => f _ _⟩
def O.isScr : O -> Bool
  | .scr _ => true
  | .hole => true
  | _ => false
structure HR (F : Addr -> Prop) (G : GP) (ρ : List Addr) (h : MH) (H : Hp) : Prop where
  pro : ∀ b, F b -> (∃ u, H b = some u) ∧ ∀ (m : Nat) o, ρ[m]? = some b -> h[m]? = some o -> o.isScr = true
  nd : ∀ (n m : Nat) a o o', n ≠ m -> ρ[n]? = some a -> ρ[m]? = some a -> h[n]? = some o -> h[m]? = some o' -> o.isScr = true ∨ o'.isScr = true
  len : ρ.length = h.length
  all : ∀ (n : Nat) o, h[n]? = some o -> ∃ a, ρ[n]? = some a ∧ RO G ρ H a o
theorem HR.at {F : Addr -> Prop} {G : GP} {ρ : List Addr} {h : MH} {H : Hp} (r : HR F G ρ h H) {n : Nat} {o : O} {a : Addr} (e : h[n]? = some o) (ea : ρ[n]? = some a) : RO G ρ H a o := by
  obtain ⟨b, e1, e2⟩ := r.all n o e
  rw [ea] at e1; cases e1; exact e2
structure z6 (ρ : List Addr) (H : Hp) (env : zA) (σ : St) : Prop where
  len : env.length = σ.length
  all : ∀ (i : Nat) d, env[i]? = some (some d) -> ∃ v, σ[i]? = some (some v) ∧ RD ρ H d v
theorem z6.ext {F : Addr -> Prop} {ρ ρ1 : List Addr} {H H1 : Hp} {env : zA} {σ : St} (h : z6 ρ H env σ) (e : Ext F ρ ρ1 H H1) : z6 ρ1 H1 env σ :=
  ⟨h.len, fun i d q => let ⟨v, q1, q2⟩ := h.all i d q; ⟨v, q1, RD.ext e _ _ q2⟩⟩
theorem z6.set {ρ : List Addr} {H : Hp} {env : zA} {σ : St} (h : z6 ρ H env σ) {d : D} {v : V} (r : RD ρ H d v) (i : Nat) : z6 ρ H (env.set i (some d)) (σ.set i (some v)) := by
  refine ⟨by simp [h.len], fun j d' q => ?_⟩
  by_cases hj : i = j
  . subst hj
    have hi : i < env.length := by
      have := (List.getElem?_eq_some_iff.mp q).1
      simpa using this
    rw [List.getElem?_set_self hi] at q
    cases q
    exact ⟨v, by rw [List.getElem?_set_self (by rw [<- h.len]; exact hi)], r⟩
  . rw [List.getElem?_set_ne hj] at q ⊢
    exact h.all j d' q
section
variable {F : Addr -> Prop} {G : GP} {ρ : List Addr} {h : MH} {H : Hp}
theorem zcR (hr : HR F G ρ h H) {p : Addr} {u : HO} (hp : H p = none) : Ext F ρ ρ H (upd H p u) := ⟨⟨[], by simp⟩, fun b xs e => by rw [zD (zdN e hp)]; exact e, fun b hb => by
  obtain ⟨⟨v, hv⟩, _⟩ := hr.pro b hb
  rw [zD (zdN hv hp)]⟩
theorem zCh {p : Addr} {u : HO} (hp : H p = none) {a : Addr} {o : HO} (e : H a = some o) : upd H p u a = some o := by rw [zD (zdN e hp)]; exact e
theorem HR.grow {H1 : Hp} (r : HR F G ρ h H) (k : ∀ a o, H a = some o -> H1 a = some o) : HR F G ρ h H1 := by
  have e : Ext F ρ ρ H H1 := ⟨⟨[], by simp⟩, fun b xs q => k _ _ q, fun b hb => by obtain ⟨⟨v, hv⟩, _⟩ := r.pro b hb; rw [hv]; exact k _ _ hv⟩
  exact ⟨fun b hb => let ⟨⟨v, hv⟩, z⟩ := r.pro b hb; ⟨⟨v, k _ _ hv⟩, z⟩, r.nd, r.len, fun n o q => let ⟨a, q1, q2⟩ := r.all n o q; ⟨a, q1, q2.map (fun u => k a u) (RD.ext e) (RDs.ext e)⟩⟩
theorem HR.new (r : HR F G ρ h H) {p : Addr} {u : HO} (hp : H p = none) : HR F G ρ h (upd H p u) := r.grow fun a o e => zCh hp e
def zfQ (F : Addr -> Prop) (ρ : List Addr) (h : MH) (a : Addr) : Prop := ¬ F a ∧ ∀ (m : Nat) o, ρ[m]? = some a -> h[m]? = some o -> o.isScr = true
theorem RO.some_of {a : Addr} {o : O} (r : RO G ρ H a o) : o.isScr = true ∨ ∃ u, H a = some u := by
  cases o with
  | lst xs => obtain ⟨vs, z, _⟩ := r; exact .inr ⟨_, z⟩
  | scr xs => exact .inl rfl
  | dic xs => obtain ⟨vs, z, _⟩ := r; exact .inr ⟨_, z⟩
  | hole => exact .inl rfl
  | set xs => obtain ⟨S, n, z, _⟩ := r; exact .inr ⟨_, z⟩
  | ins c fs => obtain ⟨C, dx, vs, _, z, _⟩ := r; exact .inr ⟨_, z⟩
theorem HR.fresh (r : HR F G ρ h H) {a : Addr} (ha : H a = none) : zfQ F ρ h a := by
  refine ⟨fun z => ?_, fun m o e1 e2 => ?_⟩
  . obtain ⟨⟨v, hv⟩, _⟩ := r.pro a z
    rw [ha] at hv; cases hv
  . rcases (r.at e2 e1).some_of with z | ⟨u, z⟩
    . exact z
    . rw [ha] at z; cases z
theorem getElem?_snoc {α : Type} {l : List α} {x y : α} {n : Nat} (h : (l ++ [x])[n]? = some y) : (l[n]? = some y) ∨ (n = l.length ∧ x = y) := by
  by_cases hn : n < l.length
  . rw [List.getElem?_append_left hn] at h; exact .inl h
  . rw [List.getElem?_append_right (by omega)] at h
    have : n - l.length = 0 := by
      by_cases z : n - l.length = 0
      . exact z
      . rw [List.getElem?_eq_none (by simp; omega)] at h; cases h
    rw [this] at h
    simp at h
    exact .inr ⟨by omega, h⟩
theorem RD.snoc {b : Addr} (d : D) (v : V) (h : RD ρ H d v) : RD (ρ ++ [b]) H d v := RD.ext (F := fun _ => False) ⟨⟨[b], rfl⟩, fun _ _ z => z, fun _ z => z.elim⟩ _ _ h
theorem RDs.snocρ {b : Addr} (d : List D) (v : List V) (h : RDs ρ H d v) : RDs (ρ ++ [b]) H d v := RDs.ext (F := fun _ => False) ⟨⟨[b], rfl⟩, fun _ _ z => z, fun _ z => z.elim⟩ _ _ h
theorem HR.named (r : HR F G ρ h H) {a : Addr} {o : O} (fr : zfQ F ρ h a) (ro : RO G (ρ ++ [a]) H a o) : HR F G (ρ ++ [a]) (h ++ [o]) H := by
  refine ⟨fun b hb => ⟨(r.pro b hb).1, fun m x z1 z2 => ?_⟩, fun n m b x y hne h1 h2 h3 h4 => ?_, by simp [r.len], fun n x hx => ?_⟩
  . rcases getElem?_snoc z1 with z1 | ⟨e1, f1⟩
    . have hm : m < h.length := by rw [<- r.len]; exact (List.getElem?_eq_some_iff.mp z1).1
      rw [List.getElem?_append_left hm] at z2
      exact (r.pro b hb).2 m x z1 z2
    . subst f1; exact absurd hb fr.1
  . rcases getElem?_snoc h1 with h1 | ⟨e1, f1⟩
    . rcases getElem?_snoc h2 with h2 | ⟨e2, f2⟩
      . have hn : n < h.length := by rw [<- r.len]; exact (List.getElem?_eq_some_iff.mp h1).1
        have hm : m < h.length := by rw [<- r.len]; exact (List.getElem?_eq_some_iff.mp h2).1
        rw [List.getElem?_append_left hn] at h3
        rw [List.getElem?_append_left hm] at h4
        exact r.nd n m b x y hne h1 h2 h3 h4
      . have hn : n < h.length := by rw [<- r.len]; exact (List.getElem?_eq_some_iff.mp h1).1
        rw [List.getElem?_append_left hn] at h3
        subst f2
        exact .inl (fr.2 n x h1 h3)
    . rcases getElem?_snoc h2 with h2 | ⟨e2, f2⟩
      . have hm : m < h.length := by rw [<- r.len]; exact (List.getElem?_eq_some_iff.mp h2).1
        rw [List.getElem?_append_left hm] at h4
        subst f1
        exact .inr (fr.2 m y h2 h4)
      . exact absurd (e1.trans e2.symm) hne
  . rcases getElem?_snoc hx with hx | ⟨e, f⟩
    . obtain ⟨b, e1, e2⟩ := r.all n x hx
      exact ⟨b, by rw [List.getElem?_append_left (List.getElem?_eq_some_iff.mp e1).1]; exact e1, e2.map (fun _ z => z) RD.snoc RDs.snocρ⟩
    . subst f
      exact ⟨a, by rw [e, <- r.len]; simp, ro⟩
theorem HR.write (r : HR F G ρ h H) {n : Nat} {a : Addr} {o o1 : O} {u0 u : HO} (e : h[n]? = some o) (ea : ρ[n]? = some a) (hs : o.isScr = false) (hs1 : o1.isScr = false) (eu : H a = some u0) (mu : Mut (some u0))
    (ro : RO G ρ (upd H a u) a o1) : Ext F ρ ρ H (upd H a u) ∧ HR F G ρ (h.set n o1) (upd H a u) := by
  have hn : n < h.length := (List.getElem?_eq_some_iff.mp e).1
  have tp : ∀ b xs, H b = some (.tup xs) -> upd H a u b = some (.tup xs) := fun b xs q => by
    rw [zD]
    . exact q
    . intro z; subst z; rw [eu] at q; cases q; exact mu
  have hb0 : ∀ b, F b -> b ≠ a := fun b hb z => by have := (r.pro b hb).2 n o (by rw [z]; exact ea) e; rw [hs] at this; cases this
  have ex : Ext F ρ ρ H (upd H a u) := ⟨⟨[], by simp⟩, tp, fun b hb => zD (hb0 b hb)⟩
  refine ⟨ex, fun b hb => ⟨by rw [zD (hb0 b hb)]; exact (r.pro b hb).1, fun m x z1 z2 => ?_⟩, fun i j b x y hne h1 h2 h3 h4 => ?_, by simp [r.len], fun m x hx => ?_⟩
  . by_cases hm : n = m
    . subst hm
      rw [ea] at z1; cases z1
      exact absurd rfl (hb0 _ hb)
    . rw [List.getElem?_set_ne hm] at z2
      exact (r.pro b hb).2 m x z1 z2
  . have sc : ∀ (k : Nat) z, (h.set n o1)[k]? = some z -> ∃ z0, h[k]? = some z0 ∧ z0.isScr = z.isScr := fun k z hz => by
      by_cases hk : n = k
      . subst hk
        rw [List.getElem?_set_self hn] at hz
        cases hz
        exact ⟨o, e, hs.trans hs1.symm⟩
      . rw [List.getElem?_set_ne hk] at hz
        exact ⟨z, hz, rfl⟩
    obtain ⟨x0, hx0, ex0⟩ := sc i x h3
    obtain ⟨y0, hy0, ey0⟩ := sc j y h4
    rw [<- ex0, <- ey0]
    exact r.nd i j b x0 y0 hne h1 h2 hx0 hy0
  . by_cases hm : n = m
    . subst hm
      rw [List.getElem?_set_self hn] at hx
      cases hx
      exact ⟨a, ea, ro⟩
    . rw [List.getElem?_set_ne hm] at hx
      obtain ⟨b, e1, e2⟩ := r.all m x hx
      refine ⟨b, e1, ?_⟩
      by_cases hb : b = a
      . subst hb
        have hsc : x.isScr = true := by
          rcases r.nd n m b o x hm ea e1 e hx with z | z
          . rw [hs] at z; cases z
          . exact z
        cases x with
        | scr xs =>
          obtain ⟨vs, z, w⟩ := e2
          refine ⟨vs, ?_, RDs.ext ex _ _ w⟩
          rcases z with ⟨o', z⟩ | z
          . rw [eu] at z; cases z; exact mu.elim
          . exact .inr z
        | hole => trivial
        | _ => cases hsc
      . exact e2.map (fun w z => by rw [zD hb]; exact z) (RD.ext ex) (RDs.ext ex)
theorem HR.sub {F' : Addr -> Prop} (r : HR F' G ρ h H) (hs : ∀ b, F b -> F' b) : HR F G ρ h H := ⟨fun b hb => r.pro b (hs b hb), r.nd, r.len, r.all⟩
theorem Ext.sub {F' : Addr -> Prop} {ρ1 : List Addr} {H1 : Hp} (r : Ext F' ρ ρ1 H H1) (hs : ∀ b, F b -> F' b) : Ext F ρ ρ1 H H1 := ⟨r.pre, r.tup, fun b hb => r.frm b (hs b hb)⟩
theorem HR.upd_free (r : HR F G ρ h H) {a : Addr} {xs ys : List V} (fr : zfQ F ρ h a) (ha : H a = some (.lst xs)) : Ext F ρ ρ H (upd H a (.lst ys)) ∧ HR F G ρ h (upd H a (.lst ys)) := by
  have hb0 : ∀ b, F b -> b ≠ a := fun b hb z => fr.1 (z ▸ hb)
  have tp : ∀ b xs, H b = some (.tup xs) -> upd H a (.lst ys) b = some (.tup xs) := fun b xs q => by
    rw [zD]
    . exact q
    . intro z; subst z; rw [ha] at q; cases q
  have ex : Ext F ρ ρ H (upd H a (.lst ys)) := ⟨⟨[], by simp⟩, tp, fun b hb => zD (hb0 b hb)⟩
  refine ⟨ex, fun b hb => ⟨by rw [zD (hb0 b hb)]; exact (r.pro b hb).1, (r.pro b hb).2⟩, r.nd, r.len, fun n o q => ?_⟩
  obtain ⟨b, q1, q2⟩ := r.all n o q
  refine ⟨b, q1, ?_⟩
  by_cases hb : b = a
  . subst hb
    have hsc := fr.2 n o q1 q
    cases o with
    | scr xs =>
      obtain ⟨vs, z, w⟩ := q2
      refine ⟨vs, ?_, RDs.ext ex _ _ w⟩
      rcases z with ⟨o', z⟩ | z
      . rw [ha] at z; cases z
      . exact .inr z
    | hole => trivial
    | _ => cases hsc
  . exact q2.map (fun w z => by rw [zD hb]; exact z) (RD.ext ex) (RDs.ext ex)
end
end MI
end
section
namespace MI
open PySem PySem.Spec L2
section
variable {α β γ δ : Type}
abbrev RL (α β : Type) := (Addr -> Prop) -> List Addr -> MH -> Hp -> α -> β -> Prop
def wp (F : Addr -> Prop) (W : Nat -> Hp -> Prop) (G : GP) (Rl : RL α β) (env : zA) (σ : L2.St) (ρ : List Addr) (H : Hp) (r : R α) (Q : β -> Hp -> Prop) : Prop := match r with
  | .ok v h1 => ∀ ρ1 H1 v1, Ext F ρ ρ1 H H1 -> z6 ρ1 H1 env σ -> HR F G ρ1 h1 H1 -> Rl F ρ1 h1 H1 v v1 -> Q v1 H1
  | .ex c h1 => ∀ ρ1 H1, Ext F ρ ρ1 H H1 -> HR F G ρ1 h1 H1 -> W c H1
  | .bad => False
def tG (W : Nat -> Hp -> Prop) (G : GP) (Rl : RL α β) (m : ME α) : L2.St -> Hp -> (β -> Hp -> Prop) -> Prop := fun σ H Q =>
  ∃ F ρ env h, z6 ρ H env σ ∧ HR F G ρ h H ∧ wp F W G Rl env σ ρ H (m env h) Q
variable {W : Nat -> Hp -> Prop} {F : Addr -> Prop} {G : GP} {Rl : RL α β} {Rl' : RL γ δ} {env : zA} {σ : L2.St} {ρ ρ1 : List Addr} {H H1 : Hp} {h h1 : MH}
theorem wp.mono {r : R α} {Q : β -> Hp -> Prop} (w : wp F W G Rl env σ ρ H r Q) (e : Ext F ρ ρ1 H H1) : wp F W G Rl env σ ρ1 H1 r Q := by
  cases r with
  | ok v h1 => exact fun ρ2 H2 v1 e2 => w ρ2 H2 v1 (e.trans e2)
  | ex c h1 => exact fun ρ2 H2 e2 => w ρ2 H2 (e.trans e2)
  | bad => exact w
theorem zG {m : ME α} {k : α -> ME γ} {Q : δ -> Hp -> Prop} {P : β -> Hp -> Prop} (w : wp F W G Rl' env σ ρ H (zn m k env h) Q)
    (f : ∀ x h1 ρ1 H1 y, Ext F ρ ρ1 H H1 -> z6 ρ1 H1 env σ -> HR F G ρ1 h1 H1 -> Rl F ρ1 h1 H1 x y -> wp F W G Rl' env σ ρ1 H1 (k x env h1) Q -> P y H1) : wp F W G Rl env σ ρ H (m env h) P := by
  unfold zn at w
  cases e : m env h with
  | ok v h1 =>
    rw [e] at w
    exact fun ρ1 H1 y ex er hr rl => f v h1 ρ1 H1 y ex er hr rl (w.mono ex)
  | ex c h1 => rw [e] at w; exact w
  | bad => rw [e] at w; exact w
end
theorem z3 {X : Cx} {e : Expr} {t t' : TE} (h : PE X e t) (i : ∀ σ H Q, t' σ H Q -> t σ H Q) : PE X e t' := fun pins s σ H Q I hw => h pins s σ H Q I (i _ _ _ hw)
theorem ziR {X : Cx} {e : Expr} {t t' : TT} (h : PT X e t) (i : ∀ σ H Q, t' σ H Q -> t σ H Q) : PT X e t' := fun pins s σ H Q I hw => h pins s σ H Q I (i _ _ _ hw)
theorem ztj {X : Cx} {e : Expr} {t t' : TT} (h : PW X e t) (i : ∀ σ H Q, t' σ H Q -> t σ H Q) : PW X e t' := fun wh pins s σ H Q I hw => h wh pins s σ H Q I (i _ _ _ hw)
theorem zsf {X : Cx} {e : List Expr} {t t' : TA} (h : PA X e t) (i : ∀ σ H Q, t' σ H Q -> t σ H Q) : PA X e t' := fun pos pins s σ H Q I hw => h pos pins s σ H Q I (i _ _ _ hw)
theorem zt4 {X : Cx} {e : Option Expr} {t t' : TO} (h : PO X e t) (i : ∀ σ H Q, t' σ H Q -> t σ H Q) : PO X e t' := fun pins s σ H Q I hw => h pins s σ H Q I (i _ _ _ hw)
theorem zqh {X : Cx} {tg e : Expr} {t t' : TI} (h : PI X tg e t) (i : ∀ σ H Q, t' σ H Q -> t σ H Q) : PI X tg e t' := fun pins s σ H Q I hw => h pins s σ H Q I (i _ _ _ hw)
abbrev rV : RL D V := fun _ ρ _ H d v => RD ρ H d v
abbrev rB : RL Bool Bool := fun _ _ _ _ a b => a = b
abbrev rO : RL (Option Int) (Option Int) := fun _ _ _ _ a b => a = b
abbrev rA : RL (List D) (List V) := fun _ ρ _ H d v => RDs ρ H d v
def rL (K : PySem.W.Frag) : RL (List D) V := fun _ ρ _ H xs v => ∃ a vs, v = .ref a ∧ H a = some (.lst vs) ∧ RDs ρ H xs vs
def rN (K : PySem.W.Frag) : RL (List D) V := fun F ρ h H xs v => ∃ a vs, v = .ref a ∧ H a = some (.lst vs) ∧ zfQ F ρ h a ∧ RDs ρ H xs vs
abbrev tE (W : Nat -> Hp -> Prop) (G : GP) (m : ME D) : TE := tG W G rV m
abbrev tT (W : Nat -> Hp -> Prop) (G : GP) (m : ME Bool) : TT := tG W G rB m
abbrev tA (W : Nat -> Hp -> Prop) (G : GP) (m : ME (List D)) : TA := tG W G rA m
abbrev tO (W : Nat -> Hp -> Prop) (G : GP) (m : ME (Option Int)) : TO := tG W G rO m
abbrev tL (W : Nat -> Hp -> Prop) (G : GP) (m : ME (List D)) : TE := tG W G (rL G.K) m
abbrev tN (W : Nat -> Hp -> Prop) (G : GP) (m : ME (List D)) : TE := tG W G (rN G.K) m
@[irreducible] def JE (X : Cx) (e : Expr) (t : TE) : Prop := PE X e t
@[irreducible] def JT (X : Cx) (e : Expr) (t : TT) : Prop := PT X e t
@[irreducible] def JW (X : Cx) (e : Expr) (t : TT) : Prop := PW X e t
@[irreducible] def JA (X : Cx) (e : List Expr) (t : TA) : Prop := PA X e t
@[irreducible] def JO (X : Cx) (e : Option Expr) (t : TO) : Prop := PO X e t
theorem JE.to {X : Cx} {e : Expr} {t : TE} (h : JE X e t) : PE X e t := by unfold JE at h; exact h
theorem JE.of {X : Cx} {e : Expr} {t : TE} (h : PE X e t) : JE X e t := by unfold JE; exact h
theorem JT.to {X : Cx} {e : Expr} {t : TT} (h : JT X e t) : PT X e t := by unfold JT at h; exact h
theorem JT.of {X : Cx} {e : Expr} {t : TT} (h : PT X e t) : JT X e t := by unfold JT; exact h
theorem JW.to {X : Cx} {e : Expr} {t : TT} (h : JW X e t) : PW X e t := by unfold JW at h; exact h
theorem JW.of {X : Cx} {e : Expr} {t : TT} (h : PW X e t) : JW X e t := by unfold JW; exact h
theorem JA.to {X : Cx} {e : List Expr} {t : TA} (h : JA X e t) : PA X e t := by unfold JA at h; exact h
theorem JA.of {X : Cx} {e : List Expr} {t : TA} (h : PA X e t) : JA X e t := by unfold JA; exact h
theorem JO.to {X : Cx} {e : Option Expr} {t : TO} (h : JO X e t) : PO X e t := by unfold JO at h; exact h
theorem JO.of {X : Cx} {e : Option Expr} {t : TO} (h : PO X e t) : JO X e t := by unfold JO; exact h
section
variable {W : Nat -> Hp -> Prop} {X : Cx} {F : Addr -> Prop} {G : GP} {env : zA} {σ : L2.St} {ρ : List Addr} {H : Hp} {h : MH} {a b c : Expr} {ma mb mc : ME D} {pos : Pos} {Q : VK}
theorem wp.done {α β : Type} {Rl : RL α β} {x : α} {y : β} {Q : β -> Hp -> Prop} (w : wp F W G Rl env σ ρ H (.ok x h) Q) (er : z6 ρ H env σ) (hr : HR F G ρ h H) (r : Rl F ρ h H x y) : Q y H := w ρ H y Ext.refl er hr r
theorem wp.made {α β : Type} {Rl : RL α β} {x : α} {y : β} {Q : β -> Hp -> Prop} {p : Addr} {u : HO} (w : wp F W G Rl env σ ρ H (.ok x h) Q) (er : z6 ρ H env σ) (hr : HR F G ρ h H) (hp : H p = none) (r : Rl F ρ h (upd H p u) x y) : Q y (upd H p u) :=
  w ρ _ y (zcR hr hp) (er.ext (zcR hr hp)) (hr.new hp) r
theorem zc (i : Nat) {x : Str} {pos : Pos} (hN : X.N[i]? = some x := by rfl) (hv : Vis X.env.scope x := by first | exact Or.inl rfl | exact Or.inr (Or.inl rfl) | exact Or.inr (Or.inr rfl)) (hd : (x == ("__debug__" : Str)) = false := by decide)
    (hcd : (x == ("__classdict__" : Str)) = false := by decide) : JE X (.Name x pos) (tE W G (var i)) :=
  .of (z3 (zAT hN hv hd hcd) fun σ H Q ⟨F, ρ, env, h, er, hr, w⟩ => by
    unfold var at w
    cases e : env[i]? with
    | none => rw [e] at w; exact w.elim
    | some o =>
      cases o with
      | none => rw [e] at w; exact w.elim
      | some d =>
        rw [e] at w
        obtain ⟨v, h1, h2⟩ := er.all i d e
        exact ⟨v, h1, w.done er hr h2⟩)
theorem q_c {e : Expr} {v : V} {d : D} (h : PE X e (tC v)) (r : ∀ ρ H, RD ρ H d v) : JE X e (tE W G (zb d)) :=
  .of (z3 h fun σ H Q ⟨F, ρ, env, h, er, hr, w⟩ => wp.done (h := h) w er hr (r ρ H))
theorem zg {i j pos} : JE X (.Constant (.int i) j pos) (tE W G (zb (.int i))) := q_c zp4 fun _ _ => by unfold RD; rfl
theorem zck {i j pos} : JE X (.Constant (.bool i) j pos) (tE W G (zb (.bl i))) := q_c zFu fun _ _ => by unfold RD; rfl
theorem zfK {j pos} : JE X (.Constant .none j pos) (tE W G (zb .non)) := q_c zBt fun _ _ => by unfold RD; rfl
theorem ze1 {x : Str} {i : Int} {u : Value} {pos : Pos} (hg : Gl X x) (hm : X.mg x = some u) (r : zu (.int i) u) (hd : (x == ("__debug__" : Str)) = false := by decide) : JE X (.Name x pos) (tE W G (zb (.int i))) :=
  q_c (zrV hg hm r hd) fun _ _ => by unfold RD; rfl
def OpM (W : Nat -> Hp -> Prop) (G : GP) (f : D -> D -> ME D) (r : R2) : Prop := ∀ (F : Addr -> Prop) (ρ : List Addr) (h : MH) (H : Hp) (env : zA) (σ : L2.St) (x y : D) (v u : V) (Q : VK), z6 ρ H env σ -> HR F G ρ h H -> RD ρ H x v -> RD ρ H y u ->
  wp F W G rV env σ ρ H (f x y env h) Q -> r v u H Q
theorem zh7 {op : Operator} {r : R2} {f : D -> D -> ME D} (ho : OpR X (binaryOp op) r) (hf : OpM W G f r) (ha : JE X a (tE W G ma)) (hb : JE X b (tE W G mb)) : JE X (.BinOp a op b pos) (tE W G (bin f ma mb)) :=
  .of (z3 (zpq ho ha.to hb.to) fun σ H Q ⟨F, ρ, env, h, er, hr, w⟩ => ⟨F, ρ, env, h, er, hr, zG w fun x h1 ρ1 H1 y e1 er1 hr1 r1 w1 => ⟨F, ρ1, env, h1, er1, hr1, zG w1 fun x2 h2 ρ2 H2 y2 e2 er2 hr2 r2 w2 =>
    hf F ρ2 h2 H2 env σ x x2 y y2 Q er2 hr2 (RD.ext e2 _ _ r1) r2 w2⟩⟩)
theorem zex {op : CmpOp} {r : R2} {f : D -> D -> ME D} (ho : OpR X (compareOp op) r ∧ OpM W G f r) (ha : JE X a (tE W G ma)) (hb : JE X b (tE W G mb)) (hm : behindInMarks op b = false) : JE X (.Compare a [op] [b] pos) (tE W G (bin f ma mb)) :=
  .of (z3 (zEN ho.1 ha.to hb.to hm) fun σ H Q ⟨F, ρ, env, h, er, hr, w⟩ => ⟨F, ρ, env, h, er, hr, zG w fun x h1 ρ1 H1 y e1 er1 hr1 r1 w1 => ⟨F, ρ1, env, h1, er1, hr1, zG w1 fun x2 h2 ρ2 H2 y2 e2 er2 hr2 r2 w2 =>
    ho.2 F ρ2 h2 H2 env σ x x2 y y2 Q er2 hr2 (RD.ext e2 _ _ r1) r2 w2⟩⟩)
theorem ztE {m : ME D} {Q : Bool -> Hp -> Prop} (w : wp F W G rB env σ ρ H (tst m env h) Q) : wp F W G rV env σ ρ H (m env h) (fun v H1 => ∃ k, v = .bl k ∧ Q k H1) :=
  zG w fun d h1 ρ1 H1 y e1 er1 hr1 r1 w1 => by
    cases d with
    | bl k =>
      have r1 : RD ρ1 H1 (.bl k) y := r1
      unfold RD at r1
      exact ⟨k, r1, wp.done (h := h1) w1 er1 hr1 rfl⟩
    | _ => exact w1.elim
theorem zbd {op : CmpOp} {r : R2} {f : D -> D -> ME D} (ho : OpR X (compareOp op) r ∧ OpM W G f r) (ha : JE X a (tE W G ma)) (hb : JE X b (tE W G mb)) (hm : behindInMarks op b = false) : JT X (.Compare a [op] [b] pos) (tT W G (tst (bin f ma mb))) :=
  .of (ziR (zCs ho.1 ha.to hb.to hm) fun σ H Q ⟨F, ρ, env, h, er, hr, w⟩ => ⟨F, ρ, env, h, er, hr, zG (ztE (m := bin f ma mb) w) fun x h1 ρ1 H1 y e1 er1 hr1 r1 w1 => ⟨F, ρ1, env, h1, er1, hr1, zG w1 fun x2 h2 ρ2 H2 y2 e2 er2 hr2 r2 w2 =>
    ho.2 F ρ2 h2 H2 env σ x x2 y y2 _ er2 hr2 (RD.ext e2 _ _ r1) r2 w2⟩⟩)
theorem zsV {r r' : R2} {f g : D -> D -> ME D} {Q : VK} (hf : OpM W G f r) (hg : OpM W G g r') (w : tE W G (zeW f g ma mb mc) σ H Q) : zpe r r' (tE W G ma) (tE W G mb) (tE W G mc) σ H Q := by
  obtain ⟨F, ρ, env, h, er, hr, w⟩ := w
  refine ⟨F, ρ, env, h, er, hr, zG w fun x h1 ρ1 H1 y e1 er1 hr1 r1 w1 => ⟨F, ρ1, env, h1, er1, hr1, zG w1 fun x2 h2 ρ2 H2 y2 e2 er2 hr2 r2 w2 => ?_⟩⟩
  refine hf F ρ2 h2 H2 env σ x x2 y y2 _ er2 hr2 (RD.ext e2 _ _ r1) r2 ?_
  refine zG (Rl := rV) w2 fun d h3 ρ3 H3 z e3 er3 hr3 r3 w3 => ?_
  cases d with
  | bl k =>
    have r3 : RD ρ3 H3 (.bl k) z := r3
    unfold RD at r3
    refine ⟨k, r3, ?_⟩
    cases k with
    | true =>
      rw [if_pos rfl]
      exact ⟨F, ρ3, env, h3, er3, hr3, zG w3 fun x4 h4 ρ4 H4 y4 e4 er4 hr4 r4 w4 => hg F ρ4 h4 H4 env σ x2 x4 y2 y4 Q er4 hr4 (RD.ext (e3.trans e4) _ _ r2) r4 w4⟩
    | false =>
      rw [if_neg (by decide)]
      exact wp.done (h := h3) w3 er3 hr3 (by unfold RD; rfl)
  | _ => exact w3.elim
theorem zEH {op op' : CmpOp} {r r' : R2} {f g : D -> D -> ME D} (ho : OpR X (compareOp op) r ∧ OpM W G f r) (ho' : OpR X (compareOp op') r' ∧ OpM W G g r') (ha : JE X a (tE W G ma)) (hb : JE X b (tE W G mb)) (hc : JE X c (tE W G mc))
    (hm : lastMarks [op, op'] [b, c] = false := by with_unfolding_all rfl) : JE X (.Compare a [op, op'] [b, c] pos) (tE W G (zeW f g ma mb mc)) :=
  .of (z3 (zFr ho.1 ho'.1 ha.to hb.to hc.to hm) fun σ H Q w => zsV ho.2 ho'.2 w)
theorem zsz {op op' : CmpOp} {r r' : R2} {f g : D -> D -> ME D} (ho : OpR X (compareOp op) r ∧ OpM W G f r) (ho' : OpR X (compareOp op') r' ∧ OpM W G g r') (ha : JE X a (tE W G ma)) (hb : JE X b (tE W G mb)) (hc : JE X c (tE W G mc))
    (hm : lastMarks [op, op'] [b, c] = false := by with_unfolding_all rfl) : JT X (.Compare a [op, op'] [b, c] pos) (tT W G (tst (zeW f g ma mb mc))) :=
  .of (ziR (zBK ho.1 ho'.1 ha.to hb.to hc.to hm) fun σ H Q ⟨F, ρ, env, h, er, hr, w⟩ => zsV ho.2 ho'.2 ⟨F, ρ, env, h, er, hr, ztE (m := zeW f g ma mb mc) w⟩)
theorem zDG {op : UnaryOp} {r : V -> Hp -> VK -> Prop} {f : D -> ME D} (ho : UnR X (unaryOp op) r)
    (hf : ∀ (F : Addr -> Prop) (ρ : List Addr) (h : MH) (H : Hp) (env : zA) (σ : L2.St) (x : D) (v : V) (Q : VK), z6 ρ H env σ -> HR F G ρ h H -> RD ρ H x v -> wp F W G rV env σ ρ H (f x env h) Q -> r v H Q) (ha : JE X a (tE W G ma)) : JE X (.UnaryOp op a pos) (tE W G (un f ma)) :=
  .of (z3 (zsB ho ha.to) fun σ H Q ⟨F, ρ, env, h, er, hr, w⟩ => ⟨F, ρ, env, h, er, hr, zG w fun x h1 ρ1 H1 y e1 er1 hr1 r1 w1 => hf F ρ1 h1 H1 env σ x y Q er1 hr1 r1 w1⟩)
theorem zeP (ha : JE X a (tE W G ma)) : JE X (.UnaryOp .USub a pos) (tE W G (un zcc ma)) := zDG zr0 (fun F ρ h H env σ x v Q er hr r w => by
  cases x with
  | int i => unfold RD at r; exact ⟨i, r, wp.done (h := h) w er hr (by unfold RD; rfl)⟩
  | _ => exact w.elim) ha
theorem zp1 {f : D -> D -> ME D} {C : Int -> Int -> Prop} {g : Int -> Int -> V} {k : Int -> Int -> D} (hk : ∀ i j ρ H, RD ρ H (k i j) (g i j)) (hf : ∀ x y env h, (∃ i j, x = .int i ∧ y = .int j ∧ ((C i j ∧ f x y env h = .ok (k i j) h) ∨ f x y env h = .bad)) ∨ f x y env h = .bad) : OpM W G f (rI C g) := by
  intro F ρ h H env σ x y v u Q er hr r1 r2 w
  rcases hf x y env h with ⟨i, j, rfl, rfl, ⟨hc, e⟩ | e⟩ | e
  . rw [e] at w
    unfold RD at r1 r2
    exact ⟨i, j, r1, r2, hc, w.done er hr (hk i j ρ H)⟩
  . rw [e] at w; exact w.elim
  . rw [e] at w; exact w.elim
theorem zpj {f : D -> D -> ME D} {g : Int -> Int -> V} {k : Int -> Int -> D} (hk : ∀ i j ρ H, RD ρ H (k i j) (g i j)) (hf : ∀ x y env h, (∃ i j, x = .int i ∧ y = .int j ∧ f x y env h = .ok (k i j) h) ∨ f x y env h = .bad) : OpM W G f (rI0 g) := by
  intro F ρ h H env σ x y v u Q er hr r1 r2 w
  rcases hf x y env h with ⟨i, j, rfl, rfl, e⟩ | e
  . rw [e] at w
    unfold RD at r1 r2
    exact ⟨i, j, r1, r2, w.done er hr (hk i j ρ H)⟩
  . rw [e] at w; exact w.elim
theorem zsn : OpM W G zK (rI0 fun i j => .int (i + j)) := zpj (k := fun i j => .int (i + j)) (fun _ _ _ _ => by unfold RD; rfl) fun x y env h => by cases x <;> cases y <;> first | exact .inr rfl | exact .inl ⟨_, _, rfl, rfl, rfl⟩
theorem zCT : OpM W G z8 (rI0 fun i j => .int (i - j)) := zpj (k := fun i j => .int (i - j)) (fun _ _ _ _ => by unfold RD; rfl) fun x y env h => by cases x <;> cases y <;> first | exact .inr rfl | exact .inl ⟨_, _, rfl, rfl, rfl⟩
theorem zCP : OpM W G zb4 (rI zhE fun i j => .int (i * j)) := zp1 (k := fun i j => .int (i * j)) (fun _ _ _ _ => by unfold RD; rfl) fun x y env h => by
  cases x <;> cases y <;> first | exact .inr rfl | skip
  rename_i i j
  refine .inl ⟨i, j, rfl, rfl, ?_⟩
  show (_ ∧ (if (zcE i || zcE j) = true then zb (.int (i * j)) else zJ : ME D) env h = _) ∨ (if (zcE i || zcE j) = true then zb (.int (i * j)) else zJ : ME D) env h = _
  by_cases e : (zcE i || zcE j) = true
  . left
    rw [if_pos e]
    refine ⟨?_, rfl⟩
    unfold zhE
    simp only [zcE, Bool.or_eq_true, Bool.and_eq_true, decide_eq_true_eq] at e
    exact e
  . right; rw [if_neg e]; rfl
theorem zE6 : OpM W G zdE (rI ztB fun i j => .int (i / j)) := zp1 (k := fun i j => .int (i / j)) (fun _ _ _ _ => by unfold RD; rfl) fun x y env h => by
  cases x <;> cases y <;> first | exact .inr rfl | skip
  rename_i i j
  refine .inl ⟨i, j, rfl, rfl, ?_⟩
  show (_ ∧ (if 0 < j ∧ j < 1073741824 then zb (.int (i / j)) else zJ : ME D) env h = _) ∨ (if 0 < j ∧ j < 1073741824 then zb (.int (i / j)) else zJ : ME D) env h = _
  by_cases e : 0 < j ∧ j < 1073741824
  . left; rw [if_pos e]; exact ⟨e, rfl⟩
  . right; rw [if_neg e]; rfl
theorem zFt : OpM W G zbA (rI (fun _ j => 0 < j) fun i j => .int (i % j)) := zp1 (k := fun i j => .int (i % j)) (fun _ _ _ _ => by unfold RD; rfl) fun x y env h => by
  cases x <;> cases y <;> first | exact .inr rfl | skip
  rename_i i j
  refine .inl ⟨i, j, rfl, rfl, ?_⟩
  show (_ ∧ (if 0 < j then zb (.int (i % j)) else zJ : ME D) env h = _) ∨ (if 0 < j then zb (.int (i % j)) else zJ : ME D) env h = _
  by_cases e : 0 < j
  . left; rw [if_pos e]; exact ⟨e, rfl⟩
  . right; rw [if_neg e]; rfl
theorem zpH (p : Int -> Int -> Bool) : OpM W G (zhF p) (rI0 fun i j => .bl (p i j)) := zpj (k := fun i j => .bl (p i j)) (fun _ _ _ _ => by unfold RD; rfl) fun x y env h => by cases x <;> cases y <;> first | exact .inr rfl | exact .inl ⟨_, _, rfl, rfl, rfl⟩
theorem zc2 (ha : JE X a (tE W G ma)) (hb : JE X b (tE W G mb)) : JE X (.BinOp a .Add b pos) (tE W G (bin zK ma mb)) := zh7 zDp zsn ha hb
theorem zdC (ha : JE X a (tE W G ma)) (hb : JE X b (tE W G mb)) : JE X (.BinOp a .Sub b pos) (tE W G (bin z8 ma mb)) := zh7 zCb zCT ha hb
theorem zhb (ha : JE X a (tE W G ma)) (hb : JE X b (tE W G mb)) : JE X (.BinOp a .Mult b pos) (tE W G (bin zb4 ma mb)) := zh7 zEz zCP ha hb
theorem ziy (ha : JE X a (tE W G ma)) (hb : JE X b (tE W G mb)) : JE X (.BinOp a .FloorDiv b pos) (tE W G (bin zdE ma mb)) := zh7 zBO zE6 ha hb
theorem zeB (ha : JE X a (tE W G ma)) (hb : JE X b (tE W G mb)) : JE X (.BinOp a .Mod b pos) (tE W G (bin zbA ma mb)) := zh7 zBF zFt ha hb
end
end MI
end
section
namespace MI
open PySem PySem.Spec L2
mutual
def cv : D -> L2.D
  | .non => .non
  | .bl b => .bl b
  | .int i => .int i
  | .str x => .str x
  | .tup ds => .tup (cvs ds)
  | .obj _ => .non
def cvs : List D -> List L2.D
  | [] => []
  | d :: r => cv d :: cvs r
end
def cvC : Cmp -> L2.D
  | .d x => cv x
  | .l xs => .lst (cvs xs)
theorem zr7 {ρ : List Addr} {H : Hp} : ∀ (n : Nat), (∀ (d : D) (v : V), d.pl n = true -> RD ρ H d v -> Dat H (cv d) v ∧ dpt (cv d) <= n) ∧ (∀ (ds : List D) (vs : List V), ds.all (D.pl n) = true -> RDs ρ H ds vs -> zbI H (cvs ds) vs ∧ zcz (cvs ds) <= n) := by
  intro n
  induction n with
  | zero =>
    have one : ∀ (d : D) (v : V), d.pl 0 = true -> RD ρ H d v -> Dat H (cv d) v ∧ dpt (cv d) <= 0 := fun d v p r => by
      cases d <;> first
        | (simp [D.pl] at p; done)
        | (unfold RD at r; simp [cv, Dat, dpt, r])
    refine ⟨one, fun ds => ?_⟩
    induction ds with
    | nil => intro vs _ r; unfold RDs at r; simp [cvs, zbI, zcz, r]
    | cons d ds ih =>
      intro vs p r
      rw [List.all_cons, Bool.and_eq_true] at p
      unfold RDs at r
      obtain ⟨x, q, rfl, r1, r2⟩ := r
      obtain ⟨h1, h2⟩ := one d x p.1 r1
      obtain ⟨h3, h4⟩ := ih q p.2 r2
      unfold cvs zbI zcz
      exact ⟨⟨x, q, rfl, h1, h3⟩, by omega⟩
  | succ n ihn =>
    have one : ∀ (d : D) (v : V), d.pl (n + 1) = true -> RD ρ H d v -> Dat H (cv d) v ∧ dpt (cv d) <= n + 1 := fun d v p r => by
      cases d with
      | tup ds =>
        unfold D.pl at p
        unfold RD at r
        obtain ⟨a, vs, rfl, h1, h2⟩ := r
        obtain ⟨h3, h4⟩ := ihn.2 ds vs p h2
        unfold cv Dat dpt
        exact ⟨⟨a, vs, rfl, h1, h3⟩, by omega⟩
      | obj m => simp [D.pl] at p
      | _ => unfold RD at r; simp [cv, Dat, dpt, r]
    refine ⟨one, fun ds => ?_⟩
    induction ds with
    | nil => intro vs _ r; unfold RDs at r; simp [cvs, zbI, zcz, r]
    | cons d ds ih =>
      intro vs p r
      rw [List.all_cons, Bool.and_eq_true] at p
      unfold RDs at r
      obtain ⟨x, q, rfl, r1, r2⟩ := r
      obtain ⟨h1, h2⟩ := one d x p.1 r1
      obtain ⟨h3, h4⟩ := ih q p.2 r2
      unfold cvs zbI zcz
      exact ⟨⟨x, q, rfl, h1, h3⟩, by omega⟩
theorem zsN : ∀ (n : Nat), (∀ (a b : D), a.pl n = true -> b.pl n = true -> eqD (cv a) (cv b) = peq a b) ∧ (∀ (a b : List D), a.all (D.pl n) = true -> b.all (D.pl n) = true -> zce (cvs a) (cvs b) = zcI a b) := by
  intro n
  have many : (∀ (a b : D), a.pl n = true -> b.pl n = true -> eqD (cv a) (cv b) = peq a b) -> (∀ (a b : List D), a.all (D.pl n) = true -> b.all (D.pl n) = true -> zce (cvs a) (cvs b) = zcI a b) := by
    intro one a
    induction a with
    | nil => intro b _ _; cases b <;> simp [cvs, zce, zcI]
    | cons x a ih =>
      intro b p q
      cases b with
      | nil => simp [cvs, zce, zcI]
      | cons y b =>
        rw [List.all_cons, Bool.and_eq_true] at p q
        unfold cvs zce zcI
        rw [one x y p.1 q.1, ih b p.2 q.2]
  induction n with
  | zero =>
    have one : ∀ (a b : D), a.pl 0 = true -> b.pl 0 = true -> eqD (cv a) (cv b) = peq a b := fun a b p q => by
      cases a <;> first
        | (simp [D.pl] at p; done)
        | (cases b <;> first
          | (simp [D.pl] at q; done)
          | simp [cv, eqD, peq])
    exact ⟨one, many one⟩
  | succ n ihn =>
    have one : ∀ (a b : D), a.pl (n + 1) = true -> b.pl (n + 1) = true -> eqD (cv a) (cv b) = peq a b := fun a b p q => by
      cases a with
      | tup as =>
        cases b with
        | tup bs =>
          unfold D.pl at p q
          unfold cv eqD peq
          refine (ihn ?_).2 as bs p q
          intro one a
          induction a with
          | nil => intro b _ _; cases b <;> simp [cvs, zce, zcI]
          | cons x a ih =>
            intro b p q
            cases b with
            | nil => simp [cvs, zce, zcI]
            | cons y b =>
              rw [List.all_cons, Bool.and_eq_true] at p q
              unfold cvs zce zcI
              rw [one x y p.1 q.1, ih b p.2 q.2]
        | obj m => simp [D.pl] at q
        | _ => simp [cv, eqD, peq]
      | obj m => simp [D.pl] at p
      | _ =>
        cases b with
        | obj m => simp [D.pl] at q
        | _ => simp [cv, eqD, peq]
    exact ⟨one, many one⟩
section
variable {W : Nat -> Hp -> Prop} {X : Cx} {F : Addr -> Prop} {G : GP} {env : zA} {σ : L2.St} {ρ : List Addr} {H : Hp} {h : MH} {a b c : Expr} {ma mb mc : ME D} {pos : Pos} {Q : VK} {k : Nat}
theorem HR.lst (hr : HR F G ρ h H) {n : Nat} {v : V} {xs : List D} (r : RD ρ H (.obj n) v) (e : h[n]? = some (.lst xs)) : ∃ a vs, v = .ref a ∧ ρ[n]? = some a ∧ H a = some (.lst vs) ∧ RDs ρ H xs vs := by
  unfold RD at r
  obtain ⟨a, rfl, ea⟩ := r
  obtain ⟨vs, h1, h2⟩ := hr.at e ea
  exact ⟨a, vs, rfl, ea, h1, h2⟩
theorem HR.scr (hr : HR F G ρ h H) {n : Nat} {v : V} {xs : List D} (r : RD ρ H (.obj n) v) (e : h[n]? = some (.scr xs)) : ∃ a vs, v = .ref a ∧ ρ[n]? = some a ∧ SqL G.K H a vs ∧ RDs ρ H xs vs := by
  unfold RD at r
  obtain ⟨a, rfl, ea⟩ := r
  obtain ⟨vs, h1, h2⟩ := hr.at e ea
  refine ⟨a, vs, rfl, ea, ?_, h2⟩
  rcases h1 with ⟨o, h1⟩ | h1
  . exact .inl (.inr ⟨o, h1⟩)
  . exact .inr h1
theorem HR.dic (hr : HR F G ρ h H) {n : Nat} {v : V} {xs : List (Int × D)} (r : RD ρ H (.obj n) v) (e : h[n]? = some (.dic xs)) : ∃ a vs, v = .ref a ∧ ρ[n]? = some a ∧ H a = some (.dK vs) ∧ KRs ρ H xs vs := by
  unfold RD at r
  obtain ⟨a, rfl, ea⟩ := r
  obtain ⟨vs, h1, h2⟩ := hr.at e ea
  exact ⟨a, vs, rfl, ea, h1, h2⟩
theorem HR.ins (hr : HR F G ρ h H) {n c : Nat} {v : V} {xs : List (Nat × D)} (r : RD ρ H (.obj n) v) (e : h[n]? = some (.ins c xs)) : ∃ a C dx vs, v = .ref a ∧ ρ[n]? = some a ∧ G.cm[c]? = some C ∧ H a = some (.ins C dx vs) ∧ FRs G ρ H C xs vs := by
  unfold RD at r
  obtain ⟨a, rfl, ea⟩ := r
  obtain ⟨C, dx, vs, h1, h2, h3⟩ := hr.at e ea
  exact ⟨a, C, dx, vs, rfl, ea, h1, h2, h3⟩
theorem ztH {x : D} {k : Cmp} (e : zcA h x = some k) : (∃ n xs, x = .obj n ∧ h[n]? = some (.lst xs) ∧ xs.all (D.pl 5) = true ∧ k = .l xs) ∨ (x.pl 5 = true ∧ k = .d x) := by
  have fin : ∀ {y : D}, (if y.pl 5 = true then some (Cmp.d y) else none) = some k -> y.pl 5 = true ∧ k = .d y := fun {y} e => by
    by_cases p : y.pl 5 = true
    . rw [if_pos p] at e; cases e; exact ⟨p, rfl⟩
    . rw [if_neg p] at e; cases e
  cases x with
  | obj n =>
    simp only [zcA] at e
    cases q : h[n]? with
    | none => rw [q] at e; cases e
    | some o =>
      rw [q] at e
      cases o with
      | lst xs =>
        dsimp only at e
        by_cases p : xs.all (D.pl 5) = true
        . rw [if_pos p] at e; cases e; exact .inl ⟨n, xs, rfl, q, p, rfl⟩
        . rw [if_neg p] at e; cases e
      | _ => cases e
  | _ => exact .inr (fin e)
theorem zir (hr : HR F G ρ h H) {x : D} {v : V} {k : Cmp} (r : RD ρ H x v) (e : zcA h x = some k) : Dat H (cvC k) v ∧ dpt (cvC k) <= 100 := by
  rcases ztH e with ⟨n, xs, rfl, q, p, rfl⟩ | ⟨p, rfl⟩
  . obtain ⟨a, vs, rfl, ea, h1, h2⟩ := hr.lst r q
    obtain ⟨h3, h4⟩ := (zr7 5).2 xs vs p h2
    unfold cvC Dat dpt
    exact ⟨⟨a, vs, rfl, .inl h1, h3⟩, by omega⟩
  . obtain ⟨h1, h2⟩ := (zr7 5).1 _ v p r
    exact ⟨h1, Nat.le_trans h2 (by decide)⟩
theorem ztq {x : D} {k : Cmp} (e : zcA h x = some k) : match k with
    | .d y => y.pl 5 = true
    | .l ys => ys.all (D.pl 5) = true := by
  rcases ztH e with ⟨n, xs, rfl, q, p, rfl⟩ | ⟨p, rfl⟩
  . exact p
  . exact p
theorem zr4 (xs : List L2.D) (y : D) : eqD (.lst xs) (cv y) = false ∧ eqD (cv y) (.lst xs) = false := by
  cases y <;> simp [cv, eqD]
theorem ztI {x y : D} {k l : Cmp} (e : zcA h x = some k) (e' : zcA h y = some l) : eqD (cvC k) (cvC l) = k.eq l := by
  have p := ztq e
  have q := ztq e'
  cases k with
  | d x =>
    cases l with
    | d y => exact (zsN 5).1 x y p q
    | l ys => exact (zr4 _ _).2
  | l xs =>
    cases l with
    | d y => exact (zr4 _ _).1
    | l ys =>
      show eqD (.lst (cvs xs)) (.lst (cvs ys)) = zcI xs ys
      unfold eqD
      exact (zsN 5).2 xs ys p q
theorem zEU : OpM W G eqV ziq := fun F ρ h H env σ x y v u Q er hr r1 r2 w => by
  unfold eqV at w
  cases e1 : zcA h x with
  | none => rw [e1] at w; exact w.elim
  | some k =>
    cases e2 : zcA h y with
    | none => rw [e1, e2] at w; exact w.elim
    | some l =>
      rw [e1, e2] at w
      obtain ⟨h1, h2⟩ := zir hr r1 e1
      obtain ⟨h3, h4⟩ := zir hr r2 e2
      exact ⟨_, _, h1, h3, h2, w.done er hr (by rw [ztI e1 e2]; unfold RD; rfl)⟩
theorem zCF : OpM W G neV ziK := fun F ρ h H env σ x y v u Q er hr r1 r2 w => by
  unfold neV at w
  cases e1 : zcA h x with
  | none => rw [e1] at w; exact w.elim
  | some k =>
    cases e2 : zcA h y with
    | none => rw [e1, e2] at w; exact w.elim
    | some l =>
      rw [e1, e2] at w
      obtain ⟨h1, h2⟩ := zir hr r1 e1
      obtain ⟨h3, h4⟩ := zir hr r2 e2
      exact ⟨_, _, h1, h3, h2, w.done er hr (by rw [ztI e1 e2]; unfold RD; rfl)⟩
theorem zfP (hr : zR k X.A) : OpR X (compareOp .Lt) (rI0 fun i j => .bl (decide (i < j))) ∧ OpM W G ltV (rI0 fun i j => .bl (decide (i < j))) := ⟨zAg, zpH _⟩
theorem ziG (hr : zR k X.A) : OpR X (compareOp .LtE) (rI0 fun i j => .bl (decide (i <= j))) ∧ OpM W G leV (rI0 fun i j => .bl (decide (i <= j))) := ⟨zFm, zpH _⟩
theorem zqd (hr : zR k X.A) : OpR X (compareOp .Gt) (rI0 fun i j => .bl (decide (j < i))) ∧ OpM W G gtV (rI0 fun i j => .bl (decide (j < i))) := ⟨zCY, zpH _⟩
theorem zcD (hr : zR k X.A) : OpR X (compareOp .Eq) ziq ∧ OpM W G eqV ziq := ⟨zEC hr, zEU⟩
theorem zdw (hr : zR k X.A) : OpR X (compareOp .NotEq) ziK ∧ OpM W G neV ziK := ⟨zDv hr, zCF⟩
theorem ztO {d : D} {v : V} (r : RD ρ H d v) (f : zb7 d = true) : zb6 v = true := by
  cases d <;> first | (simp [zb7] at f; done) | (unfold RD at r; subst r; rfl)
theorem zsU : ∀ {ds : List D} {vs : List V}, RDs ρ H ds vs -> ds.all zb7 = true -> vs.all zb6 = true
  | [], vs, r, _ => by unfold RDs at r; subst r; rfl
  | d :: ds, vs, r, f => by
    unfold RDs at r
    obtain ⟨x, q, rfl, r1, r2⟩ := r
    rw [List.all_cons, Bool.and_eq_true] at f
    rw [List.all_cons, ztO r1 f.1, zsU r2 f.2]; rfl
theorem zB4 {d e : D} {v u : V} (r : RD ρ H d v) (r' : RD ρ H e u) (f : zb7 d = true) (f' : zb7 e = true) : L2.eqV v u = peq d e := by
  cases d <;> first
    | (simp [zb7] at f; done)
    | (cases e <;> first
      | (simp [zb7] at f'; done)
      | (unfold RD at r r'; subst r r'; simp [L2.eqV, peq]))
theorem zrZ {d : D} {v : V} (r : RD ρ H d v) (f : zb7 d = true) : ∀ {ds : List D} {vs : List V}, RDs ρ H ds vs -> ds.all zb7 = true -> L2.inV v vs = inB d ds
  | [], vs, r', _ => by unfold RDs at r'; subst r'; rfl
  | e :: ds, vs, r', f' => by
    unfold RDs at r'
    obtain ⟨x, q, rfl, r1, r2⟩ := r'
    rw [List.all_cons, Bool.and_eq_true] at f'
    have ih := zrZ r f r2 f'.2
    unfold L2.inV inB at ih ⊢
    rw [List.any_cons, List.any_cons, ih, zB4 r1 r f'.1 f]
theorem zp3 : ∀ {kvs : List (Int × D)} {vs : List (Key × V)} {k : Int}, KRs ρ H kvs vs -> match look k kvs with
    | some d => ∃ v, zdF vs (Sum.inl k) = some v ∧ RD ρ H d v
    | none => zdF vs (Sum.inl k) = none
  | [], vs, k, r => by unfold KRs at r; subst r; rfl
  | p :: kvs, vs, k, r => by
    unfold KRs at r
    obtain ⟨v, q, rfl, r1, r2⟩ := r
    unfold look
    by_cases e : p.1 = k
    . rw [if_pos e]
      exact ⟨v, ziB (by rw [e]), r1⟩
    . rw [if_neg e, ziV (fun z => e (Sum.inl.inj z))]
      exact zp3 r2
def zfn (neg : Bool) : R2 := fun x y H Q => ∃ a o, y = .ref a ∧ zeQ H a x o ∧ Q (.bl (if neg then !o.isSome else o.isSome)) H
theorem zEc (hr : zR k X.A) : OpR X (compareOp .In) (zfn false) := fun pins s σ H x y v u Q I rx ry ⟨a, o, e, g, q⟩ => by
  subst e; cases ry
  exact zC8 (zi9 hr) I g rx fun s' I' => ⟨.bl o.isSome, H, I', rfl, q⟩
theorem zBu (hr : zR k X.A) : OpR X (compareOp .NotIn) (zfn true) := fun pins s σ H x y v u Q I rx ry ⟨a, o, e, g, q⟩ => by
  subst e; cases ry
  exact zBm (zi9 hr) I g rx fun s' I' => ⟨.bl (!o.isSome), H, I', rfl, q⟩
theorem ztC {x y : D} : (∃ b, inV x y env h = .ok (.bl b) h) ∨ inV x y env h = .bad := by
  cases y with
  | tup ds =>
    simp only [inV]
    split
    . exact .inl ⟨_, rfl⟩
    . exact .inr rfl
  | obj n =>
    simp only [inV]
    cases q : h[n]? with
    | none => exact .inr rfl
    | some o =>
      cases o with
      | lst xs =>
        dsimp only
        split
        . exact .inl ⟨_, rfl⟩
        . exact .inr rfl
      | scr xs =>
        dsimp only
        split
        . exact .inl ⟨_, rfl⟩
        . exact .inr rfl
      | dic kvs => cases x <;> first | exact .inl ⟨_, rfl⟩ | exact .inr rfl
      | _ => exact .inr rfl
  | _ => exact .inr rfl
theorem zsW {x y : D} {v u : V} {neg b : Bool} {Q : VK} (hK : X.K = G.K) (hr : HR F G ρ h H) (r1 : RD ρ H x v) (r2 : RD ρ H y u) (w : inV x y env h = .ok (.bl b) h) (q0 : Q (.bl (if neg then !b else b)) H) :
    rIn X.K neg v u H Q ∨ zfn neg v u H Q := by
  have seq : ∀ {p : Addr} {vs : List V} {ds : List D}, u = .ref p -> (SqL X.K H p vs ∨ SqT X.K H p vs) -> RDs ρ H ds vs -> (if (zb7 x && ds.all zb7) = true then R.ok (.bl (inB x ds)) h else .bad : R D) = .ok (.bl b) h -> rIn X.K neg v u H Q := fun {p vs ds} e sq rs w => by
    by_cases f : (zb7 x && ds.all zb7) = true
    . rw [if_pos f] at w
      cases w
      rw [Bool.and_eq_true] at f
      refine ⟨p, vs, e, sq, ztO r1 f.1, zsU rs f.2, ?_⟩
      rw [zrZ r1 f.1 rs f.2]
      exact q0
    . rw [if_neg f] at w; cases w
  cases y with
  | tup ds =>
    simp only [inV] at w
    unfold RD at r2
    obtain ⟨p, vs, e, hp, rs⟩ := r2
    exact .inl (seq e (.inr (.inl (.inl hp))) rs w)
  | obj n =>
    simp only [inV] at w
    cases q : h[n]? with
    | none => rw [q] at w; cases w
    | some o =>
      rw [q] at w
      cases o with
      | lst xs =>
        obtain ⟨a, vs, e, ea, h1, h2⟩ := hr.lst r2 q
        exact .inl (seq e (.inl (SqL.of h1)) h2 w)
      | scr xs =>
        obtain ⟨a, vs, e, ea, h1, h2⟩ := hr.scr r2 q
        exact .inl (seq e (.inl (by rw [hK]; exact h1)) h2 w)
      | dic kvs =>
        obtain ⟨a, vs, e, ea, h1, h2⟩ := hr.dic r2 q
        cases x with
        | int i =>
          dsimp only at w
          unfold RD at r1
          subst r1
          refine .inr ⟨a, zdF vs (Sum.inl i), e, zeQ.k (k := Sum.inl i) h1, ?_⟩
          have lv := zp3 (k := i) h2
          cases el : look i kvs with
          | none => rw [el] at lv w; cases w; rw [lv]; exact q0
          | some d =>
            rw [el] at lv w
            obtain ⟨v', e', _⟩ := lv
            cases w
            rw [e']; exact q0
        | _ => cases w
      | _ => cases w
  | _ => cases w
def ROr (r r' : R2) : R2 := fun x y H Q => r x y H Q ∨ r' x y H Q
theorem zA7 (hK : X.K = G.K) : OpM W G inV (ROr (rIn X.K false) (zfn false)) := fun F ρ h H env σ x y v u Q er hr r1 r2 w => by
  rcases ztC (x := x) (y := y) (env := env) (h := h) with ⟨b, e⟩ | e
  . rw [e] at w
    exact zsW (neg := false) hK hr r1 r2 e (w.done er hr (by unfold RD; rfl))
  . rw [e] at w; exact w.elim
theorem zEF (hK : X.K = G.K) : OpM W G zcC (ROr (rIn X.K true) (zfn true)) := fun F ρ h H env σ x y v u Q er hr r1 r2 w => by
  unfold zcC zn at w
  rcases ztC (x := x) (y := y) (env := env) (h := h) with ⟨b, e⟩ | e
  . rw [e] at w
    exact zsW (neg := true) hK hr r1 r2 e (wp.done (h := h) w er hr (by unfold RD; rfl))
  . rw [e] at w; exact w.elim
theorem zBA (hr : zR k X.A) (hK : X.K = G.K := by rfl) : OpR X (compareOp .In) (ROr (rIn X.K false) (zfn false)) ∧ OpM W G inV (ROr (rIn X.K false) (zfn false)) := ⟨zCv.or (zEc hr), zA7 hK⟩
theorem zpR (hr : zR k X.A) (hK : X.K = G.K := by rfl) : OpR X (compareOp .NotIn) (ROr (rIn X.K true) (zfn true)) ∧ OpM W G zcC (ROr (rIn X.K true) (zfn true)) := ⟨zBX.or (zBu hr), zEF hK⟩
theorem RD.non_iff {d : D} {v : V} (r : RD ρ H d v) : (v = .non) ↔ (d = .non) := by
  cases d <;> unfold RD at r <;> first
    | (subst r; simp; done)
    | (obtain ⟨a, vs, rfl, _⟩ := r; simp; done)
    | (obtain ⟨a, rfl, _⟩ := r; simp; done)
def rIs (neg : Bool) : R2 := ROr (fun x y H Q => y = .non ∧ Q (.bl (if neg then !decide (x = .non) else decide (x = .non))) H) (fun x y H Q => ∃ b c, x = .bl b ∧ y = .bl c ∧ Q (.bl (if neg then !(b == c) else (b == c))) H)
theorem zFc : OpM W G isN (rIs false) := fun F ρ h H env σ x y v u Q er hr r1 r2 w => by
  cases y with
  | non =>
    unfold RD at r2
    refine .inl ⟨r2, ?_⟩
    have e : decide (v = .non) = decide (x = .non) := decide_eq_decide.mpr r1.non_iff
    have w' : wp F W G rV env σ ρ H (.ok (.bl (decide (x = .non))) h) Q := by cases x <;> exact w
    exact w'.done er hr (by rw [e]; unfold RD; rfl)
  | bl c =>
    cases x with
    | bl b => unfold RD at r1 r2; exact .inr ⟨b, c, r1, r2, wp.done (h := h) w er hr (by unfold RD; rfl)⟩
    | _ => exact w.elim
  | _ => cases x <;> exact w.elim
theorem zBQ : OpM W G zcd (rIs true) := fun F ρ h H env σ x y v u Q er hr r1 r2 w => by
  cases y with
  | non =>
    unfold RD at r2
    refine .inl ⟨r2, ?_⟩
    have e : decide (v = .non) = decide (x = .non) := decide_eq_decide.mpr r1.non_iff
    have w' : wp F W G rV env σ ρ H (.ok (.bl (!decide (x = .non))) h) Q := by cases x <;> exact w
    exact w'.done er hr (by rw [e]; unfold RD; rfl)
  | bl c =>
    cases x with
    | bl b => unfold RD at r1 r2; exact .inr ⟨b, c, r1, r2, wp.done (h := h) w er hr (by unfold RD; rfl)⟩
    | _ => exact w.elim
  | _ => cases x <;> exact w.elim
theorem zEj (hr : zR k X.A) : OpR X (compareOp .Is) (rIs false) ∧ OpM W G isN (rIs false) := ⟨zBM.or zBG, zFc⟩
theorem zhy (hr : zR k X.A) : OpR X (compareOp .IsNot) (rIs true) ∧ OpM W G zcd (rIs true) := ⟨zDu.or zAq, zBQ⟩
theorem ziH (ha : JE X a (tE W G ma)) : JE X (.UnaryOp .Not a pos) (tE W G (un zgt ma)) :=
  .of (z3 (zEW ha.to) fun σ H Q ⟨F, ρ, env, h, er, hr, w⟩ => ⟨F, ρ, env, h, er, hr, zG w fun x h1 ρ1 H1 y e1 er1 hr1 r1 w1 => by
    cases x with
    | bl b => have r1 : RD ρ1 H1 (.bl b) y := r1; unfold RD at r1; exact ⟨b, r1, wp.done (h := h1) w1 er1 hr1 (by unfold RD; rfl)⟩
    | _ => exact w1.elim⟩)
variable {rest : List Expr}
theorem zgp {op} (ha : JE X a (tE W G ma)) : JE X (.BoolOp op [a] pos) (tE W G ma) := .of (zFq ha.to)
theorem zfM (ha : JE X a (tE W G ma)) (hb : JE X (.BoolOp .And (b :: rest) pos) (tE W G mb)) : JE X (.BoolOp .And (a :: b :: rest) pos) (tE W G (zeF ma mb)) :=
  .of (z3 (zEE ha.to hb.to) fun σ H Q ⟨F, ρ, env, h, er, hr, w⟩ => ⟨F, ρ, env, h, er, hr, zG w fun x h1 ρ1 H1 y e1 er1 hr1 r1 w1 => by
    cases x with
    | bl b =>
      have r1 : RD ρ1 H1 (.bl b) y := r1
      unfold RD at r1
      refine ⟨b, r1, ?_⟩
      cases b with
      | true => rw [if_pos rfl]; exact ⟨F, ρ1, env, h1, er1, hr1, w1⟩
      | false => rw [if_neg (by decide)]; exact wp.done (h := h1) w1 er1 hr1 (by unfold RD; rfl)
    | _ => exact w1.elim⟩)
theorem zBW (ha : JE X a (tE W G ma)) (hb : JE X (.BoolOp .Or (b :: rest) pos) (tE W G mb)) : JE X (.BoolOp .Or (a :: b :: rest) pos) (tE W G (orV ma mb)) :=
  .of (z3 (zD6 ha.to hb.to) fun σ H Q ⟨F, ρ, env, h, er, hr, w⟩ => ⟨F, ρ, env, h, er, hr, zG w fun x h1 ρ1 H1 y e1 er1 hr1 r1 w1 => by
    cases x with
    | bl b =>
      have r1 : RD ρ1 H1 (.bl b) y := r1
      unfold RD at r1
      refine ⟨b, r1, ?_⟩
      cases b with
      | false => rw [if_neg (by decide)]; exact ⟨F, ρ1, env, h1, er1, hr1, w1⟩
      | true => rw [if_pos rfl]; exact wp.done (h := h1) w1 er1 hr1 (by unfold RD; rfl)
    | _ => exact w1.elim⟩)
variable {ta tb : ME Bool}
theorem zgZ (hc : JT X c (tT W G ta)) (ha : JE X a (tE W G ma)) (hb : JE X b (tE W G mb)) : JE X (.IfExp c a b pos) (tE W G (ifE ta ma mb)) :=
  .of (z3 (zFh hc.to ha.to hb.to) fun σ H Q ⟨F, ρ, env, h, er, hr, w⟩ => ⟨F, ρ, env, h, er, hr, zG w fun x h1 ρ1 H1 y e1 er1 hr1 r1 w1 => by
    obtain rfl : x = y := r1
    cases x with
    | true => rw [if_pos rfl] at w1 ⊢; exact ⟨F, ρ1, env, h1, er1, hr1, w1⟩
    | false => rw [if_neg (by decide)] at w1 ⊢; exact ⟨F, ρ1, env, h1, er1, hr1, w1⟩⟩)
theorem zbY (ha : JT X a (tT W G ta)) : JT X (.UnaryOp .Not a pos) (tT W G (zbg ta)) :=
  .of (ziR (zCt ha.to) fun σ H Q ⟨F, ρ, env, h, er, hr, w⟩ => ⟨F, ρ, env, h, er, hr, zG w fun x h1 ρ1 H1 y e1 er1 hr1 r1 w1 => by
    obtain rfl : x = y := r1
    exact wp.done (h := h1) w1 er1 hr1 rfl⟩)
theorem zpM (ha : JT X a (tT W G ta)) : JW X (.BoolOp .And [a] pos) (tT W G ta) := .of (zB1 ha.to)
theorem zdy (ha : JT X a (tT W G ta)) : JW X (.BoolOp .Or [a] pos) (tT W G ta) := .of (zAk ha.to)
theorem ziI (ha : JT X a (tT W G ta)) (hb : JW X (.BoolOp .And (b :: rest) pos) (tT W G tb)) : JW X (.BoolOp .And (a :: b :: rest) pos) (tT W G (zb0 ta tb)) :=
  .of (ztj (zAb ha.to hb.to) fun σ H Q ⟨F, ρ, env, h, er, hr, w⟩ => ⟨F, ρ, env, h, er, hr, zG w fun x h1 ρ1 H1 y e1 er1 hr1 r1 w1 => by
    obtain rfl : x = y := r1
    cases x with
    | true => rw [if_pos rfl] at w1 ⊢; exact ⟨F, ρ1, env, h1, er1, hr1, w1⟩
    | false => rw [if_neg (by decide)] at w1 ⊢; exact wp.done (h := h1) w1 er1 hr1 rfl⟩)
theorem zcm (ha : JT X a (tT W G ta)) (hb : JW X (.BoolOp .Or (b :: rest) pos) (tT W G tb)) : JW X (.BoolOp .Or (a :: b :: rest) pos) (tT W G (orT ta tb)) :=
  .of (ztj (zEi ha.to hb.to) fun σ H Q ⟨F, ρ, env, h, er, hr, w⟩ => ⟨F, ρ, env, h, er, hr, zG w fun x h1 ρ1 H1 y e1 er1 hr1 r1 w1 => by
    obtain rfl : x = y := r1
    cases x with
    | false => rw [if_neg (by decide)] at w1 ⊢; exact ⟨F, ρ1, env, h1, er1, hr1, w1⟩
    | true => rw [if_pos rfl] at w1 ⊢; exact wp.done (h := h1) w1 er1 hr1 rfl⟩)
theorem t_w (h : JW X a (tT W G ta)) : JT X a (tT W G ta) := .of (PW.pt h.to)
theorem zbo (ha : JE X a (tE W G ma)) (he : ∀ whole, isTrue a X.env whole = (do let v <- whole; standAt a.pos; holding [v] (truthy v))) (hK : X.K = G.K := by rfl) : JT X a (tT W G (tru ma)) :=
  .of (ziR (zCl ha.to he) fun σ H Q ⟨F, ρ, env, h, er, hr, w⟩ => ⟨F, ρ, env, h, er, hr, zG w fun x h1 ρ1 H1 y e1 er1 hr1 r1 w1 => by
    unfold zg0 at w1
    have r1 : RD ρ1 H1 x y := r1
    cases x with
    | non => unfold RD at r1; subst r1; exact ⟨false, rfl, wp.done (h := h1) w1 er1 hr1 rfl⟩
    | bl b => unfold RD at r1; subst r1; exact ⟨b, rfl, wp.done (h := h1) w1 er1 hr1 rfl⟩
    | int i => unfold RD at r1; subst r1; exact ⟨i != 0, rfl, wp.done (h := h1) w1 er1 hr1 rfl⟩
    | tup ds =>
      unfold RD at r1
      obtain ⟨p, vs, rfl, hp, rs⟩ := r1
      refine ⟨!ds.isEmpty, .inr (.inl ⟨vs, .inl (.inl hp), ?_⟩), wp.done (h := h1) w1 er1 hr1 rfl⟩
      have := rs.length
      cases ds <;> cases vs <;> first | rfl | simp at this
    | obj n =>
      dsimp only at w1
      cases q : h1[n]? with
      | none => rw [q] at w1; exact w1.elim
      | some o =>
        rw [q] at w1
        cases o with
        | lst xs =>
          obtain ⟨p, vs, rfl, ea, hp, rs⟩ := hr1.lst r1 q
          refine ⟨!xs.isEmpty, .inl ⟨vs, SqL.of hp, ?_⟩, wp.done (h := h1) w1 er1 hr1 rfl⟩
          have := rs.length
          cases xs <;> cases vs <;> first | rfl | simp at this
        | scr xs =>
          obtain ⟨p, vs, rfl, ea, hp, rs⟩ := hr1.scr r1 q
          refine ⟨!xs.isEmpty, .inl ⟨vs, by rw [hK]; exact hp, ?_⟩, wp.done (h := h1) w1 er1 hr1 rfl⟩
          have := rs.length
          cases xs <;> cases vs <;> first | rfl | simp at this
        | dic kvs =>
          obtain ⟨p, vs, rfl, ea, hp, rs⟩ := hr1.dic r1 q
          refine ⟨!kvs.isEmpty, .inr (.inr ⟨vs, hp, ?_⟩), wp.done (h := h1) w1 er1 hr1 rfl⟩
          cases kvs with
          | nil => unfold KRs at rs; subst rs; rfl
          | cons p r => unfold KRs at rs; obtain ⟨v, q, rfl, _⟩ := rs; rfl
        | _ => exact w1.elim
    | _ => exact w1.elim⟩)
end
end MI
end
section
namespace MI
open PySem PySem.Spec L2
section
variable {α β γ δ : Type} {W : Nat -> Hp -> Prop} {F : Addr -> Prop} {G : GP} {Rl : RL α β} {Rl' : RL γ δ} {env : zA} {σ : L2.St} {ρ : List Addr} {H : Hp} {h : MH}
theorem zsw {r : R α} {Rl2 : RL α δ} {Q : δ -> Hp -> Prop} {P : β -> Hp -> Prop} (w : wp F W G Rl2 env σ ρ H r Q)
    (f : ∀ x h1 ρ1 H1 y, Ext F ρ ρ1 H H1 -> z6 ρ1 H1 env σ -> HR F G ρ1 h1 H1 -> Rl F ρ1 h1 H1 x y -> wp F W G Rl2 env σ ρ1 H1 (.ok x h1) Q -> P y H1) : wp F W G Rl env σ ρ H r P := by
  cases r with
  | ok v h1 => exact fun ρ1 H1 y ex er hr rl => f v h1 ρ1 H1 y ex er hr rl (w.mono ex)
  | ex c h1 => exact w
  | bad => exact w
end
section
variable {W : Nat -> Hp -> Prop} {X : Cx} {F : Addr -> Prop} {G : GP} {env : zA} {σ : L2.St} {ρ : List Addr} {H : Hp} {h : MH} {a b c e : Expr} {es : List Expr} {ma mb mc : ME D} {ml ml' : ME (List D)} {pos p p1 p2 : Pos} {Q : VK} {k : Nat}
theorem zk : JA X [] (tA W G ze) := .of (zsf zdd fun σ H Q ⟨F, ρ, env, h, er, hr, w⟩ => wp.done (h := h) w er hr RDs.nil)
theorem zd (ha : JE X e (tE W G ma)) (hr : JA X es (tA W G ml)) (hs : starEach (e :: es) X.env = (false, eval e X.env) :: starEach es X.env) : JA X (e :: es) (tA W G (za ma ml)) :=
  .of (zsf (zcP ha.to hr.to hs) fun σ H Q ⟨F, ρ, env, h, er, hr, w⟩ => ⟨F, ρ, env, h, er, hr, zG w fun x h1 ρ1 H1 y e1 er1 hr1 r1 w1 => ⟨F, ρ1, env, h1, er1, hr1, zG w1 fun xs h2 ρ2 H2 ys e2 er2 hr2 r2 w2 =>
    wp.done (h := h2) w2 er2 hr2 (RDs.cons (RD.ext e2 _ _ r1) r2)⟩⟩)
theorem zhJ {n : Nat} (h : n <= 1000000) : n <= sizeLine := by rw [sizeLine_eq]; omega
theorem zch {x1} (ha : JA X es (tA W G ml)) : JE X (.Tuple es x1 pos) (tE W G (zU ml)) :=
  .of (z3 (zC5 ha.to) fun σ H Q ⟨F, ρ, env, h, er, hr, w⟩ => ⟨F, ρ, env, h, er, hr, zG w fun xs h1 ρ1 H1 ys e1 er1 hr1 r1 w1 => by
    by_cases hl : xs.length <= 1000
    . rw [if_pos hl] at w1
      have r1 : RDs ρ1 H1 xs ys := r1
      refine ⟨zhJ (by rw [<- r1.length]; omega), fun p hp => ?_⟩
      refine wp.made (h := h1) w1 er1 hr1 hp ?_
      show RD ρ1 (upd H1 p (.tup ys)) (.tup xs) (.ref p)
      unfold RD
      exact ⟨p, ys, rfl, zbN, RDs.ext (zcR hr1 hp) _ _ r1⟩
    . rw [if_neg hl] at w1; exact w1.elim⟩)
theorem zgw {p : Addr} {xs : List D} {vs : List V} (hr : HR F G ρ h H) (hp : H p = none) (r : RDs ρ H xs vs) : rN G.K F ρ h (upd H p (.lst vs)) xs (.ref p) := ⟨p, vs, rfl, zbN, hr.fresh hp, RDs.ext (zcR hr hp) _ _ r⟩
theorem zdO (ha : JA X es (tA W G ml)) : JE X (.List es pos) (tN W G (zcB ml)) :=
  .of (z3 (zDI ha.to) fun σ H Q ⟨F, ρ, env, h, er, hr, w⟩ => ⟨F, ρ, env, h, er, hr, zG w fun xs h1 ρ1 H1 ys e1 er1 hr1 r1 w1 => by
    by_cases hl : xs.length <= 1000
    . rw [if_pos hl] at w1
      have r1 : RDs ρ1 H1 xs ys := r1
      exact ⟨zhJ (by rw [<- r1.length]; omega), fun p hp => wp.made (h := h1) w1 er1 hr1 hp (zgw hr1 hp r1)⟩
    . rw [if_neg hl] at w1; exact w1.elim⟩)
theorem zs1 {a : Addr} {vs : List V} {xs : List D} {Q : VK} (w : wp F W G rV env σ ρ H (zg3 (.lst xs) env h) Q) (er : z6 ρ H env σ) (hr : HR F G ρ h H) (ha : H a = some (.lst vs)) (fr : zfQ F ρ h a) (r : RDs ρ H xs vs) : Q (.ref a) H := by
  have ex : Ext F ρ (ρ ++ [a]) H H := ⟨⟨[a], rfl⟩, fun _ _ z => z, fun _ _ => rfl⟩
  refine w (ρ ++ [a]) H (.ref a) ex (er.ext ex) (hr.named fr ⟨vs, ha, RDs.snocρ _ _ r⟩) ?_
  show RD _ _ (.obj h.length) (.ref a)
  unfold RD
  exact ⟨a, rfl, by rw [<- hr.len]; simp⟩
theorem zbK (ha : JE X e (tN W G ml)) : JE X e (tE W G (zN ml)) :=
  .of (z3 ha.to fun σ H Q ⟨F, ρ, env, h, er, hr, w⟩ => ⟨F, ρ, env, h, er, hr, zG w fun xs h1 ρ1 H1 y e1 er1 hr1 ⟨a, vs, ey, ha, fr, r1⟩ w1 => by
    subst ey; exact zs1 w1 er1 hr1 ha fr r1⟩)
theorem zgm (ha : JE X e (tN W G ml)) : JE X e (tL W G ml) :=
  .of (z3 ha.to fun σ H Q ⟨F, ρ, env, h, er, hr, w⟩ => ⟨F, ρ, env, h, er, hr, zsw w fun x h1 ρ1 H1 y e1 er1 hr1 ⟨a, vs, ey, ha, fr, r1⟩ w1 => by
    subst ey; exact w1.done er1 hr1 ⟨a, vs, rfl, ha, r1⟩⟩)
theorem zEr {n : Nat} {y : V} {P : Prop} {β : Type} {Rl : RL (List D) β} {Q : β -> Hp -> Prop} (w : wp F W G Rl env σ ρ H (zdM n env h) Q) (hr : HR F G ρ h H) (r : RD ρ H (.obj n) y)
    (f : ∀ a vs xs, y = .ref a -> ρ[n]? = some a -> H a = some (.lst vs) -> RDs ρ H xs vs -> h[n]? = some (.lst xs) -> wp F W G Rl env σ ρ H (.ok xs h) Q -> P) : P := by
  simp only [zdM] at w
  cases q : h[n]? with
  | none => rw [q] at w; exact w.elim
  | some o =>
    rw [q] at w
    cases o with
    | lst xs => obtain ⟨a, vs, ea, e1, h1, h2⟩ := hr.lst r q; exact f a vs xs ea e1 h1 h2 q w
    | _ => exact w.elim
theorem zqj {γ δ : Type} {Rl' : RL γ δ} {n : Nat} {y : V} {P : Prop} {Q : δ -> Hp -> Prop} {kk : List D -> ME γ} (w : wp F W G Rl' env σ ρ H (zn (zdM n) kk env h) Q) (hr : HR F G ρ h H) (r : RD ρ H (.obj n) y)
    (f : ∀ a vs xs, y = .ref a -> ρ[n]? = some a -> H a = some (.lst vs) -> RDs ρ H xs vs -> h[n]? = some (.lst xs) -> wp F W G Rl' env σ ρ H (kk xs env h) Q -> P) : P := by
  simp only [zn, zdM] at w
  cases q : h[n]? with
  | none => rw [q] at w; exact w.elim
  | some o =>
    rw [q] at w
    cases o with
    | lst xs => obtain ⟨a, vs, ea, e1, h1, h2⟩ := hr.lst r q; exact f a vs xs ea e1 h1 h2 q w
    | _ => exact w.elim
theorem zfH (ha : JE X e (tE W G ma)) : JE X e (tL W G (zes ma)) :=
  .of (z3 ha.to fun σ H Q ⟨F, ρ, env, h, er, hr, w⟩ => ⟨F, ρ, env, h, er, hr, zG w fun x h1 ρ1 H1 y e1 er1 hr1 r1 w1 => by
    cases x with
    | obj n => exact zEr w1 hr1 r1 fun a vs xs ey _ ha rs _ w2 => by subst ey; exact w2.done er1 hr1 ⟨a, vs, rfl, ha, rs⟩
    | _ => exact w1.elim⟩)
theorem RDs.atI {xs : List D} {vs : List V} {i : Int} {d : D} (r : RDs ρ H xs vs) (e : MI.atI xs i = some d) : ∃ v, L2.atI vs i = some v ∧ RD ρ H d v := by
  unfold MI.atI at e
  unfold L2.atI
  rw [Option.bind_eq_some_iff] at e
  obtain ⟨j, e1, e2⟩ := e
  obtain ⟨v, e3, e4⟩ := r.get e2
  exact ⟨v, by rw [<- r.length]; show (MI.ixN xs.length i).bind _ = _; rw [e1]; exact e3, e4⟩
def zFD : R2 := fun x y H Q => ∃ a v, x = .ref a ∧ zeQ H a y (some v) ∧ Q v H
theorem zCe (hr : zR k X.A) : IxR X zFD := by
  intro value slice pins s σ H x y v u Q I rx ry h hs
  obtain ⟨a, z, rfl, g, q⟩ := h
  cases rx
  have hT := zC1 I g
  unfold PyProof.Rows.subscriptTail
  refine wpAny_bind ?_
  rw [getitemInPython_of_ne hT.not_modules]
  refine wpAny_bind (wpAny_specialOf hT PySem.F.slot_dict_getitem.lookup ?_)
  have fin : wpAny (model X.prog X.w) X.A (subscripted slice false (.ref a) u) (fun r s₃ => wpAny (model X.prog X.w) X.A (letTemporaryGo value (.ref a) r >>= fun _ => pure r) (EP X pins σ Q) X.xe s₃) X.xe s := by
    rw [hs]
    exact wpAny_operating (zA0 (zi9 hr) I g ry fun w' s3 I3 rw' => wpAny_bind (wpAny_letTemporaryGo (wpAny_pure ⟨z, H, I3, rw', q⟩)))
  first
    | exact wpAny_pure (wpAny_bind fin)
    | exact wpAny_bind (wpAny_pure (wpAny_bind fin))
    | exact wpAny_bind fin
theorem zx (rm : zR k X.A) (ha : JE X a (tE W G ma)) (hb : JE X b (tE W G mb)) (hs : ztD b) (hK : X.K = G.K := by rfl) : JE X (.Subscript a b pos) (tE W G (bin zh ma mb)) :=
  .of (z3 (zFd (zC4.or (zFA.or (zCe rm))) ha.to hb.to hs) fun σ H Q ⟨F, ρ, env, h, er, hr, w⟩ => ⟨F, ρ, env, h, er, hr, zG w fun x h1 ρ1 H1 y e1 er1 hr1 r1 w1 => ⟨F, ρ1, env, h1, er1, hr1, zG w1 fun x2 h2 ρ2 H2 y2 e2 er2 hr2 r2 w2 => by
    have r1 : RD ρ2 H2 x y := RD.ext e2 _ _ r1
    have r2 : RD ρ2 H2 x2 y2 := r2
    cases x with
    | tup ds =>
      cases x2 with
      | int i =>
        simp only [zh] at w2
        unfold RD at r1 r2
        obtain ⟨p, vs, rfl, hp, rs⟩ := r1
        cases q : MI.atI ds i with
        | none => rw [q] at w2; exact w2.elim
        | some d =>
          rw [q] at w2
          obtain ⟨v, e3, e4⟩ := rs.atI q
          exact .inr (.inl ⟨p, vs, i, v, rfl, r2, SqT.of hp, e3, w2.done er2 hr2 e4⟩)
      | _ => exact w2.elim
    | obj n =>
      cases x2 with
      | int i =>
        simp only [zh] at w2
        have r2' := r2
        unfold RD at r2'
        cases qo : h2[n]? with
        | none => rw [qo] at w2; exact w2.elim
        | some o =>
          rw [qo] at w2
          cases o with
          | lst xs =>
            obtain ⟨p, vs, rfl, ea, hp, rs⟩ := hr2.lst r1 qo
            dsimp only at w2
            cases q : MI.atI xs i with
            | none => rw [q] at w2; exact w2.elim
            | some d =>
              rw [q] at w2
              obtain ⟨v, e3, e4⟩ := rs.atI q
              exact .inl ⟨p, vs, i, v, rfl, r2', SqL.of hp, e3, w2.done er2 hr2 e4⟩
          | scr xs =>
            obtain ⟨p, vs, rfl, ea, hp, rs⟩ := hr2.scr r1 qo
            dsimp only at w2
            cases q : MI.atI xs i with
            | none => rw [q] at w2; exact w2.elim
            | some d =>
              rw [q] at w2
              obtain ⟨v, e3, e4⟩ := rs.atI q
              exact .inl ⟨p, vs, i, v, rfl, r2', by rw [hK]; exact hp, e3, w2.done er2 hr2 e4⟩
          | dic kvs =>
            obtain ⟨p, vs, rfl, ea, hp, rs⟩ := hr2.dic r1 qo
            dsimp only at w2
            have lv := zp3 (k := i) rs
            cases q : look i kvs with
            | none => rw [q] at w2; exact w2.elim
            | some d =>
              rw [q] at w2 lv
              obtain ⟨v, e3, e4⟩ := lv
              subst r2'
              exact .inr (.inr ⟨p, v, rfl, by rw [<- e3]; exact zeQ.k (k := Sum.inl i) hp, w2.done er2 hr2 e4⟩)
          | _ => exact w2.elim
      | _ => exact w2.elim
    | _ => cases x2 <;> exact w2.elim⟩⟩)
theorem ziE : JO X none (tO W G noP) := .of (zt4 zsR fun σ H Q ⟨F, ρ, env, h, er, hr, w⟩ => wp.done (h := h) w er hr rfl)
theorem zix (ha : JE X a (tE W G ma)) : JO X (some a) (tO W G (zcH ma)) :=
  .of (zt4 (zpK ha.to) fun σ H Q ⟨F, ρ, env, h, er, hr, w⟩ => ⟨F, ρ, env, h, er, hr, zG w fun x h1 ρ1 H1 y e1 er1 hr1 r1 w1 => by
    cases x with
    | int i => have r1 : RD ρ1 H1 (.int i) y := r1; unfold RD at r1; exact ⟨i, r1, wp.done (h := h1) w1 er1 hr1 rfl⟩
    | _ => exact w1.elim⟩)
variable {lo hi : Option Expr} {ol oh : ME (Option Int)}
theorem ziN (n d : Nat) (o : Option Int) : MI.sIx n d o = HT.sIx n d o := by
  cases o with
  | none => rfl
  | some v =>
    show (if v < 0 then max (v + (n : Int)) 0 else min v (n : Int)).toNat = _
    rw [HT.clip_eq v n d]
    simp
theorem RDs.cutV {xs : List D} {vs : List V} (r : RDs ρ H xs vs) (l u : Option Int) : RDs ρ H (MI.cut xs l u) (L2.cutV vs l u) := by
  unfold MI.cut L2.cutV
  rw [ziN, ziN, r.length]
  exact (r.drop _).take _
theorem zp8 (ha : JE X a (tE W G ma)) (hl : JO X lo (tO W G ol)) (hh : JO X hi (tO W G oh)) : JE X (.Subscript a (.Slice lo hi none p2) pos) (tN W G (zc5 ma ol oh)) :=
  .of (z3 (ztu zCu ha.to hl.to hh.to) fun σ H Q ⟨F, ρ, env, h, er, hr, w⟩ => ⟨F, ρ, env, h, er, hr, zG w fun x h1 ρ1 H1 y e1 er1 hr1 r1 w1 => ⟨F, ρ1, env, h1, er1, hr1, zG w1 fun l h2 ρ2 H2 l' e2 er2 hr2 r2 w2 =>
    ⟨F, ρ2, env, h2, er2, hr2, zG w2 fun u h3 ρ3 H3 u' e3 er3 hr3 r3 w3 => by
      have r1 : RD ρ3 H3 x y := RD.ext (e2.trans e3) _ _ r1
      obtain rfl : l = l' := r2
      obtain rfl : u = u' := r3
      cases x with
      | obj n =>
        exact zqj w3 hr3 r1 fun p vs xs ey _ hp rs eq w4 => ⟨p, vs, ey, SqL.of hp, fun q hq => wp.made (h := h3) w4 er3 hr3 hq (zgw hr3 hq (rs.cutV l u))⟩
      | _ => exact w3.elim⟩⟩⟩)
theorem zCZ (ha : JE X a (tE W G ma)) (hl : JO X lo (tO W G ol)) (hh : JO X hi (tO W G oh)) : JE X (.Subscript a (.Slice lo hi none p2) pos) (tE W G (zhV ma ol oh)) :=
  .of (z3 (ztu zC2 ha.to hl.to hh.to) fun σ H Q ⟨F, ρ, env, h, er, hr, w⟩ => ⟨F, ρ, env, h, er, hr, zG w fun x h1 ρ1 H1 y e1 er1 hr1 r1 w1 => ⟨F, ρ1, env, h1, er1, hr1, zG w1 fun l h2 ρ2 H2 l' e2 er2 hr2 r2 w2 =>
    ⟨F, ρ2, env, h2, er2, hr2, zG w2 fun u h3 ρ3 H3 u' e3 er3 hr3 r3 w3 => by
      have r1 : RD ρ3 H3 x y := RD.ext (e2.trans e3) _ _ r1
      obtain rfl : l = l' := r2
      obtain rfl : u = u' := r3
      cases x with
      | tup ds =>
        by_cases hc : (MI.cut ds l u).length < ds.length
        . dsimp only at w3
          rw [if_pos hc] at w3
          unfold RD at r1
          obtain ⟨p, vs, rfl, hp, rs⟩ := r1
          refine ⟨p, vs, rfl, SqT.of hp, fun z => ?_, fun q hq => wp.made (h := h3) w3 er3 hr3 hq ?_⟩
          . rw [<- rs.length, <- ziN, <- ziN] at z
            unfold MI.cut at hc
            rw [z.1, z.2] at hc
            simp at hc
          . show RD ρ3 _ (.tup (MI.cut ds l u)) _
            unfold RD
            exact ⟨q, _, rfl, zbN, RDs.ext (zcR hr3 hq) _ _ (rs.cutV l u)⟩
        . dsimp only at w3
          rw [if_neg hc] at w3; exact w3.elim
      | _ => exact w3.elim⟩⟩⟩)
theorem zAy {p3 p4 p5 : Pos} {k1 k2 : Nat} (ha : JE X a (tE W G ma)) : JE X (.Subscript a (.Slice (some (.Constant (.int 1) k1 p3)) none (some (.UnaryOp .USub (.Constant (.int 1) k2 p5) p4)) p2) pos) (tE W G (zhY ma)) :=
  .of (z3 (zEh ha.to (zpK zp4) zsR (zpK (zsB zr0 zp4))) fun σ H Q ⟨F, ρ, env, h, er, hr, w⟩ => ⟨F, ρ, env, h, er, hr, zG w fun x h1 ρ1 H1 y e1 er1 hr1 r1 w1 => by
    have r1 : RD ρ1 H1 x y := r1
    refine ⟨1, rfl, 1, rfl, -1, rfl, rfl, rfl, rfl, ?_⟩
    cases x with
    | tup ds =>
      unfold RD at r1
      obtain ⟨q, vs, rfl, hp, rs⟩ := r1
      match ds, w1 with
      | [d1, d2, d3], w1 =>
        unfold RDs at rs
        obtain ⟨v1, r', rfl, rd1, rs⟩ := rs
        unfold RDs at rs
        obtain ⟨v2, r', rfl, rd2, rs⟩ := rs
        unfold RDs at rs
        obtain ⟨v3, r', rfl, rd3, rs⟩ := rs
        unfold RDs at rs
        subst rs
        refine ⟨q, v1, v2, v3, rfl, hp, fun b hb => wp.made (h := h1) w1 er1 hr1 hb ?_⟩
        show RD ρ1 _ (.tup [d2, d1]) _
        unfold RD
        exact ⟨b, _, rfl, zbN, RDs.ext (zcR hr1 hb) _ _ (RDs.cons rd2 (RDs.cons rd1 RDs.nil))⟩
      | [], w1 => exact w1.elim
      | [_], w1 => exact w1.elim
      | [_, _], w1 => exact w1.elim
      | _ :: _ :: _ :: _ :: _, w1 => exact w1.elim
    | _ => exact w1.elim⟩)
end
end MI
end
section
namespace MI
open PySem PySem.Spec L2
section
variable {W : Nat -> Hp -> Prop} {X : Cx} {F : Addr -> Prop} {G : GP} {env : zA} {σ : L2.St} {ρ : List Addr} {H : Hp} {h : MH} {a b c e o : Expr} {es : List Expr} {ma mb mc : ME D} {ml ml' : ME (List D)} {pos p p1 p2 apos : Pos} {Q : VK} {k : Nat}
theorem zCB (ha : JE X a (tE W G ma)) (hb : JE X b (tL W G ml)) : JE X (.BinOp a .Add b pos) (tN W G (zja ma ml)) :=
  .of (z3 (zpq zDs ha.to hb.to) fun σ H Q ⟨F, ρ, env, h, er, hr, w⟩ => ⟨F, ρ, env, h, er, hr, zG w fun x h1 ρ1 H1 y e1 er1 hr1 r1 w1 => ⟨F, ρ1, env, h1, er1, hr1, zG w1 fun ys h2 ρ2 H2 y2 e2 er2 hr2 ⟨q, us, ey, hq, rs2⟩ w2 => by
    subst ey
    have r1 : RD ρ2 H2 x y := RD.ext e2 _ _ r1
    cases x with
    | obj n =>
      refine zqj w2 hr2 r1 fun p vs xs ey _ hp rs eq w3 => ?_
      by_cases hl : xs.length + ys.length <= 1000000
      . rw [if_pos hl] at w3
        exact ⟨p, q, vs, us, ey, rfl, hp, hq, zhJ (by rw [<- rs.length, <- rs2.length]; exact hl), fun d hd => wp.made (h := h2) w3 er2 hr2 hd (zgw hr2 hd (RDs.append rs2 rs))⟩
      . rw [if_neg hl] at w3; exact w3.elim
    | _ => exact w2.elim⟩⟩)
theorem zEY (ha : JE X a (tE W G ma)) (hb : JE X b (tE W G mb)) : JE X (.BinOp a .Mult b pos) (tN W G (zio ma mb)) :=
  .of (z3 (zpq zAO ha.to hb.to) fun σ H Q ⟨F, ρ, env, h, er, hr, w⟩ => ⟨F, ρ, env, h, er, hr, zG w fun x h1 ρ1 H1 y e1 er1 hr1 r1 w1 => ⟨F, ρ1, env, h1, er1, hr1, zG w1 fun x2 h2 ρ2 H2 y2 e2 er2 hr2 r2 w2 => by
    have r1 : RD ρ2 H2 x y := RD.ext e2 _ _ r1
    have r2 : RD ρ2 H2 x2 y2 := r2
    cases x with
    | obj n =>
      cases x2 with
      | int i =>
        unfold RD at r2
        refine zqj w2 hr2 r1 fun p vs xs ey _ hp rs eq w3 => ?_
        by_cases hl : -1000000 <= i ∧ i <= 1000000 ∧ xs.length * i.toNat <= 1000000
        . rw [if_pos hl] at w3
          exact ⟨p, i, vs, ey, r2, hp, by omega, by omega, zhJ (by rw [<- rs.length]; exact hl.2.2), fun d hd => wp.made (h := h2) w3 er2 hr2 hd (zgw hr2 hd (RDs.rep rs _))⟩
        . rw [if_neg hl] at w3; exact w3.elim
      | _ => exact w2.elim
    | _ => cases x2 <;> exact w2.elim⟩⟩)
theorem zeZ {α : Type} {Rl : RL α V} {m : ME α} {P : List V -> Hp -> Prop} (hw : tG W G Rl m σ H (fun y H1 => P [y] H1)) : ztM (tG W G Rl m) zql σ H P := hw
theorem zpY (hg : Gl X "all") (hm : X.mg "all" = none) (ha : JE X e (tL W G ml)) (hs : starEach [e] X.env = (false, eval e X.env) :: starEach [] X.env) (hc : X.calm = true := by rfl) : JE X (.Call (.Name "all" p) [e] [] pos) (tE W G (zgX ml)) :=
  .of (z3 (zff (zAw hc) hg hm (by decide +kernel) (zcP ha.to zdd hs) (he := hs)) fun σ H Q ⟨F, ρ, env, h, er, hr, w⟩ => zeZ ⟨F, ρ, env, h, er, hr, zG w fun xs h1 ρ1 H1 y e1 er1 hr1 ⟨q, us, ey, hq, rs⟩ w1 => by
    subst ey
    cases eb : zcl xs with
    | none => rw [eb] at w1; exact w1.elim
    | some bs =>
      rw [eb] at w1
      have e2 := RDs.of_bools eb rs
      subst e2
      exact ⟨q, bs, rfl, SqL.of hq, wp.done (h := h1) w1 er1 hr1 (by unfold RD; rfl)⟩⟩)
theorem ztJ (hg : Gl X "any") (hm : X.mg "any" = none) (ha : JE X e (tL W G ml)) (hs : starEach [e] X.env = (false, eval e X.env) :: starEach [] X.env) (hc : X.calm = true := by rfl) : JE X (.Call (.Name "any" p) [e] [] pos) (tE W G (zh5 ml)) :=
  .of (z3 (zff (zDr hc) hg hm (by decide +kernel) (zcP ha.to zdd hs) (he := hs)) fun σ H Q ⟨F, ρ, env, h, er, hr, w⟩ => zeZ ⟨F, ρ, env, h, er, hr, zG w fun xs h1 ρ1 H1 y e1 er1 hr1 ⟨q, us, ey, hq, rs⟩ w1 => by
    subst ey
    cases eb : zcl xs with
    | none => rw [eb] at w1; exact w1.elim
    | some bs =>
      rw [eb] at w1
      have e2 := RDs.of_bools eb rs
      subst e2
      exact ⟨q, bs, rfl, SqL.of hq, wp.done (h := h1) w1 er1 hr1 (by unfold RD; rfl)⟩⟩)
theorem zBU (hg : Gl X "sum") (hm : X.mg "sum" = none) (ha : JE X e (tL W G ml)) (hs : starEach [e] X.env = (false, eval e X.env) :: starEach [] X.env) (hc : X.calm = true := by rfl) : JE X (.Call (.Name "sum" p) [e] [] pos) (tE W G (zi3 ml)) :=
  .of (z3 (zff (zBT hc) hg hm (by decide +kernel) (zcP ha.to zdd hs) (he := hs)) fun σ H Q ⟨F, ρ, env, h, er, hr, w⟩ => zeZ ⟨F, ρ, env, h, er, hr, zG w fun xs h1 ρ1 H1 y e1 er1 hr1 ⟨q, us, ey, hq, rs⟩ w1 => by
    subst ey
    cases eb : zcu xs with
    | none => rw [eb] at w1; exact w1.elim
    | some bs =>
      rw [eb] at w1
      have e2 := RDs.of_ints eb rs
      subst e2
      exact ⟨q, bs, rfl, SqL.of hq, wp.done (h := h1) w1 er1 hr1 (by unfold RD; rfl)⟩⟩)
theorem zcJ (hg : Gl X "len") (hm : X.mg "len" = none) (ha : JE X e (tE W G ma)) (hs : starEach [e] X.env = (false, eval e X.env) :: starEach [] X.env) (hK : X.K = G.K := by rfl) : JE X (.Call (.Name "len" p) [e] [] pos) (tE W G (zbM (zbQ ma))) :=
  .of (z3 (zff zCX hg hm PySem.boot_len (zcP ha.to zdd hs) (he := hs)) fun σ H Q ⟨F, ρ, env, h, er, hr, w⟩ => zeZ ⟨F, ρ, env, h, er, hr, by
    have w' : wp F W G rV env σ ρ H (zn ma (fun x => zn (fun _ h => match x with
      | .obj n => (match h[n]? with
        | some (.lst xs) => R.ok xs h
        | some (.scr xs) => .ok xs h
        | _ => .bad)
      | .tup ds => .ok ds h
      | _ => .bad) fun xs => zb (.int xs.length)) env h) Q := by
      have e : zbM (zbQ ma) env h = (zn ma (fun x => zn (fun _ h => match x with
        | .obj n => (match h[n]? with
          | some (.lst xs) => R.ok xs h
          | some (.scr xs) => .ok xs h
          | _ => .bad)
        | .tup ds => .ok ds h
        | _ => .bad) fun xs => zb (.int xs.length)) env h) := by
        unfold zbM zbQ zn
        cases ma env h <;> rfl
      rw [<- e]; exact w
    refine zG w' fun x h1 ρ1 H1 y e1 er1 hr1 r1 w1 => ?_
    have r1 : RD ρ1 H1 x y := r1
    cases x with
    | tup ds =>
      unfold RD at r1
      obtain ⟨q, vs, rfl, hp, rs⟩ := r1
      exact ⟨q, vs, rfl, .inr (SqT.of hp), wp.done (h := h1) w1 er1 hr1 (by rw [rs.length]; unfold RD; rfl)⟩
    | obj n =>
      simp only [zn] at w1
      cases qo : h1[n]? with
      | none => rw [qo] at w1; exact w1.elim
      | some o =>
        rw [qo] at w1
        cases o with
        | lst xs =>
          obtain ⟨q, vs, rfl, ea, hp, rs⟩ := hr1.lst r1 qo
          exact ⟨q, vs, rfl, .inl (SqL.of hp), wp.done (h := h1) w1 er1 hr1 (by rw [rs.length]; unfold RD; rfl)⟩
        | scr xs =>
          obtain ⟨q, vs, rfl, ea, hp, rs⟩ := hr1.scr r1 qo
          exact ⟨q, vs, rfl, .inl (by rw [hK]; exact hp), wp.done (h := h1) w1 er1 hr1 (by rw [rs.length]; unfold RD; rfl)⟩
        | _ => exact w1.elim
    | _ => exact w1.elim⟩)
theorem ziT (hg : Gl X "list") (hm : X.mg "list" = none) (ha : JE X e (tL W G ml)) (hs : starEach [e] X.env = (false, eval e X.env) :: starEach [] X.env) : JE X (.Call (.Name "list" p) [e] [] pos) (tN W G ml) :=
  .of (z3 (ztA zCw hg hm (by decide +kernel) (zcP ha.to zdd hs) (he := hs)) fun σ H Q ⟨F, ρ, env, h, er, hr, w⟩ => zeZ ⟨F, ρ, env, h, er, hr, zsw w fun xs h1 ρ1 H1 y e1 er1 hr1 ⟨q, us, ey, hq, rs⟩ w1 => by
    subst ey
    exact ⟨q, us, rfl, .inl (SqL.of hq), fun d hd => w1.made er1 hr1 hd (zgw hr1 hd rs)⟩⟩)
theorem zCS (hg : Gl X "abs") (hm : X.mg "abs" = none) (ha : JE X e (tE W G ma)) (hs : starEach [e] X.env = (false, eval e X.env) :: starEach [] X.env) : JE X (.Call (.Name "abs" p) [e] [] pos) (tE W G (zeR ma)) :=
  .of (z3 (zff zC3 hg hm (by decide +kernel) (zcP ha.to zdd hs) (he := hs)) fun σ H Q ⟨F, ρ, env, h, er, hr, w⟩ => zeZ ⟨F, ρ, env, h, er, hr, zG w fun x h1 ρ1 H1 y e1 er1 hr1 r1 w1 => by
    cases x with
    | int i => have r1 : RD ρ1 H1 (.int i) y := r1; unfold RD at r1; subst r1; exact ⟨i, rfl, wp.done (h := h1) w1 er1 hr1 (by unfold RD; rfl)⟩
    | _ => exact w1.elim⟩)
end
end MI
end
section
namespace MI
open PySem PySem.Spec L2
theorem zps : ∀ (ns acc seen : List Int), (∀ x, x ∈ seen ↔ x ∈ acc) -> ns.foldl PyProof.Rows.step_dedup acc = acc ++ zbV seen ns
  | [], acc, seen, _ => by simp [zbV]
  | n :: ns, acc, seen, hs => by
    rw [List.foldl_cons]
    unfold zbV
    by_cases hn : n ∈ acc
    . rw [if_pos ((hs n).mpr hn)]
      have e : PyProof.Rows.step_dedup acc n = acc := by
        unfold PyProof.Rows.step_dedup
        rw [if_pos (by simpa using hn)]
      rw [e]
      exact zps ns acc seen hs
    . rw [if_neg (fun z => hn ((hs n).mp z))]
      have e : PyProof.Rows.step_dedup acc n = acc ++ [n] := by
        unfold PyProof.Rows.step_dedup
        rw [if_neg (by simpa using hn)]
      rw [e, zps ns (acc ++ [n]) (n :: seen) (fun x => by simp [hs x, or_comm])]
      simp
theorem zCf (ns : List Int) : ze2 ns = zbV [] ns := by
  unfold ze2 PyProof.Rows.firstMet
  have e : (List.range ns.length).map (fun i => ns.getD i 0) = ns := by
    apply List.ext_getElem?
    intro i
    rw [List.getElem?_map]
    by_cases hi : i < ns.length
    . simp [hi]
    . simp [hi]
  rw [e, zps ns [] [] (fun _ => Iff.rfl)]
  simp
theorem zp6 (x : Int) : ∀ l : List Int, (zdA x l).Perm (x :: l)
  | [] => by simp [zdA]
  | y :: r => by
    unfold zdA
    by_cases h : x <= y
    . rw [if_pos h]
    . rw [if_neg h]
      exact ((zp6 x r).cons y).trans (List.Perm.swap x y r)
theorem zp5 : ∀ l : List Int, (zcy l).Perm l
  | [] => by simp [zcy]
  | y :: r => by
    show (zdA y (zcy r)).Perm _
    exact (zp6 y _).trans ((zp5 r).cons y)
theorem ztN (x : Int) : ∀ l : List Int, l.Pairwise (· <= ·) -> (zdA x l).Pairwise (· <= ·)
  | [], _ => by simp [zdA]
  | y :: r, h => by
    unfold zdA
    rw [List.pairwise_cons] at h
    by_cases hx : x <= y
    . rw [if_pos hx]
      refine List.pairwise_cons.mpr ⟨fun z hz => ?_, List.pairwise_cons.mpr h⟩
      rcases List.mem_cons.mp hz with e | hz
      . rw [e]; exact hx
      . exact Int.le_trans hx (h.1 z hz)
    . rw [if_neg hx]
      refine List.pairwise_cons.mpr ⟨fun z hz => ?_, ztN x r h.2⟩
      rcases List.mem_cons.mp ((zp6 x r).mem_iff.mp hz) with e | hz
      . rw [e]; omega
      . exact h.1 z hz
theorem zsi : ∀ l : List Int, (zcy l).Pairwise (· <= ·)
  | [] => by simp [zcy]
  | y :: r => ztN y _ (zsi r)
theorem ztl : ∀ {l m : List Int}, l.Perm m -> l.Pairwise (· <= ·) -> m.Pairwise (· <= ·) -> l = m
  | [], m, p, _, _ => by simpa using p
  | x :: l, m, p, hl, hm => by
    cases m with
    | nil => simp at p
    | cons y m =>
      rw [List.pairwise_cons] at hl hm
      have h1 : x ∈ y :: m := p.mem_iff.mp List.mem_cons_self
      have h2 : y ∈ x :: l := p.mem_iff.mpr List.mem_cons_self
      have e : x = y := by
        rcases List.mem_cons.mp h1 with e | h1
        . exact e
        . rcases List.mem_cons.mp h2 with e | h2
          . exact e.symm
          . have a := hl.1 y h2
            have b := hm.1 x h1
            omega
      subst e
      rw [ztl (List.perm_cons x |>.mp p) hl.2 hm.2]
section
variable {W : Nat -> Hp -> Prop} {X : Cx} {F : Addr -> Prop} {G : GP} {env : zA} {σ : L2.St} {ρ : List Addr} {H : Hp} {h : MH} {a b c e o : Expr} {es : List Expr} {ma mb mc : ME D} {ml ml' : ME (List D)} {pos p p1 p2 apos : Pos} {Q : VK} {k : Nat}
theorem zpP (hg : Gl X "len") (hm : X.mg "len" = none) (hg' : Gl X "set") (hm' : X.mg "set" = none) (ha : JE X e (tL W G ml)) (hs : starEach [e] X.env = (false, eval e X.env) :: starEach [] X.env) (hc : X.calm = true := by rfl) :
    JE X (.Call (.Name "len" p) [.Call (.Name "set" p1) [e] [] p2] [] pos) (tE W G (zgY ml)) :=
  .of (z3 (zff zC9 hg hm PySem.boot_len (zcP (ztA (zAW hc) hg' hm' (by decide +kernel) (zcP ha.to zdd hs) (he := hs)) zdd zbq) (he := zbq)) fun σ H Q ⟨F, ρ, env, h, er, hr, w⟩ => by
    refine zeZ (Rl := rL G.K) (m := ml) (P := fun vs H1 => ∃ (a : Addr) (ns : List Int), vs = [.ref a] ∧ SqL X.K H1 a (ns.map V.int) ∧ ns.length < 4000 ∧ ∀ p, H1 p = none -> (∃ p' S n, [V.ref p] = [.ref p'] ∧ (upd H1 p (.set (fun k => (ze2 ns).any (· == k)) (ze2 ns).length)) p' = some (.set S n) ∧ Q (.int n) (upd H1 p (.set (fun k => (ze2 ns).any (· == k)) (ze2 ns).length)))) ⟨F, ρ, env, h, er, hr, ?_⟩
    refine zG w fun xs h1 ρ1 H1 y e1 er1 hr1 ⟨q, us, ey, hq, rs⟩ w1 => ?_
    subst ey
    cases eb : zcu xs with
    | none => rw [eb] at w1; exact w1.elim
    | some ns =>
      rw [eb] at w1
      have e2 := RDs.of_ints eb rs
      subst e2
      by_cases hl : ns.length < 4000
      . dsimp only at w1
        rw [if_pos hl] at w1
        refine ⟨q, ns, rfl, SqL.of hq, hl, fun d hd => ⟨d, _, _, rfl, zbN, ?_⟩⟩
        exact wp.made (h := h1) w1 er1 hr1 hd (by rw [zCf]; unfold RD; rfl)
      . dsimp only at w1
        rw [if_neg hl] at w1; exact w1.elim)
theorem zFC : zew X (.builtin "sorted") (fun xs H Q => ∃ (a : Addr) (ns : List Int), xs = [.ref a] ∧ SqL X.K H a (ns.map V.int) ∧ ns.length < 64 ∧ ∀ p, H p = none -> Q (.ref p) (upd H p (.lst ((zcy ns).map V.int)))) := by
  intro pins s σ H xs us Q I r h
  obtain ⟨a, ns, rfl, hq, hn, q⟩ := h
  obtain ⟨u, rfl, ru⟩ := zeO r
  cases ru
  obtain ⟨its, rv, pl, hz⟩ := I.list hq
  have hlen := rv.length
  rw [List.length_map] at hlen
  refine PyProof.Rows.sorted_ints (ns := ns) pl.isList (zr6 rv) (by omega) fun out ns' h1 h2 h3 => ?_
  have e : ns' = zcy ns := ztl (h2.trans (zp5 ns).symm) h3 (zsi ns)
  subst e
  obtain ⟨ep, he⟩ := PyProof.Rows.sortedAll_at s.heap its out
  refine ⟨.ref (s.heap.objs.size + 1), _, I.laid (t' := s.toks) (a := s.heap.objs.size + 1) (o := .lst ((zcy ns).map V.int)) (fun b o e => PyProof.Rows.sortedAll_old e) (Nat.le_succ _) ?_, rfl, q _ (I.hok.fresh (Nat.le_succ _))⟩
  refine ⟨?_, out.toList, ep, zpn h1, ?_⟩
  . rw [List.length_map, (zp5 ns).length_eq, hlen, <- hlen, <- List.length_map (f := V.int)]; exact hz
  . rw [Array.toArray_toList]; exact he
theorem zEV (rm : zR k X.A) (hg : Gl X "sorted") (hm : X.mg "sorted" = none) (ha : JE X e (tL W G ml)) (hs : starEach [e] X.env = (false, eval e X.env) :: starEach [] X.env) : JE X (.Call (.Name "sorted" p) [e] [] pos) (tN W G (ziW ml)) :=
  .of (z3 (zff zFC hg hm (by decide +kernel) (zcP ha.to zdd hs) (he := hs)) fun σ H Q ⟨F, ρ, env, h, er, hr, w⟩ => zeZ ⟨F, ρ, env, h, er, hr, zG w fun xs h1 ρ1 H1 y e1 er1 hr1 ⟨q, us, ey, hq, rs⟩ w1 => by
    subst ey
    cases eb : zcu xs with
    | none => rw [eb] at w1; exact w1.elim
    | some ns =>
      rw [eb] at w1
      have e2 := RDs.of_ints eb rs
      subst e2
      by_cases hl : ns.length < 64
      . dsimp only at w1
        rw [if_pos hl] at w1
        exact ⟨q, ns, rfl, SqL.of hq, hl, fun d hd => wp.made (h := h1) w1 er1 hr1 hd (zgw hr1 hd (RDs.ints _))⟩
      . dsimp only at w1
        rw [if_neg hl] at w1; exact w1.elim⟩)
theorem zAN {a : Expr} {ta : TE} (hc : X.calm = true) (hg : Gl X "list") (hm : X.mg "list" = none) (hg' : Gl X "range") (hm' : X.mg "range" = none) (ha : PE X a ta) (hs : starEach [a] X.env = (false, eval a X.env) :: starEach [] X.env) :
    PE X (.Call (.Name "list" p) [.Call (.Name "range" p1) [a] [] p2] [] pos) (fun σ H Q => ta σ H fun x H1 => ∃ j : Int, x = .int j ∧ -1000000 <= j ∧ j <= 1000000 ∧ ∀ q, H1 q = none -> Q (.ref q) (upd H1 q (.lst ((List.range j.toNat).map fun (k : Nat) => V.int k)))) := by
  intro pins s σ H Q I h
  have hbl : bootBuiltins ("list" : Str) = some (.type "list") := by decide +kernel
  have hbr : bootBuiltins ("range" : Str) = some (.type "range") := by decide +kernel
  refine wpAny_Call_Name_kw (zgu I hg hm hbl ?_ (by decide) (by decide))
  refine PyProof.Rows.callWith_type1 (pos := pos) ?_ zbq rfl
  rw [zbq]
  refine Calls.spliced_cons (wpAny_Call_Name_kw (zgu I hg' hm' hbr ?_ (by decide) (by decide)))
  refine PyProof.Rows.callWith_type1 (pos := p2) ?_ hs rfl
  rw [hs]
  refine Calls.spliced_cons (thn (ha pins s σ H _ I h) fun v s1 ⟨x, H1, I1, r1, q1⟩ => Calls.spliced_nil ?_)
  obtain ⟨j, e, j1, j2, q⟩ := q1
  subst e
  obtain ⟨t, rfl⟩ := r1
  refine call_range_1 (Calls.spliced_nil ?_)
  have hsz : Builtin.Range.rangeSize 0 j 1 = (j.toNat : Nat) := by rw [rangeSize_one]; split <;> omega
  have I2 : Inv X pins σ H1 { s1 with heap := s1.heap.push { cls := .type "range", data := .fields #[.int 0 s1.toks, .int j t, .int 1 (s1.toks + 1)] }, toks := s1.toks + 1 + 1 } := I1.kept fun b o e => Heap.get?_push_of_some _ e
  refine call_list_range (n := j.toNat) (I.ok.hd hc) (IsRange.new ..) (small_one (by omega) (by omega) (by omega) (by omega)) hsz (by omega) fun h' tk acc' c' hk hat hit => ?_
  refine ⟨.ref _, _, I2.laid (h' := h') (t' := tk) (o := .lst ((List.range j.toNat).map fun (k : Nat) => V.int k)) hk (Nat.le_refl _) ?_, rfl, q _ (I2.hok.fresh (Nat.le_refl _))⟩
  refine ⟨?_, acc'.toList, c', ?_, by rw [Array.toArray_toList]; exact hat⟩
  . rw [List.length_map, List.length_range]; exact zhJ (by omega)
  . obtain ⟨hs1, hs2⟩ := hit
    have key : ∀ (n : Nat) (l : List Value), l.length = n -> (∀ (i : Nat) v, l[i]? = some v -> ∃ t, v = Value.int (i : Int) t) -> zy ((List.range n).map fun (k : Nat) => V.int k) l := by
      intro n
      induction n with
      | zero => intro l hl _; cases l <;> simp at hl; exact .nil
      | succ n ih =>
        intro l hl hv
        have e : l = l.dropLast ++ [l.getLast (by intro z; rw [z] at hl; cases hl)] := (List.dropLast_concat_getLast _).symm
        rw [List.range_succ, List.map_append, e]
        refine zy.append (ih _ (by rw [List.length_dropLast]; omega) fun i v hi => hv i v ?_) ?_
        . rw [e, List.getElem?_append_left (List.getElem?_eq_some_iff.mp hi).1]; exact hi
        . have hne : l ≠ [] := by intro z; rw [z] at hl; cases hl
          obtain ⟨t', ht'⟩ := hv n (l.getLast hne) (by rw [List.getLast_eq_getElem]; simp [hl])
          exact .cons ⟨t', ht'⟩ .nil
    refine key _ _ (by rw [Array.length_toList]; exact hs1) fun i v hi => ?_
    obtain ⟨t', ht'⟩ := hs2 i v (by simpa using hi)
    exact ⟨t', by rw [ht']; simp⟩
theorem zFx (hg : Gl X "list") (hm : X.mg "list" = none) (hg' : Gl X "range") (hm' : X.mg "range" = none) (ha : JE X e (tE W G ma)) (hs : starEach [e] X.env = (false, eval e X.env) :: starEach [] X.env) (hc : X.calm = true := by rfl) :
    JE X (.Call (.Name "list" p) [.Call (.Name "range" p1) [e] [] p2] [] pos) (tN W G (zij ma)) :=
  .of (z3 (zAN hc hg hm hg' hm' ha.to hs) fun σ H Q ⟨F, ρ, env, h, er, hr, w⟩ => ⟨F, ρ, env, h, er, hr, zG w fun x h1 ρ1 H1 y e1 er1 hr1 r1 w1 => by
    cases x with
    | int i =>
      have r1 : RD ρ1 H1 (.int i) y := r1
      unfold RD at r1
      by_cases hl : -1000000 <= i ∧ i <= 1000000
      . dsimp only at w1
        rw [if_pos hl] at w1
        refine ⟨i, r1, hl.1, hl.2, fun d hd => wp.made (h := h1) w1 er1 hr1 hd (zgw hr1 hd ?_)⟩
        have := RDs.ints (ρ := ρ1) (H := H1) ((List.range i.toNat).map fun (k : Nat) => (k : Int))
        rw [List.map_map, List.map_map] at this
        exact this
      . dsimp only at w1
        rw [if_neg hl] at w1; exact w1.elim
    | _ => exact w1.elim⟩)
end
end MI
end
section
namespace MI
open PySem PySem.Spec L2
def tyN : Ty -> String
  | .int => "int"
  | .bool => "bool"
  | .str => "str"
  | .list => "list"
  | .tuple => "tuple"
  | .dict => "dict"
section
variable {W : Nat -> Hp -> Prop} {X : Cx} {F : Addr -> Prop} {G : GP} {env : zA} {σ : L2.St} {ρ : List Addr} {H : Hp} {h : MH} {a b c e o : Expr} {es : List Expr} {ma mb mc mo : ME D} {ml ml' : ME (List D)} {pos p p1 p2 apos cpos : Pos} {Q : VK} {k : Nat}
theorem zEK {t : Ty} {x : D} {v : V} {b : Bool} (hr : HR F G ρ h H) (r : RD ρ H x v) (e : zbJ h t x = some b) : ∃ u, zdD X.K H v u ∧ PySem.W.kitOne X.K u (.type (tyN t)) = some b := by
  cases x with
  | non => unfold RD at r; subst r; cases e; exact ⟨_, .non, by cases t <;> rfl⟩
  | bl x => unfold RD at r; subst r; cases e; exact ⟨_, .bl x, by cases t <;> rfl⟩
  | int x => unfold RD at r; subst r; cases e; exact ⟨_, .int x, by cases t <;> rfl⟩
  | str x => unfold RD at r; subst r; cases e; exact ⟨_, .str x, by cases t <;> rfl⟩
  | tup ds =>
    unfold RD at r
    obtain ⟨q, vs, rfl, hq, _⟩ := r
    cases e; exact ⟨_, .tup hq, by cases t <;> rfl⟩
  | obj n =>
    simp only [zbJ] at e
    cases qo : h[n]? with
    | none => rw [qo] at e; cases e
    | some o =>
      rw [qo] at e
      cases o with
      | lst xs =>
        obtain ⟨q, vs, rfl, _, hq, _⟩ := hr.lst r qo
        cases e; exact ⟨_, .lst hq, by cases t <;> rfl⟩
      | dic xs =>
        obtain ⟨q, vs, rfl, _, hq, _⟩ := hr.dic r qo
        cases e; exact ⟨_, .dK hq, by cases t <;> rfl⟩
      | _ => cases e
theorem zdG {t : Ty} {x : Str} (hg : Gl X "isinstance") (hm : X.mg "isinstance" = none) (hg' : Gl X x) (hm' : X.mg x = none) (ha : JE X e (tE W G ma)) (hs : starEach [e, .Name x p1] X.env = (false, eval e X.env) :: starEach [.Name x p1] X.env)
    (hv : bootBuiltins x = some (.type (tyN t)) := by decide +kernel) (hn : x ≠ "__name__" := by decide) (hd : (x == ("__debug__" : Str)) = false := by decide) : JE X (.Call (.Name "isinstance" p) [e, .Name x p1] [] pos) (tE W G (zcb t ma)) :=
  .of (z3 (zff zs3 hg hm (by decide +kernel) (zcP ha.to (zcP (zFs (v := .ty (tyN t)) hg' hm' hv rfl hn hd) zdd zi) hs) (he := hs) (hpl := by rw [zi]; rfl)) fun σ H Q ⟨F, ρ, env, h, er, hr, w⟩ => by
    refine ⟨F, ρ, env, h, er, hr, zG w fun x' h1 ρ1 H1 y e1 er1 hr1 r1 w1 => ?_⟩
    cases eb : zbJ h1 t x' with
    | none => rw [eb] at w1; exact w1.elim
    | some b =>
      rw [eb] at w1
      obtain ⟨u, h2, h3⟩ := zEK (X := X) hr1 r1 eb
      exact ⟨y, u, b, h2, .inl ⟨_, rfl, h3⟩, wp.done (h := h1) w1 er1 hr1 (by unfold RD; rfl)⟩)
theorem zdR {sub att : Nat -> Nat -> Bool} {ci : Nat} {C : Addr} {x : Str} (ok : G.Ok sub att) (hC : G.cm[ci]? = some C) (hg : Gl X "isinstance") (hm : X.mg "isinstance" = none) (hg' : Gl X x) (hm' : X.mg x = some (.ref C)) (ha : JE X e (tE W G ma))
    (hs : starEach [e, .Name x p1] X.env = (false, eval e X.env) :: starEach [.Name x p1] X.env) (hK : X.K = G.K := by rfl) (hd : (x == ("__debug__" : Str)) = false := by decide) : JE X (.Call (.Name "isinstance" p) [e, .Name x p1] [] pos) (tE W G (zcj sub ci ma)) :=
  .of (z3 (zff zs3 hg hm (by decide +kernel) (zcP ha.to (zcP (zrV (v := .ref C) hg' hm' rfl hd) zdd zi) hs) (he := hs) (hpl := by rw [zi]; rfl)) fun σ H Q ⟨F, ρ, env, h, er, hr, w⟩ => by
    refine ⟨F, ρ, env, h, er, hr, zG w fun x' h1 ρ1 H1 y e1 er1 hr1 r1 w1 => ?_⟩
    have r1 : RD ρ1 H1 x' y := r1
    cases x' with
    | obj n =>
      dsimp only at w1
      cases qo : h1[n]? with
      | none => rw [qo] at w1; exact w1.elim
      | some o =>
        rw [qo] at w1
        cases o with
        | ins c fs =>
          obtain ⟨q, C', dx, vs, rfl, _, hC', hq, _⟩ := hr1.ins r1 qo
          obtain ⟨h2, h3⟩ := ok.cls c C' hC'
          refine ⟨.ref q, .ref C', sub c ci, .ins hq (by rw [hK]; exact h2) (by rw [hK]; exact h3.ha) (by rw [hK]; exact h3.hn) (by rw [hK]; exact h3.htk) (by rw [hK]; exact h3.hm), .inr ⟨C, rfl, ?_⟩, wp.done (h := h1) w1 er1 hr1 (by unfold RD; rfl)⟩
          rw [hK]; exact ok.isa c ci C' C hC' hC
        | _ => exact w1.elim
    | _ => exact w1.elim)
theorem zsA {l : List Str} (hl : l.Nodup) {i j : Nat} {x : Str} (h1 : l[i]? = some x) (h2 : l[j]? = some x) : i = j := zp7 hl h1 h2
theorem FRs.lookup {C : Addr} (nd : G.an.Nodup) {f : Str} {kk : Nat} (hf : G.an[kk]? = some f) : ∀ {fs : List (Nat × D)} {vs : List (Str × V)} {d : D}, FRs G ρ H C fs vs -> fs.lookup kk = some d -> ∃ v, vs.lookup f = some v ∧ RD ρ H d v ∧ zb3 G.K C f
  | [], vs, d, r, e => by simp at e
  | p :: fs, vs, d, r, e => by
    unfold FRs at r
    obtain ⟨g, v, q, rfl, h1, h2, h3, h4⟩ := r
    obtain ⟨i, d'⟩ := p
    rw [List.lookup_cons] at e
    by_cases hi : kk = i
    . subst hi
      simp at e
      subst e
      rw [hf] at h1; cases h1
      exact ⟨v, by rw [List.lookup_cons]; simp, h3, h2⟩
    . have b : (kk == i) = false := by simpa using hi
      rw [b] at e
      obtain ⟨v', e1, e2, e3⟩ := FRs.lookup nd hf h4 e
      refine ⟨v', ?_, e2, e3⟩
      have hne : ¬ f = g := fun z => hi (zsA nd (z ▸ hf) h1)
      have b' : (f == g) = false := by simpa using hne
      rw [List.lookup_cons, b']
      exact e1
theorem FRs.none {C : Addr} {f : Str} (hf : ∀ kk : Nat, G.an[kk]? ≠ some f) : ∀ {fs : List (Nat × D)} {vs : List (Str × V)}, FRs G ρ H C fs vs -> vs.lookup f = none
  | [], vs, r => by unfold FRs at r; subst r; rfl
  | p :: fs, vs, r => by
    unfold FRs at r
    obtain ⟨g, v, q, rfl, h1, h2, h3, h4⟩ := r
    have hne : ¬ f = g := fun z => hf p.1 (z ▸ h1)
    have b' : (f == g) = false := by simpa using hne
    rw [List.lookup_cons, b']
    exact FRs.none hf h4
theorem FRs.put {C : Addr} (nd : G.an.Nodup) {f : Str} {kk : Nat} {d : D} {v : V} (hf : G.an[kk]? = some f) (hn : zb3 G.K C f) (rd : RD ρ H d v) : ∀ {fs : List (Nat × D)} {vs : List (Str × V)}, FRs G ρ H C fs vs -> FRs G ρ H C (zfj kk d fs) (zcx f v vs)
  | [], vs, r => by
    unfold FRs at r; subst r
    show FRs G ρ H C [(kk, d)] [(f, v)]
    unfold FRs
    exact ⟨f, v, [], rfl, hf, hn, rd, by unfold FRs; rfl⟩
  | p :: fs, vs, r => by
    unfold FRs at r
    obtain ⟨g, u, q, rfl, h1, h2, h3, h4⟩ := r
    unfold zfj zcx
    by_cases hi : p.1 = kk
    . rw [if_pos hi]
      rw [hi, hf] at h1; cases h1
      rw [if_pos rfl]
      unfold FRs
      exact ⟨f, v, q, rfl, hf, hn, rd, h4⟩
    . rw [if_neg hi]
      have hne : ¬ g = f := fun z => hi (zsA nd (z ▸ h1) hf)
      rw [if_neg hne]
      unfold FRs
      exact ⟨g, u, _, rfl, h1, h2, h3, FRs.put nd hf hn rd h4⟩
theorem zbp {sub att : Nat -> Nat -> Bool} {kk : Nat} {f : Str} (ok : G.Ok sub att) (hf : G.an[kk]? = some f) (ha : JE X e (tE W G ma)) (hb : attributeBase e f X.env (eval e X.env) = eval e X.env) (hK : X.K = G.K := by rfl) : JE X (.Attribute e f pos) (tE W G (fld kk ma)) :=
  .of (z3 (zD1 ha.to hb) fun σ H Q ⟨F, ρ, env, h, er, hr, w⟩ => ⟨F, ρ, env, h, er, hr, zG w fun x h1 ρ1 H1 y e1 er1 hr1 r1 w1 => by
    have r1 : RD ρ1 H1 x y := r1
    cases x with
    | obj n =>
      dsimp only at w1
      cases qo : h1[n]? with
      | none => rw [qo] at w1; exact w1.elim
      | some o =>
        rw [qo] at w1
        cases o with
        | ins c fs =>
          dsimp only at w1
          obtain ⟨q, C, dx, vs, rfl, _, hC, hq, rs⟩ := hr1.ins r1 qo
          cases ql : fs.lookup kk with
          | none => rw [ql] at w1; exact w1.elim
          | some d =>
            rw [ql] at w1
            obtain ⟨v, h2, h3, h4⟩ := rs.lookup ok.nd hf ql
            exact ⟨q, C, dx, vs, v, rfl, hq, by rw [hK]; exact (ok.cls c C hC).1, by rw [hK]; exact h4, h2, wp.done (h := h1) w1 er1 hr1 h3⟩
        | _ => exact w1.elim
    | _ => exact w1.elim⟩)
theorem zAt {q : Addr} {u : HO} {ob : O} {Q : VK} (w : wp F W G rV env σ ρ H (zg3 ob env h) Q) (er : z6 ρ H env σ) (hr : HR F G ρ h H) (hq : H q = none) (ro : RO G (ρ ++ [q]) (upd H q u) q ob) : Q (.ref q) (upd H q u) := by
  have ex : Ext F ρ (ρ ++ [q]) H (upd H q u) := ⟨⟨[q], rfl⟩, (zcR hr hq).tup, (zcR hr hq).frm⟩
  refine w (ρ ++ [q]) _ (.ref q) ex (er.ext ex) ((hr.new hq).named (hr.fresh hq) ro) ?_
  show RD _ _ (.obj h.length) (.ref q)
  unfold RD
  exact ⟨q, rfl, by rw [<- hr.len]; simp⟩
theorem zs2 : JE X (.Dict [] [] pos) (tE W G ziC) :=
  .of (z3 zAj fun σ H Q ⟨F, ρ, env, h, er, hr, w⟩ => fun q hq => zAt w er hr hq ⟨[], zbN, by unfold KRs; rfl⟩)
theorem zqk {n : Nat} {q : Addr} {xs ys : List D} {us vs : List V} {Q : VK} {d : D} {v : V} (w : wp F W G rV env σ ρ H (.ok d (h.set n (.lst ys))) Q) (er : z6 ρ H env σ) (hr : HR F G ρ h H) (e : h[n]? = some (.lst xs)) (eq : ρ[n]? = some q) (hq : H q = some (.lst us))
    (rs : RDs ρ H ys vs) (rd : RD ρ H d v) : Q v (upd H q (.lst vs)) := by
  have tp : Ext (fun _ => False) ρ ρ H (upd H q (.lst vs)) := by
    refine ⟨⟨[], by simp⟩, fun b xs z => ?_, fun _ z => z.elim⟩
    rw [zD]
    . exact z
    . intro zz; subst zz; rw [hq] at z; cases z
  obtain ⟨ex, hr'⟩ := hr.write (o1 := .lst ys) (u := .lst vs) e eq rfl rfl hq trivial ⟨vs, zbN, RDs.ext tp _ _ rs⟩
  exact w ρ _ v ex (er.ext ex) hr' (RD.ext ex _ _ rd)
theorem zBS {x : D} {kk : Unit -> ME D} {Q : VK} (w : wp F W G rV env σ ρ H (zn (isL x) kk env h) Q) : ∃ n xs, x = .obj n ∧ h[n]? = some (.lst xs) ∧ wp F W G rV env σ ρ H (kk () env h) Q := by
  cases x with
  | obj n =>
    simp only [zn, isL] at w
    cases qo : h[n]? with
    | none => rw [qo] at w; exact w.elim
    | some o =>
      rw [qo] at w
      cases o with
      | lst xs => exact ⟨n, xs, rfl, qo, w⟩
      | _ => exact w.elim
  | _ => exact w.elim
theorem zeS (ho : JE X o (tE W G mo)) (ha : JE X e (tE W G ma)) (hs : starEach [e] X.env = (false, eval e X.env) :: starEach [] X.env) (hbase : attributeBase o "append" X.env (eval o X.env) = eval o X.env := by rfl)
    (hfew : ((backTo cpos (starEach [e] X.env)).all (fun x => !x.1) && (backToKw cpos (keywordEach [] X.env)).all (fun x => x.1.isSome) && decide (([e] : List Expr).length + ([] : List Keyword).length + (if ([] : List Keyword).isEmpty then 0 else 1) < 30)) = true := by rfl)
    (hline : (apos.endLine == cpos.line) = true := by rfl) : JE X (.Call (.Attribute o "append" apos) [e] [] cpos) (tE W G (zbj mo ma)) :=
  .of (z3 (zCM PySem.F.plainAttrs_list PySem.F.slot_list_append PySem.F.type_list_append ztG ho.to (zcP ha.to zdd hs) hbase hfew hline hs) fun σ H Q ⟨F, ρ, env, h, er, hr, w⟩ => ⟨F, ρ, env, h, er, hr, zG w fun x h1 ρ1 H1 y e1 er1 hr1 r1 w1 => by
    obtain ⟨n, xs, rfl, qo, w2⟩ := zBS w1
    obtain ⟨q, vs, rfl, _, hq, _⟩ := hr1.lst r1 qo
    refine ⟨.inl ⟨rfl, _, SqL.of hq⟩, zeZ ⟨F, ρ1, env, h1, er1, hr1, zG w2 fun z h2 ρ2 H2 yz e2 er2 hr2 r2 w3 => ?_⟩⟩
    dsimp only at w3
    cases qo2 : h2[n]? with
    | none => rw [qo2] at w3; exact w3.elim
    | some o2 =>
      rw [qo2] at w3
      cases o2 with
      | lst xs2 =>
        dsimp only at w3
        by_cases hl : xs2.length < 1000000
        . rw [if_pos hl] at w3
          obtain ⟨q2, vs2, ev, eq2, hq2, rs2⟩ := hr2.lst (RD.ext e2 _ _ r1) qo2
          cases ev
          exact ⟨q, vs2, yz, rfl, rfl, hq2, by rw [<- rs2.length, sizeLine_eq]; omega, zqk w3 er2 hr2 qo2 eq2 hq2 (rs2.snoc r2) (by unfold RD; rfl)⟩
        . rw [if_neg hl] at w3; exact w3.elim
      | _ => exact w3.elim⟩)
theorem zDb (ho : JE X o (tE W G mo)) (hbase : attributeBase o "reverse" X.env (eval o X.env) = eval o X.env := by rfl) (hline : (apos.endLine == cpos.line) = true := by rfl) : JE X (.Call (.Attribute o "reverse" apos) [] [] cpos) (tE W G (zil mo)) :=
  .of (z3 (zsl PySem.F.plainAttrs_list PySem.F.slot_list_reverse PySem.F.type_list_reverse zFf ho.to hbase hline) fun σ H Q ⟨F, ρ, env, h, er, hr, w⟩ => ⟨F, ρ, env, h, er, hr, zG w fun x h1 ρ1 H1 y e1 er1 hr1 r1 w1 => by
    cases x with
    | obj n =>
      dsimp only at w1
      cases qo : h1[n]? with
      | none => rw [qo] at w1; exact w1.elim
      | some o =>
        rw [qo] at w1
        cases o with
        | lst xs =>
          obtain ⟨q, vs, rfl, eq, hq, rs⟩ := hr1.lst r1 qo
          exact ⟨.inl ⟨rfl, _, SqL.of hq⟩, q, vs, rfl, rfl, hq, zqk w1 er1 hr1 qo eq hq rs.reverse (by unfold RD; rfl)⟩
        | _ => exact w1.elim
    | _ => exact w1.elim⟩)
theorem zEM (ho : JE X o (tE W G mo)) (hbase : attributeBase o "clear" X.env (eval o X.env) = eval o X.env := by rfl) (hline : (apos.endLine == cpos.line) = true := by rfl) : JE X (.Call (.Attribute o "clear" apos) [] [] cpos) (tE W G (zhK mo)) :=
  .of (z3 (zsl PySem.F.plainAttrs_list PySem.F.slot_list_clear PySem.F.type_list_clear zCj ho.to hbase hline) fun σ H Q ⟨F, ρ, env, h, er, hr, w⟩ => ⟨F, ρ, env, h, er, hr, zG w fun x h1 ρ1 H1 y e1 er1 hr1 r1 w1 => by
    cases x with
    | obj n =>
      dsimp only at w1
      cases qo : h1[n]? with
      | none => rw [qo] at w1; exact w1.elim
      | some o =>
        rw [qo] at w1
        cases o with
        | lst xs =>
          obtain ⟨q, vs, rfl, eq, hq, rs⟩ := hr1.lst r1 qo
          exact ⟨.inl ⟨rfl, _, SqL.of hq⟩, q, vs, rfl, rfl, hq, zqk w1 er1 hr1 qo eq hq RDs.nil (by unfold RD; rfl)⟩
        | _ => exact w1.elim
    | _ => exact w1.elim⟩)
end
end MI
end
section
namespace MI
open PySem PySem.Spec L2
def wpS (F : Addr -> Prop) (W : Nat -> Hp -> Prop) (G : GP) (ρ : List Addr) (H : Hp) (r : RS) (E : zeV) : Prop := match r with
  | .nx e h1 => ∀ ρ1 H1 σ1, Ext F ρ ρ1 H H1 -> z6 ρ1 H1 e σ1 -> HR F G ρ1 h1 H1 -> E.nx σ1 H1
  | .bk e h1 => ∀ ρ1 H1 σ1, Ext F ρ ρ1 H H1 -> z6 ρ1 H1 e σ1 -> HR F G ρ1 h1 H1 -> E.bk σ1 H1
  | .ct e h1 => ∀ ρ1 H1 σ1, Ext F ρ ρ1 H H1 -> z6 ρ1 H1 e σ1 -> HR F G ρ1 h1 H1 -> E.ct σ1 H1
  | .rt v h1 => ∀ ρ1 H1 v1, Ext F ρ ρ1 H H1 -> HR F G ρ1 h1 H1 -> RD ρ1 H1 v v1 -> E.rt v1 H1
  | .ex c h1 => ∀ ρ1 H1, Ext F ρ ρ1 H H1 -> HR F G ρ1 h1 H1 -> W c H1
  | .bad => False
def tS (W : Nat -> Hp -> Prop) (G : GP) (m : MS) : TS := fun E σ H => ∃ F ρ env h, z6 ρ H env σ ∧ HR F G ρ h H ∧ wpS F W G ρ H (m env h) E
section
variable {F : Addr -> Prop} {W : Nat -> Hp -> Prop} {G : GP} {env : zA} {σ : L2.St} {ρ ρ1 : List Addr} {H H1 : Hp} {h h1 : MH} {E : zeV}
theorem wpS.mono {r : RS} (w : wpS F W G ρ H r E) (e : Ext F ρ ρ1 H H1) : wpS F W G ρ1 H1 r E := by
  cases r with
  | nx v h1 => exact fun ρ2 H2 v1 e2 => w ρ2 H2 v1 (e.trans e2)
  | bk v h1 => exact fun ρ2 H2 v1 e2 => w ρ2 H2 v1 (e.trans e2)
  | ct v h1 => exact fun ρ2 H2 v1 e2 => w ρ2 H2 v1 (e.trans e2)
  | rt v h1 => exact fun ρ2 H2 v1 e2 => w ρ2 H2 v1 (e.trans e2)
  | ex c h1 => exact fun ρ2 H2 e2 => w ρ2 H2 (e.trans e2)
  | bad => exact w
theorem zc6 {α β : Type} {Rl : RL α β} {m : ME α} {k : α -> MS} {P : β -> Hp -> Prop} (w : wpS F W G ρ H (zcS m k env h) E)
    (f : ∀ x h1 ρ1 H1 y, Ext F ρ ρ1 H H1 -> z6 ρ1 H1 env σ -> HR F G ρ1 h1 H1 -> Rl F ρ1 h1 H1 x y -> wpS F W G ρ1 H1 (k x env h1) E -> P y H1) : wp F W G Rl env σ ρ H (m env h) P := by
  unfold zcS at w
  cases e : m env h with
  | ok v h1 =>
    rw [e] at w
    exact fun ρ1 H1 y ex er hr rl => f v h1 ρ1 H1 y ex er hr rl (w.mono ex)
  | ex c h1 => rw [e] at w; exact w
  | bad => rw [e] at w; exact w
theorem wpS.done {e : zA} {σ1 : L2.St} (w : wpS F W G ρ H (.nx e h) E) (er : z6 ρ H e σ1) (hr : HR F G ρ h H) : E.nx σ1 H := w ρ H σ1 Ext.refl er hr
end
@[irreducible] def JS (X : Cx) (e : Stmt) (t : TS) : Prop := PS X e t
@[irreducible] def JSs (X : Cx) (e : List Stmt) (t : TS) : Prop := PSs X e t
@[irreducible] def JG (X : Cx) (e : Expr) (t : TG) : Prop := PG X e t
@[irreducible] def JGs (X : Cx) (e : List Expr) (t : TGs) : Prop := PGs X e t
@[irreducible] def JI (X : Cx) (tg e : Expr) (t : TI) : Prop := PI X tg e t
@[irreducible] def zez (X : Cx) (e : List Expr) (t : TT) : Prop := zg5 X e t
theorem JS.to {X : Cx} {e : Stmt} {t : TS} (h : JS X e t) : PS X e t := by unfold JS at h; exact h
theorem JS.of {X : Cx} {e : Stmt} {t : TS} (h : PS X e t) : JS X e t := by unfold JS; exact h
theorem JSs.to {X : Cx} {e : List Stmt} {t : TS} (h : JSs X e t) : PSs X e t := by unfold JSs at h; exact h
theorem JSs.of {X : Cx} {e : List Stmt} {t : TS} (h : PSs X e t) : JSs X e t := by unfold JSs; exact h
theorem JG.to {X : Cx} {e : Expr} {t : TG} (h : JG X e t) : PG X e t := by unfold JG at h; exact h
theorem JG.of {X : Cx} {e : Expr} {t : TG} (h : PG X e t) : JG X e t := by unfold JG; exact h
theorem JGs.to {X : Cx} {e : List Expr} {t : TGs} (h : JGs X e t) : PGs X e t := by unfold JGs at h; exact h
theorem JGs.of {X : Cx} {e : List Expr} {t : TGs} (h : PGs X e t) : JGs X e t := by unfold JGs; exact h
theorem JI.to {X : Cx} {tg e : Expr} {t : TI} (h : JI X tg e t) : PI X tg e t := by unfold JI at h; exact h
theorem JI.of {X : Cx} {tg e : Expr} {t : TI} (h : PI X tg e t) : JI X tg e t := by unfold JI; exact h
theorem zez.to {X : Cx} {e : List Expr} {t : TT} (h : zez X e t) : zg5 X e t := by unfold zez at h; exact h
theorem zez.of {X : Cx} {e : List Expr} {t : TT} (h : zg5 X e t) : zez X e t := by unfold zez; exact h
theorem zdt {X : Cx} {e : Stmt} {t t' : TS} (h : PS X e t) (i : ∀ E σ H, t' E σ H -> t E σ H) : PS X e t' := fun pins s σ H E I hw => h pins s σ H E I (i _ _ _ hw)
theorem ztQ {X : Cx} {e : List Stmt} {t t' : TS} (h : PSs X e t) (i : ∀ E σ H, t' E σ H -> t E σ H) : PSs X e t' := fun pins s σ H E I hw => h pins s σ H E I (i _ _ _ hw)
theorem zsm {X : Cx} {e : Expr} {t t' : TG} (h : PG X e t) (i : ∀ v σ H Q, t' v σ H Q -> t v σ H Q) : PG X e t' := fun pins s σ H v u Q I r hw => h pins s σ H v u Q I r (i _ _ _ _ hw)
theorem zsQ {X : Cx} {e : List Expr} {t t' : TGs} (h : PGs X e t) (i : ∀ v σ H Q, t' v σ H Q -> t v σ H Q) : PGs X e t' := fun pins s σ H v u Q I r hw => h pins s σ H v u Q I r (i _ _ _ _ hw)
section
variable {W : Nat -> Hp -> Prop} {X : Cx} {F : Addr -> Prop} {G : GP} {env : zA} {σ : L2.St} {ρ : List Addr} {H : Hp} {h : MH} {a b c e o : Expr} {es : List Expr} {st : Stmt} {rest bd bd2 : List Stmt} {ma mb mc mo : ME D} {ml ml' : ME (List D)} {mt : ME Bool} {m1 m2 : MS} {pos p p1 p2 tpos : Pos} {k i : Nat} {x : Str}
theorem zbb : JSs X [] (tS W G zw) := .of (ztQ zCq fun E σ H ⟨F, ρ, env, h, er, hr, w⟩ => wpS.done (h := h) w er hr)
theorem zt (h1 : JS X st (tS W G m1)) : JSs X [st] (tS W G m1) := .of (zDB h1.to)
theorem zm (h1 : JS X st (tS W G m1)) (h2 : JSs X rest (tS W G m2)) : JSs X (st :: rest) (tS W G (zf m1 m2)) :=
  .of (ztQ (zBz h1.to h2.to) fun E σ H ⟨F, ρ, env, h, er, hr, w⟩ => ⟨F, ρ, env, h, er, hr, by
    unfold zf at w
    cases e : m1 env h with
    | nx e1 h1 =>
      rw [e] at w
      exact fun ρ1 H1 σ1 ex er1 hr1 => ⟨F, ρ1, e1, h1, er1, hr1, w.mono ex⟩
    | bk e1 h1 => rw [e] at w; exact w
    | ct e1 h1 => rw [e] at w; exact w
    | rt v h1 => rw [e] at w; exact w
    | ex c h1 => rw [e] at w; exact w
    | bad => rw [e] at w; exact w⟩)
theorem zi4 : JS X st (tS W G zhd) := .of (zdt zAJ fun E σ H ⟨F, ρ, env, h, er, hr, w⟩ => w)
theorem zdv (ha : JE X e (tE W G ma)) (hs : swapsWith e none pos.line X.env = pure false := by rfl) : JS X (.Expr e pos) (tS W G (z4 ma)) :=
  .of (zdt (zAa ha.to hs) fun E σ H ⟨F, ρ, env, h, er, hr, w⟩ => ⟨F, ρ, env, h, er, hr, zc6 w fun x h1 ρ1 H1 y e1 er1 hr1 r1 w1 => wpS.done (h := h1) w1 er1 hr1⟩)
theorem zF (ha : JE X e (tE W G ma)) : JS X (.Return (some e) pos) (tS W G (zr ma)) :=
  .of (zdt (zAv ha.to) fun E σ H ⟨F, ρ, env, h, er, hr, w⟩ => ⟨F, ρ, env, h, er, hr, zc6 w fun x h1 ρ1 H1 y e1 er1 hr1 r1 w1 => w1 ρ1 H1 y Ext.refl hr1 r1⟩)
theorem z9 (hc : JT X c (tT W G mt)) (ha : JSs X bd (tS W G m1)) (hb : JSs X bd2 (tS W G m2)) : JS X (.If c bd bd2 pos) (tS W G (ifS mt m1 m2)) :=
  .of (zdt (zE9 hc.to ha.to hb.to) fun E σ H ⟨F, ρ, env, h, er, hr, w⟩ => ⟨F, ρ, env, h, er, hr, zc6 w fun x h1 ρ1 H1 y e1 er1 hr1 r1 w1 => by
    obtain rfl : x = y := r1
    cases x with
    | true => rw [if_pos rfl] at w1 ⊢; exact ⟨F, ρ1, env, h1, er1, hr1, w1⟩
    | false => rw [if_neg (by decide)] at w1 ⊢; exact ⟨F, ρ1, env, h1, er1, hr1, w1⟩⟩)
def tTg (G : GP) (t : Tg) : TG := fun v σ H Q => ∃ F ρ env h d env1, z6 ρ H env σ ∧ HR F G ρ h H ∧ RD ρ H d v ∧ zdS t d env = some env1 ∧ ∀ σ1, z6 ρ H env1 σ1 -> Q σ1 H
def ziw (l : List Nat) : TGs := fun vs σ H Q => ∃ ρ env ds env1, z6 ρ H env σ ∧ RDs ρ H ds vs ∧ zeA l ds env = some env1 ∧ ∀ σ1, z6 ρ H env1 σ1 -> Q σ1 H
theorem zcN (hN : X.N.Nodup) (hi : X.N[i]? = some x) (hx : Loc X.env.scope x) (hf : X.fn x = true ∨ X.env.scope.names.lookup x = some .local := by first | exact .inl rfl | exact .inr rfl | assumption) : JG X (.Name x pos) (tTg G (.nm i)) :=
  .of (zsm (zr1 hN hi hx hf) fun v σ H Q ⟨F, ρ, env, h, d, env1, er, hr, r, e, q⟩ => by
    cases e
    exact q _ (er.set r i))
theorem zfg : JGs X [] (ziw []) := .of (zsQ zC7 fun v σ H Q ⟨ρ, env, ds, env1, er, r, e, q⟩ => by
  cases ds with
  | nil => unfold RDs at r; cases e; exact ⟨r, q σ er⟩
  | cons d ds => cases e)
theorem zcq {l : List Nat} (hN : X.N.Nodup) (hi : X.N[i]? = some x) (hx : Loc X.env.scope x) (h2 : JGs X es (ziw l)) (hf : X.fn x = true ∨ X.env.scope.names.lookup x = some .local := by first | exact .inl rfl | exact .inr rfl | assumption)
    (hs : (assignEach (.Name x pos :: es) X.env).map (·.2) = assign (.Name x pos) X.env :: (assignEach es X.env).map (·.2) := by rfl) : JGs X (.Name x pos :: es) (ziw (i :: l)) :=
  .of (zsQ (zBJ (zr1 hN hi hx hf) h2.to hs) fun v σ H Q ⟨ρ, env, ds, env1, er, r, e, q⟩ => by
    cases ds with
    | nil => cases e
    | cons d ds =>
      unfold RDs at r
      obtain ⟨y, vs, rfl, r1, r2⟩ := r
      exact ⟨y, vs, rfl, ρ, _, ds, env1, er.set r1 i, r2, e, q⟩)
theorem zAp : ∀ (l : List Nat) {ds : List D} {e e1 : zA}, zeA l ds e = some e1 -> ds.length = l.length := by
  intro l
  induction l with
  | nil => intro ds e e1 h; cases ds <;> first | rfl | cases h
  | cons i l ih =>
    intro ds e e1 h
    cases ds with
    | nil => cases h
    | cons d ds => simp [ih (ds := ds) h]
theorem zfo {l : List Nat} {n k : Nat} (hc : X.calm = true) (h : JGs X es (ziw l)) (hl : n = l.length := by rfl) (hn : (assignEach es X.env).length = n := by rfl) (hst : (assignEach es X.env).findIdx? (·.1) = none := by rfl) : JG X (.Tuple es k pos) (tTg G (.tp l)) :=
  .of (zsm (zBa hc h.to hn hst) fun v σ H Q ⟨F, ρ, env, hh, d, env1, er, hr, r, e, q⟩ => by
    cases d with
    | tup ds =>
      unfold RD at r
      obtain ⟨a, vs, rfl, ha, rs⟩ := r
      exact ⟨a, vs, rfl, SqT.of ha, by rw [<- rs.length, hl]; exact zAp l e, ρ, env, ds, env1, er, rs, e, q⟩
    | _ => cases e)
theorem zP (hN : X.N.Nodup) (hi : X.N[i]? = some x) (hx : Loc X.env.scope x) (ha : JE X e (tE W G ma)) (hs : swapsWith e (some (.Name x p)) pos.line X.env = pure false := by rfl) (hf : X.fn x = true ∨ X.env.scope.names.lookup x = some .local := by first | exact .inl rfl | exact .inr rfl | assumption) :
    JS X (.Assign [.Name x p] e pos) (tS W G (zl (.nm i) ma)) :=
  .of (zdt (zCm hN hi hx ha.to hs hf) fun E σ H ⟨F, ρ, env, h, er, hr, w⟩ => ⟨F, ρ, env, h, er, hr, zc6 w fun x h1 ρ1 H1 y e1 er1 hr1 r1 w1 => wpS.done (h := h1) w1 (er1.set r1 i) hr1⟩)
theorem zi5 {tg : Expr} {t : Tg} (ha : JE X e (tE W G ma)) (hg : JG X tg (tTg G t)) (hs : swapsWithSole [tg] e pos.line X.env = pure false := by rfl) (hw : swappedStores [tg] e X.env = pure none := by rfl)
    (h1 : (assignEach [tg] X.env).map (·.2) = [assign tg X.env] := by rfl) : JS X (.Assign [tg] e pos) (tS W G (zl t ma)) :=
  .of (zdt (zsO ha.to hg.to hs hw h1) fun E σ H ⟨F, ρ, env, h, er, hr, w⟩ => ⟨F, ρ, env, h, er, hr, zc6 w fun x h1 ρ1 H1 y e1 er1 hr1 r1 w1 => by
    unfold zhS at w1
    cases eb : zdS t x env with
    | none => rw [eb] at w1; exact w1.elim
    | some env1 =>
      rw [eb] at w1
      exact ⟨F, ρ1, env, h1, x, env1, er1, hr1, r1, eb, fun σ1 er2 => w1.done er2 hr1⟩⟩)
theorem zAo {j : Nat} {y : Str} {px py pt : Pos} {kt k2 pt2} (hN : X.N.Nodup) (hi : X.N[i]? = some x) (hj : X.N[j]? = some y) (ha : JA X [a, b] (tA W G ml)) (hij : i ≠ j := by decide)
    (hx : X.env.scope.names.lookup x = some .local := by rfl) (hy : X.env.scope.names.lookup y = some .local := by rfl) (hc : X.calm = true := by rfl)
    (hw : swappedStores [.Tuple [.Name x px, .Name y py] kt pt] (.Tuple [a, b] k2 pt2) X.env = pure (some [x, y]) := by rfl)
    (hs : swapsWithSole [.Tuple [.Name x px, .Name y py] kt pt] (.Tuple [a, b] k2 pt2) pos.line X.env = pure false := by rfl) :
    JS X (.Assign [.Tuple [.Name x px, .Name y py] kt pt] (.Tuple [a, b] k2 pt2) pos) (tS W G (zit [i, j] ml)) :=
  .of (zdt (zBr hc hN hi hj hij hx hy ha.to hw hs) fun E σ H ⟨F, ρ, env, h, er, hr, w⟩ => ⟨F, ρ, env, h, er, hr, zc6 w fun xs h1 ρ1 H1 ys e1 er1 hr1 r1 w1 => by
    have r1 : RDs ρ1 H1 xs ys := r1
    match xs, w1 with
    | [u, v], w1 =>
      unfold RDs at r1
      obtain ⟨u', q, rfl, ru, r1⟩ := r1
      unfold RDs at r1
      obtain ⟨v', q, rfl, rv, r1⟩ := r1
      unfold RDs at r1
      subst r1
      exact ⟨u', v', rfl, wpS.done (h := h1) w1 ((er1.set ru i).set rv j) hr1⟩
    | [], w1 => exact w1.elim
    | [_], w1 => exact w1.elim
    | _ :: _ :: _ :: _, w1 => exact w1.elim⟩)
theorem zBv {op : Operator} {r : R2} {f : D -> D -> ME D} (hN : X.N.Nodup) (hi : X.N[i]? = some x) (hx : Loc X.env.scope x) (ho : OpR X (inplaceOp op) r) (hf : OpM W G f r) (ha : JE X e (tE W G ma))
    (hfn : X.fn x = true ∨ X.env.scope.names.lookup x = some .local) : JS X (.AugAssign (.Name x p) op e pos) (tS W G (zha f i ma)) :=
  .of (zdt (zDO (ti := r) hN hi hx ha.to ho hfn) fun E σ H ⟨F, ρ, env, h, er, hr, w⟩ => by
    have w' : wp F W G rV env σ ρ H ((zn (var i) fun x => zn ma fun y => f x y) env h) (fun z H2 => E.nx (σ.set i (some z)) H2) := zc6 w fun x h1 ρ1 H1 y e1 er1 hr1 r1 w1 => wpS.done (h := h1) w1 (er1.set r1 i) hr1
    unfold zn var at w'
    cases ev : env[i]? with
    | none => simp only [ev] at w'; exact w'.elim
    | some od =>
      cases od with
      | none => simp only [ev] at w'; exact w'.elim
      | some d =>
        simp only [ev] at w'
        obtain ⟨v, h1, h2⟩ := er.all i d ev
        refine ⟨v, h1, F, ρ, env, h, er, hr, zG (k := fun y => f d y) w' fun y h1 ρ1 H1 u e1 er1 hr1 r1 w1 => ?_⟩
        exact hf F ρ1 h1 H1 env σ d y v u _ er1 hr1 (RD.ext e1 _ _ h2) r1 w1)
theorem zD3 (hN : X.N.Nodup) (hi : X.N[i]? = some x) (hx : Loc X.env.scope x) (ha : JE X e (tE W G ma)) (hfn : X.fn x = true ∨ X.env.scope.names.lookup x = some .local := by first | exact .inl rfl | exact .inr rfl | assumption) :
    JS X (.AugAssign (.Name x p) .Add e pos) (tS W G (zha zK i ma)) := zBv hN hi hx zDD zsn ha hfn
theorem FRs.length {C : Addr} : ∀ {fs : List (Nat × D)} {vs : List (Str × V)}, FRs G ρ H C fs vs -> vs.length = fs.length
  | [], vs, r => by unfold FRs at r; subst r; rfl
  | p :: fs, vs, r => by
    unfold FRs at r
    obtain ⟨g, v, q, rfl, h1, h2, h3, h4⟩ := r
    simp [FRs.length h4]
theorem zhz {sub att : Nat -> Nat -> Bool} {kk : Nat} {f : Str} (ok : G.Ok sub att) (hf : G.an[kk]? = some f) (ho : JE X o (tE W G mo)) (ha : JE X e (tE W G ma)) (hs : swapsWith e (some (.Attribute o f p)) pos.line X.env = pure false) (hK : X.K = G.K := by rfl) :
    JS X (.Assign [.Attribute o f p] e pos) (tS W G (zfG att kk mo ma)) :=
  .of (zdt (zDk ho.to ha.to hs) fun E σ H ⟨F, ρ, env, h, er, hr, w⟩ => ⟨F, ρ, env, h, er, hr, zc6 w fun y h1 ρ1 H1 vy e1 er1 hr1 r1 w1 => ⟨F, ρ1, env, h1, er1, hr1, zc6 w1 fun x h2 ρ2 H2 vx e2 er2 hr2 r2 w2 => by
    have r1 : RD ρ2 H2 y vy := RD.ext e2 _ _ r1
    have r2 : RD ρ2 H2 x vx := r2
    cases x with
    | obj n =>
      dsimp only at w2
      cases qo : h2[n]? with
      | none => rw [qo] at w2; exact w2.elim
      | some o =>
        rw [qo] at w2
        cases o with
        | ins c fs =>
          dsimp only at w2
          obtain ⟨q, C, dx, vs, rfl, eq, hC, hq, rs⟩ := hr2.ins r2 qo
          by_cases hl : (att c kk && decide (fs.length < 100)) = true
          . rw [if_pos hl] at w2
            rw [Bool.and_eq_true, decide_eq_true_eq] at hl
            have hn := ok.noat c C kk f hC hl.1 hf
            refine ⟨q, C, dx, vs, rfl, hq, by rw [hK]; exact (ok.cls c C hC).1, by rw [hK]; exact hn, by rw [rs.length]; omega, ?_⟩
            have tp : Ext (fun _ => False) ρ2 ρ2 H2 (upd H2 q (.ins C dx (zcx f vy vs))) := by
              refine ⟨⟨[], by simp⟩, fun b xs z => ?_, fun _ z => z.elim⟩
              rw [zD]
              . exact z
              . intro zz; subst zz; rw [hq] at z; cases z
            obtain ⟨ex, hr'⟩ := hr2.write (o1 := .ins c (zfj kk y fs)) (u := .ins C dx (zcx f vy vs)) qo eq rfl rfl hq trivial ⟨C, dx, _, hC, zbN, FRs.put ok.nd hf hn (RD.ext tp _ _ r1) (rs.map fun p _ v => RD.ext tp _ _)⟩
            exact w2 ρ2 _ σ ex (er2.ext ex) hr'
          . rw [if_neg hl] at w2; exact w2.elim
        | _ => exact w2.elim
    | _ => exact w2.elim⟩⟩)
def zAR : zhQ := fun o i v H Q => ∃ a H', o = .ref a ∧ zhA H a i v H' ∧ Q H'
theorem zCk (hr : zR k X.A) : zg1 X zAR := fun pins s σ H o i v ov iv u Q I ro ri rv ⟨a, H', e, g, q⟩ => by
  subst e; cases ro
  exact zAG (zi9 hr) I g ri rv fun s' I' => ⟨H', I', q⟩
theorem zBs {t t' : zhQ} (h : zg1 X t) (h' : zg1 X t') : zg1 X (fun o i v H Q => t o i v H Q ∨ t' o i v H Q) := fun pins s σ H o i v ov iv u Q I ro ri rv q => by
  rcases q with q | q
  . exact h pins s σ H o i v ov iv u Q I ro ri rv q
  . exact h' pins s σ H o i v ov iv u Q I ro ri rv q
theorem KRs.any {kk : Int} : ∀ {kvs : List (Int × D)} {vs : List (Key × V)}, KRs ρ H kvs vs -> (kvs.any fun p => decide (p.1 = kk)) = (vs.any fun kv => decide (kv.1 = (Sum.inl kk : Key)))
  | [], vs, r => by unfold KRs at r; subst r; rfl
  | p :: kvs, vs, r => by
    unfold KRs at r
    obtain ⟨u, q, rfl, r1, r2⟩ := r
    rw [List.any_cons, List.any_cons, KRs.any r2]
    congr 1
    exact decide_eq_decide.mpr ⟨fun z => by rw [z], fun z => Sum.inl.inj z⟩
theorem KRs.repl {kk : Int} {d : D} {v : V} (rd : RD ρ H d v) : ∀ {kvs : List (Int × D)} {vs : List (Key × V)}, KRs ρ H kvs vs -> KRs ρ H (kvs.map fun p => if p.1 = kk then (p.1, d) else p) (vs.map fun kv => if kv.1 = Sum.inl kk then (kv.1, v) else kv)
  | [], vs, r => by unfold KRs at r; subst r; simp [KRs]
  | p :: kvs, vs, r => by
    unfold KRs at r
    obtain ⟨u, q, rfl, r1, r2⟩ := r
    rw [List.map_cons, List.map_cons]
    unfold KRs
    by_cases e : p.1 = kk
    . rw [if_pos e, if_pos (by rw [e])]
      exact ⟨v, _, rfl, rd, KRs.repl rd r2⟩
    . rw [if_neg e, if_neg (fun z => e (Sum.inl.inj z))]
      exact ⟨u, _, rfl, r1, KRs.repl rd r2⟩
theorem KRs.snoc {kk : Int} {d : D} {v : V} (rd : RD ρ H d v) : ∀ {kvs : List (Int × D)} {vs : List (Key × V)}, KRs ρ H kvs vs -> KRs ρ H (kvs ++ [(kk, d)]) (vs ++ [(Sum.inl kk, v)])
  | [], vs, r => by
    unfold KRs at r; subst r
    show KRs ρ H [(kk, d)] [(Sum.inl kk, v)]
    unfold KRs
    exact ⟨v, [], rfl, rd, by unfold KRs; rfl⟩
  | p :: kvs, vs, r => by
    unfold KRs at r
    obtain ⟨u, q, rfl, r1, r2⟩ := r
    rw [List.cons_append, List.cons_append]
    unfold KRs
    exact ⟨u, _, rfl, r1, KRs.snoc rd r2⟩
theorem KRs.put {kk : Int} {d : D} {v : V} (rd : RD ρ H d v) {kvs : List (Int × D)} {vs : List (Key × V)} (r : KRs ρ H kvs vs) : KRs ρ H (zfh kk d kvs) (zdg vs (Sum.inl kk) v) := by
  unfold zfh zdg
  rw [r.any]
  by_cases e : (vs.any fun kv => decide (kv.1 = (Sum.inl kk : Key))) = true
  . rw [if_pos e, if_pos e]; exact r.repl rd
  . rw [if_neg e, if_neg e]; exact r.snoc rd
theorem KRs.length : ∀ {kvs : List (Int × D)} {vs : List (Key × V)}, KRs ρ H kvs vs -> kvs.length = vs.length
  | [], vs, r => by unfold KRs at r; subst r; rfl
  | p :: kvs, vs, r => by
    unfold KRs at r
    obtain ⟨u, q, rfl, r1, r2⟩ := r
    simp [KRs.length r2]
theorem zpU (rm : zR k X.A) (ho : JE X o (tE W G mo)) (hb : JE X b (tE W G mb)) (ha : JE X e (tE W G ma)) (hs : swapsWithSole [.Subscript o b p] e pos.line X.env = pure false := by rfl) (hw : swappedStores [.Subscript o b p] e X.env = pure none := by rfl)
    (h1 : (assignEach [.Subscript o b p] X.env).map (·.2) = [assign (.Subscript o b p) X.env] := by rfl)
    (hq : ∀ v, assign (.Subscript o b p) X.env v = (do
      let ov <- holding [v] (eval o X.env)
      let iv <- holding [v, ov] (eval b X.env)
      standAt p
      holding [v, ov, iv] (setItem ov iv v)
      release [v, ov, iv] []) := by intro _; rfl) : JS X (.Assign [.Subscript o b p] e pos) (tS W G (zfq mo mb ma)) :=
  .of (zdt (zsO ha.to (zD5 ho.to hb.to (zBs zAD (zCk rm)) hq) hs hw h1) fun E σ H ⟨F, ρ, env, h, er, hr, w⟩ => ⟨F, ρ, env, h, er, hr, zc6 w fun y h1 ρ1 H1 vy e1 er1 hr1 r1 w1 => ⟨F, ρ1, env, h1, er1, hr1, zc6 w1 fun x h2 ρ2 H2 vx e2 er2 hr2 r2 w2 => ⟨F, ρ2, env, h2, er2, hr2, zc6 w2 fun z h3 ρ3 H3 vz e3 er3 hr3 r3 w3 => by
    have r1 : RD ρ3 H3 y vy := RD.ext (e2.trans e3) _ _ r1
    have r2 : RD ρ3 H3 x vx := RD.ext e3 _ _ r2
    have r3 : RD ρ3 H3 z vz := r3
    cases x with
    | obj n =>
      cases z with
      | int j =>
        unfold RD at r3
        dsimp only at w3
        cases qo : h3[n]? with
        | none => rw [qo] at w3; exact w3.elim
        | some o =>
          rw [qo] at w3
          cases o with
          | lst xs =>
            dsimp only at w3
            obtain ⟨q, vs, rfl, eq, hq, rs⟩ := hr3.lst r2 qo
            cases ej : ixN xs.length j with
            | none => rw [ej] at w3; exact w3.elim
            | some jj =>
              rw [ej] at w3
              refine .inl ⟨q, vs, j, jj, rfl, r3, hq, by rw [<- rs.length]; exact ej, ?_⟩
              have tp : Ext (fun _ => False) ρ3 ρ3 H3 (upd H3 q (.lst (vs.set jj vy))) := by
                refine ⟨⟨[], by simp⟩, fun b xs z => ?_, fun _ z => z.elim⟩
                rw [zD]
                . exact z
                . intro zz; subst zz; rw [hq] at z; cases z
              obtain ⟨ex, hr'⟩ := hr3.write (o1 := .lst (xs.set jj y)) (u := .lst (vs.set jj vy)) qo eq rfl rfl hq trivial ⟨_, zbN, RDs.ext tp _ _ (RDs.set r1 jj rs)⟩
              exact w3 ρ3 _ σ ex (er3.ext ex) hr'
          | dic kvs =>
            dsimp only at w3
            obtain ⟨q, vs, rfl, eq, hq, rs⟩ := hr3.dic r2 qo
            by_cases hl : kvs.length < 1000000
            . rw [if_pos hl] at w3
              subst r3
              refine .inr ⟨q, _, rfl, zhA.k (k := Sum.inl j) hq (by rw [<- rs.length, sizeLine_eq]; omega), ?_⟩
              have tp : Ext (fun _ => False) ρ3 ρ3 H3 (upd H3 q (.dK (zdg vs (Sum.inl j) vy))) := by
                refine ⟨⟨[], by simp⟩, fun b xs z => ?_, fun _ z => z.elim⟩
                rw [zD]
                . exact z
                . intro zz; subst zz; rw [hq] at z; cases z
              obtain ⟨ex, hr'⟩ := hr3.write (o1 := .dic (zfh j y kvs)) (u := .dK (zdg vs (Sum.inl j) vy)) qo eq rfl rfl hq trivial ⟨_, zbN, KRs.put (RD.ext tp _ _ r1) (rs.map fun p _ v => RD.ext tp _ _)⟩
              exact w3 ρ3 _ σ ex (er3.ext ex) hr'
            . rw [if_neg hl] at w3; exact w3.elim
          | _ => exact w3.elim
      | _ => exact w3.elim
    | _ => cases z <;> exact w3.elim⟩⟩⟩)
end
end MI
end
section
namespace MI
open PySem PySem.Spec L2
def zfU (G : GP) (F : Addr -> Prop) (ρ : List Addr) (H : Hp) (J : It) (p : Src) : Prop :=
  ∀ (F' : Addr -> Prop) (ρ' : List Addr) (h' : MH) (H' : Hp) (i : Nat), Ext F ρ ρ' H H' -> HR F' G ρ' h' H' -> guard p.2 h' = true ->
    (∀ d, p.1[i]? = some d -> J.go i H' ∧ ∀ x H2, J.yld i H' x H2 -> Ext F' ρ' ρ' H' H2 ∧ HR F' G ρ' h' H2 ∧ RD ρ' H2 d x) ∧ (p.1.length <= i -> J.stop i H')
def rI (G : GP) : RL Src It := fun F ρ _ H p J => zfU G F ρ H J p
abbrev tI (W : Nat -> Hp -> Prop) (G : GP) (m : ME Src) : TI := tG W G (rI G) m
section
variable {W : Nat -> Hp -> Prop} {X : Cx} {F : Addr -> Prop} {G : GP} {env : zA} {σ : L2.St} {ρ : List Addr} {H : Hp} {h : MH} {a b c e o tg : Expr} {ma mb : ME D} {pos p p1 : Pos} {k : Nat}
theorem ztp {n : Nat} {ob : O} {gs : List (Nat × O)} (g : guard gs h = true) (hm : (n, ob) ∈ gs) : h[n]? = some ob := by
  unfold guard at g
  rw [List.all_eq_true] at g
  exact of_decide_eq_true (g (n, ob) hm)
theorem zA1 {n : Nat} {q : Addr} {xs : List D} (hK : X.K = G.K) (eq : ρ[n]? = some q) : zfU G F ρ H (Itl X.K q) (xs, [(n, .lst xs)]) := by
  intro F' ρ' h' H' i ex hr g
  have e := ztp g (List.mem_singleton.mpr rfl)
  have eq' := ex.get eq
  obtain ⟨vs, hq, rs⟩ := hr.at e eq'
  refine ⟨fun d hd => ?_, fun hl => ⟨vs, SqL.of hq, by rw [<- rs.length]; exact hl⟩⟩
  obtain ⟨v, e1, e2⟩ := rs.get hd
  refine ⟨⟨vs, v, SqL.of hq, e1⟩, fun x H2 ⟨y1, y2⟩ => ?_⟩
  subst y1
  have := y2 vs (SqL.of hq)
  rw [e1] at this; cases this
  exact ⟨Ext.refl, hr, e2⟩
theorem zdf (ha : JE X a (tE W G ma)) (hK : X.K = G.K := by rfl) : JI X tg a (tI W G (itL ma)) :=
  .of (zqh (zBj ha.to) fun σ H Q ⟨F, ρ, env, h, er, hr, w⟩ => ⟨F, ρ, env, h, er, hr, zG w fun x h1 ρ1 H1 y e1 er1 hr1 r1 w1 => by
    cases x with
    | obj n =>
      simp only [ziZ] at w1
      cases qo : h1[n]? with
      | none => rw [qo] at w1; exact w1.elim
      | some o =>
        rw [qo] at w1
        cases o with
        | lst xs =>
          obtain ⟨q, vs, rfl, eq, hq, rs⟩ := hr1.lst r1 qo
          exact ⟨q, rfl, ⟨vs, SqL.of hq⟩, w1.done er1 hr1 (zA1 hK eq)⟩
        | _ => exact w1.elim
    | _ => exact w1.elim⟩)
theorem ziY (hg : Gl X "range") (hm : X.mg "range" = none) (ha : JE X a (tE W G ma)) (hs : starEach [a] X.env = (false, eval a X.env) :: starEach [] X.env) : JI X tg (.Call (.Name "range" p) [a] [] pos) (tI W G (itR ma)) :=
  .of (zqh (zCJ hg hm (zcP ha.to zdd hs) (hs.trans (by rfl))) fun σ H Q ⟨F, ρ, env, h, er, hr, w⟩ => zeZ ⟨F, ρ, env, h, er, hr, zG w fun x h1 ρ1 H1 y e1 er1 hr1 r1 w1 => by
    have r1 : RD ρ1 H1 x y := r1
    cases x with
    | int i =>
      unfold RD at r1
      subst r1
      by_cases hl : -1000000 <= i ∧ i <= 1000000
      . dsimp only at w1
        rw [if_pos hl] at w1
        refine ⟨i, rfl, by omega, by omega, w1 ρ1 H1 (Itr 0 i.toNat) Ext.refl er1 hr1 ?_⟩
        intro F' ρ' h' H' j _ hr' _
        refine ⟨fun d hd => ?_, fun hj => by rw [List.length_map, List.length_range] at hj; exact hj⟩
        have hj : j < i.toNat := by
          have := (List.getElem?_eq_some_iff.mp hd).1
          simpa using this
        refine ⟨hj, fun x H2 ⟨y1, y2⟩ => ?_⟩
        subst y1 y2
        rw [List.getElem?_map, List.getElem?_range hj] at hd
        cases hd
        exact ⟨Ext.refl, hr', by unfold RD; simp⟩
      . dsimp only at w1
        rw [if_neg hl] at w1; exact w1.elim
    | _ => exact w1.elim⟩)
variable {mt : ME Bool} {m1 : MS} {bd : List Stmt} {E : zeV} {r : RS} {kk : MS}
theorem zs4 {N : L2.St -> Hp -> Prop} (w : wpS F W G ρ H (zfL r kk) E) (f : ∀ e1 h1 ρ1 H1 σ1, Ext F ρ ρ1 H H1 -> z6 ρ1 H1 e1 σ1 -> HR F G ρ1 h1 H1 -> wpS F W G ρ1 H1 (kk e1 h1) E -> N σ1 H1) : wpS F W G ρ H r { E with nx := N, ct := N, bk := E.nx } := by
  cases r with
  | nx e1 h1 => exact fun ρ1 H1 σ1 ex er hr => f e1 h1 ρ1 H1 σ1 ex er hr (wpS.mono (r := kk e1 h1) w ex)
  | ct e1 h1 => exact fun ρ1 H1 σ1 ex er hr => f e1 h1 ρ1 H1 σ1 ex er hr (wpS.mono (r := kk e1 h1) w ex)
  | bk e1 h1 => exact w
  | rt v h1 => exact w
  | ex c h1 => exact w
  | bad => exact w
theorem zsE (hp : PassesOwn (model X.prog X.w) X.A X.env X.xe) (hc : JT X c (tT W G mt)) (hb : JSs X bd (tS W G m1)) : JS X (.While c bd [] pos) (tS W G (zhO mt m1)) :=
  .of (zdt (zEQ hp hc.to hb.to) fun E σ H ⟨F, ρ, env, h, er, hr, w⟩ => by
    refine ⟨fun n σ H => ∃ ρ env h, z6 ρ H env σ ∧ HR F G ρ h H ∧ wpS F W G ρ H (zfI mt m1 n env h) E, ⟨1000000, ρ, env, h, er, hr, w⟩, ?_⟩
    rintro n σ H ⟨ρ, env, h, er, hr, w⟩
    cases n with
    | zero => exact w.elim
    | succ n =>
      refine ⟨F, ρ, env, h, er, hr, zc6 w fun x h1 ρ1 H1 y e1 er1 hr1 r1 w1 => ?_⟩
      obtain rfl : x = y := r1
      cases x with
      | true =>
        rw [if_pos rfl] at w1 ⊢
        exact ⟨_, fun σ' H' z => z, F, ρ1, env, h1, er1, hr1, zs4 w1 fun e2 h2 ρ2 H2 σ2 ex2 er2 hr2 w2 => ⟨n, Nat.lt_succ_self n, ρ2, e2, h2, er2, hr2, w2⟩⟩
      | false =>
        rw [if_neg (by decide)] at w1 ⊢
        exact wpS.done (h := h1) w1 er1 hr1)
variable {ms : ME Src} {t : Tg} {iter : Expr}
theorem zty {p : Src} {J : It} {ρ1 : List Addr} {H1 : Hp} {h1 : MH} (src : zfU G F ρ1 H1 J p) (er1 : z6 ρ1 H1 env σ) (hr1 : HR F G ρ1 h1 H1) (w1 : wpS F W G ρ1 H1 (zde t p.2 m1 p.1 env h1) E) :
    ∃ Wv : Nat -> Nat -> L2.St -> Hp -> Prop, (∃ m, Wv 0 m σ H1) ∧ ∀ i m σ H, Wv i m σ H ->
      (J.stop i H ∧ E.nx σ H) ∨ (J.go i H ∧ ∃ N : L2.St -> Hp -> Prop, (∀ σ' H', N σ' H' -> ∃ m', m' < m ∧ Wv (i + 1) m' σ' H') ∧ ∀ x H', J.yld i H x H' -> tTg G t x σ H' fun σ2 H2 => tS W G m1 { E with nx := N, ct := N, bk := E.nx } σ2 H2) := by
  refine ⟨fun i m σ H => ∃ ρ env h, Ext F ρ1 ρ H1 H ∧ z6 ρ H env σ ∧ HR F G ρ h H ∧ m = p.1.length - i ∧ i <= p.1.length ∧ wpS F W G ρ H (zde t p.2 m1 (p.1.drop i) env h) E, ⟨p.1.length, ρ1, env, h1, Ext.refl, er1, hr1, by simp, Nat.zero_le _, by simpa using w1⟩, ?_⟩
  rintro i m σ H ⟨ρ, env, h, ex, er, hr, rfl, hi, w⟩
  by_cases hlt : i < p.1.length
  . right
    have ed : p.1.drop i = p.1[i] :: p.1.drop (i + 1) := List.drop_eq_getElem_cons hlt
    rw [ed] at w
    simp only [zde] at w
    by_cases g : guard p.2 h = true
    . rw [if_pos g] at w
      obtain ⟨s1, _⟩ := src F ρ h H i ex hr g
      obtain ⟨go, yl⟩ := s1 p.1[i] (List.getElem?_eq_getElem hlt)
      refine ⟨go, _, fun σ' H' z => z, fun x H' hy => ?_⟩
      obtain ⟨ex2, hr2, rd⟩ := yl x H' hy
      cases eb : zdS t p.1[i] env with
      | none => rw [eb] at w; exact w.elim
      | some env1 =>
        rw [eb] at w
        refine ⟨F, ρ, env, h, p.1[i], env1, er.ext ex2, hr2, rd, eb, fun σ1 er3 => ⟨F, ρ, env1, h, er3, hr2, zs4 (wpS.mono (r := zfL (m1 env1 h) (zde t p.2 m1 (p.1.drop (i + 1)))) w ex2) fun e4 h4 ρ4 H4 σ4 ex4 er4 hr4 w4 => ?_⟩⟩
        exact ⟨p.1.length - (i + 1), by omega, ρ4, e4, h4, (ex.trans ex2).trans ex4, er4, hr4, rfl, hlt, w4⟩
    . rw [if_neg g] at w; exact w.elim
  . left
    have ei : i = p.1.length := by omega
    rw [List.drop_eq_nil_of_le (by omega)] at w
    simp only [zde] at w
    by_cases g : guard p.2 h = true
    . rw [if_pos g] at w
      exact ⟨(src F ρ h H i ex hr g).2 (by omega), w.done er hr⟩
    . rw [if_neg g] at w; exact w.elim
theorem zfS (hp : PassesOwn (model X.prog X.w) X.A X.env X.xe) (hi : JI X tg iter (tI W G ms)) (hg : JG X tg (tTg G t)) (hb : JSs X bd (tS W G m1)) (hc : X.calm = true := by rfl) (hs : ∀ x, foldedSetIterable iter X.env x = pure x := by intro _; rfl) :
    JS X (.For tg iter bd [] pos) (tS W G (zdP t ms m1)) :=
  .of (zdt (zto hp hc hi.to hg.to hb.to hs) fun E σ H ⟨F, ρ, env, h, er, hr, w⟩ => ⟨F, ρ, env, h, er, hr, zc6 w fun p h1 ρ1 H1 J e1 er1 hr1 src w1 => zty src er1 hr1 w1⟩)
theorem zti {α β γ δ : Type} {Rl : RL α β} {Rl' : RL γ δ} {F' : Addr -> Prop} {env1 : zA} {σ1 : L2.St} (sub : ∀ b, F b -> F' b) {m : ME α} {k : α -> ME γ} {Q : δ -> Hp -> Prop} {P : β -> Hp -> Prop} (w : wp F W G Rl' env σ ρ H (zn m k env1 h) Q)
    (f : ∀ x h1 ρ1 H1 y, Ext F' ρ ρ1 H H1 -> z6 ρ1 H1 env1 σ1 -> HR F' G ρ1 h1 H1 -> Rl F' ρ1 h1 H1 x y -> wp F W G Rl' env σ ρ1 H1 (k x env1 h1) Q -> P y H1) : wp F' W G Rl env1 σ1 ρ H (m env1 h) P := by
  unfold zn at w
  cases e : m env1 h with
  | ok v h1 =>
    rw [e] at w
    exact fun ρ1 H1 y ex er hr rl => f v h1 ρ1 H1 y ex er hr rl (w.mono (ex.sub sub))
  | ex c h1 => rw [e] at w; exact fun ρ1 H1 ex hr => w ρ1 H1 (ex.sub sub) (hr.sub sub)
  | bad => rw [e] at w; exact w
theorem zEB {js : List (Option Nat)} (er : z6 ρ H env σ) : z6 ρ H (zbT js env) (zgv js σ) := by
  refine ⟨by simp [zbT, zgv], fun i d e => ?_⟩
  unfold zbT at e
  unfold zgv
  rw [List.getElem?_map] at e ⊢
  cases ej : js[i]? with
  | none => rw [ej] at e; cases e
  | some j =>
    rw [ej] at e
    cases j with
    | none => cases e
    | some kk =>
      have e2 : (env[kk]?).join = some d := Option.some.inj e
      cases ek : env[kk]? with
      | none => rw [ek] at e2; cases e2
      | some od =>
        rw [ek] at e2
        have e3 : od = some d := e2
        subst e3
        obtain ⟨v, h1, h2⟩ := er.all kk d ek
        refine ⟨v, ?_, h2⟩
        show some ((σ[kk]?).join) = _
        rw [h1]; rfl
variable {N : List Str} {js : List (Option Nat)} {scope : Scope} {elt : Expr} {ifs : List Expr} {cond : ME Bool} {me : ME D}
theorem zrT {t : Tg} {Q : VK} {p : Src} {J : It} {ρ1 : List Addr} {H1 : Hp} {h1 : MH} (hlen : p.1.length <= 1000000) (src : zfU G F ρ1 H1 J p) (er1 : z6 ρ1 H1 env σ) (hr1 : HR F G ρ1 h1 H1) (w1 : wp F W G (rN G.K) env σ ρ1 H1 (zbW t p.2 cond me p.1 [] (zbT js env) h1) Q) (D : Addr) (hD : H1 D = none) :
    zqg J (tTg G t) (tT W G cond) (tE W G me) D σ H1 js Q := by
  have nF : ¬ F D := (hr1.fresh hD).1
  have hr1' : HR F G ρ1 h1 (upd H1 D (.lst [])) := hr1.new hD
  have frD := hr1.fresh hD
  refine ⟨fun i m σ' H' => ∃ ρ' env' h' acc vs, Ext F ρ1 ρ' H1 H' ∧ z6 ρ' H' env' σ' ∧ HR F G ρ' h' H' ∧ H' D = some (.lst vs) ∧ zfQ F ρ' h' D ∧ RDs ρ' H' acc vs ∧ acc.length <= i ∧ m = p.1.length - i ∧ i <= p.1.length ∧
    wp F W G (rN G.K) env σ ρ' H' (zbW t p.2 cond me (p.1.drop i) acc env' h') Q, ⟨p.1.length, ρ1, zbT js env, h1, [], [], zcR hr1 hD, zEB (er1.ext (zcR hr1 hD)), hr1', zbN, frD, RDs.nil, Nat.le_refl _, by simp, Nat.zero_le _, by simpa using w1.mono (zcR hr1 hD)⟩, ?_⟩
  rintro i m σ' H' ⟨ρ', env', h', acc, vs, ex, er', hr', hD', fr, rs, hal, rfl, hi, w⟩
  have sub : ∀ b, F b -> (F b ∨ b = D) := fun b hb => .inl hb
  have hrF : HR (fun b => F b ∨ b = D) G ρ' h' H' := ⟨fun b hb => by
    rcases hb with hb | rfl
    . exact hr'.pro b hb
    . exact ⟨⟨_, hD'⟩, fr.2⟩, hr'.nd, hr'.len, hr'.all⟩
  by_cases hlt : i < p.1.length
  . right
    have ed : p.1.drop i = p.1[i] :: p.1.drop (i + 1) := List.drop_eq_getElem_cons hlt
    rw [ed] at w
    simp only [zbW] at w
    by_cases g : guard p.2 h' = true
    . rw [if_pos g] at w
      obtain ⟨s1, _⟩ := src _ ρ' h' H' i ex hrF g
      obtain ⟨go, yl⟩ := s1 p.1[i] (List.getElem?_eq_getElem hlt)
      refine ⟨go, fun x H2 hy => ?_⟩
      obtain ⟨ex2, hr2, rd⟩ := yl x H2 hy
      cases eb : zdS t p.1[i] env' with
      | none => rw [eb] at w; exact w.elim
      | some env1 =>
        rw [eb] at w
        refine ⟨_, ρ', env', h', p.1[i], env1, er'.ext ex2, hr2, rd, eb, fun σ2 er3 => ⟨_, ρ', env1, h', er3, hr2, zti sub (w.mono (ex2.sub sub)) fun b h3 ρ3 H3 b' ex3 er3' hr3 rb w3 => ?_⟩⟩
        obtain rfl : b = b' := rb
        have hD3 : H3 D = some (.lst vs) := by rw [ex3.frm D (.inr rfl), ex2.frm D (.inr rfl)]; exact hD'
        cases b with
        | true =>
          rw [if_pos rfl] at w3 ⊢
          refine ⟨_, ρ3, env1, h3, er3', hr3, zti sub w3 fun y h4 ρ4 H4 vy ex4 er4 hr4 ry w4 => ?_⟩
          have hD4 : H4 D = some (.lst vs) := by rw [ex4.frm D (.inr rfl)]; exact hD3
          have fr4 : zfQ F ρ4 h4 D := ⟨nF, (hr4.pro D (.inr rfl)).2⟩
          have exA : Ext F ρ' ρ4 H' H4 := ((ex2.trans ex3).trans ex4).sub sub
          have rs4 : RDs ρ4 H4 acc vs := RDs.ext exA _ _ rs
          obtain ⟨ex5, hr5⟩ := (hr4.sub sub).upd_free (ys := vs ++ [vy]) fr4 hD4
          refine ⟨vs, hD4, by have := rs.length; rw [sizeLine_eq]; omega, p.1.length - (i + 1), by omega, ρ4, env1, h4, acc ++ [y], vs ++ [vy], (ex.trans exA).trans ex5, er4.ext ex5, hr5, zbN, fr4, RDs.ext ex5 _ _ (rs4.snoc ry), by simp; omega, rfl, hlt, w4.mono ex5⟩
        | false =>
          rw [if_neg (by decide)] at w3 ⊢
          have exA : Ext F ρ' ρ3 H' H3 := (ex2.trans ex3).sub sub
          exact ⟨p.1.length - (i + 1), by omega, ρ3, env1, h3, acc, vs, ex.trans exA, er3', hr3.sub sub, hD3, ⟨nF, (hr3.pro D (.inr rfl)).2⟩, RDs.ext exA _ _ rs, by omega, rfl, hlt, w3⟩
    . rw [if_neg g] at w; exact w.elim
  . left
    rw [List.drop_eq_nil_of_le (by omega)] at w
    simp only [zbW] at w
    by_cases g : guard p.2 h' = true
    . rw [if_pos g] at w
      exact ⟨(src F ρ' h' H' i ex hr' g).2 (by omega), w.done (er1.ext ex) hr' ⟨D, vs, rfl, hD', fr, rs⟩⟩
    . rw [if_neg g] at w; exact w.elim
theorem ztf {t : Tg} {Q : VK} (w : tN W G (zb9 js t ms cond me) σ H Q) : ziO js (tI W G ms) (tTg G t) (tT W G cond) (tE W G me) σ H Q := by
  obtain ⟨F, ρ, env, h, er, hr, w⟩ := w
  refine ⟨F, ρ, env, h, er, hr, zG w fun p h1 ρ1 H1 J e1 er1 hr1 src w1 => fun D hD => ?_⟩
  by_cases hlen : p.1.length <= 1000000
  . rw [if_pos hlen] at w1
    exact zrT hlen src er1 hr1 w1 D hD
  . rw [if_neg hlen] at w1; exact w1.elim
theorem zev : zez X [] (tT W G zbL) := .of (fun pins s σ H Q I ⟨F, ρ, env, h, er, hr, w⟩ => zBf pins s σ H Q I (wp.done (h := h) w er hr rfl))
theorem zAA (hc : JT X c (tT W G cond)) : zez X [c] (tT W G cond) := .of (zDM hc.to)
theorem zeY {t : Tg} (hc : X.calm = true) (S : zbX X scope N js) (hi : JI X tg iter (tI W G ms)) (hg : ∀ cl s₀ H₀ fp, JG (zcg X scope N cl s₀ H₀ fp) tg (tTg G t)) (hf : ∀ cl s₀ H₀ fp, zez (zcg X scope N cl s₀ H₀ fp) ifs (tT W G cond))
    (he : ∀ cl s₀ H₀ fp, JE (zcg X scope N cl s₀ H₀ fp) elt (tE W G me)) (hs : ∀ x, foldedSetIterable iter X.env x = pure x := by intro _; rfl) : JE X (.ListComp elt [⟨tg, iter, ifs, 0⟩] scope pos) (tN W G (zb9 js t ms cond me)) :=
  .of (z3 (ztg hc S hi.to ⟨fun cl s₀ H₀ fp => ⟨(hg cl s₀ H₀ fp).to, (hf cl s₀ H₀ fp).to, (he cl s₀ H₀ fp).to⟩⟩ hs) fun σ H Q w => ztf w)
theorem zsa {t : Tg} {j : Nat} {y : Str} {py spos : Pos} (hc : X.calm = true) (hN : X.N.Nodup) (hj : X.N[j]? = some y) (hy : X.env.scope.names.lookup y = some .local) (S : zbX X scope N js) (hi : JI X tg iter (tI W G ms))
    (hg : ∀ cl s₀ H₀ fp, JG (zcg X scope N cl s₀ H₀ fp) tg (tTg G t)) (hf : ∀ cl s₀ H₀ fp, zez (zcg X scope N cl s₀ H₀ fp) ifs (tT W G cond)) (he : ∀ cl s₀ H₀ fp, JE (zcg X scope N cl s₀ H₀ fp) elt (tE W G me))
    (hsw : swapsWith (.ListComp elt [⟨tg, iter, ifs, 0⟩] scope pos) (some (.Name y py)) spos.line X.env = pure true := by rfl) (hs : ∀ x, foldedSetIterable iter X.env x = pure x := by intro _; rfl) :
    JS X (.Assign [.Name y py] (.ListComp elt [⟨tg, iter, ifs, 0⟩] scope pos) spos) (tS W G (zl (.nm j) (zN (zb9 js t ms cond me)))) :=
  .of (zdt (zAe hc hN hj hy S hi.to ⟨fun cl s₀ H₀ fp => ⟨(hg cl s₀ H₀ fp).to, (hf cl s₀ H₀ fp).to, (he cl s₀ H₀ fp).to⟩⟩ hsw hs) fun E σ H ⟨F, ρ, env, h, er, hr, w⟩ => ztf ⟨F, ρ, env, h, er, hr, by
    have w' : wp F W G rV env σ ρ H (zN (zb9 js t ms cond me) env h) (fun z H2 => E.nx (σ.set j (some z)) H2) := zc6 w fun x h1 ρ1 H1 y e1 er1 hr1 r1 w1 => wpS.done (h := h1) w1 (er1.set r1 j) hr1
    exact zG w' fun xs h1 ρ1 H1 y e1 er1 hr1 ⟨q, vs, ey, hq, fr, rs⟩ w1 => by subst ey; exact zs1 w1 er1 hr1 hq fr rs⟩)
end
end MI
end
section
namespace MI
open PySem PySem.Spec L2
def O.bd (n : Nat) : O -> Prop
  | .lst xs => bds n xs
  | .scr xs => bds n xs
  | .dic kvs => ∀ p ∈ kvs, p.2.bd n
  | .hole => True
  | .set _ => True
  | .ins _ fs => ∀ p ∈ fs, p.2.bd n
section
variable {F : Addr -> Prop} {G : GP} {ρ ρ1 ρ2 ρ' : List Addr} {H H1 H2 : Hp} {h h1 h2 : MH} {a : Addr} {o : O} {n : Nat}
theorem KRs.mem {kvs : List (Int × D)} : ∀ {vs : List (Key × V)}, KRs ρ H kvs vs -> ∀ p ∈ kvs, ∃ v, RD ρ H p.2 v := by
  induction kvs with
  | nil => intro vs r p hp; cases hp
  | cons q kvs ih =>
    intro vs r p hp
    unfold KRs at r
    obtain ⟨v, w, rfl, r1, r2⟩ := r
    rcases List.mem_cons.mp hp with rfl | hp
    . exact ⟨v, r1⟩
    . exact ih r2 p hp
theorem FRs.mem {C : Addr} {kvs : List (Nat × D)} : ∀ {vs : List (Str × V)}, FRs G ρ H C kvs vs -> ∀ p ∈ kvs, ∃ v, RD ρ H p.2 v := by
  induction kvs with
  | nil => intro vs r p hp; cases hp
  | cons q kvs ih =>
    intro vs r p hp
    unfold FRs at r
    obtain ⟨f, v, w, rfl, _, _, r1, r2⟩ := r
    rcases List.mem_cons.mp hp with rfl | hp
    . exact ⟨v, r1⟩
    . exact ih r2 p hp
theorem RO.bd (r : RO G ρ H a o) : o.bd ρ.length := by
  cases o with
  | lst xs => obtain ⟨vs, _, r⟩ := r; exact RDs.bd _ _ r
  | scr xs => obtain ⟨vs, _, r⟩ := r; exact RDs.bd _ _ r
  | dic kvs => obtain ⟨vs, _, r⟩ := r; exact fun p hp => let ⟨v, q⟩ := r.mem p hp; RD.bd _ _ q
  | hole => trivial
  | set xs => trivial
  | ins c fs => obtain ⟨C, dx, vs, _, _, r⟩ := r; exact fun p hp => let ⟨v, q⟩ := r.mem p hp; RD.bd _ _ q
theorem zt3 : ∀ {ds : List D}, nrs ds = true -> ∀ d ∈ ds, d.nr = true
  | [], _, d, hd => by cases hd
  | x :: ds, h, d, hd => by
    unfold nrs at h
    rw [Bool.and_eq_true] at h
    rcases List.mem_cons.mp hd with rfl | hd
    . exact h.1
    . exact zt3 h.2 d hd
theorem O.flat_bd (f : o.flat = true) : o.bd n := by
  cases o with
  | lst xs => exact zpI xs f
  | scr xs => cases f
  | dic kvs => exact fun p hp => D.nr_bd _ (zt3 f _ (List.mem_map_of_mem hp))
  | hole => cases f
  | set xs => trivial
  | ins c fs => cases f
theorem KRs.cut {kvs : List (Int × D)} (e : ∀ m, m < n -> ρ1[m]? = ρ[m]?) : ∀ {vs : List (Key × V)}, KRs ρ H kvs vs -> (∀ p ∈ kvs, p.2.bd n) -> KRs ρ1 H kvs vs := by
  induction kvs with
  | nil => intro vs r _; exact r
  | cons q kvs ih =>
    intro vs r b
    unfold KRs at r ⊢
    obtain ⟨v, w, e1, r1, r2⟩ := r
    exact ⟨v, w, e1, RD.cut e _ _ (b q List.mem_cons_self) r1, ih r2 fun p hp => b p (List.mem_cons_of_mem _ hp)⟩
theorem FRs.cut {C : Addr} {kvs : List (Nat × D)} (e : ∀ m, m < n -> ρ1[m]? = ρ[m]?) : ∀ {vs : List (Str × V)}, FRs G ρ H C kvs vs -> (∀ p ∈ kvs, p.2.bd n) -> FRs G ρ1 H C kvs vs := by
  induction kvs with
  | nil => intro vs r _; exact r
  | cons q kvs ih =>
    intro vs r b
    unfold FRs at r ⊢
    obtain ⟨f, v, w, e1, e2, e3, r1, r2⟩ := r
    exact ⟨f, v, w, e1, e2, e3, RD.cut e _ _ (b q List.mem_cons_self) r1, ih r2 fun p hp => b p (List.mem_cons_of_mem _ hp)⟩
theorem RO.cut (r : RO G ρ H a o) (b : o.bd n) (e : ∀ m, m < n -> ρ1[m]? = ρ[m]?) : RO G ρ1 H a o := by
  cases o with
  | lst xs => obtain ⟨vs, h1, r⟩ := r; exact ⟨vs, h1, RDs.cut e _ _ b r⟩
  | scr xs => obtain ⟨vs, h1, r⟩ := r; exact ⟨vs, h1, RDs.cut e _ _ b r⟩
  | dic kvs => obtain ⟨vs, h1, r⟩ := r; exact ⟨vs, h1, r.cut e b⟩
  | hole => exact r
  | set xs => exact r
  | ins c fs => obtain ⟨C, dx, vs, h1, h2, r⟩ := r; exact ⟨C, dx, vs, h1, h2, r.cut e b⟩
theorem HR.select (hr : HR F G ρ2 h2 H2) {os : List Nat} {objs : MH} {ρ' : List Addr} (nd : os.Nodup) (hl : objs.length = os.length) (hl' : ρ'.length = os.length) (ha : ∀ (j i : Nat), os[j]? = some i -> ρ'[j]? = ρ2[i]?)
    (hA : ∀ (j i : Nat) ob, os[j]? = some i -> objs[j]? = some ob -> ∃ a ob2, ρ2[i]? = some a ∧ h2[i]? = some ob2 ∧ ob.isScr = ob2.isScr ∧ RO G ρ' H2 a ob) : HR F G ρ' objs H2 := by
  have org : ∀ (j : Nat) b ob, ρ'[j]? = some b -> objs[j]? = some ob -> ∃ i ob2, os[j]? = some i ∧ ρ2[i]? = some b ∧ h2[i]? = some ob2 ∧ ob.isScr = ob2.isScr ∧ RO G ρ' H2 b ob := fun j b ob e1 e2 => by
    have hj : j < os.length := by rw [<- hl]; exact (List.getElem?_eq_some_iff.mp e2).1
    have ei := List.getElem?_eq_getElem hj
    obtain ⟨a, ob2, h3, h4, h5, h6⟩ := hA j _ ob ei e2
    have := ha j _ ei
    rw [e1, h3] at this; cases this
    exact ⟨_, ob2, ei, h3, h4, h5, h6⟩
  refine ⟨fun b hb => ⟨(hr.pro b hb).1, fun m ob e1 e2 => ?_⟩, fun m m' b ob ob' hne e1 e2 e3 e4 => ?_, by rw [hl, hl'], fun m ob e => ?_⟩
  . obtain ⟨i, ob2, _, h3, h4, h5, _⟩ := org m b ob e1 e2
    rw [h5]; exact (hr.pro b hb).2 i ob2 h3 h4
  . obtain ⟨i, ob2, f1, h3, h4, h5, _⟩ := org m b ob e1 e3
    obtain ⟨i', ob2', f1', h3', h4', h5', _⟩ := org m' b ob' e2 e4
    rw [h5, h5']
    refine hr.nd i i' b ob2 ob2' (fun z => hne ?_) h3 h3' h4 h4'
    subst z
    obtain ⟨g1, g2⟩ := List.getElem?_eq_some_iff.mp f1
    obtain ⟨g1', g2'⟩ := List.getElem?_eq_some_iff.mp f1'
    exact (List.getElem_inj nd).mp (g2.trans g2'.symm)
  . have hm : m < os.length := by rw [<- hl]; exact (List.getElem?_eq_some_iff.mp e).1
    obtain ⟨a, ob2, h3, h4, h5, h6⟩ := hA m _ ob (List.getElem?_eq_getElem hm) e
    exact ⟨a, by rw [ha m _ (List.getElem?_eq_getElem hm)]; exact h3, h6⟩
def RlP (n b : Nat) (h2 : MH) (ds : List D) (ms : List Nat) (ds' : List D) (ms' : List Nat) : Prop := (∃ t, ms' = ms ++ t) ∧ ms'.Nodup ∧ (∀ m ∈ ms', n <= m ∧ ∃ o, h2[m]? = some o ∧ o.flat = true) ∧
    ∀ (ρ2 ρ' : List Addr) (H : Hp) (vs : List V), (∀ i, i < n -> ρ'[i]? = ρ2[i]?) -> (∀ (j m : Nat), ms'[j]? = some m -> ρ'[b + j]? = ρ2[m]?) -> RDs ρ2 H ds vs -> RDs ρ' H ds' vs
theorem zik {b : Nat} : ∀ {ds : List D} {ms : List Nat} {ds' : List D} {ms' : List Nat}, zct n b h2 ds ms = some (ds', ms') -> ms.Nodup -> (∀ m ∈ ms, n <= m ∧ ∃ o, h2[m]? = some o ∧ o.flat = true) -> RlP n b h2 ds ms ds' ms'
  | [], ms, ds', ms', e, nd, hm => by
    simp only [zct] at e
    cases e
    exact ⟨⟨[], by simp⟩, nd, hm, fun ρ2 ρ' H vs _ _ r => by unfold RDs at r ⊢; exact r⟩
  | d :: ds, ms, ds', ms', e, nd, hm => by
    have plain : ∀ {q : List D × List Nat}, d.bd n -> zct n b h2 ds ms = some q -> ds' = d :: q.1 -> ms' = q.2 -> RlP n b h2 (d :: ds) ms ds' ms' := fun {q} hd e' e1 e2 => by
      subst e1 e2
      obtain ⟨h3, h4, h5, h6⟩ := zik (ds' := q.1) (ms' := q.2) e' nd hm
      refine ⟨h3, h4, h5, fun ρ2 ρ' H vs g1 g2 r => ?_⟩
      unfold RDs at r ⊢
      obtain ⟨x, w, e3, r1, r2⟩ := r
      exact ⟨x, w, e3, RD.cut g1 _ _ hd r1, h6 ρ2 ρ' H w g1 g2 r2⟩
    have byNr : d.nr = true -> (if d.nr = true then (zct n b h2 ds ms).map fun p => (d :: p.1, p.2) else none) = some (ds', ms') -> RlP n b h2 (d :: ds) ms ds' ms' := fun hn e => by
      rw [if_pos hn, Option.map_eq_some_iff] at e
      obtain ⟨q, e1, e2⟩ := e
      cases e2
      exact plain (D.nr_bd d hn) e1 rfl rfl
    cases d with
    | obj m =>
      simp only [zct] at e
      by_cases h1 : m < n
      . rw [if_pos h1, Option.map_eq_some_iff] at e
        obtain ⟨q, e1, e2⟩ := e
        cases e2
        exact plain (by unfold D.bd; exact h1) e1 rfl rfl
      . rw [if_neg h1] at e
        by_cases h3 : m ∈ ms
        . rw [if_pos h3] at e; cases e
        . rw [if_neg h3] at e
          cases q : h2[m]? with
          | none => rw [q] at e; cases e
          | some ob =>
            rw [q] at e
            dsimp only at e
            by_cases h4 : ob.flat = true
            . rw [if_pos h4, Option.map_eq_some_iff] at e
              obtain ⟨w, e1, e2⟩ := e
              cases e2
              have nd' : (ms ++ [m]).Nodup := by
                rw [List.nodup_append]
                exact ⟨nd, by simp, fun x hx y hy => by simp at hy; subst hy; exact fun z => h3 (z ▸ hx)⟩
              obtain ⟨⟨t, et⟩, g4, g5, g6⟩ := zik (ds' := w.1) (ms' := w.2) e1 nd' (fun x hx => by
                rcases List.mem_append.mp hx with hx | hx
                . exact hm x hx
                . simp at hx; subst hx; exact ⟨by omega, ob, q, h4⟩)
              refine ⟨⟨m :: t, by rw [et]; simp⟩, g4, g5, fun ρ2 ρ' H vs g1 g2 r => ?_⟩
              unfold RDs at r ⊢
              obtain ⟨x, w', e3, r1, r2⟩ := r
              refine ⟨x, w', e3, ?_, g6 ρ2 ρ' H w' g1 g2 r2⟩
              unfold RD at r1 ⊢
              obtain ⟨a, ea, eb⟩ := r1
              refine ⟨a, ea, ?_⟩
              rw [g2 ms.length m (by rw [et]; simp)]
              exact eb
            . rw [if_neg h4] at e; cases e
    | non => exact byNr rfl e
    | bl x => exact byNr rfl e
    | int x => exact byNr rfl e
    | str x => exact byNr rfl e
    | tup xs =>
      have e' : (if (D.tup xs).nr = true then (zct n b h2 ds ms).map fun p => (D.tup xs :: p.1, p.2) else none) = some (ds', ms') := e
      by_cases hn : (D.tup xs).nr = true
      . exact byNr hn e'
      . rw [if_neg hn] at e'; cases e'
theorem zDV (hr1 : HR F G ρ1 h1 H1) (ok : zeD h1 h2 = true) {i : Nat} {ob : O} (hi : i < h1.length) (e : h2[i]? = some ob) : ob.bd ρ1.length := by
  unfold zeD at ok
  rw [List.all_eq_true] at ok
  have := ok i (List.mem_range.mpr hi)
  rw [Bool.or_eq_true, decide_eq_true_eq] at this
  rcases this with z | z
  . obtain ⟨a, e1, e2⟩ := hr1.all i ob (by rw [<- z]; exact e)
    exact e2.bd
  . rw [e] at z
    exact O.flat_bd z
theorem HR.keepSome {t : List Addr} (hr1 : HR F G ρ1 h1 H1) (hr2 : HR F G (ρ1 ++ t) h2 H2) (ok : zeD h1 h2 = true) {os : List Nat} {obs : MH} (nd : os.Nodup) (hge : ∀ m ∈ os, h1.length <= m) (hl : obs.length = os.length)
    (hA : ∀ (j i : Nat) ob, os[j]? = some i -> obs[j]? = some ob -> ∃ a ob2, (ρ1 ++ t)[i]? = some a ∧ h2[i]? = some ob2 ∧ ob.isScr = ob2.isScr ∧ RO G (ρ1 ++ os.map fun i => (ρ1 ++ t).getD i 0) H2 a ob) :
    HR F G (ρ1 ++ os.map fun i => (ρ1 ++ t).getD i 0) (h2.take h1.length ++ obs) H2 := by
  have hl2 : h1.length <= h2.length := by rw [<- hr1.len, <- hr2.len]; simp
  have hpre : ∀ m, m < ρ1.length -> (ρ1 ++ os.map fun i => (ρ1 ++ t).getD i 0)[m]? = (ρ1 ++ t)[m]? := fun m hm => by rw [List.getElem?_append_left hm, List.getElem?_append_left hm]
  have hio : ∀ (j i : Nat), (List.range h1.length ++ os)[j]? = some i -> (j < h1.length ∧ i = j) ∨ (h1.length <= j ∧ os[j - h1.length]? = some i) := fun j i e => by
    by_cases hj : j < h1.length
    . rw [List.getElem?_append_left (by simpa using hj), List.getElem?_range hj] at e
      cases e; exact .inl ⟨hj, rfl⟩
    . rw [List.getElem?_append_right (by simp; omega)] at e
      simp only [List.length_range] at e
      exact .inr ⟨by omega, e⟩
  refine hr2.select (os := List.range h1.length ++ os) ?_ ?_ ?_ (fun j i e => ?_) (fun j i ob e1 e2 => ?_)
  . rw [List.nodup_append]
    refine ⟨List.nodup_range, nd, fun x hx y hy z => ?_⟩
    have := hge y hy
    rw [List.mem_range] at hx
    omega
  . rw [List.length_append, List.length_append, List.length_range, hl, List.length_take]; omega
  . rw [List.length_append, List.length_append, List.length_range, List.length_map, hr1.len]
  . rcases hio j i e with ⟨hj, rfl⟩ | ⟨hj, e⟩
    . exact hpre i (by rw [hr1.len]; exact hj)
    . rw [List.getElem?_append_right (by rw [hr1.len]; exact hj), List.getElem?_map, hr1.len, e]
      have hi : i < (ρ1 ++ t).length := by
        have ho : j - h1.length < obs.length := by rw [hl]; exact (List.getElem?_eq_some_iff.mp e).1
        obtain ⟨a, _, h3, _⟩ := hA _ _ _ e (List.getElem?_eq_getElem ho)
        exact (List.getElem?_eq_some_iff.mp h3).1
      rw [List.getElem?_eq_getElem hi]
      simp [List.getD, List.getElem?_eq_getElem hi]
  . rcases hio j i e1 with ⟨hj, rfl⟩ | ⟨hj, e1⟩
    . have hlt : i < (h2.take h1.length).length := by rw [List.length_take]; omega
      rw [List.getElem?_append_left hlt, List.getElem?_take_of_lt hj] at e2
      obtain ⟨a, h3, h4⟩ := hr2.all i ob e2
      exact ⟨a, ob, h3, e2, rfl, h4.cut (zDV hr1 ok hj e2) hpre⟩
    . have hlt : (h2.take h1.length).length = h1.length := by rw [List.length_take]; omega
      rw [List.getElem?_append_right (by rw [hlt]; exact hj), hlt] at e2
      exact hA _ _ _ e1 e2
theorem RO.flat (r : RO G ρ H a o) (f : o.flat = true) : RO G ρ' H a o := r.cut (n := 0) (O.flat_bd f) fun m hm => absurd hm (Nat.not_lt_zero m)
theorem zt6 : ∀ {fs : List (Nat × D)} {ds : List D} {vs : List (Str × V)} {C : Addr} {us : List V}, FRs G ρ H C fs vs -> vs.map (·.2) = us -> RDs ρ' H ds us -> FRs G ρ' H C ((fs.map (·.1)).zip ds) vs
  | [], ds, vs, C, us, r, e, rs => by unfold FRs at r; subst r; simp [FRs]
  | p :: fs, ds, vs, C, us, r, e, rs => by
    unfold FRs at r
    obtain ⟨f, v, q, rfl, h1, h2, h3, h4⟩ := r
    subst e
    rw [List.map_cons] at rs
    cases ds with
    | nil => unfold RDs at rs; cases rs
    | cons d ds =>
      unfold RDs at rs
      obtain ⟨x, w, e1, r1, r2⟩ := rs
      cases e1
      rw [List.map_cons, List.zip_cons_cons]
      unfold FRs
      exact ⟨f, v, q, rfl, h1, h2, r1, zt6 h4 rfl r2⟩
theorem FRs.vals : ∀ {fs : List (Nat × D)} {vs : List (Str × V)} {C : Addr}, FRs G ρ H C fs vs -> RDs ρ H (fs.map (·.2)) (vs.map (·.2))
  | [], vs, C, r => by unfold FRs at r; subst r; simp; exact RDs.nil
  | p :: fs, vs, C, r => by
    unfold FRs at r
    obtain ⟨f, v, q, rfl, h1, h2, h3, h4⟩ := r
    exact RDs.cons h3 (FRs.vals h4)
theorem zC6 {v : D} {v2 : V} {t : List Addr} (hr1 : HR F G ρ1 h1 H1) (hr2 : HR F G (ρ1 ++ t) h2 H2) (rd : RD (ρ1 ++ t) H2 v v2) (ok : zeD h1 h2 = true) :
    ∃ t', HR F G (ρ1 ++ t') (gcV h1.length v h2).2 H2 ∧ RD (ρ1 ++ t') H2 (gcV h1.length v h2).1 v2 := by
  have none' : HR F G ρ1 (h2.take h1.length) H2 := by
    have := hr1.keepSome hr2 ok (os := []) (obs := []) (by simp) (by simp) rfl (fun j i ob e => by simp at e)
    simpa using this
  have low : ∀ {d : D} {u : V}, d.bd h1.length -> RD (ρ1 ++ t) H2 d u -> RD ρ1 H2 d u := fun {d u} hb r => RD.cut (n := h1.length) (fun m hm => by rw [List.getElem?_append_left (by rw [hr1.len]; exact hm)]) d u hb r
  have flatOs : ∀ {ms : List Nat}, (∀ m ∈ ms, h1.length <= m ∧ ∃ o, h2[m]? = some o ∧ o.flat = true) -> ∀ (ρ' : List Addr) (j i : Nat) ob, ms[j]? = some i -> (ms.map fun k => h2.getD k (.lst []))[j]? = some ob -> ∃ a ob2, (ρ1 ++ t)[i]? = some a ∧ h2[i]? = some ob2 ∧ ob.isScr = ob2.isScr ∧ RO G ρ' H2 a ob := fun {ms} hm ρ' j i ob e1 e2 => by
    obtain ⟨_, o, ho, hf⟩ := hm i (List.mem_of_getElem? e1)
    rw [List.getElem?_map, e1] at e2
    have e3 : h2.getD i (.lst []) = ob := Option.some.inj e2
    rw [List.getD_eq_getElem?_getD, ho] at e3
    have e4 : o = ob := e3
    subst e4
    obtain ⟨a, g1, g2⟩ := hr2.all i o ho
    exact ⟨a, o, g1, ho, rfl, g2.flat hf⟩
  cases v with
  | obj m =>
    simp only [gcV]
    by_cases hm : m < h1.length
    . rw [if_pos hm]
      exact ⟨[], by simpa using none', by simpa using low (by unfold D.bd; exact hm) rd⟩
    . rw [if_neg hm]
      cases q : h2[m]? with
      | none => exact ⟨t, hr2, rd⟩
      | some ob =>
        have flatCase : ob.flat = true -> ∃ t', HR F G (ρ1 ++ t') (h2.take h1.length ++ [ob]) H2 ∧ RD (ρ1 ++ t') H2 (.obj h1.length) v2 := fun hf => by
          have hh := hr1.keepSome hr2 ok (os := [m]) (obs := [ob]) (by simp) (by simp; omega) rfl (fun j i x e1 e2 => by
            refine flatOs (ms := [m]) (fun k hk => ?_) _ j i x e1 ?_
            . have e : k = m := by simpa using hk
              subst e; exact ⟨by omega, ob, q, hf⟩
            . simp only [List.map_cons, List.map_nil, List.getD_eq_getElem?_getD, q]; exact e2)
          refine ⟨_, hh, ?_⟩
          unfold RD at rd ⊢
          obtain ⟨a, e1, e2⟩ := rd
          refine ⟨a, e1, ?_⟩
          rw [List.getElem?_append_right (by rw [hr1.len]; exact Nat.le_refl _), hr1.len]
          simp [List.getD_eq_getElem?_getD, e2]
        cases ob with
        | ins c fs =>
          dsimp only
          cases qr : zct h1.length (h1.length + 1) h2 (fs.map (·.2)) [] with
          | none => exact ⟨t, hr2, rd⟩
          | some pr =>
            obtain ⟨ds, ms⟩ := pr
            obtain ⟨_, nd, hms, rel⟩ := zik qr (by simp) (by simp)
            dsimp only
            have hge : ∀ k ∈ m :: ms, h1.length <= k := fun k hk => by
              rcases List.mem_cons.mp hk with rfl | hk
              . omega
              . exact (hms k hk).1
            have ndm : (m :: ms).Nodup := by
              rw [List.nodup_cons]
              refine ⟨fun z => ?_, nd⟩
              obtain ⟨_, o, ho, hf⟩ := hms m z
              rw [q] at ho; cases ho; cases hf
            have hlen : ∀ k ∈ ms, k < (ρ1 ++ t).length := fun k hk => by
              obtain ⟨_, o, ho, _⟩ := hms k hk
              rw [hr2.len]; exact (List.getElem?_eq_some_iff.mp ho).1
            have hml : m < (ρ1 ++ t).length := by rw [hr2.len]; exact (List.getElem?_eq_some_iff.mp q).1
            have hh := hr1.keepSome hr2 ok (os := m :: ms) (obs := .ins c ((fs.map (·.1)).zip ds) :: ms.map fun k => h2.getD k (.lst [])) ndm hge (by simp) (fun j i x e1 e2 => by
              cases j with
              | zero =>
                cases e1; cases e2
                obtain ⟨a, g1, g2⟩ := hr2.all m _ q
                refine ⟨a, _, g1, q, rfl, ?_⟩
                obtain ⟨C, dx, vs, k1, k2, k3⟩ := g2
                refine ⟨C, dx, vs, k1, k2, zt6 k3 rfl (rel (ρ1 ++ t) _ H2 _ (fun i hi => ?_) (fun j k ek => ?_) k3.vals)⟩
                . rw [List.getElem?_append_left (by rw [hr1.len]; exact hi), List.getElem?_append_left (by rw [hr1.len]; exact hi)]
                . rw [List.getElem?_append_right (by rw [hr1.len]; omega), hr1.len]
                  have e5 : h1.length + 1 + j - h1.length = j + 1 := by omega
                  rw [e5, List.map_cons, List.getElem?_cons_succ, List.getElem?_map, ek]
                  have hk := hlen k (List.mem_of_getElem? ek)
                  rw [List.getElem?_eq_getElem hk]
                  simp [List.getD_eq_getElem?_getD, List.getElem?_eq_getElem hk]
              | succ j => exact flatOs hms _ j i x (by simpa using e1) (by simpa using e2))
            refine ⟨_, hh, ?_⟩
            unfold RD at rd ⊢
            obtain ⟨a, e1, e2⟩ := rd
            refine ⟨a, e1, ?_⟩
            rw [List.getElem?_append_right (by rw [hr1.len]; exact Nat.le_refl _), hr1.len]
            simp [List.getD_eq_getElem?_getD, e2]
        | lst xs =>
          dsimp only
          by_cases hf : (O.lst xs).flat = true
          . rw [if_pos hf]; exact flatCase hf
          . rw [if_neg hf]; exact ⟨t, hr2, rd⟩
        | scr xs =>
          dsimp only
          by_cases hf : (O.scr xs).flat = true
          . rw [if_pos hf]; exact flatCase hf
          . rw [if_neg hf]; exact ⟨t, hr2, rd⟩
        | dic xs =>
          dsimp only
          by_cases hf : (O.dic xs).flat = true
          . rw [if_pos hf]; exact flatCase hf
          . rw [if_neg hf]; exact ⟨t, hr2, rd⟩
        | hole =>
          dsimp only
          by_cases hf : O.hole.flat = true
          . rw [if_pos hf]; exact flatCase hf
          . rw [if_neg hf]; exact ⟨t, hr2, rd⟩
        | set xs =>
          dsimp only
          by_cases hf : (O.set xs).flat = true
          . rw [if_pos hf]; exact flatCase hf
          . rw [if_neg hf]; exact ⟨t, hr2, rd⟩
  | tup ds =>
    simp only [gcV]
    cases qr : zct h1.length h1.length h2 ds [] with
    | none => exact ⟨t, hr2, rd⟩
    | some pr =>
      obtain ⟨ds', ms⟩ := pr
      obtain ⟨_, nd, hms, rel⟩ := zik qr (by simp) (by simp)
      dsimp only
      have hlen : ∀ k ∈ ms, k < (ρ1 ++ t).length := fun k hk => by
        obtain ⟨_, o, ho, _⟩ := hms k hk
        rw [hr2.len]; exact (List.getElem?_eq_some_iff.mp ho).1
      have hh := hr1.keepSome hr2 ok (os := ms) (obs := ms.map fun k => h2.getD k (.lst [])) nd (fun k hk => (hms k hk).1) (by simp) (fun j i x e1 e2 => flatOs hms _ j i x e1 e2)
      refine ⟨_, hh, ?_⟩
      unfold RD at rd ⊢
      obtain ⟨a, vs, e1, e2, rs⟩ := rd
      refine ⟨a, vs, e1, e2, rel (ρ1 ++ t) _ H2 vs (fun i hi => ?_) (fun j k ek => ?_) rs⟩
      . rw [List.getElem?_append_left (by rw [hr1.len]; exact hi), List.getElem?_append_left (by rw [hr1.len]; exact hi)]
      . rw [List.getElem?_append_right (by rw [hr1.len]; omega), hr1.len]
        have e5 : h1.length + j - h1.length = j := by omega
        rw [e5, List.getElem?_map, ek]
        have hk := hlen k (List.mem_of_getElem? ek)
        rw [List.getElem?_eq_getElem hk]
        simp [List.getD_eq_getElem?_getD, List.getElem?_eq_getElem hk]
  | non => exact ⟨[], by simpa [gcV] using none', by simpa [gcV] using low (by simp [D.bd]) rd⟩
  | bl x => exact ⟨[], by simpa [gcV] using none', by simpa [gcV] using low (by simp [D.bd]) rd⟩
  | int x => exact ⟨[], by simpa [gcV] using none', by simpa [gcV] using low (by simp [D.bd]) rd⟩
  | str x => exact ⟨[], by simpa [gcV] using none', by simpa [gcV] using low (by simp [D.bd]) rd⟩
end
end MI
end
section
namespace MI
open PySem PySem.Spec L2
abbrev W0 : Nat -> Hp -> Prop := fun _ _ => False
def wpF (F : Addr -> Prop) (G : GP) (ρ : List Addr) (H : Hp) (r : R D) (Q : VK) : Prop := match r with
  | .ok v h1 => ∀ ρ1 H1 v1, Ext F ρ ρ1 H H1 -> HR F G ρ1 h1 H1 -> RD ρ1 H1 v v1 -> Q v1 H1
  | .ex c h1 => ∀ ρ1 H1, Ext F ρ ρ1 H H1 -> HR F G ρ1 h1 H1 -> False
  | .bad => False
def spM (G : GP) (n : Nat) (f : MF) : Sp := fun vs H Q _ => ∃ F ρ ds h, HR F G ρ h H ∧ RDs ρ H ds vs ∧ ds.length = n ∧ wpF F G ρ H (f ds h) Q
def Ar (n : Nat) (f : MF) : Prop := ∀ ds h, ds.length ≠ n -> f ds h = .bad
theorem ziX {np nl : Nat} {m : MS} : Ar np (zV np nl m) := fun ds h hn => if_neg hn
section
variable {P : Program} {w : World} {K : PySem.W.Frag} {mg : Str -> Option Value} {base : Heap} {G : GP}
theorem zBp {F : Addr -> Prop} {ρ : List Addr} {H : Hp} {N : List Str} {ds : List D} {vs : List V} {nl np : Nat} (r : RDs ρ H ds vs) (h1 : N.length = nl) (h2 : ds.length = np) (h3 : np <= nl) : z6 ρ H (ds.map some ++ List.replicate (nl - np) none) (L2.start N vs) := by
  have hl := r.length
  unfold L2.start
  refine ⟨by simp; omega, fun i d e => ?_⟩
  by_cases hi : i < ds.length
  . rw [List.getElem?_append_left (by simpa using hi), List.getElem?_map] at e
    rw [List.getElem?_append_left (by simp; omega), List.getElem?_map]
    cases ei : ds[i]? with
    | none => rw [ei] at e; cases e
    | some d' =>
      rw [ei] at e
      have e' : d' = d := by simpa using e
      subst e'
      obtain ⟨v, g1, g2⟩ := r.get ei
      exact ⟨v, by rw [g1]; rfl, g2⟩
  . rw [List.getElem?_append_right (by simpa using hi)] at e
    have := List.mem_of_getElem? e
    rw [List.mem_replicate] at this
    cases this.2
theorem zbc {x qual : Str} {st : Stmt} {f : Addr} {fd : FuncData} {N ps : List Str} {k np nl : Nat} {m : MS} (Fn : Fun K x qual st f fd) (S : zZ N ps (zo st)) (hnl : N.length = nl) (hnp : ps.length = np) (hle : np <= nl)
    (body : ∀ (cdv : Value) (A : Around) (outer : List Env) (s : Shared) (H : Hp) (E : XK), zR k (A.deeper (PyProof.Rows.envOfC qual (zo st) s.heap.objs.size f cdv)) ->
      JSs (zgk CX0 P w K mg base N qual (zo st) f cdv A outer s H E).nox (zT st) (tS W0 G m)) : zI P w K mg base CX0 (k + 1) f fd ps (spM G np (zV np nl m)) := by
  refine Fn.ok S (fun vs H Q E h => ?_) (fun cdv A outer s H vs Q E hr h => ?_)
  . obtain ⟨F, ρ, ds, h, _, r, hl, _⟩ := h
    rw [<- r.length, hl, hnp]
  . obtain ⟨F, ρ, ds, h, hrr, r, hl, w⟩ := h
    refine ⟨_, (body cdv A outer s H E hr).to, F, ρ, _, h, zBp (F := F) r hnl hl hle, hrr, ?_⟩
    unfold zV at w
    rw [if_pos hl] at w
    cases e : m (ds.map some ++ List.replicate (nl - np) none) h with
    | nx e1 h1 => rw [e] at w; exact fun ρ1 H1 σ1 ex er hr' => w ρ1 H1 .non ex hr' (by unfold RD; rfl)
    | rt v h1 => rw [e] at w; exact w
    | ex c h1 => rw [e] at w; exact w
    | bk e1 h1 => rw [e] at w; exact w.elim
    | ct e1 h1 => rw [e] at w; exact w.elim
    | bad => rw [e] at w; exact w.elim
end
section
variable {X : Cx} {F : Addr -> Prop} {G : GP} {env : zA} {σ : L2.St} {ρ : List Addr} {H : Hp} {h : MH} {e o : Expr} {es : List Expr} {mo : ME D} {ml : ME (List D)} {pos p apos : Pos} {k n : Nat} {x m : Str} {f C : Addr} {fd : FuncData} {ps : List Str} {mf : MF}
theorem zr2 {ds : List D} {Q : VK} (er : z6 ρ H env σ) (hr : HR F G ρ h H) (w : wp F W0 G rV env σ ρ H (app mf ds h) Q) : wpF F G ρ H (mf ds h) Q := by
  unfold app gc at w
  cases e : mf ds h with
  | ok v h2 =>
    rw [e] at w
    intro ρ2 H2 v2 ex hr2 rd
    dsimp only at w
    by_cases ok : zeD h h2 = true
    . rw [if_pos ok] at w
      obtain ⟨t, rfl⟩ := ex.pre
      obtain ⟨t', g1, g2⟩ := zC6 hr hr2 rd ok
      have ex' : Ext F ρ (ρ ++ t') H H2 := ⟨⟨t', rfl⟩, ex.tup, ex.frm⟩
      exact w (ρ ++ t') H2 v2 ex' (er.ext ex') g1 g2
    . rw [if_neg ok] at w
      exact w ρ2 H2 v2 ex (er.ext ex) hr2 rd
  | ex c h2 => rw [e] at w; exact w
  | bad => rw [e] at w; exact w
theorem zpO {ds : List D} {vs : List V} {Q : VK} {E : XK} (ar : Ar n mf) (er : z6 ρ H env σ) (hr : HR F G ρ h H) (rs : RDs ρ H ds vs) (w : wp F W0 G rV env σ ρ H (app mf ds h) Q) : spM G n mf vs H Q E := by
  by_cases hl : ds.length = n
  . exact ⟨F, ρ, ds, h, hr, rs, hl, zr2 er hr w⟩
  . unfold app gc at w
    rw [ar ds h hl] at w
    exact w.elim
theorem zB (Fo : zI X.prog X.w X.K X.mg X.base CX0 k f fd ps (spM G n mf)) (hr : zR k X.A) (hg : Gl X x) (hm : X.mg x = some (.ref f)) (hk : PySem.W.keepIn X.K (.ref f) = true) (hb : zdB X.K fd ps []) (ha : JA X (e :: es) (tA W0 G ml))
    (ar : Ar n mf := by exact ziX) (he : starEach (e :: es) X.env = (false, eval e X.env) :: starEach es X.env := by rfl) (hpl : (backTo pos (starEach es X.env)).any (·.1) = false := by rfl) (hdb : (x == ("__debug__" : Str)) = false := by decide) :
    JE X (.Call (.Name x p) (e :: es) [] pos) (tE W0 G (zj mf ml)) :=
  .of (z3 (zBE (dvs := []) (E := E0) Fo hr hg hm hk hb .nil zi8 ha.to hdb he hpl) fun σ H Q ⟨F, ρ, env, h, er, hrr, w⟩ => ⟨F, ρ, env, h, er, hrr, zG w fun ds h1 ρ1 H1 vs e1 er1 hr1 rs w1 => by
    rw [List.append_nil]
    exact zpO ar er1 hr1 rs w1⟩)
theorem zhh {c ni : Nat} (hC : G.cm[c]? = some C) (M : Mk X.K C f) (Fo : zI X.prog X.w X.K X.mg X.base CX0 k f fd ps (spM G ni mf)) (hr : zR (k + 1) X.A) (hg : Gl X x) (hm : X.mg x = some (.ref C)) (hb : zdB X.K fd ps []) (ha : JA X (e :: es) (tA W0 G ml))
    (ar : Ar ni mf := by exact ziX) (he : starEach (e :: es) X.env = (false, eval e X.env) :: starEach es X.env := by rfl) (hpl : (backTo pos (starEach es X.env)).any (·.1) = false := by rfl) (hdb : (x == ("__debug__" : Str)) = false := by decide) :
    JE X (.Call (.Name x p) (e :: es) [] pos) (tE W0 G (zj (mkF c mf) ml)) :=
  .of (z3 (zCD (dvs := []) (E := E0) M Fo hr hg hm hb .nil zi8 ha.to hdb he hpl) fun σ H Q ⟨F, ρ, env, h, er, hrr, w⟩ => ⟨F, ρ, env, h, er, hrr, zG w fun ds h1 ρ1 H1 vs e1 er1 hr1 rs w1 => fun q dx hq hdx hne => by
    have w2 := zr2 er1 hr1 w1
    rw [List.append_nil]
    have hnq : upd H1 dx (.own q) q = none := by rw [zD (Ne.symm hne)]; exact hq
    have hra : HR F G ρ1 h1 (upd H1 dx (.own q)) := hr1.new hdx
    have hrb : HR F G ρ1 h1 (upd (upd H1 dx (.own q)) q (.ins C dx [])) := hra.new hnq
    have exa : Ext F ρ1 ρ1 H1 (upd (upd H1 dx (.own q)) q (.ins C dx [])) := (zcR hr1 hdx).trans (zcR hra hnq)
    have frq : zfQ F ρ1 h1 q := hr1.fresh hq
    have hrc : HR F G (ρ1 ++ [q]) (h1 ++ [.ins c []]) (upd (upd H1 dx (.own q)) q (.ins C dx [])) := hrb.named frq ⟨C, dx, [], hC, zbN, by unfold FRs; rfl⟩
    have exb : Ext F ρ1 (ρ1 ++ [q]) H1 (upd (upd H1 dx (.own q)) q (.ins C dx [])) := ⟨⟨[q], rfl⟩, exa.tup, exa.frm⟩
    have hql : (ρ1 ++ [q])[h1.length]? = some q := by rw [<- hr1.len]; simp
    by_cases hl : (D.obj h1.length :: ds).length = ni
    . refine ⟨F, ρ1 ++ [q], .obj h1.length :: ds, h1 ++ [.ins c []], hrc, RDs.cons (by unfold RD; exact ⟨q, rfl, hql⟩) (RDs.ext exb _ _ rs), hl, ?_⟩
      unfold mkF at w2
      cases em : mf (.obj h1.length :: ds) (h1 ++ [.ins c []]) with
      | ok v h2 =>
        rw [em] at w2
        cases v with
        | non =>
          intro ρ3 H3 v3 ex3 hr3 r3
          unfold RD at r3
          exact ⟨r3, w2 ρ3 H3 (.ref q) (exb.trans ex3) hr3 (by unfold RD; exact ⟨q, rfl, ex3.get hql⟩)⟩
        | _ => exact w2.elim
      | ex c h2 => rw [em] at w2; exact fun ρ3 H3 ex3 hr3 => w2 ρ3 H3 (exb.trans ex3) hr3
      | bad => rw [em] at w2; exact w2
    . unfold mkF at w2
      rw [ar _ _ hl] at w2
      exact w2.elim⟩)
def JMs (X : Cx) (G : GP) (ex : Expr) (mo : ME D) (ml : ME (List D)) (tbl : List (Nat × MF)) (cs : List Nat) : Prop :=
  ∀ (c : Nat) (mf : MF), c ∈ cs -> tbl.lookup c = some mf -> PE X ex (fun σ H Q => ∃ F ρ env h, z6 ρ H env σ ∧ HR F G ρ h H ∧ (∀ v h1, mo env h = .ok v h1 -> ∃ n fs, v = .obj n ∧ h1[n]? = some (.ins c fs)) ∧ wp F W0 G rV env σ ρ H (zM tbl mo ml env h) Q)
theorem zcv {ex : Expr} {tbl : List (Nat × MF)} : JMs X G ex mo ml tbl [] := fun _ _ hc => nomatch hc
theorem zAM {c : Nat} {tbl : List (Nat × MF)} {Q : VK} {hn : ∀ kk : Nat, G.an[kk]? ≠ some m} (hC : G.cm[c]? = some C) (ht : tbl.lookup c = some mf) (ar : Ar n mf) (w : ∃ F ρ env h, z6 ρ H env σ ∧ HR F G ρ h H ∧ (∀ v h1, mo env h = .ok v h1 -> ∃ n fs, v = .obj n ∧ h1[n]? = some (.ins c fs)) ∧ wp F W0 G rV env σ ρ H (zM tbl mo ml env h) Q) :
    zpx C m (spM G n mf) [] E0 (tE W0 G mo) (tA W0 G ml) σ H Q := by
  obtain ⟨F, ρ, env, h, er, hr, hcl, w⟩ := w
  refine ⟨F, ρ, env, h, er, hr, ?_⟩
  cases em : mo env h with
  | ex c h1 => unfold zM zn at w; simp only [em] at w; exact w
  | bad => unfold zM zn at w; simp only [em] at w; exact w
  | ok v0 h1 =>
  obtain ⟨i, fs, rfl, ei⟩ := hcl v0 h1 em
  have w' : wp F W0 G rV env σ ρ H (zn ml (fun ds => fun _ h => app mf (.obj i :: ds) h) env h1) Q := by
    unfold zM zn at w
    simp only [em, ei, ht] at w
    exact w
  intro ρ1 H1 v1 ex1 er1 hr1 r1
  obtain ⟨q, C', dx, vs, rfl, eq, hC', hq, rs⟩ := hr1.ins r1 ei
  rw [hC] at hC'; cases hC'
  refine ⟨q, dx, vs, rfl, hq, rs.none hn, F, ρ1, env, h1, er1, hr1, zG (w'.mono ex1) fun ds h2 ρ2 H2 us e2 er2 hr2 rs2 w2 => ?_⟩
  rw [List.append_nil]
  exact zpO ar er2 hr2 (RDs.cons (RD.ext e2 _ _ r1) rs2) w2
theorem zfT {c : Nat} {cs : List Nat} {tbl : List (Nat × MF)} {pl : Sem Bool} (hC : G.cm[c]? = some C) (cl : Cls X.K C) (hm : zfl X.K C m f) (Fo : zI X.prog X.w X.K X.mg X.base CX0 k f fd ps (spM G n mf)) (hr : zR k X.A) (hb : zdB X.K fd ps []) (ho : JE X o (tE W0 G mo)) (ha : JA X (e :: es) (tA W0 G ml))
    (rest : JMs X G (.Call (.Attribute o m apos) (e :: es) [] pos) mo ml tbl cs) (hn : ∀ kk : Nat, G.an[kk]? ≠ some m) (ht : tbl.lookup c = some mf := by rfl) (ar : Ar n mf := by exact ziX)
    (hst : starEach (e :: es) X.env = (false, eval e X.env) :: starEach es X.env := by rfl) (hpl : (backTo pos (starEach es X.env)).any (·.1) = false := by rfl)
    (hev : eval (.Call (.Attribute o m apos) (e :: es) [] pos) X.env = (do
      let ov <- eval o X.env
      standAt apos.atName
      let (f, first) <- holding [ov] (getMethod ov m pl)
      callWith pos f first (backTo pos (starEach (e :: es) X.env)) (backToKw pos (keywordEach [] X.env))) := by rfl) : JMs X G (.Call (.Attribute o m apos) (e :: es) [] pos) mo ml tbl (c :: cs) := fun c' mf' hc' ht' => by
  rcases List.mem_cons.mp hc' with rfl | hc'
  . rw [ht] at ht'; cases ht'
    exact z3 (zAQ (dvs := []) (E := E0) ho.to cl hm Fo hr hb .nil zi8 ha.to hst hpl hev) fun σ H Q w => zAM (hn := hn) hC ht ar w
  . exact rest c' mf' hc' ht'
theorem zcZ {c : Nat} {cs : List Nat} {tbl : List (Nat × MF)} {pl : Sem Bool} (hC : G.cm[c]? = some C) (cl : Cls X.K C) (hm : zfl X.K C m f) (Fo : zI X.prog X.w X.K X.mg X.base CX0 k f fd ps (spM G n mf)) (hr : zR k X.A) (hb : zdB X.K fd ps []) (ho : JE X o (tE W0 G mo))
    (rest : JMs X G (.Call (.Attribute o m apos) [] [] pos) mo ze tbl cs) (hn : ∀ kk : Nat, G.an[kk]? ≠ some m) (ht : tbl.lookup c = some mf := by rfl) (ar : Ar n mf := by exact ziX)
    (hev : eval (.Call (.Attribute o m apos) [] [] pos) X.env = (do
      let ov <- eval o X.env
      standAt apos.atName
      let (f, first) <- holding [ov] (getMethod ov m pl)
      callWith pos f first (backTo pos (starEach [] X.env)) (backToKw pos (keywordEach [] X.env))) := by rfl) : JMs X G (.Call (.Attribute o m apos) [] [] pos) mo ze tbl (c :: cs) := fun c' mf' hc' ht' => by
  rcases List.mem_cons.mp hc' with rfl | hc'
  . rw [ht] at ht'; cases ht'
    refine z3 (zDS (dvs := []) (E := E0) ho.to cl hm Fo hr hb .nil zi8 hev) fun σ H Q w => ?_
    obtain ⟨F, ρ, env, h, er, hr, hcl, w⟩ := w
    refine ⟨F, ρ, env, h, er, hr, ?_⟩
    cases em : mo env h with
    | ex c h1 => unfold zM zn at w; simp only [em] at w; exact w
    | bad => unfold zM zn at w; simp only [em] at w; exact w
    | ok v0 h1 =>
    obtain ⟨i, fs, rfl, ei⟩ := hcl v0 h1 em
    have w' : wp F W0 G rV env σ ρ H (app mf [.obj i] h1) Q := by
      unfold zM zn at w
      simp only [em, ei, ht] at w
      exact w
    intro ρ1 H1 v1 ex1 er1 hr1 r1
    obtain ⟨q, C', dx, vs, rfl, eq, hC', hq, rs⟩ := hr1.ins r1 ei
    rw [hC] at hC'; cases hC'
    refine ⟨q, dx, vs, rfl, hq, rs.none hn, ?_⟩
    show spM G n mf (.ref q :: ([] ++ [])) H1 Q E0
    exact zpO ar er1 hr1 (RDs.cons r1 RDs.nil) (w'.mono ex1)
  . exact rest c' mf' hc' ht'
theorem zpk : ∀ {tbl : List (Nat × MF)} {c : Nat} {mf : MF}, tbl.lookup c = some mf -> c ∈ tbl.map (·.1)
  | [], c, mf, h => by cases h
  | p :: r, c, mf, h => by
    rw [List.lookup_cons] at h
    by_cases e : c = p.1
    . rw [e]; simp
    . have b : (c == p.1) = false := by simpa using e
      rw [b] at h
      exact List.mem_cons_of_mem _ (zpk h)
theorem zcw {ex : Expr} {tbl : List (Nat × MF)} {c0 : Nat} {mf0 : MF} (h : JMs X G ex mo ml tbl (tbl.map (·.1))) (h0 : tbl.lookup c0 = some mf0 := by rfl) : JE X ex (tE W0 G (zM tbl mo ml)) :=
  .of (fun pins s σ H Q I ⟨F, ρ, env, hh, er, hr, w⟩ => by
    cases em : mo env hh with
    | ex c h1 => exact h c0 mf0 (zpk h0) h0 pins s σ H Q I ⟨F, ρ, env, hh, er, hr, (fun v h1' e => by rw [em] at e; cases e), w⟩
    | bad => unfold zM zn at w; simp only [em] at w; exact w.elim
    | ok v h1 =>
      have w' := w
      unfold zM zn at w'
      simp only [em] at w'
      cases v with
      | obj n =>
        dsimp only at w'
        cases qo : h1[n]? with
        | none => rw [qo] at w'; exact w'.elim
        | some o =>
          rw [qo] at w'
          cases o with
          | ins c fs =>
            dsimp only at w'
            cases ht : tbl.lookup c with
            | none => rw [ht] at w'; exact w'.elim
            | some mf => exact h c mf (zpk ht) ht pins s σ H Q I ⟨F, ρ, env, hh, er, hr, (fun v h1' e => by rw [em] at e; cases e; exact ⟨n, fs, rfl, qo⟩), w⟩
          | _ => exact w'.elim
      | _ => exact w'.elim)
theorem zb5 {l : List Str} {m : Str} (h : l.contains m = false) (kk : Nat) : l[kk]? ≠ some m := fun e => by
  have := List.mem_of_getElem? e
  rw [<- List.contains_iff_mem, h] at this
  cases this
end
end MI
end
section
namespace MI
open PySem PySem.Spec L2
def zg2 (K : PySem.W.Frag) : Sp := fun vs H Q _ => ∃ (a : Addr) (ns : List Int), vs = [.ref a] ∧ ns.length <= 63 ∧ zh3 H ∧ SqL K H a (ns.map V.int) ∧ ∀ H', Q (.bl true) H'
theorem zFB {G : GP} {mf : MF} (hl : ∀ ns : List Int, ns.length <= 63 -> ∃ h', mf [.obj 0] [.scr (ns.map .int)] = .ok (.bl true) h') (vs : List V) (H : Hp) (Q : VK) (E : XK) (h : zg2 G.K vs H Q E) : spM G 1 mf vs H Q E := by
  obtain ⟨a, ns, rfl, hn, ho, hs, q⟩ := h
  obtain ⟨h', e⟩ := hl ns hn
  refine ⟨fun _ => False, [a], [.obj 0], [.scr (ns.map .int)], ⟨fun b z => z.elim, fun n m b o o' hne h1 h2 h3 h4 => ?_, rfl, fun n o e => ?_⟩, RDs.cons (by unfold RD; exact ⟨a, rfl, rfl⟩) RDs.nil, rfl, ?_⟩
  . have e1 : n = 0 := by have := (List.getElem?_eq_some_iff.mp h3).1; simp at this; exact this
    have e2 : m = 0 := by have := (List.getElem?_eq_some_iff.mp h4).1; simp at this; exact this
    exact absurd (e1.trans e2.symm) hne
  . have e1 : n = 0 := by have := (List.getElem?_eq_some_iff.mp e).1; simp at this; exact this
    subst e1
    cases e
    refine ⟨a, rfl, ns.map V.int, ?_, RDs.ints ns⟩
    rcases hs with hs | hs
    . rcases hs with hs | ⟨o, hs⟩
      . rcases ho a with z | ⟨o, xs, z⟩
        . rw [z] at hs; cases hs
        . rw [z] at hs; cases hs
      . exact .inl ⟨o, hs⟩
    . exact .inr hs
  . rw [e]
    intro ρ1 H1 v1 _ _ r
    unfold RD at r
    subst r
    exact q H1
theorem law_start {K : PySem.W.Frag} {H : Hp} {a : Addr} {ns : List Int} (ho : zh3 H) (hl : ns.length <= 63) (hS : SqL K H a (ns.map V.int)) : zg2 K [.ref a] H (fun v _ => v = .bl true) fun _ _ _ => False := ⟨a, ns, rfl, hl, ho, hS, fun _ => rfl⟩
end MI
end
section
namespace MI
open PySem PySem.Spec L2
section
variable {W : Nat -> Hp -> Prop} {X : Cx} {F : Addr -> Prop} {G : GP} {env : zA} {σ : L2.St} {ρ : List Addr} {H : Hp} {h : MH} {a b c e o tg : Expr} {es : List Expr} {ma mb mo : ME D} {pos p p1 tp apos cpos : Pos} {k : Nat}
theorem ztk : ∀ {xs : List D} {n i : Nat} {d : D}, (zet n xs)[i]? = some d -> ∃ x, xs[i]? = some x ∧ d = .tup [.int ((n + i : Nat) : Int), x]
  | [], n, i, d, e => by simp [zet] at e
  | x :: xs, n, 0, d, e => by simp [zet] at e; exact ⟨x, rfl, by rw [<- e]; simp⟩
  | x :: xs, n, i + 1, d, e => by
    have e' : (zet (n + 1) xs)[i]? = some d := by simpa [zet] using e
    obtain ⟨y, h1, h2⟩ := ztk e'
    exact ⟨y, by simpa using h1, by rw [h2]; congr 2; simp; omega⟩
theorem zsZ : ∀ (xs : List D) (n : Nat), (zet n xs).length = xs.length
  | [], n => rfl
  | x :: xs, n => by simp [zet, zsZ xs (n + 1)]
theorem zBc (hg : Gl X "enumerate") (hm : X.mg "enumerate" = none) (ha : JE X a (tE W G ma)) (hs : starEach [a] X.env = (false, eval a X.env) :: starEach [] X.env) (hK : X.K = G.K := by rfl) : JI X (.Tuple es k tp) (.Call (.Name "enumerate" p) [a] [] pos) (tI W G (itE ma)) :=
  .of (zqh (zCV hg hm ha.to hs) fun σ H Q ⟨F, ρ, env, h, er, hr, w⟩ => ⟨F, ρ, env, h, er, hr, zG w fun x h1 ρ1 H1 y e1 er1 hr1 r1 w1 => by
    cases x with
    | obj n =>
      simp only [ziZ] at w1
      cases qo : h1[n]? with
      | none => rw [qo] at w1; exact w1.elim
      | some o =>
        rw [qo] at w1
        cases o with
        | lst xs =>
          obtain ⟨q, vs, rfl, eq, hq, rs⟩ := hr1.lst r1 qo
          refine ⟨q, rfl, ⟨vs, SqL.of hq⟩, w1 ρ1 H1 (Ite X.K q) Ext.refl er1 hr1 ?_⟩
          intro F' ρ' h' H' i ex hr' g
          have e := ztp g (List.mem_singleton.mpr rfl)
          have eq' := ex.get eq
          obtain ⟨vs', hq', rs'⟩ := hr'.at e eq'
          refine ⟨fun d hd => ?_, fun hl => ⟨vs', SqL.of hq', by rw [<- rs'.length]; rw [zsZ] at hl; exact hl⟩⟩
          obtain ⟨x, hx, ed⟩ := ztk hd
          obtain ⟨v, e1, e2⟩ := rs'.get hx
          refine ⟨⟨vs', v, SqL.of hq', e1⟩, fun z H2 ⟨T, v2, y1, y2, y3, y4⟩ => ?_⟩
          subst y1 y3 ed
          have := y4 vs' (SqL.of hq')
          rw [e1] at this; cases this
          refine ⟨zcR hr' y2, hr'.new y2, ?_⟩
          unfold RD
          exact ⟨T, _, rfl, zbN, RDs.cons (by unfold RD; simp) (RDs.cons (RD.ext (zcR hr' y2) _ _ e2) RDs.nil)⟩
        | _ => exact w1.elim
    | _ => exact w1.elim⟩)
theorem HR.freeze {n : Nat} {q : Addr} {kvs : List (Int × D)} {vs : List (Key × V)} {ob : Obj} (hr : HR F G ρ h H) (e : h[n]? = some (.dic kvs)) (eq : ρ[n]? = some q) (hq : H q = some (.dK vs)) :
    HR (fun b => F b ∨ b = q) G ρ (h.set n .hole) (upd H q (.frz ob (.dK vs))) ∧ Ext F ρ ρ H (upd H q (.frz ob (.dK vs))) := by
  have hn : n < h.length := (List.getElem?_eq_some_iff.mp e).1
  have nF : ∀ b, F b -> b ≠ q := fun b hb z => by have := (hr.pro b hb).2 n _ (z ▸ eq) e; cases this
  have ex : Ext F ρ ρ H (upd H q (.frz ob (.dK vs))) := by
    refine ⟨⟨[], by simp⟩, fun b xs z => ?_, fun b hb => zD (nF b hb)⟩
    rw [zD]
    . exact z
    . intro zz; subst zz; rw [hq] at z; cases z
  have at' : ∀ (m : Nat) x, (h.set n .hole)[m]? = some x -> (n = m ∧ x = .hole) ∨ (n ≠ m ∧ h[m]? = some x) := fun m x hx => by
    by_cases hm : n = m
    . subst hm; rw [List.getElem?_set_self hn] at hx; cases hx; exact .inl ⟨rfl, rfl⟩
    . rw [List.getElem?_set_ne hm] at hx; exact .inr ⟨hm, hx⟩
  refine ⟨⟨fun b hb => ⟨?_, fun m x e1 e2 => ?_⟩, fun i j b x y hne h1 h2 h3 h4 => ?_, by simp [hr.len], fun m x hx => ?_⟩, ex⟩
  . rcases hb with hb | rfl
    . rw [zD (nF b hb)]; exact (hr.pro b hb).1
    . exact ⟨_, zbN⟩
  . rcases at' m x e2 with ⟨_, rfl⟩ | ⟨hm, e2⟩
    . rfl
    . rcases hb with hb | rfl
      . exact (hr.pro b hb).2 m x e1 e2
      . rcases hr.nd n m b _ x hm eq e1 e e2 with z | z
        . cases z
        . exact z
  . rcases at' i x h3 with ⟨_, rfl⟩ | ⟨_, h3⟩
    . exact .inl rfl
    . rcases at' j y h4 with ⟨_, rfl⟩ | ⟨_, h4⟩
      . exact .inr rfl
      . exact hr.nd i j b x y hne h1 h2 h3 h4
  . rcases at' m x hx with ⟨rfl, rfl⟩ | ⟨hm, hx⟩
    . exact ⟨q, eq, trivial⟩
    . obtain ⟨b, e1, e2⟩ := hr.all m x hx
      refine ⟨b, e1, ?_⟩
      by_cases hb : b = q
      . subst hb
        have hsc : x.isScr = true := by
          rcases hr.nd n m b _ x hm eq e1 e hx with z | z
          . cases z
          . exact z
        cases x with
        | scr xs =>
          obtain ⟨us, z, w⟩ := e2
          refine ⟨us, ?_, RDs.ext ex _ _ w⟩
          rcases z with ⟨o', z⟩ | z
          . rw [hq] at z; cases z
          . exact .inr z
        | hole => trivial
        | _ => cases hsc
      . exact e2.map (fun w z => by rw [zD hb]; exact z) (RD.ext ex) (RDs.ext ex)
theorem HR.thaw {n : Nat} {q : Addr} {kvs : List (Int × D)} {vs : List (Key × V)} {ob : Obj} (nq : ¬ F q) (hr : HR (fun b => F b ∨ b = q) G ρ h H) (e : h[n]? = some .hole) (eq : ρ[n]? = some q) (hq : H q = some (.frz ob (.dK vs))) (r : KRs ρ H kvs vs) :
    HR F G ρ (h.set n (.dic kvs)) (upd H q (.dK vs)) ∧ Ext F ρ ρ H (upd H q (.dK vs)) := by
  have hn : n < h.length := (List.getElem?_eq_some_iff.mp e).1
  have nF : ∀ b, F b -> b ≠ q := fun b hb z => nq (z ▸ hb)
  have ex : Ext F ρ ρ H (upd H q (.dK vs)) := by
    refine ⟨⟨[], by simp⟩, fun b xs z => ?_, fun b hb => zD (nF b hb)⟩
    rw [zD]
    . exact z
    . intro zz; subst zz; rw [hq] at z; cases z
  have at' : ∀ (m : Nat) x, (h.set n (.dic kvs))[m]? = some x -> (n = m ∧ x = .dic kvs) ∨ (n ≠ m ∧ h[m]? = some x) := fun m x hx => by
    by_cases hm : n = m
    . subst hm; rw [List.getElem?_set_self hn] at hx; cases hx; exact .inl ⟨rfl, rfl⟩
    . rw [List.getElem?_set_ne hm] at hx; exact .inr ⟨hm, hx⟩
  have scq : ∀ (m : Nat) x, ρ[m]? = some q -> h[m]? = some x -> x.isScr = true := fun m x e1 e2 => (hr.pro q (.inr rfl)).2 m x e1 e2
  refine ⟨⟨fun b hb => ⟨?_, fun m x e1 e2 => ?_⟩, fun i j b x y hne h1 h2 h3 h4 => ?_, by simp [hr.len], fun m x hx => ?_⟩, ex⟩
  . rw [zD (nF b hb)]; exact (hr.pro b (.inl hb)).1
  . rcases at' m x e2 with ⟨rfl, rfl⟩ | ⟨hm, e2⟩
    . rw [eq] at e1; cases e1; exact absurd hb nq
    . exact (hr.pro b (.inl hb)).2 m x e1 e2
  . rcases at' i x h3 with ⟨rfl, rfl⟩ | ⟨_, h3⟩
    . rcases at' j y h4 with ⟨z, rfl⟩ | ⟨_, h4⟩
      . exact absurd z hne
      . rw [eq] at h1; cases h1
        exact .inr (scq j y h2 h4)
    . rcases at' j y h4 with ⟨rfl, rfl⟩ | ⟨_, h4⟩
      . rw [eq] at h2; cases h2
        exact .inl (scq i x h1 h3)
      . exact hr.nd i j b x y hne h1 h2 h3 h4
  . rcases at' m x hx with ⟨rfl, rfl⟩ | ⟨hm, hx⟩
    . exact ⟨q, eq, vs, zbN, r.map fun p _ v => RD.ext ex _ _⟩
    . obtain ⟨b, e1, e2⟩ := hr.all m x hx
      refine ⟨b, e1, ?_⟩
      by_cases hb : b = q
      . subst hb
        have hsc := scq m x e1 hx
        cases x with
        | scr xs =>
          obtain ⟨us, z, w⟩ := e2
          refine ⟨us, ?_, RDs.ext ex _ _ w⟩
          rcases z with ⟨o', z⟩ | z
          . rw [hq] at z; cases z
          . exact .inr z
        | hole => trivial
        | _ => cases hsc
      . exact e2.map (fun w z => by rw [zD hb]; exact z) (RD.ext ex) (RDs.ext ex)
theorem KRs.items : ∀ {kvs : List (Int × D)} {vs : List (Key × V)} {i : Nat} {d : D}, KRs ρ H kvs vs -> (ze0 kvs)[i]? = some d -> ∃ p v, kvs[i]? = some p ∧ vs[i]? = some (Sum.inl p.1, v) ∧ d = .tup [.int p.1, p.2] ∧ RD ρ H p.2 v
  | [], vs, i, d, r, e => by simp [ze0] at e
  | p :: kvs, vs, 0, d, r, e => by
    unfold KRs at r
    obtain ⟨v, q, rfl, r1, r2⟩ := r
    simp [ze0] at e
    exact ⟨p, v, rfl, rfl, e.symm, r1⟩
  | p :: kvs, vs, i + 1, d, r, e => by
    unfold KRs at r
    obtain ⟨v, q, rfl, r1, r2⟩ := r
    obtain ⟨p', v', h1, h2, h3, h4⟩ := KRs.items (i := i) (d := d) r2 (by simpa [ze0] using e)
    exact ⟨p', v', by simpa using h1, by simpa using h2, h3, h4⟩
theorem zEt {q : Addr} {kvs : List (Int × D)} {vs : List (Key × V)} {ob : Obj} (hq : H q = some (.frz ob (.dK vs))) (Fq : F q) (r : KRs ρ H kvs vs) : zfU G F ρ H (Iti ob q vs) (ze0 kvs, []) := by
  intro F' ρ' h' H' i ex hr' _
  have hq' : H' q = some (.frz ob (.dK vs)) := by rw [ex.frm q Fq]; exact hq
  have r' : KRs ρ' H' kvs vs := r.map fun p _ v => RD.ext ex _ _
  have hl := r.length
  refine ⟨fun d hd => ?_, fun hle => ⟨hq', by rw [<- hl]; simpa [ze0] using hle⟩⟩
  obtain ⟨p, v, h1, h2, rfl, h4⟩ := r'.items hd
  refine ⟨⟨hq', (List.getElem?_eq_some_iff.mp h2).1⟩, fun x H2 ⟨T, kk, u, y1, y2, y3, y4⟩ => ?_⟩
  rw [h2] at y1; cases y1
  subst y2 y4
  refine ⟨zcR hr' y3, hr'.new y3, ?_⟩
  unfold RD
  exact ⟨T, _, rfl, zbN, RDs.cons (by unfold RD; rfl) (RDs.cons (RD.ext (zcR hr' y3) _ _ h4) RDs.nil)⟩
theorem KRs.vals : ∀ {kvs : List (Int × D)} {vs : List (Key × V)} {i : Nat} {d : D}, KRs ρ H kvs vs -> (zeX kvs)[i]? = some d -> ∃ kk v, vs[i]? = some (kk, v) ∧ RD ρ H d v
  | [], vs, i, d, r, e => by simp [zeX] at e
  | p :: kvs, vs, 0, d, r, e => by
    unfold KRs at r
    obtain ⟨v, q, rfl, r1, r2⟩ := r
    simp [zeX] at e
    subst e
    exact ⟨_, v, rfl, r1⟩
  | p :: kvs, vs, i + 1, d, r, e => by
    unfold KRs at r
    obtain ⟨v, q, rfl, r1, r2⟩ := r
    obtain ⟨kk, v', h1, h2⟩ := KRs.vals (i := i) (d := d) r2 (by simpa [zeX] using e)
    exact ⟨kk, v', by simpa using h1, h2⟩
theorem zEd {q : Addr} {kvs : List (Int × D)} {vs : List (Key × V)} {ob : Obj} (hq : H q = some (.frz ob (.dK vs))) (Fq : F q) (r : KRs ρ H kvs vs) : zfU G F ρ H (Itv ob q vs) (zeX kvs, []) := by
  intro F' ρ' h' H' i ex hr' _
  have hq' : H' q = some (.frz ob (.dK vs)) := by rw [ex.frm q Fq]; exact hq
  have r' : KRs ρ' H' kvs vs := r.map fun p _ v => RD.ext ex _ _
  have hl := r.length
  refine ⟨fun d hd => ?_, fun hle => ⟨hq', by rw [<- hl]; simpa [zeX] using hle⟩⟩
  obtain ⟨kk, v, h1, h2⟩ := r'.vals hd
  refine ⟨⟨hq', (List.getElem?_eq_some_iff.mp h1).1⟩, fun x H2 ⟨y1, kk', y2⟩ => ?_⟩
  subst y1
  rw [h1] at y2; cases y2
  exact ⟨Ext.refl, hr', h2⟩
structure zqf (X : Cx) (F : Addr -> Prop) (G : GP) (ρ : List Addr) (H : Hp) (n : Nat) (q : Addr) (ob : Obj) (kvs : List (Int × D)) (vs : List (Key × V)) : Prop where
  nf : zfk X q
  nq : ¬ F q
  eq : ρ[n]? = some q
  hq : H q = some (.dK vs)
  rs : KRs ρ H kvs vs
theorem zhG {n : Nat} {q : Addr} {ob : Obj} {kvs : List (Int × D)} {vs : List (Key × V)} {ρ2 : List Addr} {H2 : Hp} {h2 : MH} (Z : zqf X F G ρ H n q ob kvs vs) (e1 : Ext F ρ ρ H (upd H q (.frz ob (.dK vs)))) (ex : Ext (fun b => F b ∨ b = q) ρ ρ2 (upd H q (.frz ob (.dK vs))) H2) (hr2 : HR (fun b => F b ∨ b = q) G ρ2 h2 H2) (hh : h2[n]? = some .hole) :
    H2 q = some (.frz ob (.dK vs)) ∧ HR F G ρ2 (h2.set n (.dic kvs)) (upd H2 q (.dK vs)) ∧ Ext F ρ ρ2 H (upd H2 q (.dK vs)) ∧ Ext F ρ2 ρ2 H2 (upd H2 q (.dK vs)) := by
  have hq2 : H2 q = some (.frz ob (.dK vs)) := by rw [ex.frm q (.inr rfl)]; exact zbN
  have exF : Ext F ρ ρ2 H H2 := e1.trans (ex.sub fun b hb => .inl hb)
  obtain ⟨g1, g2⟩ := HR.thaw Z.nq hr2 hh (ex.get Z.eq) hq2 (Z.rs.map fun p _ v => RD.ext exF _ _)
  exact ⟨hq2, g1, exF.trans g2, g2⟩
theorem zFj {n : Nat} {q : Addr} {ob : Obj} {kvs : List (Int × D)} {vs : List (Key × V)} {r : RS} {E : zeV} (Z : zqf X F G ρ H n q ob kvs vs) (e1 : Ext F ρ ρ H (upd H q (.frz ob (.dK vs)))) (w : wpS F W G ρ H (zfN n kvs r) E) :
    wpS (fun b => F b ∨ b = q) W G ρ (upd H q (.frz ob (.dK vs))) r { nx := fun σ' H' => zdx X (E.nx σ') H', rt := fun v H' => zdx X (E.rt v) H', bk := fun σ' H' => zdx X (E.bk σ') H', ct := fun σ' H' => zdx X (E.ct σ') H' } := by
  cases r with
  | nx e h2 =>
    intro ρ2 H2 σ2 ex er hr2
    simp only [zfN] at w
    by_cases hh : h2[n]? = some .hole
    . rw [if_pos hh] at w
      obtain ⟨g0, g1, g2, g3⟩ := zhG Z e1 ex hr2 hh
      exact ⟨q, ob, vs, g0, Z.nf, w ρ2 _ σ2 g2 (er.ext g3) g1⟩
    . rw [if_neg hh] at w; exact w.elim
  | bk e h2 =>
    intro ρ2 H2 σ2 ex er hr2
    simp only [zfN] at w
    by_cases hh : h2[n]? = some .hole
    . rw [if_pos hh] at w
      obtain ⟨g0, g1, g2, g3⟩ := zhG Z e1 ex hr2 hh
      exact ⟨q, ob, vs, g0, Z.nf, w ρ2 _ σ2 g2 (er.ext g3) g1⟩
    . rw [if_neg hh] at w; exact w.elim
  | ct e h2 =>
    intro ρ2 H2 σ2 ex er hr2
    simp only [zfN] at w
    by_cases hh : h2[n]? = some .hole
    . rw [if_pos hh] at w
      obtain ⟨g0, g1, g2, g3⟩ := zhG Z e1 ex hr2 hh
      exact ⟨q, ob, vs, g0, Z.nf, w ρ2 _ σ2 g2 (er.ext g3) g1⟩
    . rw [if_neg hh] at w; exact w.elim
  | rt v h2 =>
    intro ρ2 H2 v2 ex hr2 rd
    simp only [zfN] at w
    by_cases hh : h2[n]? = some .hole
    . rw [if_pos hh] at w
      obtain ⟨g0, g1, g2, g3⟩ := zhG Z e1 ex hr2 hh
      exact ⟨q, ob, vs, g0, Z.nf, w ρ2 _ v2 g2 g1 (RD.ext g3 _ _ rd)⟩
    . rw [if_neg hh] at w; exact w.elim
  | ex c h2 => exact w.elim
  | bad => exact w.elim
variable {m1 : MS} {t : Tg} {bd : List Stmt} {cond : ME Bool} {me : ME D} {N : List Str} {js : List (Option Nat)} {scope : Scope} {elt : Expr} {ifs : List Expr}
theorem zFv {pr : List (Int × D) -> List D} {It' : Obj -> Addr -> List (Key × V) -> It} {E : zeV} (src : ∀ {F : Addr -> Prop} {ρ : List Addr} {H : Hp} {q : Addr} {kvs : List (Int × D)} {vs : List (Key × V)} {ob : Obj}, H q = some (.frz ob (.dK vs)) -> F q -> KRs ρ H kvs vs -> zfU G F ρ H (It' ob q vs) (pr kvs, []))
    (w : tS W G (zhw pr t mo m1) E σ H) : zsv (fun σ H R => tE W G mo σ H fun x H1 => ∃ a kvs, x = .ref a ∧ H1 a = some (.dK kvs) ∧ ∀ ob, zfk X a -> R (It' ob a kvs) (upd H1 a (.frz ob (.dK kvs)))) (tTg G t) (tS W G m1)
      { nx := fun σ' H' => zdx X (E.nx σ') H', rt := fun v H' => zdx X (E.rt v) H', bk := fun σ' H' => zdx X (E.bk σ') H', ct := fun σ' H' => zdx X (E.ct σ') H' } σ H := by
  obtain ⟨F, ρ, env, h, er, hr, w⟩ := w
  refine ⟨F, ρ, env, h, er, hr, zc6 w fun x h1 ρ1 H1 y e1 er1 hr1 r1 w1 => ?_⟩
  cases x with
  | obj n =>
    dsimp only at w1
    cases qo : h1[n]? with
    | none => rw [qo] at w1; exact w1.elim
    | some o =>
      rw [qo] at w1
      cases o with
      | dic kvs =>
        obtain ⟨q, vs, rfl, eq, hq, rs⟩ := hr1.dic r1 qo
        refine ⟨q, vs, rfl, hq, fun ob nf => ?_⟩
        obtain ⟨g1, g2⟩ := hr1.freeze (ob := ob) qo eq hq
        have nq : ¬ F q := fun z => by have := (hr1.pro q z).2 n _ eq qo; cases this
        exact zty (src zbN (.inr rfl) (rs.map fun p _ v => RD.ext g2 _ _)) (er1.ext g2) g1 (zFj ⟨nf, nq, eq, hq, rs⟩ g2 w1)
      | _ => exact w1.elim
  | _ => exact w1.elim
theorem zEy (hp : PassesOwn (model X.prog X.w) X.A X.env X.xe) (ho : JE X o (tE W G mo)) (hg : JG X (.Tuple es k tp) (tTg G t)) (hb : JSs X bd (tS W G m1)) (hc : X.calm = true := by rfl) (hbase : attributeBase o "items" X.env (eval o X.env) = eval o X.env := by rfl) (hline : (apos.endLine == cpos.line) = true := by rfl)
    (hs : ∀ x, foldedSetIterable (.Call (.Attribute o "items" apos) [] [] cpos) X.env x = pure x := by intro _; rfl) : JS X (.For (.Tuple es k tp) (.Call (.Attribute o "items" apos) [] [] cpos) bd [] pos) (tS W G (zhw ze0 t mo m1)) :=
  .of (zdt (zAm (zto hp hc (zCK ho.to hbase hline) hg.to hb.to hs)) fun E σ H w => zFv (fun h1 h2 h3 => zEt h1 h2 h3) w)
theorem zFk {pr : List (Int × D) -> List D} {It' : Obj -> Addr -> List (Key × V) -> It} {Q : VK} (src : ∀ {F : Addr -> Prop} {ρ : List Addr} {H : Hp} {q : Addr} {kvs : List (Int × D)} {vs : List (Key × V)} {ob : Obj}, H q = some (.frz ob (.dK vs)) -> F q -> KRs ρ H kvs vs -> zfU G F ρ H (It' ob q vs) (pr kvs, []))
    (w : tN W G (zhD pr js t mo cond me) σ H Q) : ziO js (fun σ H R => tE W G mo σ H fun x H1 => ∃ a kvs, x = .ref a ∧ H1 a = some (.dK kvs) ∧ ∀ ob, zfk X a -> R (It' ob a kvs) (upd H1 a (.frz ob (.dK kvs)))) (tTg G t) (tT W G cond) (tE W G me) σ H (fun v H' => zdx X (Q v) H') := by
  obtain ⟨F, ρ, env, h, er, hr, w⟩ := w
  refine ⟨F, ρ, env, h, er, hr, zG w fun x h1 ρ1 H1 y e1 er1 hr1 r1 w1 => ?_⟩
  cases x with
  | obj n =>
    dsimp only at w1
    cases qo : h1[n]? with
    | none => rw [qo] at w1; exact w1.elim
    | some o =>
      rw [qo] at w1
      cases o with
      | dic kvs =>
        dsimp only at w1
        obtain ⟨q, vs, rfl, eq, hq, rs⟩ := hr1.dic r1 qo
        refine ⟨q, vs, rfl, hq, fun ob nf => ?_⟩
        intro D hD
        obtain ⟨g1, g2⟩ := hr1.freeze (ob := ob) qo eq hq
        have nq : ¬ F q := fun z => by have := (hr1.pro q z).2 n _ eq qo; cases this
        by_cases hlen : (pr kvs).length <= 1000000
        . rw [if_pos hlen] at w1
          refine zrT (F := fun b => F b ∨ b = q) (p := (pr kvs, [])) (t := t) hlen (src zbN (.inr rfl) (rs.map fun p _ v => RD.ext g2 _ _)) (er1.ext g2) g1 ?_ D hD
          cases ec : zbW t [] cond me (pr kvs) [] (zbT js env) (h1.set n .hole) with
          | ok xs h2 =>
            rw [ec] at w1
            simp only [ziF] at w1
            intro ρ2 H2 v2 ex er2 hr2 ⟨d, us, ev, hd, fr, rus⟩
            by_cases hh : h2[n]? = some .hole
            . rw [if_pos hh] at w1
              have Z : zqf X F G ρ1 H1 n q ob kvs vs := ⟨nf, nq, eq, hq, rs⟩
              obtain ⟨k0, k1, k2, k3⟩ := zhG Z g2 ex hr2 hh
              have dq : d ≠ q := fun z => by rw [z, k0] at hd; cases hd
              refine ⟨q, ob, vs, k0, nf, w1 ρ2 _ v2 k2 (er2.ext k3) k1 ⟨d, us, ev, by rw [zD dq]; exact hd, ⟨fun z => fr.1 (.inl z), fun m x z1 z2 => ?_⟩, RDs.ext k3 _ _ rus⟩⟩
              by_cases hm : n = m
              . subst hm
                rw [ex.get eq] at z1; cases z1; exact absurd rfl dq
              . rw [List.getElem?_set_ne hm] at z2
                exact fr.2 m x z1 z2
            . rw [if_neg hh] at w1; exact w1.elim
          | ex c h2 => rw [ec] at w1; exact w1.elim
          | bad => rw [ec] at w1; exact w1.elim
        . rw [if_neg hlen] at w1; exact w1.elim
      | _ => exact w1.elim
  | _ => exact w1.elim
theorem zEo (hc : X.calm = true) (S : zbX X scope N js) (ho : JE X o (tE W G mo)) (hg : ∀ cl s₀ H₀ fp, JG (zcg X scope N cl s₀ H₀ fp) tg (tTg G t)) (hf : ∀ cl s₀ H₀ fp, zez (zcg X scope N cl s₀ H₀ fp) ifs (tT W G cond)) (he : ∀ cl s₀ H₀ fp, JE (zcg X scope N cl s₀ H₀ fp) elt (tE W G me))
    (hbase : attributeBase o "values" X.env (eval o X.env) = eval o X.env := by rfl) (hline : (apos.endLine == cpos.line) = true := by rfl) (hs : ∀ x, foldedSetIterable (.Call (.Attribute o "values" apos) [] [] cpos) X.env x = pure x := by intro _; rfl) :
    JE X (.ListComp elt [⟨tg, .Call (.Attribute o "values" apos) [] [] cpos, ifs, 0⟩] scope pos) (tN W G (zhD zeX js t mo cond me)) :=
  .of (z3 (zBP (ztg hc S (zFa ho.to hbase hline) ⟨fun cl s₀ H₀ fp => ⟨(hg cl s₀ H₀ fp).to, (hf cl s₀ H₀ fp).to, (he cl s₀ H₀ fp).to⟩⟩ hs)) fun σ H Q w => zFk (fun h1 h2 h3 => zEd h1 h2 h3) w)
end
end MI
end
section
open PySem L2 MI
namespace My
def top (i : Nat) : Stmt := PySem.Challenge.pw_closering_k01_whole_levels.main.body.getD i (.Pass ⟨0, 0, 0, 0⟩)
abbrev zf8 : Stmt := top 5
theorem zt9 : zZ ["value"] ["value"] (zo zf8) := ⟨rfl, rfl, rfl, by decide +kernel, rfl, by decide +kernel, by decide +kernel⟩
abbrev zf9 : Stmt := top 6
theorem zua : zZ ["value", "least", "most"] ["value", "least", "most"] (zo zf9) := ⟨rfl, rfl, rfl, by decide +kernel, rfl, by decide +kernel, by decide +kernel⟩
abbrev zga : Stmt := top 7
theorem zub : zZ ["points", "value"] ["points", "value"] (zo zga) := ⟨rfl, rfl, rfl, by decide +kernel, rfl, by decide +kernel, by decide +kernel⟩
abbrev zgb : Stmt := top 8
theorem zuc : zZ ["points", "value"] ["points", "value"] (zo zgb) := ⟨rfl, rfl, rfl, by decide +kernel, rfl, by decide +kernel, by decide +kernel⟩
abbrev zfv : Stmt := top 9
theorem zud : zZ ["points", "value"] ["points", "value"] (zo zfv) := ⟨rfl, rfl, rfl, by decide +kernel, rfl, by decide +kernel, by decide +kernel⟩
abbrev zdK : Stmt := top 10
theorem zue : zZ ["one", "other", "turn"] ["one", "other", "turn"] (zo zdK) := ⟨rfl, rfl, rfl, by decide +kernel, rfl, by decide +kernel, by decide +kernel⟩
abbrev zgd : Stmt := zg8 (top 12) 0
theorem zuf : zZ ["self", "points", "ties", "turn"] ["self", "points", "ties", "turn"] (zo zgd) := ⟨rfl, rfl, rfl, by decide +kernel, rfl, by decide +kernel, by decide +kernel⟩
abbrev zbR : Stmt := zg8 (top 12) 1
theorem zug : zZ ["self"] ["self"] (zo zbR) := ⟨rfl, rfl, rfl, by decide +kernel, rfl, by decide +kernel, by decide +kernel⟩
abbrev zgc : Stmt := top 13
theorem zuh : zZ ["tie"] ["tie"] (zo zgc) := ⟨rfl, rfl, rfl, by decide +kernel, rfl, by decide +kernel, by decide +kernel⟩
abbrev ze8 : Stmt := top 14
theorem zui : zZ ["web"] ["web"] (zo ze8) := ⟨rfl, rfl, rfl, by decide +kernel, rfl, by decide +kernel, by decide +kernel⟩
abbrev ze9 : Stmt := top 18
theorem zuj : zZ ["ties", "value"] ["ties", "value"] (zo ze9) := ⟨rfl, rfl, rfl, by decide +kernel, rfl, by decide +kernel, by decide +kernel⟩
abbrev zfa : Stmt := top 19
theorem zuk : zZ ["ties", "value"] ["ties", "value"] (zo zfa) := ⟨rfl, rfl, rfl, by decide +kernel, rfl, by decide +kernel, by decide +kernel⟩
abbrev zdU : Stmt := top 20
theorem zqm : zZ ["ties", "step", "tie"] ["ties", "step"] (zo zdU) := ⟨rfl, rfl, rfl, by decide +kernel, rfl, by decide +kernel, by decide +kernel⟩
abbrev zfw : Stmt := top 21
theorem zgx : zZ ["web", "start", "steps", "ties", "gone", "here", "step"] ["web", "start", "steps"] (zo zfw) := ⟨rfl, rfl, rfl, by decide +kernel, rfl, by decide +kernel, by decide +kernel⟩
abbrev zfx : Stmt := top 25
theorem zul : zZ ["web"] ["web"] (zo zfx) := ⟨rfl, rfl, rfl, by decide +kernel, rfl, by decide +kernel, by decide +kernel⟩
abbrev zeN : Stmt := top 26
theorem zib : zZ ["web", "chosen", "ties", "found", "place"] ["web", "chosen"] (zo zeN) := ⟨rfl, rfl, rfl, by decide +kernel, rfl, by decide +kernel, by decide +kernel⟩
abbrev zfc : Stmt := top 27
theorem zge : zZ ["ties", "onward", "start", "arrived", "waiting", "place", "here", "step", "there"] ["ties", "onward", "start", "arrived"] (zo zfc) := ⟨rfl, rfl, rfl, by decide +kernel, rfl, by decide +kernel, by decide +kernel⟩
abbrev zfy : Stmt := top 28
theorem zqn : zZ ["web", "chosen", "start", "arrived"] ["web", "chosen", "start"] (zo zfy) := ⟨rfl, rfl, rfl, by decide +kernel, rfl, by decide +kernel, by decide +kernel⟩
abbrev zfz : Stmt := top 29
theorem zhm : zZ ["web", "chosen", "ties", "onward", "arrived", "point"] ["web", "chosen"] (zo zfz) := ⟨rfl, rfl, rfl, by decide +kernel, rfl, by decide +kernel, by decide +kernel⟩
abbrev zfA : Stmt := top 30
theorem zhn : zZ ["web", "arrived", "goal", "ties", "steps", "here"] ["web", "arrived", "goal"] (zo zfA) := ⟨rfl, rfl, rfl, by decide +kernel, rfl, by decide +kernel, by decide +kernel⟩
abbrev zfd : Stmt := top 31
theorem zum : zZ ["arrived"] ["arrived"] (zo zfd) := ⟨rfl, rfl, rfl, by decide +kernel, rfl, by decide +kernel, by decide +kernel⟩
abbrev zeL : Stmt := top 34
theorem zun : zZ ["values", "count"] ["values", "count"] (zo zeL) := ⟨rfl, rfl, rfl, by decide +kernel, rfl, by decide +kernel, by decide +kernel⟩
abbrev zfb : Stmt := top 36
theorem zuo : zZ ["values"] ["values"] (zo zfb) := ⟨rfl, rfl, rfl, by decide +kernel, rfl, by decide +kernel, by decide +kernel⟩
abbrev zgy : Stmt := zg8 (top 39) 0
theorem zup : zZ ["self", "heights"] ["self", "heights"] (zo zgy) := ⟨rfl, rfl, rfl, by decide +kernel, rfl, by decide +kernel, by decide +kernel⟩
abbrev zeM : Stmt := zg8 (top 39) 1
theorem zqo : zZ ["self", "web", "found"] ["self", "web"] (zo zeM) := ⟨rfl, rfl, rfl, by decide +kernel, rfl, by decide +kernel, by decide +kernel⟩
abbrev zgz : Stmt := zg8 (top 40) 0
theorem zuq : zZ ["self", "steps"] ["self", "steps"] (zo zgz) := ⟨rfl, rfl, rfl, by decide +kernel, rfl, by decide +kernel, by decide +kernel⟩
abbrev zdV : Stmt := zg8 (top 40) 1
theorem zjc : zZ ["self", "web", "start", "gone"] ["self", "web"] (zo zdV) := ⟨rfl, rfl, rfl, by decide +kernel, rfl, by decide +kernel, by decide +kernel⟩
abbrev zfB : Stmt := top 49
theorem zgA : zZ ["web", "arrived", "ties", "heights", "point", "step", "made"] ["web", "arrived"] (zo zfB) := ⟨rfl, rfl, rfl, by decide +kernel, rfl, by decide +kernel, by decide +kernel⟩
abbrev zfC : Stmt := top 50
theorem zqp : zZ ["web", "arrived", "place", "tie"] ["web", "arrived", "place"] (zo zfC) := ⟨rfl, rfl, rfl, by decide +kernel, rfl, by decide +kernel, by decide +kernel⟩
abbrev zfD : Stmt := top 51
theorem zho : zZ ["web", "arrived", "heights", "place", "tie"] ["web"] (zo zfD) := ⟨rfl, rfl, rfl, by decide +kernel, rfl, by decide +kernel, by decide +kernel⟩
abbrev zgB : Stmt := top 53
theorem zur : zZ ["_law_script", "_law_k"] ["_law_script", "_law_k"] (zo zgB) := ⟨rfl, rfl, rfl, by decide +kernel, rfl, by decide +kernel, by decide +kernel⟩
abbrev zgC : Stmt := top 54
theorem zqq : zZ ["_law_cell", "_law_k", "_law_many", "_law_primes"] ["_law_cell", "_law_k", "_law_many"] (zo zgC) := ⟨rfl, rfl, rfl, by decide +kernel, rfl, by decide +kernel, by decide +kernel⟩
abbrev zgD : Stmt := top 55
theorem zcG : zZ ["_law_script", "_law_few", "_law_points", "_law_turn", "_law_most", "_law_wrong", "_law_halves", "_law_ties", "_law_k", "_law_one", "_law_other", "_law_low", "_law_many", "_law_by", "_law_number"] ["_law_script"] (zo zgD) := ⟨rfl, rfl, rfl, by decide +kernel, rfl, by decide +kernel, by decide +kernel⟩
abbrev zgE : Stmt := top 56
theorem zus : zZ ["_law_number", "_law_turn"] ["_law_number", "_law_turn"] (zo zgE) := ⟨rfl, rfl, rfl, by decide +kernel, rfl, by decide +kernel, by decide +kernel⟩
abbrev zgF : Stmt := top 57
theorem zgf : zZ ["_law_ties", "_law_start_here", "_law_steps", "_law_points", "_law_total", "_law_step", "_law_at", "_law_way", "_law_ends"] ["_law_ties", "_law_start_here", "_law_steps"] (zo zgF) := ⟨rfl, rfl, rfl, by decide +kernel, rfl, by decide +kernel, by decide +kernel⟩
abbrev zgg : Stmt := top 58
theorem zut : zZ ["_law_found"] ["_law_found"] (zo zgg) := ⟨rfl, rfl, rfl, by decide +kernel, rfl, by decide +kernel, by decide +kernel⟩
abbrev zgG : Stmt := top 59
theorem zjd : zZ ["_law_ties", "_law_steps", "_law_at", "_law_way"] ["_law_ties", "_law_steps"] (zo zgG) := ⟨rfl, rfl, rfl, by decide +kernel, rfl, by decide +kernel, by decide +kernel⟩
abbrev zfE : Stmt := top 60
theorem zje : zZ ["_law_points", "_law_ties", "_law_turn", "_law_found", "_law_came", "_law_total"] ["_law_points", "_law_ties", "_law_turn", "_law_found"] (zo zfE) := ⟨rfl, rfl, rfl, by decide +kernel, rfl, by decide +kernel, by decide +kernel⟩
abbrev zgH : Stmt := top 61
theorem zqr : zZ ["_law_points", "_law_ties", "_law_turn", "_law_found", "_law_others"] ["_law_points", "_law_ties", "_law_turn", "_law_found"] (zo zgH) := ⟨rfl, rfl, rfl, by decide +kernel, rfl, by decide +kernel, by decide +kernel⟩
abbrev zgh : Stmt := top 62
theorem zfe : zZ ["_law_script", "_law_points", "_law_ties", "_law_turn", "_law_handed", "_law_web_here", "_law_again", "_law_found", "_law_turned"] ["_law_script"] (zo zgh) := ⟨rfl, rfl, rfl, by decide +kernel, rfl, by decide +kernel, by decide +kernel⟩
def anL : List Str := ["points", "turn", "triples", "heights", "steps", "kept", "parts", "camps", "tie"]
theorem zE2 : anL.Nodup := by decide +kernel
theorem zc7 : anL.contains "ties" = false := by decide +kernel
theorem zfF : anL.contains "shows" = false := by decide +kernel
set_option maxHeartbeats 4000000 in
structure TX (K : PySem.W.Frag) (mg : Str -> Option Value) where
  zcU : DF K "is_number" "is_number" zf8 ["value"]
  zdT : mg "is_number" = some (.ref zcU.a)
  zcr : DF K "is_within" "is_within" zf9 ["value", "least", "most"]
  zc9 : mg "is_within" = some (.ref zcr.a)
  zcV : DF K "is_point" "is_point" zga ["points", "value"]
  zey : mg "is_point" = some (.ref zcV.a)
  zdW : DF K "is_tie" "is_tie" zgb ["points", "value"]
  zfV : mg "is_tie" = some (.ref zdW.a)
  zdX : DF K "own_tie" "own_tie" zfv ["points", "value"]
  zfs : mg "own_tie" = some (.ref zdX.a)
  zcW : DF K "alike" "alike" zdK ["one", "other", "turn"]
  zdH : mg "alike" = some (.ref zcW.a)
  zda : DF K "__init__" "Web.__init__" zgd ["self", "points", "ties", "turn"]
  zbS : DF K "ties" "Web.ties" zbR ["self"]
  zdk : DF K "turned" "turned" zgc ["tie"]
  zeH : mg "turned" = some (.ref zdk.a)
  zdl : DF K "about" "about" ze8 ["web"]
  zdj : mg "about" = some (.ref zdl.a)
  zdY : DF K "is_place" "is_place" ze9 ["ties", "value"]
  zfW : mg "is_place" = some (.ref zdY.a)
  zdm : DF K "is_step" "is_step" zfa ["ties", "value"]
  zeI : mg "is_step" = some (.ref zdm.a)
  zcs : DF K "leg" "leg" zdU ["ties", "step"]
  zci : mg "leg" = some (.ref zcs.a)
  zdZ : DF K "legs" "legs" zfw ["web", "start", "steps"]
  zfX : mg "legs" = some (.ref zdZ.a)
  zd0 : DF K "every_tie" "every_tie" zfx ["web"]
  zfY : mg "every_tie" = some (.ref zd0.a)
  zdn : DF K "steps_from" "steps_from" zeN ["web", "chosen"]
  ze6 : mg "steps_from" = some (.ref zdn.a)
  zdo : DF K "spread" "spread" zfc ["ties", "onward", "start", "arrived"]
  zeJ : mg "spread" = some (.ref zdo.a)
  zd1 : DF K "reach" "reach" zfy ["web", "chosen", "start"]
  zfZ : mg "reach" = some (.ref zd1.a)
  zd2 : DF K "reach_all" "reach_all" zfz ["web", "chosen"]
  zf0 : mg "reach_all" = some (.ref zd2.a)
  zd3 : DF K "trace" "trace" zfA ["web", "arrived", "goal"]
  zf1 : mg "trace" = some (.ref zd3.a)
  zd4 : DF K "ties_taken" "ties_taken" zfd ["arrived"]
  zf2 : mg "ties_taken" = some (.ref zd4.a)
  zd5 : DF K "are_numbers" "are_numbers" zeL ["values", "count"]
  zf3 : mg "are_numbers" = some (.ref zd5.a)
  zdp : DF K "are_different" "are_different" zfb ["values"]
  ze7 : mg "are_different" = some (.ref zdp.a)
  zd6 : DF K "__init__" "Heights.__init__" zgy ["self", "heights"]
  zdb : DF K "shows" "Heights.shows" zeM ["self", "web"]
  zd7 : DF K "__init__" "Ring.__init__" zgz ["self", "steps"]
  zdc : DF K "shows" "Ring.shows" zdV ["self", "web"]
  zd8 : DF K "heights_along" "heights_along" zfB ["web", "arrived"]
  zf4 : mg "heights_along" = some (.ref zd8.a)
  zd9 : DF K "ring_by" "ring_by" zfC ["web", "arrived", "place"]
  zft : mg "ring_by" = some (.ref zd9.a)
  zea : DF K "levels" "levels" zfD ["web"]
  zdJ : mg "levels" = some (.ref zea.a)
  zca : DF K "_law_cell_at" "_law_cell_at" zgB ["_law_script", "_law_k"]
  zcF : mg "_law_cell_at" = some (.ref zca.a)
  zbk : DF K "_law_draw" "_law_draw" zgC ["_law_cell", "_law_k", "_law_many"]
  zH : mg "_law_draw" = some (.ref zbk.a)
  zeb : DF K "_law_web" "_law_web" zgD ["_law_script"]
  zfu : mg "_law_web" = some (.ref zeb.a)
  zdq : DF K "_law_nought" "_law_nought" zgE ["_law_number", "_law_turn"]
  zeK : mg "_law_nought" = some (.ref zdq.a)
  zec : DF K "_law_walk" "_law_walk" zgF ["_law_ties", "_law_start_here", "_law_steps"]
  zf5 : mg "_law_walk" = some (.ref zec.a)
  zed : DF K "_law_numbers" "_law_numbers" zgg ["_law_found"]
  zf6 : mg "_law_numbers" = some (.ref zed.a)
  zee : DF K "_law_start" "_law_start" zgG ["_law_ties", "_law_steps"]
  zf7 : mg "_law_start" = some (.ref zee.a)
  zcX : DF K "_law_due" "_law_due" zfE ["_law_points", "_law_ties", "_law_turn", "_law_found"]
  zb1 : mg "_law_due" = some (.ref zcX.a)
  zef : DF K "_law_right" "_law_right" zgH ["_law_points", "_law_ties", "_law_turn", "_law_found"]
  zcT : mg "_law_right" = some (.ref zef.a)
  zdr : DF K "law" "law" zgh ["_law_script"]
  zhl : mg "law" = some (.ref zdr.a)
  zO : CF K mg "Web"
  zhp : Mk K zO.c zda.a
  zcK : zfl K zO.c "ties" zbS.a
  zgI : zb3 K zO.c "points"
  zgJ : zb3 K zO.c "turn"
  zgK : zb3 K zO.c "triples"
  zbH : CF K mg "Answer"
  zba : CF K mg "Heights"
  zqs : Mk K zba.c zd6.a
  zhq : zfl K zba.c "shows" zdb.a
  zgL : zb3 K zba.c "heights"
  zbh : CF K mg "Ring"
  zqt : Mk K zbh.c zd7.a
  zhr : zfl K zbh.c "shows" zdc.a
  zgM : zb3 K zbh.c "steps"
  zbt : CF K mg "Fewest"
  zgN : zb3 K zbt.c "kept"
  zgO : zb3 K zbt.c "parts"
  zbB : CF K mg "Camps"
  zgP : zb3 K zbB.c "camps"
  zbu : CF K mg "Quarrel"
  zgQ : zb3 K zbu.c "tie"
  zgR : zb3 K zbu.c "steps"
  zbC : CF K mg "Way"
  zgS : zb3 K zbC.c "steps"
  zbD : CF K mg "Apart"
  zgT : zb3 K zbD.c "points"
  zbE : CF K mg "Around"
  zgU : zb3 K zbE.c "steps"
  zbF : CF K mg "Held"
  zgV : zb3 K zbF.c "points"
  n_list : mg "list" = none
  n_range : mg "range" = none
  n_sorted : mg "sorted" = none
  n_all : mg "all" = none
  n_dict : mg "dict" = none
  n_enumerate : mg "enumerate" = none
  n_isinstance : mg "isinstance" = none
  n_int : mg "int" = none
  n_len : mg "len" = none
  n_any : mg "any" = none
  n_bool : mg "bool" = none
  n_tuple : mg "tuple" = none
  n_set : mg "set" = none
  n_zip : mg "zip" = none
  n_sum : mg "sum" = none
  n_abs : mg "abs" = none
  v_MOST : VF mg "MOST" (.int (1000000))
  v_FORTH : VF mg "FORTH" (.int (1))
  v_BACK : VF mg "BACK" (.int (-1))
  zeg : Isa K zO.c zO.c true ∧ Isa K zO.c zbH.c false ∧ Isa K zO.c zba.c false ∧ Isa K zO.c zbh.c false ∧ Isa K zO.c zbt.c false ∧ Isa K zO.c zbB.c false ∧ Isa K zO.c zbu.c false ∧ Isa K zO.c zbC.c false ∧ Isa K zO.c zbD.c false ∧ Isa K zO.c zbE.c false ∧ Isa K zO.c zbF.c false
  zeh : Isa K zbH.c zO.c false ∧ Isa K zbH.c zbH.c true ∧ Isa K zbH.c zba.c false ∧ Isa K zbH.c zbh.c false ∧ Isa K zbH.c zbt.c false ∧ Isa K zbH.c zbB.c false ∧ Isa K zbH.c zbu.c false ∧ Isa K zbH.c zbC.c false ∧ Isa K zbH.c zbD.c false ∧ Isa K zbH.c zbE.c false ∧ Isa K zbH.c zbF.c false
  zei : Isa K zba.c zO.c false ∧ Isa K zba.c zbH.c true ∧ Isa K zba.c zba.c true ∧ Isa K zba.c zbh.c false ∧ Isa K zba.c zbt.c false ∧ Isa K zba.c zbB.c false ∧ Isa K zba.c zbu.c false ∧ Isa K zba.c zbC.c false ∧ Isa K zba.c zbD.c false ∧ Isa K zba.c zbE.c false ∧ Isa K zba.c zbF.c false
  zej : Isa K zbh.c zO.c false ∧ Isa K zbh.c zbH.c true ∧ Isa K zbh.c zba.c false ∧ Isa K zbh.c zbh.c true ∧ Isa K zbh.c zbt.c false ∧ Isa K zbh.c zbB.c false ∧ Isa K zbh.c zbu.c false ∧ Isa K zbh.c zbC.c false ∧ Isa K zbh.c zbD.c false ∧ Isa K zbh.c zbE.c false ∧ Isa K zbh.c zbF.c false
  zek : Isa K zbt.c zO.c false ∧ Isa K zbt.c zbH.c true ∧ Isa K zbt.c zba.c false ∧ Isa K zbt.c zbh.c false ∧ Isa K zbt.c zbt.c true ∧ Isa K zbt.c zbB.c false ∧ Isa K zbt.c zbu.c false ∧ Isa K zbt.c zbC.c false ∧ Isa K zbt.c zbD.c false ∧ Isa K zbt.c zbE.c false ∧ Isa K zbt.c zbF.c false
  zel : Isa K zbB.c zO.c false ∧ Isa K zbB.c zbH.c true ∧ Isa K zbB.c zba.c false ∧ Isa K zbB.c zbh.c false ∧ Isa K zbB.c zbt.c false ∧ Isa K zbB.c zbB.c true ∧ Isa K zbB.c zbu.c false ∧ Isa K zbB.c zbC.c false ∧ Isa K zbB.c zbD.c false ∧ Isa K zbB.c zbE.c false ∧ Isa K zbB.c zbF.c false
  zem : Isa K zbu.c zO.c false ∧ Isa K zbu.c zbH.c true ∧ Isa K zbu.c zba.c false ∧ Isa K zbu.c zbh.c false ∧ Isa K zbu.c zbt.c false ∧ Isa K zbu.c zbB.c false ∧ Isa K zbu.c zbu.c true ∧ Isa K zbu.c zbC.c false ∧ Isa K zbu.c zbD.c false ∧ Isa K zbu.c zbE.c false ∧ Isa K zbu.c zbF.c false
  zen : Isa K zbC.c zO.c false ∧ Isa K zbC.c zbH.c true ∧ Isa K zbC.c zba.c false ∧ Isa K zbC.c zbh.c false ∧ Isa K zbC.c zbt.c false ∧ Isa K zbC.c zbB.c false ∧ Isa K zbC.c zbu.c false ∧ Isa K zbC.c zbC.c true ∧ Isa K zbC.c zbD.c false ∧ Isa K zbC.c zbE.c false ∧ Isa K zbC.c zbF.c false
  zeo : Isa K zbD.c zO.c false ∧ Isa K zbD.c zbH.c true ∧ Isa K zbD.c zba.c false ∧ Isa K zbD.c zbh.c false ∧ Isa K zbD.c zbt.c false ∧ Isa K zbD.c zbB.c false ∧ Isa K zbD.c zbu.c false ∧ Isa K zbD.c zbC.c false ∧ Isa K zbD.c zbD.c true ∧ Isa K zbD.c zbE.c false ∧ Isa K zbD.c zbF.c false
  zep : Isa K zbE.c zO.c false ∧ Isa K zbE.c zbH.c true ∧ Isa K zbE.c zba.c false ∧ Isa K zbE.c zbh.c false ∧ Isa K zbE.c zbt.c false ∧ Isa K zbE.c zbB.c false ∧ Isa K zbE.c zbu.c false ∧ Isa K zbE.c zbC.c false ∧ Isa K zbE.c zbD.c false ∧ Isa K zbE.c zbE.c true ∧ Isa K zbE.c zbF.c false
  zeq : Isa K zbF.c zO.c false ∧ Isa K zbF.c zbH.c true ∧ Isa K zbF.c zba.c false ∧ Isa K zbF.c zbh.c false ∧ Isa K zbF.c zbt.c false ∧ Isa K zbF.c zbB.c false ∧ Isa K zbF.c zbu.c false ∧ Isa K zbF.c zbC.c false ∧ Isa K zbF.c zbD.c false ∧ Isa K zbF.c zbE.c false ∧ Isa K zbF.c zbF.c true
section
variable {K : PySem.W.Frag} {mg : Str -> Option Value}
def TX.G (T : TX K mg) : GP := ⟨K, [T.zO.c, T.zbH.c, T.zba.c, T.zbh.c, T.zbt.c, T.zbB.c, T.zbu.c, T.zbC.c, T.zbD.c, T.zbE.c, T.zbF.c], anL⟩
theorem TX.g_Web (T : TX K mg) : T.G.cm[0]? = some T.zO.c := rfl
theorem TX.g_Answer (T : TX K mg) : T.G.cm[1]? = some T.zbH.c := rfl
theorem TX.g_Heights (T : TX K mg) : T.G.cm[2]? = some T.zba.c := rfl
theorem TX.g_Ring (T : TX K mg) : T.G.cm[3]? = some T.zbh.c := rfl
theorem TX.g_Fewest (T : TX K mg) : T.G.cm[4]? = some T.zbt.c := rfl
theorem TX.g_Camps (T : TX K mg) : T.G.cm[5]? = some T.zbB.c := rfl
theorem TX.g_Quarrel (T : TX K mg) : T.G.cm[6]? = some T.zbu.c := rfl
theorem TX.g_Way (T : TX K mg) : T.G.cm[7]? = some T.zbC.c := rfl
theorem TX.g_Apart (T : TX K mg) : T.G.cm[8]? = some T.zbD.c := rfl
theorem TX.g_Around (T : TX K mg) : T.G.cm[9]? = some T.zbE.c := rfl
theorem TX.g_Held (T : TX K mg) : T.G.cm[10]? = some T.zbF.c := rfl
theorem TX.an_points (T : TX K mg) : T.G.an[0]? = some ("points" : Str) := rfl
theorem TX.an_turn (T : TX K mg) : T.G.an[1]? = some ("turn" : Str) := rfl
theorem TX.an_triples (T : TX K mg) : T.G.an[2]? = some ("triples" : Str) := rfl
theorem TX.an_heights (T : TX K mg) : T.G.an[3]? = some ("heights" : Str) := rfl
theorem TX.an_steps (T : TX K mg) : T.G.an[4]? = some ("steps" : Str) := rfl
theorem TX.an_kept (T : TX K mg) : T.G.an[5]? = some ("kept" : Str) := rfl
theorem TX.an_parts (T : TX K mg) : T.G.an[6]? = some ("parts" : Str) := rfl
theorem TX.an_camps (T : TX K mg) : T.G.an[7]? = some ("camps" : Str) := rfl
theorem TX.an_tie (T : TX K mg) : T.G.an[8]? = some ("tie" : Str) := rfl
theorem TX.zuu (T : TX K mg) : ∀ (c' : Nat) C', T.G.cm[c']? = some C' -> Isa K T.zO.c C' (zW 0 c')
  | 0, C', h => by cases h; exact T.zeg.1
  | 1, C', h => by cases h; exact T.zeg.2.1
  | 2, C', h => by cases h; exact T.zeg.2.2.1
  | 3, C', h => by cases h; exact T.zeg.2.2.2.1
  | 4, C', h => by cases h; exact T.zeg.2.2.2.2.1
  | 5, C', h => by cases h; exact T.zeg.2.2.2.2.2.1
  | 6, C', h => by cases h; exact T.zeg.2.2.2.2.2.2.1
  | 7, C', h => by cases h; exact T.zeg.2.2.2.2.2.2.2.1
  | 8, C', h => by cases h; exact T.zeg.2.2.2.2.2.2.2.2.1
  | 9, C', h => by cases h; exact T.zeg.2.2.2.2.2.2.2.2.2.1
  | 10, C', h => by cases h; exact T.zeg.2.2.2.2.2.2.2.2.2.2
  | _ + 11, C', h => by cases h
theorem TX.zuv (T : TX K mg) : ∀ (c' : Nat) C', T.G.cm[c']? = some C' -> Isa K T.zbH.c C' (zW 1 c')
  | 0, C', h => by cases h; exact T.zeh.1
  | 1, C', h => by cases h; exact T.zeh.2.1
  | 2, C', h => by cases h; exact T.zeh.2.2.1
  | 3, C', h => by cases h; exact T.zeh.2.2.2.1
  | 4, C', h => by cases h; exact T.zeh.2.2.2.2.1
  | 5, C', h => by cases h; exact T.zeh.2.2.2.2.2.1
  | 6, C', h => by cases h; exact T.zeh.2.2.2.2.2.2.1
  | 7, C', h => by cases h; exact T.zeh.2.2.2.2.2.2.2.1
  | 8, C', h => by cases h; exact T.zeh.2.2.2.2.2.2.2.2.1
  | 9, C', h => by cases h; exact T.zeh.2.2.2.2.2.2.2.2.2.1
  | 10, C', h => by cases h; exact T.zeh.2.2.2.2.2.2.2.2.2.2
  | _ + 11, C', h => by cases h
theorem TX.zuw (T : TX K mg) : ∀ (c' : Nat) C', T.G.cm[c']? = some C' -> Isa K T.zba.c C' (zW 2 c')
  | 0, C', h => by cases h; exact T.zei.1
  | 1, C', h => by cases h; exact T.zei.2.1
  | 2, C', h => by cases h; exact T.zei.2.2.1
  | 3, C', h => by cases h; exact T.zei.2.2.2.1
  | 4, C', h => by cases h; exact T.zei.2.2.2.2.1
  | 5, C', h => by cases h; exact T.zei.2.2.2.2.2.1
  | 6, C', h => by cases h; exact T.zei.2.2.2.2.2.2.1
  | 7, C', h => by cases h; exact T.zei.2.2.2.2.2.2.2.1
  | 8, C', h => by cases h; exact T.zei.2.2.2.2.2.2.2.2.1
  | 9, C', h => by cases h; exact T.zei.2.2.2.2.2.2.2.2.2.1
  | 10, C', h => by cases h; exact T.zei.2.2.2.2.2.2.2.2.2.2
  | _ + 11, C', h => by cases h
theorem TX.zux (T : TX K mg) : ∀ (c' : Nat) C', T.G.cm[c']? = some C' -> Isa K T.zbh.c C' (zW 3 c')
  | 0, C', h => by cases h; exact T.zej.1
  | 1, C', h => by cases h; exact T.zej.2.1
  | 2, C', h => by cases h; exact T.zej.2.2.1
  | 3, C', h => by cases h; exact T.zej.2.2.2.1
  | 4, C', h => by cases h; exact T.zej.2.2.2.2.1
  | 5, C', h => by cases h; exact T.zej.2.2.2.2.2.1
  | 6, C', h => by cases h; exact T.zej.2.2.2.2.2.2.1
  | 7, C', h => by cases h; exact T.zej.2.2.2.2.2.2.2.1
  | 8, C', h => by cases h; exact T.zej.2.2.2.2.2.2.2.2.1
  | 9, C', h => by cases h; exact T.zej.2.2.2.2.2.2.2.2.2.1
  | 10, C', h => by cases h; exact T.zej.2.2.2.2.2.2.2.2.2.2
  | _ + 11, C', h => by cases h
theorem TX.zuy (T : TX K mg) : ∀ (c' : Nat) C', T.G.cm[c']? = some C' -> Isa K T.zbt.c C' (zW 4 c')
  | 0, C', h => by cases h; exact T.zek.1
  | 1, C', h => by cases h; exact T.zek.2.1
  | 2, C', h => by cases h; exact T.zek.2.2.1
  | 3, C', h => by cases h; exact T.zek.2.2.2.1
  | 4, C', h => by cases h; exact T.zek.2.2.2.2.1
  | 5, C', h => by cases h; exact T.zek.2.2.2.2.2.1
  | 6, C', h => by cases h; exact T.zek.2.2.2.2.2.2.1
  | 7, C', h => by cases h; exact T.zek.2.2.2.2.2.2.2.1
  | 8, C', h => by cases h; exact T.zek.2.2.2.2.2.2.2.2.1
  | 9, C', h => by cases h; exact T.zek.2.2.2.2.2.2.2.2.2.1
  | 10, C', h => by cases h; exact T.zek.2.2.2.2.2.2.2.2.2.2
  | _ + 11, C', h => by cases h
theorem TX.zuz (T : TX K mg) : ∀ (c' : Nat) C', T.G.cm[c']? = some C' -> Isa K T.zbB.c C' (zW 5 c')
  | 0, C', h => by cases h; exact T.zel.1
  | 1, C', h => by cases h; exact T.zel.2.1
  | 2, C', h => by cases h; exact T.zel.2.2.1
  | 3, C', h => by cases h; exact T.zel.2.2.2.1
  | 4, C', h => by cases h; exact T.zel.2.2.2.2.1
  | 5, C', h => by cases h; exact T.zel.2.2.2.2.2.1
  | 6, C', h => by cases h; exact T.zel.2.2.2.2.2.2.1
  | 7, C', h => by cases h; exact T.zel.2.2.2.2.2.2.2.1
  | 8, C', h => by cases h; exact T.zel.2.2.2.2.2.2.2.2.1
  | 9, C', h => by cases h; exact T.zel.2.2.2.2.2.2.2.2.2.1
  | 10, C', h => by cases h; exact T.zel.2.2.2.2.2.2.2.2.2.2
  | _ + 11, C', h => by cases h
theorem TX.zuA (T : TX K mg) : ∀ (c' : Nat) C', T.G.cm[c']? = some C' -> Isa K T.zbu.c C' (zW 6 c')
  | 0, C', h => by cases h; exact T.zem.1
  | 1, C', h => by cases h; exact T.zem.2.1
  | 2, C', h => by cases h; exact T.zem.2.2.1
  | 3, C', h => by cases h; exact T.zem.2.2.2.1
  | 4, C', h => by cases h; exact T.zem.2.2.2.2.1
  | 5, C', h => by cases h; exact T.zem.2.2.2.2.2.1
  | 6, C', h => by cases h; exact T.zem.2.2.2.2.2.2.1
  | 7, C', h => by cases h; exact T.zem.2.2.2.2.2.2.2.1
  | 8, C', h => by cases h; exact T.zem.2.2.2.2.2.2.2.2.1
  | 9, C', h => by cases h; exact T.zem.2.2.2.2.2.2.2.2.2.1
  | 10, C', h => by cases h; exact T.zem.2.2.2.2.2.2.2.2.2.2
  | _ + 11, C', h => by cases h
theorem TX.zuB (T : TX K mg) : ∀ (c' : Nat) C', T.G.cm[c']? = some C' -> Isa K T.zbC.c C' (zW 7 c')
  | 0, C', h => by cases h; exact T.zen.1
  | 1, C', h => by cases h; exact T.zen.2.1
  | 2, C', h => by cases h; exact T.zen.2.2.1
  | 3, C', h => by cases h; exact T.zen.2.2.2.1
  | 4, C', h => by cases h; exact T.zen.2.2.2.2.1
  | 5, C', h => by cases h; exact T.zen.2.2.2.2.2.1
  | 6, C', h => by cases h; exact T.zen.2.2.2.2.2.2.1
  | 7, C', h => by cases h; exact T.zen.2.2.2.2.2.2.2.1
  | 8, C', h => by cases h; exact T.zen.2.2.2.2.2.2.2.2.1
  | 9, C', h => by cases h; exact T.zen.2.2.2.2.2.2.2.2.2.1
  | 10, C', h => by cases h; exact T.zen.2.2.2.2.2.2.2.2.2.2
  | _ + 11, C', h => by cases h
theorem TX.zuC (T : TX K mg) : ∀ (c' : Nat) C', T.G.cm[c']? = some C' -> Isa K T.zbD.c C' (zW 8 c')
  | 0, C', h => by cases h; exact T.zeo.1
  | 1, C', h => by cases h; exact T.zeo.2.1
  | 2, C', h => by cases h; exact T.zeo.2.2.1
  | 3, C', h => by cases h; exact T.zeo.2.2.2.1
  | 4, C', h => by cases h; exact T.zeo.2.2.2.2.1
  | 5, C', h => by cases h; exact T.zeo.2.2.2.2.2.1
  | 6, C', h => by cases h; exact T.zeo.2.2.2.2.2.2.1
  | 7, C', h => by cases h; exact T.zeo.2.2.2.2.2.2.2.1
  | 8, C', h => by cases h; exact T.zeo.2.2.2.2.2.2.2.2.1
  | 9, C', h => by cases h; exact T.zeo.2.2.2.2.2.2.2.2.2.1
  | 10, C', h => by cases h; exact T.zeo.2.2.2.2.2.2.2.2.2.2
  | _ + 11, C', h => by cases h
theorem TX.zuD (T : TX K mg) : ∀ (c' : Nat) C', T.G.cm[c']? = some C' -> Isa K T.zbE.c C' (zW 9 c')
  | 0, C', h => by cases h; exact T.zep.1
  | 1, C', h => by cases h; exact T.zep.2.1
  | 2, C', h => by cases h; exact T.zep.2.2.1
  | 3, C', h => by cases h; exact T.zep.2.2.2.1
  | 4, C', h => by cases h; exact T.zep.2.2.2.2.1
  | 5, C', h => by cases h; exact T.zep.2.2.2.2.2.1
  | 6, C', h => by cases h; exact T.zep.2.2.2.2.2.2.1
  | 7, C', h => by cases h; exact T.zep.2.2.2.2.2.2.2.1
  | 8, C', h => by cases h; exact T.zep.2.2.2.2.2.2.2.2.1
  | 9, C', h => by cases h; exact T.zep.2.2.2.2.2.2.2.2.2.1
  | 10, C', h => by cases h; exact T.zep.2.2.2.2.2.2.2.2.2.2
  | _ + 11, C', h => by cases h
theorem TX.zuE (T : TX K mg) : ∀ (c' : Nat) C', T.G.cm[c']? = some C' -> Isa K T.zbF.c C' (zW 10 c')
  | 0, C', h => by cases h; exact T.zeq.1
  | 1, C', h => by cases h; exact T.zeq.2.1
  | 2, C', h => by cases h; exact T.zeq.2.2.1
  | 3, C', h => by cases h; exact T.zeq.2.2.2.1
  | 4, C', h => by cases h; exact T.zeq.2.2.2.2.1
  | 5, C', h => by cases h; exact T.zeq.2.2.2.2.2.1
  | 6, C', h => by cases h; exact T.zeq.2.2.2.2.2.2.1
  | 7, C', h => by cases h; exact T.zeq.2.2.2.2.2.2.2.1
  | 8, C', h => by cases h; exact T.zeq.2.2.2.2.2.2.2.2.1
  | 9, C', h => by cases h; exact T.zeq.2.2.2.2.2.2.2.2.2.1
  | 10, C', h => by cases h; exact T.zeq.2.2.2.2.2.2.2.2.2.2
  | _ + 11, C', h => by cases h
theorem TX.ok (T : TX K mg) : T.G.Ok zW zfp where
  cls := fun c C h => match c, h with
    | 0, h => by cases h; exact ⟨T.zO.cl, T.zO.ic⟩
    | 1, h => by cases h; exact ⟨T.zbH.cl, T.zbH.ic⟩
    | 2, h => by cases h; exact ⟨T.zba.cl, T.zba.ic⟩
    | 3, h => by cases h; exact ⟨T.zbh.cl, T.zbh.ic⟩
    | 4, h => by cases h; exact ⟨T.zbt.cl, T.zbt.ic⟩
    | 5, h => by cases h; exact ⟨T.zbB.cl, T.zbB.ic⟩
    | 6, h => by cases h; exact ⟨T.zbu.cl, T.zbu.ic⟩
    | 7, h => by cases h; exact ⟨T.zbC.cl, T.zbC.ic⟩
    | 8, h => by cases h; exact ⟨T.zbD.cl, T.zbD.ic⟩
    | 9, h => by cases h; exact ⟨T.zbE.cl, T.zbE.ic⟩
    | 10, h => by cases h; exact ⟨T.zbF.cl, T.zbF.ic⟩
    | _ + 11, h => by cases h
  noat := fun c C k f h1 h2 h3 => by
    have h2 := List.contains_iff_mem.mp h2
    simp only [List.mem_cons, Prod.mk.injEq, List.not_mem_nil, or_false] at h2
    rcases h2 with ⟨rfl, rfl⟩ | ⟨rfl, rfl⟩ | ⟨rfl, rfl⟩ | ⟨rfl, rfl⟩ | ⟨rfl, rfl⟩ | ⟨rfl, rfl⟩ | ⟨rfl, rfl⟩ | ⟨rfl, rfl⟩ | ⟨rfl, rfl⟩ | ⟨rfl, rfl⟩ | ⟨rfl, rfl⟩ | ⟨rfl, rfl⟩ | ⟨rfl, rfl⟩ | ⟨rfl, rfl⟩
    . cases h1; cases h3; exact T.zgI
    . cases h1; cases h3; exact T.zgJ
    . cases h1; cases h3; exact T.zgK
    . cases h1; cases h3; exact T.zgL
    . cases h1; cases h3; exact T.zgM
    . cases h1; cases h3; exact T.zgN
    . cases h1; cases h3; exact T.zgO
    . cases h1; cases h3; exact T.zgP
    . cases h1; cases h3; exact T.zgQ
    . cases h1; cases h3; exact T.zgR
    . cases h1; cases h3; exact T.zgS
    . cases h1; cases h3; exact T.zgT
    . cases h1; cases h3; exact T.zgU
    . cases h1; cases h3; exact T.zgV
  nd := zE2
  isa := fun c c' C C' h1 h2 => match c, h1 with
    | 0, h1 => by cases h1; exact T.zuu c' C' h2
    | 1, h1 => by cases h1; exact T.zuv c' C' h2
    | 2, h1 => by cases h1; exact T.zuw c' C' h2
    | 3, h1 => by cases h1; exact T.zux c' C' h2
    | 4, h1 => by cases h1; exact T.zuy c' C' h2
    | 5, h1 => by cases h1; exact T.zuz c' C' h2
    | 6, h1 => by cases h1; exact T.zuA c' C' h2
    | 7, h1 => by cases h1; exact T.zuB c' C' h2
    | 8, h1 => by cases h1; exact T.zuC c' C' h2
    | 9, h1 => by cases h1; exact T.zuD c' C' h2
    | 10, h1 => by cases h1; exact T.zuE c' C' h2
    | _ + 11, h1 => by cases h1
end
end My
end
section
open PySem L2 MI
namespace My
section
variable {P : Program} {w : World} {K : PySem.W.Frag} {mg : Str -> Option Value} {base : Heap}
set_option maxHeartbeats 4000000 in
theorem zjf (T : TX K mg) : zI P w K mg base CX0 1 T.zcU.a T.zcU.d ["value"] (spM T.G 1 zdT) :=
  zbc (k := 0) T.zcU.F zt9 rfl rfl (by decide) fun cdv A outer s H E hr =>
      (zt (zF (zfM (zdG (by rfl) T.n_isinstance (by rfl) T.n_int (zc 0) zi) (zgp (ziH (zdG (by rfl) T.n_isinstance (by rfl) T.n_bool (zc 0) zi))))))
set_option maxHeartbeats 4000000 in
theorem zhs (T : TX K mg) : zI P w K mg base CX0 2 T.zcr.a T.zcr.d ["value", "least", "most"] (spM T.G 3 zc9) :=
  zbc (k := 1) T.zcr.F zua rfl rfl (by decide) fun cdv A outer s H E hr =>
      (zt (zF (zfM (zB (zjf T) (hr.mono (by decide)) (by rfl) T.zdT T.zcU.F.kp T.zcU.b (zd (zc 0) zk zi)) (zgp (zEH (ziG hr) (ziG hr) (zc 1) (zc 0) (zc 2))))))
set_option maxHeartbeats 4000000 in
theorem zjg (T : TX K mg) : zI P w K mg base CX0 3 T.zcV.a T.zcV.d ["points", "value"] (spM T.G 2 zey) :=
  zbc (k := 2) T.zcV.F zub rfl rfl (by decide) fun cdv A outer s H E hr =>
      (zt (zF (zB (zhs T) (hr.mono (by decide)) (by rfl) T.zc9 T.zcr.F.kp T.zcr.b (zd (zc 1) (zd zg (zd (zdC (zc 0) zg) zk zds) zC) zi))))
set_option maxHeartbeats 4000000 in
theorem zuF (T : TX K mg) : zI P w K mg base CX0 4 T.zdW.a T.zdW.d ["points", "value"] (spM T.G 2 zfV) :=
  zbc (k := 3) T.zdW.F zuc rfl rfl (by decide) fun cdv A outer s H E hr =>
      (zm (z9 (t_w (zcm (zbY (zbo (zdG (by rfl) T.n_isinstance (by rfl) T.n_tuple (zc 1) zi) (fun _ => rfl))) (zdy (zbd (zdw hr) (zcJ (by rfl) T.n_len (zc 1) zi) zg (zS _))))) (zt (zF zck)) zbb)
      (zm (z9 (t_w (zcm (zbY (zbo (zB (zjg T) (hr.mono (by decide)) (by rfl) T.zey T.zcV.F.kp T.zcV.b (zd (zc 0) (zd (zx hr (zc 1) zg (fun _ _ => rfl)) zk zbP) zi)) (fun _ => rfl))) (zdy (zbY (zbo (zB (zjg T) (hr.mono (by decide)) (by rfl) T.zey T.zcV.F.kp T.zcV.b (zd (zc 0) (zd (zx hr (zc 1) zg (fun _ _ => rfl)) zk zbP) zi)) (fun _ => rfl)))))) (zt (zF zck)) zbb)
      (zt (zF (zfM (zex (zdw hr) (zx hr (zc 1) zg (fun _ _ => rfl)) (zx hr (zc 1) zg (fun _ _ => rfl)) (zS _)) (zgp (zB (zhs T) (hr.mono (by decide)) (by rfl) T.zc9 T.zcr.F.kp T.zcr.b (zd (zx hr (zc 1) zg (fun _ _ => rfl)) (zd (zeP (ze1 (by rfl) T.v_MOST.m T.v_MOST.r)) (zd (ze1 (by rfl) T.v_MOST.m T.v_MOST.r) zk zi) zim) zbP))))))))
set_option maxHeartbeats 4000000 in
theorem zuG (T : TX K mg) : zI P w K mg base CX0 5 T.zdX.a T.zdX.d ["points", "value"] (spM T.G 2 zfs) :=
  zbc (k := 4) T.zdX.F zud rfl rfl (by decide) fun cdv A outer s H E hr =>
      (zm (z9 (zbY (zbo (zB (zuF T) (hr.mono (by decide)) (by rfl) T.zfV T.zdW.F.kp T.zdW.b (zd (zc 0) (zd (zc 1) zk zi) zi)) (fun _ => rfl))) (zt zi4) zbb)
      (zt (zF (zch (zd (zx hr (zc 1) zg (fun _ _ => rfl)) (zd (zx hr (zc 1) zg (fun _ _ => rfl)) (zd (zx hr (zc 1) zg (fun _ _ => rfl)) zk zbP) zbP) zbP)))))
set_option maxHeartbeats 4000000 in
theorem zjh (T : TX K mg) : zI P w K mg base CX0 1 T.zcW.a T.zcW.d ["one", "other", "turn"] (spM T.G 3 zdH) :=
  zbc (k := 0) T.zcW.F zue rfl rfl (by decide) fun cdv A outer s H E hr =>
      (zm (z9 (zbd (zcD hr) (zc 2) zg (zS _)) (zt (zF (zex (zcD hr) (zc 0) (zc 1) (zS _)))) zbb)
      (zt (zF (zex (zcD hr) (zeB (zdC (zc 0) (zc 1)) (zc 2)) zg (zS _)))))
set_option maxHeartbeats 4000000 in
theorem zic (T : TX K mg) : zI P w K mg base CX0 6 T.zda.a T.zda.d ["self", "points", "ties", "turn"] (spM T.G 4 zdI) :=
  zbc (k := 5) T.zda.F zuf rfl rfl (by decide) fun cdv A outer s H E hr =>
      (zm (z9 (zbY (zbo (zB (zhs T) (hr.mono (by decide)) (by rfl) T.zc9 T.zcr.F.kp T.zcr.b (zd (zc 1) (zd zg (zd (ze1 (by rfl) T.v_MOST.m T.v_MOST.r) zk zi) zC) zi)) (fun _ => rfl))) (zt zi4) zbb)
      (zm (z9 (zbY (zbo (zB (zhs T) (hr.mono (by decide)) (by rfl) T.zc9 T.zcr.F.kp T.zcr.b (zd (zc 3) (zd zg (zd (ze1 (by rfl) T.v_MOST.m T.v_MOST.r) zk zi) zC) zi)) (fun _ => rfl))) (zt zi4) zbb)
      (zm (z9 (zbY (zbo (zdG (by rfl) T.n_isinstance (by rfl) T.n_list (zc 2) zi) (fun _ => rfl))) (zt zi4) zbb)
      (zm (zhz T.ok T.an_points (zc 0) (zc 1) rfl)
      (zm (zhz T.ok T.an_turn (zc 0) (zc 3) rfl)
      (zt (zhz T.ok T.an_triples (zc 0) (zbK (zeY (N := ["tie", "points"]) (js := [none, some 1]) rfl (zbX.of (osc := zo zgd) (N0 := ["self", "points", "ties", "turn"]) rfl rfl (by decide +kernel)) (zdf (zc 2)) (fun _ _ _ _ => (zcN (i := 0) (show (["tie", "points"] : List Str).Nodup by decide +kernel) rfl (Or.inl rfl))) (fun _ _ _ _ => zev) (fun _ _ _ _ => (zB (zuG T) (hr.mono (by decide)) (by rfl) T.zfs T.zdX.F.kp T.zdX.b (zd (zc 1) (zd (zc 0) zk zi) zi))))) rfl)))))))
set_option maxHeartbeats 4000000 in
theorem zcY (T : TX K mg) : zI P w K mg base CX0 1 T.zbS.a T.zbS.d ["self"] (spM T.G 1 zh9) :=
  zbc (k := 0) T.zbS.F zug rfl rfl (by decide) fun cdv A outer s H E hr =>
      (zt (zF (zbK (ziT (by rfl) T.n_list (zfH (zbp T.ok T.an_triples (zc 0) rfl)) zcf))))
set_option maxHeartbeats 4000000 in
theorem zqu (T : TX K mg) : zI P w K mg base CX0 1 T.zdk.a T.zdk.d ["tie"] (spM T.G 1 zeH) :=
  zbc (k := 0) T.zdk.F zuh rfl rfl (by decide) fun cdv A outer s H E hr =>
      (zt (zF (zch (zd (zx hr (zc 0) zg (fun _ _ => rfl)) (zd (zx hr (zc 0) zg (fun _ _ => rfl)) (zd (zeP (zx hr (zc 0) zg (fun _ _ => rfl))) zk zim) zbP) zbP))))
set_option maxHeartbeats 4000000 in
theorem zqv (T : TX K mg) : zI P w K mg base CX0 8 T.zdl.a T.zdl.d ["web"] (spM T.G 1 zdj) :=
  zbc (k := 7) T.zdl.F zui rfl rfl (by decide) fun cdv A outer s H E hr =>
      (zt (zF (zhh T.g_Web T.zhp (zic T) (hr.mono (by decide)) (by rfl) T.zO.m T.zda.b (zd (zbp T.ok T.an_points (zc 0) rfl) (zd (zbK (zeY (N := ["tie"]) (js := [none]) rfl (zbX.of (osc := zo ze8) (N0 := ["web"]) rfl rfl (by decide +kernel)) (zdf (zcw (c0 := 0) (zcZ T.g_Web T.zO.cl T.zcK (zcY T) (hr.mono (by decide)) T.zbS.b (zc 0) zcv (zb5 zc7)))) (fun _ _ _ _ => (zcN (i := 0) (show (["tie"] : List Str).Nodup by decide +kernel) rfl (Or.inl rfl))) (fun _ _ _ _ => zev) (fun _ _ _ _ => (zB (zqu T) (hr.mono (by decide)) (by rfl) T.zeH T.zdk.F.kp T.zdk.b (zd (zc 0) zk zi))))) (zd (zbp T.ok T.an_turn (zc 0) rfl) zk zcf) ze3) zcf))))
set_option maxHeartbeats 4000000 in
theorem zuH (T : TX K mg) : zI P w K mg base CX0 3 T.zdY.a T.zdY.d ["ties", "value"] (spM T.G 2 zfW) :=
  zbc (k := 2) T.zdY.F zuj rfl rfl (by decide) fun cdv A outer s H E hr =>
      (zt (zF (zB (zhs T) (hr.mono (by decide)) (by rfl) T.zc9 T.zcr.F.kp T.zcr.b (zd (zc 1) (zd zg (zd (zdC (zcJ (by rfl) T.n_len (zc 0) zi) zg) zk zds) zC) zi))))
set_option maxHeartbeats 4000000 in
theorem zqw (T : TX K mg) : zI P w K mg base CX0 4 T.zdm.a T.zdm.d ["ties", "value"] (spM T.G 2 zeI) :=
  zbc (k := 3) T.zdm.F zuk rfl rfl (by decide) fun cdv A outer s H E hr =>
      (zm (z9 (t_w (zcm (zbY (zbo (zdG (by rfl) T.n_isinstance (by rfl) T.n_tuple (zc 1) zi) (fun _ => rfl))) (zdy (zbd (zdw hr) (zcJ (by rfl) T.n_len (zc 1) zi) zg (zS _))))) (zt (zF zck)) zbb)
      (zt (zF (zfM (zB (zuH T) (hr.mono (by decide)) (by rfl) T.zfW T.zdY.F.kp T.zdY.b (zd (zc 0) (zd (zx hr (zc 1) zg (fun _ _ => rfl)) zk zbP) zi)) (zfM (zB (zjf T) (hr.mono (by decide)) (by rfl) T.zdT T.zcU.F.kp T.zcU.b (zd (zx hr (zc 1) zg (fun _ _ => rfl)) zk zbP)) (zgp (zex (zBA hr) (zx hr (zc 1) zg (fun _ _ => rfl)) (zch (zd (ze1 (by rfl) T.v_FORTH.m T.v_FORTH.r) (zd (ze1 (by rfl) T.v_BACK.m T.v_BACK.r) zk zi) zi)) (by with_unfolding_all rfl))))))))
set_option maxHeartbeats 4000000 in
theorem zht (T : TX K mg) : zI P w K mg base CX0 2 T.zcs.a T.zcs.d ["ties", "step"] (spM T.G 2 zci) :=
  zbc (k := 1) T.zcs.F zqm rfl rfl (by decide) fun cdv A outer s H E hr =>
      (zm (zP (i := 2) zqm.nd rfl (Or.inl rfl) (zx hr (zc 0) (zx hr (zc 1) zg (fun _ _ => rfl)) (fun _ _ => rfl)))
      (zt (zF (zgZ (zbd (zcD hr) (zx hr (zc 1) zg (fun _ _ => rfl)) (ze1 (by rfl) T.v_FORTH.m T.v_FORTH.r) (zS _)) (zc 2) (zB (zqu T) (hr.mono (by decide)) (by rfl) T.zeH T.zdk.F.kp T.zdk.b (zd (zc 2) zk zi))))))
set_option maxHeartbeats 4000000 in
theorem zuI (T : TX K mg) : zI P w K mg base CX0 5 T.zdZ.a T.zdZ.d ["web", "start", "steps"] (spM T.G 3 zfX) :=
  zbc (k := 4) T.zdZ.F zgx rfl rfl (by decide) fun cdv A outer s H E hr =>
      (zm (z9 (t_w (zcm (zbY (zbo (zB (zjg T) (hr.mono (by decide)) (by rfl) T.zey T.zcV.F.kp T.zcV.b (zd (zbp T.ok T.an_points (zc 0) rfl) (zd (zc 1) zk zi) zcf)) (fun _ => rfl))) (zdy (zbY (zbo (zdG (by rfl) T.n_isinstance (by rfl) T.n_list (zc 2) zi) (fun _ => rfl)))))) (zt (zF zfK)) zbb)
      (zm (zP (i := 3) zgx.nd rfl (Or.inl rfl) (zcw (c0 := 0) (zcZ T.g_Web T.zO.cl T.zcK (zcY T) (hr.mono (by decide)) T.zbS.b (zc 0) zcv (zb5 zc7))))
      (zm (zP (i := 4) zgx.nd rfl (Or.inl rfl) (zbK (zdO zk)))
      (zm (zP (i := 5) zgx.nd rfl (Or.inl rfl) (zc 1))
      (zm (zfS PassesOwn.never (zdf (zc 2)) (zcN (i := 6) zgx.nd rfl (Or.inl rfl))
      (zm (z9 (zbY (zbo (zB (zqw T) (hr.mono (by decide)) (by rfl) T.zeI T.zdm.F.kp T.zdm.b (zd (zc 3) (zd (zc 6) zk zi) zi)) (fun _ => rfl))) (zt (zF zfK)) zbb)
      (zm (zdv (zeS (zc 4) (zB (zht T) (hr.mono (by decide)) (by rfl) T.zci T.zcs.F.kp T.zcs.b (zd (zc 3) (zd (zc 6) zk zi) zi)) zbq))
      (zm (z9 (zbd (zdw hr) (zx hr (zx hr (zc 4) (zeP zg) (fun _ _ => rfl)) zg (fun _ _ => rfl)) (zc 5) (zS _)) (zt (zF zfK)) zbb)
      (zt (zP (i := 5) zgx.nd rfl (Or.inl rfl) (zx hr (zx hr (zc 4) (zeP zg) (fun _ _ => rfl)) zg (fun _ _ => rfl))))))))
      (zt (zF (zc 4))))))))
set_option maxHeartbeats 4000000 in
theorem zuJ (T : TX K mg) : zI P w K mg base CX0 2 T.zd0.a T.zd0.d ["web"] (spM T.G 1 zfY) :=
  zbc (k := 1) T.zd0.F zul rfl rfl (by decide) fun cdv A outer s H E hr =>
      (zt (zF (zbK (zFx (by rfl) T.n_list (by rfl) T.n_range (zcJ (by rfl) T.n_len (zcw (c0 := 0) (zcZ T.g_Web T.zO.cl T.zcK (zcY T) (hr.mono (by decide)) T.zbS.b (zc 0) zcv (zb5 zc7))) zbq) zbq))))
set_option maxHeartbeats 4000000 in
theorem zqx (T : TX K mg) : zI P w K mg base CX0 2 T.zdn.a T.zdn.d ["web", "chosen"] (spM T.G 2 ze6) :=
  zbc (k := 1) T.zdn.F zib rfl rfl (by decide) fun cdv A outer s H E hr =>
      (zm (zP (i := 2) zib.nd rfl (Or.inl rfl) (zcw (c0 := 0) (zcZ T.g_Web T.zO.cl T.zcK (zcY T) (hr.mono (by decide)) T.zbS.b (zc 0) zcv (zb5 zc7))))
      (zm (zsa (j := 3) (N := ["point"]) (js := [none]) rfl zib.nd rfl rfl (zbX.of (osc := zo zeN) (N0 := ["web", "chosen", "ties", "found", "place"]) rfl rfl (by decide +kernel)) (ziY (by rfl) T.n_range (zbp T.ok T.an_points (zc 0) rfl) zcf) (fun _ _ _ _ => (zcN (i := 0) (show (["point"] : List Str).Nodup by decide +kernel) rfl (Or.inl rfl))) (fun _ _ _ _ => zev) (fun _ _ _ _ => (zbK (zdO zk))))
      (zm (zfS PassesOwn.never (zdf (zc 1)) (zcN (i := 4) zib.nd rfl (Or.inl rfl))
      (zm (zdv (zeS (zx hr (zc 3) (zx hr (zx hr (zc 2) (zc 4) (fun _ _ => rfl)) zg (fun _ _ => rfl)) (fun _ _ => rfl)) (zch (zd (zc 4) (zd (ze1 (by rfl) T.v_FORTH.m T.v_FORTH.r) zk zi) zi)) zh4))
      (zt (zdv (zeS (zx hr (zc 3) (zx hr (zx hr (zc 2) (zc 4) (fun _ _ => rfl)) zg (fun _ _ => rfl)) (fun _ _ => rfl)) (zch (zd (zc 4) (zd (ze1 (by rfl) T.v_BACK.m T.v_BACK.r) zk zi) zi)) zh4)))))
      (zt (zF (zc 3))))))
set_option maxHeartbeats 4000000 in
theorem zqy (T : TX K mg) : zI P w K mg base CX0 3 T.zdo.a T.zdo.d ["ties", "onward", "start", "arrived"] (spM T.G 4 zeJ) :=
  zbc (k := 2) T.zdo.F zge rfl rfl (by decide) fun cdv A outer s H E hr =>
      (zm (zpU hr (zc 3) (zc 2) zfK)
      (zm (zP (i := 4) zge.nd rfl (Or.inl rfl) (zbK (zdO (zd (zc 2) zk zi))))
      (zm (zP (i := 5) zge.nd rfl (Or.inl rfl) zg)
      (zt (zsE PassesOwn.never (zbd (zfP hr) (zc 5) (zcJ (by rfl) T.n_len (zc 4) zi) (zS _)) (zm (zP (i := 6) zge.nd rfl (Or.inl rfl) (zx hr (zc 4) (zc 5) (fun _ _ => rfl)))
      (zm (zfS PassesOwn.never (zdf (zx hr (zc 1) (zc 6) (fun _ _ => rfl))) (zcN (i := 7) zge.nd rfl (Or.inl rfl))
      (zm (zP (i := 8) zge.nd rfl (Or.inl rfl) (zx hr (zB (zht T) (hr.mono (by decide)) (by rfl) T.zci T.zcs.F.kp T.zcs.b (zd (zc 0) (zd (zc 7) zk zi) zi)) zg (fun _ _ => rfl)))
      (zt (z9 (zbd (zpR hr) (zc 8) (zc 3) (by with_unfolding_all rfl)) (zm (zpU hr (zc 3) (zc 8) (zc 7))
      (zt (zdv (zeS (zc 4) (zc 8) zi)))) zbb))))
      (zt (zD3 (i := 5) zge.nd rfl (Or.inl rfl) zg)))))))))
set_option maxHeartbeats 4000000 in
theorem zuK (T : TX K mg) : zI P w K mg base CX0 4 T.zd1.a T.zd1.d ["web", "chosen", "start"] (spM T.G 3 zfZ) :=
  zbc (k := 3) T.zd1.F zqn rfl rfl (by decide) fun cdv A outer s H E hr =>
      (zm (zP (i := 3) zqn.nd rfl (Or.inl rfl) zs2)
      (zm (zdv (zB (zqy T) (hr.mono (by decide)) (by rfl) T.zeJ T.zdo.F.kp T.zdo.b (zd (zcw (c0 := 0) (zcZ T.g_Web T.zO.cl T.zcK (zcY T) (hr.mono (by decide)) T.zbS.b (zc 0) zcv (zb5 zc7))) (zd (zB (zqx T) (hr.mono (by decide)) (by rfl) T.ze6 T.zdn.F.kp T.zdn.b (zd (zc 0) (zd (zc 1) zk zi) zi)) (zd (zc 2) (zd (zc 3) zk zi) zi) zbq) zbq)))
      (zt (zF (zc 3)))))
set_option maxHeartbeats 4000000 in
theorem zuL (T : TX K mg) : zI P w K mg base CX0 4 T.zd2.a T.zd2.d ["web", "chosen"] (spM T.G 2 zf0) :=
  zbc (k := 3) T.zd2.F zhm rfl rfl (by decide) fun cdv A outer s H E hr =>
      (zm (zP (i := 2) zhm.nd rfl (Or.inl rfl) (zcw (c0 := 0) (zcZ T.g_Web T.zO.cl T.zcK (zcY T) (hr.mono (by decide)) T.zbS.b (zc 0) zcv (zb5 zc7))))
      (zm (zP (i := 3) zhm.nd rfl (Or.inl rfl) (zB (zqx T) (hr.mono (by decide)) (by rfl) T.ze6 T.zdn.F.kp T.zdn.b (zd (zc 0) (zd (zc 1) zk zi) zi)))
      (zm (zP (i := 4) zhm.nd rfl (Or.inl rfl) zs2)
      (zm (zfS PassesOwn.never (ziY (by rfl) T.n_range (zbp T.ok T.an_points (zc 0) rfl) zcf) (zcN (i := 5) zhm.nd rfl (Or.inl rfl))
      (zt (z9 (zbd (zpR hr) (zc 5) (zc 4) (by with_unfolding_all rfl)) (zt (zdv (zB (zqy T) (hr.mono (by decide)) (by rfl) T.zeJ T.zdo.F.kp T.zdo.b (zd (zc 2) (zd (zc 3) (zd (zc 5) (zd (zc 4) zk zi) zi) zi) zi)))) zbb)))
      (zt (zF (zc 4)))))))
set_option maxHeartbeats 4000000 in
theorem zuM (T : TX K mg) : zI P w K mg base CX0 3 T.zd3.a T.zd3.d ["web", "arrived", "goal"] (spM T.G 3 zf1) :=
  zbc (k := 2) T.zd3.F zhn rfl rfl (by decide) fun cdv A outer s H E hr =>
      (zm (zP (i := 3) zhn.nd rfl (Or.inl rfl) (zcw (c0 := 0) (zcZ T.g_Web T.zO.cl T.zcK (zcY T) (hr.mono (by decide)) T.zbS.b (zc 0) zcv (zb5 zc7))))
      (zm (zP (i := 4) zhn.nd rfl (Or.inl rfl) (zbK (zdO zk)))
      (zm (zP (i := 5) zhn.nd rfl (Or.inl rfl) (zc 2))
      (zm (zsE PassesOwn.never (zbd (zhy hr) (zx hr (zc 1) (zc 5) (fun _ _ => rfl)) zfK (zS _)) (zm (zdv (zeS (zc 4) (zx hr (zc 1) (zc 5) (fun _ _ => rfl)) zbP))
      (zt (zP (i := 5) zhn.nd rfl (Or.inl rfl) (zx hr (zB (zht T) (hr.mono (by decide)) (by rfl) T.zci T.zcs.F.kp T.zcs.b (zd (zc 3) (zd (zx hr (zc 1) (zc 5) (fun _ _ => rfl)) zk zbP) zi)) zg (fun _ _ => rfl))))))
      (zm (zdv (zDb (zc 4)))
      (zt (zF (zc 4))))))))
set_option maxHeartbeats 4000000 in
theorem zuN (T : TX K mg) : zI P w K mg base CX0 1 T.zd4.a T.zd4.d ["arrived"] (spM T.G 1 zf2) :=
  zbc (k := 0) T.zd4.F zum rfl rfl (by decide) fun cdv A outer s H E hr =>
      (zt (zF (zbK (zEV hr (by rfl) T.n_sorted (zgm (zEo (N := ["step"]) (js := [none]) rfl (zbX.of (osc := zo zfd) (N0 := ["arrived"]) rfl rfl (by decide +kernel)) (zc 0) (fun _ _ _ _ => (zcN (i := 0) (show (["step"] : List Str).Nodup by decide +kernel) rfl (Or.inl rfl))) (fun _ _ _ _ => (zAA (zbd (zhy hr) (zc 0) zfK (zS _)))) (fun _ _ _ _ => (zx hr (zc 0) zg (fun _ _ => rfl))))) ze3))))
set_option maxHeartbeats 4000000 in
theorem zuO (T : TX K mg) : zI P w K mg base CX0 2 T.zd5.a T.zd5.d ["values", "count"] (spM T.G 2 zf3) :=
  zbc (k := 1) T.zd5.F zun rfl rfl (by decide) fun cdv A outer s H E hr =>
      (zt (zF (zfM (zdG (by rfl) T.n_isinstance (by rfl) T.n_list (zc 0) zi) (zfM (zex (zcD hr) (zcJ (by rfl) T.n_len (zc 0) zi) (zc 1) (zS _)) (zgp (zpY (by rfl) T.n_all (zgm (zeY (N := ["value"]) (js := [none]) rfl (zbX.of (osc := zo zeL) (N0 := ["values", "count"]) rfl rfl (by decide +kernel)) (zdf (zc 0)) (fun _ _ _ _ => (zcN (i := 0) (show (["value"] : List Str).Nodup by decide +kernel) rfl (Or.inl rfl))) (fun _ _ _ _ => zev) (fun _ _ _ _ => (zB (zjf T) (hr.mono (by decide)) (by rfl) T.zdT T.zcU.F.kp T.zcU.b (zd (zc 0) zk zi))))) ze3))))))
set_option maxHeartbeats 4000000 in
theorem zqz (T : TX K mg) : zI P w K mg base CX0 1 T.zdp.a T.zdp.d ["values"] (spM T.G 1 ze7) :=
  zbc (k := 0) T.zdp.F zuo rfl rfl (by decide) fun cdv A outer s H E hr =>
      (zt (zF (zex (zcD hr) (zpP (by rfl) T.n_len (by rfl) T.n_set (zfH (zc 0)) zi) (zcJ (by rfl) T.n_len (zc 0) zi) (zS _))))
set_option maxHeartbeats 4000000 in
theorem zuP (T : TX K mg) : zI P w K mg base CX0 1 T.zd6.a T.zd6.d ["self", "heights"] (spM T.G 2 zia) :=
  zbc (k := 0) T.zd6.F zup rfl rfl (by decide) fun cdv A outer s H E hr =>
      (zt (zhz T.ok T.an_heights (zc 0) (zbK (ziT (by rfl) T.n_list (zfH (zc 1)) zi)) rfl))
set_option maxHeartbeats 4000000 in
theorem zid (T : TX K mg) : zI P w K mg base CX0 3 T.zdb.a T.zdb.d ["self", "web"] (spM T.G 2 zhi) :=
  zbc (k := 2) T.zdb.F zqo rfl rfl (by decide) fun cdv A outer s H E hr =>
      (zm (z9 (zbY (zbo (zB (zuO T) (hr.mono (by decide)) (by rfl) T.zf3 T.zd5.F.kp T.zd5.b (zd (zbp T.ok T.an_heights (zc 0) rfl) (zd (zbp T.ok T.an_points (zc 1) rfl) zk zcf) zcf)) (fun _ => rfl))) (zt (zF zck)) zbb)
      (zm (zP (i := 2) zqo.nd rfl (Or.inr rfl) (zbp T.ok T.an_heights (zc 0) rfl))
      (zt (zF (zpY (by rfl) T.n_all (zgm (zeY (N := ["tie", "web", "found"]) (js := [none, some 1, some 2]) rfl (zbX.of (osc := zo zeM) (N0 := ["self", "web", "found"]) rfl rfl (by decide +kernel)) (zdf (zcw (c0 := 0) (zcZ T.g_Web T.zO.cl T.zcK (zcY T) (hr.mono (by decide)) T.zbS.b (zc 1) zcv (zb5 zc7)))) (fun _ _ _ _ => (zcN (i := 0) (show (["tie", "web", "found"] : List Str).Nodup by decide +kernel) rfl (Or.inl rfl))) (fun _ _ _ _ => zev) (fun _ _ _ _ => (zB (zjh T) (hr.mono (by decide)) (by rfl) T.zdH T.zcW.F.kp T.zcW.b (zd (zdC (zx hr (zc 2) (zx hr (zc 0) zg (fun _ _ => rfl)) (fun _ _ => rfl)) (zx hr (zc 2) (zx hr (zc 0) zg (fun _ _ => rfl)) (fun _ _ => rfl))) (zd (zx hr (zc 0) zg (fun _ _ => rfl)) (zd (zbp T.ok T.an_turn (zc 1) rfl) zk zcf) zbP) zds))))) ze3)))))
set_option maxHeartbeats 4000000 in
theorem zuQ (T : TX K mg) : zI P w K mg base CX0 1 T.zd7.a T.zd7.d ["self", "steps"] (spM T.G 2 zhj) :=
  zbc (k := 0) T.zd7.F zuq rfl rfl (by decide) fun cdv A outer s H E hr =>
      (zt (zhz T.ok T.an_steps (zc 0) (zbK (ziT (by rfl) T.n_list (zfH (zc 1)) zi)) rfl))
set_option maxHeartbeats 4000000 in
theorem zie (T : TX K mg) : zI P w K mg base CX0 6 T.zdc.a T.zdc.d ["self", "web"] (spM T.G 2 zhk) :=
  zbc (k := 5) T.zdc.F zjc rfl rfl (by decide) fun cdv A outer s H E hr =>
      (zm (z9 (t_w (zcm (zbY (zbo (zdG (by rfl) T.n_isinstance (by rfl) T.n_list (zbp T.ok T.an_steps (zc 0) rfl) zcf) (fun _ => rfl))) (zcm (zbd (zfP hr) (zcJ (by rfl) T.n_len (zbp T.ok T.an_steps (zc 0) rfl) zcf) zg (zS _)) (zdy (zbY (zbo (zB (zqw T) (hr.mono (by decide)) (by rfl) T.zeI T.zdm.F.kp T.zdm.b (zd (zcw (c0 := 0) (zcZ T.g_Web T.zO.cl T.zcK (zcY T) (hr.mono (by decide)) T.zbS.b (zc 1) zcv (zb5 zc7))) (zd (zx hr (zbp T.ok T.an_steps (zc 0) rfl) zg (fun _ _ => rfl)) zk zbP) zbq)) (fun _ => rfl))))))) (zt (zF zck)) zbb)
      (zm (zP (i := 2) zjc.nd rfl (Or.inl rfl) (zx hr (zB (zht T) (hr.mono (by decide)) (by rfl) T.zci T.zcs.F.kp T.zcs.b (zd (zcw (c0 := 0) (zcZ T.g_Web T.zO.cl T.zcK (zcY T) (hr.mono (by decide)) T.zbS.b (zc 1) zcv (zb5 zc7))) (zd (zx hr (zbp T.ok T.an_steps (zc 0) rfl) zg (fun _ _ => rfl)) zk zbP) zbq)) zg (fun _ _ => rfl)))
      (zm (zP (i := 3) zjc.nd rfl (Or.inl rfl) (zB (zuI T) (hr.mono (by decide)) (by rfl) T.zfX T.zdZ.F.kp T.zdZ.b (zd (zc 1) (zd (zc 2) (zd (zbp T.ok T.an_steps (zc 0) rfl) zk zcf) zi) zi)))
      (zm (z9 (t_w (zcm (zbd (zEj hr) (zc 3) zfK (zS _)) (zdy (zbd (zdw hr) (zx hr (zx hr (zc 3) (zeP zg) (fun _ _ => rfl)) zg (fun _ _ => rfl)) (zc 2) (zS _))))) (zt (zF zck)) zbb)
      (zm (z9 (t_w (zcm (zbY (zbo (zB (zqz T) (hr.mono (by decide)) (by rfl) T.ze7 T.zdp.F.kp T.zdp.b (zd (zbK (zeY (N := ["made"]) (js := [none]) rfl (zbX.of (osc := zo zdV) (N0 := ["self", "web", "start", "gone"]) rfl rfl (by decide +kernel)) (zdf (zc 3)) (fun _ _ _ _ => (zcN (i := 0) (show (["made"] : List Str).Nodup by decide +kernel) rfl (Or.inl rfl))) (fun _ _ _ _ => zev) (fun _ _ _ _ => (zx hr (zc 0) zg (fun _ _ => rfl))))) zk ze3)) (fun _ => rfl))) (zdy (zbY (zbo (zB (zqz T) (hr.mono (by decide)) (by rfl) T.ze7 T.zdp.F.kp T.zdp.b (zd (zbK (zeY (N := ["step"]) (js := [none]) rfl (zbX.of (osc := zo zdV) (N0 := ["self", "web", "start", "gone"]) rfl rfl (by decide +kernel)) (zdf (zbp T.ok T.an_steps (zc 0) rfl)) (fun _ _ _ _ => (zcN (i := 0) (show (["step"] : List Str).Nodup by decide +kernel) rfl (Or.inl rfl))) (fun _ _ _ _ => zev) (fun _ _ _ _ => (zx hr (zc 0) zg (fun _ _ => rfl))))) zk ze3)) (fun _ => rfl)))))) (zt (zF zck)) zbb)
      (zt (zF (ziH (zB (zjh T) (hr.mono (by decide)) (by rfl) T.zdH T.zcW.F.kp T.zcW.b (zd (zBU (by rfl) T.n_sum (zgm (zeY (N := ["made"]) (js := [none]) rfl (zbX.of (osc := zo zdV) (N0 := ["self", "web", "start", "gone"]) rfl rfl (by decide +kernel)) (zdf (zc 3)) (fun _ _ _ _ => (zcN (i := 0) (show (["made"] : List Str).Nodup by decide +kernel) rfl (Or.inl rfl))) (fun _ _ _ _ => zev) (fun _ _ _ _ => (zx hr (zc 0) zg (fun _ _ => rfl))))) ze3) (zd zg (zd (zbp T.ok T.an_turn (zc 1) rfl) zk zcf) zC) zbq))))))))))
set_option maxHeartbeats 4000000 in
theorem zuR (T : TX K mg) : zI P w K mg base CX0 3 T.zd8.a T.zd8.d ["web", "arrived"] (spM T.G 2 zf4) :=
  zbc (k := 2) T.zd8.F zgA rfl rfl (by decide) fun cdv A outer s H E hr =>
      (zm (zP (i := 2) zgA.nd rfl (Or.inl rfl) (zcw (c0 := 0) (zcZ T.g_Web T.zO.cl T.zcK (zcY T) (hr.mono (by decide)) T.zbS.b (zc 0) zcv (zb5 zc7))))
      (zm (zP (i := 3) zgA.nd rfl (Or.inl rfl) (zbK (zEY (zbK (zdO (zd zg zk zC))) (zbp T.ok T.an_points (zc 0) rfl))))
      (zm (zEy PassesOwn.never (zc 1) (zfo rfl (zcq (i := 4) zgA.nd rfl (Or.inl rfl) (zcq (i := 5) zgA.nd rfl (Or.inl rfl) zfg)))
      (zt (z9 (zbd (zhy hr) (zc 5) zfK (zS _)) (zm (zP (i := 6) zgA.nd rfl (Or.inl rfl) (zB (zht T) (hr.mono (by decide)) (by rfl) T.zci T.zcs.F.kp T.zcs.b (zd (zc 2) (zd (zc 5) zk zi) zi)))
      (zt (zpU hr (zc 3) (zc 4) (zc2 (zx hr (zc 3) (zx hr (zc 6) zg (fun _ _ => rfl)) (fun _ _ => rfl)) (zx hr (zc 6) zg (fun _ _ => rfl)))))) zbb)))
      (zt (zF (zc 3))))))
set_option maxHeartbeats 4000000 in
theorem zuS (T : TX K mg) : zI P w K mg base CX0 5 T.zd9.a T.zd9.d ["web", "arrived", "place"] (spM T.G 3 zft) :=
  zbc (k := 4) T.zd9.F zqp rfl rfl (by decide) fun cdv A outer s H E hr =>
      (zm (zP (i := 3) zqp.nd rfl (Or.inl rfl) (zx hr (zcw (c0 := 0) (zcZ T.g_Web T.zO.cl T.zcK (zcY T) (hr.mono (by decide)) T.zbS.b (zc 0) zcv (zb5 zc7))) (zc 2) (fun _ _ => rfl)))
      (zt (zF (zbK (zCB (zbK (zdO (zd (zch (zd (zc 2) (zd (ze1 (by rfl) T.v_FORTH.m T.v_FORTH.r) zk zi) zi)) zk zh4))) (zfH (zB (zuM T) (hr.mono (by decide)) (by rfl) T.zf1 T.zd3.F.kp T.zd3.b (zd (zc 0) (zd (zB (zuK T) (hr.mono (by decide)) (by rfl) T.zfZ T.zd1.F.kp T.zd1.b (zd (zc 0) (zd (zB (zuN T) (hr.mono (by decide)) (by rfl) T.zf2 T.zd4.F.kp T.zd4.b (zd (zc 1) zk zi)) (zd (zx hr (zc 3) zg (fun _ _ => rfl)) zk zbP) zbq) zi)) (zd (zx hr (zc 3) zg (fun _ _ => rfl)) zk zbP) zbq) zi))))))))
set_option maxHeartbeats 4000000 in
theorem zuT (T : TX K mg) : zI P w K mg base CX0 6 T.zea.a T.zea.d ["web"] (spM T.G 1 zdJ) :=
  zbc (k := 5) T.zea.F zho rfl rfl (by decide) fun cdv A outer s H E hr =>
      (zm (zP (i := 1) zho.nd rfl (Or.inl rfl) (zB (zuL T) (hr.mono (by decide)) (by rfl) T.zf0 T.zd2.F.kp T.zd2.b (zd (zc 0) (zd (zB (zuJ T) (hr.mono (by decide)) (by rfl) T.zfY T.zd0.F.kp T.zd0.b (zd (zc 0) zk zi)) zk zbq) zi)))
      (zm (zP (i := 2) zho.nd rfl (Or.inl rfl) (zB (zuR T) (hr.mono (by decide)) (by rfl) T.zf4 T.zd8.F.kp T.zd8.b (zd (zc 0) (zd (zc 1) zk zi) zi)))
      (zm (zfS PassesOwn.never (zBc (by rfl) T.n_enumerate (zcw (c0 := 0) (zcZ T.g_Web T.zO.cl T.zcK (zcY T) (hr.mono (by decide)) T.zbS.b (zc 0) zcv (zb5 zc7))) zbq) (zfo rfl (zcq (i := 3) zho.nd rfl (Or.inl rfl) (zcq (i := 4) zho.nd rfl (Or.inl rfl) zfg)))
      (zt (z9 (zbY (zbo (zB (zjh T) (hr.mono (by decide)) (by rfl) T.zdH T.zcW.F.kp T.zcW.b (zd (zdC (zx hr (zc 2) (zx hr (zc 4) zg (fun _ _ => rfl)) (fun _ _ => rfl)) (zx hr (zc 2) (zx hr (zc 4) zg (fun _ _ => rfl)) (fun _ _ => rfl))) (zd (zx hr (zc 4) zg (fun _ _ => rfl)) (zd (zbp T.ok T.an_turn (zc 0) rfl) zk zcf) zbP) zds)) (fun _ => rfl))) (zt (zF (zhh T.g_Ring T.zqt (zuQ T) (hr.mono (by decide)) (by rfl) T.zbh.m T.zd7.b (zd (zB (zuS T) (hr.mono (by decide)) (by rfl) T.zft T.zd9.F.kp T.zd9.b (zd (zc 0) (zd (zc 1) (zd (zc 3) zk zi) zi) zi)) zk zbq)))) zbb)))
      (zt (zF (zhh T.g_Heights T.zqs (zuP T) (hr.mono (by decide)) (by rfl) T.zba.m T.zd6.b (zd (zc 2) zk zi)))))))
set_option maxHeartbeats 4000000 in
theorem zgW (T : TX K mg) : zI P w K mg base CX0 1 T.zca.a T.zca.d ["_law_script", "_law_k"] (spM T.G 2 zcF) :=
  zbc (k := 0) T.zca.F zur rfl rfl (by decide) fun cdv A outer s H E hr =>
      (zm (z9 (zbd (zfP hr) (zc 1) (zcJ (by rfl) T.n_len (zc 0) zi) (zS _)) (zt (zF (zx hr (zc 0) (zc 1) (fun _ _ => rfl)))) zbb)
      (zt (zF zg)))
set_option maxHeartbeats 4000000 in
theorem zdL (T : TX K mg) : zI P w K mg base CX0 1 T.zbk.a T.zbk.d ["_law_cell", "_law_k", "_law_many"] (spM T.G 3 zH) :=
  zbc (k := 0) T.zbk.F zqq rfl rfl (by decide) fun cdv A outer s H E hr =>
      (zm (zP (i := 3) zqq.nd rfl (Or.inl rfl) (zch (zd zg (zd zg (zd zg (zd zg (zd zg (zd zg (zd zg (zd zg (zd zg (zd zg (zd zg (zd zg (zd zg (zd zg (zd zg (zd zg zk zC) zC) zC) zC) zC) zC) zC) zC) zC) zC) zC) zC) zC) zC) zC) zC)))
      (zt (zF (zeB (zeB (zc2 (zhb (zc 0) zg) (zhb (zc 1) zg)) (zx hr (zc 3) (zeB (zc 1) zg) (fun _ _ => rfl))) (zc 2)))))
set_option maxHeartbeats 4000000 in
theorem zuU (T : TX K mg) : zI P w K mg base CX0 2 T.zeb.a T.zeb.d ["_law_script"] (spM T.G 1 zfu) :=
  zbc (k := 1) T.zeb.F zcG rfl rfl (by decide) fun cdv A outer s H E hr =>
      (zm (zP (i := 1) zcG.nd rfl (Or.inl rfl) (ziy (zhb (zcJ (by rfl) T.n_len (zc 0) zi) (zx hr (zch (zd zg (zd zg (zd zg zk zC) zC) zC)) (zB (zdL T) (hr.mono (by decide)) (by rfl) T.zH T.zbk.F.kp T.zbk.b (zd (zB (zgW T) (hr.mono (by decide)) (by rfl) T.zcF T.zca.F.kp T.zca.b (zd (zc 0) (zd zg zk zC) zi)) (zd zg (zd zg zk zC) zC) zbq)) (fun _ _ => rfl))) zg))
      (zm (zP (i := 2) zcG.nd rfl (Or.inl rfl) (zc2 zg (zB (zdL T) (hr.mono (by decide)) (by rfl) T.zH T.zbk.F.kp T.zbk.b (zd (zB (zgW T) (hr.mono (by decide)) (by rfl) T.zcF T.zca.F.kp T.zca.b (zd (zc 0) (zd zg zk zC) zi)) (zd zg (zd (zc2 zg (zc 1)) zk zds) zC) zbq))))
      (zm (zP (i := 3) zcG.nd rfl (Or.inl rfl) (zx hr (zch (zd zg (zd zg (zd zg (zd zg (zd zg (zd zg (zd zg zk zC) zC) zC) zC) zC) zC) zC)) (zB (zdL T) (hr.mono (by decide)) (by rfl) T.zH T.zbk.F.kp T.zbk.b (zd (zB (zgW T) (hr.mono (by decide)) (by rfl) T.zcF T.zca.F.kp T.zca.b (zd (zc 0) (zd zg zk zC) zi)) (zd zg (zd zg zk zC) zC) zbq)) (fun _ _ => rfl)))
      (zm (zP (i := 4) zcG.nd rfl (Or.inl rfl) (zx hr (zch (zd zg (zd zg (zd zg (zd zg zk zC) zC) zC) zC)) (zB (zdL T) (hr.mono (by decide)) (by rfl) T.zH T.zbk.F.kp T.zbk.b (zd (zB (zgW T) (hr.mono (by decide)) (by rfl) T.zcF T.zca.F.kp T.zca.b (zd (zc 0) (zd zg zk zC) zi)) (zd zg (zd zg zk zC) zC) zbq)) (fun _ _ => rfl)))
      (zm (zP (i := 5) zcG.nd rfl (Or.inl rfl) (zx hr (zch (zd zg (zd zg (zd zg (zd zg zk zC) zC) zC) zC)) (zB (zdL T) (hr.mono (by decide)) (by rfl) T.zH T.zbk.F.kp T.zbk.b (zd (zB (zgW T) (hr.mono (by decide)) (by rfl) T.zcF T.zca.F.kp T.zca.b (zd (zc 0) (zd zg zk zC) zi)) (zd zg (zd zg zk zC) zC) zbq)) (fun _ _ => rfl)))
      (zm (zP (i := 6) zcG.nd rfl (Or.inl rfl) (zfM (zex (zqd hr) (zc 2) zg (zS _)) (zgp (zex (zcD hr) (zB (zdL T) (hr.mono (by decide)) (by rfl) T.zH T.zbk.F.kp T.zbk.b (zd (zB (zgW T) (hr.mono (by decide)) (by rfl) T.zcF T.zca.F.kp T.zca.b (zd (zc 0) (zd zg zk zC) zi)) (zd zg (zd zg zk zC) zC) zbq)) zg (zS _)))))
      (zm (zP (i := 7) zcG.nd rfl (Or.inl rfl) (zbK (zdO zk)))
      (zm (zfS PassesOwn.never (ziY (by rfl) T.n_range (zcJ (by rfl) T.n_len (zc 0) zi) zbq) (zcN (i := 8) zcG.nd rfl (Or.inl rfl))
      (zm (zP (i := 9) zcG.nd rfl (Or.inl rfl) (zB (zdL T) (hr.mono (by decide)) (by rfl) T.zH T.zbk.F.kp T.zbk.b (zd (zx hr (zc 0) (zc 8) (fun _ _ => rfl)) (zd (zc2 (zeB (zc 8) zg) zg) (zd (zc 2) zk zi) zds) zbP)))
      (zm (zP (i := 10) zcG.nd rfl (Or.inl rfl) (zeB (zc2 (zc2 (zc 9) zg) (zB (zdL T) (hr.mono (by decide)) (by rfl) T.zH T.zbk.F.kp T.zbk.b (zd (zx hr (zc 0) (zc 8) (fun _ _ => rfl)) (zd (zc2 (zeB (zc 8) zg) zg) (zd (zdC (zc 2) zg) zk zds) zds) zbP))) (zc 2)))
      (zm (z9 (zbo (zc 6) (fun _ => rfl)) (zm (zP (i := 11) zcG.nd rfl (Or.inl rfl) (zgZ (zbd (zfP hr) (zc 9) (ziy (zc 2) zg) (zS _)) zg (ziy (zc 2) zg)))
      (zm (zP (i := 12) zcG.nd rfl (Or.inl rfl) (zgZ (zbd (zcD hr) (zc 11) zg (zS _)) (ziy (zc 2) zg) (zdC (zc 2) (zc 11))))
      (zm (zP (i := 13) zcG.nd rfl (Or.inl rfl) (zc2 zg (zB (zdL T) (hr.mono (by decide)) (by rfl) T.zH T.zbk.F.kp T.zbk.b (zd (zx hr (zc 0) (zc 8) (fun _ _ => rfl)) (zd (zc2 (zeB (zc 8) zg) zg) (zd (zdC (zc 12) zg) zk zds) zds) zbP))))
      (zt (zP (i := 10) zcG.nd rfl (Or.inl rfl) (zc2 (zc 11) (zeB (zc2 (zdC (zc 9) (zc 11)) (zc 13)) (zc 12)))))))) zbb)
      (zm (zP (i := 14) zcG.nd rfl (Or.inl rfl) (zdC (zB (zdL T) (hr.mono (by decide)) (by rfl) T.zH T.zbk.F.kp T.zbk.b (zd (zhb (zc 10) zg) (zd zg (zd (zc 4) zk zi) zC) zds)) (zB (zdL T) (hr.mono (by decide)) (by rfl) T.zH T.zbk.F.kp T.zbk.b (zd (zhb (zc 9) zg) (zd zg (zd (zc 4) zk zi) zC) zds))))
      (zm (z9 (t_w (ziI (zbd (zqd hr) (zc 5) zg (zS _)) (zpM (zbd (zcD hr) (zB (zdL T) (hr.mono (by decide)) (by rfl) T.zH T.zbk.F.kp T.zbk.b (zd (zx hr (zc 0) (zc 8) (fun _ _ => rfl)) (zd (zc2 (zeB (zc 8) zg) zg) (zd (zc 5) zk zi) zds) zbP)) zg (zS _))))) (zt (zP (i := 14) zcG.nd rfl (Or.inl rfl) (zc2 (zc 14) zg))) zbb)
      (zm (z9 (t_w (ziI (zbd (zqd hr) (zc 3) zg (zS _)) (ziI (zbd (zcD hr) (zB (zdL T) (hr.mono (by decide)) (by rfl) T.zH T.zbk.F.kp T.zbk.b (zd (zx hr (zc 0) (zc 8) (fun _ _ => rfl)) (zd zg (zd zg zk zC) zC) zbP)) zg (zS _)) (zpM (zbd (zfP hr) (zc2 (zCS (by rfl) T.n_abs (zc 14) zi) (zc 3)) zg (zS _)))))) (zt (zP (i := 14) zcG.nd rfl (Or.inl rfl) (zdC (zc 14) (zc 3)))) zbb)
      (zt (zdv (zeS (zc 7) (zch (zd (zc 9) (zd (zc 10) (zd (zc 14) zk zi) zi) zi)) zh4))))))))))
      (zt (zF (zch (zd (zc 2) (zd (zc 7) (zd (zc 3) zk zi) zi) zi))))))))))))
set_option maxHeartbeats 4000000 in
theorem zqA (T : TX K mg) : zI P w K mg base CX0 1 T.zdq.a T.zdq.d ["_law_number", "_law_turn"] (spM T.G 2 zeK) :=
  zbc (k := 0) T.zdq.F zus rfl rfl (by decide) fun cdv A outer s H E hr =>
      (zt (zF (zgZ (zbd (zcD hr) (zc 1) zg (zS _)) (zex (zcD hr) (zc 0) zg (zS _)) (zex (zcD hr) (zeB (zc 0) (zc 1)) zg (zS _)))))
set_option maxHeartbeats 4000000 in
theorem zuV (T : TX K mg) : zI P w K mg base CX0 1 T.zec.a T.zec.d ["_law_ties", "_law_start_here", "_law_steps"] (spM T.G 3 zf5) :=
  zbc (k := 0) T.zec.F zgf rfl rfl (by decide) fun cdv A outer s H E hr =>
      (zm (zAo (i := 3) (j := 4) zgf.nd rfl rfl (zd (zbK (zdO (zd (zc 1) zk zi))) (zd zg zk zC) ziS))
      (zm (zfS PassesOwn.never (zdf (zc 2)) (zcN (i := 5) zgf.nd rfl (Or.inl rfl))
      (zm (z9 (t_w (zcm (zbY (zbo (zdG (by rfl) T.n_isinstance (by rfl) T.n_tuple (zc 5) zi) (fun _ => rfl))) (zdy (zbd (zdw hr) (zcJ (by rfl) T.n_len (zc 5) zi) zg (zS _))))) (zt (zF (zch (zd (zbK (zdO zk)) (zd zg zk zC) ziS)))) zbb)
      (zm (zi5 (zc 5) (zfo rfl (zcq (i := 6) zgf.nd rfl (Or.inl rfl) (zcq (i := 7) zgf.nd rfl (Or.inl rfl) zfg))))
      (zm (z9 (t_w (zcm (zbo (zdG (by rfl) T.n_isinstance (by rfl) T.n_bool (zc 6) zi) (fun _ => rfl)) (zcm (zbY (zbo (zdG (by rfl) T.n_isinstance (by rfl) T.n_int (zc 6) zi) (fun _ => rfl))) (zcm (zbY (zsz (ziG hr) (zfP hr) zg (zc 6) (zcJ (by rfl) T.n_len (zc 0) zi))) (zdy (zbd (zpR hr) (zc 7) (zch (zd zg (zd (zeP zg) zk zim) zC)) (by with_unfolding_all rfl))))))) (zt (zF (zch (zd (zbK (zdO zk)) (zd zg zk zC) ziS)))) zbb)
      (zm (zP (i := 8) zgf.nd rfl (Or.inl rfl) (zgZ (zbd (zcD hr) (zc 7) zg (zS _)) (zCZ (zx hr (zc 0) (zc 6) (fun _ _ => rfl)) ziE (zix zg)) (zAy (zx hr (zc 0) (zc 6) (fun _ _ => rfl)))))
      (zm (z9 (zbd (zdw hr) (zx hr (zc 3) (zeP zg) (fun _ _ => rfl)) (zx hr (zc 8) zg (fun _ _ => rfl)) (zS _)) (zt (zF (zch (zd (zbK (zdO zk)) (zd zg zk zC) ziS)))) zbb)
      (zm (zdv (zeS (zc 3) (zx hr (zc 8) zg (fun _ _ => rfl)) zbP))
      (zt (zP (i := 4) zgf.nd rfl (Or.inl rfl) (zc2 (zc 4) (zhb (zc 7) (zx hr (zx hr (zc 0) (zc 6) (fun _ _ => rfl)) zg (fun _ _ => rfl)))))))))))))
      (zt (zF (zch (zd (zc 3) (zd (zc 4) zk zi) zi))))))
set_option maxHeartbeats 4000000 in
theorem zuW (T : TX K mg) : zI P w K mg base CX0 1 T.zed.a T.zed.d ["_law_found"] (spM T.G 1 zf6) :=
  zbc (k := 0) T.zed.F zut rfl rfl (by decide) fun cdv A outer s H E hr =>
      (zm (z9 (zbY (zbo (zdG (by rfl) T.n_isinstance (by rfl) T.n_list (zc 0) zi) (fun _ => rfl))) (zt (zF zck)) zbb)
      (zt (zF (ziH (ztJ (by rfl) T.n_any (zgm (zeY (N := ["_law_one"]) (js := [none]) rfl (zbX.of (osc := zo zgg) (N0 := ["_law_found"]) rfl rfl (by decide +kernel)) (zdf (zc 0)) (fun _ _ _ _ => (zcN (i := 0) (show (["_law_one"] : List Str).Nodup by decide +kernel) rfl (Or.inl rfl))) (fun _ _ _ _ => zev) (fun _ _ _ _ => (zBW (zdG (by rfl) T.n_isinstance (by rfl) T.n_bool (zc 0) zi) (zgp (ziH (zdG (by rfl) T.n_isinstance (by rfl) T.n_int (zc 0) zi))))))) ze3)))))
set_option maxHeartbeats 4000000 in
theorem zuX (T : TX K mg) : zI P w K mg base CX0 1 T.zee.a T.zee.d ["_law_ties", "_law_steps"] (spM T.G 2 zf7) :=
  zbc (k := 0) T.zee.F zjd rfl rfl (by decide) fun cdv A outer s H E hr =>
      (zm (zi5 (zx hr (zc 1) zg (fun _ _ => rfl)) (zfo rfl (zcq (i := 2) zjd.nd rfl (Or.inl rfl) (zcq (i := 3) zjd.nd rfl (Or.inl rfl) zfg))))
      (zm (z9 (zbY (zsz (ziG hr) (zfP hr) zg (zc 2) (zcJ (by rfl) T.n_len (zc 0) zi))) (zt (zF (zeP zg))) zbb)
      (zt (zF (zgZ (zbd (zcD hr) (zc 3) zg (zS _)) (zx hr (zx hr (zc 0) (zc 2) (fun _ _ => rfl)) zg (fun _ _ => rfl)) (zx hr (zx hr (zc 0) (zc 2) (fun _ _ => rfl)) zg (fun _ _ => rfl)))))))
set_option maxHeartbeats 4000000 in
theorem zji (T : TX K mg) : zI P w K mg base CX0 2 T.zcX.a T.zcX.d ["_law_points", "_law_ties", "_law_turn", "_law_found"] (spM T.G 4 zb1) :=
  zbc (k := 1) T.zcX.F zje rfl rfl (by decide) fun cdv A outer s H E hr =>
      (zm (z9 (zbo (zdR T.ok T.g_Heights (by rfl) T.n_isinstance (by rfl) T.zba.m (zc 3) zi) (fun _ => rfl)) (zm (z9 (zbd (zdw hr) (zcJ (by rfl) T.n_len (zbp T.ok T.an_heights (zc 3) rfl) zcf) (zc 0) (zS _)) (zt (zF zck)) zbb)
      (zt (zF (zpY (by rfl) T.n_all (zgm (zeY (N := ["_law_a", "_law_b", "_law_more", "_law_turn", "_law_found"]) (js := [none, none, none, some 2, some 3]) rfl (zbX.of (osc := zo zfE) (N0 := ["_law_points", "_law_ties", "_law_turn", "_law_found", "_law_came", "_law_total"]) rfl rfl (by decide +kernel)) (zdf (zc 1)) (fun _ _ _ _ => (zfo rfl (zcq (i := 0) (show (["_law_a", "_law_b", "_law_more", "_law_turn", "_law_found"] : List Str).Nodup by decide +kernel) rfl (Or.inl rfl) (zcq (i := 1) (show (["_law_a", "_law_b", "_law_more", "_law_turn", "_law_found"] : List Str).Nodup by decide +kernel) rfl (Or.inl rfl) (zcq (i := 2) (show (["_law_a", "_law_b", "_law_more", "_law_turn", "_law_found"] : List Str).Nodup by decide +kernel) rfl (Or.inl rfl) zfg))))) (fun _ _ _ _ => zev) (fun _ _ _ _ => (zB (zqA T) (hr.mono (by decide)) (by rfl) T.zeK T.zdq.F.kp T.zdq.b (zd (zdC (zdC (zx hr (zbp T.ok T.an_heights (zc 4) rfl) (zc 1) (fun _ _ => rfl)) (zx hr (zbp T.ok T.an_heights (zc 4) rfl) (zc 0) (fun _ _ => rfl))) (zc 2)) (zd (zc 3) zk zi) zds))))) ze3)))) zbb)
      (zm (z9 (zbd (zfP hr) (zcJ (by rfl) T.n_len (zbp T.ok T.an_steps (zc 3) rfl) zcf) zg (zS _)) (zt (zF zck)) zbb)
      (zm (zi5 (zB (zuV T) (hr.mono (by decide)) (by rfl) T.zf5 T.zec.F.kp T.zec.b (zd (zc 1) (zd (zB (zuX T) (hr.mono (by decide)) (by rfl) T.zf7 T.zee.F.kp T.zee.b (zd (zc 1) (zd (zbp T.ok T.an_steps (zc 3) rfl) zk zcf) zi)) (zd (zbp T.ok T.an_steps (zc 3) rfl) zk zcf) zbq) zi)) (zfo rfl (zcq (i := 4) zje.nd rfl (Or.inl rfl) (zcq (i := 5) zje.nd rfl (Or.inl rfl) zfg))))
      (zm (z9 (t_w (zcm (zbd (zcD hr) (zc 4) (zbK (zdO zk)) (zS _)) (zcm (zbd (zdw hr) (zx hr (zc 4) zg (fun _ _ => rfl)) (zx hr (zc 4) (zeP zg) (fun _ _ => rfl)) (zS _)) (zcm (zbd (zdw hr) (zpP (by rfl) T.n_len (by rfl) T.n_set (zfH (zc 4)) zi) (zdC (zcJ (by rfl) T.n_len (zc 4) zi) zg) (zS _)) (zdy (zbo (zB (zqA T) (hr.mono (by decide)) (by rfl) T.zeK T.zdq.F.kp T.zdq.b (zd (zc 5) (zd (zc 2) zk zi) zi)) (fun _ => rfl))))))) (zt (zF zck)) zbb)
      (zt (zF (zex (zcD hr) (zpP (by rfl) T.n_len (by rfl) T.n_set (zgm (zeY (N := ["_law_at", "_law_way"]) (js := [none, none]) rfl (zbX.of (osc := zo zfE) (N0 := ["_law_points", "_law_ties", "_law_turn", "_law_found", "_law_came", "_law_total"]) rfl rfl (by decide +kernel)) (zdf (zbp T.ok T.an_steps (zc 3) rfl)) (fun _ _ _ _ => (zfo rfl (zcq (i := 0) (show (["_law_at", "_law_way"] : List Str).Nodup by decide +kernel) rfl (Or.inl rfl) (zcq (i := 1) (show (["_law_at", "_law_way"] : List Str).Nodup by decide +kernel) rfl (Or.inl rfl) zfg)))) (fun _ _ _ _ => zev) (fun _ _ _ _ => (zc 0)))) ze3) (zcJ (by rfl) T.n_len (zbp T.ok T.an_steps (zc 3) rfl) zcf) (zS _))))))))
set_option maxHeartbeats 4000000 in
theorem zuY (T : TX K mg) : zI P w K mg base CX0 3 T.zef.a T.zef.d ["_law_points", "_law_ties", "_law_turn", "_law_found"] (spM T.G 4 zcT) :=
  zbc (k := 2) T.zef.F zqr rfl rfl (by decide) fun cdv A outer s H E hr =>
      (zm (z9 (t_w (zcm (zbY (zbo (zdR T.ok T.g_Answer (by rfl) T.n_isinstance (by rfl) T.zbH.m (zc 3) zi) (fun _ => rfl))) (zdy (zbd (zcD hr) (zdR T.ok T.g_Heights (by rfl) T.n_isinstance (by rfl) T.zba.m (zc 3) zi) (zdR T.ok T.g_Ring (by rfl) T.n_isinstance (by rfl) T.zbh.m (zc 3) zi) (zS _))))) (zt (zF zck)) zbb)
      (zm (zP (i := 4) zqr.nd rfl (Or.inl rfl) (zbK (zdO (zd (zdR T.ok T.g_Way (by rfl) T.n_isinstance (by rfl) T.zbC.m (zc 3) zi) (zd (zdR T.ok T.g_Apart (by rfl) T.n_isinstance (by rfl) T.zbD.m (zc 3) zi) (zd (zdR T.ok T.g_Around (by rfl) T.n_isinstance (by rfl) T.zbE.m (zc 3) zi) (zd (zdR T.ok T.g_Held (by rfl) T.n_isinstance (by rfl) T.zbF.m (zc 3) zi) zk zbq) zbq) zbq) zbq))))
      (zm (z9 (t_w (zcm (zbo (ztJ (by rfl) T.n_any (zfH (zc 4)) zi) (fun _ => rfl)) (zcm (zbo (zdR T.ok T.g_Camps (by rfl) T.n_isinstance (by rfl) T.zbB.m (zc 3) zi) (fun _ => rfl)) (zcm (zbo (zdR T.ok T.g_Fewest (by rfl) T.n_isinstance (by rfl) T.zbt.m (zc 3) zi) (fun _ => rfl)) (zdy (zbo (zdR T.ok T.g_Quarrel (by rfl) T.n_isinstance (by rfl) T.zbu.m (zc 3) zi) (fun _ => rfl))))))) (zt (zF zck)) zbb)
      (zm (z9 (t_w (ziI (zbo (zdR T.ok T.g_Heights (by rfl) T.n_isinstance (by rfl) T.zba.m (zc 3) zi) (fun _ => rfl)) (zpM (zbY (zbo (zB (zuW T) (hr.mono (by decide)) (by rfl) T.zf6 T.zed.F.kp T.zed.b (zd (zbp T.ok T.an_heights (zc 3) rfl) zk zcf)) (fun _ => rfl)))))) (zt (zF zck)) zbb)
      (zt (zF (zB (zji T) (hr.mono (by decide)) (by rfl) T.zb1 T.zcX.F.kp T.zcX.b (zd (zc 0) (zd (zc 1) (zd (zc 2) (zd (zc 3) zk zi) zi) zi) zi))))))))
set_option maxHeartbeats 4000000 in
theorem zuZ (T : TX K mg) : zI P w K mg base CX0 9 T.zdr.a T.zdr.d ["_law_script"] (spM T.G 1 zhl) :=
  zbc (k := 8) T.zdr.F zfe rfl rfl (by decide) fun cdv A outer s H E hr =>
      (zm (zi5 (zB (zuU T) (hr.mono (by decide)) (by rfl) T.zfu T.zeb.F.kp T.zeb.b (zd (zc 0) zk zi)) (zfo rfl (zcq (i := 1) zfe.nd rfl (Or.inl rfl) (zcq (i := 2) zfe.nd rfl (Or.inl rfl) (zcq (i := 3) zfe.nd rfl (Or.inl rfl) zfg)))))
      (zm (zP (i := 4) zfe.nd rfl (Or.inl rfl) (zbK (ziT (by rfl) T.n_list (zfH (zc 2)) zi)))
      (zm (zP (i := 5) zfe.nd rfl (Or.inl rfl) (zhh T.g_Web T.zhp (zic T) (hr.mono (by decide)) (by rfl) T.zO.m T.zda.b (zd (zc 1) (zd (zc 4) (zd (zc 3) zk zi) zi) zi)))
      (zm (zdv (zeS (zc 4) (zch (zd zg (zd zg (zd zg zk zC) zC) zC)) zh4))
      (zm (z9 (t_w (zcm (zbd (zdw hr) (zch (zd (zbp T.ok T.an_points (zc 5) rfl) (zd (zbp T.ok T.an_turn (zc 5) rfl) zk zcf) zcf)) (zch (zd (zc 1) (zd (zc 3) zk zi) zi)) (zS _)) (zdy (zbd (zdw hr) (zcw (c0 := 0) (zcZ T.g_Web T.zO.cl T.zcK (zcY T) (hr.mono (by decide)) T.zbS.b (zc 5) zcv (zb5 zc7))) (zc 2) (zS _))))) (zt (zF zck)) zbb)
      (zm (zdv (zEM (zcw (c0 := 0) (zcZ T.g_Web T.zO.cl T.zcK (zcY T) (hr.mono (by decide)) T.zbS.b (zc 5) zcv (zb5 zc7)))))
      (zm (zfS PassesOwn.never (ziY (by rfl) T.n_range zg zC) (zcN (i := 6) zfe.nd rfl (Or.inl rfl))
      (zm (zP (i := 7) zfe.nd rfl (Or.inl rfl) (zB (zuT T) (hr.mono (by decide)) (by rfl) T.zdJ T.zea.F.kp T.zea.b (zd (zc 5) zk zi)))
      (zm (z9 (t_w (zcm (zbY (zbo (zB (zuY T) (hr.mono (by decide)) (by rfl) T.zcT T.zef.F.kp T.zef.b (zd (zc 1) (zd (zc 2) (zd (zc 3) (zd (zc 7) zk zi) zi) zi) zi)) (fun _ => rfl))) (zdy (zbd (zhy hr) (zcw (c0 := 2) (zfT T.g_Heights T.zba.cl T.zhq (zid T) (hr.mono (by decide)) T.zdb.b (zc 7) (zd (zc 5) zk zi) (zfT T.g_Ring T.zbh.cl T.zhr (zie T) (hr.mono (by decide)) T.zdc.b (zc 7) (zd (zc 5) zk zi) zcv (zb5 zfF)) (zb5 zfF))) zck (zS _))))) (zt (zF zck)) zbb)
      (zm (zsa (j := 8) (N := ["_law_a", "_law_b", "_law_more"]) (js := [none, none, none]) rfl zfe.nd rfl rfl (zbX.of (osc := zo zgh) (N0 := ["_law_script", "_law_points", "_law_ties", "_law_turn", "_law_handed", "_law_web_here", "_law_again", "_law_found", "_law_turned"]) rfl rfl (by decide +kernel)) (zdf (zc 2)) (fun _ _ _ _ => (zfo rfl (zcq (i := 0) (show (["_law_a", "_law_b", "_law_more"] : List Str).Nodup by decide +kernel) rfl (Or.inl rfl) (zcq (i := 1) (show (["_law_a", "_law_b", "_law_more"] : List Str).Nodup by decide +kernel) rfl (Or.inl rfl) (zcq (i := 2) (show (["_law_a", "_law_b", "_law_more"] : List Str).Nodup by decide +kernel) rfl (Or.inl rfl) zfg))))) (fun _ _ _ _ => zev) (fun _ _ _ _ => (zch (zd (zc 1) (zd (zc 0) (zd (zeP (zc 2)) zk zim) zi) zi))))
      (zm (z9 (zbd (zdw hr) (zcw (c0 := 2) (zfT T.g_Heights T.zba.cl T.zhq (zid T) (hr.mono (by decide)) T.zdb.b (zc 7) (zd (zB (zqv T) (hr.mono (by decide)) (by rfl) T.zdj T.zdl.F.kp T.zdl.b (zd (zc 5) zk zi)) zk zbq) (zfT T.g_Ring T.zbh.cl T.zhr (zie T) (hr.mono (by decide)) T.zdc.b (zc 7) (zd (zB (zqv T) (hr.mono (by decide)) (by rfl) T.zdj T.zdl.F.kp T.zdl.b (zd (zc 5) zk zi)) zk zbq) zcv (zb5 zfF)) (zb5 zfF))) (zB (zji T) (hr.mono (by decide)) (by rfl) T.zb1 T.zcX.F.kp T.zcX.b (zd (zc 1) (zd (zc 8) (zd (zc 3) (zd (zc 7) zk zi) zi) zi) zi)) (zS _)) (zt (zF zck)) zbb)
      (zm (z9 (zbd (zdw hr) (zcw (c0 := 2) (zfT T.g_Heights T.zba.cl T.zhq (zid T) (hr.mono (by decide)) T.zdb.b (zc 7) (zd (zhh T.g_Web T.zhp (zic T) (hr.mono (by decide)) (by rfl) T.zO.m T.zda.b (zd (zc 1) (zd (zbK (zp8 (zc 2) (zix zg) ziE)) (zd (zc 3) zk zi) zbP) zi)) zk zbq) (zfT T.g_Ring T.zbh.cl T.zhr (zie T) (hr.mono (by decide)) T.zdc.b (zc 7) (zd (zhh T.g_Web T.zhp (zic T) (hr.mono (by decide)) (by rfl) T.zO.m T.zda.b (zd (zc 1) (zd (zbK (zp8 (zc 2) (zix zg) ziE)) (zd (zc 3) zk zi) zbP) zi)) zk zbq) zcv (zb5 zfF)) (zb5 zfF))) (zB (zji T) (hr.mono (by decide)) (by rfl) T.zb1 T.zcX.F.kp T.zcX.b (zd (zc 1) (zd (zbK (zp8 (zc 2) (zix zg) ziE)) (zd (zc 3) (zd (zc 7) zk zi) zi) zbP) zi)) (zS _)) (zt (zF zck)) zbb)
      (zm (z9 (zbo (zdR T.ok T.g_Heights (by rfl) T.n_isinstance (by rfl) T.zba.m (zc 7) zi) (fun _ => rfl)) (zt (zdv (zeS (zbp T.ok T.an_heights (zc 7) rfl) zg zC))) (zt (zdv (zeS (zbp T.ok T.an_steps (zc 7) rfl) (zx hr (zbp T.ok T.an_steps (zc 7) rfl) zg (fun _ _ => rfl)) zbP))))
      (zt (z9 (zbd (zhy hr) (zcw (c0 := 2) (zfT T.g_Heights T.zba.cl T.zhq (zid T) (hr.mono (by decide)) T.zdb.b (zc 7) (zd (zc 5) zk zi) (zfT T.g_Ring T.zbh.cl T.zhr (zie T) (hr.mono (by decide)) T.zdc.b (zc 7) (zd (zc 5) zk zi) zcv (zb5 zfF)) (zb5 zfF))) zck (zS _)) (zt (zF zck)) zbb)))))))))
      (zt (zF (zex (zcD hr) (zcw (c0 := 0) (zcZ T.g_Web T.zO.cl T.zcK (zcY T) (hr.mono (by decide)) T.zbS.b (zc 5) zcv (zb5 zc7))) (zc 2) (zS _)))))))))))
end
end My
end
def PySem.W.Fast.tw11949841707711401914 := 0
def PySem.W.Fast.tw877734980238312806 := 0
def PySem.W.Fast.tw16209993519926078747 := 0
def PySem.W.Fast.tw14060108803885297920 := 0
def PySem.W.Fast.tw12589828326199711350 := 0
def PySem.W.Fast.tw3337198361058891676 := 0
def PySem.W.Fast.tw13309063294399457452 := 0
def PySem.W.Fast.tw7441907487154081982 := 0
def PySem.W.Fast.tw7768494995654129462 := 0
def PySem.W.Fast.tw3766967248406151997 := 0
def PySem.W.Fast.tw8889731726666469941 := 0
def PySem.W.Fast.tw5270212105894095471 := 0
def PySem.W.Fast.tw8905590377970121707 := 0
def PySem.W.Fast.tw5146932327162664188 := 0
def PySem.W.Fast.tw7619030833201711350 := 0
def PySem.W.Fast.tw16412392551899971318 := 0
def PySem.W.Fast.tw16244001252724596596 := 0
def PySem.W.Fast.tw408435377631712169 := 0
def PySem.W.Fast.tw7940664674815033979 := 0
def PySem.W.Fast.tw16129866681499072036 := 0
def PySem.W.Fast.tw13912125073555440192 := 0
def PySem.W.Fast.tw4393995820719878905 := 0
def PySem.W.Fast.tw13731618955083161919 := 0
def PySem.W.Fast.tw2521531605471309328 := 0
def PySem.W.Fast.tw9240077477393006819 := 0
def PySem.W.Fast.tw8208653070046022181 := 0
def PySem.W.Fast.tw8592586752309444504 := 0
def PySem.W.Fast.tw5239111777536405166 := 0
def PySem.W.Fast.tw14252936376334738680 := 0
def PySem.W.Fast.tw181626697616269314 := 0
def PySem.W.Fast.tw10320639841306445765 := 0
def PySem.W.Fast.tw2436436829762513924 := 0
def PySem.W.Fast.tw6121773221769994141 := 0
def PySem.W.Fast.tw15715168531169702991 := 0
def PySem.W.Fast.tw7473265844756197541 := 0
def PySem.W.Fast.tw8706163233580829980 := 0
def PySem.W.Fast.tw14542985992745923120 := 0
def PySem.W.Fast.tw823732779397632720 := 0
def PySem.W.Fast.tw17615357219181260426 := 0
def PySem.W.Fast.tw11212437250784173530 := 0
def PySem.W.Fast.tw2480372583222345699 := 0
def PySem.W.Fast.tw3184163856220212339 := 0
def PySem.W.Fast.tw11220599817266367655 := 0
def PySem.W.Fast.tw12824133969097529822 := 0
def PySem.W.Fast.tw16801888834293613708 := 0
def PySem.W.Fast.tw6098594161061131245 := 0
def PySem.W.Fast.tw4759427665794257541 := 0
def PySem.W.Fast.tw17410700330473374344 := 0
def PySem.W.Fast.tw5447442907146324057 := 0
def PySem.W.Fast.tw4535056655261233931 := 0
def PySem.W.Fast.tw3054504460303245155 := 0
def PySem.W.Fast.tw287064358450454460 := 0
def PySem.W.Fast.tw5482643138084658884 := 0
def PySem.W.Fast.tw4397077622340275352 := 0
def PySem.W.Fast.tw8161806594487666348 := 0
def PySem.W.Fast.tw7156518318310086115 := 0
def PySem.W.Fast.tw8238909206726915433 := 0
def PySem.W.Fast.tw1862204910482365808 := 0
def PySem.W.Fast.tw5819169763520310346 := 0
def PySem.W.Fast.tw13473742184802614001 := 0
def PySem.W.Fast.tw10239870010819811191 := 0
open PySem L2 MI
namespace My
theorem zBl {P : Program} {w : World} {K : PySem.W.Frag} {mg : Str -> Option Value} {base : Heap} (T : TX K mg) : zI P w K mg base CX0 9 T.zdr.a T.zdr.d ["_law_script"] (zg2 K) := (zuZ T).imp fun vs H Q E h => zFB (G := T.G) Mx.law_true vs H Q E h
set_option maxHeartbeats 0 in
theorem all_mk {l : PySem.W.OpenLaw} {w : World} {K : PySem.W.Frag} {h : Heap} {mg : Str -> Option Value} {fa : Addr} (X : K.In h) (G : h.Ns mainGlobals mg) (hfa : mg "law" = some (.ref fa))
    {zcU zcr zcV zdW zdX zcW zda zbS zdk zdl zdY zdm zcs zdZ zd0 zdn zdo zd1 zd2 zd3 zd4 zd5 zdp zd6 zdb zd7 zdc zd8 zd9 zea zca zbk zeb zdq zec zed zee zcX zef zdr zbi zbG zbl zbm zbr zbv zbs zbw zbx zby zbz : Addr}
    {zu0 zu1 zu2 zu3 zu4 zu5 zu6 zu7 zu8 zu9 zva zvb zvc zvd zve zvf zvg zvh zvi zvj zvk zvl zvm zvn zvo zvp zvq zvr zvs zvt zvu zvv zvw zvx zvy zvz zvA zvB zvC zvD zvE zvF zvG zvH zvI zvJ zvK zvL zvM zvN zvO zvP zvQ zvR zvS zvT zvU zvV zvW zvX zvY zvZ zv0 zv1 zv2 zv3 zv4 zv5 zv6 zv7 zv8 zv9 zwa zwb zwc zwd zwe zwf zwg zwh : Option Addr} {zwi zwj zwk zwl zwm zwn zwo zwp zwq zwr zws zwt zwu zwv zww zwx zwy zwz zwA zwB zwC zwD zwE zwF zwG zwH zwI zwJ zwK zwL zwM zwN zwO zwP zwQ zwR zwS zwT zwU zwV : Array (Option Value)} {zwW zwX zwY zwZ zqB zw0 zw1 zw2 zw3 zw4 zqC zw5 zw6 zw7 zw8 zw9 zqD zxa zxb zxc zxd zxe zqE zxf zxg zxh zxi zxj zqF zxk zxl zxm zxn zxo zqG zxp zxq zxr zxs zxt zqH zxu zxv zxw zxx zxy zqI zxz zxA zxB zxC zxD zqJ zxE zxF zxG zxH zxI zqK zxJ zxK zxL zxM zxN zqL zxO zxP zxQ zxR zxS zqM zxT zxU zxV zxW zxX zqN zxY zxZ zx0 zx1 zx2 zqO zx3 zx4 zx5 zx6 zx7 zqP zx8 zx9 zya zyb zyc zqQ zyd zye zyf zyg zyh zqR zyi zyj zyk zyl zym zqS zyn zyo zyp zyq zyr zqT zys zyt zyu zyv zyw zqU zyx zyy zyz zyA zyB zqV zyC zyD zyE zyF zyG zqW zyH zyI zyJ zyK zyL zqX zyM zyN zyO zyP zyQ zqY zyR zyS zyT zyU zyV zqZ zyW zyX zyY zyZ zy0 zq0 zy1 zy2 zy3 zy4 zy5 zq1 zy6 zy7 zy8 zy9 zza zq2 zzb zzc zzd zze zzf zq3 zzg zzh zzi zzj zzk zq4 zzl zzm zzn zzo zzp zq5 zzq zzr zzs zzt zzu zq6 zzv zzw zzx zzy zzz zq7 zzA zzB zzC zzD zzE zq8 zzF zzG zzH zzI zzJ zq9 zzK zzL zzM zzN zzO zra zzP zzQ zzR zzS zzT zrb zzU zzV zzW zzX zzY zrc zzZ zz0 zz1 zz2 zz3 zrd zz4 zz5 zz6 zz7 zz8 zre zz9 : Value}
    {tk_MOST tk_FORTH tk_BACK : Tok}
    (zjj : PySem.W.nsIn K mainGlobals "is_number" = some (some (.ref zcU)))
    (zjk : K.lookup zcU = some ⟨zwW, zu0, .func (PySem.W.fnOf "is_number" "is_number" (zX zf8) (zT zf8) (zo zf8) .none zwX zwY zwZ zu1 zqB zw0), zwi⟩)
    (zjl : PySem.W.codeIn K zqB "is_number" = true)
    (zjm : PySem.W.keepIn K (.ref zcU) = true)
    (zjn : PySem.W.nsIn K mainGlobals "is_within" = some (some (.ref zcr)))
    (zjo : K.lookup zcr = some ⟨zw1, zu2, .func (PySem.W.fnOf "is_within" "is_within" (zX zf9) (zT zf9) (zo zf9) .none zw2 zw3 zw4 zu3 zqC zw5), zwj⟩)
    (zjp : PySem.W.codeIn K zqC "is_within" = true)
    (zjq : PySem.W.keepIn K (.ref zcr) = true)
    (zjr : PySem.W.nsIn K mainGlobals "is_point" = some (some (.ref zcV)))
    (zjs : K.lookup zcV = some ⟨zw6, zu4, .func (PySem.W.fnOf "is_point" "is_point" (zX zga) (zT zga) (zo zga) .none zw7 zw8 zw9 zu5 zqD zxa), zwk⟩)
    (zjt : PySem.W.codeIn K zqD "is_point" = true)
    (zju : PySem.W.keepIn K (.ref zcV) = true)
    (zjv : PySem.W.nsIn K mainGlobals "is_tie" = some (some (.ref zdW)))
    (zjw : K.lookup zdW = some ⟨zxb, zu6, .func (PySem.W.fnOf "is_tie" "is_tie" (zX zgb) (zT zgb) (zo zgb) .none zxc zxd zxe zu7 zqE zxf), zwl⟩)
    (zjx : PySem.W.codeIn K zqE "is_tie" = true)
    (zjy : PySem.W.keepIn K (.ref zdW) = true)
    (zjz : PySem.W.nsIn K mainGlobals "own_tie" = some (some (.ref zdX)))
    (zjA : K.lookup zdX = some ⟨zxg, zu8, .func (PySem.W.fnOf "own_tie" "own_tie" (zX zfv) (zT zfv) (zo zfv) .none zxh zxi zxj zu9 zqF zxk), zwm⟩)
    (zjB : PySem.W.codeIn K zqF "own_tie" = true)
    (zjC : PySem.W.keepIn K (.ref zdX) = true)
    (zjD : PySem.W.nsIn K mainGlobals "alike" = some (some (.ref zcW)))
    (zjE : K.lookup zcW = some ⟨zxl, zva, .func (PySem.W.fnOf "alike" "alike" (zX zdK) (zT zdK) (zo zdK) .none zxm zxn zxo zvb zqG zxp), zwn⟩)
    (zjF : PySem.W.codeIn K zqG "alike" = true)
    (zjG : PySem.W.keepIn K (.ref zcW) = true)
    (zjH : PySem.W.findIn K (.ref zbi) "__init__" = some (some (.ref zda)))
    (zjI : PySem.W.isFn K (.ref zda) = true)
    (zjJ : K.lookup zda = some ⟨zxq, zvc, .func (PySem.W.fnOf "__init__" "Web.__init__" (zX zgd) (zT zgd) (zo zgd) .none zxr zxs zxt zvd zqH zxu), zwo⟩)
    (zjK : PySem.W.codeIn K zqH "Web.__init__" = true)
    (zjL : PySem.W.keepIn K (.ref zda) = true)
    (zjM : PySem.W.findIn K (.ref zbi) "ties" = some (some (.ref zbS)))
    (zjN : PySem.W.isFn K (.ref zbS) = true)
    (zjO : K.lookup zbS = some ⟨zxv, zve, .func (PySem.W.fnOf "ties" "Web.ties" (zX zbR) (zT zbR) (zo zbR) .none zxw zxx zxy zvf zqI zxz), zwp⟩)
    (zjP : PySem.W.codeIn K zqI "Web.ties" = true)
    (zif : PySem.W.keepIn K (.ref zbS) = true)
    (zjQ : PySem.W.nsIn K mainGlobals "turned" = some (some (.ref zdk)))
    (zjR : K.lookup zdk = some ⟨zxA, zvg, .func (PySem.W.fnOf "turned" "turned" (zX zgc) (zT zgc) (zo zgc) .none zxB zxC zxD zvh zqJ zxE), zwq⟩)
    (zjS : PySem.W.codeIn K zqJ "turned" = true)
    (zjT : PySem.W.keepIn K (.ref zdk) = true)
    (zjU : PySem.W.nsIn K mainGlobals "about" = some (some (.ref zdl)))
    (zjV : K.lookup zdl = some ⟨zxF, zvi, .func (PySem.W.fnOf "about" "about" (zX ze8) (zT ze8) (zo ze8) .none zxG zxH zxI zvj zqK zxJ), zwr⟩)
    (zjW : PySem.W.codeIn K zqK "about" = true)
    (zjX : PySem.W.keepIn K (.ref zdl) = true)
    (zjY : PySem.W.nsIn K mainGlobals "is_place" = some (some (.ref zdY)))
    (zjZ : K.lookup zdY = some ⟨zxK, zvk, .func (PySem.W.fnOf "is_place" "is_place" (zX ze9) (zT ze9) (zo ze9) .none zxL zxM zxN zvl zqL zxO), zws⟩)
    (zj0 : PySem.W.codeIn K zqL "is_place" = true)
    (zj1 : PySem.W.keepIn K (.ref zdY) = true)
    (zj2 : PySem.W.nsIn K mainGlobals "is_step" = some (some (.ref zdm)))
    (zj3 : K.lookup zdm = some ⟨zxP, zvm, .func (PySem.W.fnOf "is_step" "is_step" (zX zfa) (zT zfa) (zo zfa) .none zxQ zxR zxS zvn zqM zxT), zwt⟩)
    (zj4 : PySem.W.codeIn K zqM "is_step" = true)
    (zj5 : PySem.W.keepIn K (.ref zdm) = true)
    (zj6 : PySem.W.nsIn K mainGlobals "leg" = some (some (.ref zcs)))
    (zj7 : K.lookup zcs = some ⟨zxU, zvo, .func (PySem.W.fnOf "leg" "leg" (zX zdU) (zT zdU) (zo zdU) .none zxV zxW zxX zvp zqN zxY), zwu⟩)
    (zj8 : PySem.W.codeIn K zqN "leg" = true)
    (zj9 : PySem.W.keepIn K (.ref zcs) = true)
    (zka : PySem.W.nsIn K mainGlobals "legs" = some (some (.ref zdZ)))
    (zkb : K.lookup zdZ = some ⟨zxZ, zvq, .func (PySem.W.fnOf "legs" "legs" (zX zfw) (zT zfw) (zo zfw) .none zx0 zx1 zx2 zvr zqO zx3), zwv⟩)
    (zkc : PySem.W.codeIn K zqO "legs" = true)
    (zkd : PySem.W.keepIn K (.ref zdZ) = true)
    (zke : PySem.W.nsIn K mainGlobals "every_tie" = some (some (.ref zd0)))
    (zkf : K.lookup zd0 = some ⟨zx4, zvs, .func (PySem.W.fnOf "every_tie" "every_tie" (zX zfx) (zT zfx) (zo zfx) .none zx5 zx6 zx7 zvt zqP zx8), zww⟩)
    (zkg : PySem.W.codeIn K zqP "every_tie" = true)
    (zkh : PySem.W.keepIn K (.ref zd0) = true)
    (zki : PySem.W.nsIn K mainGlobals "steps_from" = some (some (.ref zdn)))
    (zkj : K.lookup zdn = some ⟨zx9, zvu, .func (PySem.W.fnOf "steps_from" "steps_from" (zX zeN) (zT zeN) (zo zeN) .none zya zyb zyc zvv zqQ zyd), zwx⟩)
    (zkk : PySem.W.codeIn K zqQ "steps_from" = true)
    (zkl : PySem.W.keepIn K (.ref zdn) = true)
    (zkm : PySem.W.nsIn K mainGlobals "spread" = some (some (.ref zdo)))
    (zkn : K.lookup zdo = some ⟨zye, zvw, .func (PySem.W.fnOf "spread" "spread" (zX zfc) (zT zfc) (zo zfc) .none zyf zyg zyh zvx zqR zyi), zwy⟩)
    (zko : PySem.W.codeIn K zqR "spread" = true)
    (zkp : PySem.W.keepIn K (.ref zdo) = true)
    (zkq : PySem.W.nsIn K mainGlobals "reach" = some (some (.ref zd1)))
    (zkr : K.lookup zd1 = some ⟨zyj, zvy, .func (PySem.W.fnOf "reach" "reach" (zX zfy) (zT zfy) (zo zfy) .none zyk zyl zym zvz zqS zyn), zwz⟩)
    (zks : PySem.W.codeIn K zqS "reach" = true)
    (zkt : PySem.W.keepIn K (.ref zd1) = true)
    (zku : PySem.W.nsIn K mainGlobals "reach_all" = some (some (.ref zd2)))
    (zkv : K.lookup zd2 = some ⟨zyo, zvA, .func (PySem.W.fnOf "reach_all" "reach_all" (zX zfz) (zT zfz) (zo zfz) .none zyp zyq zyr zvB zqT zys), zwA⟩)
    (zkw : PySem.W.codeIn K zqT "reach_all" = true)
    (zkx : PySem.W.keepIn K (.ref zd2) = true)
    (zky : PySem.W.nsIn K mainGlobals "trace" = some (some (.ref zd3)))
    (zkz : K.lookup zd3 = some ⟨zyt, zvC, .func (PySem.W.fnOf "trace" "trace" (zX zfA) (zT zfA) (zo zfA) .none zyu zyv zyw zvD zqU zyx), zwB⟩)
    (zkA : PySem.W.codeIn K zqU "trace" = true)
    (zkB : PySem.W.keepIn K (.ref zd3) = true)
    (zkC : PySem.W.nsIn K mainGlobals "ties_taken" = some (some (.ref zd4)))
    (zkD : K.lookup zd4 = some ⟨zyy, zvE, .func (PySem.W.fnOf "ties_taken" "ties_taken" (zX zfd) (zT zfd) (zo zfd) .none zyz zyA zyB zvF zqV zyC), zwC⟩)
    (zkE : PySem.W.codeIn K zqV "ties_taken" = true)
    (zkF : PySem.W.keepIn K (.ref zd4) = true)
    (zkG : PySem.W.nsIn K mainGlobals "are_numbers" = some (some (.ref zd5)))
    (zkH : K.lookup zd5 = some ⟨zyD, zvG, .func (PySem.W.fnOf "are_numbers" "are_numbers" (zX zeL) (zT zeL) (zo zeL) .none zyE zyF zyG zvH zqW zyH), zwD⟩)
    (zkI : PySem.W.codeIn K zqW "are_numbers" = true)
    (zkJ : PySem.W.keepIn K (.ref zd5) = true)
    (zkK : PySem.W.nsIn K mainGlobals "are_different" = some (some (.ref zdp)))
    (zkL : K.lookup zdp = some ⟨zyI, zvI, .func (PySem.W.fnOf "are_different" "are_different" (zX zfb) (zT zfb) (zo zfb) .none zyJ zyK zyL zvJ zqX zyM), zwE⟩)
    (zkM : PySem.W.codeIn K zqX "are_different" = true)
    (zkN : PySem.W.keepIn K (.ref zdp) = true)
    (zkO : PySem.W.findIn K (.ref zbl) "__init__" = some (some (.ref zd6)))
    (zkP : PySem.W.isFn K (.ref zd6) = true)
    (zkQ : K.lookup zd6 = some ⟨zyN, zvK, .func (PySem.W.fnOf "__init__" "Heights.__init__" (zX zgy) (zT zgy) (zo zgy) .none zyO zyP zyQ zvL zqY zyR), zwF⟩)
    (zkR : PySem.W.codeIn K zqY "Heights.__init__" = true)
    (zkS : PySem.W.keepIn K (.ref zd6) = true)
    (zkT : PySem.W.findIn K (.ref zbl) "shows" = some (some (.ref zdb)))
    (zkU : PySem.W.isFn K (.ref zdb) = true)
    (zkV : K.lookup zdb = some ⟨zyS, zvM, .func (PySem.W.fnOf "shows" "Heights.shows" (zX zeM) (zT zeM) (zo zeM) .none zyT zyU zyV zvN zqZ zyW), zwG⟩)
    (zkW : PySem.W.codeIn K zqZ "Heights.shows" = true)
    (zig : PySem.W.keepIn K (.ref zdb) = true)
    (zkX : PySem.W.findIn K (.ref zbm) "__init__" = some (some (.ref zd7)))
    (zkY : PySem.W.isFn K (.ref zd7) = true)
    (zkZ : K.lookup zd7 = some ⟨zyX, zvO, .func (PySem.W.fnOf "__init__" "Ring.__init__" (zX zgz) (zT zgz) (zo zgz) .none zyY zyZ zy0 zvP zq0 zy1), zwH⟩)
    (zk0 : PySem.W.codeIn K zq0 "Ring.__init__" = true)
    (zk1 : PySem.W.keepIn K (.ref zd7) = true)
    (zk2 : PySem.W.findIn K (.ref zbm) "shows" = some (some (.ref zdc)))
    (zk3 : PySem.W.isFn K (.ref zdc) = true)
    (zk4 : K.lookup zdc = some ⟨zy2, zvQ, .func (PySem.W.fnOf "shows" "Ring.shows" (zX zdV) (zT zdV) (zo zdV) .none zy3 zy4 zy5 zvR zq1 zy6), zwI⟩)
    (zk5 : PySem.W.codeIn K zq1 "Ring.shows" = true)
    (zih : PySem.W.keepIn K (.ref zdc) = true)
    (zk6 : PySem.W.nsIn K mainGlobals "heights_along" = some (some (.ref zd8)))
    (zk7 : K.lookup zd8 = some ⟨zy7, zvS, .func (PySem.W.fnOf "heights_along" "heights_along" (zX zfB) (zT zfB) (zo zfB) .none zy8 zy9 zza zvT zq2 zzb), zwJ⟩)
    (zk8 : PySem.W.codeIn K zq2 "heights_along" = true)
    (zk9 : PySem.W.keepIn K (.ref zd8) = true)
    (zla : PySem.W.nsIn K mainGlobals "ring_by" = some (some (.ref zd9)))
    (zlb : K.lookup zd9 = some ⟨zzc, zvU, .func (PySem.W.fnOf "ring_by" "ring_by" (zX zfC) (zT zfC) (zo zfC) .none zzd zze zzf zvV zq3 zzg), zwK⟩)
    (zlc : PySem.W.codeIn K zq3 "ring_by" = true)
    (zld : PySem.W.keepIn K (.ref zd9) = true)
    (zle : PySem.W.nsIn K mainGlobals "levels" = some (some (.ref zea)))
    (zlf : K.lookup zea = some ⟨zzh, zvW, .func (PySem.W.fnOf "levels" "levels" (zX zfD) (zT zfD) (zo zfD) .none zzi zzj zzk zvX zq4 zzl), zwL⟩)
    (zlg : PySem.W.codeIn K zq4 "levels" = true)
    (zlh : PySem.W.keepIn K (.ref zea) = true)
    (zli : PySem.W.nsIn K mainGlobals "_law_cell_at" = some (some (.ref zca)))
    (zlj : K.lookup zca = some ⟨zzm, zvY, .func (PySem.W.fnOf "_law_cell_at" "_law_cell_at" (zX zgB) (zT zgB) (zo zgB) .none zzn zzo zzp zvZ zq5 zzq), zwM⟩)
    (zlk : PySem.W.codeIn K zq5 "_law_cell_at" = true)
    (zll : PySem.W.keepIn K (.ref zca) = true)
    (zlm : PySem.W.nsIn K mainGlobals "_law_draw" = some (some (.ref zbk)))
    (zln : K.lookup zbk = some ⟨zzr, zv0, .func (PySem.W.fnOf "_law_draw" "_law_draw" (zX zgC) (zT zgC) (zo zgC) .none zzs zzt zzu zv1 zq6 zzv), zwN⟩)
    (zlo : PySem.W.codeIn K zq6 "_law_draw" = true)
    (zlp : PySem.W.keepIn K (.ref zbk) = true)
    (zlq : PySem.W.nsIn K mainGlobals "_law_web" = some (some (.ref zeb)))
    (zlr : K.lookup zeb = some ⟨zzw, zv2, .func (PySem.W.fnOf "_law_web" "_law_web" (zX zgD) (zT zgD) (zo zgD) .none zzx zzy zzz zv3 zq7 zzA), zwO⟩)
    (zls : PySem.W.codeIn K zq7 "_law_web" = true)
    (zlt : PySem.W.keepIn K (.ref zeb) = true)
    (zlu : PySem.W.nsIn K mainGlobals "_law_nought" = some (some (.ref zdq)))
    (zlv : K.lookup zdq = some ⟨zzB, zv4, .func (PySem.W.fnOf "_law_nought" "_law_nought" (zX zgE) (zT zgE) (zo zgE) .none zzC zzD zzE zv5 zq8 zzF), zwP⟩)
    (zlw : PySem.W.codeIn K zq8 "_law_nought" = true)
    (zlx : PySem.W.keepIn K (.ref zdq) = true)
    (zly : PySem.W.nsIn K mainGlobals "_law_walk" = some (some (.ref zec)))
    (zlz : K.lookup zec = some ⟨zzG, zv6, .func (PySem.W.fnOf "_law_walk" "_law_walk" (zX zgF) (zT zgF) (zo zgF) .none zzH zzI zzJ zv7 zq9 zzK), zwQ⟩)
    (zlA : PySem.W.codeIn K zq9 "_law_walk" = true)
    (zlB : PySem.W.keepIn K (.ref zec) = true)
    (zlC : PySem.W.nsIn K mainGlobals "_law_numbers" = some (some (.ref zed)))
    (zlD : K.lookup zed = some ⟨zzL, zv8, .func (PySem.W.fnOf "_law_numbers" "_law_numbers" (zX zgg) (zT zgg) (zo zgg) .none zzM zzN zzO zv9 zra zzP), zwR⟩)
    (zlE : PySem.W.codeIn K zra "_law_numbers" = true)
    (zlF : PySem.W.keepIn K (.ref zed) = true)
    (zlG : PySem.W.nsIn K mainGlobals "_law_start" = some (some (.ref zee)))
    (zlH : K.lookup zee = some ⟨zzQ, zwa, .func (PySem.W.fnOf "_law_start" "_law_start" (zX zgG) (zT zgG) (zo zgG) .none zzR zzS zzT zwb zrb zzU), zwS⟩)
    (zlI : PySem.W.codeIn K zrb "_law_start" = true)
    (zlJ : PySem.W.keepIn K (.ref zee) = true)
    (zlK : PySem.W.nsIn K mainGlobals "_law_due" = some (some (.ref zcX)))
    (zlL : K.lookup zcX = some ⟨zzV, zwc, .func (PySem.W.fnOf "_law_due" "_law_due" (zX zfE) (zT zfE) (zo zfE) .none zzW zzX zzY zwd zrc zzZ), zwT⟩)
    (zlM : PySem.W.codeIn K zrc "_law_due" = true)
    (zlN : PySem.W.keepIn K (.ref zcX) = true)
    (zlO : PySem.W.nsIn K mainGlobals "_law_right" = some (some (.ref zef)))
    (zlP : K.lookup zef = some ⟨zz0, zwe, .func (PySem.W.fnOf "_law_right" "_law_right" (zX zgH) (zT zgH) (zo zgH) .none zz1 zz2 zz3 zwf zrd zz4), zwU⟩)
    (zlQ : PySem.W.codeIn K zrd "_law_right" = true)
    (zlR : PySem.W.keepIn K (.ref zef) = true)
    (zii : PySem.W.nsIn K mainGlobals "law" = some (some (.ref zdr)))
    (zlS : K.lookup zdr = some ⟨zz5, zwg, .func (PySem.W.fnOf "law" "law" (zX zgh) (zT zgh) (zo zgh) .none zz6 zz7 zz8 zwh zre zz9), zwV⟩)
    (zlT : PySem.W.codeIn K zre "law" = true)
    (zlU : PySem.W.keepIn K (.ref zdr) = true)
    (zlV : PySem.W.nsIn K mainGlobals "Web" = some (some (.ref zbi)))
    (zlW : PySem.W.plainGet K zbi Str.empty = true)
    (zlX : PySem.W.hasDictIn K zbi = true)
    (zlY : PySem.W.plainOver K zbi = true)
    (zlZ : PySem.W.findIn K (.ref zbi) "__setattr__" = some (some (.builtin "object.__setattr__")))
    (zl0 : PySem.W.findIn K (.ref zbi) "__class__" = some (some (.builtin "object.__class__")))
    (zl1 : PySem.W.mroIn K zbi (.type "object") = some true)
    (zl2 : PySem.W.makesIn K zbi = true)
    (zl3 : PySem.W.keepIn K (.ref zbi) = true)
    (zgI : PySem.W.findIn K (.ref zbi) "points" = some none)
    (zgJ : PySem.W.findIn K (.ref zbi) "turn" = some none)
    (zgK : PySem.W.findIn K (.ref zbi) "triples" = some none)
    (zl4 : PySem.W.nsIn K mainGlobals "Answer" = some (some (.ref zbG)))
    (zl5 : PySem.W.plainGet K zbG Str.empty = true)
    (zl6 : PySem.W.hasDictIn K zbG = true)
    (zl7 : PySem.W.plainOver K zbG = true)
    (zl8 : PySem.W.findIn K (.ref zbG) "__setattr__" = some (some (.builtin "object.__setattr__")))
    (zl9 : PySem.W.findIn K (.ref zbG) "__class__" = some (some (.builtin "object.__class__")))
    (zma : PySem.W.mroIn K zbG (.type "object") = some true)
    (zmb : PySem.W.nsIn K mainGlobals "Heights" = some (some (.ref zbl)))
    (zmc : PySem.W.plainGet K zbl Str.empty = true)
    (zmd : PySem.W.hasDictIn K zbl = true)
    (zme : PySem.W.plainOver K zbl = true)
    (zmf : PySem.W.findIn K (.ref zbl) "__setattr__" = some (some (.builtin "object.__setattr__")))
    (zmg : PySem.W.findIn K (.ref zbl) "__class__" = some (some (.builtin "object.__class__")))
    (zmh : PySem.W.mroIn K zbl (.type "object") = some true)
    (zmi : PySem.W.makesIn K zbl = true)
    (zmj : PySem.W.keepIn K (.ref zbl) = true)
    (zgL : PySem.W.findIn K (.ref zbl) "heights" = some none)
    (zmk : PySem.W.nsIn K mainGlobals "Ring" = some (some (.ref zbm)))
    (zml : PySem.W.plainGet K zbm Str.empty = true)
    (zmm : PySem.W.hasDictIn K zbm = true)
    (zmn : PySem.W.plainOver K zbm = true)
    (zmo : PySem.W.findIn K (.ref zbm) "__setattr__" = some (some (.builtin "object.__setattr__")))
    (zmp : PySem.W.findIn K (.ref zbm) "__class__" = some (some (.builtin "object.__class__")))
    (zmq : PySem.W.mroIn K zbm (.type "object") = some true)
    (zmr : PySem.W.makesIn K zbm = true)
    (zms : PySem.W.keepIn K (.ref zbm) = true)
    (zgM : PySem.W.findIn K (.ref zbm) "steps" = some none)
    (zmt : PySem.W.nsIn K mainGlobals "Fewest" = some (some (.ref zbr)))
    (zmu : PySem.W.plainGet K zbr Str.empty = true)
    (zmv : PySem.W.hasDictIn K zbr = true)
    (zmw : PySem.W.plainOver K zbr = true)
    (zmx : PySem.W.findIn K (.ref zbr) "__setattr__" = some (some (.builtin "object.__setattr__")))
    (zmy : PySem.W.findIn K (.ref zbr) "__class__" = some (some (.builtin "object.__class__")))
    (zmz : PySem.W.mroIn K zbr (.type "object") = some true)
    (zgN : PySem.W.findIn K (.ref zbr) "kept" = some none)
    (zgO : PySem.W.findIn K (.ref zbr) "parts" = some none)
    (zmA : PySem.W.nsIn K mainGlobals "Camps" = some (some (.ref zbv)))
    (zmB : PySem.W.plainGet K zbv Str.empty = true)
    (zmC : PySem.W.hasDictIn K zbv = true)
    (zmD : PySem.W.plainOver K zbv = true)
    (zmE : PySem.W.findIn K (.ref zbv) "__setattr__" = some (some (.builtin "object.__setattr__")))
    (zmF : PySem.W.findIn K (.ref zbv) "__class__" = some (some (.builtin "object.__class__")))
    (zmG : PySem.W.mroIn K zbv (.type "object") = some true)
    (zgP : PySem.W.findIn K (.ref zbv) "camps" = some none)
    (zmH : PySem.W.nsIn K mainGlobals "Quarrel" = some (some (.ref zbs)))
    (zmI : PySem.W.plainGet K zbs Str.empty = true)
    (zmJ : PySem.W.hasDictIn K zbs = true)
    (zmK : PySem.W.plainOver K zbs = true)
    (zmL : PySem.W.findIn K (.ref zbs) "__setattr__" = some (some (.builtin "object.__setattr__")))
    (zmM : PySem.W.findIn K (.ref zbs) "__class__" = some (some (.builtin "object.__class__")))
    (zmN : PySem.W.mroIn K zbs (.type "object") = some true)
    (zgQ : PySem.W.findIn K (.ref zbs) "tie" = some none)
    (zgR : PySem.W.findIn K (.ref zbs) "steps" = some none)
    (zmO : PySem.W.nsIn K mainGlobals "Way" = some (some (.ref zbw)))
    (zmP : PySem.W.plainGet K zbw Str.empty = true)
    (zmQ : PySem.W.hasDictIn K zbw = true)
    (zmR : PySem.W.plainOver K zbw = true)
    (zmS : PySem.W.findIn K (.ref zbw) "__setattr__" = some (some (.builtin "object.__setattr__")))
    (zmT : PySem.W.findIn K (.ref zbw) "__class__" = some (some (.builtin "object.__class__")))
    (zmU : PySem.W.mroIn K zbw (.type "object") = some true)
    (zgS : PySem.W.findIn K (.ref zbw) "steps" = some none)
    (zmV : PySem.W.nsIn K mainGlobals "Apart" = some (some (.ref zbx)))
    (zmW : PySem.W.plainGet K zbx Str.empty = true)
    (zmX : PySem.W.hasDictIn K zbx = true)
    (zmY : PySem.W.plainOver K zbx = true)
    (zmZ : PySem.W.findIn K (.ref zbx) "__setattr__" = some (some (.builtin "object.__setattr__")))
    (zm0 : PySem.W.findIn K (.ref zbx) "__class__" = some (some (.builtin "object.__class__")))
    (zm1 : PySem.W.mroIn K zbx (.type "object") = some true)
    (zgT : PySem.W.findIn K (.ref zbx) "points" = some none)
    (zm2 : PySem.W.nsIn K mainGlobals "Around" = some (some (.ref zby)))
    (zm3 : PySem.W.plainGet K zby Str.empty = true)
    (zm4 : PySem.W.hasDictIn K zby = true)
    (zm5 : PySem.W.plainOver K zby = true)
    (zm6 : PySem.W.findIn K (.ref zby) "__setattr__" = some (some (.builtin "object.__setattr__")))
    (zm7 : PySem.W.findIn K (.ref zby) "__class__" = some (some (.builtin "object.__class__")))
    (zm8 : PySem.W.mroIn K zby (.type "object") = some true)
    (zgU : PySem.W.findIn K (.ref zby) "steps" = some none)
    (zm9 : PySem.W.nsIn K mainGlobals "Held" = some (some (.ref zbz)))
    (zna : PySem.W.plainGet K zbz Str.empty = true)
    (znb : PySem.W.hasDictIn K zbz = true)
    (znc : PySem.W.plainOver K zbz = true)
    (znd : PySem.W.findIn K (.ref zbz) "__setattr__" = some (some (.builtin "object.__setattr__")))
    (zne : PySem.W.findIn K (.ref zbz) "__class__" = some (some (.builtin "object.__class__")))
    (znf : PySem.W.mroIn K zbz (.type "object") = some true)
    (zgV : PySem.W.findIn K (.ref zbz) "points" = some none)
    (z_list : PySem.W.nsIn K mainGlobals "list" = some none)
    (z_range : PySem.W.nsIn K mainGlobals "range" = some none)
    (z_sorted : PySem.W.nsIn K mainGlobals "sorted" = some none)
    (z_all : PySem.W.nsIn K mainGlobals "all" = some none)
    (z_dict : PySem.W.nsIn K mainGlobals "dict" = some none)
    (z_enumerate : PySem.W.nsIn K mainGlobals "enumerate" = some none)
    (z_isinstance : PySem.W.nsIn K mainGlobals "isinstance" = some none)
    (z_int : PySem.W.nsIn K mainGlobals "int" = some none)
    (z_len : PySem.W.nsIn K mainGlobals "len" = some none)
    (z_any : PySem.W.nsIn K mainGlobals "any" = some none)
    (z_bool : PySem.W.nsIn K mainGlobals "bool" = some none)
    (z_tuple : PySem.W.nsIn K mainGlobals "tuple" = some none)
    (z_set : PySem.W.nsIn K mainGlobals "set" = some none)
    (z_zip : PySem.W.nsIn K mainGlobals "zip" = some none)
    (z_sum : PySem.W.nsIn K mainGlobals "sum" = some none)
    (z_abs : PySem.W.nsIn K mainGlobals "abs" = some none)
    (u_MOST : PySem.W.nsIn K mainGlobals "MOST" = some (some (.int (1000000) tk_MOST)))
    (u_FORTH : PySem.W.nsIn K mainGlobals "FORTH" = some (some (.int (1) tk_FORTH)))
    (u_BACK : PySem.W.nsIn K mainGlobals "BACK" = some (some (.int (-1) tk_BACK)))
    (zng : PySem.W.kitOne K (.ref zbi) (.ref zbi) = some true)
    (znh : PySem.W.kitOne K (.ref zbi) (.ref zbG) = some false)
    (zni : PySem.W.kitOne K (.ref zbi) (.ref zbl) = some false)
    (znj : PySem.W.kitOne K (.ref zbi) (.ref zbm) = some false)
    (znk : PySem.W.kitOne K (.ref zbi) (.ref zbr) = some false)
    (znl : PySem.W.kitOne K (.ref zbi) (.ref zbv) = some false)
    (znm : PySem.W.kitOne K (.ref zbi) (.ref zbs) = some false)
    (znn : PySem.W.kitOne K (.ref zbi) (.ref zbw) = some false)
    (zno : PySem.W.kitOne K (.ref zbi) (.ref zbx) = some false)
    (znp : PySem.W.kitOne K (.ref zbi) (.ref zby) = some false)
    (znq : PySem.W.kitOne K (.ref zbi) (.ref zbz) = some false)
    (znr : PySem.W.kitOne K (.ref zbG) (.ref zbi) = some false)
    (zns : PySem.W.kitOne K (.ref zbG) (.ref zbG) = some true)
    (znt : PySem.W.kitOne K (.ref zbG) (.ref zbl) = some false)
    (znu : PySem.W.kitOne K (.ref zbG) (.ref zbm) = some false)
    (znv : PySem.W.kitOne K (.ref zbG) (.ref zbr) = some false)
    (znw : PySem.W.kitOne K (.ref zbG) (.ref zbv) = some false)
    (znx : PySem.W.kitOne K (.ref zbG) (.ref zbs) = some false)
    (zny : PySem.W.kitOne K (.ref zbG) (.ref zbw) = some false)
    (znz : PySem.W.kitOne K (.ref zbG) (.ref zbx) = some false)
    (znA : PySem.W.kitOne K (.ref zbG) (.ref zby) = some false)
    (znB : PySem.W.kitOne K (.ref zbG) (.ref zbz) = some false)
    (znC : PySem.W.kitOne K (.ref zbl) (.ref zbi) = some false)
    (znD : PySem.W.kitOne K (.ref zbl) (.ref zbG) = some true)
    (znE : PySem.W.kitOne K (.ref zbl) (.ref zbl) = some true)
    (znF : PySem.W.kitOne K (.ref zbl) (.ref zbm) = some false)
    (znG : PySem.W.kitOne K (.ref zbl) (.ref zbr) = some false)
    (znH : PySem.W.kitOne K (.ref zbl) (.ref zbv) = some false)
    (znI : PySem.W.kitOne K (.ref zbl) (.ref zbs) = some false)
    (znJ : PySem.W.kitOne K (.ref zbl) (.ref zbw) = some false)
    (znK : PySem.W.kitOne K (.ref zbl) (.ref zbx) = some false)
    (znL : PySem.W.kitOne K (.ref zbl) (.ref zby) = some false)
    (znM : PySem.W.kitOne K (.ref zbl) (.ref zbz) = some false)
    (znN : PySem.W.kitOne K (.ref zbm) (.ref zbi) = some false)
    (znO : PySem.W.kitOne K (.ref zbm) (.ref zbG) = some true)
    (znP : PySem.W.kitOne K (.ref zbm) (.ref zbl) = some false)
    (znQ : PySem.W.kitOne K (.ref zbm) (.ref zbm) = some true)
    (znR : PySem.W.kitOne K (.ref zbm) (.ref zbr) = some false)
    (znS : PySem.W.kitOne K (.ref zbm) (.ref zbv) = some false)
    (znT : PySem.W.kitOne K (.ref zbm) (.ref zbs) = some false)
    (znU : PySem.W.kitOne K (.ref zbm) (.ref zbw) = some false)
    (znV : PySem.W.kitOne K (.ref zbm) (.ref zbx) = some false)
    (znW : PySem.W.kitOne K (.ref zbm) (.ref zby) = some false)
    (znX : PySem.W.kitOne K (.ref zbm) (.ref zbz) = some false)
    (znY : PySem.W.kitOne K (.ref zbr) (.ref zbi) = some false)
    (znZ : PySem.W.kitOne K (.ref zbr) (.ref zbG) = some true)
    (zn0 : PySem.W.kitOne K (.ref zbr) (.ref zbl) = some false)
    (zn1 : PySem.W.kitOne K (.ref zbr) (.ref zbm) = some false)
    (zn2 : PySem.W.kitOne K (.ref zbr) (.ref zbr) = some true)
    (zn3 : PySem.W.kitOne K (.ref zbr) (.ref zbv) = some false)
    (zn4 : PySem.W.kitOne K (.ref zbr) (.ref zbs) = some false)
    (zn5 : PySem.W.kitOne K (.ref zbr) (.ref zbw) = some false)
    (zn6 : PySem.W.kitOne K (.ref zbr) (.ref zbx) = some false)
    (zn7 : PySem.W.kitOne K (.ref zbr) (.ref zby) = some false)
    (zn8 : PySem.W.kitOne K (.ref zbr) (.ref zbz) = some false)
    (zn9 : PySem.W.kitOne K (.ref zbv) (.ref zbi) = some false)
    (zoa : PySem.W.kitOne K (.ref zbv) (.ref zbG) = some true)
    (zob : PySem.W.kitOne K (.ref zbv) (.ref zbl) = some false)
    (zoc : PySem.W.kitOne K (.ref zbv) (.ref zbm) = some false)
    (zod : PySem.W.kitOne K (.ref zbv) (.ref zbr) = some false)
    (zoe : PySem.W.kitOne K (.ref zbv) (.ref zbv) = some true)
    (zof : PySem.W.kitOne K (.ref zbv) (.ref zbs) = some false)
    (zog : PySem.W.kitOne K (.ref zbv) (.ref zbw) = some false)
    (zoh : PySem.W.kitOne K (.ref zbv) (.ref zbx) = some false)
    (zoi : PySem.W.kitOne K (.ref zbv) (.ref zby) = some false)
    (zoj : PySem.W.kitOne K (.ref zbv) (.ref zbz) = some false)
    (zok : PySem.W.kitOne K (.ref zbs) (.ref zbi) = some false)
    (zol : PySem.W.kitOne K (.ref zbs) (.ref zbG) = some true)
    (zom : PySem.W.kitOne K (.ref zbs) (.ref zbl) = some false)
    (zon : PySem.W.kitOne K (.ref zbs) (.ref zbm) = some false)
    (zoo : PySem.W.kitOne K (.ref zbs) (.ref zbr) = some false)
    (zop : PySem.W.kitOne K (.ref zbs) (.ref zbv) = some false)
    (zoq : PySem.W.kitOne K (.ref zbs) (.ref zbs) = some true)
    (zor : PySem.W.kitOne K (.ref zbs) (.ref zbw) = some false)
    (zos : PySem.W.kitOne K (.ref zbs) (.ref zbx) = some false)
    (zot : PySem.W.kitOne K (.ref zbs) (.ref zby) = some false)
    (zou : PySem.W.kitOne K (.ref zbs) (.ref zbz) = some false)
    (zov : PySem.W.kitOne K (.ref zbw) (.ref zbi) = some false)
    (zow : PySem.W.kitOne K (.ref zbw) (.ref zbG) = some true)
    (zox : PySem.W.kitOne K (.ref zbw) (.ref zbl) = some false)
    (zoy : PySem.W.kitOne K (.ref zbw) (.ref zbm) = some false)
    (zoz : PySem.W.kitOne K (.ref zbw) (.ref zbr) = some false)
    (zoA : PySem.W.kitOne K (.ref zbw) (.ref zbv) = some false)
    (zoB : PySem.W.kitOne K (.ref zbw) (.ref zbs) = some false)
    (zoC : PySem.W.kitOne K (.ref zbw) (.ref zbw) = some true)
    (zoD : PySem.W.kitOne K (.ref zbw) (.ref zbx) = some false)
    (zoE : PySem.W.kitOne K (.ref zbw) (.ref zby) = some false)
    (zoF : PySem.W.kitOne K (.ref zbw) (.ref zbz) = some false)
    (zoG : PySem.W.kitOne K (.ref zbx) (.ref zbi) = some false)
    (zoH : PySem.W.kitOne K (.ref zbx) (.ref zbG) = some true)
    (zoI : PySem.W.kitOne K (.ref zbx) (.ref zbl) = some false)
    (zoJ : PySem.W.kitOne K (.ref zbx) (.ref zbm) = some false)
    (zoK : PySem.W.kitOne K (.ref zbx) (.ref zbr) = some false)
    (zoL : PySem.W.kitOne K (.ref zbx) (.ref zbv) = some false)
    (zoM : PySem.W.kitOne K (.ref zbx) (.ref zbs) = some false)
    (zoN : PySem.W.kitOne K (.ref zbx) (.ref zbw) = some false)
    (zoO : PySem.W.kitOne K (.ref zbx) (.ref zbx) = some true)
    (zoP : PySem.W.kitOne K (.ref zbx) (.ref zby) = some false)
    (zoQ : PySem.W.kitOne K (.ref zbx) (.ref zbz) = some false)
    (zoR : PySem.W.kitOne K (.ref zby) (.ref zbi) = some false)
    (zoS : PySem.W.kitOne K (.ref zby) (.ref zbG) = some true)
    (zoT : PySem.W.kitOne K (.ref zby) (.ref zbl) = some false)
    (zoU : PySem.W.kitOne K (.ref zby) (.ref zbm) = some false)
    (zoV : PySem.W.kitOne K (.ref zby) (.ref zbr) = some false)
    (zoW : PySem.W.kitOne K (.ref zby) (.ref zbv) = some false)
    (zoX : PySem.W.kitOne K (.ref zby) (.ref zbs) = some false)
    (zoY : PySem.W.kitOne K (.ref zby) (.ref zbw) = some false)
    (zoZ : PySem.W.kitOne K (.ref zby) (.ref zbx) = some false)
    (zo0 : PySem.W.kitOne K (.ref zby) (.ref zby) = some true)
    (zo1 : PySem.W.kitOne K (.ref zby) (.ref zbz) = some false)
    (zo2 : PySem.W.kitOne K (.ref zbz) (.ref zbi) = some false)
    (zo3 : PySem.W.kitOne K (.ref zbz) (.ref zbG) = some true)
    (zo4 : PySem.W.kitOne K (.ref zbz) (.ref zbl) = some false)
    (zo5 : PySem.W.kitOne K (.ref zbz) (.ref zbm) = some false)
    (zo6 : PySem.W.kitOne K (.ref zbz) (.ref zbr) = some false)
    (zo7 : PySem.W.kitOne K (.ref zbz) (.ref zbv) = some false)
    (zo8 : PySem.W.kitOne K (.ref zbz) (.ref zbs) = some false)
    (zo9 : PySem.W.kitOne K (.ref zbz) (.ref zbw) = some false)
    (zpa : PySem.W.kitOne K (.ref zbz) (.ref zbx) = some false)
    (zpb : PySem.W.kitOne K (.ref zbz) (.ref zby) = some false)
    (zpc : PySem.W.kitOne K (.ref zbz) (.ref zbz) = some true)
    (hn0 : PySem.W.specialIn K (.builtin "object.__class__") "__get__" = some (some (.builtin "getset_descriptor.__get__")))
    (htk0 : PySem.W.takesIn K (.builtin "object.__class__") = some true)
    : ∃ fd : FuncData, (∀ (s : Shared) (v : Value), BindsTo s fd ⟨[v], []⟩ [("_law_script", v)]) ∧ ∀ base : Heap, K.In base -> base.Ns mainGlobals mg -> zI l.prog w K mg base CX0 9 fa fd ["_law_script"] (zg2 K) := by
  have e := hfa.symm.trans (PySem.W.mg_of X G zii)
  have e2 : zdr = fa := by cases e; rfl
  subst e2
  have zrf := zbe (st := zf8) zjk zjl zjm
  have zrg := zbe (st := zf9) zjo zjp zjq
  have zrh := zbe (st := zga) zjs zjt zju
  have zri := zbe (st := zgb) zjw zjx zjy
  have zrj := zbe (st := zfv) zjA zjB zjC
  have zrk := zbe (st := zdK) zjE zjF zjG
  have zrl := zbe (st := zgd) zjJ zjK zjL
  have zrm := zbe (st := zbR) zjO zjP zif
  have zrn := zbe (st := zgc) zjR zjS zjT
  have zro := zbe (st := ze8) zjV zjW zjX
  have zrp := zbe (st := ze9) zjZ zj0 zj1
  have zrq := zbe (st := zfa) zj3 zj4 zj5
  have zrr := zbe (st := zdU) zj7 zj8 zj9
  have zrs := zbe (st := zfw) zkb zkc zkd
  have zrt := zbe (st := zfx) zkf zkg zkh
  have zru := zbe (st := zeN) zkj zkk zkl
  have zrv := zbe (st := zfc) zkn zko zkp
  have zrw := zbe (st := zfy) zkr zks zkt
  have zrx := zbe (st := zfz) zkv zkw zkx
  have zry := zbe (st := zfA) zkz zkA zkB
  have zrz := zbe (st := zfd) zkD zkE zkF
  have zrA := zbe (st := zeL) zkH zkI zkJ
  have zrB := zbe (st := zfb) zkL zkM zkN
  have zrC := zbe (st := zgy) zkQ zkR zkS
  have zrD := zbe (st := zeM) zkV zkW zig
  have zrE := zbe (st := zgz) zkZ zk0 zk1
  have zrF := zbe (st := zdV) zk4 zk5 zih
  have zrG := zbe (st := zfB) zk7 zk8 zk9
  have zrH := zbe (st := zfC) zlb zlc zld
  have zrI := zbe (st := zfD) zlf zlg zlh
  have zrJ := zbe (st := zgB) zlj zlk zll
  have zrK := zbe (st := zgC) zln zlo zlp
  have zrL := zbe (st := zgD) zlr zls zlt
  have zrM := zbe (st := zgE) zlv zlw zlx
  have zrN := zbe (st := zgF) zlz zlA zlB
  have zrO := zbe (st := zgg) zlD zlE zlF
  have zrP := zbe (st := zgG) zlH zlI zlJ
  have zrQ := zbe (st := zfE) zlL zlM zlN
  have zrR := zbe (st := zgH) zlP zlQ zlR
  have zrS := zbe (st := zgh) zlS zlT zlU
  let T : TX K mg := {
    zcU := ⟨zcU, _, zrf, zrf.binds (ps := ["value"]) (fun _ _ _ _ _ _ us hl => match us, hl with | [_], _ => rfl)⟩,
    zdT := PySem.W.mg_of X G zjj,
    zcr := ⟨zcr, _, zrg, zrg.binds (ps := ["value", "least", "most"]) (fun _ _ _ _ _ _ us hl => match us, hl with | [_, _, _], _ => rfl)⟩,
    zc9 := PySem.W.mg_of X G zjn,
    zcV := ⟨zcV, _, zrh, zrh.binds (ps := ["points", "value"]) (fun _ _ _ _ _ _ us hl => match us, hl with | [_, _], _ => rfl)⟩,
    zey := PySem.W.mg_of X G zjr,
    zdW := ⟨zdW, _, zri, zri.binds (ps := ["points", "value"]) (fun _ _ _ _ _ _ us hl => match us, hl with | [_, _], _ => rfl)⟩,
    zfV := PySem.W.mg_of X G zjv,
    zdX := ⟨zdX, _, zrj, zrj.binds (ps := ["points", "value"]) (fun _ _ _ _ _ _ us hl => match us, hl with | [_, _], _ => rfl)⟩,
    zfs := PySem.W.mg_of X G zjz,
    zcW := ⟨zcW, _, zrk, zrk.binds (ps := ["one", "other", "turn"]) (fun _ _ _ _ _ _ us hl => match us, hl with | [_, _, _], _ => rfl)⟩,
    zdH := PySem.W.mg_of X G zjD,
    zda := ⟨zda, _, zrl, zrl.binds (ps := ["self", "points", "ties", "turn"]) (fun _ _ _ _ _ _ us hl => match us, hl with | [_, _, _, _], _ => rfl)⟩,
    zbS := ⟨zbS, _, zrm, zrm.binds (ps := ["self"]) (fun _ _ _ _ _ _ us hl => match us, hl with | [_], _ => rfl)⟩,
    zdk := ⟨zdk, _, zrn, zrn.binds (ps := ["tie"]) (fun _ _ _ _ _ _ us hl => match us, hl with | [_], _ => rfl)⟩,
    zeH := PySem.W.mg_of X G zjQ,
    zdl := ⟨zdl, _, zro, zro.binds (ps := ["web"]) (fun _ _ _ _ _ _ us hl => match us, hl with | [_], _ => rfl)⟩,
    zdj := PySem.W.mg_of X G zjU,
    zdY := ⟨zdY, _, zrp, zrp.binds (ps := ["ties", "value"]) (fun _ _ _ _ _ _ us hl => match us, hl with | [_, _], _ => rfl)⟩,
    zfW := PySem.W.mg_of X G zjY,
    zdm := ⟨zdm, _, zrq, zrq.binds (ps := ["ties", "value"]) (fun _ _ _ _ _ _ us hl => match us, hl with | [_, _], _ => rfl)⟩,
    zeI := PySem.W.mg_of X G zj2,
    zcs := ⟨zcs, _, zrr, zrr.binds (ps := ["ties", "step"]) (fun _ _ _ _ _ _ us hl => match us, hl with | [_, _], _ => rfl)⟩,
    zci := PySem.W.mg_of X G zj6,
    zdZ := ⟨zdZ, _, zrs, zrs.binds (ps := ["web", "start", "steps"]) (fun _ _ _ _ _ _ us hl => match us, hl with | [_, _, _], _ => rfl)⟩,
    zfX := PySem.W.mg_of X G zka,
    zd0 := ⟨zd0, _, zrt, zrt.binds (ps := ["web"]) (fun _ _ _ _ _ _ us hl => match us, hl with | [_], _ => rfl)⟩,
    zfY := PySem.W.mg_of X G zke,
    zdn := ⟨zdn, _, zru, zru.binds (ps := ["web", "chosen"]) (fun _ _ _ _ _ _ us hl => match us, hl with | [_, _], _ => rfl)⟩,
    ze6 := PySem.W.mg_of X G zki,
    zdo := ⟨zdo, _, zrv, zrv.binds (ps := ["ties", "onward", "start", "arrived"]) (fun _ _ _ _ _ _ us hl => match us, hl with | [_, _, _, _], _ => rfl)⟩,
    zeJ := PySem.W.mg_of X G zkm,
    zd1 := ⟨zd1, _, zrw, zrw.binds (ps := ["web", "chosen", "start"]) (fun _ _ _ _ _ _ us hl => match us, hl with | [_, _, _], _ => rfl)⟩,
    zfZ := PySem.W.mg_of X G zkq,
    zd2 := ⟨zd2, _, zrx, zrx.binds (ps := ["web", "chosen"]) (fun _ _ _ _ _ _ us hl => match us, hl with | [_, _], _ => rfl)⟩,
    zf0 := PySem.W.mg_of X G zku,
    zd3 := ⟨zd3, _, zry, zry.binds (ps := ["web", "arrived", "goal"]) (fun _ _ _ _ _ _ us hl => match us, hl with | [_, _, _], _ => rfl)⟩,
    zf1 := PySem.W.mg_of X G zky,
    zd4 := ⟨zd4, _, zrz, zrz.binds (ps := ["arrived"]) (fun _ _ _ _ _ _ us hl => match us, hl with | [_], _ => rfl)⟩,
    zf2 := PySem.W.mg_of X G zkC,
    zd5 := ⟨zd5, _, zrA, zrA.binds (ps := ["values", "count"]) (fun _ _ _ _ _ _ us hl => match us, hl with | [_, _], _ => rfl)⟩,
    zf3 := PySem.W.mg_of X G zkG,
    zdp := ⟨zdp, _, zrB, zrB.binds (ps := ["values"]) (fun _ _ _ _ _ _ us hl => match us, hl with | [_], _ => rfl)⟩,
    ze7 := PySem.W.mg_of X G zkK,
    zd6 := ⟨zd6, _, zrC, zrC.binds (ps := ["self", "heights"]) (fun _ _ _ _ _ _ us hl => match us, hl with | [_, _], _ => rfl)⟩,
    zdb := ⟨zdb, _, zrD, zrD.binds (ps := ["self", "web"]) (fun _ _ _ _ _ _ us hl => match us, hl with | [_, _], _ => rfl)⟩,
    zd7 := ⟨zd7, _, zrE, zrE.binds (ps := ["self", "steps"]) (fun _ _ _ _ _ _ us hl => match us, hl with | [_, _], _ => rfl)⟩,
    zdc := ⟨zdc, _, zrF, zrF.binds (ps := ["self", "web"]) (fun _ _ _ _ _ _ us hl => match us, hl with | [_, _], _ => rfl)⟩,
    zd8 := ⟨zd8, _, zrG, zrG.binds (ps := ["web", "arrived"]) (fun _ _ _ _ _ _ us hl => match us, hl with | [_, _], _ => rfl)⟩,
    zf4 := PySem.W.mg_of X G zk6,
    zd9 := ⟨zd9, _, zrH, zrH.binds (ps := ["web", "arrived", "place"]) (fun _ _ _ _ _ _ us hl => match us, hl with | [_, _, _], _ => rfl)⟩,
    zft := PySem.W.mg_of X G zla,
    zea := ⟨zea, _, zrI, zrI.binds (ps := ["web"]) (fun _ _ _ _ _ _ us hl => match us, hl with | [_], _ => rfl)⟩,
    zdJ := PySem.W.mg_of X G zle,
    zca := ⟨zca, _, zrJ, zrJ.binds (ps := ["_law_script", "_law_k"]) (fun _ _ _ _ _ _ us hl => match us, hl with | [_, _], _ => rfl)⟩,
    zcF := PySem.W.mg_of X G zli,
    zbk := ⟨zbk, _, zrK, zrK.binds (ps := ["_law_cell", "_law_k", "_law_many"]) (fun _ _ _ _ _ _ us hl => match us, hl with | [_, _, _], _ => rfl)⟩,
    zH := PySem.W.mg_of X G zlm,
    zeb := ⟨zeb, _, zrL, zrL.binds (ps := ["_law_script"]) (fun _ _ _ _ _ _ us hl => match us, hl with | [_], _ => rfl)⟩,
    zfu := PySem.W.mg_of X G zlq,
    zdq := ⟨zdq, _, zrM, zrM.binds (ps := ["_law_number", "_law_turn"]) (fun _ _ _ _ _ _ us hl => match us, hl with | [_, _], _ => rfl)⟩,
    zeK := PySem.W.mg_of X G zlu,
    zec := ⟨zec, _, zrN, zrN.binds (ps := ["_law_ties", "_law_start_here", "_law_steps"]) (fun _ _ _ _ _ _ us hl => match us, hl with | [_, _, _], _ => rfl)⟩,
    zf5 := PySem.W.mg_of X G zly,
    zed := ⟨zed, _, zrO, zrO.binds (ps := ["_law_found"]) (fun _ _ _ _ _ _ us hl => match us, hl with | [_], _ => rfl)⟩,
    zf6 := PySem.W.mg_of X G zlC,
    zee := ⟨zee, _, zrP, zrP.binds (ps := ["_law_ties", "_law_steps"]) (fun _ _ _ _ _ _ us hl => match us, hl with | [_, _], _ => rfl)⟩,
    zf7 := PySem.W.mg_of X G zlG,
    zcX := ⟨zcX, _, zrQ, zrQ.binds (ps := ["_law_points", "_law_ties", "_law_turn", "_law_found"]) (fun _ _ _ _ _ _ us hl => match us, hl with | [_, _, _, _], _ => rfl)⟩,
    zb1 := PySem.W.mg_of X G zlK,
    zef := ⟨zef, _, zrR, zrR.binds (ps := ["_law_points", "_law_ties", "_law_turn", "_law_found"]) (fun _ _ _ _ _ _ us hl => match us, hl with | [_, _, _, _], _ => rfl)⟩,
    zcT := PySem.W.mg_of X G zlO,
    zdr := ⟨zdr, _, zrS, zrS.binds (ps := ["_law_script"]) (fun _ _ _ _ _ _ us hl => match us, hl with | [_], _ => rfl)⟩,
    zhl := PySem.W.mg_of X G zii,
    zO := ⟨zbi, PySem.W.mg_of X G zlV, ⟨zlW, zlX, zlY, zlZ⟩, ⟨zl0, hn0, htk0, zl1⟩⟩,
    zhp := ⟨zl2, zjH, zjI, zl3⟩,
    zcK := ⟨zjM, zjN, zif⟩,
    zgI := zgI,
    zgJ := zgJ,
    zgK := zgK,
    zbH := ⟨zbG, PySem.W.mg_of X G zl4, ⟨zl5, zl6, zl7, zl8⟩, ⟨zl9, hn0, htk0, zma⟩⟩,
    zba := ⟨zbl, PySem.W.mg_of X G zmb, ⟨zmc, zmd, zme, zmf⟩, ⟨zmg, hn0, htk0, zmh⟩⟩,
    zqs := ⟨zmi, zkO, zkP, zmj⟩,
    zhq := ⟨zkT, zkU, zig⟩,
    zgL := zgL,
    zbh := ⟨zbm, PySem.W.mg_of X G zmk, ⟨zml, zmm, zmn, zmo⟩, ⟨zmp, hn0, htk0, zmq⟩⟩,
    zqt := ⟨zmr, zkX, zkY, zms⟩,
    zhr := ⟨zk2, zk3, zih⟩,
    zgM := zgM,
    zbt := ⟨zbr, PySem.W.mg_of X G zmt, ⟨zmu, zmv, zmw, zmx⟩, ⟨zmy, hn0, htk0, zmz⟩⟩,
    zgN := zgN,
    zgO := zgO,
    zbB := ⟨zbv, PySem.W.mg_of X G zmA, ⟨zmB, zmC, zmD, zmE⟩, ⟨zmF, hn0, htk0, zmG⟩⟩,
    zgP := zgP,
    zbu := ⟨zbs, PySem.W.mg_of X G zmH, ⟨zmI, zmJ, zmK, zmL⟩, ⟨zmM, hn0, htk0, zmN⟩⟩,
    zgQ := zgQ,
    zgR := zgR,
    zbC := ⟨zbw, PySem.W.mg_of X G zmO, ⟨zmP, zmQ, zmR, zmS⟩, ⟨zmT, hn0, htk0, zmU⟩⟩,
    zgS := zgS,
    zbD := ⟨zbx, PySem.W.mg_of X G zmV, ⟨zmW, zmX, zmY, zmZ⟩, ⟨zm0, hn0, htk0, zm1⟩⟩,
    zgT := zgT,
    zbE := ⟨zby, PySem.W.mg_of X G zm2, ⟨zm3, zm4, zm5, zm6⟩, ⟨zm7, hn0, htk0, zm8⟩⟩,
    zgU := zgU,
    zbF := ⟨zbz, PySem.W.mg_of X G zm9, ⟨zna, znb, znc, znd⟩, ⟨zne, hn0, htk0, znf⟩⟩,
    zgV := zgV,
    n_list := PySem.W.mg_none_of X G z_list,
    n_range := PySem.W.mg_none_of X G z_range,
    n_sorted := PySem.W.mg_none_of X G z_sorted,
    n_all := PySem.W.mg_none_of X G z_all,
    n_dict := PySem.W.mg_none_of X G z_dict,
    n_enumerate := PySem.W.mg_none_of X G z_enumerate,
    n_isinstance := PySem.W.mg_none_of X G z_isinstance,
    n_int := PySem.W.mg_none_of X G z_int,
    n_len := PySem.W.mg_none_of X G z_len,
    n_any := PySem.W.mg_none_of X G z_any,
    n_bool := PySem.W.mg_none_of X G z_bool,
    n_tuple := PySem.W.mg_none_of X G z_tuple,
    n_set := PySem.W.mg_none_of X G z_set,
    n_zip := PySem.W.mg_none_of X G z_zip,
    n_sum := PySem.W.mg_none_of X G z_sum,
    n_abs := PySem.W.mg_none_of X G z_abs,
    v_MOST := ⟨_, PySem.W.mg_of X G u_MOST, ⟨_, rfl⟩⟩,
    v_FORTH := ⟨_, PySem.W.mg_of X G u_FORTH, ⟨_, rfl⟩⟩,
    v_BACK := ⟨_, PySem.W.mg_of X G u_BACK, ⟨_, rfl⟩⟩,
    zeg := ⟨zng, znh, zni, znj, znk, znl, znm, znn, zno, znp, znq⟩,
    zeh := ⟨znr, zns, znt, znu, znv, znw, znx, zny, znz, znA, znB⟩,
    zei := ⟨znC, znD, znE, znF, znG, znH, znI, znJ, znK, znL, znM⟩,
    zej := ⟨znN, znO, znP, znQ, znR, znS, znT, znU, znV, znW, znX⟩,
    zek := ⟨znY, znZ, zn0, zn1, zn2, zn3, zn4, zn5, zn6, zn7, zn8⟩,
    zel := ⟨zn9, zoa, zob, zoc, zod, zoe, zof, zog, zoh, zoi, zoj⟩,
    zem := ⟨zok, zol, zom, zon, zoo, zop, zoq, zor, zos, zot, zou⟩,
    zen := ⟨zov, zow, zox, zoy, zoz, zoA, zoB, zoC, zoD, zoE, zoF⟩,
    zeo := ⟨zoG, zoH, zoI, zoJ, zoK, zoL, zoM, zoN, zoO, zoP, zoQ⟩,
    zep := ⟨zoR, zoS, zoT, zoU, zoV, zoW, zoX, zoY, zoZ, zo0, zo1⟩,
    zeq := ⟨zo2, zo3, zo4, zo5, zo6, zo7, zo8, zo9, zpa, zpb, zpc⟩ }
  exact ⟨T.zdr.d, fun s v => .of_eq rfl, fun base _ _ => zBl T⟩
theorem walk {l : PySem.W.OpenLaw} {q : Program} {loose : List Str} {XP : (Str -> Option Value) -> Heap -> Prop} {YP : World -> Heap -> Prop} {d : DefRec} {K : Params -> PySem.W.Frag} (hn : l.most = some 63) (hdf : d.params.defaults = [])
    (hY : ∀ (w : World) (h : Heap), YP w h -> (K w.params).In h)
    (F : ∀ (w : World) (mg : Str -> Option Value) (fa : Addr) (h : Heap), (K w.params).In h -> h.Ns mainGlobals mg -> mg d.name = some (.ref fa) ->
      ∃ fd : FuncData, (∀ (s : Shared) (u : Value), BindsTo s fd ⟨[u], []⟩ [("_law_script", u)]) ∧ ∀ base : Heap, (K w.params).In base -> base.Ns mainGlobals mg -> zI l.prog w (K w.params) mg base CX0 9 fa fd ["_law_script"] (zg2 (K w.params))) :
    PySem.W.WalkO q loose XP YP l.row.toRowW d [] (fun f vs => PySem.call f vs) :=
  L2.walk_of (n := 63) (k := 9) (x := "_law_script") (CX := fun _ => CX0) (sp := fun w => zg2 (K w.params)) hn (by decide) hdf ⟨rfl, by decide, by decide⟩ hY F (fun _ _ a ns hl ho hS => MI.law_start ho hl hS) fun _ _ _ _ _ z => z
end My
open PySem PySem.W PyProof.Rows
set_option maxRecDepth 100000 in
set_option maxHeartbeats 0 in
theorem PySem.Challenge.cw_closering_k01_whole_levels_holds : PySem.Challenge.rw_closering_k01_whole_levels.Holds := by
  w_on; o_law; k_head; (case hw => w_witness2)
  k_fill
  refine My.walk (l := PySem.Challenge.rw_closering_k01_whole_levels) rfl rfl (fun w h Y => PySem.W.kIn_of Y) ?F
  case F =>
    intro w mg fa h KX G hmg
    refine' My.all_mk KX G hmg ?zjj ?zjk ?zjl ?zjm ?zjn ?zjo ?zjp ?zjq ?zjr ?zjs ?zjt ?zju ?zjv ?zjw ?zjx ?zjy ?zjz ?zjA ?zjB ?zjC ?zjD ?zjE ?zjF ?zjG ?zjH ?zjI ?zjJ ?zjK ?zjL ?zjM ?zjN ?zjO ?zjP ?zif ?zjQ ?zjR ?zjS ?zjT ?zjU ?zjV ?zjW ?zjX ?zjY ?zjZ ?zj0 ?zj1 ?zj2 ?zj3 ?zj4 ?zj5 ?zj6 ?zj7 ?zj8 ?zj9 ?zka ?zkb ?zkc ?zkd ?zke ?zkf ?zkg ?zkh ?zki ?zkj ?zkk ?zkl ?zkm ?zkn ?zko ?zkp ?zkq ?zkr ?zks ?zkt ?zku ?zkv ?zkw ?zkx ?zky ?zkz ?zkA ?zkB ?zkC ?zkD ?zkE ?zkF ?zkG ?zkH ?zkI ?zkJ ?zkK ?zkL ?zkM ?zkN ?zkO ?zkP ?zkQ ?zkR ?zkS ?zkT ?zkU ?zkV ?zkW ?zig ?zkX ?zkY ?zkZ ?zk0 ?zk1 ?zk2 ?zk3 ?zk4 ?zk5 ?zih ?zk6 ?zk7 ?zk8 ?zk9 ?zla ?zlb ?zlc ?zld ?zle ?zlf ?zlg ?zlh ?zli ?zlj ?zlk ?zll ?zlm ?zln ?zlo ?zlp ?zlq ?zlr ?zls ?zlt ?zlu ?zlv ?zlw ?zlx ?zly ?zlz ?zlA ?zlB ?zlC ?zlD ?zlE ?zlF ?zlG ?zlH ?zlI ?zlJ ?zlK ?zlL ?zlM ?zlN ?zlO ?zlP ?zlQ ?zlR ?zii ?zlS ?zlT ?zlU ?zlV ?zlW ?zlX ?zlY ?zlZ ?zl0 ?zl1 ?zl2 ?zl3 ?zgI ?zgJ ?zgK ?zl4 ?zl5 ?zl6 ?zl7 ?zl8 ?zl9 ?zma ?zmb ?zmc ?zmd ?zme ?zmf ?zmg ?zmh ?zmi ?zmj ?zgL ?zmk ?zml ?zmm ?zmn ?zmo ?zmp ?zmq ?zmr ?zms ?zgM ?zmt ?zmu ?zmv ?zmw ?zmx ?zmy ?zmz ?zgN ?zgO ?zmA ?zmB ?zmC ?zmD ?zmE ?zmF ?zmG ?zgP ?zmH ?zmI ?zmJ ?zmK ?zmL ?zmM ?zmN ?zgQ ?zgR ?zmO ?zmP ?zmQ ?zmR ?zmS ?zmT ?zmU ?zgS ?zmV ?zmW ?zmX ?zmY ?zmZ ?zm0 ?zm1 ?zgT ?zm2 ?zm3 ?zm4 ?zm5 ?zm6 ?zm7 ?zm8 ?zgU ?zm9 ?zna ?znb ?znc ?znd ?zne ?znf ?zgV ?z_list ?z_range ?z_sorted ?z_all ?z_dict ?z_enumerate ?z_isinstance ?z_int ?z_len ?z_any ?z_bool ?z_tuple ?z_set ?z_zip ?z_sum ?z_abs ?u_MOST ?u_FORTH ?u_BACK ?zng ?znh ?zni ?znj ?znk ?znl ?znm ?znn ?zno ?znp ?znq ?znr ?zns ?znt ?znu ?znv ?znw ?znx ?zny ?znz ?znA ?znB ?znC ?znD ?znE ?znF ?znG ?znH ?znI ?znJ ?znK ?znL ?znM ?znN ?znO ?znP ?znQ ?znR ?znS ?znT ?znU ?znV ?znW ?znX ?znY ?znZ ?zn0 ?zn1 ?zn2 ?zn3 ?zn4 ?zn5 ?zn6 ?zn7 ?zn8 ?zn9 ?zoa ?zob ?zoc ?zod ?zoe ?zof ?zog ?zoh ?zoi ?zoj ?zok ?zol ?zom ?zon ?zoo ?zop ?zoq ?zor ?zos ?zot ?zou ?zov ?zow ?zox ?zoy ?zoz ?zoA ?zoB ?zoC ?zoD ?zoE ?zoF ?zoG ?zoH ?zoI ?zoJ ?zoK ?zoL ?zoM ?zoN ?zoO ?zoP ?zoQ ?zoR ?zoS ?zoT ?zoU ?zoV ?zoW ?zoX ?zoY ?zoZ ?zo0 ?zo1 ?zo2 ?zo3 ?zo4 ?zo5 ?zo6 ?zo7 ?zo8 ?zo9 ?zpa ?zpb ?zpc ?hn0 ?htk0
    (case zlV => k_is); (case zl4 => k_is); (case zmb => k_is); (case zmk => k_is); (case zmt => k_is); (case zmA => k_is)
    (case zmH => k_is); (case zmO => k_is); (case zmV => k_is); (case zm2 => k_is); (case zm9 => k_is); (case zjj => k_is)
    (case zjk => k_is); (case zjl => k_is); (case zjm => k_is); (case zjn => k_is); (case zjo => k_is); (case zjp => k_is)
    (case zjq => k_is); (case zjr => k_is); (case zjs => k_is); (case zjt => k_is); (case zju => k_is); (case zjv => k_is)
    (case zjw => k_is); (case zjx => k_is); (case zjy => k_is); (case zjz => k_is); (case zjA => k_is); (case zjB => k_is)
    (case zjC => k_is); (case zjD => k_is); (case zjE => k_is); (case zjF => k_is); (case zjG => k_is); (case zjH => k_is)
    (case zjI => k_is); (case zjJ => k_is); (case zjK => k_is); (case zjL => k_is); (case zjM => k_is); (case zjN => k_is)
    (case zjO => k_is); (case zjP => k_is); (case zif => k_is); (case zjQ => k_is); (case zjR => k_is); (case zjS => k_is)
    (case zjT => k_is); (case zjU => k_is); (case zjV => k_is); (case zjW => k_is); (case zjX => k_is); (case zjY => k_is)
    (case zjZ => k_is); (case zj0 => k_is); (case zj1 => k_is); (case zj2 => k_is); (case zj3 => k_is); (case zj4 => k_is)
    (case zj5 => k_is); (case zj6 => k_is); (case zj7 => k_is); (case zj8 => k_is); (case zj9 => k_is); (case zka => k_is)
    (case zkb => k_is); (case zkc => k_is); (case zkd => k_is); (case zke => k_is); (case zkf => k_is); (case zkg => k_is)
    (case zkh => k_is); (case zki => k_is); (case zkj => k_is); (case zkk => k_is); (case zkl => k_is); (case zkm => k_is)
    (case zkn => k_is); (case zko => k_is); (case zkp => k_is); (case zkq => k_is); (case zkr => k_is); (case zks => k_is)
    (case zkt => k_is); (case zku => k_is); (case zkv => k_is); (case zkw => k_is); (case zkx => k_is); (case zky => k_is)
    (case zkz => k_is); (case zkA => k_is); (case zkB => k_is); (case zkC => k_is); (case zkD => k_is); (case zkE => k_is)
    (case zkF => k_is); (case zkG => k_is); (case zkH => k_is); (case zkI => k_is); (case zkJ => k_is); (case zkK => k_is)
    (case zkL => k_is); (case zkM => k_is); (case zkN => k_is); (case zkO => k_is); (case zkP => k_is); (case zkQ => k_is)
    (case zkR => k_is); (case zkS => k_is); (case zkT => k_is); (case zkU => k_is); (case zkV => k_is); (case zkW => k_is)
    (case zig => k_is); (case zkX => k_is); (case zkY => k_is); (case zkZ => k_is); (case zk0 => k_is); (case zk1 => k_is)
    (case zk2 => k_is); (case zk3 => k_is); (case zk4 => k_is); (case zk5 => k_is); (case zih => k_is); (case zk6 => k_is)
    (case zk7 => k_is); (case zk8 => k_is); (case zk9 => k_is); (case zla => k_is); (case zlb => k_is); (case zlc => k_is)
    (case zld => k_is); (case zle => k_is); (case zlf => k_is); (case zlg => k_is); (case zlh => k_is); (case zli => k_is)
    (case zlj => k_is); (case zlk => k_is); (case zll => k_is); (case zlm => k_is); (case zln => k_is); (case zlo => k_is)
    (case zlp => k_is); (case zlq => k_is); (case zlr => k_is); (case zls => k_is); (case zlt => k_is); (case zlu => k_is)
    (case zlv => k_is); (case zlw => k_is); (case zlx => k_is); (case zly => k_is); (case zlz => k_is); (case zlA => k_is)
    (case zlB => k_is); (case zlC => k_is); (case zlD => k_is); (case zlE => k_is); (case zlF => k_is); (case zlG => k_is)
    (case zlH => k_is); (case zlI => k_is); (case zlJ => k_is); (case zlK => k_is); (case zlL => k_is); (case zlM => k_is)
    (case zlN => k_is); (case zlO => k_is); (case zlP => k_is); (case zlQ => k_is); (case zlR => k_is); (case zii => k_is)
    (case zlS => k_is); (case zlT => k_is); (case zlU => k_is); (case zlW => k_is); (case zlX => k_is); (case zlY => k_is)
    (case zlZ => k_is); (case zl0 => k_is); (case zl1 => k_is); (case zl2 => k_is); (case zl3 => k_is); (case zgI => k_is)
    (case zgJ => k_is); (case zgK => k_is); (case zl5 => k_is); (case zl6 => k_is); (case zl7 => k_is); (case zl8 => k_is)
    (case zl9 => k_is); (case zma => k_is); (case zmc => k_is); (case zmd => k_is); (case zme => k_is); (case zmf => k_is)
    (case zmg => k_is); (case zmh => k_is); (case zmi => k_is); (case zmj => k_is); (case zgL => k_is); (case zml => k_is)
    (case zmm => k_is); (case zmn => k_is); (case zmo => k_is); (case zmp => k_is); (case zmq => k_is); (case zmr => k_is)
    (case zms => k_is); (case zgM => k_is); (case zmu => k_is); (case zmv => k_is); (case zmw => k_is); (case zmx => k_is)
    (case zmy => k_is); (case zmz => k_is); (case zgN => k_is); (case zgO => k_is); (case zmB => k_is); (case zmC => k_is)
    (case zmD => k_is); (case zmE => k_is); (case zmF => k_is); (case zmG => k_is); (case zgP => k_is); (case zmI => k_is)
    (case zmJ => k_is); (case zmK => k_is); (case zmL => k_is); (case zmM => k_is); (case zmN => k_is); (case zgQ => k_is)
    (case zgR => k_is); (case zmP => k_is); (case zmQ => k_is); (case zmR => k_is); (case zmS => k_is); (case zmT => k_is)
    (case zmU => k_is); (case zgS => k_is); (case zmW => k_is); (case zmX => k_is); (case zmY => k_is); (case zmZ => k_is)
    (case zm0 => k_is); (case zm1 => k_is); (case zgT => k_is); (case zm3 => k_is); (case zm4 => k_is); (case zm5 => k_is)
    (case zm6 => k_is); (case zm7 => k_is); (case zm8 => k_is); (case zgU => k_is); (case zna => k_is); (case znb => k_is)
    (case znc => k_is); (case znd => k_is); (case zne => k_is); (case znf => k_is); (case zgV => k_is); (case z_list => k_is)
    (case z_range => k_is); (case z_sorted => k_is); (case z_all => k_is); (case z_dict => k_is); (case z_enumerate => k_is); (case z_isinstance => k_is)
    (case z_int => k_is); (case z_len => k_is); (case z_any => k_is); (case z_bool => k_is); (case z_tuple => k_is); (case z_set => k_is)
    (case z_zip => k_is); (case z_sum => k_is); (case z_abs => k_is); (case u_MOST => k_is); (case u_FORTH => k_is); (case u_BACK => k_is)
    (case zng => kit_is); (case znh => kit_is); (case zni => kit_is); (case znj => kit_is); (case znk => kit_is); (case znl => kit_is)
    (case znm => kit_is); (case znn => kit_is); (case zno => kit_is); (case znp => kit_is); (case znq => kit_is); (case znr => kit_is)
    (case zns => kit_is); (case znt => kit_is); (case znu => kit_is); (case znv => kit_is); (case znw => kit_is); (case znx => kit_is)
    (case zny => kit_is); (case znz => kit_is); (case znA => kit_is); (case znB => kit_is); (case znC => kit_is); (case znD => kit_is)
    (case znE => kit_is); (case znF => kit_is); (case znG => kit_is); (case znH => kit_is); (case znI => kit_is); (case znJ => kit_is)
    (case znK => kit_is); (case znL => kit_is); (case znM => kit_is); (case znN => kit_is); (case znO => kit_is); (case znP => kit_is)
    (case znQ => kit_is); (case znR => kit_is); (case znS => kit_is); (case znT => kit_is); (case znU => kit_is); (case znV => kit_is)
    (case znW => kit_is); (case znX => kit_is); (case znY => kit_is); (case znZ => kit_is); (case zn0 => kit_is); (case zn1 => kit_is)
    (case zn2 => kit_is); (case zn3 => kit_is); (case zn4 => kit_is); (case zn5 => kit_is); (case zn6 => kit_is); (case zn7 => kit_is)
    (case zn8 => kit_is); (case zn9 => kit_is); (case zoa => kit_is); (case zob => kit_is); (case zoc => kit_is); (case zod => kit_is)
    (case zoe => kit_is); (case zof => kit_is); (case zog => kit_is); (case zoh => kit_is); (case zoi => kit_is); (case zoj => kit_is)
    (case zok => kit_is); (case zol => kit_is); (case zom => kit_is); (case zon => kit_is); (case zoo => kit_is); (case zop => kit_is)
    (case zoq => kit_is); (case zor => kit_is); (case zos => kit_is); (case zot => kit_is); (case zou => kit_is); (case zov => kit_is)
    (case zow => kit_is); (case zox => kit_is); (case zoy => kit_is); (case zoz => kit_is); (case zoA => kit_is); (case zoB => kit_is)
    (case zoC => kit_is); (case zoD => kit_is); (case zoE => kit_is); (case zoF => kit_is); (case zoG => kit_is); (case zoH => kit_is)
    (case zoI => kit_is); (case zoJ => kit_is); (case zoK => kit_is); (case zoL => kit_is); (case zoM => kit_is); (case zoN => kit_is)
    (case zoO => kit_is); (case zoP => kit_is); (case zoQ => kit_is); (case zoR => kit_is); (case zoS => kit_is); (case zoT => kit_is)
    (case zoU => kit_is); (case zoV => kit_is); (case zoW => kit_is); (case zoX => kit_is); (case zoY => kit_is); (case zoZ => kit_is)
    (case zo0 => kit_is); (case zo1 => kit_is); (case zo2 => kit_is); (case zo3 => kit_is); (case zo4 => kit_is); (case zo5 => kit_is)
    (case zo6 => kit_is); (case zo7 => kit_is); (case zo8 => kit_is); (case zo9 => kit_is); (case zpa => kit_is); (case zpb => kit_is)
    (case zpc => kit_is); (case hn0 => k_is); (case htk0 => k_is)

