import PyProof.Rows.All
import Wide.All
import OpenK.AllK
import Wide.FinOn
import Lean
import PyProof.EqAt
import PyProof.EqKinds
import PyProof.TupleCall
import PySem.Challenge.RW_closering_k09_refused
set_option Elab.async false
set_option linter.all false
set_option maxRecDepth 100000
noncomputable section
set_option maxHeartbeats 0
theorem ω {p:Prop}(h:p:=by omega):p:=h
theorem ϑ {p:Prop}(h:p:=by decide):p:=h
theorem ϰ {p:Prop}(h:p:=by decide +kernel):p:=h
theorem ϱ {p:Prop}(h:p:=by rfl):p:=h
theorem ς {p:Prop}(h:p:=by simp):p:=h
section
namespace MI
open PySem (Str)
inductive D where
 | non | bl (b:Bool) | int (i:Int) | str (x:Str) | tup (ds:List D) | obj (n:Nat)
deriving Inhabited
mutual
noncomputable def D.eq:D->D->Bool
 | .non,.non=>true
 | .bl a,.bl b=>a == b
 | .int a,.int b=>a == b
 | .str a,.str b=>decide (a=b)
 | .tup a,.tup b=>eqs a b
 | .obj a,.obj b=>a == b
 | _,_=>false
noncomputable def eqs:List D->List D->Bool
 | [],[]=>true
 | a :: r,b :: q=>D.eq a b && eqs r q
 | _,_=>false
end
mutual
theorem D.eq_iff:∀ a b:D,D.eq a b=true↔a=b
 | .non,b=>by cases b <;> simp [D.eq]
 | .bl a,b=>by cases b <;> simp [D.eq]
 | .int a,b=>by cases b <;> simp [D.eq]
 | .str a,b=>by cases b <;> simp [D.eq]
 | .obj a,b=>by cases b <;> simp [D.eq]
 | .tup a,b=>by
   cases b with
   | tup b=>simp [D.eq,zii a b]
   | _=>simp [D.eq]
theorem zii:∀ a b:List D,eqs a b=true↔a=b
 | [],b=>by cases b <;> simp [eqs]
 | x :: r,b=>by
   cases b with
   | nil=>simp [eqs]
   | cons y q=>simp [eqs,D.eq_iff x y,zii r q]
end
instance:DecidableEq D:=fun a b=>decidable_of_iff _ (D.eq_iff a b)
mutual
noncomputable def D.nr:D->Bool
 | .obj _=>false
 | .tup ds=>nrs ds
 | _=>true
noncomputable def nrs:List D->Bool
 | []=>true
 | d :: r=>d.nr && nrs r
end
inductive O where
 | lst (xs:List D) | scr (xs:List D) | dic (kvs:List (Int×D)) | hole | set (xs:List Int) | ins (c:Nat) (fs:List (Nat×D))
deriving Inhabited,DecidableEq
noncomputable def O.flat:O->Bool
 | .lst xs=>nrs xs
 | .scr _=>false
 | .dic kvs=>nrs (kvs.map (·.2))
 | .hole=>false
 | .set _=>true
 | .ins _ _=>false
noncomputable abbrev zx:=List (Option D)
noncomputable abbrev MH:=List O
inductive R (α:Type) where
 | ok (a:α) (h:MH) | ex (c:Nat) (h:MH) | bad
noncomputable abbrev ME (α:Type):=zx->MH->R α
inductive RS where
 | nx (e:zx) (h:MH) | rt (v:D) (h:MH) | bk (e:zx) (h:MH) | ct (e:zx) (h:MH) | ex (c:Nat) (h:MH) | bad
noncomputable abbrev MS:=zx->MH->RS
noncomputable abbrev MF:=List D->MH->R D
section
variable {α β:Type}
noncomputable def zb (a:α):ME α:=fun _ h=> .ok a h
noncomputable def zB:ME α:=fun _ _=> .bad
noncomputable def zn (m:ME α) (k:α->ME β):ME β:=fun e h=>match m e h with
 | .ok a h1=>k a e h1
 | .ex c h1=> .ex c h1
 | .bad=> .bad
end
noncomputable def var (i:Nat):ME D:=fun e h=>match e[i]? with
 | some (some d)=> .ok d h
 | _=> .bad
noncomputable def un (f:D->ME D) (a:ME D):ME D:=zn a f
noncomputable def bin (f:D->D->ME D) (a b:ME D):ME D:=zn a fun x=>zn b fun y=>f x y
noncomputable def zeG (o:O):ME D:=fun _ h=> .ok (.obj h.length) (h++[o])
noncomputable def O.items:O->Option (List D)
 | .lst xs=>some xs
 | .scr xs=>some xs
 | _=>none
noncomputable def zcr (n:Nat):ME (List D):=fun _ h=>match h[n]? with
 | some (.lst xs)=> .ok xs h
 | _=> .bad
noncomputable def zbK:D->ME D
 | .int i=>zb (.int (-i))
 | _=>zB
noncomputable def zA:D->D->ME D
 | .int i,.int j=>zb (.int (i+j))
 | _,_=>zB
noncomputable def zU:D->D->ME D
 | .int i,.int j=>zb (.int (i - j))
 | _,_=>zB
noncomputable def zbU (i:Int):Bool:=decide (-18446744073709551616 < i) && decide (i < 18446744073709551616)
noncomputable def zbw:D->D->ME D
 | .int i,.int j=>if zbU i || zbU j then zb (.int (i * j)) else zB
 | _,_=>zB
noncomputable def zbR:D->D->ME D
 | .int i,.int j=>if 0 < j∧j < 1073741824 then zb (.int (i / j)) else zB
 | _,_=>zB
noncomputable def zY:D->D->ME D
 | .int i,.int j=>if 0 < j then zb (.int (i % j)) else zB
 | _,_=>zB
noncomputable def ze9 (p:Int->Int->Bool):D->D->ME D
 | .int i,.int j=>zb (.bl (p i j))
 | _,_=>zB
noncomputable def ltV:=ze9 fun i j=>decide (i < j)
noncomputable def leV:=ze9 fun i j=>decide (i<=j)
noncomputable def gtV:=ze9 fun i j=>decide (j < i)
noncomputable def geV:=ze9 fun i j=>decide (j<=i)
mutual
noncomputable def peq:D->D->Bool
 | .non,.non=>true
 | .bl a,.bl b=>a == b
 | .bl a,.int b=>(if a then 1 else 0) == b
 | .int a,.bl b=>a == (if b then 1 else 0)
 | .int a,.int b=>a == b
 | .str a,.str b=>a == b
 | .tup a,.tup b=>zbJ a b
 | _,_=>false
noncomputable def zbJ:List D->List D->Bool
 | [],[]=>true
 | a :: r,b :: q=>peq a b && zbJ r q
 | _,_=>false
end
noncomputable def D.pl:Nat->D->Bool
 | _,.obj _=>false
 | 0,.tup _=>false
 | n+1,.tup ds=>ds.all (D.pl n)
 | _,_=>true
inductive Cmp where
 | d (x:D) | l (xs:List D)
noncomputable def zbO (h:MH):D->Option Cmp
 | .obj n=>match h[n]? with
   | some (.lst xs)=>if xs.all (D.pl 5) then some (.l xs) else none
   | _=>none
 | x=>if x.pl 5 then some (.d x) else none
noncomputable def Cmp.eq:Cmp->Cmp->Bool
 | .d x,.d y=>peq x y
 | .l x,.l y=>zbJ x y
 | _,_=>false
noncomputable def eqV (x y:D):ME D:=fun _ h=>match zbO h x,zbO h y with
 | some a,some b=> .ok (.bl (a.eq b)) h
 | _,_=> .bad
noncomputable def neV (x y:D):ME D:=fun _ h=>match zbO h x,zbO h y with
 | some a,some b=> .ok (.bl (!a.eq b)) h
 | _,_=> .bad
noncomputable def zbD:D->Bool
 | .non=>true
 | .bl _=>true
 | .int _=>true
 | .str _=>true
 | _=>false
noncomputable def look (k:Int):List (Int×D)->Option D
 | []=>none
 | p :: r=>if p.1=k then some p.2 else look k r
noncomputable def zi6 (k:Int) (v:D) (kvs:List (Int×D)):List (Int×D) :=
 if (kvs.any fun p=>decide (p.1=k))=true then kvs.map (fun p=>if p.1=k then (p.1,v) else p) else kvs++[(k,v)]
noncomputable def inB (x:D) (xs:List D):Bool:=xs.any fun y=>peq y x
noncomputable def inV (x y:D):ME D:=fun _ h=>match y with
 | .tup ds=>if zbD x && ds.all zbD then .ok (.bl (inB x ds)) h else .bad
 | .obj n=>match h[n]? with
   | some (.lst xs)=>if zbD x && xs.all zbD then .ok (.bl (inB x xs)) h else .bad
   | some (.scr xs)=>if zbD x && xs.all zbD then .ok (.bl (inB x xs)) h else .bad
   | some (.dic kvs)=>match x with
     | .int k=> .ok (.bl (look k kvs).isSome) h
     | _=> .bad
   | _=> .bad
 | _=> .bad
noncomputable def zri (x y:D):ME D:=zn (inV x y) fun b=>match b with
 | .bl b=>zb (.bl !b)
 | _=>zB
noncomputable def isN:D->D->ME D
 | x,.non=>zb (.bl (decide (x = .non)))
 | .bl a,.bl b=>zb (.bl (a == b))
 | _,_=>zB
noncomputable def zoy (x y:D):ME D:=zn (isN x y) fun b=>match b with
 | .bl b=>zb (.bl !b)
 | _=>zB
noncomputable def zgQ:D->ME D
 | .bl b=>zb (.bl !b)
 | _=>zB
noncomputable def zcL (a b:ME D):ME D:=zn a fun x=>match x with
 | .bl true=>b
 | .bl false=>zb (.bl false)
 | _=>zB
noncomputable def orV (a b:ME D):ME D:=zn a fun x=>match x with
 | .bl true=>zb (.bl true)
 | .bl false=>b
 | _=>zB
noncomputable def zff (f g:D->D->ME D) (a b c:ME D):ME D:=zn a fun x=>zn b fun y=>zn (f x y) fun t=>match t with
 | .bl true=>zn c fun z=>g y z
 | .bl false=>zb (.bl false)
 | _=>zB
noncomputable def tst (m:ME D):ME Bool:=zn m fun x=>match x with
 | .bl b=>zb b
 | _=>zB
noncomputable def zex (x:D):ME Bool:=fun _ h=>match x with
 | .non=> .ok false h
 | .bl b=> .ok b h
 | .int i=> .ok (i != 0) h
 | .tup ds=> .ok (!ds.isEmpty) h
 | .obj n=>match h[n]? with
   | some (.lst xs)=> .ok (!xs.isEmpty) h
   | some (.scr xs)=> .ok (!xs.isEmpty) h
   | some (.dic kvs)=> .ok (!kvs.isEmpty) h
   | _=> .bad
 | _=> .bad
noncomputable def tru (m:ME D):ME Bool:=zn m zex
noncomputable def zbn (a b:ME Bool):ME Bool:=zn a fun c=>if c=true then b else zb false
noncomputable def orT (a b:ME Bool):ME Bool:=zn a fun c=>if c=true then zb true else b
noncomputable def zbd (a:ME Bool):ME Bool:=zn a fun c=>zb !c
noncomputable def ifE (t:ME Bool) (a b:ME D):ME D:=zn t fun c=>if c=true then a else b
noncomputable def zf:ME (List D):=zb []
noncomputable def za (a:ME D) (r:ME (List D)):ME (List D):=zn a fun x=>zn r fun xs=>zb (x :: xs)
noncomputable def zy (r:ME (List D)):ME D:=zn r fun xs=>if xs.length<=1000 then zb (.tup xs) else zB
noncomputable def zp (r:ME (List D)):ME (List D):=zn r fun xs=>if xs.length<=1000 then zb xs else zB
noncomputable def zo (r:ME (List D)):ME D:=zn r fun xs=>zeG (.lst xs)
noncomputable def zfU (a:ME D):ME (List D):=zn a fun x=>match x with
 | .obj n=>zcr n
 | _=>zB
noncomputable def zck (a:ME D):ME (List D):=zn a fun x=>fun _ h=>match x with
 | .obj n=>(match h[n]? with
   | some (.lst xs)=> .ok xs h
   | some (.scr xs)=> .ok xs h
   | _=> .bad)
 | .tup ds=> .ok ds h
 | _=> .bad
noncomputable def ixN (n:Nat) (i:Int):Option Nat:=if 0<=i then (if i < n then some i.toNat else none) else if -(n:Int)<=i then some (i+n).toNat else none
noncomputable def atI {α:Type} (xs:List α) (i:Int):Option α:=(ixN xs.length i).bind fun j=>xs[j]?
noncomputable def zk (x i:D):ME D:=fun _ h=>match x,i with
 | .tup ds,.int i=>match atI ds i with
   | some d=> .ok d h
   | none=> .bad
 | .obj n,.int i=>match h[n]? with
   | some (.lst xs)=>(match atI xs i with
     | some d=> .ok d h
     | none=> .bad)
   | some (.scr xs)=>(match atI xs i with
     | some d=> .ok d h
     | none=> .bad)
   | some (.dic kvs)=>(match look i kvs with
     | some d=> .ok d h
     | none=> .bad)
   | _=> .bad
 | _,_=> .bad
noncomputable def sIx (n d:Nat):Option Int->Nat
 | none=>d
 | some v=>(if v < 0 then max (v+n) 0 else min v n).toNat
noncomputable def cut {α:Type} (xs:List α) (lo hi:Option Int):List α:=(xs.drop (sIx xs.length 0 lo)).take (sIx xs.length xs.length hi - sIx xs.length 0 lo)
noncomputable def noP:ME (Option Int):=zb none
noncomputable def zcE (a:ME D):ME (Option Int):=zn a fun x=>match x with
 | .int i=>zb (some i)
 | _=>zB
noncomputable def zcI (a:ME D) (lo hi:ME (Option Int)):ME (List D):=zn a fun x=>zn lo fun l=>zn hi fun u=>match x with
 | .obj n=>zn (zcr n) fun xs=>zb (cut xs l u)
 | _=>zB
noncomputable def zqC (a:ME D) (lo hi:ME (Option Int)):ME D:=zn a fun x=>zn lo fun l=>zn hi fun u=>match x with
 | .tup ds=>if (cut ds l u).length < ds.length then zb (.tup (cut ds l u)) else zB
 | _=>zB
noncomputable def zsd (a:ME D):ME D:=zn a fun x=>match x with
 | .tup [p,q,_]=>zb (.tup [q,p])
 | _=>zB
noncomputable def zci:List D->Option (List Bool)
 | []=>some []
 | .bl b :: r=>(zci r).map (b :: ·)
 | _ :: _=>none
noncomputable def zeu:List D->Option (List Int)
 | []=>some []
 | .int b :: r=>(zeu r).map (b :: ·)
 | _ :: _=>none
noncomputable def zfc (l:ME (List D)):ME D:=zn l fun xs=>match zci xs with
 | some bs=>zb (.bl (bs.all id))
 | none=>zB
noncomputable def zrB (l:ME (List D)):ME D:=zn l fun xs=>match zci xs with
 | some bs=>zb (.bl (bs.any id))
 | none=>zB
noncomputable def zqp (l:ME (List D)):ME D:=zn l fun xs=>match zeu xs with
 | some ns=>zb (.int ns.sum)
 | none=>zB
noncomputable def zcm (l:ME (List D)):ME D:=zn l fun xs=>zb (.int xs.length)
noncomputable def zbP:List Int->List Int->List Int
 | _,[]=>[]
 | seen,x :: r=>if x∈seen then zbP seen r else x :: zbP (x :: seen) r
noncomputable def zqs (l:ME (List D)):ME D:=zn l fun xs=>match zeu xs with
 | some ns=>if ns.length < 4000 then zb (.int (zbP [] ns).length) else zB
 | none=>zB
noncomputable def zhM (x:Int):List Int->List Int
 | []=>[x]
 | y :: r=>if x<=y then x :: y :: r else y :: zhM x r
noncomputable def ze0 (l:List Int):List Int:=l.foldr zhM []
noncomputable def zqA (l:ME (List D)):ME (List D):=zn l fun xs=>match zeu xs with
 | some ns=>if ns.length < 64 then zb ((ze0 ns).map .int) else zB
 | none=>zB
noncomputable def zsz (l:ME (List D)):ME (List D):=zn l fun xs=>match zeu xs with
 | some ns=>if ns.length < 64 then zb ((ze0 (zbP [] ns)).map .int) else zB
 | none=>zB
noncomputable def zrF (a:ME D):ME (List D):=zn a fun x=>fun _ h=>match x with
 | .obj n=>match h[n]? with
   | some (.dic kvs)=>if kvs.length < 64 then .ok ((ze0 (kvs.map (·.1))).map .int) h else .bad
   | _=> .bad
 | _=> .bad
noncomputable def zc4 (a:ME D):ME D:=zn a fun x=>match x with
 | .int i=>zb (.int (if i < 0 then -i else i))
 | _=>zB
noncomputable def zrV (a:ME D):ME D:=zn a fun x=>match x with
 | .int i=>zb (.int i)
 | .bl b=>zb (.int (if b then 1 else 0))
 | _=>zB
noncomputable def zrv (a n:ME D):ME (List D):=zn a fun x=>zn n fun k=>match x,k with
 | .obj m,.int k=>zn (zcr m) fun xs=>if -1000000<=k∧k<=1000000∧xs.length * k.toNat<=1000000 then zb (List.replicate k.toNat xs).flatten else zB
 | _,_=>zB
noncomputable def zb8 (a:ME D) (b:ME (List D)):ME (List D):=zn a fun x=>zn b fun ys=>match x with
 | .obj m=>zn (zcr m) fun xs=>if xs.length+ys.length<=1000000 then zb (xs++ys) else zB
 | _=>zB
noncomputable def pairsOf:List D->Option (List (Int×D))
 | []=>some []
 | .tup [.int k,v] :: r=>(pairsOf r).map ((k,v) :: ·)
 | _ :: _=>none
noncomputable def zsp (l:ME (List D)):ME D:=zn l fun xs=>match pairsOf xs with
 | some ps=>if ps.length<=1000000 then zeG (.dic (ps.foldl (fun a p=>zi6 p.1 p.2 a) [])) else zB
 | none=>zB
noncomputable def zhh:ME D:=zeG (.dic [])
noncomputable def zr3 (a:ME D):ME (List D):=zn a fun x=>match x with
 | .int i=>if -1000000<=i∧i<=1000000 then zb ((List.range i.toNat).map fun (k:Nat)=>D.int k) else zB
 | _=>zB
inductive Ty where
 | int | bool | str | list | tuple | dict
deriving DecidableEq
noncomputable def zT (h:MH) (t:Ty):D->Option Bool
 | .non=>some false
 | .bl _=>some (t == .bool || t == .int)
 | .int _=>some (t == .int)
 | .str _=>some (t == .str)
 | .tup _=>some (t == .tuple)
 | .obj n=>match h[n]? with
   | some (.lst _)=>some (t == .list)
   | some (.dic _)=>some (t == .dict)
   | _=>none
noncomputable def zdi (t:Ty) (a:ME D):ME D:=zn a fun x=>fun _ h=>match zT h t x with
 | some b=> .ok (.bl b) h
 | none=> .bad
noncomputable def ze3 (sub:Nat->Nat->Bool) (c:Nat) (a:ME D):ME D:=zn a fun x=>fun _ h=>match x with
 | .obj n=>match h[n]? with
   | some (.ins c' _)=> .ok (.bl (sub c' c)) h
   | _=> .bad
 | _=> .bad
noncomputable def fld (k:Nat) (a:ME D):ME D:=zn a fun x=>fun _ h=>match x with
 | .obj n=>match h[n]? with
   | some (.ins _ fs)=>(match fs.lookup k with
     | some d=> .ok d h
     | none=> .bad)
   | _=> .bad
 | _=> .bad
noncomputable def zdE (k:Nat) (v:D):List (Nat×D)->List (Nat×D)
 | []=>[(k,v)]
 | p :: r=>if p.1=k then (k,v) :: r else p :: zdE k v r
noncomputable def isL (x:D):ME Unit:=fun _ h=>match x with
 | .obj n=>(match h[n]? with
   | some (.lst _)=> .ok () h
   | _=> .bad)
 | _=> .bad
noncomputable def zcc (a v:ME D):ME D:=zn a fun x=>zn (isL x) fun _=>zn v fun y=>fun _ h=>match x with
 | .obj n=>match h[n]? with
   | some (.lst xs)=>if xs.length < 1000000 then .ok .non (h.set n (.lst (xs++[y]))) else .bad
   | _=> .bad
 | _=> .bad
noncomputable def zrj (a:ME D):ME D:=zn a fun x=>fun _ h=>match x with
 | .obj n=>match h[n]? with
   | some (.lst xs)=>(match xs[xs.length - 1]? with
     | some y=> .ok y (h.set n (.lst xs.dropLast))
     | none=> .bad)
   | _=> .bad
 | _=> .bad
noncomputable def zq8 (a:ME D):ME D:=zn a fun x=>fun _ h=>match x with
 | .obj n=>match h[n]? with
   | some (.lst xs)=> .ok .non (h.set n (.lst xs.reverse))
   | _=> .bad
 | _=> .bad
noncomputable def zqO (a:ME D):ME D:=zn a fun x=>fun _ h=>match x with
 | .obj n=>match h[n]? with
   | some (.lst xs)=> .ok .non (h.set n (.lst []))
   | _=> .bad
 | _=> .bad
noncomputable def zrM (a b:ME D):ME D:=zn a fun x=>zn (isL x) fun _=>zn b fun y=>fun _ h=>match x,y with
 | .obj n,.obj m=>match h[n]?,h[m]? with
   | some (.lst xs),some (.lst ys)=>if xs.length+ys.length<=1000000 then .ok .non (h.set n (.lst (xs++ys))) else .bad
   | _,_=> .bad
 | _,_=> .bad
noncomputable def zdC (h1 h2:MH):Bool:=(List.range h1.length).all fun i=>decide (h2[i]?=h1[i]?) || (match h2[i]? with
 | some o=>o.flat
 | none=>false)
noncomputable def zbT (n b:Nat) (h2:MH):List D->List Nat->Option (List D×List Nat)
 | [],ms=>some ([],ms)
 | .obj m :: r,ms=>if m < n then (zbT n b h2 r ms).map fun p=>(.obj m :: p.1,p.2)
   else if m∈ms then none else match h2[m]? with
     | some o=>if o.flat=true then (zbT n b h2 r (ms++[m])).map fun p=>(.obj (b+ms.length) :: p.1,p.2) else none
     | none=>none
 | d :: r,ms=>if d.nr=true then (zbT n b h2 r ms).map fun p=>(d :: p.1,p.2) else none
noncomputable def gcV (n:Nat) (v:D) (h2:MH):D×MH:=match v with
 | .obj m=>if m < n then (v,h2.take n) else match h2[m]? with
   | some (.ins c fs)=>(match zbT n (n+1) h2 (fs.map (·.2)) [] with
     | some (ds,ms)=>(.obj n,h2.take n ++ .ins c ((fs.map (·.1)).zip ds) :: ms.map fun k=>h2.getD k (.lst []))
     | none=>(v,h2))
   | some o=>if o.flat=true then (.obj n,h2.take n++[o]) else (v,h2)
   | none=>(v,h2)
 | .tup ds=>(match zbT n n h2 ds [] with
   | some (ds',ms)=>(.tup ds',h2.take n++ms.map fun k=>h2.getD k (.lst []))
   | none=>(v,h2))
 | _=>(v,h2.take n)
noncomputable def gc (h1:MH):R D->R D
 | .ok v h2=>if zdC h1 h2=true then .ok (gcV h1.length v h2).1 (gcV h1.length v h2).2 else .ok v h2
 | r=>r
noncomputable def app (f:MF) (ds:List D) (h:MH):R D:=gc h (f ds h)
noncomputable def zj (f:MF) (args:ME (List D)):ME D:=zn args fun ds=>fun _ h=>app f ds h
noncomputable def mkF (c:Nat) (f:MF):MF:=fun ds h=>match f (.obj h.length :: ds) (h++[.ins c []]) with
 | .ok .non h2=> .ok (.obj h.length) h2
 | .ok _ _=> .bad
 | .ex c h2=> .ex c h2
 | .bad=> .bad
noncomputable def zcv (tbl:List (Nat×MF)) (o:ME D) (args:ME (List D)):ME D:=zn o fun x=>fun e h=>match x with
 | .obj n=>match h[n]? with
   | some (.ins c _)=>(match tbl.lookup c with
     | some f=>zn args (fun ds=>fun _ h=>app f (x :: ds) h) e h
     | none=> .bad)
   | _=> .bad
 | _=> .bad
noncomputable def zbV {α:Type} (m:ME α) (k:α->MS):MS:=fun e h=>match m e h with
 | .ok a h1=>k a e h1
 | .ex c h1=> .ex c h1
 | .bad=> .bad
noncomputable def zI:MS:=fun e h=> .nx e h
noncomputable def zeI:MS:=fun _ _=> .bad
noncomputable def zm (a b:MS):MS:=fun e h=>match a e h with
 | .nx e1 h1=>b e1 h1
 | r=>r
noncomputable def ifS (t:ME Bool) (a b:MS):MS:=zbV t fun c=>if c=true then a else b
noncomputable def zbi (m:ME D):MS:=zbV m fun _=>zI
noncomputable def zL (m:ME D):MS:=zbV m fun v _ h=> .rt v h
noncomputable def zsl:MS:=fun e h=> .bk e h
noncomputable def zqv:MS:=fun e h=> .ct e h
inductive Tg where
 | nm (i:Nat) | tp (l:List Nat)
noncomputable def zcM:List Nat->List D->zx->Option zx
 | [],[],e=>some e
 | i :: r,x :: xs,e=>zcM r xs (e.set i (some x))
 | _,_,_=>none
noncomputable def zcj:Tg->D->zx->Option zx
 | .nm i,x,e=>some (e.set i (some x))
 | .tp l,.tup ds,e=>zcM l ds e
 | .tp _,_,_=>none
noncomputable def zfg (t:Tg) (v:D):MS:=fun e h=>match zcj t v e with
 | some e1=> .nx e1 h
 | none=> .bad
noncomputable def zr (t:Tg) (m:ME D):MS:=zbV m (zfg t)
noncomputable def zfN (l:List Nat) (m:ME (List D)):MS:=zbV m fun vs e h=>match zcM l vs e with
 | some e1=> .nx e1 h
 | none=> .bad
noncomputable def zrQ (f:D->D->ME D) (i:Nat) (m:ME D):MS:=zr (.nm i) (zn (var i) fun x=>zn m fun y=>f x y)
noncomputable def zey (att:Nat->Nat->Bool) (k:Nat) (o v:ME D):MS:=zbV v fun y=>zbV o fun x=>fun e h=>match x with
 | .obj n=>(match h[n]? with
   | some (.ins c fs)=>if att c k && decide (fs.length < 100) then .nx e (h.set n (.ins c (zdE k y fs))) else .bad
   | _=> .bad)
 | _=> .bad
noncomputable def zqF (o i v:ME D):MS:=zbV v fun y=>zbV o fun x=>zbV i fun z=>fun e h=>match x,z with
 | .obj n,.int k=>(match h[n]? with
   | some (.lst xs)=>(match ixN xs.length k with
     | some j=> .nx e (h.set n (.lst (xs.set j y)))
     | none=> .bad)
   | some (.dic kvs)=>if kvs.length < 1000000 then .nx e (h.set n (.dic (zi6 k y kvs))) else .bad
   | _=> .bad)
 | _,_=> .bad
noncomputable abbrev Src:=List D×List (Nat×O)
noncomputable def guard (gs:List (Nat×O)) (h:MH):Bool:=gs.all fun p=>decide (h[p.1]?=some p.2)
noncomputable def zgN (n:Nat) (f:List D->List D):ME Src:=fun _ h=>match h[n]? with
 | some (.lst xs)=> .ok (f xs,[(n,.lst xs)]) h
 | _=> .bad
noncomputable def zic (k:Nat):List D->List D
 | []=>[]
 | x :: r=> .tup [.int k,x] :: zic (k+1) r
noncomputable def zhR:List D->List D->List D
 | x :: r,y :: q=> .tup [x,y] :: zhR r q
 | _,_=>[]
noncomputable def itL (a:ME D):ME Src:=zn a fun x=>match x with
 | .obj n=>zgN n id
 | _=>zB
noncomputable def itT (a:ME D):ME Src:=zn a fun x=>match x with
 | .tup ds=>zb (ds,[])
 | _=>zB
noncomputable def itR (a:ME D):ME Src:=zn a fun x=>match x with
 | .int i=>if -1000000<=i∧i<=1000000 then zb ((List.range i.toNat).map fun (k:Nat)=>D.int k,[]) else zB
 | _=>zB
noncomputable def itE (a:ME D):ME Src:=zn a fun x=>match x with
 | .obj n=>zgN n (zic 0)
 | _=>zB
noncomputable def itZ (a b:ME D):ME Src:=zn a fun x=>zn b fun y=>match x,y with
 | .obj n,.obj m=>fun _ h=>(match h[n]?,h[m]? with
   | some (.lst xs),some (.lst ys)=> .ok (zhR xs ys,[(n,.lst xs),(m,.lst ys)]) h
   | _,_=> .bad)
 | _,_=>zB
noncomputable def zdf (r:RS) (k:MS):RS:=match r with
 | .nx e h=>k e h
 | .ct e h=>k e h
 | .bk e h=> .nx e h
 | r=>r
noncomputable def zbH (t:Tg) (gs:List (Nat×O)) (body:MS):List D->MS
 | [],e,h=>if guard gs h=true then .nx e h else .bad
 | x :: xs,e,h=>if guard gs h=true then (match zcj t x e with
     | none=> .bad
     | some e1=>zdf (body e1 h) (zbH t gs body xs)) else .bad
noncomputable def zdx (t:Tg) (src:ME Src) (body:MS):MS:=zbV src fun p=>zbH t p.2 body p.1
noncomputable def zqy (kvs:List (Int×D)):List D:=kvs.map fun p=> .tup [.int p.1,p.2]
noncomputable def zqX (kvs:List (Int×D)):List D:=kvs.map (·.2)
noncomputable def zlX (n:Nat) (kvs:List (Int×D)):RS->RS
 | .nx e h=>if h[n]?=some .hole then .nx e (h.set n (.dic kvs)) else .bad
 | .bk e h=>if h[n]?=some .hole then .bk e (h.set n (.dic kvs)) else .bad
 | .ct e h=>if h[n]?=some .hole then .ct e (h.set n (.dic kvs)) else .bad
 | .rt v h=>if h[n]?=some .hole then .rt v (h.set n (.dic kvs)) else .bad
 | .ex _ _=> .bad
 | .bad=> .bad
noncomputable def zop {α:Type} (n:Nat) (kvs:List (Int×D)):R α->R α
 | .ok a h=>if h[n]?=some .hole then .ok a (h.set n (.dic kvs)) else .bad
 | .ex _ _=> .bad
 | .bad=> .bad
noncomputable def zq9 (pr:List (Int×D)->List D) (t:Tg) (a:ME D) (body:MS):MS:=zbV a fun x=>fun e h=>match x with
 | .obj n=>(match h[n]? with
   | some (.dic kvs)=>zlX n kvs (zbH t [] body (pr kvs) e (h.set n .hole))
   | _=> .bad)
 | _=> .bad
noncomputable def zie (t:ME Bool) (body:MS):Nat->MS
 | 0=>zeI
 | n+1=>zbV t fun c=>if c=true then (fun e h=>zdf (body e h) (zie t body n)) else zI
noncomputable def zrg (t:ME Bool) (body:MS):MS:=zie t body 1000000
noncomputable def zcJ (js:List (Option Nat)) (e:zx):zx:=js.map fun j=>j.bind fun k=>(e[k]?).join
noncomputable def zbx (t:Tg) (gs:List (Nat×O)) (cond:ME Bool) (elt:ME D):List D->List D->ME (List D)
 | [],acc,e,h=>if guard gs h=true then .ok acc h else .bad
 | x :: xs,acc,e,h=>if guard gs h=true then (match zcj t x e with
     | none=> .bad
     | some e1=>zn cond (fun c=>if c=true then zn elt (fun y=>zbx t gs cond elt xs (acc++[y])) else zbx t gs cond elt xs acc) e1 h) else .bad
noncomputable def zcZ:ME Bool:=zb true
noncomputable def zd1 (js:List (Option Nat)) (t:Tg) (src:ME Src) (cond:ME Bool) (elt:ME D):ME (List D):=zn src fun p=>fun e h=>if p.1.length<=1000000 then zbx t p.2 cond elt p.1 [] (zcJ js e) h else .bad
noncomputable def zrP (pr:List (Int×D)->List D) (js:List (Option Nat)) (t:Tg) (a:ME D) (cond:ME Bool) (elt:ME D):ME (List D):=zn a fun x=>fun e h=>match x with
 | .obj n=>(match h[n]? with
   | some (.dic kvs)=>if (pr kvs).length<=1000000 then zop n kvs (zbx t [] cond elt (pr kvs) [] (zcJ js e) (h.set n .hole)) else .bad
   | _=> .bad)
 | _=> .bad
noncomputable def z6 (np nl:Nat) (body:MS):MF:=fun ds h=>if ds.length=np then (match body (ds.map some++List.replicate (nl - np) none) h with
 | .nx _ h1=> .ok .non h1
 | .rt v h1=> .ok v h1
 | .ex c h1=> .ex c h1
 | _=> .bad) else .bad
end MI
end
section
namespace MI
open PySem (Str)
noncomputable def zK {α β:Type} (r:R α) (f:α->MH->R β):R β:=match r with
 | .ok a h=>f a h
 | .ex c h=> .ex c h
 | .bad=> .bad
noncomputable def zce {α:Type} (r:R α) (f:α->MH->RS):RS:=match r with
 | .ok a h=>f a h
 | .ex c h=> .ex c h
 | .bad=> .bad
noncomputable def zdA (r:RS) (f:zx->MH->RS):RS:=match r with
 | .nx e h=>f e h
 | r=>r
noncomputable def zdt (r:RS):R D:=match r with
 | .nx _ h1=> .ok .non h1
 | .rt v h1=> .ok v h1
 | .ex c h1=> .ex c h1
 | _=> .bad
section
variable {α β:Type}{e e1:zx}{h h1:MH}{x y z d v:D}{i j:Int}{n m k:Nat}
@[simp] theorem zsf (a:α) (f:α->MH->R β):zK (.ok a h) f=f a h:=rfl
@[simp] theorem zqB (f:α->MH->R β):zK (.bad) f = .bad:=rfl
@[simp] theorem zpV (a:α) (f:α->MH->RS):zce (.ok a h) f=f a h:=rfl
@[simp] theorem zqQ (f:α->MH->RS):zce (.bad) f = .bad:=rfl
@[simp] theorem ziX (f:zx->MH->RS):zdA (.nx e h) f=f e h:=rfl
@[simp] theorem zi3 (f:zx->MH->RS):zdA (.rt v h) f = .rt v h:=rfl
@[simp] theorem zrl (f:zx->MH->RS):zdA (.bk e h) f = .bk e h:=rfl
@[simp] theorem zrG (f:zx->MH->RS):zdA (.ct e h) f = .ct e h:=rfl
@[simp] theorem zq0 (f:zx->MH->RS):zdA .bad f = .bad:=rfl
@[simp] theorem zqn:zdt (.nx e h) = .ok .non h:=rfl
@[simp] theorem ziH:zdt (.rt v h) = .ok v h:=rfl
@[simp] theorem zrS:zdt .bad = .bad:=rfl
@[simp] theorem zoJ (f:MS):zdf (.nx e h) f=f e h:=rfl
@[simp] theorem zqK (f:MS):zdf (.ct e h) f=f e h:=rfl
@[simp] theorem zqu (f:MS):zdf (.rt v h) f = .rt v h:=rfl
@[simp] theorem zsm (f:MS):zdf .bad f = .bad:=rfl
@[simp] theorem zba (a:ME α) (f:α->ME β):zn a f e h=zK (a e h) fun x h1=>f x e h1:=by unfold zn zK;cases a e h <;> rfl
@[simp] theorem zdY (a:ME α) (f:α->MS):zbV a f e h=zce (a e h) fun x h1=>f x e h1:=by unfold zbV zce;cases a e h <;> rfl
@[simp] theorem zfx (a b:MS):zm a b e h=zdA (a e h) b:=by unfold zm zdA;cases a e h <;> rfl
@[simp] theorem zhj (np nl:Nat) (b:MS) (ds:List D):z6 np nl b ds h=if ds.length=np then zdt (b (ds.map some++List.replicate (nl - np) none) h) else .bad:=by
 unfold z6 zdt
 split
 . cases b (ds.map some++List.replicate (nl - np) none) h <;> rfl
 . rfl
@[simp] theorem zre (a:α):zb a e h = .ok a h:=rfl
@[simp] theorem zrO:(zB:ME α) e h = .bad:=rfl
@[simp] theorem zqE:var n e h=match e[n]? with
 | some (some d)=> .ok d h
 | _=> .bad:=rfl
@[simp] theorem zsB (f:D->ME D) (a:ME D):un f a e h=zK (a e h) fun x h1=>f x e h1:=zba _ _
@[simp] theorem zrD (f:D->D->ME D) (a b:ME D):MI.bin f a b e h=zK (a e h) fun x h1=>zK (b e h1) fun y h2=>f x y e h2:=by unfold MI.bin;simp
@[simp] theorem zsv (o:O):zeG o e h = .ok (.obj h.length) (h++[o]):=rfl
@[simp] theorem zrh:zbK (.int i) e h = .ok (.int (-i)) h:=rfl
@[simp] theorem zsj:zA (.int i) (.int j) e h = .ok (.int (i+j)) h:=rfl
@[simp] theorem zq6:zU (.int i) (.int j) e h = .ok (.int (i - j)) h:=rfl
@[simp] theorem zrK:zbR (.int i) (.int j) e h=if 0 < j∧j < 1073741824 then .ok (.int (i / j)) h else .bad:=by simp only [zbR];split <;> rfl
@[simp] theorem zsi:zY (.int i) (.int j) e h=if 0 < j then .ok (.int (i % j)) h else .bad:=by simp only [zY];split <;> rfl
@[simp] theorem zjv:zbw (.int i) (.int j) e h=if (zbU i || zbU j)=true then .ok (.int (i * j)) h else .bad:=by simp only [zbw];split <;> rfl
@[simp] theorem zr4:ltV (.int i) (.int j) e h = .ok (.bl (decide (i < j))) h:=rfl
@[simp] theorem zrI:leV (.int i) (.int j) e h = .ok (.bl (decide (i<=j))) h:=rfl
@[simp] theorem zqZ:gtV (.int i) (.int j) e h = .ok (.bl (decide (j < i))) h:=rfl
@[simp] theorem zry:geV (.int i) (.int j) e h = .ok (.bl (decide (j<=i))) h:=rfl
@[simp] theorem zrT:eqV (.int i) (.int j) e h = .ok (.bl (decide (i=j))) h:=by simp only [eqV,zbO,D.pl,if_pos,Cmp.eq,peq,Bool.beq_eq_decide_eq]
@[simp] theorem zss:neV (.int i) (.int j) e h = .ok (.bl (!decide (i=j))) h:=by simp only [neV,zbO,D.pl,if_pos,Cmp.eq,peq,Bool.beq_eq_decide_eq]
@[simp] theorem zql {a b:Bool}:eqV (.bl a) (.bl b) e h = .ok (.bl (a == b)) h:=rfl
@[simp] theorem zq5 {a b:Bool}:neV (.bl a) (.bl b) e h = .ok (.bl (!(a == b))) h:=rfl
@[simp] theorem zrm {b:Bool}:zgQ (.bl b) e h = .ok (.bl !b) h:=rfl
@[simp] theorem zq7:isN x .non e h = .ok (.bl (decide (x = .non))) h:=by cases x <;> rfl
@[simp] theorem zsr {a b:Bool}:isN (.bl a) (.bl b) e h = .ok (.bl (a == b)) h:=rfl
@[simp] theorem zrJ {a b:Bool}:zoy (.bl a) (.bl b) e h = .ok (.bl (!(a == b))) h:=rfl
noncomputable def ze6 (r:R D) (f:MH->R D):R D:=zK r fun x h1=>match x with
 | .bl true=>f h1
 | .bl false=> .ok (.bl false) h1
 | _=> .bad
noncomputable def orR (r:R D) (f:MH->R D):R D:=zK r fun x h1=>match x with
 | .bl true=> .ok (.bl true) h1
 | .bl false=>f h1
 | _=> .bad
@[simp] theorem zqz {b:Bool} (f:MH->R D):ze6 (.ok (.bl b) h) f=if b=true then f h else .ok (.bl false) h:=by cases b <;> rfl
@[simp] theorem zrf (a b:ME D):zcL a b e h=ze6 (a e h) (b e):=by
 unfold zcL ze6
 rw [zba]
 cases a e h with
 | ok x h1=>cases x <;> first | rfl | (rename_i b;cases b <;> rfl)
 | _=>rfl
@[simp] theorem zqM (f g:D->D->ME D) (a b c:ME D):zff f g a b c e h=zK (a e h) fun x h1=>zK (b e h1) fun y h2=>ze6 (f x y e h2) fun h3=>zK (c e h3) fun z h4=>g y z e h4:=by
 unfold zff
 simp only [zba]
 congr 1;funext x h1;congr 1;funext y h2
 unfold ze6
 congr 1;funext t h3
 cases t <;> first | rfl | (rename_i b;cases b <;> simp)
noncomputable def zgR (r:R D):R Bool:=zK r fun x h1=>match x with
 | .bl b=> .ok b h1
 | _=> .bad
@[simp] theorem zrL {b:Bool}:zgR (.ok (.bl b) h) = .ok b h:=rfl
@[simp] theorem zst (a:ME D):tst a e h=zgR (a e h):=by
 unfold tst zgR
 rw [zba]
 congr 1;funext x h1;cases x <;> rfl
@[simp] theorem zsg (a:ME D):tru a e h=zK (a e h) fun x h1=>zex x e h1:=by unfold tru;rw [zba]
@[simp] theorem zq1 {b:Bool}:zex (.bl b) e h = .ok b h:=rfl
@[simp] theorem zr0:zex .non e h = .ok false h:=rfl
@[simp] theorem zse:zex (.int i) e h = .ok (i != 0) h:=rfl
@[simp] theorem zqS (a b:ME Bool):zbn a b e h=zK (a e h) fun c h1=>if c=true then b e h1 else .ok false h1:=by unfold zbn;rw [zba];congr 1;funext c h1;cases c <;> rfl
@[simp] theorem zrw (a b:ME Bool):orT a b e h=zK (a e h) fun c h1=>if c=true then .ok true h1 else b e h1:=by unfold orT;rw [zba];congr 1;funext c h1;cases c <;> rfl
@[simp] theorem zrH (a:ME Bool):zbd a e h=zK (a e h) fun c h1=> .ok (!c) h1:=by unfold zbd;rw [zba];rfl
@[simp] theorem zrb (t:ME Bool) (a b:ME D):ifE t a b e h=zK (t e h) fun c h1=>if c=true then a e h1 else b e h1:=by unfold ifE;rw [zba];congr 1;funext c h1;cases c <;> rfl
@[simp] theorem zrA:zf e h = .ok [] h:=rfl
@[simp] theorem zq4 (a:ME D) (r:ME (List D)):za a r e h=zK (a e h) fun x h1=>zK (r e h1) fun xs h2=> .ok (x :: xs) h2:=by unfold za;simp
@[simp] theorem zsb (r:ME (List D)):zy r e h=zK (r e h) fun xs h1=>if xs.length<=1000 then .ok (.tup xs) h1 else .bad:=by unfold zy;rw [zba];congr 1;funext xs h1;split <;> rfl
@[simp] theorem zq2 (r:ME (List D)):zp r e h=zK (r e h) fun xs h1=>if xs.length<=1000 then .ok xs h1 else .bad:=by unfold zp;rw [zba];congr 1;funext xs h1;split <;> rfl
@[simp] theorem zqt (r:ME (List D)):zo r e h=zK (r e h) fun xs h1=> .ok (.obj h1.length) (h1++[.lst xs]):=by unfold zo;rw [zba];rfl
@[simp] theorem zqG:zcr n e h=match h[n]? with
 | some (.lst xs)=> .ok xs h
 | _=> .bad:=rfl
@[simp] theorem zqw (a:ME D):zfU a e h=zK (a e h) fun x h1=>match x with
 | .obj n=>zcr n e h1
 | _=> .bad:=by unfold zfU;rw [zba];congr 1;funext x h1;cases x <;> rfl
@[simp] theorem zqP (a:ME D):zck a e h=zK (a e h) fun x h1=>match x with
 | .obj n=>(match h1[n]? with
   | some (.lst xs)=> .ok xs h1
   | some (.scr xs)=> .ok xs h1
   | _=> .bad)
 | .tup ds=> .ok ds h1
 | _=> .bad:=by unfold zck;rw [zba] <;> congr 1
@[simp] theorem zsn:noP e h = .ok none h:=rfl
@[simp] theorem zrd (a:ME D):zcE a e h=zK (a e h) fun x h1=>match x with
 | .int i=> .ok (some i) h1
 | _=> .bad:=by unfold zcE;rw [zba];congr 1;funext x h1;cases x <;> rfl
@[simp] theorem zso (a:ME D) (lo hi:ME (Option Int)):zcI a lo hi e h=zK (a e h) fun x h1=>zK (lo e h1) fun l h2=>zK (hi e h2) fun u h3=>match x with
 | .obj n=>zK (zcr n e h3) fun xs h4=> .ok (cut xs l u) h4
 | _=> .bad:=by unfold zcI;simp only [zba];congr 1;funext x h1;congr 1;funext l h2;congr 1;funext u h3;cases x <;> simp
@[simp] theorem zrW (l:ME (List D)):zfc l e h=zK (l e h) fun xs h1=>match zci xs with
 | some bs=> .ok (.bl (bs.all id)) h1
 | none=> .bad:=by unfold zfc;rw [zba];congr 1;funext x h1;cases hh:zci x <;> simp [hh]
@[simp] theorem ziQ (l:ME (List D)):zcm l e h=zK (l e h) fun xs h1=> .ok (.int xs.length) h1:=by unfold zcm;rw [zba];rfl
@[simp] theorem zsu (a:ME D):zc4 a e h=zK (a e h) fun x h1=>match x with
 | .int i=> .ok (.int (if i < 0 then -i else i)) h1
 | _=> .bad:=by unfold zc4;rw [zba];congr 1;funext x h1;cases x <;> rfl
@[simp] theorem zq3 (a:ME D) (b:ME (List D)):zb8 a b e h=zK (a e h) fun x h1=>zK (b e h1) fun ys h2=>match x with
 | .obj m=>zK (zcr m e h2) fun xs h3=>if xs.length+ys.length<=1000000 then .ok (xs++ys) h3 else .bad
 | _=> .bad:=by
 unfold zb8;simp only [zba];congr 1;funext x h1;congr 1;funext y h2
 cases x <;> first | rfl | (dsimp only;rw [zba];congr 1;funext xs h3;split <;> rfl)
@[simp] theorem zrc:zhh e h = .ok (.obj h.length) (h++[.dic []]):=rfl
@[simp] theorem zrC (t:Ty) (a:ME D):zdi t a e h=zK (a e h) fun x h1=>match zT h1 t x with
 | some b=> .ok (.bl b) h1
 | none=> .bad:=by unfold zdi;rw [zba] <;> congr 1
@[simp] theorem zqT (s:Nat->Nat->Bool) (a:ME D):ze3 s n a e h=zK (a e h) fun x h1=>match x with
 | .obj n'=>match h1[n']? with
   | some (.ins c' _)=> .ok (.bl (s c' n)) h1
   | _=> .bad
 | _=> .bad:=by unfold ze3;rw [zba] <;> congr 1
@[simp] theorem zsx (a:ME D):fld k a e h=zK (a e h) fun x h1=>match x with
 | .obj n=>match h1[n]? with
   | some (.ins _ fs)=>(match fs.lookup k with
     | some d=> .ok d h1
     | none=> .bad)
   | _=> .bad
 | _=> .bad:=by unfold fld;rw [zba] <;> congr 1
noncomputable def zdw (x:D) (h:MH) (r:R D):R D:=match x with
 | .obj n=>(match h[n]? with
   | some (.lst _)=>r
   | _=> .bad)
 | _=> .bad
@[simp] theorem zrx (a b:ME D):zcc a b e h=zK (a e h) fun x h1=>zdw x h1 (zK (b e h1) fun y h2=>match x with
 | .obj n=>match h2[n]? with
   | some (.lst xs)=>if xs.length < 1000000 then .ok .non (h2.set n (.lst (xs++[y]))) else .bad
   | _=> .bad
 | _=> .bad):=by
 unfold zcc;simp only [zba];congr 1;funext x h1
 unfold isL zdw
 cases x <;> first | rfl | skip
 dsimp only
 split <;> simp_all <;> congr 1
@[simp] theorem zrp (f:MF) (a:ME (List D)):zj f a e h=zK (a e h) fun ds h1=>app f ds h1:=by unfold zj;rw [zba]
@[simp] theorem zqR (tbl:List (Nat×MF)) (o:ME D) (a:ME (List D)):zcv tbl o a e h=zK (o e h) fun x h1=>match x with
 | .obj n=>match h1[n]? with
   | some (.ins c _)=>(match tbl.lookup c with
     | some f=>zK (a e h1) fun ds h2=>app f (x :: ds) h2
     | none=> .bad)
   | _=> .bad
 | _=> .bad:=by
 unfold zcv;rw [zba] <;> congr 1
@[simp] theorem zrn:zI e h = .nx e h:=rfl
@[simp] theorem zsa (t:ME Bool) (a b:MS):ifS t a b e h=zce (t e h) fun c h1=>if c=true then a e h1 else b e h1:=by unfold ifS;rw [zdY];congr 1;funext c h1;cases c <;> rfl
@[simp] theorem zrU (a:ME D):zbi a e h=zce (a e h) fun _ h1=> .nx e h1:=by unfold zbi;rw [zdY];rfl
@[simp] theorem zr1 (a:ME D):zL a e h=zce (a e h) fun v h1=> .rt v h1:=by unfold zL;rw [zdY]
@[simp] theorem zsy (t:Tg) (a:ME D):zr t a e h=zce (a e h) fun v h1=>zfg t v e h1:=by unfold zr;rw [zdY]
@[simp] theorem zra:zfg (.nm n) v e h = .nx (e.set n (some v)) h:=rfl
@[simp] theorem zqD (l:List Nat) (ds:List D):zfg (.tp l) (.tup ds) e h=match zcM l ds e with
 | some e1=> .nx e1 h
 | none=> .bad:=rfl
@[simp] theorem zqm (l:List Nat) (a:ME (List D)):zfN l a e h=zce (a e h) fun vs h1=>match zcM l vs e with
 | some e1=> .nx e1 h1
 | none=> .bad:=by unfold zfN;rw [zdY] <;> congr 1
@[simp] theorem zqV:zcM [] [] e=some e:=rfl
@[simp] theorem zru (l:List Nat) (ds:List D):zcM (n :: l) (x :: ds) e=zcM l ds (e.set n (some x)):=rfl
@[simp] theorem zqH:zcj (.nm n) x e=some (e.set n (some x)):=rfl
@[simp] theorem zrR (l:List Nat) (ds:List D):zcj (.tp l) (.tup ds) e=zcM l ds e:=rfl
@[simp] theorem zsh (att:Nat->Nat->Bool) (o a:ME D):zey att k o a e h=zce (a e h) fun y h1=>zce (o e h1) fun x h2=>match x with
 | .obj n=>(match h2[n]? with
   | some (.ins c fs)=>if (att c k && decide (fs.length < 100))=true then .nx e (h2.set n (.ins c (zdE k y fs))) else .bad
   | _=> .bad)
 | _=> .bad:=by unfold zey;rw [zdY] <;> congr 1
@[simp] theorem zr9 (t:Tg) (s:ME Src) (b:MS):zdx t s b e h=zce (s e h) fun p h1=>zbH t p.2 b p.1 e h1:=by unfold zdx;rw [zdY]
@[simp] theorem zqr (a:ME D):itL a e h=zK (a e h) fun x h1=>match x with
 | .obj n=>(match h1[n]? with
   | some (.lst xs)=> .ok (xs,[(n,.lst xs)]) h1
   | _=> .bad)
 | _=> .bad:=by unfold itL;rw [zba];congr 1;funext x h1;cases x <;> rfl
@[simp] theorem zr2 (a:ME D):itR a e h=zK (a e h) fun x h1=>match x with
 | .int i=>if -1000000<=i∧i<=1000000 then .ok ((List.range i.toNat).map fun (k:Nat)=>D.int k,[]) h1 else .bad
 | _=> .bad:=by unfold itR;rw [zba];congr 1;funext x h1;cases x <;> first | rfl | (dsimp only;split <;> rfl)
@[simp] theorem zqo (js:List (Option Nat)) (t:Tg) (s:ME Src) (c:ME Bool) (a:ME D):zd1 js t s c a e h=zK (s e h) fun p h1=>if p.1.length<=1000000 then zbx t p.2 c a p.1 [] (zcJ js e) h1 else .bad:=by unfold zd1;rw [zba]
@[simp] theorem zr8:zcZ e h = .ok true h:=rfl
@[simp] theorem zrZ (a:D) (l:List D):MI.atI (a :: l) 0=some a:=by simp [MI.atI,ixN]
@[simp] theorem zrY (a b:D) (l:List D):MI.atI (a :: b :: l) 1=some b:=by rw [MI.atI,show ixN (a :: b :: l).length 1=some 1 from by unfold ixN;rw [if_pos ω,if_pos (by simp only [List.length_cons];omega)];rfl];rfl
@[simp] theorem zrr (a b c:D) (l:List D):MI.atI (a :: b :: c :: l) 2=some c:=by rw [MI.atI,show ixN (a :: b :: c :: l).length 2=some 2 from by unfold ixN;rw [if_pos ω,if_pos (by simp only [List.length_cons];omega)];rfl];rfl
theorem zlE {n k:Nat} (h:k < n):ixN n (k:Int)=some k:=by
 unfold ixN
 rw [if_pos ω,if_pos ω];simp
theorem ziZ {α:Type}{xs:List α}{k:Nat} (h:k < xs.length):MI.atI xs (k:Int)=some xs[k]:=by
 unfold MI.atI
 rw [zlE h];simp [h]
theorem znd {α:Type} (xs:List α) (a:α):MI.atI (xs++[a]) (-1)=some a:=by
 unfold MI.atI ixN
 rw [if_neg ω,if_pos (by simp;omega)]
 have e:(-1+((xs++[a]).length:Int)).toNat=xs.length:=by simp;omega
 rw [e];simp
theorem zl {h:MH}{n:Nat}{o:O} (e:h[n]?=some o) (g:MH):(h++g)[n]?=some o:=by rw [List.getElem?_append_left (List.getElem?_eq_some_iff.mp e).1];exact e
@[simp] theorem zC (h g:MH) (k:Nat):(h++g)[h.length+k]?=g[k]?:=by rw [List.getElem?_append_right ω];congr 1;omega
theorem zd4 (h g:MH):zdC h (h++g)=true:=by
 unfold zdC
 rw [List.all_eq_true]
 intro i hi
 rw [List.mem_range]at hi
 rw [List.getElem?_append_left hi];simp
@[simp] theorem zqW (h:MH):gc h .bad = .bad:=rfl
theorem zn3 (h g:MH) (i:Int):gc h (.ok (.int i) (h++g)) = .ok (.int i) h:=by simp [gc,zd4,gcV]
theorem zfI (h g:MH) (b:Bool):gc h (.ok (.bl b) (h++g)) = .ok (.bl b) h:=by simp [gc,zd4,gcV]
theorem zg4 (h g:MH):gc h (.ok .non (h++g)) = .ok .non h:=by simp [gc,zd4,gcV]
@[simp] theorem zsA (h:MH) (i:Int):gc h (.ok (.int i) h) = .ok (.int i) h:=by have:=zn3 h [] i;simpa using this
@[simp] theorem zrE (h:MH) (b:Bool):gc h (.ok (.bl b) h) = .ok (.bl b) h:=by have:=zfI h [] b;simpa using this
@[simp] theorem zsk (h:MH):gc h (.ok .non h) = .ok .non h:=by have:=zg4 h [];simpa using this
theorem zh7 (n b:Nat) (h2:MH):∀ (ds:List D) (ms:List Nat),nrs ds=true->zbT n b h2 ds ms=some (ds,ms)
 | [],ms,_=>rfl
 | d :: ds,ms,hn=>by
   unfold nrs at hn
   rw [Bool.and_eq_true]at hn
   have ih:=zh7 n b h2 ds ms hn.2
   cases d with
   | obj m=>simp [D.nr]at hn
   | _=>simp only [zbT,hn.1,if_pos,ih];rfl
theorem zqf (h g:MH) {ds:List D} (hn:nrs ds=true):gc h (.ok (.tup ds) (h++g)) = .ok (.tup ds) h:=by
 simp only [gc,zd4,if_pos,gcV,zh7 _ _ _ _ _ hn]
 simp
theorem zfG (h:MH) {ds:List D} (hn:nrs ds=true):gc h (.ok (.tup ds) h) = .ok (.tup ds) h:=by have:=zqf h [] hn;simpa using this
theorem zjr (h g:MH) {k:Nat}{o:O} (e:g[k]?=some o) (f:o.flat=true):gc h (.ok (.obj (h.length+k)) (h++g)) = .ok (.obj h.length) (h++[o]):=by
 have hlt:¬ h.length+k < h.length:=by omega
 simp only [gc,zd4,if_pos,gcV,if_neg hlt,zC,e]
 cases o with
 | ins c fs=>cases f
 | _=>simp [f]
theorem zoK (h g:MH) {o:O} (f:o.flat=true):gc h (.ok (.obj h.length) (h++o :: g)) = .ok (.obj h.length) (h++[o]):=zjr h (o :: g) (k:=0) rfl f
end
end MI
end
section
namespace MI
noncomputable def zrX (l:ME (List D)):ME (List D):=zn l fun xs=>match zeu xs with
 | some ns=>if ns.length < 65 then zb ((ze0 (zbP [] ns)).map .int) else zB
 | none=>zB
noncomputable def zqL (a:ME D):ME (List D):=zn a fun x=>fun _ h=>match x with
 | .obj n=>match h[n]? with
   | some (.dic kvs)=>if kvs.length < 65 then .ok ((ze0 (kvs.map (·.1))).map .int) h else .bad
   | _=> .bad
 | _=> .bad
end MI
end
section
namespace MI
noncomputable def zfQ:D->D->ME D
 | .int i,.int j=>if 0<=j∧j<=1000000∧i.natAbs < 18446744073709551616 then zb (.int (i ^ j.toNat)) else zB
 | _,_=>zB
noncomputable def rz (a b c:Int):Nat:=if a < b then ((b - a - 1) / c+1).toNat else 0
noncomputable def zfC (a b c:ME D):ME Src:=zn a fun x=>zn b fun y=>zn c fun z=>match x,y,z with
 | .int i,.int j,.int k=>if (-1000000<=i∧i<=1000000)∧(-1000000<=j∧j<=1000000)∧0 < k∧k<=1000000 then zb ((List.range (rz i j k)).map fun (m:Nat)=>D.int (i+m * k),[]) else zB
 | _,_,_=>zB
noncomputable def zcD (c:Nat):MS:=fun _ h=> .ex c h
noncomputable def zeY (nx:Nat) (kinds:Nat->List Bool) (m:MS):MS:=fun e h=>match m e h with
 | .ex c h1=>if c < nx then .rt (.obj h1.length) (h1++[.lst ((kinds c).map .bl)]) else .bad
 | r=>r
end MI
end
section
open PySem MI
namespace My
noncomputable def zfV (c:Nat):List Bool:=[decide (c=0),decide (c=1),decide (c=2),decide (c=3),decide (c=4),true]
noncomputable def zdK:Nat->Nat->Bool:=fun a b=>[(0,0)].contains (a,b)
noncomputable def zez:Nat->Nat->Bool:=fun a b=>[(0,0),(0,1),(0,2)].contains (a,b)
noncomputable def zcP:MF:=z6 1 1
   (zL (zcL (zdi .int (var 0)) (un zgQ (zdi .bool (var 0)))))
noncomputable def zbX:MF:=z6 3 3
   (zL (zcL (zj zcP (za (var 0) zf)) (zff leV leV (var 1) (var 0) (var 2))))
noncomputable def zb4:MF:=z6 2 2
   (zL (zj zbX (za (var 1) (za (zb (.int (0))) (za (bin zU (var 0) (zb (.int (1)))) zf)))))
noncomputable def zdl:MF:=z6 2 2
   (zm (ifS (orT (zbd (tru (zdi .tuple (var 1)))) (tst (bin neV (zcm (zck (var 1))) (zb (.int (3)))))) (zL (zb (.bl false))) zI)
   (zm (ifS (orT (zbd (tru (zj zb4 (za (var 0) (za (bin zk (var 1) (zb (.int (0)))) zf))))) (zbd (tru (zj zb4 (za (var 0) (za (bin zk (var 1) (zb (.int (1)))) zf)))))) (zL (zb (.bl false))) zI)
   (zL (zcL (bin neV (bin zk (var 1) (zb (.int (0)))) (bin zk (var 1) (zb (.int (1))))) (zj zbX (za (bin zk (var 1) (zb (.int (2)))) (za (un zbK (zb (.int (1000000)))) (za (zb (.int (1000000))) zf))))))))
noncomputable def zcw:MF:=z6 2 2
   (zm (ifS (zbd (tru (zj zdl (za (var 0) (za (var 1) zf))))) (zcD 0) zI)
   (zL (zy (za (bin zk (var 1) (zb (.int (0)))) (za (bin zk (var 1) (zb (.int (1)))) (za (bin zk (var 1) (zb (.int (2)))) zf))))))
noncomputable def zbr:MF:=z6 4 4
   (zm (ifS (zbd (tru (zj zbX (za (var 1) (za (zb (.int (1))) (za (zb (.int (1000000))) zf)))))) (zcD 0) zI)
   (zm (ifS (zbd (tru (zj zbX (za (var 3) (za (zb (.int (0))) (za (zb (.int (1000000))) zf)))))) (zcD 0) zI)
   (zm (ifS (zbd (tru (zdi .list (var 2)))) (zcD 0) zI)
   (zm (zey zez 0 (var 0) (var 1))
   (zm (zey zez 1 (var 0) (var 3))
   (zey zez 2 (var 0) (zo (zd1 [none,some 1] (.nm 0) (itL (var 2)) zcZ (zj zcw (za (var 1) (za (var 0) zf)))))))))))
noncomputable def zfk:MF:=z6 1 1
   (zL (zo (zfU (fld 2 (var 0)))))
noncomputable def zd5:MF:=z6 1 1
   (zL (zy (za (bin zk (var 0) (zb (.int (1)))) (za (bin zk (var 0) (zb (.int (0)))) (za (un zbK (bin zk (var 0) (zb (.int (2))))) zf)))))
noncomputable def zdF:MF:=z6 2 2
   (zm (ifS (orT (zbd (tru (ze3 zdK 0 (var 0)))) (zbd (tru (ze3 zdK 0 (var 1))))) (zcD 3) zI)
   (zm (ifS (orT (tst (bin neV (fld 0 (var 0)) (fld 0 (var 1)))) (tst (bin neV (fld 1 (var 0)) (fld 1 (var 1))))) (zcD 3) zI)
   zeI))
noncomputable def zcQ:MF:=z6 2 2
   (zL (zj zbX (za (var 1) (za (zb (.int (0))) (za (bin zU (zcm (zck (var 0))) (zb (.int (1)))) zf)))))
noncomputable def zc6:MF:=z6 2 2
   (zm (ifS (orT (zbd (tru (zdi .tuple (var 1)))) (tst (bin neV (zcm (zck (var 1))) (zb (.int (2)))))) (zL (zb (.bl false))) zI)
   (zL (zcL (zj zcQ (za (var 0) (za (bin zk (var 1) (zb (.int (0)))) zf))) (zcL (zj zcP (za (bin zk (var 1) (zb (.int (1)))) zf)) (bin inV (bin zk (var 1) (zb (.int (1)))) (zy (za (zb (.int (1))) (za (zb (.int (-1))) zf))))))))
noncomputable def zdG:MF:=z6 2 3
   (zm (zr (.nm 2) (bin zk (var 0) (bin zk (var 1) (zb (.int (0))))))
   (zL (ifE (tst (bin eqV (bin zk (var 1) (zb (.int (1)))) (zb (.int (1))))) (var 2) (zj zd5 (za (var 2) zf)))))
noncomputable def zdB:List (Nat×MF):=[(0,zfk)]
noncomputable def zcR:MF:=z6 3 7
   (zm (ifS (orT (zbd (tru (zj zb4 (za (fld 0 (var 0)) (za (var 1) zf))))) (zbd (tru (zdi .list (var 2))))) (zL (zb .non)) zI)
   (zm (zr (.nm 3) (zcv zdB (var 0) zf))
   (zm (zr (.nm 4) (zo (zp zf)))
   (zm (zr (.nm 5) (var 1))
   (zm (zdx (.nm 6) (itL (var 2))
   (zm (ifS (zbd (tru (zj zc6 (za (var 3) (za (var 6) zf))))) (zL (zb .non)) zI)
   (zm (zbi (zcc (var 4) (zj zdG (za (var 3) (za (var 6) zf)))))
   (zm (ifS (tst (bin neV (bin zk (bin zk (var 4) (un zbK (zb (.int (1))))) (zb (.int (0)))) (var 5))) (zL (zb .non)) zI)
   (zr (.nm 5) (bin zk (bin zk (var 4) (un zbK (zb (.int (1))))) (zb (.int (1)))))))))
   (zL (var 4)))))))
noncomputable def zco:MF:=z6 2 2
   (ifS (zbd (tru (zj zb4 (za (fld 0 (var 0)) (za (var 1) zf))))) (zcD 1) zI)
noncomputable def zcS:MF:=z6 3 4
   (zm (zbi (zj zco (za (var 0) (za (var 1) zf))))
   (zm (zbi (zj zco (za (var 0) (za (var 2) zf))))
   zeI))
noncomputable def zdH:MF:=z6 2 5
   (zm (zr (.nm 2) (zcv zdB (var 0) zf))
   (zm (ifS (zbd (tru (zj zcQ (za (var 2) (za (var 1) zf))))) (zcD 2) zI)
   zeI))
noncomputable def zcx:MF:=z6 3 5
   (zm (zbi (zj zco (za (var 0) (za (var 1) zf))))
   (zm (zr (.nm 3) (zj zcR (za (var 0) (za (var 1) (za (var 2) zf)))))
   (zm (ifS (tst (bin isN (var 3) (zb .non))) (zcD 2) zI)
   zeI)))
noncomputable def zbI:MF:=z6 2 2
   (zm (ifS (tst (bin ltV (var 1) (zcm (zck (var 0))))) (zL (bin zk (var 0) (var 1))) zI)
   (zL (zb (.int (0)))))
noncomputable def zF:MF:=z6 3 4
   (zm (zr (.nm 3) (zy (za (zb (.int (1000003))) (za (zb (.int (1000033))) (za (zb (.int (1000037))) (za (zb (.int (1000039))) (za (zb (.int (1000081))) (za (zb (.int (1000099))) (za (zb (.int (1000117))) (za (zb (.int (1000121))) (za (zb (.int (1000133))) (za (zb (.int (1000151))) (za (zb (.int (1000159))) (za (zb (.int (1000171))) (za (zb (.int (1000183))) (za (zb (.int (1000187))) (za (zb (.int (1000193))) (za (zb (.int (1000199))) zf))))))))))))))))))
   (zL (bin zY (bin zY (bin zA (bin zbw (var 0) (zb (.int (48271)))) (bin zbw (var 1) (zb (.int (69621))))) (bin zk (var 3) (bin zY (var 1) (zb (.int (16)))))) (var 2))))
noncomputable def zd6:MF:=z6 1 15
   (zm (zr (.nm 1) (bin zbR (bin zbw (zcm (zck (var 0))) (bin zk (zy (za (zb (.int (1))) (za (zb (.int (2))) (za (zb (.int (3))) zf)))) (zj zF (za (zj zbI (za (var 0) (za (zb (.int (1))) zf))) (za (zb (.int (2))) (za (zb (.int (3))) zf)))))) (zb (.int (3)))))
   (zm (zr (.nm 2) (bin zA (zb (.int (2))) (zj zF (za (zj zbI (za (var 0) (za (zb (.int (0))) zf))) (za (zb (.int (1))) (za (bin zA (zb (.int (2))) (var 1)) zf))))))
   (zm (zr (.nm 3) (bin zk (zy (za (zb (.int (0))) (za (zb (.int (0))) (za (zb (.int (2))) (za (zb (.int (3))) (za (zb (.int (12))) (za (zb (.int (1))) (za (zb (.int (1000000))) zf)))))))) (zj zF (za (zj zbI (za (var 0) (za (zb (.int (2))) zf))) (za (zb (.int (3))) (za (zb (.int (7))) zf))))))
   (zm (zr (.nm 4) (bin zk (zy (za (zb (.int (2))) (za (zb (.int (3))) (za (zb (.int (40))) (za (zb (.int (400000))) zf))))) (zj zF (za (zj zbI (za (var 0) (za (zb (.int (0))) zf))) (za (zb (.int (4))) (za (zb (.int (4))) zf))))))
   (zm (zr (.nm 5) (bin zk (zy (za (zb (.int (0))) (za (zb (.int (0))) (za (zb (.int (5))) (za (zb (.int (30))) zf))))) (zj zF (za (zj zbI (za (var 0) (za (zb (.int (1))) zf))) (za (zb (.int (5))) (za (zb (.int (4))) zf))))))
   (zm (zr (.nm 6) (zcL (bin gtV (var 2) (zb (.int (3)))) (bin eqV (zj zF (za (zj zbI (za (var 0) (za (zb (.int (2))) zf))) (za (zb (.int (8))) (za (zb (.int (4))) zf)))) (zb (.int (0))))))
   (zm (zr (.nm 7) (zo (zp zf)))
   (zm (zdx (.nm 8) (itR (zcm (zck (var 0))))
   (zm (zr (.nm 9) (zj zF (za (bin zk (var 0) (var 8)) (za (bin zA (bin zY (var 8) (zb (.int (5)))) (zb (.int (1)))) (za (var 2) zf)))))
   (zm (zr (.nm 10) (bin zY (bin zA (bin zA (var 9) (zb (.int (1)))) (zj zF (za (bin zk (var 0) (var 8)) (za (bin zA (bin zY (var 8) (zb (.int (7)))) (zb (.int (2)))) (za (bin zU (var 2) (zb (.int (1)))) zf))))) (var 2)))
   (zm (ifS (tru (var 6)) (zm (zr (.nm 11) (ifE (tst (bin ltV (var 9) (bin zbR (var 2) (zb (.int (2)))))) (zb (.int (0))) (bin zbR (var 2) (zb (.int (2))))))
   (zm (zr (.nm 12) (ifE (tst (bin eqV (var 11) (zb (.int (0))))) (bin zbR (var 2) (zb (.int (2)))) (bin zU (var 2) (var 11))))
   (zm (zr (.nm 13) (bin zA (zb (.int (1))) (zj zF (za (bin zk (var 0) (var 8)) (za (bin zA (bin zY (var 8) (zb (.int (7)))) (zb (.int (2)))) (za (bin zU (var 12) (zb (.int (1)))) zf))))))
   (zr (.nm 10) (bin zA (var 11) (bin zY (bin zA (bin zU (var 9) (var 11)) (var 13)) (var 12))))))) zI)
   (zm (zr (.nm 14) (bin zU (zj zF (za (bin zbw (var 10) (zb (.int (7919)))) (za (zb (.int (6))) (za (var 4) zf)))) (zj zF (za (bin zbw (var 9) (zb (.int (7919)))) (za (zb (.int (6))) (za (var 4) zf))))))
   (zm (ifS (zbn (tst (bin gtV (var 5) (zb (.int (0))))) (tst (bin eqV (zj zF (za (bin zk (var 0) (var 8)) (za (bin zA (bin zY (var 8) (zb (.int (3)))) (zb (.int (9)))) (za (var 5) zf)))) (zb (.int (0)))))) (zr (.nm 14) (bin zA (var 14) (zb (.int (1))))) zI)
   (zm (ifS (zbn (tst (bin gtV (var 3) (zb (.int (0))))) (zbn (tst (bin eqV (zj zF (za (bin zk (var 0) (var 8)) (za (zb (.int (12))) (za (zb (.int (3))) zf)))) (zb (.int (0))))) (tst (bin ltV (bin zA (zc4 (var 14)) (var 3)) (zb (.int (1000000))))))) (zr (.nm 14) (bin zU (var 14) (var 3))) zI)
   (zbi (zcc (var 7) (zy (za (var 9) (za (var 10) (za (var 14) zf)))))))))))))
   (zL (zy (za (var 2) (za (var 7) (za (var 3) zf)))))))))))))
noncomputable def zcy:MF:=z6 2 2
   (zm (ifS (tst (bin eqV (var 0) (zb (.int (0))))) (zL (zj (mkF 0 zbr) (za (var 1) (za (zo (zp zf)) (za (zb (.int (0))) zf))))) zI)
   (zL (ifE (tst (bin eqV (var 0) (zb (.int (1))))) (zj (mkF 0 zbr) (za (zb (.int (3))) (za (var 1) (za (zb (.int (0))) zf)))) (zj (mkF 0 zbr) (za (zb (.int (3))) (za (zo (zp zf)) (za (var 1) zf)))))))
noncomputable def zcz:MF:=z6 3 3
   (zm (ifS (tst (bin ltV (var 1) (zb (.int (2))))) (zL (ifE (tst (bin eqV (var 1) (zb (.int (0))))) (zj zcS (za (var 0) (za (var 2) (za (zb (.int (0))) zf)))) (zj zcS (za (var 0) (za (zb (.int (0))) (za (var 2) zf)))))) zI)
   (zL (zj zcx (za (var 0) (za (var 2) (za (zb .non) zf))))))
noncomputable def zbz:MF:=z6 3 4
   (zm (zeY 5 zfV (ifS (tst (bin ltV (var 0) (zb (.int (3))))) (zbi (zj zcy (za (var 0) (za (var 2) zf)))) (ifS (tst (bin ltV (var 0) (zb (.int (6))))) (zbi (zj zcz (za (var 1) (za (bin zU (var 0) (zb (.int (3)))) (za (var 2) zf))))) (ifS (tst (bin ltV (var 0) (zb (.int (8))))) (zbi (ifE (tst (bin eqV (var 0) (zb (.int (6))))) (zj zdH (za (var 1) (za (var 2) zf))) (zj zcx (za (var 1) (za (zb (.int (0))) (za (var 2) zf)))))) (zbi (zj zdF (za (var 1) (za (var 2) zf))))))))
   (zL (zo (zp zf))))
noncomputable def zbA:MF:=z6 4 5
   (zm (zdx (.nm 4) (itL (var 0))
   (ifS (zbd (tru (zfc (zd1 [none,some 3,some 4,some 1] (.nm 0) (itL (var 2)) zcZ (bin eqV (zj zbz (za (var 2) (za (var 3) (za (var 0) zf)))) (var 1)))))) (zL (zb (.bl false))) zI))
   (zL (zb (.bl true))))
noncomputable def zd7:MF:=z6 2 4
   (zm (zr (.nm 2) (zo (zp (za (zb .non) (za (zy zf) (za (zb (.str (Str.ofString ""))) (za zhh (za (zb (.int (5))) (za (zo (zp (za (zb .non) zf))) (za (zo (zp (za (zb (.int (5))) zf))) (za (zo (zp (za (zy (za (zb (.int (0))) (za (zb (.int (1))) zf))) zf))) (za (zo (zp (za (zy (za (zb (.int (0))) (za (zb (.int (1))) (za (zb (.int (2))) (za (zb (.int (3))) zf))))) zf))) (za (zo (zp (za (zo (zp (za (zb (.int (0))) (za (zb (.int (1))) (za (zb (.int (2))) zf))))) zf))) (za (zo (zp (za (zy (za (zb (.int (0))) (za (zb (.int (0))) (za (zb (.int (1))) zf)))) zf))) (za (zo (zp (za (zy (za (zb (.int (0))) (za (zb (.int (3))) (za (zb (.int (1))) zf)))) zf))) zf)))))))))))))))
   (zm (zr (.nm 2) (zo (zb8 (var 2) (zp (za (zo (zp (za (zy (za (un zbK (zb (.int (1)))) (za (zb (.int (0))) (za (zb (.int (1))) zf)))) zf))) (za (zo (zp (za (zy (za (bin zA (zb (.int (3))) (var 1)) (za (zb (.int (0))) (za (zb (.int (1))) zf)))) zf))) (za (zo (zp (za (zy (za (zb (.int (0))) (za (zb (.int (1))) (za (zb .non) zf)))) zf))) (za (zo (zp (za (zy (za (zb (.int (0))) (za (zb (.int (1))) (za (zb (.bl true)) zf)))) zf))) (za (zo (zp (za (zy (za (zb (.bl true)) (za (zb (.int (0))) (za (zb (.int (1))) zf)))) zf))) (za (zo (zp (za (zy (za (zb (.str (Str.ofString "0"))) (za (zb (.int (1))) (za (zb (.int (1))) zf)))) zf))) zf))))))))))
   (zm (zr (.nm 2) (zo (zb8 (var 2) (zp (za (zo (zp (za (zy (za (zb (.int (0))) (za (zb (.int (1))) (za (zb (.int (1000001))) zf)))) zf))) (za (zo (zp (za (zy (za (zb (.int (0))) (za (zb (.int (1))) (za (bin zU (un zbK (zb (.int (1000001)))) (var 1)) zf)))) zf))) (za (zo (zp (za (zy (za (zb (.int (0))) (za (zb (.int (1))) (za (zb (.int (1))) zf)))) (za (zy (za (zb (.int (1))) (za (zb (.int (1))) (za (zb (.int (1))) zf)))) zf)))) zf)))))))
   (zm (zr (.nm 3) (zo (zp (za (zb .non) (za (zb (.str (Str.ofString "1"))) (za (zb (.bl true)) (za (zo (zp (za (zb (.int (1))) zf))) (za (un zbK (zb (.int (1)))) (za (bin zU (un zbK (zb (.int (1)))) (var 1)) (za (zb (.int (1000001))) (za (bin zA (zb (.int (1000001))) (var 1)) zf)))))))))))
   (zm (ifS (orT (zbd (tru (zj zbA (za (zo (zp (za (zb (.int (1))) zf))) (za (zb .non) (za (var 2) (za (var 0) zf))))))) (zbd (tru (zj zbA (za (zo (zp (za (zb (.int (0))) (za (zb (.int (2))) zf)))) (za (zb .non) (za (var 3) (za (var 0) zf)))))))) (zL (zb (.bl false))) zI)
   (zL (zj zbA (za (zo (zp (za (zb (.int (0))) zf))) (za (zb .non) (za (zo (zp (za (zb (.int (0))) zf))) (za (var 0) zf)))))))))))
noncomputable def zd8:MF:=z6 5 7
   (zm (zr (.nm 5) (zo (zp (za (zb .non) (za (zb (.str (Str.ofString "0"))) (za (zb (.bl true)) (za (zo (zp (za (zb (.int (0))) zf))) (za (un zbK (zb (.int (1)))) (za (bin zU (un zbK (zb (.int (1)))) (var 4)) (za (var 1) (za (bin zA (var 1) (var 4)) zf)))))))))))
   (zm (ifS (zbd (tru (zj zbA (za (zo (zp (za (zb (.int (3))) (za (zb (.int (4))) (za (zb (.int (5))) zf))))) (za (var 0) (za (var 5) (za (bin zk (var 3) (zb (.int (1)))) zf))))))) (zL (zb (.bl false))) zI)
   (zm (zr (.nm 5) (zo (zp (za (zb .non) (za (zb (.str (Str.ofString "0"))) (za (zb (.bl true)) (za (zo (zp (za (zb (.int (0))) zf))) (za (un zbK (zb (.int (1)))) (za (bin zU (un zbK (zb (.int (1)))) (var 4)) (za (var 2) (za (bin zA (var 2) (var 4)) zf)))))))))))
   (zm (ifS (zbd (tru (zj zbA (za (zo (zp (za (zb (.int (6))) zf))) (za (var 0) (za (var 5) (za (bin zk (var 3) (zb (.int (2)))) zf))))))) (zL (zb (.bl false))) zI)
   (zm (zr (.nm 6) (zo (zp (za (zb .non) (za (zy zf) (za (zb (.str (Str.ofString ""))) (za (zb (.int (5))) (za (zo (zp (za (zb .non) zf))) (za (zo (zp (za (zb (.int (5))) zf))) (za (zo (zp (za (zy zf) zf))) (za (zo (zp (za (zy (za (zb (.int (0))) zf)) zf))) (za (zo (zp (za (zy (za (zb (.int (0))) (za (zb (.int (1))) (za (zb (.int (1))) zf)))) zf))) (za (zo (zp (za (zy (za (var 2) (za (zb (.int (1))) zf))) zf))) (za (zo (zp (za (zy (za (un zbK (zb (.int (1)))) (za (zb (.int (1))) zf))) zf))) (za (zo (zp (za (zy (za (zb (.int (0))) (za (zb (.int (0))) zf))) zf))) (za (zo (zp (za (zy (za (zb (.int (0))) (za (zb (.bl true)) zf))) zf))) zf))))))))))))))))
   (zm (zr (.nm 6) (zo (zb8 (var 6) (zp (za (zo (zp (za (zy (za (zb (.int (0))) (za (zb (.int (2))) zf))) zf))) (za (zo (zp (za (zy (za (zb (.str (Str.ofString "0"))) (za (zb (.int (1))) zf))) zf))) (za (zo (zp (za (zy (za (zb (.bl true)) (za (zb (.int (1))) zf))) zf))) (za (zo (zp (za (zo (zp (za (zb (.int (0))) (za (zb (.int (1))) zf)))) zf))) (za (zo (zp (za (zy (za (bin zA (var 2) (var 4)) (za (un zbK (zb (.int (1)))) zf))) zf))) zf)))))))))
   (zL (zj zbA (za (zo (zp (za (zb (.int (7))) zf))) (za (var 0) (za (var 6) (za (bin zk (var 3) (zb (.int (2)))) zf))))))))))))
noncomputable def zcT:MF:=z6 3 4
   (zm (zeY 5 zfV (zbi (zj (mkF 0 zbr) (za (var 0) (za (var 1) (za (var 2) zf))))))
   (zL (zo (zp zf))))
noncomputable def zfl:MF:=z6 1 12
   (zm (zr (.nm 1) (bin zY (zj zbI (za (var 0) (za (zb (.int (0))) zf))) (bin zfQ (zb (.int (10))) (zb (.int (6))))))
   (zm (zr (.nm 2) (zo (zp zf)))
   (zm (zdx (.nm 3) (itR (zb (.int (4))))
   (zbi (zcc (var 2) (zo (zp (za (bin eqV (var 3) (zb (.int (0)))) (za (bin eqV (var 3) (zb (.int (1)))) (za (bin eqV (var 3) (zb (.int (2)))) (za (bin eqV (var 3) (zb (.int (3)))) (za (zb (.bl false)) (za (zb (.bl true)) zf)))))))))))
   (zm (zr (.tp [4,5,6]) (zj zd6 (za (var 0) zf)))
   (zm (zfN [7,8] (za (zj (mkF 0 zbr) (za (var 4) (za (var 5) (za (var 6) zf)))) (za (zcm (zck (var 5))) zf)))
   (zm (ifS (orT (zbd (tru (zj zd7 (za (bin zk (var 2) (zb (.int (0)))) (za (var 1) zf))))) (zbd (tru (zj zd8 (za (var 7) (za (var 4) (za (var 8) (za (var 2) (za (var 1) zf))))))))) (zL (zb (.bl false))) zI)
   (zm (zdx (.nm 9) (zfC (zb (.int (0))) (var 8) (bin zA (zb (.int (1))) (bin zbR (var 8) (zb (.int (6))))))
   (zm (zr (.nm 10) (bin zk (zy (za (zb .non) (za (zy (za (zb (.int (0))) (za (zb (.int (0))) (za (zb (.int (1))) zf)))) (za (zy (za (zb (.int (0))) (za (var 4) (za (zb (.int (1))) zf)))) (za (zy (za (zb (.int (0))) (za (zb (.int (1))) (za (zb (.str (Str.ofString "1"))) zf)))) (za (zo (zp (za (zb (.int (0))) (za (zb (.int (1))) (za (zb (.int (1))) zf))))) zf)))))) (bin zY (var 9) (zb (.int (5))))))
   (ifS (tst (bin neV (zj zcT (za (var 4) (za (zo (zb8 (zo (zb8 (zo (zcI (var 5) noP (zcE (var 9)))) (zp (za (var 10) zf)))) (zcI (var 5) (zcE (bin zA (var 9) (zb (.int (1))))) noP))) (za (var 6) zf)))) (bin zk (var 2) (zb (.int (0)))))) (zL (zb (.bl false))) zI)))
   (zm (zr (.nm 11) (zo (zp (za (zj (mkF 0 zbr) (za (bin zA (var 4) (zb (.int (1)))) (za (var 5) (za (var 6) zf)))) (za (zj (mkF 0 zbr) (za (var 4) (za (var 5) (za (ifE (tst (bin gtV (var 6) (zb (.int (8))))) (bin zU (var 6) (zb (.int (1)))) (bin zA (var 6) (zb (.int (1))))) zf)))) zf)))))
   (zm (ifS (zbd (tru (zj zbA (za (zo (zp (za (zb (.int (8))) zf))) (za (var 7) (za (var 11) (za (bin zk (var 2) (zb (.int (3)))) zf))))))) (zL (zb (.bl false))) zI)
   (zm (ifS (zbd (tru (zj zbA (za (zo (zp (za (zb (.int (7))) zf))) (za (zj (mkF 0 zbr) (za (zb (.int (2))) (za (zo (zp (za (zy (za (zb (.int (0))) (za (zb (.int (1))) (za (zb (.int (5))) zf)))) zf))) (za (zb (.int (0))) zf)))) (za (zo (zp (za (zo (zp (za (zy (za (zb (.int (0))) (za (zb (.bl true)) zf))) zf))) (za (zo (zp (za (zy (za (zb (.int (0))) (za (un zbK (zb (.int (1)))) zf))) zf))) zf)))) (za (bin zk (var 2) (zb (.int (2)))) zf))))))) (zL (zb (.bl false))) zI)
   (zL (zcL (bin eqV (zcv zdB (var 7) zf) (var 5)) (zcL (bin eqV (fld 1 (zj (mkF 0 zbr) (za (zb (.int (1))) (za (zo (zp zf)) (za (zb (.int (1000000))) zf))))) (zb (.int (1000000)))) (bin eqV (fld 0 (zj (mkF 0 zbr) (za (zb (.int (1000000))) (za (zo (zp zf)) (za (zb (.int (0))) zf))))) (zb (.int (1000000)))))))))))))))))
end My
end
section
open PySem MI
namespace Mx
open My
structure T3 where
 a:Int
 b:Int
 n:Int
noncomputable def tD (t:T3):D := .tup [.int t.a,.int t.b,.int t.n]
@[simp] theorem zqU (t:T3) (e:zx) (h:MH):zk (tD t) (.int 0) e h = .ok (.int t.a) h:=rfl
@[simp] theorem zsc (t:T3) (e:zx) (h:MH):zk (tD t) (.int 1) e h = .ok (.int t.b) h:=rfl
@[simp] theorem zro (t:T3) (e:zx) (h:MH):zk (tD t) (.int 2) e h = .ok (.int t.n) h:=rfl
theorem zct (n:Nat) (i:Int) (e:zx) (h:MH):zk (.obj n) (.int i) e h=match h[n]? with
   | some (.lst xs)=>(match MI.atI xs i with
     | some d=> .ok d h
     | none=> .bad)
   | some (.scr xs)=>(match MI.atI xs i with
     | some d=> .ok d h
     | none=> .bad)
   | some (.dic kvs)=>(match look i kvs with
     | some d=> .ok d h
     | none=> .bad)
   | _=> .bad:=rfl
theorem zlB (t:T3):(tD t).nr=true:=rfl
theorem zjG {α:Type} (f:α->D) (hf:∀ a,(f a).nr=true):∀ l:List α,nrs (l.map f)=true
 | []=>rfl
 | a :: l=>by simp [nrs,hf a,zjG f hf l]
theorem ze8 (l:List T3):nrs (l.map tD)=true:=zjG _ zlB l
structure T3.Ok (P:Int) (t:T3):Prop where
 a0:0<=t.a
 a1:t.a < P
 b0:0<=t.b
 b1:t.b < P
 ne:t.a≠t.b
 n0:-1000000<=t.n
 n1:t.n<=1000000
@[simp] theorem zfm (i:Int) (h:MH):app zcP [.int i] h = .ok (.bl true) h:=by
 unfold app zcP;simp [zT]
@[simp] theorem zfn (i a b:Int) (h:MH):app zbX [.int i,.int a,.int b] h = .ok (.bl (decide (a<=i) && decide (i<=b))) h:=by
 unfold app zbX;simp
 by_cases h1:a<=i <;> simp [h1]
@[simp] theorem zfo (p i:Int) (h:MH):app zb4 [.int p,.int i] h = .ok (.bl (decide (0<=i) && decide (i < p))) h:=by
 have:(i<=p - 1)↔i < p:=by omega
 unfold app zb4;simp [this]
@[simp] theorem zfp (p:Int) (t:T3) (ht:t.Ok p) (h:MH):app zdl [.int p,tD t] h = .ok (.bl true) h:=by
 unfold app zdl;simp [zT,tD,zk,ht.a0,ht.a1,ht.b0,ht.b1,ht.ne,ht.n0,ht.n1]
@[simp] theorem zd9 (p:Int) (t:T3) (ht:t.Ok p) (h:MH):app zcw [.int p,tD t] h = .ok (tD t) h:=by
 unfold app zcw;simp [ht]
 simp [tD,zk]
 exact zfG h ϱ
theorem zhK {α:Type}{t:Tg}{gs:List (Nat×O)}{cond:ME Bool}{elt:ME D}{h:MH} (f g:α->D) (c:α->Bool) (I:zx->Prop) (hg:guard gs h=true) :
   ∀ (xs:List α),(∀ x∈xs,∀ e,I e->∃ e1,zcj t (f x) e=some e1∧I e1∧cond e1 h = .ok (c x) h∧(c x=true->elt e1 h = .ok (g x) h)) ->
   ∀ acc e,I e->zbx t gs cond elt (xs.map f) acc e h = .ok (acc++(xs.filter c).map g) h
 | [],_,acc,e,_=>by simp [zbx,hg]
 | x :: xs,st,acc,e,he=>by
   obtain ⟨e1,h1,h2,h3,h4⟩:=st x ς e he
   have ih:=zhK f g c I hg xs (fun y hy=>st y (by simp [hy]))
   rw [List.map_cons,zbx,if_pos hg,h1]
   cases hc:c x with
   | true=>simp [h3,h4 hc,hc,ih _ _ h2]
   | false=>simp [h3,hc,ih _ _ h2]
theorem zmx {α:Type}{t:Tg}{gs:List (Nat×O)}{elt:ME D}{h:MH} (f g:α->D) (I:zx->Prop) (hg:guard gs h=true)
   (xs:List α) (st:∀ x∈xs,∀ e,I e->∃ e1,zcj t (f x) e=some e1∧I e1∧elt e1 h = .ok (g x) h) (e:zx) (he:I e) :
   zbx t gs zcZ elt (xs.map f) [] e h = .ok (xs.map g) h:=by
 have:=zhK f g (fun _=>true) I hg xs (fun x hx e he=>by obtain ⟨e1,a,b,c⟩:=st x hx e he;exact ⟨e1,a,b,rfl,fun _=>c⟩) [] e he
 rw [List.filter_eq_self.2 (fun _ _=>rfl),List.nil_append]at this
 exact this
theorem zc5 {h:MH}{n:Nat}{o:O} (e:h[n]?=some o):guard [(n,o)] h=true:=by simp [MI.guard,e]
theorem zgu {α:Type}{t:Tg}{gs:List (Nat×O)}{body:MS} (f:α->D) (I:List α->zx->MH->Prop) (Q:D->MH->Prop) :
   ∀ (rest done:List α),(∀ d x r e h,d++x :: r=done++rest->I d e h->guard gs h=true∧∃ e1,zcj t (f x) e=some e1 ∧
       ((∃ e2 h2,body e1 h = .nx e2 h2∧I (d++[x]) e2 h2)∨(∃ v h2,body e1 h = .rt v h2∧Q v h2))) ->
     (∀ e h,I (done++rest) e h->guard gs h=true)->∀ e h,I done e h ->
     (∃ e2 h2,zbH t gs body (rest.map f) e h = .nx e2 h2∧I (done++rest) e2 h2)∨(∃ v h2,zbH t gs body (rest.map f) e h = .rt v h2∧Q v h2)
 | [],done,_,hl,e,h,hi=>by
   refine .inl ⟨e,h,?_,by simpa using hi⟩
   simp only [List.map_nil,zbH]
   rw [if_pos (hl e h (by simpa using hi))]
 | x :: rest,done,st,hl,e,h,hi=>by
   obtain ⟨hg,e1,hb,hr⟩:=st done x rest e h rfl hi
   simp only [List.map_cons,zbH]
   rw [if_pos hg,hb]
   dsimp only
   rcases hr with ⟨e2,h2,hb2,hi2⟩ | ⟨v,h2,hb2,hq⟩
   . rw [hb2,zoJ]
     have ih:=zgu f I Q rest (done++[x]) (fun d y r e h eq=>st d y r e h (by simpa using eq)) (fun e h hi=>hl e h (by simpa using hi)) e2 h2 hi2
     simpa using ih
   . rw [hb2]
     exact .inr ⟨v,h2,rfl,hq⟩
theorem zhO {α:Type}{t:Tg}{gs:List (Nat×O)}{body:MS} (f:α->D) (I:List α->zx->MH->Prop) (xs:List α)
   (st:∀ d x r e h,d++x :: r=xs->I d e h->guard gs h=true∧∃ e1,zcj t (f x) e=some e1∧(∃ e2 h2,body e1 h = .nx e2 h2∧I (d++[x]) e2 h2))
   (hl:∀ e h,I xs e h->guard gs h=true) (e:zx) (h:MH) (hi:I [] e h):∃ e2 h2,zbH t gs body (xs.map f) e h = .nx e2 h2∧I xs e2 h2:=by
 have:=zgu (t:=t) (gs:=gs) (body:=body) f I (fun _ _=>False) xs [] (fun d x r e h eq hi=>by
   obtain ⟨a,e1,b,c⟩:=st d x r e h (by simpa using eq) hi
   exact ⟨a,e1,b,.inl c⟩) (fun e h hi=>hl e h (by simpa using hi)) e h hi
 rcases this with h1 | ⟨_,_,_,h2⟩
 . simpa using h1
 . exact h2.elim
@[simp] theorem lk1 (a b c:D):List.lookup 1 [(0,a),(1,b),(2,c)]=some b:=rfl
@[simp] theorem lk2 (a b c:D):List.lookup 2 [(0,a),(1,b),(2,c)]=some c:=rfl
theorem zpA (h g:MH) {xs:List D} (f:nrs xs=true):gc h (.ok (.obj h.length) (h ++ .lst xs :: g)) = .ok (.obj h.length) (h++[.lst xs]):=zoK (o := .lst xs) h g f
theorem zi7 (h g:MH) {k:Nat}{xs:List D} (e:g[k]?=some (.lst xs)) (f:nrs xs=true):gc h (.ok (.obj (h.length+k)) (h++g)) = .ok (.obj h.length) (h++[.lst xs]):=zjr (o := .lst xs) h g e f
structure z8 (h:MH) (w t:Nat) (P turn:Int) (ts:List T3):Prop where
 w:h[w]?=some (.ins 0 [(0,.int P),(1,.int turn),(2,.obj t)])
 t:h[t]?=some (.lst (ts.map tD))
theorem z8.app {h:MH}{w t:Nat}{P turn:Int}{ts:List T3} (W:z8 h w t P turn ts) (g:MH):z8 (h++g) w t P turn ts:=⟨zl W.w g,zl W.t g⟩
theorem z8.wA {h:MH}{w t:Nat}{P turn:Int}{ts:List T3} (W:z8 h w t P turn ts) (g:MH):(h++g)[w]?=some (.ins 0 [(0,.int P),(1,.int turn),(2,.obj t)]):=zl W.w g
theorem z8.tA {h:MH}{w t:Nat}{P turn:Int}{ts:List T3} (W:z8 h w t P turn ts) (g:MH):(h++g)[t]?=some (.lst (ts.map tD)):=zl W.t g
theorem ze5 {h:MH}{n:Nat}{P turn:Int}{ts:List T3} (hn:h[n]?=some (.lst (ts.map tD))) (hP:1<=P) (hP':P<=1000000) (ht:0<=turn) (ht':turn<=1000000) (hl:ts.length<=1000000) (hts:∀ t∈ts,t.Ok P) :
   app (mkF 0 zbr) [.int P,.obj n,.int turn] h = .ok (.obj h.length) (h++[.ins 0 [(0,.int P),(1,.int turn),(2,.obj (h.length+1))],.lst (ts.map tD)]):=by
 have c:∀ g e,(∃ d,e=[d,some (.int P)])->zbx (.nm 0) [(n,.lst (ts.map tD))] zcZ (zj zcw (za (var 1) (za (var 0) zf))) (ts.map tD) [] e (h++g) = .ok (ts.map tD) (h++g):=by
   intro g e he
   refine zmx tD tD (fun e=>∃ d,e=[d,some (.int P)]) (zc5 (zl hn g)) ts ?_ e he
   rintro t ht _ ⟨d,rfl⟩
   exact ⟨_,rfl,⟨_,rfl⟩,by simp [zd9 P t (hts t ht)]⟩
 unfold app mkF zbr
 simp [hP,hP',ht,ht',zT,zl hn,zez,zdE,zcJ,c,hl]
 simp only [gc]
 rw [if_pos (zd4 _ _)]
 have q:¬ h.length+1 < h.length:=by omega
 simp [gcV,nrs,zbT,O.flat,ze8,D.nr,q]
theorem zmj {h:MH}{P turn:Int}{ts:List T3}:z8 (h++[.ins 0 [(0,.int P),(1,.int turn),(2,.obj (h.length+1))],.lst (ts.map tD)]) h.length (h.length+1) P turn ts:=⟨ς,ς⟩
section
variable {h:MH}{w t:Nat}{P turn:Int}{ts:List T3}
theorem zc7 (W:z8 h w t P turn ts):app zfk [.obj w] h = .ok (.obj h.length) (h++[.lst (ts.map tD)]):=by
 unfold app zfk
 simp [W.w,W.t]
 exact zpA h [] (ze8 _)
@[simp] theorem zfq (t:T3) (h:MH):app zd5 [tD t] h = .ok (tD ⟨t.b,t.a,-t.n⟩) h:=by
 unfold app zd5
 simp [tD,zk]
 exact zfG h ϱ
noncomputable def tn (t:T3):T3:=⟨t.b,t.a,-t.n⟩
theorem zm1 {t:T3} (ht:t.Ok P):(tn t).Ok P:=⟨ht.b0,ht.b1,ht.a0,ht.a1,fun e=>ht.ne e.symm,by have:=ht.n1;simp [tn];omega,by have:=ht.n0;simp [tn];omega⟩
end
end Mx
end
section
open PySem MI
namespace Mx
open My
theorem zev {α:Type} [DecidableEq α]:∀ (l m:List α),l.Nodup->(∀ x∈l,x∈m)->l.length<=m.length
 | [],m,_,_=>by simp
 | x :: l,m,hn,hs=>by
   have h1:=List.nodup_cons.1 hn
   have:=zev l (m.erase x) h1.2 (fun y hy=>(List.mem_erase_of_ne (fun (e:y=x)=>h1.1 (e ▸ hy))).2 (hs y (by simp [hy])))
   rw [List.length_erase_of_mem (hs x ς)]at this
   have:0 < m.length:=List.length_pos_of_mem (hs x ς)
   simp;omega
theorem zfZ:∀ (l seen:List Int) (x:Int),x∈zbP seen l↔x∈l∧x∉seen
 | [],seen,x=>by simp [zbP]
 | y :: l,seen,x=>by
   unfold zbP
   by_cases hy:y∈seen
   . rw [if_pos hy,zfZ l seen x]
     constructor
     . rintro ⟨a,b⟩;exact ⟨by simp [a],b⟩
     . rintro ⟨a,b⟩
       rcases List.mem_cons.1 a with e | e
       . exact absurd (e ▸ hy) b
       . exact ⟨e,b⟩
   . rw [if_neg hy,List.mem_cons,zfZ l (y :: seen) x]
     constructor
     . rintro (e | ⟨a,b⟩)
       . exact ⟨by simp [e],e ▸ hy⟩
       . exact ⟨by simp [a],fun c=>b (by simp [c])⟩
     . rintro ⟨a,b⟩
       by_cases e:x=y
       . exact .inl e
       . refine .inr ⟨?_,?_⟩
         . rcases List.mem_cons.1 a with e' | e'
           . exact absurd e' e
           . exact e'
         . intro c
           rcases List.mem_cons.1 c with e' | e'
           . exact e e'
           . exact b e'
theorem zdP:∀ (l seen:List Int),(zbP seen l).Nodup
 | [],seen=>by simp [zbP]
 | y :: l,seen=>by
   unfold zbP
   by_cases hy:y∈seen
   . rw [if_pos hy];exact zdP l seen
   . rw [if_neg hy]
     exact List.nodup_cons.2 ⟨fun c=>((zfZ l (y :: seen) y).1 c).2 ς,zdP l (y :: seen)⟩
noncomputable def zdc (l:List Int):Nat:=(zbP [] l).length
theorem zcN {l:List Int}{x:Int}:x∈zbP [] l↔x∈l:=by simp [zfZ]
theorem znz {l m:List Int} (h:∀ x,x∈l↔x∈m):zdc l=zdc m :=
 Nat.le_antisymm (zev _ _ (zdP _ _) fun x hx=>zcN.2 ((h x).1 (zcN.1 hx))) (zev _ _ (zdP _ _) fun x hx=>zcN.2 ((h x).2 (zcN.1 hx)))
theorem zqI (l:List Int):zdc l<=l.length:=zev _ _ (zdP _ _) fun x hx=>zcN.1 hx
theorem zsq {l:List Int}{x:Int} (h:x∈l):zdc (x :: l)=zdc l:=znz fun y=>by
 constructor
 . intro hy
   rcases List.mem_cons.1 hy with e | e
   . exact e ▸ h
   . exact e
 . intro hy;simp [hy]
theorem zrz {l:List Int}{x:Int} (h:x∉l):zdc (x :: l)=zdc l+1:=by
 apply Nat.le_antisymm
 . have:=zev (zbP [] (x :: l)) (x :: zbP [] l) (zdP _ _) (fun y hy=>by
     rcases List.mem_cons.1 (zcN.1 hy) with e | e
     . simp [e]
     . exact List.mem_cons_of_mem _ (zcN.2 e))
   simpa [zdc] using this
 . have:=zev (x :: zbP [] l) (zbP [] (x :: l)) (List.nodup_cons.2 ⟨fun c=>h (zcN.1 c),zdP _ _⟩) (fun y hy=>by
     rcases List.mem_cons.1 hy with e | e
     . exact zcN.2 (by simp [e])
     . exact zcN.2 (by simp [zcN.1 e]))
   simpa [zdc] using this
structure St where
 k:Nat
 f:Bool
noncomputable def wy (b:Bool):Int:=if b=true then 1 else -1
noncomputable def sD (s:St):D := .tup [.int s.k,.int (wy s.f)]
@[simp] theorem zqJ (t:St) (e:zx) (h:MH):zk (sD t) (.int 0) e h = .ok (.int t.k) h:=rfl
@[simp] theorem zqN (t:St) (e:zx) (h:MH):zk (sD t) (.int 1) e h = .ok (.int (wy t.f)) h:=rfl
theorem zqq (s:St):(sD s).nr=true:=rfl
noncomputable def zes (f:Bool) (t:T3):T3:=if f=true then t else tn t
noncomputable def zcf (ts:List T3) (s:St):Option T3:=(ts[s.k]?).map (zes s.f)
theorem zsw {P:Int}{ts:List T3} (hts:∀ t∈ts,t.Ok P) {s:St}{t:T3} (e:zcf ts s=some t):t.Ok P:=by
 unfold zcf at e
 cases h:ts[s.k]? with
 | none=>rw [h]at e;cases e
 | some t0 =>
   rw [h]at e
   have:=hts t0 (List.mem_of_getElem? h)
   simp at e
   subst e
   unfold zes
   split
   . exact this
   . exact zm1 this
theorem zcU {h:MH}{l:Nat}{xs:List D} (hl:h[l]?=some (.lst xs)) (i:Int):app zcQ [.obj l,.int i] h = .ok (.bl (decide (0<=i) && decide (i < xs.length))) h:=by
 unfold app zcQ
 have:(i<=(xs.length:Int) - 1)↔i < xs.length:=by omega
 simp [hl,this]
theorem ziO (a b:Int):peq (.int a) (.int b)=(a == b):=by rw [peq]
theorem zmL (f:Bool) (e:zx) (h:MH):inV (.int (wy f)) (.tup [.int 1,.int (-1)]) e h = .ok (.bl true) h:=by
 simp only [inV,inB,List.any_cons,List.any_nil,ziO]
 cases f <;> rfl
theorem zeO {h:MH}{l:Nat}{xs:List D} (hl:h[l]?=some (.lst xs)) (s:St):app zc6 [.obj l,sD s] h = .ok (.bl (decide (s.k < xs.length))) h:=by
 unfold app zc6
 have e1:(0:Int)<=s.k:=by omega
 have e2:((s.k:Int) < xs.length)↔s.k < xs.length:=by omega
 by_cases hk:s.k < xs.length
 . simp [sD,zT,zk,zcU hl,e1,e2,hk,zmL]
 . simp [sD,zT,zk,zcU hl,e1,e2,hk]
theorem zeP {h:MH}{l:Nat}{ts:List T3} (hl:h[l]?=some (.lst (ts.map tD))) {s:St}{t:T3} (ht:zcf ts s=some t):app zdG [.obj l,sD s] h = .ok (tD t) h:=by
 unfold app zdG
 unfold zcf at ht
 cases hk:ts[s.k]? with
 | none=>rw [hk]at ht;cases ht
 | some t0 =>
   have hlt:=(List.getElem?_eq_some_iff.1 hk).1
   rw [hk]at ht
   simp at ht
   subst ht
   have e1:MI.atI (ts.map tD) (s.k:Int)=some (tD t0):=by
     rw [ziZ (by simpa using hlt)]
     have:=(List.getElem?_eq_some_iff.1 hk).2
     simp [this]
   cases hf:s.f
   . simp [sD,zk,hl,e1,wy,hf,zes]
     exact zfG h ϱ
   . simp [sD,zk,hl,e1,wy,hf,zes]
     exact zfG h ϱ
noncomputable def zbF (ts:List T3):Int->List St->Option (List T3)
 | _,[]=>some []
 | here,s :: r=>match zcf ts s with
   | none=>none
   | some t=>if t.a=here then (zbF ts t.b r).map (t :: ·) else none
theorem zi0 {ts:List T3}:∀ (S:List St) (here:Int) (g:List T3),zbF ts here S=some g->g.length=S.length
 | [],_,g,e=>by simp [zbF]at e;subst e;simp
 | s :: r,here,g,e=>by
   unfold zbF at e
   cases hl:zcf ts s with
   | none=>simp [hl]at e
   | some t =>
     simp only [hl]at e
     by_cases ha:t.a=here
     . rw [if_pos ha]at e
       cases hr:zbF ts t.b r with
       | none=>simp [hr]at e
       | some g' =>
         simp [hr]at e
         subst e
         simp [zi0 r _ _ hr]
     . simp [ha]at e
noncomputable def fin (a:Int) (g:List T3):Int:=match g.getLast? with
 | none=>a
 | some t=>t.b
@[simp] theorem zrk (a:Int):fin a []=a:=rfl
@[simp] theorem zr7 (a:Int) (g:List T3) (t:T3):fin a (g++[t])=t.b:=by simp [fin]
@[simp] theorem zrN (a:Int) (t:T3) (g:List T3):fin a (t :: g)=fin t.b g:=by
 unfold fin
 cases g with
 | nil=>rfl
 | cons x g=>simp [List.getLast?_cons_cons,List.getLast?_cons]
theorem zgr {ts:List T3}:∀ (S R:List St) (a:Int),zbF ts a (S++R)=match zbF ts a S with
   | none=>none
   | some g=>(zbF ts (fin a g) R).map (g++·)
 | [],R,a=>by simp [zbF]
 | s :: S,R,a=>by
   simp only [List.cons_append,zbF]
   cases zcf ts s with
   | none=>rfl
   | some t =>
     simp only
     by_cases ha:t.a=a
     . simp only [if_pos ha]
       rw [zgr S R t.b]
       cases zbF ts t.b S with
       | none=>rfl
       | some g=>simp [Function.comp_def]
     . simp [if_neg ha]
theorem zoR {ts:List T3}{S:List St}{a:Int}{g:List T3} (e:zbF ts a S=some g) {s:St}{t:T3} (hl:zcf ts s=some t) (ha:t.a=fin a g):zbF ts a (S++[s])=some (g++[t]):=by
 rw [zgr,e]
 simp [zbF,hl,ha]
theorem zhL {ts:List T3}{S R:List St}{a:Int}{g:List T3} (e:zbF ts a S=some g) {s:St} (hl:∀ t,zcf ts s=some t->t.a≠fin a g):zbF ts a (S++s :: R)=none:=by
 rw [zgr,e]
 simp only [zbF]
 cases h:zcf ts s with
 | none=>rfl
 | some t=>simp [hl t h]
theorem zeQ {h:MH}{w t l:Nat}{P turn:Int}{ts:List T3} (W:z8 h w t P turn ts) {S:List St} (hl:h[l]?=some (.lst (S.map sD))) (hS:S.length<=900000) {a:Int} (h0:0<=a) (h1:a < P) :
   app zcR [.obj w,.int a,.obj l] h=match zbF ts a S with
     | none=> .ok .non h
     | some g=> .ok (.obj h.length) (h++[.lst (g.map tD)]):=by
 unfold app zcR
 have loop:=zgu (t := .nm 6) (gs:=[(l,.lst (S.map sD))]) (body:=(zm (ifS (zbd (tru (zj zc6 (za (var 3) (za (var 6) zf))))) (zL (zb .non)) zI)
   (zm (zbi (zcc (var 4) (zj zdG (za (var 3) (za (var 6) zf)))))
   (zm (ifS (tst (bin neV (bin zk (bin zk (var 4) (un zbK (zb (.int (1))))) (zb (.int (0)))) (var 5))) (zL (zb .non)) zI)
   (zr (.nm 5) (bin zk (bin zk (var 4) (un zbK (zb (.int (1))))) (zb (.int (1))))))))) sD
   (fun d e h'=>∃ g x,e=[some (.obj w),some (.int a),some (.obj l),some (.obj h.length),some (.obj (h.length+1)),some (.int (fin a g)),x]∧h'=h++[.lst (ts.map tD),.lst (g.map tD)]∧zbF ts a d=some g)
   (fun v h'=>v = .non∧zbF ts a S=none∧∃ g,h'=h++g) S [] (by
   rintro d s r e h' eq ⟨g,x,rfl,rfl,hg⟩
   simp only [List.nil_append]at eq
   refine ⟨zc5 (zl hl _),_,rfl,?_⟩
   have hst:=zeO (h:=h++[.lst (ts.map tD),.lst (g.map tD)]) (l:=h.length) (xs:=ts.map tD) ς s
   by_cases hk:s.k < ts.length
   . simp only [List.length_map,hk,decide_true]at hst
     have hleg:zcf ts s=some (zes s.f ts[s.k]):=by simp [zcf,hk]
     generalize zes s.f ts[s.k]=t at hleg
     have hlg:=zeP (h:=h++[.lst (ts.map tD),.lst (g.map tD)]) (l:=h.length) ς hleg
     have hla:MI.atI (g.map tD++[tD t]) (-1)=some (tD t):=znd _ _
     have hlt:g.length < 1000000:=by
       have:=zi0 _ _ _ hg
       have:=congrArg List.length eq
       simp at this;omega
     by_cases ha:t.a=fin a g
     . refine .inl ⟨_,h++[.lst (ts.map tD),.lst ((g++[t]).map tD)],?_,g++[t],some (sD s),rfl,rfl,zoR hg hleg ha⟩
       simp [hst,hlg,zdw,hlt,zct,hla,ha]
     . refine .inr ⟨.non,h++[.lst (ts.map tD),.lst ((g++[t]).map tD)],?_,rfl,?_,_,rfl⟩
       . simp [hst,hlg,zdw,hlt,zct,hla,ha]
       . rw [<- eq]
         exact zhL hg (fun t' e=>by rw [hleg]at e;cases e;exact ha)
   . simp only [List.length_map,hk,decide_false]at hst
     refine .inr ⟨.non,h++[.lst (ts.map tD),.lst (g.map tD)],?_,rfl,?_,_,rfl⟩
     . simp [hst]
     . rw [<- eq]
       exact zhL hg (fun t' e=>by simp [zcf,List.getElem?_eq_none (Nat.not_lt.1 hk)]at e))
   (by rintro e h' ⟨g,x,rfl,rfl,hg⟩;exact zc5 (zl hl _)) [some (.obj w),some (.int a),some (.obj l),some (.obj h.length),some (.obj (h.length+1)),some (.int a),none] (h++[.lst (ts.map tD),.lst []]) ⟨[],none,rfl,rfl,rfl⟩
 rcases loop with ⟨e2,h2,hr,g,x,rfl,rfl,hg⟩ | ⟨v,h2,hr,rfl,hg,g,rfl⟩
 . simp at hg
   simp [W.w,h0,h1,zT,hl,zdB,zc7 W,zl hl,hr,hg]
   exact zi7 h _ (k:=1) rfl (ze8 _)
 . simp [W.w,h0,h1,zT,hl,zdB,zc7 W,zl hl,hr,hg]
   exact zg4 _ _
end Mx
end
section
open PySem MI
namespace Mx
open My
open Classical in
noncomputable def dcd (p:Prop):Bool:=decide p
noncomputable def hAt (hs:List Int) (i:Int):Int:=hs.getD i.toNat 0
theorem zeA {hs:List Int}{i:Int} (h0:0<=i) (h1:i < hs.length):MI.atI (hs.map D.int) i=some (.int (hAt hs i)):=by
 obtain ⟨k,rfl⟩:∃ k:Nat,i=k:=⟨i.toNat,ω⟩
 have hl:k < hs.length:=by omega
 rw [ziZ (by simpa using hl)]
 simp [hAt,hl]
end Mx
end
section
open PySem MI
namespace Mx
open My
noncomputable def zc2:List Int:=[1000003,1000033,1000037,1000039,1000081,1000099,1000117,1000121,1000133,1000151,1000159,1000171,1000183,1000187,1000193,1000199]
@[irreducible] noncomputable def zca (a b m:Int):Int:=(a * 48271+b * 69621) % hAt zc2 (b % 16) % m
theorem zdZ (a b:Int) {m:Int} (hm:0 < m):0<=zca a b m:=by unfold zca;exact Int.emod_nonneg _ ω
theorem zd3 (a b:Int) {m:Int} (hm:0 < m):zca a b m < m:=by unfold zca;exact Int.emod_lt_of_pos _ hm
theorem zhH {l:List Int}{i:Int} (h0:0<=i) (h1:i < l.length):hAt l i∈l:=by
 have:i.toNat < l.length:=by omega
 simp [hAt,this]
theorem zlF {i:Int} (h0:0<=i) (h1:i < 16):0 < hAt zc2 i:=by
 have h:=zhH (l:=zc2) h0 (by simpa [zc2] using h1)
 revert h
 generalize hAt zc2 i=x
 have:∀ x∈zc2,0 < x:=by decide
 exact this x
theorem zch {a b m:Int} (hm:0 < m) (h:MH):app zF [.int a,.int b,.int m] h = .ok (.int (zca a b m)) h:=by
 unfold app zF
 have h0:0<=b % 16:=Int.emod_nonneg _ ω
 have h1:b % 16 < 16:=Int.emod_lt_of_pos _ ω
 have at16:=zeA (hs:=zc2) h0 (by simpa [zc2] using h1)
 have hp:=zlF h0 h1
 have s1:zbU 48271=true:=by decide
 have s2:zbU 69621=true:=by decide
 unfold zca
 generalize hAt zc2 (b % 16)=p at *
 simp only [zc2,List.map_cons,List.map_nil]at at16
 simp [s1,s2,zk,at16,hp,hm]
noncomputable def zjw (ns:List Int) (i:Int):Int:=if i < ns.length then hAt ns i else 0
theorem zmy {ns:List Int}{n:Nat}{h:MH} (hn:h[n]?=some (.scr (ns.map .int))) {i:Int} (h0:0<=i):app zbI [.obj n,.int i] h = .ok (.int (zjw ns i)) h:=by
 unfold app zbI zjw
 by_cases hl:i < ns.length
 . simp [hn,hl,zct,zeA h0 hl]
 . simp [hn,hl]
theorem zgJ {v c m:Int} (h0:0<=v) (h1:v < m) (c0:0 < c) (c1:c < m):0<=(v+c) % m∧(v+c) % m < m∧(v+c) % m≠v:=by
 refine ⟨Int.emod_nonneg _ ω,Int.emod_lt_of_pos _ ω,?_⟩
 by_cases h:v+c < m
 . rw [Int.emod_eq_of_lt ω h];omega
 . have:(v+c) % m=v+c - m:=by
     rw [<- Int.sub_emod_right,Int.emod_eq_of_lt ω ω]
   omega
theorem zpb {ns:List Int}{n:Nat}{h:MH} (hn:h[n]?=some (.scr (ns.map .int))) {c P turn v4 v5:Int}{b6:Bool}{k:Nat} (hk:k < ns.length) {v9 v10 v14:Int}{x y z:Option D}{ts:List T3} (hl:ts.length<=1000) (ht:0<=turn) (hv:-400000<=v14∧v14<=400000) :
   ∃ n14,-1000000<=n14∧n14<=1000000∧(zm (ifS (zbn (tst (bin gtV (var 3) (zb (.int (0))))) (zbn (tst (bin eqV (zj zF (za (bin zk (var 0) (var 8)) (za (zb (.int (12))) (za (zb (.int (3))) zf)))) (zb (.int (0))))) (tst (bin ltV (bin zA (zc4 (var 14)) (var 3)) (zb (.int (1000000))))))) (zr (.nm 14) (bin zU (var 14) (var 3))) zI)
   (zbi (zcc (var 7) (zy (za (var 9) (za (var 10) (za (var 14) zf))))))) [some (.obj n),some (.int c),some (.int P),some (.int turn),some (.int v4),some (.int v5),some (.bl b6),some (.obj h.length),some (.int k),some (.int v9),some (.int v10),x,y,z,some (.int v14)] (h++[.lst (ts.map tD)]) =
     .nx [some (.obj n),some (.int c),some (.int P),some (.int turn),some (.int v4),some (.int v5),some (.bl b6),some (.obj h.length),some (.int k),some (.int v9),some (.int v10),x,y,z,some (.int n14)] (h++[.lst ((ts++[(⟨v9,v10,n14⟩:T3)]).map tD)]):=by
 have hat:=zeA (hs:=ns) (i:=(k:Int)) ω ω
 have hl':ts.length < 1000000:=by omega
 by_cases c1:0 < turn
 . by_cases c2:zca (hAt ns k) 12 3=0
   . by_cases c3:(if v14 < 0 then -v14 else v14)+turn < 1000000
     . refine ⟨v14 - turn,by split at c3 <;> omega,by split at c3 <;> omega,?_⟩
       simp [c1,c2,c3,zct,zl hn,hat,zch,zdw,hl',tD]
     . refine ⟨v14,ω,ω,?_⟩
       simp [c1,c2,c3,zct,zl hn,hat,zch,zdw,hl',tD]
   . refine ⟨v14,ω,ω,?_⟩
     simp [c1,c2,zct,zl hn,hat,zch,zdw,hl',tD]
 . refine ⟨v14,ω,ω,?_⟩
   simp [c1,zct,zl hn,hat,zch,zdw,hl',tD]
theorem zpy {ns:List Int}{n:Nat}{h:MH} (hn:h[n]?=some (.scr (ns.map .int))) {c P turn v4 v5:Int}{b6:Bool}{k:Nat} (hk:k < ns.length) {v9 v10:Int}{x y z u:Option D}{ts:List T3} (hl:ts.length<=1000) (ht:0<=turn) (h4:0 < v4) (h4':v4<=400000) (h5:0<=v5) :
   ∃ n14,-1000000<=n14∧n14<=1000000∧(zm (zr (.nm 14) (bin zU (zj zF (za (bin zbw (var 10) (zb (.int (7919)))) (za (zb (.int (6))) (za (var 4) zf)))) (zj zF (za (bin zbw (var 9) (zb (.int (7919)))) (za (zb (.int (6))) (za (var 4) zf))))))
   (zm (ifS (zbn (tst (bin gtV (var 5) (zb (.int (0))))) (tst (bin eqV (zj zF (za (bin zk (var 0) (var 8)) (za (bin zA (bin zY (var 8) (zb (.int (3)))) (zb (.int (9)))) (za (var 5) zf)))) (zb (.int (0)))))) (zr (.nm 14) (bin zA (var 14) (zb (.int (1))))) zI)
   (zm (ifS (zbn (tst (bin gtV (var 3) (zb (.int (0))))) (zbn (tst (bin eqV (zj zF (za (bin zk (var 0) (var 8)) (za (zb (.int (12))) (za (zb (.int (3))) zf)))) (zb (.int (0))))) (tst (bin ltV (bin zA (zc4 (var 14)) (var 3)) (zb (.int (1000000))))))) (zr (.nm 14) (bin zU (var 14) (var 3))) zI)
   (zbi (zcc (var 7) (zy (za (var 9) (za (var 10) (za (var 14) zf))))))))) [some (.obj n),some (.int c),some (.int P),some (.int turn),some (.int v4),some (.int v5),some (.bl b6),some (.obj h.length),some (.int k),some (.int v9),some (.int v10),x,y,z,u] (h++[.lst (ts.map tD)]) =
     .nx [some (.obj n),some (.int c),some (.int P),some (.int turn),some (.int v4),some (.int v5),some (.bl b6),some (.obj h.length),some (.int k),some (.int v9),some (.int v10),x,y,z,some (.int n14)] (h++[.lst ((ts++[(⟨v9,v10,n14⟩:T3)]).map tD)]):=by
 have hat:=zeA (hs:=ns) (i:=(k:Int)) ω ω
 have s1:zbU 7919=true:=by decide
 have a0:=zdZ (v10 * 7919) 6 h4
 have a1:=zd3 (v10 * 7919) 6 h4
 have b0:=zdZ (v9 * 7919) 6 h4
 have b1:=zd3 (v9 * 7919) 6 h4
 have hdr:=zch (a:=v10 * 7919) (b:=6) h4
 have hdr2:=zch (a:=v9 * 7919) (b:=6) h4
 generalize zca (v10 * 7919) 6 v4=d1 at *
 generalize zca (v9 * 7919) 6 v4=d2 at *
 have key:∃ v14,-400000<=v14∧v14<=400000∧(ifS (zbn (tst (bin gtV (var 5) (zb (.int (0))))) (tst (bin eqV (zj zF (za (bin zk (var 0) (var 8)) (za (bin zA (bin zY (var 8) (zb (.int (3)))) (zb (.int (9)))) (za (var 5) zf)))) (zb (.int (0)))))) (zr (.nm 14) (bin zA (var 14) (zb (.int (1))))) zI) [some (.obj n),some (.int c),some (.int P),some (.int turn),some (.int v4),some (.int v5),some (.bl b6),some (.obj h.length),some (.int k),some (.int v9),some (.int v10),x,y,z,some (.int (d1 - d2))] (h++[.lst (ts.map tD)]) =
     .nx [some (.obj n),some (.int c),some (.int P),some (.int turn),some (.int v4),some (.int v5),some (.bl b6),some (.obj h.length),some (.int k),some (.int v9),some (.int v10),x,y,z,some (.int v14)] (h++[.lst (ts.map tD)]):=by
   by_cases c1:0 < v5
   . by_cases c2:zca (hAt ns k) ((k:Int) % 3+9) v5=0
     . exact ⟨d1 - d2+1,ω,ω,by simp [c1,c2,zct,zl hn,hat,zch]⟩
     . exact ⟨d1 - d2,ω,ω,by simp [c1,c2,zct,zl hn,hat,zch]⟩
   . exact ⟨d1 - d2,ω,ω,by simp [c1]⟩
 obtain ⟨v14,k0,k1,hkey⟩:=key
 obtain ⟨n14,m0,m1,htl⟩:=zpb hn (c:=c) (P:=P) (turn:=turn) (v4:=v4) (v5:=v5) (b6:=b6) hk (v9:=v9) (v10:=v10) (x:=x) (y:=y) (z:=z) hl ht ⟨k0,k1⟩
 refine ⟨n14,m0,m1,?_⟩
 have st:(zr (.nm 14) (bin zU (zj zF (za (bin zbw (var 10) (zb (.int (7919)))) (za (zb (.int (6))) (za (var 4) zf)))) (zj zF (za (bin zbw (var 9) (zb (.int (7919)))) (za (zb (.int (6))) (za (var 4) zf)))))) [some (.obj n),some (.int c),some (.int P),some (.int turn),some (.int v4),some (.int v5),some (.bl b6),some (.obj h.length),some (.int k),some (.int v9),some (.int v10),x,y,z,u] (h++[.lst (ts.map tD)]) =
     .nx [some (.obj n),some (.int c),some (.int P),some (.int turn),some (.int v4),some (.int v5),some (.bl b6),some (.obj h.length),some (.int k),some (.int v9),some (.int v10),x,y,z,some (.int (d1 - d2))] (h++[.lst (ts.map tD)]):=by
   simp [s1,hdr,hdr2]
 rw [zfx,st,ziX,zfx,hkey,ziX]
 exact htl
theorem zlH {ns:List Int}{n:Nat}{h:MH} (hn:h[n]?=some (.scr (ns.map .int))) {c P turn v4 v5:Int}{b6:Bool} (h6:b6=true->3 < P) (hP:2<=P) (hP':P<=1000) {k:Nat} (hk:k < ns.length) {x9 x10 x y z u:Option D}{ts:List T3} (hl:ts.length<=1000) (ht:0<=turn) (h4:0 < v4) (h4':v4<=400000) (h5:0<=v5) :
   ∃ t3:T3,t3.Ok P∧∃ x9' x10' x' y' z' u',(zm (zr (.nm 9) (zj zF (za (bin zk (var 0) (var 8)) (za (bin zA (bin zY (var 8) (zb (.int (5)))) (zb (.int (1)))) (za (var 2) zf)))))
   (zm (zr (.nm 10) (bin zY (bin zA (bin zA (var 9) (zb (.int (1)))) (zj zF (za (bin zk (var 0) (var 8)) (za (bin zA (bin zY (var 8) (zb (.int (7)))) (zb (.int (2)))) (za (bin zU (var 2) (zb (.int (1)))) zf))))) (var 2)))
   (zm (ifS (tru (var 6)) (zm (zr (.nm 11) (ifE (tst (bin ltV (var 9) (bin zbR (var 2) (zb (.int (2)))))) (zb (.int (0))) (bin zbR (var 2) (zb (.int (2))))))
   (zm (zr (.nm 12) (ifE (tst (bin eqV (var 11) (zb (.int (0))))) (bin zbR (var 2) (zb (.int (2)))) (bin zU (var 2) (var 11))))
   (zm (zr (.nm 13) (bin zA (zb (.int (1))) (zj zF (za (bin zk (var 0) (var 8)) (za (bin zA (bin zY (var 8) (zb (.int (7)))) (zb (.int (2)))) (za (bin zU (var 12) (zb (.int (1)))) zf))))))
   (zr (.nm 10) (bin zA (var 11) (bin zY (bin zA (bin zU (var 9) (var 11)) (var 13)) (var 12))))))) zI)
   (zm (zr (.nm 14) (bin zU (zj zF (za (bin zbw (var 10) (zb (.int (7919)))) (za (zb (.int (6))) (za (var 4) zf)))) (zj zF (za (bin zbw (var 9) (zb (.int (7919)))) (za (zb (.int (6))) (za (var 4) zf))))))
   (zm (ifS (zbn (tst (bin gtV (var 5) (zb (.int (0))))) (tst (bin eqV (zj zF (za (bin zk (var 0) (var 8)) (za (bin zA (bin zY (var 8) (zb (.int (3)))) (zb (.int (9)))) (za (var 5) zf)))) (zb (.int (0)))))) (zr (.nm 14) (bin zA (var 14) (zb (.int (1))))) zI)
   (zm (ifS (zbn (tst (bin gtV (var 3) (zb (.int (0))))) (zbn (tst (bin eqV (zj zF (za (bin zk (var 0) (var 8)) (za (zb (.int (12))) (za (zb (.int (3))) zf)))) (zb (.int (0))))) (tst (bin ltV (bin zA (zc4 (var 14)) (var 3)) (zb (.int (1000000))))))) (zr (.nm 14) (bin zU (var 14) (var 3))) zI)
   (zbi (zcc (var 7) (zy (za (var 9) (za (var 10) (za (var 14) zf)))))))))))) [some (.obj n),some (.int c),some (.int P),some (.int turn),some (.int v4),some (.int v5),some (.bl b6),some (.obj h.length),some (.int k),x9,x10,x,y,z,u] (h++[.lst (ts.map tD)]) =
     .nx [some (.obj n),some (.int c),some (.int P),some (.int turn),some (.int v4),some (.int v5),some (.bl b6),some (.obj h.length),some (.int k),x9',x10',x',y',z',u'] (h++[.lst ((ts++[t3]).map tD)]):=by
 have hat:=zeA (hs:=ns) (i:=(k:Int)) ω ω
 have hP1:0 < P:=by omega
 have hP2:0 < P - 1:=by omega
 have v90:=zdZ (hAt ns k) ((k:Int) % 5+1) hP1
 have v91:=zd3 (hAt ns k) ((k:Int) % 5+1) hP1
 have hd9:=zch (a:=hAt ns k) (b:=(k:Int) % 5+1) hP1
 have e0:=zdZ (hAt ns k) ((k:Int) % 7+2) hP2
 have e1:=zd3 (hAt ns k) ((k:Int) % 7+2) hP2
 have hd10:=zch (a:=hAt ns k) (b:=(k:Int) % 7+2) hP2
 generalize zca (hAt ns k) ((k:Int) % 5+1) P=v9 at *
 generalize zca (hAt ns k) ((k:Int) % 7+2) (P - 1)=d at *
 have first:∀ v10,0<=v10->v10 < P->v10≠v9->∀ x y z,(∃ t3:T3,t3.Ok P∧∃ x9' x10' x' y' z' u',(zm (zr (.nm 14) (bin zU (zj zF (za (bin zbw (var 10) (zb (.int (7919)))) (za (zb (.int (6))) (za (var 4) zf)))) (zj zF (za (bin zbw (var 9) (zb (.int (7919)))) (za (zb (.int (6))) (za (var 4) zf))))))
   (zm (ifS (zbn (tst (bin gtV (var 5) (zb (.int (0))))) (tst (bin eqV (zj zF (za (bin zk (var 0) (var 8)) (za (bin zA (bin zY (var 8) (zb (.int (3)))) (zb (.int (9)))) (za (var 5) zf)))) (zb (.int (0)))))) (zr (.nm 14) (bin zA (var 14) (zb (.int (1))))) zI)
   (zm (ifS (zbn (tst (bin gtV (var 3) (zb (.int (0))))) (zbn (tst (bin eqV (zj zF (za (bin zk (var 0) (var 8)) (za (zb (.int (12))) (za (zb (.int (3))) zf)))) (zb (.int (0))))) (tst (bin ltV (bin zA (zc4 (var 14)) (var 3)) (zb (.int (1000000))))))) (zr (.nm 14) (bin zU (var 14) (var 3))) zI)
   (zbi (zcc (var 7) (zy (za (var 9) (za (var 10) (za (var 14) zf))))))))) [some (.obj n),some (.int c),some (.int P),some (.int turn),some (.int v4),some (.int v5),some (.bl b6),some (.obj h.length),some (.int k),some (.int v9),some (.int v10),x,y,z,u] (h++[.lst (ts.map tD)]) =
     .nx [some (.obj n),some (.int c),some (.int P),some (.int turn),some (.int v4),some (.int v5),some (.bl b6),some (.obj h.length),some (.int k),x9',x10',x',y',z',u'] (h++[.lst ((ts++[t3]).map tD)])):=by
   intro v10 a0 a1 a2 x y z
   obtain ⟨n14,m0,m1,he⟩:=zpy hn (c:=c) (P:=P) (turn:=turn) (v4:=v4) (v5:=v5) (b6:=b6) hk (v9:=v9) (v10:=v10) (x:=x) (y:=y) (z:=z) (u:=u) hl ht h4 h4' h5
   exact ⟨⟨v9,v10,n14⟩,⟨v90,v91,a0,a1,fun e=>a2 e.symm,m0,m1⟩,_,_,_,_,_,_,he⟩
 generalize hT:(zm (zr (.nm 14) (bin zU (zj zF (za (bin zbw (var 10) (zb (.int (7919)))) (za (zb (.int (6))) (za (var 4) zf)))) (zj zF (za (bin zbw (var 9) (zb (.int (7919)))) (za (zb (.int (6))) (za (var 4) zf))))))
   (zm (ifS (zbn (tst (bin gtV (var 5) (zb (.int (0))))) (tst (bin eqV (zj zF (za (bin zk (var 0) (var 8)) (za (bin zA (bin zY (var 8) (zb (.int (3)))) (zb (.int (9)))) (za (var 5) zf)))) (zb (.int (0)))))) (zr (.nm 14) (bin zA (var 14) (zb (.int (1))))) zI)
   (zm (ifS (zbn (tst (bin gtV (var 3) (zb (.int (0))))) (zbn (tst (bin eqV (zj zF (za (bin zk (var 0) (var 8)) (za (zb (.int (12))) (za (zb (.int (3))) zf)))) (zb (.int (0))))) (tst (bin ltV (bin zA (zc4 (var 14)) (var 3)) (zb (.int (1000000))))))) (zr (.nm 14) (bin zU (var 14) (var 3))) zI)
   (zbi (zcc (var 7) (zy (za (var 9) (za (var 10) (za (var 14) zf)))))))))=tl at *
 cases b6 with
 | false =>
   have hm:=zgJ v90 v91 (c:=1+d) ω ω
   rw [<- Int.add_assoc]at hm
   obtain ⟨t3,ok,x9',x10',x',y',z',u',he⟩:=first ((v9+1+d) % P) hm.1 hm.2.1 hm.2.2 x y z
   refine ⟨t3,ok,x9',x10',x',y',z',u',?_⟩
   rw [<- he]
   simp [zct,zl hn,hat,hd9,hd10,hP1]
 | true =>
   have hP3:=h6 rfl
   by_cases hh:v9 < P / 2
   . have q0:0 < P / 2 - 1:=by omega
     have q00:0 < P / 2:=by omega
     have f0:=zdZ (hAt ns k) ((k:Int) % 7+2) q0
     have f1:=zd3 (hAt ns k) ((k:Int) % 7+2) q0
     have hd11:=zch (a:=hAt ns k) (b:=(k:Int) % 7+2) q0
     generalize zca (hAt ns k) ((k:Int) % 7+2) (P / 2 - 1)=d2 at *
     have hm:=zgJ v90 hh (c:=1+d2) ω ω
     obtain ⟨t3,ok,x9',x10',x',y',z',u',he⟩:=first ((v9+(1+d2)) % (P / 2)) hm.1 ω hm.2.2 (some (.int 0)) (some (.int (P / 2))) (some (.int (1+d2)))
     refine ⟨t3,ok,x9',x10',x',y',z',u',?_⟩
     rw [<- he]
     simp [zct,zl hn,hat,hd9,hd10,hP1,hh,hd11,q00]
   . have q0:0 < P - P / 2 - 1:=by omega
     have q00:0 < P - P / 2:=by omega
     have q1:¬ P / 2=0:=by omega
     have q2:P / 2 < P:=by omega
     have f0:=zdZ (hAt ns k) ((k:Int) % 7+2) q0
     have f1:=zd3 (hAt ns k) ((k:Int) % 7+2) q0
     have hd11:=zch (a:=hAt ns k) (b:=(k:Int) % 7+2) q0
     generalize zca (hAt ns k) ((k:Int) % 7+2) (P - P / 2 - 1)=d2 at *
     have hm:=zgJ (v:=v9 - P / 2) (m:=P - P / 2) ω ω (c:=1+d2) ω ω
     obtain ⟨t3,ok,x9',x10',x',y',z',u',he⟩:=first (P / 2+(v9 - P / 2+(1+d2)) % (P - P / 2)) ω ω ω (some (.int (P / 2))) (some (.int (P - P / 2))) (some (.int (1+d2)))
     refine ⟨t3,ok,x9',x10',x',y',z',u',?_⟩
     rw [<- he]
     simp [zct,zl hn,hat,hd9,hd10,hP1,hh,hd11,q00,q1,q2]
theorem ziU (ds:List D) (i:Int) (e:zx) (h:MH):zk (.tup ds) (.int i) e h=match MI.atI ds i with
   | some d=> .ok d h
   | none=> .bad:=rfl
theorem zia {j:Int} (hj:zbU j=true) (i:Int) (e:zx) (h:MH):zbw (.int i) (.int j) e h = .ok (.int (i * j)) h:=by simp [hj]
theorem zjc (h g:MH) {k:Nat}{o:O} (i j:Int) (e:g[k]?=some o) (f:o.flat=true):gc h (.ok (.tup [.int i,.obj (h.length+k),.int j]) (h++g)) = .ok (.tup [.int i,.obj h.length,.int j]) (h++[o]):=by
 have hlt:¬ h.length+k < h.length:=by omega
 simp [gc,zd4,gcV,zbT,hlt,e,f,D.nr]
theorem zgx (a b:Int) {m:Int} (hm:0 < m):∃ v,(∀ h,app zF [.int a,.int b,.int m] h = .ok (.int v) h)∧0<=v∧v < m:=⟨_,zch hm,zdZ a b hm,zd3 a b hm⟩
theorem zfv {ns:List Int}{n:Nat}{h:MH} (hn:h[n]?=some (.scr (ns.map .int))) {i:Int} (h0:0<=i):∃ v,app zbI [.obj n,.int i] h = .ok (.int v) h:=⟨_,zmy hn h0⟩
theorem zfW (l:List Int) (a b:Int) {m:Int} (hm:(l.length:Int)=m) (h0:0 < m):∃ x v,(∀ h,app zF [.int a,.int b,.int m] h = .ok (.int x) h)∧v∈l∧MI.atI (l.map D.int) x=some (.int v):=by
 obtain ⟨x,h1,h2,h3⟩:=zgx a b h0
 exact ⟨x,hAt l x,h1,zhH h2 ω,zeA h2 ω⟩
theorem zmk {ns:List Int} (hns:ns.length<=63) {n:Nat}{h:MH} (hn:h[n]?=some (.scr (ns.map .int))) :
   ∃ (P:Nat) (turn:Int) (ts:List T3),app zd6 [.obj n] h = .ok (.tup [.int P,.obj h.length,.int turn]) (h++[.lst (ts.map tD)])∧1<=P∧P<=100∧0<=turn∧turn<=1000000∧ts.length=ns.length∧∀ t∈ts,t.Ok P:=by
 obtain ⟨y0,c0⟩:=zfv hn (i:=0) ω
 obtain ⟨y1,c1⟩:=zfv hn (i:=1) ω
 obtain ⟨y2,c2⟩:=zfv hn (i:=2) ω
 obtain ⟨x1,a1,d1,p1,g1⟩:=zfW [1,2,3] y1 2 (m:=3) ς ω
 obtain ⟨x3,turn,d3,p3,g3⟩:=zfW [0,0,2,3,12,1,1000000] y2 3 (m:=7) ς ω
 obtain ⟨x4,v4,d4,p4,g4⟩:=zfW [2,3,40,400000] y0 4 (m:=4) ς ω
 obtain ⟨x5,v5,d5,p5,g5⟩:=zfW [0,0,5,30] y1 5 (m:=4) ς ω
 obtain ⟨x6,d6,_,_⟩:=zgx y2 8 (m:=4) ω
 simp only [List.map_cons,List.map_nil]at g1 g3 g4 g5
 have a10:1<=a1∧a1<=3:=by simp at p1;omega
 have ht:0<=turn∧turn<=1000000:=by simp at p3;omega
 have h4:0 < v4∧v4<=400000:=by simp at p4;omega
 have h5:0<=v5:=by simp at p5;omega
 have sm:zbU a1=true:=by simp [zbU];omega
 obtain ⟨l,hl0⟩:∃ l:Int,l=(ns.length:Int):=⟨_,rfl⟩
 have hlen:∀ (e':zx) (h':MH),e'[0]?=some (some (.obj n))->h'[n]?=some (.scr (ns.map .int))->zcm (zck (var 0)) e' h' = .ok (.int l) h':=by
   intro e' h' h1 h2
   rw [hl0]
   simp [h1,h2]
 have hlt:l.toNat=ns.length:=by omega
 obtain ⟨c,hc⟩:∃ c,l * a1 / 3=c:=⟨_,rfl⟩
 have hc0:0<=c∧c<=63:=by
   have e1:(0:Int)<=l * a1:=Int.mul_nonneg ω ω
   have e2:l * a1<=63 * 3:=Int.mul_le_mul ω ω ω ω
   omega
 obtain ⟨x2,d2,b0,b1⟩:=zgx y0 1 (m:=2+c) ω
 obtain ⟨P,hP⟩:∃ P:Nat,2+x2=(P:Int):=⟨(2+x2).toNat,ω⟩
 have hPb:2<=P∧P<=100:=by omega
 obtain ⟨b6,hb6⟩:∃ b6:Bool,b6=(decide (3 < (P:Int)) && decide (x6=0)):=⟨_,rfl⟩
 have h6:b6=true->3 < (P:Int):=by intro e;rw [e]at hb6;have:=hb6.symm;simp at this;omega
 have loop:=zhO (t := .nm 8) (gs:=[]) (body:=(zm (zr (.nm 9) (zj zF (za (bin zk (var 0) (var 8)) (za (bin zA (bin zY (var 8) (zb (.int (5)))) (zb (.int (1)))) (za (var 2) zf)))))
   (zm (zr (.nm 10) (bin zY (bin zA (bin zA (var 9) (zb (.int (1)))) (zj zF (za (bin zk (var 0) (var 8)) (za (bin zA (bin zY (var 8) (zb (.int (7)))) (zb (.int (2)))) (za (bin zU (var 2) (zb (.int (1)))) zf))))) (var 2)))
   (zm (ifS (tru (var 6)) (zm (zr (.nm 11) (ifE (tst (bin ltV (var 9) (bin zbR (var 2) (zb (.int (2)))))) (zb (.int (0))) (bin zbR (var 2) (zb (.int (2))))))
   (zm (zr (.nm 12) (ifE (tst (bin eqV (var 11) (zb (.int (0))))) (bin zbR (var 2) (zb (.int (2)))) (bin zU (var 2) (var 11))))
   (zm (zr (.nm 13) (bin zA (zb (.int (1))) (zj zF (za (bin zk (var 0) (var 8)) (za (bin zA (bin zY (var 8) (zb (.int (7)))) (zb (.int (2)))) (za (bin zU (var 12) (zb (.int (1)))) zf))))))
   (zr (.nm 10) (bin zA (var 11) (bin zY (bin zA (bin zU (var 9) (var 11)) (var 13)) (var 12))))))) zI)
   (zm (zr (.nm 14) (bin zU (zj zF (za (bin zbw (var 10) (zb (.int (7919)))) (za (zb (.int (6))) (za (var 4) zf)))) (zj zF (za (bin zbw (var 9) (zb (.int (7919)))) (za (zb (.int (6))) (za (var 4) zf))))))
   (zm (ifS (zbn (tst (bin gtV (var 5) (zb (.int (0))))) (tst (bin eqV (zj zF (za (bin zk (var 0) (var 8)) (za (bin zA (bin zY (var 8) (zb (.int (3)))) (zb (.int (9)))) (za (var 5) zf)))) (zb (.int (0)))))) (zr (.nm 14) (bin zA (var 14) (zb (.int (1))))) zI)
   (zm (ifS (zbn (tst (bin gtV (var 3) (zb (.int (0))))) (zbn (tst (bin eqV (zj zF (za (bin zk (var 0) (var 8)) (za (zb (.int (12))) (za (zb (.int (3))) zf)))) (zb (.int (0))))) (tst (bin ltV (bin zA (zc4 (var 14)) (var 3)) (zb (.int (1000000))))))) (zr (.nm 14) (bin zU (var 14) (var 3))) zI)
   (zbi (zcc (var 7) (zy (za (var 9) (za (var 10) (za (var 14) zf))))))))))))) (fun k:Nat=>D.int k)
   (fun d e h'=>∃ ts x8 x9 x10 x y z u,e=[some (.obj n),some (.int c),some (.int P),some (.int turn),some (.int v4),some (.int v5),some (.bl b6),some (.obj h.length),x8,x9,x10,x,y,z,u]∧h'=h++[.lst (ts.map tD)]∧ts.length=d.length∧∀ t∈ts,t.Ok P) (List.range ns.length) (by
   rintro d k r e h' eq ⟨ts,x8,x9,x10,x,y,z,u,rfl,rfl,hl,hok⟩
   refine ⟨rfl,_,rfl,?_⟩
   have hk:k < ns.length:=by
     have:k∈List.range ns.length:=by rw [<- eq];simp
     exact List.mem_range.1 this
   have hdl:d.length<=63:=by
     have:=congrArg List.length eq
     simp at this;omega
   obtain ⟨t3,ok,x9',x10',x',y',z',u',he⟩:=zlH hn (c:=c) (P:=(P:Int)) (turn:=turn) (v4:=v4) (v5:=v5) (b6:=b6) h6 ω ω hk (x9:=x9) (x10:=x10) (x:=x) (y:=y) (z:=z) (u:=u) (ts:=ts) ω ht.1 h4.1 h4.2 h5
   refine ⟨_,_,he,ts++[t3],_,_,_,_,_,_,_,rfl,rfl,by simp [hl],?_⟩
   intro t htm
   rcases List.mem_append.1 htm with h1 | h1
   . exact hok t h1
   . simp at h1;subst h1;exact ok) (fun _ _ _=>rfl) [some (.obj n),some (.int c),some (.int P),some (.int turn),some (.int v4),some (.int v5),some (.bl b6),some (.obj h.length),none,none,none,none,none,none,none] (h++[.lst []])
     ⟨[],_,_,_,_,_,_,_,rfl,rfl,rfl,ς⟩
 obtain ⟨e2,h2,hr,ts,x8,x9,x10,x,y,z,u,rfl,rfl,hl,hok⟩:=loop
 refine ⟨P,turn,ts,?_,ω,ω,ht.1,ht.2,by rw [hl];simp,hok⟩
 unfold app zd6
 have q:(-1000000:Int)<=ns.length∧(ns.length:Int)<=1000000:=by omega
 have q1:l<=1000000:=by omega
 have q2:(-1000000:Int)<=l:=by omega
 by_cases hb:3 < (P:Int)
 . simp [hb]at hb6
   subst hb6
   simp [-ziQ,hlen,hlt,-zjv,zia sm,c0,c1,c2,hn,d1,d3,d4,d5,d6,ziU,g1,g3,g4,g5,hc,d2,hP,hb,q1,q2,zl hn,hr]
   exact zjc h _ (k:=0) _ _ rfl (ze8 ts)
 . simp [hb]at hb6
   subst hb6
   simp [-ziQ,hlen,hlt,-zjv,zia sm,c0,c1,c2,hn,d1,d3,d4,d5,d6,ziU,g1,g3,g4,g5,hc,d2,hP,hb,q1,q2,zl hn,hr]
   exact zjc h _ (k:=0) _ _ rfl (ze8 ts)
end Mx
end
section
namespace MI
section
variable {α β:Type}{e:zx}{h:MH}{c:Nat}
@[simp] theorem zrt (f:α->MH->R β):zK (.ex c h) f = .ex c h:=rfl
@[simp] theorem zr5 (f:α->MH->RS):zce (.ex c h) f = .ex c h:=rfl
@[simp] theorem zqY (f:zx->MH->RS):zdA (.ex c h) f = .ex c h:=rfl
@[simp] theorem zrs:zdt (.ex c h) = .ex c h:=rfl
@[simp] theorem zr6 (f:MS):zdf (.ex c h) f = .ex c h:=rfl
@[simp] theorem zrq (h1:MH):gc h1 (.ex c h) = .ex c h:=rfl
@[simp] theorem zqx:zcD c e h = .ex c h:=rfl
end
end MI
namespace Mx
open MI My
noncomputable def NN (h:MH):D->Prop
 | .int _=>False
 | .obj n=>(∃ xs,h[n]?=some (.lst xs))∨∃ ks,h[n]?=some (.dic ks)
 | _=>True
theorem NN.app {h:MH}{v:D} (x:NN h v) (g:MH):NN (h++g) v:=by
 cases v with
 | obj n =>
   rcases x with ⟨xs,e⟩ | ⟨ks,e⟩
   . exact .inl ⟨xs,zl e g⟩
   . exact .inr ⟨ks,zl e g⟩
 | _=>exact x
theorem zje {h:MH}{v:D} (x:NN h v):app zcP [v] h = .ok (.bl false) h:=by
 unfold app zcP
 cases v with
 | int i=>exact x.elim
 | obj n=>rcases x with ⟨xs,e⟩ | ⟨ks,e⟩ <;> simp [zT,e]
 | bl b=>simp [zT]
 | _=>simp [zT]
noncomputable def zbc (h:MH) (a b:Int) (v:D):Prop:=NN h v∨∃ i,v = .int i∧¬ (a<=i∧i<=b)
theorem zbc.app {h:MH}{a b:Int}{v:D} (x:zbc h a b v) (g:MH):zbc (h++g) a b v:=x.imp (fun z=>z.app g) id
theorem zbc.int {h:MH}{a b i:Int} (x:¬ (a<=i∧i<=b)):zbc h a b (.int i) := .inr ⟨i,rfl,x⟩
theorem zeW {h:MH}{a b:Int}{v:D} (x:zbc h a b v):app zbX [v,.int a,.int b] h = .ok (.bl false) h:=by
 rcases x with x | ⟨i,rfl,x⟩
 . unfold app zbX;simp [zje x]
 . simp;omega
theorem zha {h:MH}{p:Int}{v:D} (x:zbc h 0 (p - 1) v):app zb4 [.int p,v] h = .ok (.bl false) h:=by
 unfold app zb4;simp [zeW x]
inductive NT (h:MH) (p:Int):D->Prop
 | ty {v:D} (e:zT h .tuple v=some false):NT h p v
 | len {ds:List D} (e:ds.length≠3):NT h p (.tup ds)
 | a {x y z:D} (e:zbc h 0 (p - 1) x):NT h p (.tup [x,y,z])
 | b {i:Int} {y z:D} (h0:0<=i) (h1:i < p) (e:zbc h 0 (p - 1) y):NT h p (.tup [.int i,y,z])
 | eq {i:Int} {z:D} (h0:0<=i) (h1:i < p):NT h p (.tup [.int i,.int i,z])
 | n {i j:Int} {z:D} (h0:0<=i) (h1:i < p) (h2:0<=j) (h3:j < p) (hne:i≠j) (e:zbc h (-1000000) 1000000 z):NT h p (.tup [.int i,.int j,z])
theorem zfb {h:MH}{t:Ty}{v:D}{b:Bool} (e:zT h t v=some b) (g:MH):zT (h++g) t v=some b:=by
 cases v with
 | obj n =>
   simp only [zT]at e ⊢
   cases q:h[n]? with
   | none=>rw [q]at e;cases e
   | some o=>rw [zl q g];rw [q]at e;exact e
 | _=>exact e
theorem NT.app {h:MH}{p:Int}{v:D} (x:NT h p v) (g:MH):NT (h++g) p v:=by
 cases x with
 | ty e=>exact .ty (zfb e g)
 | len e=>exact .len e
 | a e=>exact .a (e.app g)
 | b h0 h1 e=>exact .b h0 h1 (e.app g)
 | eq h0 h1=>exact .eq h0 h1
 | n h0 h1 h2 h3 hne e=>exact .n h0 h1 h2 h3 hne (e.app g)
theorem znG {h:MH}{p:Int}{v:D} (x:NT h p v):app zdl [.int p,v] h = .ok (.bl false) h:=by
 unfold app zdl
 cases x with
 | ty e=>simp [e]
 | @len ds e =>
   have e':¬ ((ds.length:Int)=3):=by omega
   simp [zT,e']
 | a e=>simp [zT,zk,zha e]
 | b h0 h1 e=>simp [zT,zk,h0,h1,zha e]
 | eq h0 h1=>simp [zT,zk,h0,h1]
 | n h0 h1 h2 h3 hne e=>simp [zT,zk,h0,h1,h2,h3,hne,zeW e]
theorem znt {h:MH}{p:Int}{v:D} (x:NT h p v):app zcw [.int p,v] h = .ex 0 h:=by
 unfold app zcw;simp [znG x]
theorem zoU {n:Nat}{xs:List D}{ts:List T3}{v:D}{rest:List D}{P:Int}{h:MH} (hn:h[n]?=some (.lst xs)) (hts:∀ t∈ts,t.Ok P) (hv:NT h P v):∀ (acc:List D) (d:Option D),
   zbx (.nm 0) [(n,.lst xs)] zcZ (zj zcw (za (var 1) (za (var 0) zf))) (ts.map tD++v :: rest) acc [d,some (.int P)] h = .ex 0 h:=by
 induction ts with
 | nil=>intro acc d;simp [zbx,zc5 hn,znt hv]
 | cons t ts ih =>
   intro acc d
   simp [zbx,zc5 hn,zd9 P t (hts t ς)]
   exact ih (fun t ht=>hts t (by simp [ht])) _ _
inductive NTs (h:MH) (P:Int):D->Prop
 | ty {v:D} (e:zT h .list v=some false):NTs h P v
 | at {n:Nat} {ts:List T3} {v:D} {rest:List D} (e:h[n]?=some (.lst (ts.map tD++v :: rest))) (hts:∀ t∈ts,t.Ok P) (hl:(ts.map tD++v :: rest).length<=1000000) (hv:NT h P v):NTs h P (.obj n)
theorem NTs.app {h:MH}{P:Int}{v:D} (x:NTs h P v) (g:MH):NTs (h++g) P v:=by
 cases x with
 | ty e=>exact .ty (zfb e g)
 | «at» e hts hl hv=>exact .at (zl e g) hts hl (hv.app g)
theorem zp9 {h:MH}{v t u:D} (x:zbc h 1 1000000 v):∃ g,app (mkF 0 zbr) [v,t,u] h = .ex 0 (h++g):=by
 refine ⟨[.ins 0 []],?_⟩
 unfold app mkF zbr
 simp [zeW (x.app _)]
theorem zpG {h:MH}{P:Int}{t u:D} (h1:1<=P) (h2:P<=1000000) (x:zbc h 0 1000000 u):∃ g,app (mkF 0 zbr) [.int P,t,u] h = .ex 0 (h++g):=by
 refine ⟨[.ins 0 []],?_⟩
 unfold app mkF zbr
 simp [h1,h2,zeW (x.app _)]
theorem zjh {h:MH}{P turn:Int}{t:D} (h1:1<=P) (h2:P<=1000000) (h3:0<=turn) (h4:turn<=1000000) (x:NTs h P t):∃ g,app (mkF 0 zbr) [.int P,t,.int turn] h = .ex 0 (h++g):=by
 cases x with
 | ty e =>
   refine ⟨[.ins 0 []],?_⟩
   unfold app mkF zbr
   simp [h1,h2,h3,h4,zfb e]
 | @«at» n ts v rest e hts hl hv =>
   refine ⟨[.ins 0 [(0,.int P),(1,.int turn)]],?_⟩
   have c:∀ g d,zbx (.nm 0) [(n,.lst (ts.map tD++v :: rest))] zcZ (zj zcw (za (var 1) (za (var 0) zf))) (ts.map tD++v :: rest) [] [d,some (.int P)] (h++g) = .ex 0 (h++g):=fun g d=>zoU (zl e g) hts (hv.app g) [] d
   have hl':ts.length+(rest.length+1)<=1000000:=by simpa using hl
   unfold app mkF zbr
   simp [h1,h2,h3,h4,zT,zl e,zez,zdE,zcJ,c,hl']
end Mx
end
section
namespace Mx
open MI My
section
variable {h:MH}{w t:Nat}{P turn:Int}{ts:List T3}{v:D}
theorem zgw (W:z8 h w t P turn ts) (x:zbc h 0 (P - 1) v):app zco [.obj w,v] h = .ex 1 h:=by
 unfold app zco;simp [W.w,zha x]
theorem zjz (W:z8 h w t P turn ts) {i:Int} (h0:0<=i) (h1:i < P):app zco [.obj w,.int i] h = .ok .non h:=by
 unfold app zco;simp [W.w,h0,h1]
theorem zmM (W:z8 h w t P turn ts) (x:zbc h 0 (P - 1) v) {u:D}:app zcS [.obj w,v,u] h = .ex 1 h:=by
 unfold app zcS;simp [zgw W x]
theorem zn9 (W:z8 h w t P turn ts) (hP:1<=P) (x:zbc h 0 (P - 1) v):app zcS [.obj w,.int 0,v] h = .ex 1 h:=by
 unfold app zcS;simp [zjz W (i:=0) ω ω,zgw W x]
theorem zn5 (W:z8 h w t P turn ts) (x:zbc h 0 (P - 1) v) {u:D}:app zcx [.obj w,v,u] h = .ex 1 h:=by
 unfold app zcx;simp [zgw W x]
theorem ziL {l:Nat}{xs:List D} (hl:h[l]?=some (.lst xs)) (x:zbc h 0 ((xs.length:Int) - 1) v):app zcQ [.obj l,v] h = .ok (.bl false) h:=by
 unfold app zcQ;simp [hl,zeW x]
theorem znw (W:z8 h w t P turn ts) (x:zbc h 0 ((ts.length:Int) - 1) v):∃ g,app zdH [.obj w,v] h = .ex 2 (h++g):=by
 refine ⟨[.lst (ts.map tD)],?_⟩
 unfold app zdH
 have x':zbc (h++[.lst (ts.map tD)]) 0 (((ts.map tD).length:Int) - 1) v:=by simpa using x.app _
 have:=ziL (l:=h.length) (h:=h++[.lst (ts.map tD)]) ς x'
 simp [W.w,zdB,zc7 W,this]
inductive NSt (h:MH) (m:Nat):D->Prop
 | ty {v:D} (e:zT h .tuple v=some false):NSt h m v
 | len {ds:List D} (e:ds.length≠2):NSt h m (.tup ds)
 | pl {x y:D} (e:zbc h 0 ((m:Int) - 1) x):NSt h m (.tup [x,y])
 | num {i:Int} {y:D} (e:NN h y):NSt h m (.tup [.int i,y])
 | way {i j:Int} (h1:j≠1) (h2:j≠-1):NSt h m (.tup [.int i,.int j])
theorem NSt.app {m:Nat} (x:NSt h m v) (g:MH):NSt (h++g) m v:=by
 cases x with
 | ty e=>exact .ty (zfb e g)
 | len e=>exact .len e
 | pl e=>exact .pl (e.app g)
 | num e=>exact .num (e.app g)
 | way h1 h2=>exact .way h1 h2
theorem znP {j:Int} (h1:j≠1) (h2:j≠-1) (e:zx) (h:MH):inV (.int j) (.tup [.int 1,.int (-1)]) e h = .ok (.bl false) h:=by
 simp only [inV,inB,List.any_cons,List.any_nil,ziO]
 have e1:(j == 1)=false:=by simpa using h1
 have e2:(j == -1)=false:=by simpa using h2
 have e3:((1:Int) == j)=false:=by simpa using fun z=>h1 z.symm
 have e4:((-1:Int) == j)=false:=by simpa using fun z=>h2 z.symm
 simp [e1,e2,e3,e4,zbD]
theorem zmr {l:Nat}{xs:List D} (hl:h[l]?=some (.lst xs)) (x:NSt h xs.length v):app zc6 [.obj l,v] h = .ok (.bl false) h:=by
 unfold app zc6
 cases x with
 | ty e=>simp [e]
 | @len ds e =>
   have e':¬ ((ds.length:Int)=2):=by omega
   simp [zT,e']
 | pl e=>simp [zT,zk,ziL hl e]
 | @num i y e =>
   by_cases hi:0<=i∧i < xs.length
   . simp [zT,zk,zcU hl,hi.1,hi.2,zje e]
   . have:(decide (0<=i) && decide (i < (xs.length:Int)))=false:=by simp;omega
     simp [zT,zk,zcU hl,this]
 | @way i j h1 h2 =>
   by_cases hi:0<=i∧i < xs.length
   . simp [zT,zk,zcU hl,hi.1,hi.2,znP h1 h2]
   . have:(decide (0<=i) && decide (i < (xs.length:Int)))=false:=by simp;omega
     simp [zT,zk,zcU hl,this]
inductive NSs (h:MH) (m:Nat):D->Prop
 | ty {v:D} (e:zT h .list v=some false):NSs h m v
 | fst {n:Nat} {x:D} (e:h[n]?=some (.lst [x])) (hx:NSt h m x):NSs h m (.obj n)
theorem NSs.app {m:Nat} (x:NSs h m v) (g:MH):NSs (h++g) m v:=by
 cases x with
 | ty e=>exact .ty (zfb e g)
 | fst e hx=>exact .fst (zl e g) (hx.app g)
theorem zjB (W:z8 h w t P turn ts) (hP:1<=P) (x:NSs h ts.length v):app zcR [.obj w,.int 0,v] h = .ok .non h:=by
 have hP':(0:Int) < P:=by omega
 unfold app zcR
 cases x with
 | ty e=>simp [W.w,hP',e]
 | @fst n x e hx =>
   have st:=zmr (h:=h++[.lst (ts.map tD),.lst []]) (l:=h.length) (xs:=ts.map tD) (v:=x) ς (by simpa using hx.app [.lst (ts.map tD),.lst []])
   simp [W.w,hP',zT,e,zdB,zc7 W,zl e,zbH,zc5 (zl e _),st]
   exact zg4 h _
theorem zqg (W:z8 h w t P turn ts) (hP:1<=P) (hl:app zcR [.obj w,.int 0,v] h = .ok .non h):app zcx [.obj w,.int 0,v] h = .ex 2 h:=by
 unfold app zcx;simp [zjz W (i:=0) ω ω,hl]
theorem zpp {w2 t2:Nat}{P2 turn2:Int}{ts2:List T3} (W:z8 h w t P turn ts) (W2:z8 h w2 t2 P2 turn2 ts2) (hne:P≠P2∨turn≠turn2):app zdF [.obj w,.obj w2] h = .ex 3 h:=by
 unfold app zdF
 by_cases e:P=P2
 . have e2:turn≠turn2:=hne.resolve_left fun z=>z e
   simp [W.w,W2.w,zdK,e,e2]
 . simp [W.w,W2.w,zdK,e]
end
end Mx
end
section
namespace Mx
open MI My
noncomputable abbrev kd (c:Nat):List D:=(zfV c).map .bl
theorem zhG (nx:Nat) (kinds:Nat->List Bool) (m:MS) (e:zx) (h:MH):zeY nx kinds m e h=match m e h with
 | .ex c h1=>if c < nx then .rt (.obj h1.length) (h1++[.lst ((kinds c).map .bl)]) else .bad
 | r=>r:=rfl
theorem zph (c:Nat):nrs (kd c)=true:=rfl
section
variable {h:MH}{v:D}{c:Nat}
theorem zib (h g:MH) (c:Nat):gc h (.ok (.obj (h++g).length) (h++g++[.lst (kd c)])) = .ok (.obj h.length) (h++[.lst (kd c)]):=by
 have:=zi7 h (g++[.lst (kd c)]) (k:=g.length) (xs:=kd c) ς (zph c)
 rw [List.length_append,List.append_assoc];exact this
theorem zdg {d w:D}{g:MH} (hc:c < 5) (hb:(ifS (tst (bin ltV (var 0) (zb (.int (3))))) (zbi (zj zcy (za (var 0) (za (var 2) zf)))) (ifS (tst (bin ltV (var 0) (zb (.int (6))))) (zbi (zj zcz (za (var 1) (za (bin zU (var 0) (zb (.int (3)))) (za (var 2) zf))))) (ifS (tst (bin ltV (var 0) (zb (.int (8))))) (zbi (ifE (tst (bin eqV (var 0) (zb (.int (6))))) (zj zdH (za (var 1) (za (var 2) zf))) (zj zcx (za (var 1) (za (zb (.int (0))) (za (var 2) zf)))))) (zbi (zj zdF (za (var 1) (za (var 2) zf))))))) [some d,some w,some v,none] h = .ex c (h++g)) :
   app zbz [d,w,v] h = .ok (.obj h.length) (h++[.lst (kd c)]):=by
 unfold app zbz
 rw [zhj]
 show gc h (zdt (zm _ _ [some d,some w,some v,none] h))=_
 rw [zfx,zhG,hb]
 simp only [if_pos hc,zi3,ziH]
 exact zib h g c
theorem zhW (x:zbc h 1 1000000 v) {w:D}:app zbz [.int 0,w,v] h = .ok (.obj h.length) (h++[.lst (kd 0)]):=by
 obtain ⟨g,e⟩:=zp9 (h:=h++[.lst []]) (v:=v) (t := .obj h.length) (u := .int 0) (x.app _)
 have m:app zcy [.int 0,v] h = .ex 0 (h++(.lst [] :: g)):=by
   unfold app zcy;simp [e]
 exact zdg (g := .lst [] :: g) ϑ (by simp [m])
theorem znL (x:NTs h 3 v) {w:D}:app zbz [.int 1,w,v] h = .ok (.obj h.length) (h++[.lst (kd 0)]):=by
 obtain ⟨g,e⟩:=zjh (h:=h) (P:=3) (turn:=0) ϑ ϑ ϑ ϑ x
 have m:app zcy [.int 1,v] h = .ex 0 (h++g):=by
   unfold app zcy;simp [e]
 exact zdg (g:=g) ϑ (by simp [m])
theorem zmf (x:zbc h 0 1000000 v) {w:D}:app zbz [.int 2,w,v] h = .ok (.obj h.length) (h++[.lst (kd 0)]):=by
 obtain ⟨g,e⟩:=zpG (h:=h++[.lst []]) (P:=3) (t := .obj h.length) ϑ ϑ (x.app _)
 have m:app zcy [.int 2,v] h = .ex 0 (h++(.lst [] :: g)):=by
   unfold app zcy;simp [e]
 exact zdg (g := .lst [] :: g) ϑ (by simp [m])
variable {w t:Nat}{P turn:Int}{ts:List T3}
theorem zlV (W:z8 h w t P turn ts) (x:zbc h 0 (P - 1) v):app zbz [.int 3,.obj w,v] h = .ok (.obj h.length) (h++[.lst (kd 1)]):=by
 have m:app zcz [.obj w,.int 0,v] h = .ex 1 h:=by unfold app zcz;simp [zmM W x]
 exact zdg (g:=[]) ϑ (by simp [m])
theorem zoO (W:z8 h w t P turn ts) (hP:1<=P) (x:zbc h 0 (P - 1) v):app zbz [.int 4,.obj w,v] h = .ok (.obj h.length) (h++[.lst (kd 1)]):=by
 have m:app zcz [.obj w,.int 1,v] h = .ex 1 h:=by unfold app zcz;simp [zn9 W hP x]
 exact zdg (g:=[]) ϑ (by simp [m])
theorem zmQ (W:z8 h w t P turn ts) (x:zbc h 0 (P - 1) v):app zbz [.int 5,.obj w,v] h = .ok (.obj h.length) (h++[.lst (kd 1)]):=by
 have m:app zcz [.obj w,.int 2,v] h = .ex 1 h:=by unfold app zcz;simp [zn5 W x]
 exact zdg (g:=[]) ϑ (by simp [m])
theorem zoQ (W:z8 h w t P turn ts) (x:zbc h 0 ((ts.length:Int) - 1) v):app zbz [.int 6,.obj w,v] h = .ok (.obj h.length) (h++[.lst (kd 2)]):=by
 obtain ⟨g,e⟩:=znw W x
 exact zdg (g:=g) ϑ (by simp [e])
theorem ziB (W:z8 h w t P turn ts) (hP:1<=P) (hl:app zcR [.obj w,.int 0,v] h = .ok .non h):app zbz [.int 7,.obj w,v] h = .ok (.obj h.length) (h++[.lst (kd 2)]) :=
 zdg (g:=[]) ϑ (by simp [zqg W hP hl])
theorem zjD {w2 t2:Nat}{P2 turn2:Int}{ts2:List T3} (W:z8 h w t P turn ts) (W2:z8 h w2 t2 P2 turn2 ts2) (hne:P≠P2∨turn≠turn2):app zbz [.int 8,.obj w,.obj w2] h = .ok (.obj h.length) (h++[.lst (kd 3)]) :=
 zdg (g:=[]) ϑ (by simp [zpp W W2 hne])
end
theorem zhJ (c:Nat) (h:MH) {a b:Nat} (ha:h[a]?=some (.lst (kd c))) (hb:h[b]?=some (.lst (kd c))) (e:zx):eqV (.obj a) (.obj b) e h = .ok (.bl true) h:=by
 have p:(kd c).all (D.pl 5)=true:=rfl
 have qb:∀ l:List Bool,zbJ (l.map .bl) (l.map .bl)=true:=fun l=>by
   induction l with
   | nil=>simp [zbJ]
   | cons b l ih=>simp [zbJ,peq,ih]
 have q:zbJ (kd c) (kd c)=true:=qb _
 simp [eqV,zbO,ha,hb,p,Cmp.eq,q]
theorem zhY {h:MH}{w v0:D}{d:Int}{u t:Nat}{things:List D}{c:Nat} (ht:h[t]?=some (.lst things)) (hu:h[u]?=some (.lst (kd c))):∀ (xs:List D) (g:MH) (acc:List D) (o:Option D),
   (∀ x∈xs,∀ g,app zbz [.int d,w,x] (h++g) = .ok (.obj (h++g).length) (h++g++[.lst (kd c)])) ->
   ∃ g',zbx (.nm 0) [(t,.lst things)] zcZ (bin eqV (zj zbz (za (var 2) (za (var 3) (za (var 0) zf)))) (var 1)) xs acc [o,some (.obj u),some (.int d),some w] (h++g) = .ok (acc++xs.map fun _=> .bl true) (h++g')
 | [],g,acc,o,_=>⟨g,by simp [zbx,zc5 (zl ht g)]⟩
 | x :: xs,g,acc,o,hx=>by
   obtain ⟨g',e⟩:=zhY (v0:=v0) ht hu xs (g++[.lst (kd c)]) (acc++[.bl true]) (some x) (fun y hy=>hx y (by simp [hy]))
   refine ⟨g',?_⟩
   have q:=hx x ς g
   have z:eqV (.obj (h.length+g.length)) (.obj u) [some x,some (.obj u),some (.int d),some w] (h++(g++[.lst (kd c)])) = .ok (.bl true) (h++(g++[.lst (kd c)])):=zhJ c _ (by simp [List.getElem?_append]) (zl hu _) _
   rw [<- List.append_assoc]at e
   have e2:acc++List.map (fun _=>D.bl true) (x :: xs)=acc++[.bl true]++xs.map fun _=> .bl true:=by simp
   rw [e2,<- e]
   conv=>lhs;unfold zbx
   simp only [zc5 (zl ht g),if_true]
   simp [q,z]
theorem zi4:∀ l:List D,zci (l.map fun _=>D.bl true)=some (l.map fun _=>true)
 | []=>by simp [zci]
 | x :: l=>by simp [zci,zi4 l]
theorem zdy {h:MH}{w:D}{dd u t:Nat}{ds:List Int}{things:List D}{c:Nat} (hd:h[dd]?=some (.lst (ds.map .int))) (ht:h[t]?=some (.lst things)) (hu:h[u]?=some (.lst (kd c))) (hl:things.length<=1000000)
   (H:∀ d∈ds,∀ x∈things,∀ g,app zbz [.int d,w,x] (h++g) = .ok (.obj (h++g).length) (h++g++[.lst (kd c)])):app zbA [.obj dd,w,.obj t,.obj u] h = .ok (.bl true) h:=by
 have L:∀ (xs:List Int) (g:MH) (o:Option D),(∀ d∈xs,d∈ds)->∃ g' o',zbH (.nm 4) [(dd,.lst (ds.map .int))] (ifS (zbd (tru (zfc (zd1 [none,some 3,some 4,some 1] (.nm 0) (itL (var 2)) zcZ (bin eqV (zj zbz (za (var 2) (za (var 3) (za (var 0) zf)))) (var 1)))))) (zL (zb (.bl false))) zI) (xs.map .int) [some (.obj dd),some w,some (.obj t),some (.obj u),o] (h++g) = .nx [some (.obj dd),some w,some (.obj t),some (.obj u),o'] (h++g'):=by
   intro xs
   induction xs with
   | nil=>intro g o _;exact ⟨g,o,by simp [zbH,zc5 (zl hd g)]⟩
   | cons d xs ih =>
     intro g o hx
     obtain ⟨g1,e1⟩:=zhY (v0 := .non) (w:=w) (d:=d) ht hu things g [] none (fun x hx' g=>H d (hx d ς) x hx' g)
     obtain ⟨g2,o2,e2⟩:=ih g1 (some (.int d)) (fun d' hd'=>hx d' (by simp [hd']))
     refine ⟨g2,o2,?_⟩
     rw [<- e2]
     simp [zbH,zc5 (zl hd g),zl ht,hl,zcJ,e1,zi4]
 obtain ⟨g,o,e⟩:=L ds [] none (fun d h=>h)
 rw [List.append_nil]at e
 unfold app zbA
 simp [hd,e]
 exact zfI h g true
end Mx
end
section
namespace Mx
open MI My
theorem zC {h L:MH}{k:Nat}{o:O} (e:L[k]?=some o):(h++L)[h.length+k]?=some o:=by
 rw [List.getElem?_append_right ω,Nat.add_sub_cancel_left];exact e
theorem ziJ {h L:MH}{o:O} (e:L[0]?=some o):(h++L)[h.length]?=some o:=zC (k:=0) e
theorem NTs.one {h:MH}{P:Int}{n:Nat}{v:D} (e:h[n]?=some (.lst [v])) (hv:NT h P v):NTs h P (.obj n) := .at (ts:=[]) e ς ς hv
theorem zmm {h:MH}{u:Nat}{far:Int} (hu:h[u]?=some (.lst (kd 0))) (h0:0<=far) (h1:far < 1000000):app zd7 [.obj u,.int far] h = .ok (.bl true) h:=by
 unfold app zd7
 simp
 simp only [Nat.add_assoc,Nat.reduceAdd]
 rw [zdy (c:=0) (ds:=[1])]
 case hd=>exact zC rfl
 case ht=>exact zC rfl
 case hu=>exact zl hu _
 case hl=>simp
 case H =>
   intro d hd x hx g
   rw [List.mem_singleton]at hd
   subst hd
   refine znL ?_
   simp only [List.mem_cons,List.not_mem_nil,or_false]at hx
   rcases hx with rfl | rfl | rfl | rfl | rfl | rfl | rfl | rfl | rfl | rfl | rfl | rfl | rfl | rfl | rfl | rfl | rfl | rfl | rfl | rfl | rfl
   . exact .ty rfl
   . exact .ty rfl
   . exact .ty rfl
   . exact .ty (by simp only [zT];rw [zl (ziJ rfl) g];rfl)
   . exact .ty rfl
   . exact .one (zl (zC rfl) g) (.ty rfl)
   . exact .one (zl (zC rfl) g) (.ty rfl)
   . exact .one (zl (zC rfl) g) (.len ϑ)
   . exact .one (zl (zC rfl) g) (.len ϑ)
   . exact .one (zl (zC rfl) g) (.ty (by simp only [zT];rw [zl (zC rfl) g];rfl))
   . exact .one (zl (zC rfl) g) (.eq ϑ ϑ)
   . exact .one (zl (zC rfl) g) (.b ϑ ϑ (.int ϑ))
   . exact .one (zl (zC rfl) g) (.a (.int ϑ))
   . exact .one (zl (zC rfl) g) (.a (.int ω))
   . exact .one (zl (zC rfl) g) (.n (z := .non) ϑ ϑ ϑ ϑ ϑ (.inl trivial))
   . exact .one (zl (zC rfl) g) (.n (z := .bl true) ϑ ϑ ϑ ϑ ϑ (.inl trivial))
   . exact .one (zl (zC rfl) g) (.a (x := .bl true) (.inl trivial))
   . exact .one (zl (zC rfl) g) (.a (x := .str (PySem.Str.ofString "0")) (.inl trivial))
   . exact .one (zl (zC rfl) g) (.n ϑ ϑ ϑ ϑ ϑ (.int ϑ))
   . exact .one (zl (zC rfl) g) (.n ϑ ϑ ϑ ϑ ϑ (.int ω))
   . exact .at (ts:=[⟨0,1,1⟩]) (rest:=[]) (zl (zC rfl) g) (fun t ht=>by rw [List.mem_singleton]at ht;subst ht;exact ⟨ϑ,ϑ,ϑ,ϑ,ϑ,ϑ,ϑ⟩) ϑ (.eq ϑ ϑ)
 simp
 rw [zdy (c:=0) (ds:=[0,2])]
 case hd=>exact zC rfl
 case ht=>exact zC rfl
 case hu=>exact zl hu _
 case hl=>simp
 case H =>
   intro d hd x hx g
   have hb:∀ G:MH,G[21]?=some (.lst [.int 1])->zbc (h++G++g) 1 1000000 x∧zbc (h++G++g) 0 1000000 x:=by
     intro G hG
     simp only [List.mem_cons,List.not_mem_nil,or_false]at hx
     rcases hx with rfl | rfl | rfl | rfl | rfl | rfl | rfl | rfl
     . exact ⟨.inl trivial,.inl trivial⟩
     . exact ⟨.inl trivial,.inl trivial⟩
     . exact ⟨.inl trivial,.inl trivial⟩
     . exact ⟨.inl (.inl ⟨_,zl (zC hG) g⟩),.inl (.inl ⟨_,zl (zC hG) g⟩)⟩
     . exact ⟨.int ϑ,.int ϑ⟩
     . exact ⟨.int ω,.int ω⟩
     . exact ⟨.int ϑ,.int ϑ⟩
     . exact ⟨.int ω,.int ω⟩
   simp only [List.mem_cons,List.not_mem_nil,or_false]at hd
   rcases hd with rfl | rfl
   . exact zhW (hb _ rfl).1
   . exact zmf (hb _ rfl).2
 simp
 rw [zdy (c:=0) (ds:=[0])]
 case hd=>exact zC rfl
 case ht=>exact zC rfl
 case hu=>exact zl hu _
 case hl=>simp
 case H =>
   intro d hd x hx g
   rw [List.mem_singleton]at hd hx
   subst hd;subst hx
   exact zhW (.int ϑ)
 exact zfI h _ true
end Mx
end
section
namespace Mx
open MI My
theorem NSs.one {h:MH}{m n:Nat}{x:D} (e:h[n]?=some (.lst [x])) (hx:NSt h m x):NSs h m (.obj n) := .fst e hx
theorem zm5 {h:MH}{w t du k0 k1 k2 k3:Nat}{P turn far:Int}{ts:List T3} (W:z8 h w t P turn ts) (hP:1<=P) (hdu:h[du]?=some (.lst [.obj k0,.obj k1,.obj k2,.obj k3])) (hk1:h[k1]?=some (.lst (kd 1))) (hk2:h[k2]?=some (.lst (kd 2))) (h0:0<=far) :
   app zd8 [.obj w,.int P,.int ts.length,.obj du,.int far] h = .ok (.bl true) h:=by
 have g1:∀ g e,zk (.obj du) (.int 1) e (h++g) = .ok (.obj k1) (h++g):=fun g e=>by simp only [zk,zl hdu];rfl
 have g2:∀ g e,zk (.obj du) (.int 2) e (h++g) = .ok (.obj k2) (h++g):=fun g e=>by simp only [zk,zl hdu];rfl
 have bad:∀ (G g:MH) (k:Nat) (m:Int),G[k]?=some (.lst [.int 0])->0<=m->∀ x∈[D.non,D.str (PySem.Str.ofString "0"),D.bl true,D.obj (h.length+k),D.int (-1),D.int (-1 - far),D.int m,D.int (m+far)],zbc (h++G++g) 0 (m - 1) x:=by
   intro G g k m hG hm x hx
   simp only [List.mem_cons,List.not_mem_nil,or_false]at hx
   rcases hx with rfl | rfl | rfl | rfl | rfl | rfl | rfl | rfl
   . exact .inl trivial
   . exact .inl trivial
   . exact .inl trivial
   . exact .inl (.inl ⟨_,zl (zC hG) g⟩)
   . exact .int ω
   . exact .int ω
   . exact .int ω
   . exact .int ω
 unfold app zd8
 simp [g1,g2]
 try simp only [Nat.add_assoc,Nat.reduceAdd]
 rw [zdy (c:=1) (ds:=[3,4,5])]
 case hd=>exact zC rfl
 case ht=>exact zC rfl
 case hu=>exact zl hk1 _
 case hl=>simp
 case H =>
   intro d hd x hx g
   simp only [List.mem_cons,List.not_mem_nil,or_false]at hd
   rcases hd with rfl | rfl | rfl
   . exact zlV ((W.app _).app g) (bad _ g 0 P rfl ω x hx)
   . exact zoO ((W.app _).app g) hP (bad _ g 0 P rfl ω x hx)
   . exact zmQ ((W.app _).app g) (bad _ g 0 P rfl ω x hx)
 simp [g1,g2]
 try simp only [Nat.add_assoc,Nat.reduceAdd]
 rw [zdy (c:=2) (ds:=[6])]
 case hd=>exact zC rfl
 case ht=>exact zC rfl
 case hu=>exact zl hk2 _
 case hl=>simp
 case H =>
   intro d hd x hx g
   rw [List.mem_singleton]at hd
   subst hd
   exact zoQ ((W.app _).app g) (bad _ g 3 ts.length rfl ω x hx)
 simp [g1,g2]
 try simp only [Nat.add_assoc,Nat.reduceAdd]
 rw [zdy (c:=2) (ds:=[7])]
 case hd=>exact zC rfl
 case ht=>exact zC rfl
 case hu=>exact zl hk2 _
 case hl=>simp
 case H =>
   intro d hd x hx g
   rw [List.mem_singleton]at hd
   subst hd
   refine ziB ((W.app _).app g) hP (zjB ((W.app _).app g) hP ?_)
   simp only [List.mem_cons,List.not_mem_nil,or_false]at hx
   rcases hx with rfl | rfl | rfl | rfl | rfl | rfl | rfl | rfl | rfl | rfl | rfl | rfl | rfl | rfl | rfl | rfl | rfl | rfl
   . exact .ty rfl
   . exact .ty rfl
   . exact .ty rfl
   . exact .ty rfl
   . exact .fst (zl (zC rfl) g) (.ty rfl)
   . exact .fst (zl (zC rfl) g) (.ty rfl)
   . exact .fst (zl (zC rfl) g) (.len ϑ)
   . exact .fst (zl (zC rfl) g) (.len ϑ)
   . exact .fst (zl (zC rfl) g) (.len ϑ)
   . exact .fst (zl (zC rfl) g) (.pl (x := .int ts.length) (.int ω))
   . exact .fst (zl (zC rfl) g) (.pl (x := .int (-1)) (.int ω))
   . exact .fst (zl (zC rfl) g) (.way ϑ ϑ)
   . exact .fst (zl (zC rfl) g) (.num (y := .bl true) trivial)
   . exact .fst (zl (zC rfl) g) (.way ϑ ϑ)
   . exact .fst (zl (zC rfl) g) (.pl (x := .str (PySem.Str.ofString "0")) (.inl trivial))
   . exact .fst (zl (zC rfl) g) (.pl (x := .bl true) (.inl trivial))
   . exact .fst (zl (zC rfl) g) (.ty (by simp only [zT];rw [zl (zC rfl) g];rfl))
   . exact .fst (zl (zC rfl) g) (.pl (x := .int (ts.length+far)) (.int ω))
 simp
 exact zfI h _ true
end Mx
end
section
namespace Mx
open MI My PySem
theorem zn1 {h:MH}{P turn:Int}{v:D} (h1:1<=P) (h2:P<=1000000) (h3:0<=turn) (h4:turn<=1000000) (x:NTs h P v):app zcT [.int P,v,.int turn] h = .ok (.obj h.length) (h++[.lst (kd 0)]):=by
 obtain ⟨g,e⟩:=zjh h1 h2 h3 h4 x
 unfold app zcT
 rw [zhj]
 show gc h (zdt (zm _ _ [some (.int P),some v,some (.int turn),none] h))=_
 rw [zfx,zhG]
 have m:zbi (zj (mkF 0 zbr) (za (var 0) (za (var 1) (za (var 2) zf)))) [some (.int P),some v,some (.int turn),none] h = .ex 0 (h++g):=by simp [e]
 rw [m]
 simp only [if_pos (show 0 < 5 by decide),zi3,ziH]
 exact zib h g 0
theorem zpu (l:List T3) (k:Nat) (hk:k < l.length):MI.cut (l.map tD) none (some (k:Int))=(l.take k).map tD:=by
 have e:((min (k:Int) (l.length:Int))).toNat=k:=by omega
 have e2:¬ (k:Int) < 0:=by omega
 simp [MI.cut,sIx,e2,e]
theorem zo9 (l:List T3) (k:Nat) (hk:k < l.length):MI.cut (l.map tD) (some ((k:Int)+1)) none=(l.drop (k+1)).map tD:=by
 have e:((min ((k:Int)+1) (l.length:Int))).toNat=k+1:=by omega
 have e2:¬ (k:Int)+1 < 0:=by omega
 simp [MI.cut,sIx,e2,e]
 exact List.take_of_length_le ς
theorem zqd (c:Nat) (h:MH) {a b:Nat} (ha:h[a]?=some (.lst (kd c))) (hb:h[b]?=some (.lst (kd c))) (e:zx):neV (.obj a) (.obj b) e h = .ok (.bl false) h:=by
 have q:=zhJ c h ha hb e
 unfold eqV at q
 unfold neV
 split at q
 . rename_i x y hx hy
   have:x.eq y=true:=by injection q with q1;injection q1
   simp [this]
 . cases q
theorem zoC {h:MH}{P:Int} (hP:1<=P) {q:Nat} (hq:h[q]?=some (.lst [.int 0,.int 1,.int 1])) (a:Nat) (e:zx):∃ v,zk (.tup [.non,.tup [.int 0,.int 0,.int 1],.tup [.int 0,.int P,.int 1],.tup [.int 0,.int 1,.str (PySem.Str.ofString "1")],.obj q]) (.int ((a:Int) % 5)) e h = .ok v h∧NT h P v:=by
 have c:(a:Int) % 5=0∨(a:Int) % 5=1∨(a:Int) % 5=2∨(a:Int) % 5=3∨(a:Int) % 5=4:=by omega
 rcases c with c | c | c | c | c <;> rw [c]
 . exact ⟨_,rfl,.ty rfl⟩
 . exact ⟨_,rfl,.eq ω ω⟩
 . exact ⟨_,rfl,.b ω ω (.int ω)⟩
 . refine ⟨_,rfl,?_⟩
   by_cases h1:P=1
   . subst h1;exact .b ω ω (.int ω)
   . exact .n ω ω ω ω ω (.inl trivial)
 . exact ⟨_,rfl,.ty (by simp only [zT];rw [hq];rfl)⟩
theorem zl7 {h:MH}{P turn:Int}{ts:List T3}{tn du k0 k1 k2 k3 a:Nat}{d0 d1 d3 d7:D}{m:Int}{o10 o11:Option D} (h1:1<=P) (h2:P<=1000000) (h3:0<=turn) (h4:turn<=1000000) (hts:∀ t∈ts,t.Ok P) (hl:ts.length<=63) (ht:h[tn]?=some (.lst (ts.map tD))) (hdu:h[du]?=some (.lst [.obj k0,.obj k1,.obj k2,.obj k3])) (hk0:h[k0]?=some (.lst (kd 0))) (ha:a < ts.length) :
   ∃ o10' g,(zm (zr (.nm 10) (bin zk (zy (za (zb .non) (za (zy (za (zb (.int (0))) (za (zb (.int (0))) (za (zb (.int (1))) zf)))) (za (zy (za (zb (.int (0))) (za (var 4) (za (zb (.int (1))) zf)))) (za (zy (za (zb (.int (0))) (za (zb (.int (1))) (za (zb (.str (Str.ofString "1"))) zf)))) (za (zo (zp (za (zb (.int (0))) (za (zb (.int (1))) (za (zb (.int (1))) zf))))) zf)))))) (bin zY (var 9) (zb (.int (5))))))
   (ifS (tst (bin neV (zj zcT (za (var 4) (za (zo (zb8 (zo (zb8 (zo (zcI (var 5) noP (zcE (var 9)))) (zp (za (var 10) zf)))) (zcI (var 5) (zcE (bin zA (var 9) (zb (.int (1))))) noP))) (za (var 6) zf)))) (bin zk (var 2) (zb (.int (0)))))) (zL (zb (.bl false))) zI)) [some d0,some d1,some (.obj du),some d3,some (.int P),some (.obj tn),some (.int turn),some d7,some (.int m),some (.int a),o10,o11] h = .nx [some d0,some d1,some (.obj du),some d3,some (.int P),some (.obj tn),some (.int turn),some d7,some (.int m),some (.int a),o10',o11] (h++g):=by
 obtain ⟨v,e1,hv⟩:=zoC (h:=h++[.lst [.int 0,.int 1,.int 1]]) h1 (q:=h.length) ς a [some d0,some d1,some (.obj du),some d3,some (.int P),some (.obj tn),some (.int turn),some d7,some (.int m),some (.int a),o10,o11]
 have cT:=zpu ts a ha
 have cF:=zo9 ts a ha
 have hlA:((ts.take a).map tD).length+(((ts.drop (a+1)).map tD).length+1)<=1000000:=by simp;omega
 have hA:∀ t∈ts.take a,t.Ok P:=fun t hx=>hts t (List.mem_of_mem_take hx)
 have sp0:∀ (B:List D) (hB:((ts.take a).map tD).length+(B.length+1)<=1000000) (A:List D),A=(ts.take a).map tD->app zcT [D.int P,D.obj (h.length+3),D.int turn] (h++[.lst [.int 0,.int 1,.int 1],.lst A,.lst (A++[v]),.lst (A++v :: B)]) = .ok (.obj (h.length+4)) (h++[.lst [.int 0,.int 1,.int 1],.lst A,.lst (A++[v]),.lst (A++v :: B),.lst (kd 0)]):=by
   rintro B hB A rfl
   have q:=zn1 (h:=h++[.lst [.int 0,.int 1,.int 1],.lst ((ts.take a).map tD),.lst ((ts.take a).map tD++[v]),.lst ((ts.take a).map tD++v :: B)]) (v := .obj (h.length+3)) h1 h2 h3 h4
     (.at (ts:=ts.take a) (v:=v) (rest:=B) (zC rfl) hA (by rw [List.length_append,List.length_cons];exact hB) (by
       have:=hv.app [.lst ((ts.take a).map tD),.lst ((ts.take a).map tD++[v]),.lst ((ts.take a).map tD++v :: B)]
       rw [List.append_assoc]at this;exact this))
   rw [q,List.append_assoc,List.length_append];rfl
 generalize hAe:(ts.take a).map tD=A at cT hlA
 generalize hBe:(ts.drop (a+1)).map tD=B at cF hlA
 have sp:=sp0 B (by rw [hAe];exact hlA) A hAe.symm
 have hlen:A.length<=999999:=by omega
 have hlen2:A.length+1+B.length<=1000000:=by omega
 have g0:∀ g e,zk (.obj du) (.int 0) e (h++g) = .ok (.obj k0) (h++g):=fun g e=>by simp only [zk,zl hdu];rfl
 have ne:∀ e,neV (.obj (h.length+4)) (.obj k0) e (h++[.lst [.int 0,.int 1,.int 1],.lst A,.lst (A++[v]),.lst (A++v :: B),.lst (kd 0)]) = .ok (.bl false) (h++[.lst [.int 0,.int 1,.int 1],.lst A,.lst (A++[v]),.lst (A++v :: B),.lst (kd 0)]):=fun e=>zqd 0 _ (zC rfl) (zl hk0 _) e
 refine ⟨some v,[.lst [.int 0,.int 1,.int 1],.lst A,.lst (A++[v]),.lst (A++v :: B),.lst (kd 0)],?_⟩
 simp [e1,zl ht,cT,cF,hlen,hlen2,sp,g0,ne]
end Mx
end
section
namespace Mx
open MI My PySem
theorem zmB {m s:Int} (hs:0 < s) {k:Nat} (hk:k < rz 0 m s):(k:Int) * s < m:=by
 unfold rz at hk
 split at hk
 . rename_i hm
   have h1:(0:Int)<=(m - 0 - 1) / s:=Int.ediv_nonneg ω ω
   have h2:(k:Int)<=(m - 0 - 1) / s:=by omega
   have h3:(k:Int) * s<=(m - 0 - 1) / s * s:=Int.mul_le_mul_of_nonneg_right h2 ω
   have h4:=Int.ediv_mul_le (m - 0 - 1) (b:=s) ω
   omega
 . omega
theorem zod (X:List D) (far:D):zbH (.nm 3) [] (zbi (zcc (var 2) (zo (zp (za (bin eqV (var 3) (zb (.int (0)))) (za (bin eqV (var 3) (zb (.int (1)))) (za (bin eqV (var 3) (zb (.int (2)))) (za (bin eqV (var 3) (zb (.int (3)))) (za (zb (.bl false)) (za (zb (.bl true)) zf)))))))))) ((List.range 4).map fun (k:Nat)=>D.int k) [some (.obj 0),some far,some (.obj 1),none,none,none,none,none,none,none,none,none] [.scr X,.lst []] =
   .nx [some (.obj 0),some far,some (.obj 1),some (.int 3),none,none,none,none,none,none,none,none] [.scr X,.lst [.obj 2,.obj 3,.obj 4,.obj 5],.lst (kd 0),.lst (kd 1),.lst (kd 2),.lst (kd 3)]:=ϱ
theorem zqk {h:MH}{P turn:Int}{ts:List T3}{tn du k0 k1 k2 k3:Nat}{d0 d1 d3 d7:D}{s:Int} (hs:0 < s) {o9 o10 o11:Option D} (h1:1<=P) (h2:P<=1000000) (h3:0<=turn) (h4:turn<=1000000) (hts:∀ t∈ts,t.Ok P) (hl:ts.length<=63) (ht:h[tn]?=some (.lst (ts.map tD))) (hdu:h[du]?=some (.lst [.obj k0,.obj k1,.obj k2,.obj k3])) (hk0:h[k0]?=some (.lst (kd 0))) :
   ∃ o9' o10' g,zbH (.nm 9) [] (zm (zr (.nm 10) (bin zk (zy (za (zb .non) (za (zy (za (zb (.int (0))) (za (zb (.int (0))) (za (zb (.int (1))) zf)))) (za (zy (za (zb (.int (0))) (za (var 4) (za (zb (.int (1))) zf)))) (za (zy (za (zb (.int (0))) (za (zb (.int (1))) (za (zb (.str (Str.ofString "1"))) zf)))) (za (zo (zp (za (zb (.int (0))) (za (zb (.int (1))) (za (zb (.int (1))) zf))))) zf)))))) (bin zY (var 9) (zb (.int (5))))))
   (ifS (tst (bin neV (zj zcT (za (var 4) (za (zo (zb8 (zo (zb8 (zo (zcI (var 5) noP (zcE (var 9)))) (zp (za (var 10) zf)))) (zcI (var 5) (zcE (bin zA (var 9) (zb (.int (1))))) noP))) (za (var 6) zf)))) (bin zk (var 2) (zb (.int (0)))))) (zL (zb (.bl false))) zI)) ((List.range (rz 0 ts.length s)).map fun (m:Nat)=>D.int (0+m * s)) [some d0,some d1,some (.obj du),some d3,some (.int P),some (.obj tn),some (.int turn),some d7,some (.int ts.length),o9,o10,o11] h = .nx [some d0,some d1,some (.obj du),some d3,some (.int P),some (.obj tn),some (.int turn),some d7,some (.int ts.length),o9',o10',o11] (h++g):=by
 obtain ⟨e2,h2',q1,q2⟩:=zhO (t := .nm 9) (gs:=[]) (body:=(zm (zr (.nm 10) (bin zk (zy (za (zb .non) (za (zy (za (zb (.int (0))) (za (zb (.int (0))) (za (zb (.int (1))) zf)))) (za (zy (za (zb (.int (0))) (za (var 4) (za (zb (.int (1))) zf)))) (za (zy (za (zb (.int (0))) (za (zb (.int (1))) (za (zb (.str (Str.ofString "1"))) zf)))) (za (zo (zp (za (zb (.int (0))) (za (zb (.int (1))) (za (zb (.int (1))) zf))))) zf)))))) (bin zY (var 9) (zb (.int (5))))))
   (ifS (tst (bin neV (zj zcT (za (var 4) (za (zo (zb8 (zo (zb8 (zo (zcI (var 5) noP (zcE (var 9)))) (zp (za (var 10) zf)))) (zcI (var 5) (zcE (bin zA (var 9) (zb (.int (1))))) noP))) (za (var 6) zf)))) (bin zk (var 2) (zb (.int (0)))))) (zL (zb (.bl false))) zI))) (fun (m:Nat)=>D.int (0+m * s)) (fun _ e h'=>∃ o9' o10' g,e=[some d0,some d1,some (.obj du),some d3,some (.int P),some (.obj tn),some (.int turn),some d7,some (.int ts.length),o9',o10',o11]∧h'=h++g) (List.range (rz 0 ts.length s)) (by
   rintro d x r e h' eq ⟨o9',o10',g,rfl,rfl⟩
   have hx:x < rz 0 ts.length s:=by
     have:x∈List.range (rz 0 ts.length s):=by rw [<- eq];simp
     simpa using this
   have hlt:=zmB hs hx
   have h0:0<=(x:Int) * s:=Int.mul_nonneg ω ω
   obtain ⟨a,ea⟩:∃ a:Nat,(0:Int)+x * s=a:=⟨((x:Int) * s).toNat,ω⟩
   refine ⟨rfl,_,rfl,?_⟩
   rw [ea]
   obtain ⟨o,g2,q⟩:=zl7 (h:=h++g) (a:=a) (d0:=d0) (d1:=d1) (d3:=d3) (d7:=d7) (m:=ts.length) (o10:=o10') (o11:=o11) h1 h2 h3 h4 hts hl (zl ht g) (zl hdu g) (zl hk0 g) ω
   exact ⟨_,_,q,_,_,g++g2,rfl,by rw [List.append_assoc]⟩) (fun e h' _=>rfl) _ h ⟨_,_,[],rfl,ς⟩
 obtain ⟨o9',o10',g,rfl,rfl⟩:=q2
 exact ⟨o9',o10',g,q1⟩
theorem law_true (ns:List Int) (hns:ns.length<=63):∃ h',zfl [.obj 0] [.scr (ns.map .int)] = .ok (.bl true) h':=by
 obtain ⟨c0,hc0⟩:=zfv (ns:=ns) (n:=0) (h:=[.scr (ns.map .int)]) rfl (i:=0) ϑ
 have hfar:zfQ (.int 10) (.int 6)=fun _ h=> .ok (.int 1000000) h:=rfl
 generalize hf:c0 % 1000000=far
 have f0:0<=far:=by omega
 have f1:far < 1000000:=by omega
 unfold zfl
 simp only [zhj,List.length_cons,List.length_nil,List.map,List.replicate]
 simp [hc0,hfar,hf,zod]
 obtain ⟨H0,hH⟩:∃ H0:MH,H0=[O.scr (List.map D.int ns),O.lst [D.obj 2,D.obj 3,D.obj 4,D.obj 5],O.lst (kd 0),O.lst (kd 1),O.lst (kd 2),O.lst (kd 3)]:=⟨_,rfl⟩
 have z0:H0[0]?=some (.scr (ns.map .int)):=by rw [hH];rfl
 have z1:H0[1]?=some (.lst [.obj 2,.obj 3,.obj 4,.obj 5]):=by rw [hH];rfl
 have z2:H0[2]?=some (.lst (kd 0)):=by rw [hH];rfl
 have z3:H0[3]?=some (.lst (kd 1)):=by rw [hH];rfl
 have z4:H0[4]?=some (.lst (kd 2)):=by rw [hH];rfl
 have z5:H0[5]?=some (.lst (kd 3)):=by rw [hH];rfl
 rw [<- hH]
 clear hH hc0 hfar hf
 obtain ⟨P,turn,ts,ew,P1,P100,t0,t1,hlen,hts⟩:=zmk hns (n:=0) (h:=H0) z0
 have wi:=ze5 (h:=H0++[.lst (ts.map tD)]) (n:=H0.length) (P:=P) (turn:=turn) (ts:=ts) ς ω ω t0 t1 ω hts
 obtain ⟨H2,hH2⟩:∃ H2:MH,H2=H0++[.lst (ts.map tD)]++[.ins 0 [(0,.int P),(1,.int turn),(2,.obj ((H0++[O.lst (ts.map tD)]).length+1))],.lst (ts.map tD)]:=⟨_,rfl⟩
 have W:z8 H2 (H0++[O.lst (ts.map tD)]).length ((H0++[O.lst (ts.map tD)]).length+1) P turn ts:=by rw [hH2];exact zmj
 have y1:H2[1]?=some (.lst [.obj 2,.obj 3,.obj 4,.obj 5]):=by rw [hH2,List.append_assoc];exact zl z1 _
 have y2:H2[2]?=some (.lst (kd 0)):=by rw [hH2,List.append_assoc];exact zl z2 _
 have y3:H2[3]?=some (.lst (kd 1)):=by rw [hH2,List.append_assoc];exact zl z3 _
 have y4:H2[4]?=some (.lst (kd 2)):=by rw [hH2,List.append_assoc];exact zl z4 _
 have y5:H2[5]?=some (.lst (kd 3)):=by rw [hH2,List.append_assoc];exact zl z5 _
 have yt:H2[H0.length]?=some (.lst (ts.map tD)):=by rw [hH2];exact zl ς _
 rw [<- hH2]at wi
 generalize hw:(H0++[O.lst (ts.map tD)]).length=w at wi W
 clear hH2
 have mk:=zmm (h:=H2) (u:=2) (far:=far) y2 f0 f1
 have dr:=zm5 (h:=H2) (du:=1) (far:=far) W ω y1 y3 y4 f0
 have g0:∀ g e,zk (.obj 1) (.int 0) e (H2++g) = .ok (.obj 2) (H2++g):=fun g e=>by simp only [zk,zl y1];rfl
 have g0':∀ e,zk (.obj 1) (.int 0) e H2 = .ok (.obj 2) H2:=fun e=>by simp only [zk,y1];rfl
 have g2:∀ g e,zk (.obj 1) (.int 2) e (H2++g) = .ok (.obj 4) (H2++g):=fun g e=>by simp only [zk,zl y1];rfl
 have g3:∀ g e,zk (.obj 1) (.int 3) e (H2++g) = .ok (.obj 5) (H2++g):=fun g e=>by simp only [zk,zl y1];rfl
 simp [ew,wi,yt,g0',mk,dr]
 have hs:(0:Int) < 1+(ts.length:Int) / 6:=by omega
 have it:∀ e:zx,e[8]?=some (some (.int ts.length))->zfC (zb (D.int 0)) (var 8) (MI.bin zA (zb (D.int 1)) (MI.bin zbR (var 8) (zb (D.int 6)))) e H2 = .ok ((List.range (rz 0 ts.length (1+(ts.length:Int) / 6))).map fun (m:Nat)=>D.int (0+m * (1+(ts.length:Int) / 6)),[]) H2:=by
   intro e he
   have c1:(-1000000:Int)<=ts.length∧(ts.length:Int)<=1000000:=by omega
   have c2:1+(ts.length:Int) / 6<=1000000:=by omega
   unfold zfC
   simp [he,zbR,c1,c2,hs]
 rw [it _ rfl]
 obtain ⟨o9,o10,g,lp⟩:=zqk (h:=H2) (P:=P) (turn:=turn) (ts:=ts) (tn:=H0.length) (du:=1) (k0:=2) (k1:=3) (k2:=4) (k3:=5) (d0 := .obj 0) (d1 := .int far) (d3 := .int 3) (d7 := .obj w) hs (o9:=none) (o10:=none) (o11:=none) ω ω t0 t1 hts ω yt y1 y2
 simp only [zpV]
 rw [lp]
 obtain ⟨H3,hH3⟩:∃ H3:MH,H3=H2++g:=⟨_,rfl⟩
 have W3:z8 H3 w (w+1) P turn ts:=by rw [hH3];exact W.app g
 have x1:H3[1]?=some (.lst [.obj 2,.obj 3,.obj 4,.obj 5]):=by rw [hH3];exact zl y1 _
 have x4:H3[4]?=some (.lst (kd 2)):=by rw [hH3];exact zl y4 _
 have x5:H3[5]?=some (.lst (kd 3)):=by rw [hH3];exact zl y5 _
 have xt:H3[H0.length]?=some (.lst (ts.map tD)):=by rw [hH3];exact zl yt _
 rw [<- hH3]
 clear hH3 lp it mk dr wi ew g0 g0' g2 g3 W y1 y2 y3 y4 y5 yt z0 z1 z2 z3 z4 z5 hw
 have g2:∀ g e,zk (.obj 1) (.int 2) e (H3++g) = .ok (.obj 4) (H3++g):=fun g e=>by simp only [zk,zl x1];rfl
 have g3:∀ g e,zk (.obj 1) (.int 3) e (H3++g) = .ok (.obj 5) (H3++g):=fun g e=>by simp only [zk,zl x1];rfl
 have hts':∀ t∈ts,t.Ok ((P:Int)+1):=fun t ht=>⟨(hts t ht).a0,by have:=(hts t ht).a1;omega,(hts t ht).b0,by have:=(hts t ht).b1;omega,(hts t ht).ne,(hts t ht).n0,(hts t ht).n1⟩
 have w1:=ze5 (h:=H3) (n:=H0.length) (P:=(P:Int)+1) (turn:=turn) (ts:=ts) xt ω ω t0 t1 ω hts'
 obtain ⟨tq,htq,hq0,hq1,hq2⟩:∃ tq:Int,(if turn > 8 then turn - 1 else turn+1)=tq∧0<=tq∧tq<=1000000∧tq≠turn:=⟨_,rfl,by split <;> omega,by split <;> omega,by split <;> omega⟩
 have w2:=fun G=>ze5 (h:=H3++G) (n:=H0.length) (P:=(P:Int)) (turn:=tq) (ts:=ts) (zl xt G) ω ω hq0 hq1 ω hts
 have ife:∀ G:MH,(if 8 < turn then R.ok (D.int (turn - 1)) G else R.ok (D.int (turn+1)) G)=R.ok (D.int tq) G:=by
   intro G
   rw [<- htq]
   by_cases h8:8 < turn
   . rw [if_pos h8,if_pos h8]
   . rw [if_neg h8,if_neg h8]
 simp [w1,w2,ife,g3]
 simp only [Nat.add_assoc,Nat.reduceAdd]
 rw [zdy (c:=3) (ds:=[8])]
 case hd=>exact zC rfl
 case ht=>exact zC rfl
 case hu=>exact zl x5 _
 case hl=>simp
 case H =>
   intro d hd x hx g
   rw [List.mem_singleton]at hd
   subst hd
   simp only [List.mem_cons,List.not_mem_nil,or_false]at hx
   rcases hx with rfl | rfl
   . exact zjD ((W3.app _).app g) (t2:=H3.length+1) (P2:=(P:Int)+1) (turn2:=turn) (ts2:=ts) ⟨zl (ziJ rfl) g,zl (zC rfl) g⟩ (.inl ω)
   . exact zjD ((W3.app _).app g) (t2:=H3.length+3) (P2:=(P:Int)) (turn2:=tq) (ts2:=ts) ⟨zl (zC rfl) g,zl (zC rfl) g⟩ (.inr (Ne.symm hq2))
 have w3:∀ (h:MH) (n:Nat),h[n]?=some (.lst [.tup [.int 0,.int 1,.int 5]])->app (mkF 0 zbr) [.int 2,.obj n,.int 0] h = .ok (.obj h.length) (h++[.ins 0 [(0,.int 2),(1,.int 0),(2,.obj (h.length+1))],.lst [.tup [.int 0,.int 1,.int 5]]]):=fun h n e =>
   ze5 (ts:=[⟨0,1,5⟩]) e ϑ ϑ ϑ ϑ ϑ (fun t ht=>by rw [List.mem_singleton]at ht;subst ht;exact ⟨ϑ,ϑ,ϑ,ϑ,ϑ,ϑ,ϑ⟩)
 simp [w3,g2]
 simp only [Nat.add_assoc,Nat.reduceAdd]
 rw [zdy (c:=2) (ds:=[7])]
 case hd=>exact zC rfl
 case ht=>exact zC rfl
 case hu=>exact zl x4 _
 case hl=>simp
 case H =>
   intro d hd x hx g
   rw [List.mem_singleton]at hd
   subst hd
   simp only [List.mem_cons,List.not_mem_nil,or_false]at hx
   have key:∀ G:MH,G[8]?=some (O.ins 0 [(0,D.int 2),(1,D.int 0),(2,D.obj (List.length H3+9))])->G[9]?=some (O.lst [D.tup [D.int 0,D.int 1,D.int 5]])->G[10]?=some (O.lst [D.tup [D.int 0,D.bl true]])->G[11]?=some (O.lst [D.tup [D.int 0,D.int (-1)]]) ->
       app zbz [.int 7,.obj (H3.length+8),x] (H3++G++g) = .ok (.obj (H3++G++g).length) (H3++G++g++[.lst (kd 2)]):=by
     intro G q8 q9 q10 q11
     have W':z8 (H3++G++g) (H3.length+8) (H3.length+9) 2 0 [⟨0,1,5⟩]:=⟨zl (zC q8) g,zl (zC q9) g⟩
     refine ziB W' ϑ ?_
     rcases hx with rfl | rfl
     . exact zjB W' ϑ (.fst (zl (zC q10) g) (.num (y := .bl true) trivial))
     . exact (zeQ W' (S:=[⟨0,false⟩]) (zl (zC q11) g) ϑ (a:=0) ϑ ϑ).trans ϱ
   exact key _ rfl rfl rfl rfl
 have w4:∀ (h:MH) (n:Nat) (p q:Int),h[n]?=some (.lst [])->1<=p->p<=1000000->0<=q->q<=1000000->app (mkF 0 zbr) [.int p,.obj n,.int q] h = .ok (.obj h.length) (h++[.ins 0 [(0,.int p),(1,.int q),(2,.obj (h.length+1))],.lst []]):=fun h n p q e a b c d =>
   ze5 (ts:=[]) e a b c d ϑ (fun t ht=>nomatch ht)
 have wt:=fun G=>zc7 (W3.app G)
 have eqT:∀ (h:MH) (a b:Nat) (e:zx),h[a]?=some (.lst (ts.map tD))->h[b]?=some (.lst (ts.map tD))->eqV (.obj a) (.obj b) e h = .ok (.bl true) h:=by
   intro h a b e ha hb
   have p:(ts.map tD).all (D.pl 5)=true:=by simp [List.all_eq_true,tD,D.pl]
   have q:∀ l:List T3,zbJ (l.map tD) (l.map tD)=true:=fun l=>by
     induction l with
     | nil=>simp [zbJ]
     | cons t l ih=>simp [zbJ,peq,tD]at ih ⊢;exact ih
   simp [eqV,zbO,ha,hb,p,Cmp.eq,q]
 simp [W3.wA,zdB,wt,w4]
 rw [eqT _ _ _ _ (zC rfl) (zl xt _)]
 simp [w4]
end Mx
end
section
namespace L2
open PySem PySem.Spec PyProof.Rows
noncomputable abbrev Key:=Sum Int Str
noncomputable def zeC:Key->Value->Bool
 | .inl k,v=>Value.isInt k v
 | .inr x,v=>Value.isStrOf x v
noncomputable def zoE (w:World):Key->Int
 | .inl k=>hashInt k
 | .inr x=>hashStr w x
theorem zc9:∀ {k:Key}{v:Value},zeC k v=true->(∃ i t,k=Sum.inl i∧v=Value.int i t)∨(∃ x t,k=Sum.inr x∧v=Value.str x t)
 | .inl i,v,h=>by
   obtain ⟨t,e⟩:=Value.isInt_shape (k:=i) (v:=v) h
   exact .inl ⟨i,t,rfl,e⟩
 | .inr x,v,h=>by
   obtain ⟨t,e⟩:=Value.isStrOf_shape (x:=x) (v:=v) h
   exact .inr ⟨x,t,rfl,e⟩
theorem zqe (i:Int) (t:Tok):zeC (.inl i) (.int i t)=true:=by simp [zeC,Value.isInt]
theorem zn0 (x:Str) (t:Tok):zeC (.inr x) (.str x t)=true:=by simp [zeC,Value.isStrOf]
theorem zoT (a b:Int):decide ((Sum.inl a:Key)=Sum.inl b)=(a == b):=by
 by_cases e:a=b
 . subst e;simp
 . have h:¬ (Sum.inl a:Key)=Sum.inl b:=fun q=>e (Sum.inl.inj q)
   rw [decide_eq_false h]
   exact (beq_eq_false_iff_ne.mpr e).symm
theorem zmc (a b:Str):decide ((Sum.inr a:Key)=Sum.inr b)=decide (a=b):=by
 by_cases e:a=b
 . subst e;simp
 . have h:¬ (Sum.inr a:Key)=Sum.inr b:=fun q=>e (Sum.inr.inj q)
   rw [decide_eq_false h,decide_eq_false e]
theorem zpB (a:Int) (b:Str):decide ((Sum.inl a:Key)=Sum.inr b)=false:=decide_eq_false (fun q=>nomatch q)
theorem zoj (a:Str) (b:Int):decide ((Sum.inr a:Key)=Sum.inl b)=false:=decide_eq_false (fun q=>nomatch q)
noncomputable def zcH (prog:Program) (w:World):PySem.KeyKind prog w Key where
 is:=zeC
 hash:=zoE w
 inj:=fun v a b ha hb=>by
   rcases zc9 ha with ⟨i,t,rfl,rfl⟩ | ⟨x,t,rfl,rfl⟩
   . rcases zc9 hb with ⟨j,u,rfl,e⟩ | ⟨y,u,rfl,e⟩
     . injection e with e1 _;rw [e1]
     . exact nomatch e
   . rcases zc9 hb with ⟨j,u,rfl,e⟩ | ⟨y,u,rfl,e⟩
     . exact nomatch e
     . injection e with e1 _;rw [e1]
 byValue:=fun k v h=>by
   rcases zc9 h with ⟨i,t,rfl,rfl⟩ | ⟨x,t,rfl,rfl⟩ <;> rfl
 pyHash:=fun hv h=>by
   rcases zc9 hv with ⟨i,t,rfl,rfl⟩ | ⟨x,t,rfl,rfl⟩
   . exact wpAny_pyHash_int h
   . exact wpAny_pyHash_str h
 eqBool:=fun hu hv h=>by
   rcases zc9 hu with ⟨i,t,rfl,rfl⟩ | ⟨x,t,rfl,rfl⟩
   . rcases zc9 hv with ⟨j,u,rfl,rfl⟩ | ⟨y,u,rfl,rfl⟩
     . rw [zoT]at h;exact wpAny_eqBool_int h
     . rw [zpB]at h;exact SeqAt.EqAt.int_str i t y u _ _ _ _ h
   . rcases zc9 hv with ⟨j,u,rfl,rfl⟩ | ⟨y,u,rfl,rfl⟩
     . rw [zoj]at h;exact SeqAt.EqAt.str_int x t j u _ _ _ _ h
     . rw [zmc]at h;exact wpAny_eqBool_str h
 «strs»:=fun k x t v h=>by
   rcases zc9 h with ⟨i,u,rfl,e⟩ | ⟨y,u,rfl,e⟩
   . exact nomatch e
   . injection e with e1 _
     subst e1
     cases v <;> rfl
theorem zpZ (prog:Program) (w:World) (i:Int) (t:Tok):(zcH prog w).is (.inl i) (.int i t)=true:=zqe i t
theorem zoi (prog:Program) (w:World) (x:Str) (t:Tok):(zcH prog w).is (.inr x) (.str x t)=true:=zn0 x t
end L2
namespace L2
open PySem PySem.Spec PyProof.Rows
inductive V where
 | non | bl (b:Bool) | int (i:Int) | str (x:Str) | byt (b:Array UInt8) | flt (b:UInt64) | ref (a:Addr) | ty (n:String)
 deriving DecidableEq
noncomputable def zq:V->Value->Prop
 | .non,u=>u=Value.none
 | .bl b,u=>u=Value.bool b
 | .int i,u=>∃ t,u=Value.int i t
 | .str x,u=>∃ t,u=Value.str x t
 | .byt b,u=>∃ t,u=Value.bytes b t
 | .flt b,u=>∃ t,u=Value.float b t
 | .ref a,u=>u=Value.ref a
 | .ty n,u=>u=Value.type n
noncomputable abbrev zE:List V->List Value->Prop:=Paired zq
theorem zE.length {xs:List V}{us:List Value} (r:zE xs us):xs.length=us.length:=Paired.length r
theorem zE.get:∀ {xs:List V}{us:List Value}{i:Nat}{x:V},zE xs us->xs[i]?=some x->∃ u,us[i]?=some u∧zq x u
 | _,_,_,_,.nil,e=>by simp at e
 | _,_,0,_,.cons r _,e=>by simp at e;subst e;exact ⟨_,rfl,r⟩
 | _,_,i+1,x,.cons _ t,e=>by
   obtain ⟨u,h1,h2⟩:=zE.get (i:=i) (x:=x) t (by simpa using e)
   exact ⟨u,by simpa using h1,h2⟩
theorem zE.append:∀ {xs ys:List V}{us ws:List Value},zE xs us->zE ys ws->zE (xs++ys) (us++ws)
 | _,_,_,_,.nil,s=>s
 | _,_,_,_,.cons r t,s=> .cons r (zE.append t s)
theorem zE.take:∀ {xs:List V}{us:List Value} (n:Nat),zE xs us->zE (xs.take n) (us.take n)
 | _,_,0,_=> .nil
 | _,_,_+1,.nil=> .nil
 | _,_,n+1,.cons r t=> .cons r (zE.take n t)
theorem zE.drop:∀ {xs:List V}{us:List Value} (n:Nat),zE xs us->zE (xs.drop n) (us.drop n)
 | _,_,0,r=>r
 | _,_,_+1,.nil=> .nil
 | _,_,n+1,.cons _ t=>zE.drop n t
noncomputable def zbY:Option V->Option Value->Prop
 | some v,some u=>zq v u
 | none,none=>True
 | _,_=>False
noncomputable def KV {κ:Type}:List (κ×V)->List (κ×Value)->Prop:=Paired fun (p:κ×V) (q:κ×Value)=>p.1=q.1∧zq p.2 q.2
noncomputable def kV:Key->V
 | .inl i=> .int i
 | .inr x=> .str x
inductive HO where
 | lst (xs:List V)
 | tup (xs:List V)
 | dK (kvs:List (Key×V)) | dT (kvs:List (List Key×V))
 | set (S:Int->Bool) (n:Nat)
 | ins (C dx:Addr) (fs:List (Str×V))
 | own (x:Addr)
 | xd (fs:List (Str×V))
 | met (f x:Addr)
 | rng (lo hi:Int)
 | frz (o:Obj) (u:HO)
 | tbl (ps:Array Value)
 | ext (φ:Heap->Prop)
noncomputable abbrev Hp:=Addr->Option HO
noncomputable def upd (H:Hp) (a:Addr) (o:HO):Hp:=fun b=>if b=a then some o else H b
theorem zbN {H:Hp}{a:Addr}{o:HO}:upd H a o a=some o:=by unfold upd;rw [if_pos rfl]
theorem zN {H:Hp}{a b:Addr}{o:HO} (h:b≠a):upd H a o b=H b:=by unfold upd;rw [if_neg h]
theorem zdh {H:Hp}{a b:Addr}{o:HO} (h:H a=some o) (h':H b=none):a≠b:=by
 intro e;subst e;rw [h]at h';cases h'
section
variable (P:Program) (w:World)
noncomputable def zbk (H:Hp) (h:Heap) (a:Addr):HO->Prop
 | .lst xs=>xs.length<=sizeLine∧∃ (its:List Value) (n:Nat),zE xs its∧h.get? a=some { cls := .type "list",data := .seq its.toArray n }
 | .tup xs=>xs.length<=sizeLine∧∃ its:List Value,zE xs its∧IsTup h a its.toArray
 | .dK kvs=>kvs.length<=sizeLine∧(a == sysModules)=false∧∃ vs,KV kvs vs∧h.DictOf (zcH P w) a vs
 | .dT kvs=>kvs.length<=sizeLine∧(a == sysModules)=false∧∃ xs:List (List Key×Addr×Value),
     Paired (fun (p:List Key×V) (q:List Key×Addr×Value)=>p.1=q.1∧H q.2.1=some (.tup (p.1.map kV))∧zq p.2 q.2.2) kvs xs ∧
     ∃ o es ep,h.get? a=some o∧o.ExactDict∧o.data = .dict es ep∧es.toList=xs.map (entryOfKey (tupleKind (zcH P w)))∧(xs.map (·.1)).Nodup
 | .set S n=>h.SetOf (intKind P w) a S n
 | .ins C dx fs=>H dx=some (.own a)∧fs.length<=1000∧dx≠a∧h.get? a=some (PySem.W.instObj C dx) ∧
     ∃ mA,h.Ns1 dx mA∧(∀ f,zbY (fs.lookup f) (mA f))∧PySem.Within mA (fs.map (·.1))
 | .own _=>∃ o,h.get? a=some o
 | .xd fs=>∃ mA,h.Ns1 a mA∧∀ f,zbY (fs.lookup f) (mA f)
 | .rng lo hi=>∃ t u v,h.get? a=some { cls := .type "range",data := .fields #[.int lo t,.int hi u,.int 1 v] }
 | .frz o u=>h.get? a=some o∧zbk H h a u
 | .tbl ps=>h.get? a=some { cls := .none,data := .fields ps }
 | .met f x=>h.get? a=some (PySem.W.methodObj (.ref f) (.ref x))
 | .ext φ=>φ h∧(∃ o,h.get? a=some o)∧∀ h1 h2:Heap,φ h1->(∀ o,h1.get? a=some o->h2.get? a=some o)->φ h2
noncomputable def HOk (H:Hp) (h:Heap):Prop:=∀ a o,H a=some o->zbk P w H h a o
end
section
variable {P:Program}{w:World}{H H':Hp}{h h':Heap}{a:Addr}{o:HO}
theorem zbk.lt (x:zbk P w H h a o):a < h.objs.size:=by
 cases o with
 | lst xs=>obtain ⟨_,_,_,_,e⟩:=x;exact Heap.lt_size e
 | tup xs=>obtain ⟨_,_,_,p⟩:=x;exact p.lt
 | dK kvs=>obtain ⟨_,_,_,_,o,_,_,e,_⟩:=x;exact Heap.lt_size e
 | dT kvs=>obtain ⟨_,_,_,_,o,_,_,e,_⟩:=x;exact Heap.lt_size e
 | set S n=>obtain ⟨o,_,_,_,e,_⟩:=x;exact Heap.lt_size e
 | ins C dx fs=>obtain ⟨_,_,_,e,_⟩:=x;exact Heap.lt_size e
 | own y=>obtain ⟨_,e⟩:=x;exact Heap.lt_size e
 | xd fs=>obtain ⟨_,⟨_,_,_,e,_⟩,_⟩:=x;exact Heap.lt_size e
 | rng lo hi=>obtain ⟨_,_,_,e⟩:=x;exact Heap.lt_size e
 | frz ob u=>obtain ⟨e,_⟩:=x;exact Heap.lt_size e
 | tbl ps=>exact Heap.lt_size (show h.get? a=some _ from x)
 | met f y=>exact Heap.lt_size (show h.get? a=some _ from x)
 | ext φ=>obtain ⟨_,⟨_,e⟩,_⟩:=x;exact Heap.lt_size e
theorem Paired.mapP {α β:Type}{F G:α->β->Prop}:∀ {l₁:List α}{l₂:List β},Paired F l₁ l₂->(∀ a b,F a b->G a b)->Paired G l₁ l₂
 | _,_,.nil,_=> .nil
 | _,_,.cons r t,f=> .cons (f _ _ r) (Paired.mapP t f)
theorem zbk.stay (x:zbk P w H h a o) (k:∀ b u,(b=a∨H b=some (.own a))->h.get? b=some u->h'.get? b=some u)
   (ho:∀ b,H b=some (.own a)->H' b=some (.own a)) (ht:∀ b xs,H b=some (.tup xs)->H' b=some (.tup xs)):zbk P w H' h' a o:=by
 induction o with
 | lst xs=>obtain ⟨z,its,n,r,e⟩:=x;exact ⟨z,its,n,r,k _ _ (.inl rfl) e⟩
 | tup xs=>obtain ⟨z,its,r,ob,e,c⟩:=x;exact ⟨z,its,r,ob,k _ _ (.inl rfl) e,c⟩
 | dK kvs=>obtain ⟨z,y,vs,r,ob,es,ep,e,c⟩:=x;exact ⟨z,y,vs,r,ob,es,ep,k _ _ (.inl rfl) e,c⟩
 | dT kvs =>
   obtain ⟨z,y,xs,r,ob,es,ep,e,c⟩:=x
   exact ⟨z,y,xs,Paired.mapP r fun p q z=>⟨z.1,ht _ _ z.2.1,z.2.2⟩,ob,es,ep,k _ _ (.inl rfl) e,c⟩
 | set S n=>obtain ⟨ob,es,ep,t,e,c⟩:=x;exact ⟨ob,es,ep,t,k _ _ (.inl rfl) e,c⟩
 | ins C dx fs =>
   obtain ⟨d,z,ne,e,mA,⟨od,es,ep,e2,c⟩,r⟩:=x
   exact ⟨ho _ d,z,ne,k _ _ (.inl rfl) e,mA,⟨od,es,ep,k _ _ (.inr d) e2,c⟩,r⟩
 | own y=>obtain ⟨ob,e⟩:=x;exact ⟨ob,k _ _ (.inl rfl) e⟩
 | xd fs=>obtain ⟨mA,⟨od,es,ep,e,c⟩,r⟩:=x;exact ⟨mA,⟨od,es,ep,k _ _ (.inl rfl) e,c⟩,r⟩
 | rng lo hi=>obtain ⟨t,u,v,e⟩:=x;exact ⟨t,u,v,k _ _ (.inl rfl) e⟩
 | frz ob u ih=>obtain ⟨e,q⟩:=x;exact ⟨k _ _ (.inl rfl) e,ih q⟩
 | tbl ps =>
   have e:h.get? a=some { cls := .none,data := .fields ps }:=x
   show h'.get? a=some { cls := .none,data := .fields ps }
   exact k a _ (.inl rfl) e
 | met f y =>
   have e:h.get? a=some (PySem.W.methodObj (.ref f) (.ref y)):=x
   show h'.get? a=some (PySem.W.methodObj (.ref f) (.ref y))
   exact k a _ (.inl rfl) e
 | ext φ=>obtain ⟨p,⟨o,e⟩,st⟩:=x;exact ⟨st _ _ p fun o q=>k _ _ (.inl rfl) q,⟨o,k _ _ (.inl rfl) e⟩,st⟩
theorem HOk.lt (x:HOk P w H h) (e:H a=some o):a < h.objs.size:=(x a o e).lt
theorem HOk.fresh (x:HOk P w H h) (e:h.objs.size<=a):H a=none:=by
 cases q:H a with
 | none=>rfl
 | some u=>exact absurd (Nat.lt_of_lt_of_le (x.lt q) e) (Nat.lt_irrefl _)
theorem HOk.kept (x:HOk P w H h) (k:∀ b u,h.get? b=some u->h'.get? b=some u):HOk P w H h':=fun a o e =>
 (x a o e).stay (fun b u _ q=>k b u q) (fun _ q=>q) fun _ _ q=>q
theorem HOk.laid (x:HOk P w H h) (k:∀ b u,h.get? b=some u->h'.get? b=some u) (hp:h.objs.size<=a) (new:zbk P w (upd H a o) h' a o):HOk P w (upd H a o) h':=fun b u e=>by
 have hn:=x.fresh hp
 by_cases hb:b=a
 . subst hb;rw [zbN]at e;cases e;exact new
 . rw [zN hb]at e
   exact (x b u e).stay (fun c v _ q=>k c v q) (fun c q=>by rw [zN (zdh q hn)];exact q) fun c xs q=>by rw [zN (zdh q hn)];exact q
end
noncomputable def Rd (H:Hp) (a:Addr) (u:HO):Prop:=H a=some u∨∃ o,H a=some (.frz o u)
theorem Rd.ok {P:Program}{w:World}{H:Hp}{h:Heap}{a:Addr}{u:HO} (r:Rd H a u) (x:HOk P w H h):zbk P w H h a u:=by
 rcases r with r | ⟨o,r⟩
 . exact x a u r
 . obtain ⟨_,q⟩:=x a _ r
   exact q
noncomputable def Mut:Option HO->Prop
 | some (.lst _)=>True
 | some (.dK _)=>True
 | some (.dT _)=>True
 | some (.set _ _)=>True
 | some (.ins _ _ _)=>True
 | some (.ext _)=>True
 | _=>False
section
variable {P:Program}{w:World}{H:Hp}{h h':Heap}{x e:Addr}{o':HO}
theorem HOk.write (ok:HOk P w H h) (mu:Mut (H x)) (he:e=x∨H e=some (.own x)) (k:∀ b u,b≠e->h.get? b=some u->h'.get? b=some u) (heo:∃ u,h'.get? e=some u)
   (new:zbk P w (upd H x o') h' x o'):HOk P w (upd H x o') h':=fun b u q=>by
 have nown:∀ c y,H c=some (.own y)->c≠x:=fun c y r z=>by subst z;rw [r]at mu;exact mu
 have ntup:∀ c xs,H c=some (.tup xs)->c≠x:=fun c xs r z=>by subst z;rw [r]at mu;exact mu
 by_cases hb:b=x
 . subst hb;rw [zbN]at q;cases q;exact new
 . rw [zN hb]at q
   by_cases hbe:b=e
   . have q':H b=some (.own x):=by
       rcases he with z | z
       . exact absurd (hbe.trans z) hb
       . rw [hbe];exact z
     rw [q]at q';cases q'
     obtain ⟨v,hv⟩:=heo
     exact ⟨v,by rw [hbe];exact hv⟩
   . refine (ok b u q).stay (fun c v hc r=>k c v ?_ r) (fun c r=>by rw [zN (nown c b r)];exact r) fun c xs r=>by rw [zN (ntup c xs r)];exact r
     rcases hc with rfl | hc
     . exact hbe
     . rintro rfl
       rcases he with z | z
       . exact nown c b hc z
       . rw [hc]at z;cases z;exact hb rfl
end
structure Un (fs ex:List Addr) (H H':Hp) (h h':Heap):Prop where
 keep:∀ b o,h.get? b=some o->H b=none->b∉fs->b∉ex->h'.get? b=some o
 slot:∀ b o,h.get? b=some o->H b=none->b∈fs->b∉ex->∃ sl,h'.get? b=some { o with slots:=sl }
 free:∀ b o,h.get? b=some o->H b=none->b∉ex->H' b=none
 there:∀ b o,h.get? b=some o->b∉ex->∃ o',h'.get? b=some o'
 tups:∀ b xs,H b=some (.tup xs)->H' b=some (.tup xs)
 frzs:∀ b o u,H b=some (.frz o u)->H' b=some (.frz o u)
 tbls:∀ b ps,H b=some (.tbl ps)->∃ more,H' b=some (.tbl (ps++more))
section
variable {fs fs' ex ex':List Addr}{H H1 H2:Hp}{h h1 h2 h':Heap}{a x e:Addr}{o:HO}
theorem Un.any (u:Un fs ex H H1 h h1) {b:Addr}{ob:Obj} (q:h.get? b=some ob) (n:H b=none) (hx:b∉ex):∃ sl,h1.get? b=some { ob with slots:=sl }:=by
 by_cases hb:b∈fs
 . exact u.slot b ob q n hb hx
 . exact ⟨ob.slots,u.keep b ob q n hb hx⟩
theorem Un.kept (k:∀ b u,h.get? b=some u->h'.get? b=some u):Un fs ex H H h h' :=
 ⟨fun b ob q _ _ _=>k b ob q,fun b ob q _ _ _=>⟨ob.slots,k b ob q⟩,fun _ _ _ n _=>n,fun b ob q _=>⟨ob,k b ob q⟩,fun _ _ q=>q,fun _ _ _ q=>q,fun _ ps q=>⟨#[],by rw [q];simp⟩⟩
theorem Un.refl:Un fs ex H H h h:=Un.kept fun _ _ q=>q
theorem Un.laid (k:∀ b u,h.get? b=some u->h'.get? b=some u) (hp:h.objs.size<=a) (hn:H a=none):Un fs ex H (upd H a o) h h' where
 keep:=fun b u q _ _ _=>k b u q
 slot:=fun b u q _ _ _=>⟨u.slots,k b u q⟩
 free:=fun b u q n _=>by rw [zN (Nat.ne_of_lt (Nat.lt_of_lt_of_le (Heap.lt_size q) hp))];exact n
 there:=fun b u q _=>⟨u,k b u q⟩
 tups:=fun b xs q=>by rw [zN (zdh q hn)];exact q
 frzs:=fun b u xs q=>by rw [zN (zdh q hn)];exact q
 tbls:=fun b ps q=>⟨#[],by rw [zN (zdh q hn),q];simp⟩
theorem Un.write (mu:Mut (H x)) (he:e=x∨H e=some (.own x)) (k:∀ b u,b≠e->h.get? b=some u->h'.get? b=some u) (heo:∃ u,h'.get? e=some u):Un fs ex H (upd H x o) h h':=by
 have hx:∀ b,H b=none->b≠x:=fun b n z=>by subst z;rw [n]at mu;exact mu
 have hb:∀ b,H b=none->b≠e:=fun b n z=>by
   subst z
   rcases he with r | r
   . exact hx b n r
   . rw [n]at r;cases r
 have hm:∀ b u,H b=some u->¬ Mut (some u)->b≠x:=fun b u q nm z=>by subst z;rw [q]at mu;exact nm mu
 refine ⟨fun b u q n _ _=>k b u (hb b n) q,fun b u q n _ _=>⟨u.slots,k b u (hb b n) q⟩,fun b u q n _=>by rw [zN (hx b n)];exact n,fun b u q _=>?_,
   fun b xs q=>by rw [zN (hm b _ q fun z=>z)];exact q,fun b u xs q=>by rw [zN (hm b _ q fun z=>z)];exact q,fun b ps q=>⟨#[],by rw [zN (hm b _ q fun z=>z),q];simp⟩⟩
 by_cases hbe:b=e
 . subst hbe;exact heo
 . exact ⟨u,k b u hbe q⟩
end
noncomputable def trk (h:Heap) (H:Hp):List Addr:=(List.range h.objs.size).filter fun a=>(H a).isSome
noncomputable def zdj (h:Heap) (H:Hp):Heap:=PySem.W.hideAll h (trk h H)
theorem zoI (h:Heap) (H:Hp):(zdj h H).objs.size=h.objs.size:=PySem.W.hideAll_size _ _
theorem zpN {h:Heap}{H:Hp}{b:Addr}{o:Obj} (e:h.get? b=some o) (n:H b=none):(zdj h H).get? b=some o :=
 PySem.W.hideAll_get _ e fun hm=>by
   have q:(H b).isSome=true:=(List.mem_filter.mp hm).2
   rw [n]at q;simp at q
theorem zog {h:Heap}{H:Hp}{b:Addr}{o:Obj} (e:(zdj h H).get? b=some o):h.get? b=some o∧H b=none:=by
 have e':h.get? b=some o:=PySem.W.of_hideAll (trk h H) e
 refine ⟨e',?_⟩
 cases q:H b with
 | none=>rfl
 | some x =>
   have hm:b∈trk h H:=List.mem_filter.mpr ⟨List.mem_range.mpr (Heap.lt_size e'),by simp [q]⟩
   have z:(zdj h H).get? b=none:=PySem.W.hideAll_none (trk h H) hm
   rw [z]at e;cases e
end L2
namespace L2
open PySem PySem.Spec PyProof.Rows
structure Mod (K:PySem.W.Frag) (mg:Str->Option Value) (base:Heap):Prop where
 kin:K.In base
 glob:base.Ns mainGlobals mg
 blt:∃ mb,base.Ns builtinsNs mb∧∀ x:Str,x ≠ "__name__" -> mb x=bootBuiltins x
 nolimit:base.NoLimit
structure Cx where
 prog:Program
 w:World
 K:PySem.W.Frag
 mg:Str->Option Value
 base:Heap
 A:Around
 N:List Str
 s₀:Shared
 H₀:Hp
 env:Env
 outer:List Env
 stack:List Env
 ex:List Addr
 fn:Str->Bool
 calm:Bool
 pn:List (Addr×Obj)
 xe:Value->Shared->Prop
noncomputable def frs (l:List Env):List Addr:=l.filterMap (·.frame)
noncomputable abbrev Cx.fs (X:Cx):List Addr:=frs X.outer
noncomputable def Vis (sc:Scope) (x:Str):Prop:=sc.names.lookup x=some .local∨sc.names.lookup x=some .cell∨sc.names.lookup x=some .free
noncomputable def Loc (sc:Scope) (x:Str):Prop:=sc.names.lookup x=some .local∨sc.names.lookup x=some .cell
noncomputable def zlP (env:Env) (h:Heap) (m:Str->Option Value) (x:Str) (u:Value):Prop :=
 (env.kindOf x=some .local∧m x=some u)∨((env.kindOf x=some .cell∨env.kindOf x=some .free)∧∃ c,env.cells.lookup x=some c∧h.IsCell c (some u))
structure Cx.Ok (X:Cx):Prop where
 mod:Mod X.K X.mg X.base
 kind:X.env.scope.kind = .function
 glob:X.env.globals=mainGlobals
 blt:X.env.builtins=builtinsNs
 above:X.s₀.heap.objs.size<=X.env.locals
 inj:∀ x y c,X.env.cells.lookup x=some c->X.env.cells.lookup y=some c->x=y
 has:∀ x,(X.env.kindOf x=some .cell∨X.env.kindOf x=some .free)->∃ c,X.env.cells.lookup x=some c
 cab:∀ x c,X.fn x=true->X.env.cells.lookup x=some c->X.s₀.heap.objs.size<=c
 hd:X.calm=true->X.A.handled=none
 frames:X.A.frames=some X.stack
 stk:X.stack=X.outer∨(X.stack=X.env :: X.outer∧X.env.frame=some X.env.locals)
 exf:∀ b∈X.ex,b≠X.env.locals∧∀ x c,X.env.cells.lookup x=some c->c≠b
 bs:∀ b o,X.base.get? b=some o->X.s₀.heap.get? b=some o∧X.H₀ b=none
 bsz:X.base.objs.size<=X.s₀.heap.objs.size
 noex:∀ b o,X.base.get? b=some o->b∉X.ex
 exfs:∀ b∈X.ex,b∉X.fs
 funs:X.s₀.heap.FunFrames X.base X.outer
 frf:∀ b∈X.fs,X.H₀ b=none
structure Inv (X:Cx) (pins:List (Addr×Obj)) (σ:List (Option V)) (H:Hp) (s:Shared):Prop where
 ok:X.Ok
 os:s.os=X.s₀.os
 bare:AllBare s.gens
 base:Un X.fs X.ex X.H₀ H X.s₀.heap s.heap
 loc:∃ m,s.heap.Ns X.env.locals m∧∀ (i:Nat) (x:Str) (v:V),X.N[i]?=some x->σ[i]?=some (some v)->Vis X.env.scope x->∃ u,zq v u∧zlP X.env s.heap m x u
 cell:∀ x c,X.env.cells.lookup x=some c->∃ v,s.heap.IsCell c v
 free:H X.env.locals=none
 freeC:∀ x c,X.env.cells.lookup x=some c->H c=none
 pin:∀ p∈X.pn++pins,s.heap.get? p.1=some p.2∧H p.1=none∧p.1≠X.env.locals∧p.1∉X.fs∧∀ v,p.2.data ≠ .cell v
 hok:HOk X.prog X.w H s.heap
 len:σ.length=X.N.length
section
variable {X:Cx}{pins:List (Addr×Obj)}{σ:List (Option V)}{H H':Hp}{s:Shared}{h':Heap}
theorem Cx.Ok.nofr (ok:X.Ok) {b:Addr}{o:Obj} (e:X.base.get? b=some o):b∉X.fs:=fun hb=>by
 have:=(ok.funs.mem hb).1
 rw [e]at this;cases this
theorem Inv.bs (I:Inv X pins σ H s):∀ b o,X.base.get? b=some o->s.heap.get? b=some o∧H b=none:=fun b o e =>
 ⟨I.base.keep b o (I.ok.bs b o e).1 (I.ok.bs b o e).2 (I.ok.nofr e) (I.ok.noex b o e),I.base.free b o (I.ok.bs b o e).1 (I.ok.bs b o e).2 (I.ok.noex b o e)⟩
theorem Inv.bk (I:Inv X pins σ H s):∀ b o,X.base.get? b=some o->s.heap.get? b=some o:=fun b o e=>(I.bs b o e).1
theorem Inv.mod (I:Inv X pins σ H s):Mod X.K X.mg X.base:=I.ok.mod
theorem Inv.kIn (I:Inv X pins σ H s):X.K.In s.heap:=I.ok.mod.kin.keeps I.bk
theorem Inv.lt (I:Inv X pins σ H s):X.env.locals < s.heap.objs.size:=let ⟨_,hn,_⟩:=I.loc;hn.lt
theorem Inv.sz (I:Inv X pins σ H s):X.s₀.heap.objs.size<=s.heap.objs.size:=Nat.le_trans I.ok.above (Nat.le_of_lt I.lt)
theorem Inv.nofs (I:Inv X pins σ H s) {a:Addr} (h:s.heap.objs.size<=a):a∉X.fs:=fun hb=>by
 obtain ⟨_,o,ho,_⟩:=I.ok.funs.mem hb
 exact absurd (Nat.lt_of_lt_of_le (Heap.lt_size ho) (Nat.le_trans I.sz h)) (Nat.lt_irrefl _)
theorem Inv.cne (I:Inv X pins σ H s):∀ x c,X.env.cells.lookup x=some c->c≠X.env.locals:=fun x c e z=>by
 obtain ⟨v,o,ho,hd⟩:=I.cell x c e
 obtain ⟨m,⟨o',es,ep,ho',hd',_⟩,_⟩:=I.loc
 rw [z,ho']at ho;cases ho;rw [hd']at hd;cases hd
theorem Inv.funs (I:Inv X pins σ H s):s.heap.FunFrames X.base X.outer:=by
 have all:∀ (l:List Env),(∀ b∈frs l,b∈X.fs)->X.s₀.heap.FunFrames X.base l->s.heap.FunFrames X.base l:=by
   intro l
   induction l with
   | nil=>intro _ _;trivial
   | cons env r ih =>
     intro hs hl
     obtain ⟨hk,⟨L,o,hf,hn,ho,hd⟩,hr⟩:=hl
     have hL:L∈X.fs:=hs L (by unfold frs;rw [List.filterMap_cons,hf];exact List.mem_cons_self)
     obtain ⟨sl,e⟩:=I.base.slot L o ho (I.ok.frf L hL) hL fun z=>I.ok.exfs L z hL
     exact ⟨hk,⟨L,_,hf,hn,e,hd⟩,ih (fun b hb=>hs b (by unfold frs;rw [List.filterMap_cons,hf];exact List.mem_cons_of_mem _ hb)) hr⟩
 exact all X.outer (fun _ hb=>hb) I.ok.funs
theorem Inv.stack (I:Inv X pins σ H s):s.heap.FunFrames X.base X.stack:=by
 rcases I.ok.stk with e | ⟨e,hf⟩
 . rw [e];exact I.funs
 . rw [e]
   obtain ⟨m,hn,_⟩:=I.loc
   refine .cons (by rw [I.ok.kind];decide) hf hn ?_ I.funs
   exact Heap.get?_none_of_le (Nat.le_trans I.ok.bsz I.ok.above)
theorem Inv.stkSub (I:Inv X pins σ H s):∀ b∈frs X.stack,b∈X.env.locals :: X.fs:=fun b hb=>by
 rcases I.ok.stk with e | ⟨e,hf⟩
 . rw [e]at hb;exact List.mem_cons_of_mem _ hb
 . rw [e]at hb
   unfold frs at hb
   rw [List.filterMap_cons,hf]at hb
   exact hb
theorem Inv.stkFree (I:Inv X pins σ H s):∀ b∈frs X.stack,H b=none:=fun b hb=>by
 rcases List.mem_cons.mp (I.stkSub b hb) with e | hb
 . rw [e];exact I.free
 . obtain ⟨_,o,ho,_⟩:=I.ok.funs.mem hb
   exact I.base.free b o ho (I.ok.frf b hb) fun z=>I.ok.exfs b z hb
theorem Inv.step {g':Array GenState}{t':Nat}{d':Drawn}{ch:List Addr} (I:Inv X pins σ H s)
   (hch:∀ b∈ch,(b∈X.ex∨X.s₀.heap.objs.size<=b)∧b≠X.env.locals∧(∀ x c,X.env.cells.lookup x=some c->c≠b)∧∀ p∈X.pn++pins,p.1≠b)
   (keep:∀ b o,b≠X.env.locals->b∉X.fs->b∉ch->s.heap.get? b=some o->H b=none->h'.get? b=some o)
   (slot:∀ b o,b≠X.env.locals->b∈X.fs->b∉ch->s.heap.get? b=some o->H b=none->∃ sl,h'.get? b=some { o with slots:=sl }) (free:∀ b o,b∉ch->s.heap.get? b=some o->H b=none->H' b=none)
   (there:∀ b o,b∉ch->s.heap.get? b=some o->∃ o',h'.get? b=some o')
   (tups:∀ b xs,H b=some (.tup xs)->H' b=some (.tup xs)) (frzs:∀ b o u,H b=some (.frz o u)->H' b=some (.frz o u)) (tbls:∀ b ps,H b=some (.tbl ps)->∃ more,H' b=some (.tbl (ps++more)))
   (ns:∀ m,s.heap.Ns X.env.locals m->h'.Ns X.env.locals m) (hok:HOk X.prog X.w H' h') (hg:AllBare g') :
   Inv X pins σ H' { s with heap:=h',gens:=g',drawn:=d',toks:=t' }:=by
 have neL:∀ b o,X.s₀.heap.get? b=some o->b≠X.env.locals:=fun b o e=>Nat.ne_of_lt (Nat.lt_of_lt_of_le (Heap.lt_size e) I.ok.above)
 have neC:∀ b o,X.s₀.heap.get? b=some o->b∉X.ex->b∉ch:=fun b o e hx hb=>by
   rcases (hch b hb).1 with z | z
   . exact hx z
   . exact absurd (Nat.lt_of_lt_of_le (Heap.lt_size e) z) (Nat.lt_irrefl _)
 have cellK:∀ x c,X.env.cells.lookup x=some c->∀ v,s.heap.IsCell c v->h'.IsCell c v:=fun x c e v ⟨o,ho,hd⟩=>by
   have nch:c∉ch:=fun z=>(hch c z).2.2.1 x c e rfl
   by_cases hc:c∈X.fs
   . obtain ⟨sl,q⟩:=slot c o (I.cne x c e) hc nch ho (I.freeC x c e)
     exact ⟨_,q,hd⟩
   . exact ⟨o,keep c o (I.cne x c e) hc nch ho (I.freeC x c e),hd⟩
 refine ⟨I.ok,I.os,hg,⟨fun b o e n hb hx=>?_,fun b o e n hb hx=>?_,fun b o e n hx=>?_,fun b o e hx=>?_,fun b xs e=>tups b xs (I.base.tups b xs e),fun b o xs e=>frzs b o xs (I.base.frzs b o xs e),fun b ps e=>?_⟩,?_,fun x c e=>?_,?_,fun x c e=>?_,fun p hp=>?_,hok,I.len⟩
 . exact keep b o (neL b o e) hb (neC b o e hx) (I.base.keep b o e n hb hx) (I.base.free b o e n hx)
 . obtain ⟨sl,e1⟩:=I.base.slot b o e n hb hx
   obtain ⟨sl',e2⟩:=slot b _ (neL b o e) hb (neC b o e hx) e1 (I.base.free b o e n hx)
   exact ⟨sl',e2⟩
 . obtain ⟨o',e1⟩:=I.base.there b o e hx
   exact free b o' (neC b o e hx) e1 (I.base.free b o e n hx)
 . obtain ⟨o',e1⟩:=I.base.there b o e hx
   exact there b o' (neC b o e hx) e1
 . obtain ⟨m1,e1⟩:=I.base.tbls b ps e
   obtain ⟨m2,e2⟩:=tbls b _ e1
   exact ⟨m1++m2,by rw [e2,Array.append_assoc]⟩
 . obtain ⟨m,hn,hl⟩:=I.loc
   refine ⟨m,ns m hn,fun i x v e1 e2 e3=>?_⟩
   obtain ⟨u,r,l⟩:=hl i x v e1 e2 e3
   refine ⟨u,r,?_⟩
   rcases l with l | ⟨k,c,e,z⟩
   . exact .inl l
   . exact .inr ⟨k,c,e,cellK x c e _ z⟩
 . obtain ⟨v,z⟩:=I.cell x c e
   exact ⟨v,cellK x c e v z⟩
 . obtain ⟨m,⟨o,_,_,ho,_⟩,_⟩:=I.loc
   exact free _ o (fun z=>(hch _ z).2.1 rfl) ho I.free
 . obtain ⟨v,o,ho,hd⟩:=I.cell x c e
   exact free c o (fun z=>(hch c z).2.2.1 x c e rfl) ho (I.freeC x c e)
 . obtain ⟨e,n,ne,nf,d⟩:=I.pin p hp
   have nch:p.1∉ch:=fun z=>(hch p.1 z).2.2.2 p hp rfl
   exact ⟨keep p.1 p.2 ne nf nch e n,free p.1 p.2 nch e n,ne,nf,d⟩
theorem Inv.un {t':Nat} (I:Inv X pins σ H s) (u:Un X.fs [] H H' s.heap h') (hok:HOk X.prog X.w H' h'):Inv X pins σ H' { s with heap:=h',toks:=t' }:=by
 obtain ⟨m,⟨o,es,ep,ho,r⟩,_⟩:=id I.loc
 obtain ⟨sl,hL⟩:=u.any ho I.free ς
 exact I.step (g':=s.gens) (d':=s.drawn) (ch:=[]) (fun _ z=>nomatch z) (fun b o _ hb _ e n=>u.keep b o e n hb ς) (fun b o _ hb _ e n=>u.slot b o e n hb ς) (fun b o _ e n=>u.free b o e n ς) (fun b o _ e=>u.there b o e ς) u.tups u.frzs u.tbls (fun m' hm=>by
   obtain ⟨o',es',ep',ho',r'⟩:=hm
   rw [ho]at ho';cases ho'
   exact ⟨_,es',ep',hL,r'⟩) hok I.bare
theorem Inv.call {g':Array GenState}{t':Nat}{d':Drawn}{ch:List Addr} (I:Inv X pins σ H s) (u:Un (frs X.stack) ch H H' s.heap h') (hok:HOk X.prog X.w H' h') (hg:AllBare g')
   (hch:∀ b∈ch,(b∈X.ex∨X.s₀.heap.objs.size<=b)∧b≠X.env.locals∧(∀ x c,X.env.cells.lookup x=some c->c≠b)∧∀ p∈X.pn++pins,p.1≠b) :
   Inv X pins σ H' { s with heap:=h',gens:=g',drawn:=d',toks:=t' }:=by
 obtain ⟨m,⟨o,es,ep,ho,r⟩,_⟩:=id I.loc
 obtain ⟨sl,hL⟩:=u.any ho I.free fun z=>(hch _ z).2.1 rfl
 exact I.step (ch:=ch) hch (fun b o hL hb hc e n=>u.keep b o e n (fun z=>(List.mem_cons.mp (I.stkSub b z)).elim hL hb) hc) (fun b o _ _ hc e n=>u.any e n hc) (fun b o hc e n=>u.free b o e n hc) (fun b o hc e=>u.there b o e hc) u.tups u.frzs u.tbls (fun m' hm=>by
   obtain ⟨o',es',ep',ho',r'⟩:=hm
   rw [ho]at ho';cases ho'
   exact ⟨_,es',ep',hL,r'⟩) hok hg
theorem Inv.turned {t':Nat}{it:Addr} (I:Inv X pins σ H s) (k:∀ b o,b≠it->s.heap.get? b=some o->h'.get? b=some o) (hn:H it=none) (hL:it≠X.env.locals)
   (h1:it∈X.ex∨X.s₀.heap.objs.size<=it) (h2:∀ x c,X.env.cells.lookup x=some c->c≠it) (h3:∀ p∈X.pn++pins,p.1≠it):Inv X pins σ H { s with heap:=h',toks:=t' }:=by
 have nit:∀ b u,H b=some u->b≠it:=fun b u e z=>by rw [z,hn]at e;cases e
 refine I.step (g':=s.gens) (d':=s.drawn) (ch:=[it]) (fun b hb=>?_) (fun b o _ _ hc e _=>k b o (fun z=>hc (by simp [z])) e) (fun b o _ _ hc e _=>⟨o.slots,k b o (fun z=>hc (by simp [z])) e⟩) (fun _ _ _ _ n=>n)
   (fun b o hc e=>⟨o,k b o (fun z=>hc (by simp [z])) e⟩) (fun _ _ e=>e) (fun _ _ _ e=>e) (fun b ps e=>⟨#[],by rw [e];simp⟩) (fun m hm=>?_) (fun b u e=>?_) I.bare
 . have e:b=it:=by simpa using hb
   subst e
   exact ⟨h1,hL,h2,h3⟩
 . obtain ⟨o,es,ep,ho,r⟩:=hm
   exact ⟨o,es,ep,k _ o (Ne.symm hL) ho,r⟩
 . refine (I.hok b u e).stay (fun c v hc q=>k c v ?_ q) (fun _ q=>q) fun _ _ q=>q
   rcases hc with z | z
   . rw [z];exact nit b u e
   . exact nit c _ z
theorem Inv.tok (I:Inv X pins σ H s) (t:Nat):Inv X pins σ H { s with toks:=t }:=I.un (h':=s.heap) (t':=t) Un.refl I.hok
theorem Inv.kept {t':Nat} (I:Inv X pins σ H s) (k:∀ b u,s.heap.get? b=some u->h'.get? b=some u):Inv X pins σ H { s with heap:=h',toks:=t' }:=I.un (Un.kept k) (I.hok.kept k)
theorem Inv.laid {a:Addr}{o:HO}{t':Nat} (I:Inv X pins σ H s) (k:∀ b u,s.heap.get? b=some u->h'.get? b=some u) (hp:s.heap.objs.size<=a) (new:zbk X.prog X.w (upd H a o) h' a o) :
   Inv X pins σ (upd H a o) { s with heap:=h',toks:=t' }:=I.un (Un.laid k hp (I.hok.fresh hp)) (I.hok.laid k hp new)
theorem Inv.write {x e:Addr}{o:HO}{t':Nat} (I:Inv X pins σ H s) (mu:Mut (H x)) (he:e=x∨H e=some (.own x)) (k:∀ b u,b≠e->s.heap.get? b=some u->h'.get? b=some u) (heo:∃ u,h'.get? e=some u)
   (new:zbk X.prog X.w (upd H x o) h' x o):Inv X pins σ (upd H x o) { s with heap:=h',toks:=t' }:=I.un (Un.write mu he k heo) (I.hok.write mu he k heo new)
theorem Inv.pins_of {pins':List (Addr×Obj)} (I:Inv X pins σ H s) (h:∀ p∈pins',s.heap.get? p.1=some p.2∧H p.1=none∧p.1≠X.env.locals∧p.1∉X.fs∧∀ v,p.2.data ≠ .cell v):Inv X pins' σ H s :=
 ⟨I.ok,I.os,I.bare,I.base,I.loc,I.cell,I.free,I.freeC,fun p hp=>(List.mem_append.mp hp).elim (fun z=>I.pin p (List.mem_append_left _ z)) (h p),I.hok,I.len⟩
theorem zhd {N:List Str} (hN:N.Nodup) {i j:Nat}{x:Str} (a:N[i]?=some x) (b:N[j]?=some x):i=j:=by
 obtain ⟨h1,e1⟩:=List.getElem?_eq_some_iff.mp a
 obtain ⟨h2,e2⟩:=List.getElem?_eq_some_iff.mp b
 exact (List.getElem_inj hN).mp (e1.trans e2.symm)
theorem zh8 {M:Model}{A:Around}{E:Value->Shared->Prop}{i:Nat}{x:Str}{v:V}{u:Value}{Q:Unit->Shared->Prop} (I:Inv X pins σ H s) (hN:X.N.Nodup) (hi:X.N[i]?=some x) (hx:Loc X.env.scope x) (r:zq v u)
   (h:∀ s',Inv X pins (σ.set i (some v)) H s'->(∃ a,Heap.SameBut a s.heap s'.heap∧(a=X.env.locals∨X.env.cells.lookup x=some a))->Q () s') (hf:X.fn x=true∨X.env.scope.names.lookup x=some .local:=by first | exact .inl rfl | exact .inr rfl | assumption):wpAny M A (storeName X.env x u) Q E s:=by
 obtain ⟨m,hn,hl⟩:=id I.loc
 have hcls:(X.env.scope.kind == .class || (X.env.scope.kind == .module && X.env.locals != X.env.globals))=false:=by rw [I.ok.kind];rfl
 have hiσ:i < σ.length:=by rw [I.len];exact (List.getElem?_eq_some_iff.mp hi).1
 have cne:=I.cne
 have tracked:∀ {a:Addr} {h':Heap},(∃ o,s.heap.get? a=some o∧H a=none)->Heap.SameBut a s.heap h'->HOk X.prog X.w H h':=fun {a h'} ha hs b ob e=>by
   obtain ⟨_,_,hfree⟩:=ha
   refine (I.hok b ob e).stay (fun c w' hc q=>(hs.2 c ?_).trans q) (fun _ q=>q) fun _ _ q=>q
   rintro rfl
   rcases hc with rfl | hc
   . rw [hfree]at e;cases e
   . rw [hfree]at hc;cases hc
 rcases hx with hk | hk
 . refine wpAny_storeName_local hk hn (fun h' hn' hs=>?_) hcls
   obtain ⟨oL,_,_,hoL,_⟩:=id hn
   refine h _ ⟨I.ok,I.os,I.bare,⟨fun b o e n hb hx=>?_,fun b o e n hb hx=>?_,I.base.free,fun b o e hx=>?_,I.base.tups,I.base.frzs,I.base.tbls⟩,⟨_,hn',fun j y v' e1 e2 e3=>?_⟩,fun y c e=>?_,I.free,I.freeC,fun p hp=>?_,tracked ⟨oL,hoL,I.free⟩ hs,by simpa using I.len⟩ ⟨_,hs,.inl rfl⟩
   . exact (hs.2 b (Nat.ne_of_lt (Nat.lt_of_lt_of_le (Heap.lt_size e) I.ok.above))).trans (I.base.keep b o e n hb hx)
   . obtain ⟨sl,e1⟩:=I.base.slot b o e n hb hx
     exact ⟨sl,(hs.2 b (Nat.ne_of_lt (Nat.lt_of_lt_of_le (Heap.lt_size e) I.ok.above))).trans e1⟩
   . obtain ⟨o',e1⟩:=I.base.there b o e hx
     exact ⟨o',(hs.2 b (Nat.ne_of_lt (Nat.lt_of_lt_of_le (Heap.lt_size e) I.ok.above))).trans e1⟩
   . by_cases hj:j=i
     . subst hj
       rw [hi]at e1;cases e1
       rw [List.getElem?_set_self hiσ]at e2
       cases e2
       exact ⟨u,r,.inl ⟨hk,ς⟩⟩
     . rw [List.getElem?_set_ne (Ne.symm hj)]at e2
       obtain ⟨u',r',q⟩:=hl j y v' e1 e2 e3
       refine ⟨u',r',?_⟩
       rcases q with ⟨k,e⟩ | ⟨k,c,e,z⟩
       . refine .inl ⟨k,?_⟩
         have:y≠x:=fun e=>hj (zhd hN e1 (e ▸ hi))
         simp [this,e]
       . exact .inr ⟨k,c,e,z.sameBut hs (cne y c e)⟩
   . obtain ⟨w',z⟩:=I.cell y c e
     exact ⟨w',z.sameBut hs (cne y c e)⟩
   . obtain ⟨e,n,ne,nf,d⟩:=I.pin p hp
     exact ⟨(hs.2 p.1 ne).trans e,n,ne,nf,d⟩
 . have hfn:X.fn x=true:=by
     rcases hf with z | z
     . exact z
     . rw [z]at hk;cases hk
   obtain ⟨c,hc⟩:=I.ok.has x (.inl hk)
   obtain ⟨w',z⟩:=I.cell x c hc
   refine wpAny_storeName_cell I.ok.kind hk hc z (fun h' hc' hs=>?_)
   obtain ⟨oc,hoc,hocd⟩:=id z
   refine h { s with heap:=h' } ⟨I.ok,I.os,I.bare,⟨fun b o e n hb hx=>?_,fun b o e n hb hx=>?_,I.base.free,fun b o e hx=>?_,I.base.tups,I.base.frzs,I.base.tbls⟩,⟨m,hn.sameBut hs (Ne.symm (cne x c hc)),fun j y v' e1 e2 e3=>?_⟩,fun y c' e=>?_,I.free,I.freeC,fun p hp=>?_,tracked ⟨oc,hoc,I.freeC x c hc⟩ hs,by simpa using I.len⟩ ⟨c,hs,.inr hc⟩
   . exact (hs.2 b (Nat.ne_of_lt (Nat.lt_of_lt_of_le (Heap.lt_size e) (I.ok.cab x c hfn hc)))).trans (I.base.keep b o e n hb hx)
   . obtain ⟨sl,e1⟩:=I.base.slot b o e n hb hx
     exact ⟨sl,(hs.2 b (Nat.ne_of_lt (Nat.lt_of_lt_of_le (Heap.lt_size e) (I.ok.cab x c hfn hc)))).trans e1⟩
   . obtain ⟨o',e1⟩:=I.base.there b o e hx
     exact ⟨o',(hs.2 b (Nat.ne_of_lt (Nat.lt_of_lt_of_le (Heap.lt_size e) (I.ok.cab x c hfn hc)))).trans e1⟩
   . by_cases hj:j=i
     . subst hj
       rw [hi]at e1;cases e1
       rw [List.getElem?_set_self hiσ]at e2
       cases e2
       exact ⟨u,r,.inr ⟨.inl hk,c,hc,hc'⟩⟩
     . rw [List.getElem?_set_ne (Ne.symm hj)]at e2
       obtain ⟨u',r',q⟩:=hl j y v' e1 e2 e3
       refine ⟨u',r',?_⟩
       rcases q with q | ⟨k,c',e,z'⟩
       . exact .inl q
       . refine .inr ⟨k,c',e,z'.sameBut hs ?_⟩
         rintro rfl
         exact hj (zhd hN e1 (I.ok.inj _ _ _ e hc ▸ hi))
   . by_cases hcc:c'=c
     . subst hcc;exact ⟨_,hc'⟩
     . obtain ⟨w2,z2⟩:=I.cell y c' e
       exact ⟨w2,z2.sameBut hs hcc⟩
   . obtain ⟨e,n,ne,nf,d⟩:=I.pin p hp
     refine ⟨(hs.2 p.1 ?_).trans e,n,ne,nf,d⟩
     intro q
     rw [q,hoc]at e
     have q':oc=p.2:=Option.some.inj e
     exact d w' (by rw [<- q'];exact hocd)
theorem zfu {M:Model}{A:Around}{E:Value->Shared->Prop}{i:Nat}{x:Str}{v:V}{u:Value}{Q:Unit->Shared->Prop} (I:Inv X pins σ H s) (hN:X.N.Nodup) (hi:X.N[i]?=some x) (hx:Loc X.env.scope x) (r:zq v u)
   (h:∀ s',Inv X pins (σ.set i (some v)) H s'->Q () s') (hf:X.fn x=true∨X.env.scope.names.lookup x=some .local:=by first | exact .inl rfl | exact .inr rfl | assumption):wpAny M A (storeName X.env x u) Q E s :=
 zh8 I hN hi hx r (fun s' I' _=>h s' I') hf
theorem Inv.call' {s':Shared}{ch:List Addr} (I:Inv X pins σ H s) (ho:s'.os=s.os) (u:Un (frs X.stack) ch H H' s.heap s'.heap) (hok:HOk X.prog X.w H' s'.heap) (hg:AllBare s'.gens)
   (hch:∀ b∈ch,(b∈X.ex∨X.s₀.heap.objs.size<=b)∧b≠X.env.locals∧(∀ x c,X.env.cells.lookup x=some c->c≠b)∧∀ p∈X.pn++pins,p.1≠b):Inv X pins σ H' s':=by
 obtain ⟨h',g',d',t',o'⟩:=s'
 have e:o'=s.os:=ho
 subst e
 exact I.call (g':=g') (t':=t') (d':=d') u hok hg hch
end
noncomputable abbrev XK:=Value->Option Addr->Hp->Prop
noncomputable abbrev St:=List (Option V)
noncomputable abbrev VK:=V->Hp->Prop
noncomputable abbrev TE:=St->Hp->VK->Prop
noncomputable abbrev TT:=St->Hp->(Bool->Hp->Prop)->Prop
noncomputable abbrev TA:=St->Hp->(List V->Hp->Prop)->Prop
structure zcK where
 nx:St->Hp->Prop
 rt:VK
 bk:St->Hp->Prop:=fun _ _=>False
 ct:St->Hp->Prop:=fun _ _=>False
noncomputable abbrev TS:=zcK->St->Hp->Prop
noncomputable def EP (X:Cx) (pins:List (Addr×Obj)) (σ:St) (Q:VK) (u:Value) (s':Shared):Prop:=∃ v H',Inv X pins σ H' s'∧zq v u∧Q v H'
noncomputable def TP (X:Cx) (pins:List (Addr×Obj)) (σ:St) (Q:Bool->Hp->Prop) (b:Bool) (s':Shared):Prop:=∃ H',Inv X pins σ H' s'∧Q b H'
noncomputable def AP (X:Cx) (pins:List (Addr×Obj)) (σ:St) (Q:List V->Hp->Prop) (us:List Value) (s':Shared):Prop:=∃ vs H',Inv X pins σ H' s'∧zE vs us∧Q vs H'
noncomputable def SP (X:Cx) (pins:List (Addr×Obj)) (D:zcK) (f:Flow) (s':Shared):Prop :=
 match f with
 | .next=>∃ σ' H',Inv X pins σ' H' s'∧D.nx σ' H'
 | .brk=>∃ σ' H',Inv X pins σ' H' s'∧D.bk σ' H'
 | .cont=>∃ σ' H',Inv X pins σ' H' s'∧D.ct σ' H'
 | .ret u=>∃ v σ' H',Inv X pins σ' H' s'∧zq v u∧D.rt v H'
noncomputable def PE (X:Cx) (e:Expr) (t:TE):Prop :=
 ∀ (pins:List (Addr×Obj)) (s:Shared) (σ:St) (H:Hp) (Q:VK),Inv X pins σ H s->t σ H Q->wpAny (model X.prog X.w) X.A (eval e X.env) (EP X pins σ Q) X.xe s
noncomputable def PT (X:Cx) (e:Expr) (t:TT):Prop :=
 ∀ (pins:List (Addr×Obj)) (s:Shared) (σ:St) (H:Hp) (Q:Bool->Hp->Prop),Inv X pins σ H s->t σ H Q->wpAny (model X.prog X.w) X.A (isTrue e X.env (eval e X.env)) (TP X pins σ Q) X.xe s
noncomputable def PW (X:Cx) (e:Expr) (t:TT):Prop :=
 ∀ (whole:Sem Value) (pins:List (Addr×Obj)) (s:Shared) (σ:St) (H:Hp) (Q:Bool->Hp->Prop),Inv X pins σ H s->t σ H Q->wpAny (model X.prog X.w) X.A (isTrue e X.env whole) (TP X pins σ Q) X.xe s
theorem PW.pt {X:Cx}{e:Expr}{t:TT} (h:PW X e t):PT X e t:=h _
noncomputable def PA (X:Cx) (es:List Expr) (t:TA):Prop :=
 ∀ (pos:Pos) (pins:List (Addr×Obj)) (s:Shared) (σ:St) (H:Hp) (Q:List V->Hp->Prop),Inv X pins σ H s->t σ H Q->wpAny (model X.prog X.w) X.A (spliced (backTo pos (starEach es X.env))) (AP X pins σ Q) X.xe s
noncomputable def PS (X:Cx) (st:Stmt) (t:TS):Prop :=
 ∀ (pins:List (Addr×Obj)) (s:Shared) (σ:St) (H:Hp) (D:zcK),Inv X pins σ H s->t D σ H->wpAny (model X.prog X.w) X.A (exec st X.env) (SP X pins D) X.xe s
noncomputable def PSs (X:Cx) (st:List Stmt) (t:TS):Prop :=
 ∀ (pins:List (Addr×Obj)) (s:Shared) (σ:St) (H:Hp) (D:zcK),Inv X pins σ H s->t D σ H->wpAny (model X.prog X.w) X.A (execs st X.env) (SP X pins D) X.xe s
theorem thn {α:Type}{t:Sem α}{Q Q':α->Shared->Prop}{M:Model}{A:Around}{E:Value->Shared->Prop}{s:Shared} (h:wpAny M A t Q E s) (hQ:∀ a s,Q a s->Q' a s):wpAny M A t Q' E s:=wpAny_mono h hQ fun _ _ x=>x
end L2
namespace L2
open PySem PySem.Spec PyProof.Rows
section
variable {X:Cx}
noncomputable def ziK (i:Nat):TE:=fun σ H Q=>∃ v,σ[i]?=some (some v)∧Q v H
noncomputable def tC (v:V):TE:=fun _ H Q=>Q v H
theorem zfJ {i:Nat}{x:Str}{pos:Pos} (hN:X.N[i]?=some x) (hv:Vis X.env.scope x) (hd:(x == ("__debug__":Str))=false:=by decide) (hcd:(x == ("__classdict__":Str))=false:=by decide):PE X (.Name x pos) (ziK i):=by
 intro pins s σ H Q I h
 obtain ⟨v,e,h⟩:=h
 obtain ⟨m,hn,hl⟩:=I.loc
 obtain ⟨u,r,l⟩:=hl i x v hN e hv
 have fin:EP X pins σ Q u s:=⟨v,H,I,r,h⟩
 rcases l with ⟨hk,hm⟩ | ⟨hk,c,hc,hcell⟩
 . exact wpAny_Name (wpAny_loadName_local I.ok.kind hk hn hm fin) hd
 . rcases hk with hk | hk
   . exact wpAny_Name (wpAny_loadName_cell I.ok.kind hk hc hcell fin) hd
   . exact wpAny_Name (wpAny_loadName_free I.ok.kind hk hc hcell fin hcd) hd
theorem zqc {i j pos}:PE X (.Constant (.int i) j pos) (tC (.int i)):=fun _ _ _ H _ I h=>wpAny_Constant_int ⟨.int i,H,I.tok _,⟨_,rfl⟩,h⟩
theorem zn2 {b j pos}:PE X (.Constant (.bool b) j pos) (tC (.bl b)):=fun _ _ _ H _ I h=>Constant_bool ⟨.bl b,H,I,rfl,h⟩
theorem zo7 {j pos}:PE X (.Constant .none j pos) (tC .non):=fun _ _ _ H _ I h=>Constant_none ⟨.non,H,I,rfl,h⟩
theorem zja {x j pos}:PE X (.Constant (.str x) j pos) (tC (.str x)):=fun _ _ _ H _ I h=>Calls.Constant_str ⟨.str x,H,I.tok _,⟨_,rfl⟩,h⟩
noncomputable def Gl (X:Cx) (x:Str):Prop:=X.env.kindOf x=some .globalImplicit
theorem zeD {E:Value->Shared->Prop}{pins:List (Addr×Obj)}{s:Shared}{σ:St}{H:Hp}{x:Str}{u:Value}{pos:Pos}{Q:Value->Shared->Prop} (I:Inv X pins σ H s) (hg:Gl X x) (hm:X.mg x=some u) (h:Q u s)
   (hd:(x == ("__debug__":Str))=false:=by decide):wpAny (model X.prog X.w) X.A (eval (.Name x pos) X.env) Q E s :=
 Calls.Name_function_global I.ok.kind hg (Calls.loadGlobal_global (by rw [I.ok.glob];exact I.mod.glob.keeps I.bk) hm h) hd
theorem zeX {E:Value->Shared->Prop}{pins:List (Addr×Obj)}{s:Shared}{σ:St}{H:Hp}{x:Str}{u:Value}{pos:Pos}{Q:Value->Shared->Prop} (I:Inv X pins σ H s) (hg:Gl X x) (hm:X.mg x=none) (hv:bootBuiltins x=some u) (h:Q u s)
   (hn:x ≠ "__name__":=by decide) (hd:(x == ("__debug__":Str))=false:=by decide):wpAny (model X.prog X.w) X.A (eval (.Name x pos) X.env) Q E s:=by
 obtain ⟨mb,h1,h2⟩:=I.mod.blt
 exact Calls.Name_function_global I.ok.kind hg (Calls.loadGlobal_builtin (by rw [I.ok.glob];exact I.mod.glob.keeps I.bk) hm (by rw [I.ok.blt];exact h1.keeps I.bk) ((h2 x hn).trans hv) h) hd
theorem zdQ {x:Str}{v:V}{u:Value}{pos:Pos} (hg:Gl X x) (hm:X.mg x=some u) (r:zq v u) (hd:(x == ("__debug__":Str))=false:=by decide):PE X (.Name x pos) (tC v) :=
 fun _ _ _ H _ I h=>zeD I hg hm ⟨v,H,I,r,h⟩ hd
theorem zh0 {x:Str}{v:V}{u:Value}{pos:Pos} (hg:Gl X x) (hm:X.mg x=none) (hv:bootBuiltins x=some u) (r:zq v u) (hn:x ≠ "__name__":=by decide) (hd:(x == ("__debug__":Str))=false:=by decide):PE X (.Name x pos) (tC v) :=
 fun _ _ _ H _ I h=>zeX I hg hm hv ⟨v,H,I,r,h⟩ hn hd
variable {a b:Expr}{ta tb:TE}{pos:Pos}
variable {tA tB':TT}{rest:List Expr}
noncomputable def zpk (t u:TT):TT:=fun σ H Q=>t σ H fun c H1=>if c=true then u σ H1 Q else Q false H1
noncomputable def tOr (t u:TT):TT:=fun σ H Q=>t σ H fun c H1=>if c=true then Q true H1 else u σ H1 Q
noncomputable def znS (t:TT):TT:=fun σ H Q=>t σ H fun c H1=>Q (!c) H1
theorem zmD (ha:PT X a tA):PW X (.BoolOp .And [a] pos) tA:=by
 intro wh pins s σ H Q I h
 refine isTrue_and (thn (ha pins s σ H Q I h) fun c s1 e=>?_)
 cases c with
 | true=>exact isTrue_and_nil e
 | false=>exact e
theorem zoh (ha:PT X a tA):PW X (.BoolOp .Or [a] pos) tA:=by
 intro wh pins s σ H Q I h
 refine isTrue_or (thn (ha pins s σ H Q I h) fun c s1 e=>?_)
 cases c with
 | false=>exact isTrue_or_nil e
 | true=>exact e
theorem znE (ha:PT X a tA) (hb:PW X (.BoolOp .And (b :: rest) pos) tB'):PW X (.BoolOp .And (a :: b :: rest) pos) (zpk tA tB'):=by
 intro wh pins s σ H Q I h
 refine isTrue_and (thn (ha pins s σ H _ I h) fun c s1 ⟨H1,I1,q1⟩=>?_)
 cases c with
 | true=>exact hb wh pins s1 σ H1 Q I1 q1
 | false=>exact ⟨H1,I1,q1⟩
theorem zlM (ha:PT X a tA) (hb:PW X (.BoolOp .Or (b :: rest) pos) tB'):PW X (.BoolOp .Or (a :: b :: rest) pos) (tOr tA tB'):=by
 intro wh pins s σ H Q I h
 refine isTrue_or (thn (ha pins s σ H _ I h) fun c s1 ⟨H1,I1,q1⟩=>?_)
 cases c with
 | true=>exact ⟨H1,I1,q1⟩
 | false=>exact hb wh pins s1 σ H1 Q I1 q1
theorem znZ (ha:PT X a tA):PT X (.UnaryOp .Not a pos) (znS tA):=by
 intro pins s σ H Q I h
 exact isTrue_not (ha pins s σ H (fun c H1=>Q (!c) H1) I h)
noncomputable def zpL (ta tb:TE):TE:=fun σ H Q=>ta σ H fun x H1=>∃ c,x = .bl c∧if c=true then tb σ H1 Q else Q (.bl false) H1
noncomputable def zo1 (ta:TE):TE:=fun σ H Q=>ta σ H fun x H1=>∃ c,x = .bl c∧Q (.bl (!c)) H1
theorem zoq {op}{t:TE} (h:PE X a t):PE X (.BoolOp op [a] pos) t:=fun pins s σ H Q I hw=>BoolOp_one (h pins s σ H Q I hw)
theorem znm (ha:PE X a ta) (hb:PE X (.BoolOp .And (b :: rest) pos) tb):PE X (.BoolOp .And (a :: b :: rest) pos) (zpL ta tb):=by
 intro pins s σ H Q I h
 refine BoolOp_and (thn (ha pins s σ H _ I h) fun v s1 ⟨x,H1,I1,r1,q1⟩=>?_)
 obtain ⟨c,rfl,q1⟩:=q1
 cases r1
 refine wpAny_truthy_bool ?_
 cases c with
 | true=>exact hb pins s1 σ H1 Q I1 q1
 | false=>exact ⟨.bl false,H1,I1,rfl,q1⟩
theorem znk (ha:PE X a ta):PE X (.UnaryOp .Not a pos) (zo1 ta):=by
 intro pins s σ H Q I h
 refine UnaryOp_ (thn (ha pins s σ H _ I h) fun v s1 ⟨x,H1,I1,r1,q1⟩=>?_)
 obtain ⟨c,rfl,q1⟩:=q1
 cases r1
 exact not_of (wpAny_truthy_bool ⟨.bl (!c),H1,I1,rfl,q1⟩)
noncomputable def tIf (t:TT) (ta tb:TE):TE:=fun σ H Q=>t σ H fun c H1=>if c=true then ta σ H1 Q else tb σ H1 Q
theorem zmY {c:Expr} (hc:PT X c tA) (ha:PE X a ta) (hb:PE X b tb):PE X (.IfExp c a b pos) (tIf tA ta tb):=by
 intro pins s σ H Q I h
 refine wpAny_IfExp (thn (hc pins s σ H _ I h) fun d s1 ⟨H1,I1,q1⟩=>?_)
 cases d with
 | true=>exact ha pins s1 σ H1 Q I1 q1
 | false=>exact hb pins s1 σ H1 Q I1 q1
end
end L2
namespace L2
open PySem PySem.Spec PyProof.Rows
noncomputable def SqL (K:PySem.W.Frag) (H:Hp) (a:Addr) (xs:List V):Prop :=
 Rd H a (.lst xs) ∨
   ∃ (o:Obj) (its:Array Value) (n:Nat),K.lookup a=some o∧o.cls = .type "list" ∧ o.dict=none∧o.data = .seq its n∧its.size<=sizeLine∧zE xs its.toList
noncomputable def SqT (K:PySem.W.Frag) (H:Hp) (a:Addr) (xs:List V):Prop :=
 Rd H a (.tup xs) ∨
   ∃ (o:Obj) (its:Array Value) (n:Nat),K.lookup a=some o∧o.cls = .type "tuple" ∧ o.data = .seq its n∧its.size<=sizeLine∧zE xs its.toList
noncomputable def zmW:Value->Option V
 | .none=>some .non
 | .bool b=>some (.bl b)
 | .int i _=>some (.int i)
 | .str x _=>some (.str x)
 | .bytes b _=>some (.byt b)
 | .float b _=>some (.flt b)
 | .ref a=>some (.ref a)
 | .type n=>some (.ty n)
 | _=>none
theorem zq.abs {x:V}{u:Value} (r:zq x u):zmW u=some x:=by
 cases x with
 | non=>cases r;rfl
 | bl _=>cases r;rfl
 | int _=>obtain ⟨t,rfl⟩:=r;rfl
 | str _=>obtain ⟨t,rfl⟩:=r;rfl
 | byt _=>obtain ⟨t,rfl⟩:=r;rfl
 | flt _=>obtain ⟨t,rfl⟩:=r;rfl
 | ref _=>cases r;rfl
 | ty _=>cases r;rfl
theorem zq.inj {x y:V}{u:Value} (r:zq x u) (q:zq y u):x=y:=Option.some.inj (r.abs.symm.trans q.abs)
theorem zE.inj:∀ {xs ys:List V}{us:List Value},zE xs us->zE ys us->xs=ys
 | _,_,_,.nil,.nil=>rfl
 | _,_,_,.cons r t,.cons r' t'=>by rw [r.inj r',zE.inj t t']
section
variable {X:Cx}{pins:List (Addr×Obj)}{σ:St}{H:Hp}{s:Shared}{a:Addr}{xs ys:List V}
theorem SqL.of {K:PySem.W.Frag} (h:H a=some (.lst xs)):SqL K H a xs := .inl (.inl h)
theorem SqT.of {K:PySem.W.Frag} (h:H a=some (.tup xs)):SqT K H a xs := .inl (.inl h)
theorem Inv.list (I:Inv X pins σ H s) (h:SqL X.K H a xs):∃ its:List Value,zE xs its∧PlainL s.heap a its.toArray∧xs.length<=sizeLine:=by
 rcases h with h | ⟨o,its,n,hk,hc,hd,hs,hz,r⟩
 . obtain ⟨z,its,n,r,e⟩:=h.ok I.hok
   exact ⟨its,r,⟨_,n,e,rfl,rfl,rfl⟩,z⟩
 . refine ⟨its.toList,r,⟨o,n,I.kIn a o hk,hc,hd,by simpa using hs⟩,?_⟩
   have e:=r.length
   simp only [Array.length_toList]at e
   omega
theorem Inv.tuple (I:Inv X pins σ H s) (h:SqT X.K H a xs):∃ its:List Value,zE xs its∧IsTup s.heap a its.toArray∧xs.length<=sizeLine:=by
 rcases h with h | ⟨o,its,n,hk,hc,hs,hz,r⟩
 . obtain ⟨z,its,r,p⟩:=h.ok I.hok
   exact ⟨its,r,p,z⟩
 . refine ⟨its.toList,r,⟨o,I.kIn a o hk,hc,n,by simpa using hs⟩,?_⟩
   have e:=r.length
   simp only [Array.length_toList]at e
   omega
theorem Inv.list_inj (I:Inv X pins σ H s) (h:SqL X.K H a xs) (h':SqL X.K H a ys):xs=ys:=by
 obtain ⟨its,r,⟨o,n,e,_,_,d⟩,_⟩:=I.list h
 obtain ⟨its',r',⟨o',n',e',_,_,d'⟩,_⟩:=I.list h'
 rw [e]at e';cases e'
 rw [d]at d'
 injection d' with d1 _
 have:its=its':=by simpa using congrArg Array.toList d1
 subst this
 exact r.inj r'
theorem Inv.tuple_inj (I:Inv X pins σ H s) (h:SqT X.K H a xs) (h':SqT X.K H a ys):xs=ys:=by
 obtain ⟨its,r,⟨o,e,_,n,d⟩,_⟩:=I.tuple h
 obtain ⟨its',r',⟨o',e',_,n',d'⟩,_⟩:=I.tuple h'
 rw [e]at e';cases e'
 rw [d]at d'
 injection d' with d1 _
 have:its=its':=by simpa using congrArg Array.toList d1
 subst this
 exact r.inj r'
end
noncomputable abbrev Cx.wish (X:Cx) (E:Value->Shared->Prop):Cx:={ X with xe:=E }
noncomputable abbrev Cx.nox (X:Cx):Cx:=X.wish fun _ _=>False
theorem Cx.Ok.wish {X:Cx} (ok:X.Ok) (E:Value->Shared->Prop):(X.wish E).Ok :=
 ⟨ok.mod,ok.kind,ok.glob,ok.blt,ok.above,ok.inj,ok.has,ok.cab,ok.hd,ok.frames,ok.stk,ok.exf,ok.bs,ok.bsz,ok.noex,ok.exfs,ok.funs,ok.frf⟩
theorem Cx.Ok.unwish {X:Cx}{E:Value->Shared->Prop} (ok:(X.wish E).Ok):X.Ok :=
 ⟨ok.mod,ok.kind,ok.glob,ok.blt,ok.above,ok.inj,ok.has,ok.cab,ok.hd,ok.frames,ok.stk,ok.exf,ok.bs,ok.bsz,ok.noex,ok.exfs,ok.funs,ok.frf⟩
section
variable {X:Cx}{pins:List (Addr×Obj)}{σ:St}{H:Hp}{s:Shared}{E:Value->Shared->Prop}
theorem Inv.wish (I:Inv X pins σ H s) (E:Value->Shared->Prop):Inv (X.wish E) pins σ H s:=⟨I.ok.wish E,I.os,I.bare,I.base,I.loc,I.cell,I.free,I.freeC,I.pin,I.hok,I.len⟩
theorem Inv.unwish (I:Inv (X.wish E) pins σ H s):Inv X pins σ H s:=⟨I.ok.unwish,I.os,I.bare,I.base,I.loc,I.cell,I.free,I.freeC,I.pin,I.hok,I.len⟩
end
section
variable {X:Cx}{st:Stmt}{rest:List Stmt}{t u:TS}{e:Expr}{te:TE}{pos:Pos}
noncomputable def zmS:TS:=fun D σ H=>D.nx σ H
noncomputable def zgo (t u:TS):TS:=fun D σ H=>t { D with nx:=u D } σ H
theorem zhX:PSs X [] zmS:=fun _ _ σ H _ I h=>wpAny_execs_nil ⟨σ,H,I,h⟩
theorem zi5 (h1:PS X st t) (h2:PSs X rest u):PSs X (st :: rest) (zgo t u):=by
 intro pins s σ H D I h
 refine wpAny_execs_cons (thn (h1 pins s σ H { D with nx:=u D } I h) fun f s1 q=>?_)
 cases f with
 | next =>
   obtain ⟨σ',H',I',q⟩:=q
   exact h2 pins s1 σ' H' D I' q
 | ret v=>exact q
 | brk=>exact q
 | cont=>exact q
theorem zgX (h1:PS X st t):PSs X [st] t:=by
 intro pins s σ H D I h
 refine wpAny_execs_cons (thn (h1 pins s σ H D I h) fun f s1 q=>?_)
 cases f with
 | next=>exact wpAny_execs_nil q
 | ret v=>exact q
 | brk=>exact q
 | cont=>exact q
theorem Inv.quiet {pins:List (Addr×Obj)}{σ:St}{H:Hp}{s:Shared} (I:Inv X pins σ H s):interactive X.env=false:=by simp [interactive,I.ok.kind]
noncomputable def zo2 (te:TE):TS:=fun D σ H=>te σ H fun _ H1=>D.nx σ H1
theorem zqj (he:PE X e te) (hs:swapsWith e none pos.line X.env=pure false:=by rfl):PS X (.Expr e pos) (zo2 te):=by
 intro pins s σ H D I h
 exact wpAny_Expr_any (thn (he pins s σ H _ I h) fun v s1 ⟨x,H1,I1,r1,q1⟩=>⟨σ,H1,I1,q1⟩) I.quiet hs
noncomputable def zjd (te:TE):TS:=fun D σ H=>te σ H D.rt
theorem zgI (he:PE X e te):PS X (.Return (some e) pos) (zjd te):=by
 intro pins s σ H D I h
 exact wpAny_Return_some (thn (he pins s σ H _ I h) fun v s1 ⟨x,H1,I1,r1,q1⟩=>⟨x,σ,H1,I1,r1,q1⟩)
noncomputable def zlA (c:TT) (t u:TS):TS:=fun D σ H=>c σ H fun b H1=>if b=true then t D σ H1 else u D σ H1
theorem zmt {c:Expr}{a b:List Stmt}{tc:TT} (hc:PT X c tc) (ha:PSs X a t) (hb:PSs X b u):PS X (.If c a b pos) (zlA tc t u):=by
 intro pins s σ H D I h
 refine wpAny_If (thn (hc pins s σ H _ I h) fun d s1 ⟨H1,I1,q1⟩=>?_)
 cases d with
 | true=>exact ha pins s1 σ H1 D I1 q1
 | false=>exact hb pins s1 σ H1 D I1 q1
end
noncomputable abbrev TG:=V->St->Hp->(St->Hp->Prop)->Prop
noncomputable abbrev TGs:=List V->St->Hp->(St->Hp->Prop)->Prop
noncomputable def PG (X:Cx) (target:Expr) (t:TG):Prop :=
 ∀ (pins:List (Addr×Obj)) (s:Shared) (σ:St) (H:Hp) (v:V) (u:Value) (Q:St->Hp->Prop),Inv X pins σ H s->zq v u->t v σ H Q ->
   wpAny (model X.prog X.w) X.A (assign target X.env u) (fun _ s'=>∃ σ' H',Inv X pins σ' H' s'∧Q σ' H') X.xe s
noncomputable def PGs (X:Cx) (ts:List Expr) (t:TGs):Prop :=
 ∀ (pins:List (Addr×Obj)) (s:Shared) (σ:St) (H:Hp) (vs:List V) (us:List Value) (Q:St->Hp->Prop),Inv X pins σ H s->zE vs us->t vs σ H Q ->
   wpAny (model X.prog X.w) X.A (assignInOrder ((assignEach ts X.env).map (·.2)) us) (fun _ s'=>∃ σ' H',Inv X pins σ' H' s'∧Q σ' H') X.xe s
section
variable {X:Cx}{pos:Pos}
noncomputable def zhl (i:Nat):TG:=fun v σ H Q=>Q (σ.set i (some v)) H
theorem zin {i:Nat}{x:Str} (hN:X.N.Nodup) (hi:X.N[i]?=some x) (hx:Loc X.env.scope x) (hf:X.fn x=true∨X.env.scope.names.lookup x=some .local:=by first | exact .inl rfl | exact .inr rfl | assumption):PG X (.Name x pos) (zhl i):=by
 intro pins s σ H v u Q I r h
 exact wpAny_assign_Name (zfu I hN hi hx r (fun s' I'=>⟨_,H,I',h⟩) hf)
noncomputable def zmq:TGs:=fun vs σ H Q=>vs=[]∧Q σ H
noncomputable def zn4 (t:TG) (u:TGs):TGs:=fun vs σ H Q=>∃ v r,vs=v :: r∧t v σ H fun σ' H'=>u r σ' H' Q
theorem zpD:PGs X [] zmq:=by
 intro pins s σ H vs us Q I r h
 obtain ⟨e,h⟩:=h
 subst e
 cases r
 exact assignInOrder_nil ⟨σ,H,I,h⟩
theorem zo8 {e:Expr}{es:List Expr}{t:TG}{u:TGs} (h1:PG X e t) (h2:PGs X es u)
   (hs:(assignEach (e :: es) X.env).map (·.2)=assign e X.env :: (assignEach es X.env).map (·.2):=by rfl):PGs X (e :: es) (zn4 t u):=by
 intro pins s σ H vs us Q I r h
 obtain ⟨v,vr,e1,h⟩:=h
 subst e1
 cases r with
 | cons r rr =>
   rw [hs]
   refine assignInOrder_cons (thn (h1 pins s σ H _ _ _ I r h) fun _ s1 ⟨σ1,H1,I1,q1⟩=>?_)
   exact h2 pins s1 σ1 H1 _ _ Q I1 rr q1
noncomputable def zmA (K:PySem.W.Frag) (n:Nat) (t:TGs):TG:=fun v σ H Q=>∃ a xs,v = .ref a∧SqT K H a xs∧xs.length=n∧t xs σ H Q
theorem zp0 {es:List Expr}{k:Nat}{t:TGs}{n:Nat} (hc:X.calm=true) (h:PGs X es t)
   (hn:(assignEach es X.env).length=n:=by rfl) (hst:(assignEach es X.env).findIdx? (·.1)=none:=by rfl):PG X (.Tuple es k pos) (zmA X.K n t):=by
 intro pins s σ H v u Q I r hw
 obtain ⟨a,xs,e1,hq,hl,hw⟩:=hw
 subst e1
 cases r
 obtain ⟨its,rv,ht,hz⟩:=I.tuple hq
 refine assign_Tuple_tuple (I.ok.hd hc) ht (by simp [hn,<- hl,rv.length]) hst fun h' hx=>?_
 have I1:Inv X pins σ H { s with heap:=h' }:=I.kept (t':=s.toks) fun b o e=>hx b o (Nat.ne_of_lt (Heap.lt_size e)) e
 exact h pins _ σ H xs _ Q I1 (by simpa using rv) hw
noncomputable def zfw (te:TE) (g:TG):TS:=fun D σ H=>te σ H fun x H1=>g x σ H1 D.nx
theorem zlC {tg e:Expr}{te:TE}{g:TG} (he:PE X e te) (hg:PG X tg g) (hs:swapsWithSole [tg] e pos.line X.env=pure false:=by rfl) (hw:swappedStores [tg] e X.env=pure none:=by rfl)
   (h1:(assignEach [tg] X.env).map (·.2)=[assign tg X.env]:=by rfl):PS X (.Assign [tg] e pos) (zfw te g):=by
 intro pins s σ H D I h
 refine wpAny_Assign_stores (thn (he pins s σ H _ I h) fun v s1 ⟨x,H1,I1,r1,q1⟩=>?_) hs hw
 rw [h1]
 exact thn (hg pins s1 σ H1 x v _ I1 r1 q1) fun _ s2 q=>q
theorem ziC {i:Nat}{x:Str}{e:Expr}{te:TE}{pos':Pos} (hN:X.N.Nodup) (hi:X.N[i]?=some x) (hx:Loc X.env.scope x) (he:PE X e te) (hs:swapsWith e (some (.Name x pos')) pos.line X.env=pure false:=by rfl) (hf:X.fn x=true∨X.env.scope.names.lookup x=some .local:=by first | exact .inl rfl | exact .inr rfl | assumption) :
   PS X (.Assign [.Name x pos'] e pos) (zfw te (zhl i)):=by
 intro pins s σ H D I h
 refine wpAny_Assign_Name (thn (he pins s σ H _ I h) fun v s1 ⟨y,H1,I1,r1,q1⟩=>?_) hs
 exact zfu I1 hN hi hx r1 (fun s2 I2=>⟨_,H1,I2,q1⟩) hf
noncomputable def zlW (i j:Nat) (ta:TA):TS:=fun D σ H=>ta σ H fun vs H1=>∃ v w,vs=[v,w]∧D.nx ((σ.set i (some v)).set j (some w)) H1
theorem zps {i j:Nat}{x y:Str}{a b:Expr}{ta:TA}{px py pt:Pos}{kt k2 pt2} (hc:X.calm=true) (hN:X.N.Nodup) (hi:X.N[i]?=some x) (hj:X.N[j]?=some y) (hij:i≠j)
   (hx:X.env.scope.names.lookup x=some .local) (hy:X.env.scope.names.lookup y=some .local) (ha:PA X [a,b] ta)
   (hw:swappedStores [.Tuple [.Name x px,.Name y py] kt pt] (.Tuple [a,b] k2 pt2) X.env=pure (some [x,y]))
   (hs:swapsWithSole [.Tuple [.Name x px,.Name y py] kt pt] (.Tuple [a,b] k2 pt2) pos.line X.env=pure false:=by rfl) :
   PS X (.Assign [.Tuple [.Name x px,.Name y py] kt pt] (.Tuple [a,b] k2 pt2) pos) (zlW i j ta):=by
 intro pins s σ H D I h
 rw [exec_Assign_arm]
 refine wpAny_bind (wpAny_standAt ?_)
 rw [hs]
 refine wpAny_bind (wpAny_pure ?_)
 rw [if_neg ϑ]
 refine wpAny_bind (Tuple_ (thn (ha _ pins s σ H _ I h) fun us s1 ⟨vs,H1,I1,r1,q1⟩=>?_))
 obtain ⟨v,w,e1,q1⟩:=q1
 subst e1
 obtain ⟨u1,u2,rfl,rv,rw'⟩:∃ u1 u2,us=[u1,u2]∧zq v u1∧zq w u2:=by
   cases r1 with
   | cons p q =>
     cases q with
     | cons p' q' =>
       cases q'
       exact ⟨_,_,rfl,p,p'⟩
 refine wpAny_newObj_type ?_ (by show 2<=sizeLine;decide)
 have I2:Inv X pins σ H1 { s1 with heap:=s1.heap.push { cls := .type "tuple",data := .seq [u1,u2].toArray } }:=I1.kept (t':=s1.toks) fun b o e=>Heap.get?_push_of_some _ e
 rw [hw]
 refine wpAny_bind (wpAny_pure ?_)
 show wpAny (model X.prog X.w) X.A (do rule "assign.swapped-stores";let items <- unpackItems (.ref s1.heap.objs.size) 2 none;assignInOrder [fun v=>bindName X.env y v,fun v=>bindName X.env x v] items.reverse;pure Flow.next) _ _ _
 refine wpAny_bind (wpAny_rule (wpAny_bind (unpackItems_tuple (items:=#[u1,u2]) (I.ok.hd hc) (IsTup.new s1.heap _) fun h' hx'=>?_)))
 have I3:=I2.kept (h':=h') (t':=s1.toks) fun b o e=>hx' b o (Nat.ne_of_lt (Heap.lt_size e)) e
 show wpAny _ _ (assignInOrder [fun v=>bindName X.env y v,fun v=>bindName X.env x v] [u2,u1] >>= fun _=>pure Flow.next) _ _ _
 refine wpAny_bind (assignInOrder_cons (wpAny_bindName (zfu I3 hN hj (.inl hy) rw' (fun s2 I4=>?_) (.inr hy))))
 refine assignInOrder_cons (wpAny_bindName (zfu I4 hN hi (.inl hx) rv (fun s3 I5=>assignInOrder_nil (wpAny_pure ?_)) (.inr hx)))
 rw [List.set_comm _ _ (Ne.symm hij)]at I5
 exact ⟨_,H1,I5,q1⟩
end
section
variable {X:Cx}{pos:Pos}
end
structure It where
 go:Nat->Hp->Prop
 yld:Nat->Hp->V->Hp->Prop
 stop:Nat->Hp->Prop
noncomputable def zcq (X:Cx) (pins:List (Addr×Obj)) (H:Hp) (b:Addr):Prop :=
 H b=none∧b≠X.env.locals∧b∉X.fs∧(b∈X.ex∨X.s₀.heap.objs.size<=b)∧(∀ x c,X.env.cells.lookup x=some c->c≠b)∧∀ p∈X.pn++pins,p.1≠b
theorem Inv.fpOk {X:Cx}{pins:List (Addr×Obj)}{σ:St}{H H':Hp}{s:Shared}{b:Addr} (I:Inv X pins σ H s) (hb:s.heap.objs.size<=b) (hn:H' b=none):zcq X pins H' b:=by
 refine ⟨hn,Nat.ne_of_gt (Nat.lt_of_lt_of_le I.lt hb),I.nofs hb,.inr (Nat.le_trans I.sz hb),fun x c e z=>?_,fun p hp z=>?_⟩
 . obtain ⟨v,q⟩:=I.cell x c e
   exact absurd (Nat.lt_of_lt_of_le q.lt (by rw [z];exact hb)) (Nat.lt_irrefl _)
 . exact absurd (Nat.lt_of_lt_of_le (Heap.lt_size (I.pin p hp).1) (by rw [z];exact hb)) (Nat.lt_irrefl _)
structure ze7 (P:Program) (w:World) (K:PySem.W.Frag) (tg:Expr) (J:It) (fp:List Addr) (it:Addr) (tn:Nat->Heap->Prop):Prop where
 mem:it∈fp
 obj:∀ i h,tn i h->∀ b∈fp,∃ o,h.get? b=some o∧∀ v,o.data ≠ .cell v
 keep:∀ i h h',tn i h->(∀ b∈fp,∀ o,h.get? b=some o->h'.get? b=some o)->tn i h'
 item:∀ (X:Cx),X.prog=P->X.w=w->X.K=K->X.calm=true->∀ (i:Nat) (pins:List (Addr×Obj)) (s:Shared) (σ:St) (H:Hp) (E:Value->Shared->Prop),Inv X pins σ H s->(∀ b∈fp,zcq X pins H b)->tn i s.heap->J.go i H ->
   wpAny (model P w) X.A (pyNext (.ref it)) (fun r s1=>∃ u,r=some u ∧
     wpAny (model P w) X.A (letOwnedTupleGo tg (.ref it) u) (fun _ s2=>∃ x H',Inv X pins σ H' s2∧zq x u∧J.yld i H x H'∧tn (i+1) s2.heap∧∀ b∈fp,H' b=none) E s1) E s
 done:∀ (X:Cx),X.prog=P->X.w=w->X.K=K->X.calm=true->∀ (i:Nat) (pins:List (Addr×Obj)) (s:Shared) (σ:St) (H:Hp) (E:Value->Shared->Prop),Inv X pins σ H s->(∀ b∈fp,zcq X pins H b)->tn i s.heap->J.stop i H ->
   wpAny (model P w) X.A (pyNext (.ref it)) (fun r s1=>r=none∧Inv X pins σ H s1) E s
 self:∀ (A:Around) (i:Nat) (s:Shared) (Q:Value->Shared->Prop) (E:Value->Shared->Prop),tn i s.heap->Q (.ref it) s->wpAny (model P w) A (pyIter (.ref it)) Q E s
noncomputable abbrev TI:=St->Hp->(It->Hp->Prop)->Prop
noncomputable def PIE (X:Cx) (pins:List (Addr×Obj)) (σ:St) (tg:Expr) (R:It->Hp->Prop) (itv:Value) (s2:Shared):Prop :=
 ∃ (it:Addr) (fp:List Addr) (tn:Nat->Heap->Prop) (J:It) (H':Hp),itv = .ref it∧Inv X pins σ H' s2∧ze7 X.prog X.w X.K tg J fp it tn∧tn 0 s2.heap∧(∀ b∈fp,zcq X pins H' b)∧R J H'
noncomputable def PI (X:Cx) (tg iter:Expr) (wi:TI):Prop :=
 ∀ (pins:List (Addr×Obj)) (s:Shared) (σ:St) (H:Hp) (R:It->Hp->Prop),Inv X pins σ H s->wi σ H R ->
   wpAny (model X.prog X.w) X.A (eval iter X.env) (fun v s1=>wpAny (model X.prog X.w) X.A (pyIter v) (PIE X pins σ tg R) X.xe s1) X.xe s
theorem zgV {M:Model}{A:Around}{E:Value->Shared->Prop}{s:Shared}{tg:Expr}{it:Addr}{u:Value}{o:Obj}{n:String}{vs:Array Value}{Q:Unit->Shared->Prop} (ho:s.heap.get? it=some o) (hc:o.cls = .type n) (hd:o.data = .fields vs)
   (hn:["enumerate", "zip", "dict_itemiterator", "dict_reverseitemiterator", "odict_iterator", "itertools.zip_longest", "itertools.pairwise"].contains n=false) (hQ:Q () s):wpAny M A (letOwnedTupleGo tg (.ref it) u) Q E s:=by
 unfold letOwnedTupleGo
 cases tg <;> first
   | exact wpAny_pure hQ
   | (cases u <;> first
       | exact wpAny_pure hQ
       | (refine wpAny_bind (wpAny_load ho ?_)
          rw [hc,hd]
          show wpAny M A (if (["enumerate", "zip", "dict_itemiterator", "dict_reverseitemiterator", "odict_iterator", "itertools.zip_longest", "itertools.pairwise"].contains n && vs[0]? == some (rawInt _))=true then _ else _) Q E s
          rw [if_neg (by intro h;rw [hn,Bool.false_and]at h;cases h)]
          exact wpAny_pure hQ))
noncomputable def Itl (K:PySem.W.Frag) (a:Addr):It :=
 ⟨fun i H=>∃ xs x,SqL K H a xs∧xs[i]?=some x,fun i H x H'=>H'=H∧∀ xs,SqL K H a xs->xs[i]?=some x,fun i H=>∃ xs,SqL K H a xs∧xs.length<=i⟩
noncomputable def Itr (lo:Int) (n:Nat):It:=⟨fun i _=>i < n,fun i H x H'=>H'=H∧x = .int (lo+i),fun i _=>n<=i⟩
theorem zmO {P:Program}{w:World}{K:PySem.W.Frag}{tg:Expr} (a it:Addr):ze7 P w K tg (Itl K a) [it] it (fun i h=>h.IsListIter it a i) where
 mem:=by simp
 obj:=fun i h st b hb=>by
   have e:b=it:=by simpa using hb
   subst e
   obtain ⟨o,e,c,d⟩:=st
   exact ⟨o,e,fun v z=>by rw [d]at z;cases z⟩
 keep:=fun i h h' st k=>st.at fun o e=>k it ς o e
 item:=by
   intro X hP hw hK hc i pins s σ H E I hf st hg
   subst hP hw hK
   obtain ⟨xs,x,hq,hx⟩:=hg
   obtain ⟨its,rv,p,hz⟩:=I.list hq
   obtain ⟨u,hu,ru⟩:=rv.get hx
   obtain ⟨f0,f1,f2,f3,f4,f5⟩:=hf it ς
   refine wpAny_pyNext_list_item st p.isList (x:=u) (by simpa using hu) fun h' st' sb=>?_
   have I1:Inv X pins σ H { s with heap:=h' }:=I.turned (t':=s.toks) (fun b o hb e=>(sb.2 b hb).trans e) f0 f1 f3 f4 f5
   obtain ⟨o,e,c,d⟩:=id st'
   exact ⟨u,rfl,zgV (s:={ s with heap:=h' }) e c d ϑ ⟨x,H,I1,ru,⟨rfl,fun ys hy=>by rw [I.list_inj hy hq];exact hx⟩,st',fun b hb=>(hf b hb).1⟩⟩
 done:=by
   intro X hP hw hK hc i pins s σ H E I hf st hg
   subst hP hw hK
   obtain ⟨xs,hq,hx⟩:=hg
   obtain ⟨its,rv,p,hz⟩:=I.list hq
   obtain ⟨f0,f1,f2,f3,f4,f5⟩:=hf it ς
   have hl:=rv.length
   exact wpAny_pyNext_list_end (I.ok.hd hc) st p.isList (by simp;omega) fun h' eb=>⟨rfl,I.turned (t':=s.toks) (fun b o hb e=>eb b o hb e) f0 f1 f3 f4 f5⟩
 self:=fun _ _ _ _ _ st h=>wpAny_pyIter_listiter st h
theorem zme {P:Program}{w:World}{K:PySem.W.Frag}{tg:Expr} (it:Addr) (lo:Int) (n:Nat):ze7 P w K tg (Itr lo n) [it] it (fun i h=>IsRangeIter h it (lo+(i:Nat) * 1) ((n:Int) - (i:Nat)) 1) where
 mem:=by simp
 obj:=fun i h st b hb=>by
   have e:b=it:=by simpa using hb
   subst e
   exact ⟨_,st,fun v z=>by
     have z':Data.fields _=Data.cell v:=z
     cases z'⟩
 keep:=fun i h h' st k=>k it ς _ st
 item:=by
   intro X hP hw hK hc i pins s σ H E I hf st hg
   subst hP hw hK
   obtain ⟨f0,f1,f2,f3,f4,f5⟩:=hf it ς
   have W:=Walks.range (prog:=X.prog) (w:=X.w) (I.ok.hd hc) it lo 1 n
   refine W.item i s _ _ hg st fun v h' tk hv st' kk=>?_
   obtain ⟨t,rfl⟩:=hv
   have I1:Inv X pins σ H { s with heap:=h',toks:=tk }:=I.turned (fun b o hb e=>kk b o (by simpa using hb) e) f0 f1 f3 f4 f5
   refine ⟨_,rfl,zgV (s:={ s with heap:=h',toks:=tk }) (n :="range_iterator") st' rfl rfl ϑ ⟨.int (lo+i),H,I1,⟨t,?_⟩,⟨rfl,rfl⟩,st',fun b hb=>(hf b hb).1⟩⟩
   rw [Int.mul_one]
 done:=by
   intro X hP hw hK hc i pins s σ H E I hf st hg
   subst hP hw hK
   obtain ⟨f0,f1,f2,f3,f4,f5⟩:=hf it ς
   exact wpAny_pyNext_range_end (I.ok.hd hc) st (by have:n<=i:=hg;omega) fun h' eb=>⟨rfl,I.turned (t':=s.toks) (fun b o hb e=>eb b o hb e) f0 f1 f3 f4 f5⟩
 self:=fun _ _ _ _ _ st h=>wpAny_pyIter_rangeiter st h
end L2
namespace L2
open PySem PySem.Spec PyProof.Rows
section
variable {X:Cx}{tg:Expr}
noncomputable def zmH (K:PySem.W.Frag) (tl:TE):TI:=fun σ H R=>tl σ H fun x H1=>∃ a,x = .ref a∧(∃ xs,SqL K H1 a xs)∧R (Itl K a) H1
theorem zoS {l:Expr}{tl:TE} (hl:PE X l tl):PI X tg l (zmH X.K tl):=by
 intro pins s σ H R I h
 refine thn (hl pins s σ H _ I h) fun v s1 ⟨x,H1,I1,r1,q1⟩=>?_
 obtain ⟨a,e,⟨xs,hq⟩,q⟩:=q1
 subst e
 cases r1
 obtain ⟨its,rv,p,hz⟩:=I1.list hq
 refine wpAny_pyIter_list p.isList ?_
 refine ⟨s1.heap.objs.size,[s1.heap.objs.size],_,_,H1,rfl,I1.kept (t':=s1.toks) fun b o e=>Heap.get?_push_of_some _ e,zmO a _,⟨_,Heap.get?_push_size _ rfl,rfl,rfl⟩,fun b hb=>?_,q⟩
 have e:b=s1.heap.objs.size:=by simpa using hb
 subst e
 exact I1.fpOk (Nat.le_refl _) (I1.hok.fresh (Nat.le_refl _))
theorem zoN {pins:List (Addr×Obj)}{σ:St}{H:Hp}{s:Shared}{R:It->Hp->Prop}{E:Value->Shared->Prop}{lo hi:Int}{t u v:Tok}{tk:Nat} (I:Inv X pins σ H s) (h1:-(2 ^ 62)<=lo) (h2:lo < 2 ^ 62) (h3:-(2 ^ 62)<=hi) (h4:hi < 2 ^ 62)
   (q:R (Itr lo (hi - lo).toNat) H):wpAny (model X.prog X.w) X.A (pyIter (.ref s.heap.objs.size)) (PIE X pins σ tg R) E { s with heap:=s.heap.push { cls := .type "range",data := .fields #[.int lo t,.int hi u,.int 1 v] },toks:=tk }:=by
 refine wpAny_pyIter_range (IsRange.new ..) (small_one h1 h2 h3 h4) ?_
 have I1:Inv X pins σ H { s with heap:=s.heap.push { cls := .type "range",data := .fields #[.int lo t,.int hi u,.int 1 v] },toks:=tk }:=I.kept fun b o e=>Heap.get?_push_of_some _ e
 refine ⟨(s.heap.push { cls := .type "range",data := .fields #[.int lo t,.int hi u,.int 1 v] }).objs.size,[(s.heap.push { cls := .type "range",data := .fields #[.int lo t,.int hi u,.int 1 v] }).objs.size],_,_,H,rfl,
   I1.kept (t':=tk) fun b o e=>Heap.get?_push_of_some _ e,zme _ lo (hi - lo).toNat,?_,fun b hb=>?_,q⟩
 . have e1:lo+((0:Nat):Int) * 1=lo:=by simp
   have e2:(((hi - lo).toNat:Nat):Int) - ((0:Nat):Int)=Builtin.Range.rangeSize lo hi 1:=by rw [rangeSize_one];split <;> omega
   show IsRangeIter _ _ (lo+((0:Nat):Int) * 1) ((((hi - lo).toNat:Nat):Int) - ((0:Nat):Int)) 1
   rw [e1,e2]
   exact Heap.get?_push_size _ rfl
 . have e:b=(s.heap.push { cls := .type "range",data := .fields #[.int lo t,.int hi u,.int 1 v] }).objs.size:=by simpa using hb
   subst e
   exact I1.fpOk (Nat.le_refl _) (I1.hok.fresh (Nat.le_refl _))
noncomputable def znN (ta:TA):TI:=fun σ H R=>ta σ H fun vs H1=>∃ j:Int,vs=[.int j]∧-(2 ^ 62)<=j∧j < 2 ^ 62∧R (Itr 0 j.toNat) H1
theorem zoX {a:Expr}{ta:TA}{p pos:Pos} (hg:Gl X "range") (hm:X.mg "range" = none) (ha:PA X [a] ta) (hs:starEach [a] X.env=[(false,eval a X.env)]:=by rfl):PI X tg (.Call (.Name "range" p) [a] [] pos) (znN ta):=by
 intro pins s σ H R I h
 refine Call_ (zeX I hg hm boot_range (PyProof.Rows.callWith_type1 (thn (ha pos pins s σ H _ I h) fun us s1 ⟨vs,H1,I1,r1,q1⟩=>?_) hs rfl))
 obtain ⟨j,e,q1,q2,q⟩:=q1
 subst e
 cases r1 with
 | cons r rr =>
   cases rr
   obtain ⟨t,rfl⟩:=r
   exact call_range_1 (zoN I1 ω ω q1 q2 (by simpa using q))
noncomputable def zpY (wi:TI) (g:TG) (tb:TS):TS:=fun D σ H=>wi σ H fun J H1=>∃ W:Nat->Nat->St->Hp->Prop,(∃ m,W 0 m σ H1)∧∀ i m σ H,W i m σ H ->
 (J.stop i H∧D.nx σ H)∨(J.go i H∧∃ N:St->Hp->Prop,(∀ σ' H',N σ' H'->∃ m',m' < m∧W (i+1) m' σ' H')∧∀ x H',J.yld i H x H'->g x σ H' fun σ2 H2=>tb { D with nx:=N,ct:=N,bk:=D.nx } σ2 H2)
noncomputable def zfj (fp:List Addr) (h:Heap):List (Addr×Obj):=fp.filterMap fun b=>(h.get? b).map fun o=>(b,o)
theorem zfA {fp:List Addr}{h:Heap}{b:Addr}{o:Obj} (hb:b∈fp) (e:h.get? b=some o):(b,o)∈zfj fp h:=List.mem_filterMap.mpr ⟨b,hb,by rw [e];rfl⟩
theorem zlT {fp:List Addr}{h:Heap}{p:Addr×Obj} (hp:p∈zfj fp h):p.1∈fp∧h.get? p.1=some p.2:=by
 obtain ⟨b,hb,e⟩:=List.mem_filterMap.mp hp
 cases q:h.get? b with
 | none=>rw [q]at e;cases e
 | some o =>
   rw [q]at e
   have e':(b,o)=p:=Option.some.inj e
   subst e'
   exact ⟨hb,q⟩
theorem Inv.pinned {pins:List (Addr×Obj)}{σ:St}{H:Hp}{s:Shared}{fp:List Addr} (I:Inv X pins σ H s) (hf:∀ b∈fp,zcq X pins H b) (ho:∀ b∈fp,∃ o,s.heap.get? b=some o∧∀ v,o.data ≠ .cell v):Inv X (pins++zfj fp s.heap) σ H s :=
 I.pins_of fun p hp=>(List.mem_append.mp hp).elim (fun z=>I.pin p (List.mem_append_right _ z)) fun z=>by
   obtain ⟨hb,e⟩:=zlT z
   obtain ⟨f0,f1,f2,_⟩:=hf p.1 hb
   obtain ⟨o,e',d⟩:=ho p.1 hb
   rw [e]at e';cases e'
   exact ⟨e,f0,f1,f2,d⟩
theorem Inv.unpinned {pins pl:List (Addr×Obj)}{σ:St}{H:Hp}{s:Shared} (I:Inv X (pins++pl) σ H s):Inv X pins σ H s:=I.pins_of fun p hp=>I.pin p (List.mem_append_right _ (List.mem_append_left _ hp))
theorem zpl {iter:Expr}{body:List Stmt}{wi:TI}{g:TG}{tb:TS}{pos:Pos} (hp:PassesOwn (model X.prog X.w) X.A X.env X.xe) (hc:X.calm=true) (hi:PI X tg iter wi) (hg:PG X tg g) (hb:PSs X body tb)
   (hs:∀ x,foldedSetIterable iter X.env x=pure x:=by intro _;rfl):PS X (.For tg iter body [] pos) (zpY wi g tb):=by
 intro pins s σ H D I h
 refine wpAny_For (thn (hi pins s σ H _ I h) fun v s1 h1=>thn h1 fun itv s2 h2=>?_) hs
 obtain ⟨it,fp,tn,J,H2,e,I2,T,st2,f2,W,⟨m0,w0⟩,turn⟩:=h2
 subst e
 have stat:∀ {H':Hp},(∀ b∈fp,H' b=none)->∀ b∈fp,zcq X pins H' b:=fun hn b hb=>⟨hn b hb,(f2 b hb).2⟩
 refine codeAny_forLoop_any (fun n s'=>∃ i σ' H',Inv X pins σ' H' s'∧tn i s'.heap∧(∀ b∈fp,H' b=none)∧W i n σ' H') ?_ m0 ⟨0,σ,H2,I2,st2,fun b hb=>(f2 b hb).1,w0⟩
 rintro n s3 ⟨i,σ3,H3,I3,st3,fr3,w3⟩
 rcases turn i n σ3 H3 w3 with ⟨stop,qn⟩ | ⟨go,N,hN,step⟩
 . refine wpAny_passesOwn hp (thn (T.done X rfl rfl rfl hc i pins s3 σ3 H3 X.xe I3 (stat fr3) st3 stop) fun r s4 ⟨hr,I4⟩=>?_)
   subst hr
   exact wpAny_execs_nil ⟨σ3,H3,I4,qn⟩
 . refine wpAny_passesOwn hp (thn (T.item X rfl rfl rfl hc i pins s3 σ3 H3 X.xe I3 (stat fr3) st3 go) fun r s4 ⟨u,hr,h4⟩=>?_)
   subst hr
   refine wpAny_passesOwn hp (thn h4 fun _ s5 ⟨x,H5,I5,r5,y5,st5,fr5⟩=>?_)
   have I5':=I5.pinned (stat fr5) (T.obj _ _ st5)
   refine wpAny_passesOwn hp (thn (hg _ s5 σ3 H5 x u _ I5' r5 (step x H5 y5)) fun _ s6 ⟨σ6,H6,I6,q6⟩=>?_)
   refine wpAny_passesOwn hp (thn (hb _ s6 σ6 H6 _ I6 q6) fun f s7 q7=>?_)
   have again:∀ {σ7:St} {H7:Hp},Inv X (pins++zfj fp s5.heap) σ7 H7 s7->N σ7 H7->∃ m,m < n∧∃ i σ' H',Inv X pins σ' H' s7∧tn i s7.heap∧(∀ b∈fp,H' b=none)∧W i m σ' H':=fun {σ7 H7} I7 n7=>by
     obtain ⟨m',hm,w7⟩:=hN σ7 H7 n7
     refine ⟨m',hm,i+1,σ7,H7,I7.unpinned,T.keep _ _ _ st5 fun b hb o e=>(I7.pin (b,o) (List.mem_append_right _ (List.mem_append_right _ (zfA hb e)))).1,fun b hb=>?_,w7⟩
     obtain ⟨o,e,d⟩:=T.obj _ _ st5 b hb
     exact (I7.pin (b,o) (List.mem_append_right _ (List.mem_append_right _ (zfA hb e)))).2.1
   cases f with
   | next=>obtain ⟨σ7,H7,I7,n7⟩:=q7;exact again I7 n7
   | cont=>obtain ⟨σ7,H7,I7,n7⟩:=q7;exact again I7 n7
   | brk=>obtain ⟨σ7,H7,I7,q7⟩:=q7;exact ⟨σ7,H7,I7.unpinned,q7⟩
   | ret v=>obtain ⟨x7,σ7,H7,I7,r7,q7⟩:=q7;exact ⟨x7,σ7,H7,I7.unpinned,r7,q7⟩
end
end L2
namespace L2
open PySem PySem.Spec PyProof.Rows
noncomputable abbrev R2:=V->V->Hp->VK->Prop
noncomputable def OpR (X:Cx) (f:Value->Value->Sem Value) (r:R2):Prop :=
 ∀ (pins:List (Addr×Obj)) (s:Shared) (σ:St) (H:Hp) (x y:V) (v u:Value) (Q:VK),Inv X pins σ H s->zq x v->zq y u->r x y H Q ->
   wpAny (model X.prog X.w) X.A (f v u) (EP X pins σ Q) X.xe s
noncomputable def UnR (X:Cx) (f:Value->Sem Value) (r:V->Hp->VK->Prop):Prop :=
 ∀ (pins:List (Addr×Obj)) (s:Shared) (σ:St) (H:Hp) (x:V) (v:Value) (Q:VK),Inv X pins σ H s->zq x v->r x H Q ->
   wpAny (model X.prog X.w) X.A (f v) (EP X pins σ Q) X.xe s
noncomputable def zdu (X:Cx) (f:Value) (r:List V->Hp->VK->Prop):Prop :=
 ∀ (pins:List (Addr×Obj)) (s:Shared) (σ:St) (H:Hp) (xs:List V) (us:List Value) (Q:VK),Inv X pins σ H s->zE xs us->r xs H Q ->
   wpAny (model X.prog X.w) X.A (call f us) (EP X pins σ Q) X.xe s
noncomputable def zpz (X:Cx) (r:V->Hp->(Bool->Hp->Prop)->Prop):Prop :=
 ∀ (pins:List (Addr×Obj)) (s:Shared) (σ:St) (H:Hp) (x:V) (v:Value) (Q:Bool->Hp->Prop),Inv X pins σ H s->zq x v->r x H Q ->
   wpAny (model X.prog X.w) X.A (truthy v) (TP X pins σ Q) X.xe s
noncomputable def tOp (r:R2) (ta tb:TE):TE:=fun σ H Q=>ta σ H fun x H1=>tb σ H1 fun y H2=>r x y H2 Q
noncomputable def tUn (r:V->Hp->VK->Prop) (ta:TE):TE:=fun σ H Q=>ta σ H fun x H1=>r x H1 Q
noncomputable def rI (C:Int->Int->Prop) (g:Int->Int->V):R2:=fun x y H Q=>∃ i j,x = .int i∧y = .int j∧C i j∧Q (g i j) H
noncomputable def rI0 (g:Int->Int->V):R2:=fun x y H Q=>∃ i j,x = .int i∧y = .int j∧Q (g i j) H
noncomputable def rU (g:Int->V):V->Hp->VK->Prop:=fun x H Q=>∃ i,x = .int i∧Q (g i) H
section
variable {X:Cx}{a b c:Expr}{ta tb tc:TE}{pos:Pos}
theorem zg1 (ha:PE X a ta) (hb:PE X b tb) {pins:List (Addr×Obj)}{s:Shared}{σ:St}{H:Hp}{R:V->V->Hp->Prop} (I:Inv X pins σ H s)
   (h:ta σ H fun x H1=>tb σ H1 fun y H2=>R x y H2) {Q:Value->Shared->Prop} {f:Value->Value->Sem Value}
   (hf:∀ v u s2 x y H2,Inv X pins σ H2 s2->zq x v->zq y u->R x y H2->wpAny (model X.prog X.w) X.A (f v u) Q X.xe s2) :
   wpAny (model X.prog X.w) X.A (eval a X.env) (fun v s₁=>wpAny (model X.prog X.w) X.A (eval b X.env) (fun u s₂=>wpAny (model X.prog X.w) X.A (f v u) Q X.xe s₂) X.xe s₁) X.xe s:=by
 refine thn (ha pins s σ H _ I h) fun v s1 ⟨x,H1,I1,r1,q1⟩=>?_
 refine thn (hb pins s1 σ H1 _ I1 q1) fun u s2 ⟨y,H2,I2,r2,q2⟩=>?_
 exact hf v u s2 x y H2 I2 r1 r2 q2
theorem zgK {op:Operator}{r:R2} (ho:OpR X (binaryOp op) r) (ha:PE X a ta) (hb:PE X b tb):PE X (.BinOp a op b pos) (tOp r ta tb):=by
 intro pins s σ H Q I h
 exact wpAny_BinOp (zg1 ha hb I h fun v u s2 x y H2 I2 rx ry q=>ho pins s2 σ H2 x y v u Q I2 rx ry q)
theorem znT {op:UnaryOp}{r:V->Hp->VK->Prop} (ho:UnR X (unaryOp op) r) (ha:PE X a ta):PE X (.UnaryOp op a pos) (tUn r ta):=by
 intro pins s σ H Q I h
 exact UnaryOp_ (thn (ha pins s σ H _ I h) fun v s1 ⟨x,H1,I1,r1,q1⟩=>ho pins s1 σ H1 x v Q I1 r1 q1)
theorem opI {f:Value->Value->Sem Value}{C:Int->Int->Prop}{g:Int->Int->Int}
   (rule:∀ (i j:Int) (t u:Tok) (s:Shared) (Q:Value->Shared->Prop) (E:Value->Shared->Prop),C i j->Q (.int (g i j) s.toks) { s with toks:=s.toks+1 }->wpAny (model X.prog X.w) X.A (f (.int i t) (.int j u)) Q E s) :
   OpR X f (rI C fun i j=> .int (g i j)):=by
 intro pins s σ H x y v u Q I rx ry h
 obtain ⟨i,j,rfl,rfl,hc,q⟩:=h
 obtain ⟨t,rfl⟩:=rx
 obtain ⟨t',rfl⟩:=ry
 exact rule i j t t' s _ _ hc ⟨.int (g i j),H,I.tok _,⟨_,rfl⟩,q⟩
theorem zit {f:Value->Value->Sem Value}{g:Int->Int->Int}
   (rule:∀ (i j:Int) (t u:Tok) (s:Shared) (Q:Value->Shared->Prop) (E:Value->Shared->Prop),Q (.int (g i j) s.toks) { s with toks:=s.toks+1 }->wpAny (model X.prog X.w) X.A (f (.int i t) (.int j u)) Q E s) :
   OpR X f (rI0 fun i j=> .int (g i j)):=by
 intro pins s σ H x y v u Q I rx ry h
 obtain ⟨i,j,rfl,rfl,q⟩:=h
 obtain ⟨t,rfl⟩:=rx
 obtain ⟨t',rfl⟩:=ry
 exact rule i j t t' s _ _ ⟨.int (g i j),H,I.tok _,⟨_,rfl⟩,q⟩
theorem zg5 {f:Value->Value->Sem Value}{g:Int->Int->Bool}
   (rule:∀ (i j:Int) (t u:Tok) (s:Shared) (Q:Value->Shared->Prop) (E:Value->Shared->Prop),Q (.bool (g i j)) s->wpAny (model X.prog X.w) X.A (f (.int i t) (.int j u)) Q E s) :
   OpR X f (rI0 fun i j=> .bl (g i j)):=by
 intro pins s σ H x y v u Q I rx ry h
 obtain ⟨i,j,rfl,rfl,q⟩:=h
 obtain ⟨t,rfl⟩:=rx
 obtain ⟨t',rfl⟩:=ry
 exact rule i j t t' s _ _ ⟨.bl (g i j),H,I,rfl,q⟩
noncomputable def zio (i j:Int):Prop:=0 < j∧j < 1073741824
noncomputable def zo3 (i j:Int):Prop:=0<=j∧j<=1000000∧i.natAbs < 2 ^ 64
noncomputable def ze2 (i j:Int):Prop:=(-(2 ^ 64) < i∧i < 2 ^ 64)∨(-(2 ^ 64) < j∧j < 2 ^ 64)
theorem ze2.ok {i j:Int} (h:ze2 i j):IntMulOk i j:=by
 rcases h with ⟨h1,h2⟩ | ⟨h1,h2⟩
 . exact .of_left (intBits_le_64 h1 h2)
 . exact .of_right (intBits_le_64 h1 h2)
theorem zm8:OpR X (binaryOp .Add) (rI0 fun i j=> .int (i+j)):=zit fun _ _ _ _ _ _ _ q=>add_int q
theorem zlL:OpR X (binaryOp .Sub) (rI0 fun i j=> .int (i - j)):=zit fun _ _ _ _ _ _ _ q=>sub_int q
theorem zol:OpR X (binaryOp .Mult) (rI ze2 fun i j=> .int (i * j)):=opI fun _ _ _ _ _ _ _ hc q=>mul_int q hc.ok
theorem zmG:OpR X (binaryOp .FloorDiv) (rI zio fun i j=> .int (i / j)):=opI fun i j _ _ _ _ _ hc q=>by
 have h1:(0:Int) < j:=hc.1
 have h2:j < 1073741824:=hc.2
 exact floordiv_int ω (by rw [Int.fdiv_eq_ediv_of_nonneg i ω];exact q) (.inl (PyProof.noPylong_small ω))
theorem zpj:OpR X (binaryOp .Mod) (rI (fun _ j=>0 < j) fun i j=> .int (i % j)):=opI fun i j _ _ _ _ _ hc q=>by
 have h1:(0:Int) < j:=hc
 exact mod_int' ω (by rw [Int.fmod_eq_emod_of_nonneg i ω];exact q)
theorem znR:OpR X (binaryOp .Pow) (rI zo3 fun i j=> .int (i ^ j.toNat)):=opI fun _ _ _ _ _ _ _ hc q=>pow_int_small hc.1 hc.2.1 hc.2.2 q
theorem unI {f:Value->Sem Value}{g:Int->Int}
   (rule:∀ (i:Int) (t:Tok) (s:Shared) (Q:Value->Shared->Prop) (E:Value->Shared->Prop),Q (.int (g i) s.toks) { s with toks:=s.toks+1 }->wpAny (model X.prog X.w) X.A (f (.int i t)) Q E s) :
   UnR X f (rU fun i=> .int (g i)):=by
 intro pins s σ H x v Q I rx h
 obtain ⟨i,rfl,q⟩:=h
 obtain ⟨t,rfl⟩:=rx
 exact rule i t s _ _ ⟨.int (g i),H,I.tok _,⟨_,rfl⟩,q⟩
theorem zpU:UnR X (unaryOp .USub) (rU fun i=> .int (-i)):=unI fun _ _ _ _ _ q=>neg_int q
end
section
variable {X:Cx}{a b c:Expr}{ta tb tc:TE}{pos:Pos}
theorem zor {pins:List (Addr×Obj)}{σ:St}{H:Hp}{s:Shared}{Q:VK}{k k':Bool} (I:Inv X pins σ H s) (q:Q (.bl k) H) (e:k=k'):EP X pins σ Q (.bool k') s:=by
 subst e
 exact ⟨.bl k,H,I,rfl,q⟩
theorem zpQ:OpR X (compareOp .Lt) (rI0 fun i j=> .bl (decide (i < j))):=zg5 fun _ _ _ _ _ _ _ q=>lt_int q
theorem zm6:OpR X (compareOp .LtE) (rI0 fun i j=> .bl (decide (i<=j))):=zg5 fun _ _ _ _ _ _ _ q=>le_int q
theorem zm4:OpR X (compareOp .Gt) (rI0 fun i j=> .bl (decide (j < i))):=zg5 fun _ _ _ _ _ _ _ q=>gt_int q
theorem zl2:OpR X (compareOp .Is) (fun x y H Q=>y = .non∧Q (.bl (decide (x = .non))) H):=by
 intro pins s σ H x y v u Q I rx ry h
 obtain ⟨rfl,q⟩:=h
 cases ry
 refine is_none_gen (zor I q ?_)
 cases x <;> first
   | (cases rx;rfl)
   | (obtain ⟨t,rfl⟩:=rx;rfl)
theorem OpR.or {f:Value->Value->Sem Value}{r r':R2} (h:OpR X f r) (h':OpR X f r'):OpR X f (fun x y H Q=>r x y H Q∨r' x y H Q):=by
 intro pins s σ H x y v u Q I rx ry q
 rcases q with q | q
 . exact h pins s σ H x y v u Q I rx ry q
 . exact h' pins s σ H x y v u Q I rx ry q
theorem zW (b:Expr) {op:CmpOp} (h:op ≠ .In:=by decide) (h2:op ≠ .NotIn:=by decide):behindInMarks op b=false:=by
 have e1:(op == CmpOp.In)=false:=by cases op <;> first | rfl | exact absurd rfl h
 have e2:(op == CmpOp.NotIn)=false:=by cases op <;> first | rfl | exact absurd rfl h2
 cases b <;> simp [behindInMarks,e1,e2]
theorem znu {op:CmpOp}{r:R2} (ho:OpR X (compareOp op) r) (ha:PE X a ta) (hb:PE X b tb) (hm:behindInMarks op b=false):PE X (.Compare a [op] [b] pos) (tOp r ta tb):=by
 intro pins s σ H Q I h
 exact wpAny_Compare1 (zg1 ha hb I h fun v u s2 x y H2 I2 rx ry q=>ho pins s2 σ H2 x y v u Q I2 rx ry q) hm
noncomputable def zlK (t:TE):TT:=fun σ H Q=>t σ H fun x H'=>∃ k,x = .bl k∧Q k H'
theorem znq {op:CmpOp}{r:R2} (ho:OpR X (compareOp op) r) (ha:PE X a ta) (hb:PE X b tb) (hm:behindInMarks op b=false):PT X (.Compare a [op] [b] pos) (zlK (tOp r ta tb)):=by
 intro pins s σ H Q I h
 refine wpAny_isTrue_Compare1 (thn (ha pins s σ H _ I h) fun v s1 ⟨x,H1,I1,r1,q1⟩=>thn (hb pins s1 σ H1 _ I1 q1) fun u s2 ⟨y,H2,I2,r2,q2⟩ =>
   thn (ho pins s2 σ H2 x y v u _ I2 r1 r2 q2) fun c s3 ⟨z,H3,I3,r3,k,e,q3⟩=>?_) hm
 subst e
 cases r3
 exact wpAny_truthy_bool ⟨H3,I3,q3⟩
noncomputable def zjE (r r':R2) (ta tb tc:TE):TE:=fun σ H Q=>ta σ H fun x H1=>tb σ H1 fun y H2=>r x y H2 fun z H3=>∃ k,z = .bl k ∧
 (if k=true then tc σ H3 fun w' H4=>r' y w' H4 Q else Q (.bl false) H3)
theorem zoz {op op':CmpOp}{r r':R2} (ho:OpR X (compareOp op) r) (ho':OpR X (compareOp op') r') (ha:PE X a ta) (hb:PE X b tb) (hc:PE X c tc)
   (hm:lastMarks [op,op'] [b,c]=false:=by with_unfolding_all rfl):PE X (.Compare a [op,op'] [b,c] pos) (zjE r r' ta tb tc):=by
 intro pins s σ H Q I h
 refine Compare_chain (thn (ha pins s σ H _ I h) fun v s1 ⟨x,H1,I1,r1,q1⟩=>chain_link (thn (hb pins s1 σ H1 _ I1 q1) fun u s2 ⟨y,H2,I2,r2,q2⟩ =>
   thn (ho pins s2 σ H2 x y v u _ I2 r1 r2 q2) fun d s3 ⟨z,H3,I3,r3,k,e,q3⟩=>?_)) hm
 subst e
 cases r3
 refine wpAny_truthy_bool ?_
 cases k with
 | false=>exact ite_ff ⟨.bl false,H3,I3,rfl,q3⟩
 | true=>exact ite_tt (chain_last (thn (hc pins s3 σ H3 _ I3 q3) fun w' s4 ⟨z',H4,I4,r4,q4⟩=>ho' pins s4 σ H4 y z' u w' Q I4 r2 r4 q4))
noncomputable def ziw (K:PySem.W.Frag) (x:V) (H:Hp) (k:Bool):Prop :=
 match x with
 | .non=>k=false
 | .bl b=>k=b
 | .int i=>k=(i != 0)
 | .str y=>y.length<=sizeLine∧k=((y.length:Int) != 0)
 | .byt y=>y.size<=sizeLine∧k=((y.size:Int) != 0)
 | .ref p=>(∃ xs,SqL K H p xs∧k=!xs.isEmpty)∨(∃ xs,SqT K H p xs∧k=!xs.isEmpty)∨∃ kvs,H p=some (.dK kvs)∧k=!kvs.isEmpty
 | _=>False
theorem zpc {κ:Type}{kvs:List (κ×V)}{vs:List (κ×Value)} (r:KV kvs vs):(!vs.isEmpty)=!kvs.isEmpty:=by
 cases r <;> rfl
theorem zhZ {xs:List V}{its:List Value} (r:zE xs its):(!its.toArray.isEmpty)=!xs.isEmpty:=by
 cases r <;> simp
theorem zfK:(sizeLine:Nat) < 2 ^ 63:=by rw [sizeLine_eq];decide
theorem zl9:zpz X (fun x H Q=>∃ k,ziw X.K x H k∧Q k H):=by
 intro pins s σ H x v Q I rx h
 obtain ⟨k,e,q⟩:=h
 have hl:=zfK
 have hs:sizeLine=16777216:=sizeLine_eq
 cases x with
 | non =>
   cases rx
   have e':k=false:=e
   subst e'
   exact truthy_none ⟨H,I,q⟩
 | bl b =>
   cases rx
   have e':k=b:=e
   subst e'
   exact wpAny_truthy_bool ⟨H,I,q⟩
 | int i =>
   obtain ⟨t,rfl⟩:=rx
   have e':k=(i != 0):=e
   subst e'
   exact PySem.P.truthy_int ⟨H,I,q⟩
 | str y =>
   obtain ⟨t,rfl⟩:=rx
   obtain ⟨hy,e'⟩:y.length<=sizeLine∧k=((y.length:Int) != 0):=e
   subst e'
   exact PySem.P.truthy_str ω ⟨H,I.tok _,q⟩
 | byt y =>
   obtain ⟨t,rfl⟩:=rx
   obtain ⟨hy,e'⟩:y.size<=sizeLine∧k=((y.size:Int) != 0):=e
   subst e'
   exact PySem.W.truthy_bytes ω ⟨H,I.tok _,q⟩
 | ref p =>
   cases rx
   have e':(∃ xs,SqL X.K H p xs∧k=!xs.isEmpty)∨(∃ xs,SqT X.K H p xs∧k=!xs.isEmpty)∨∃ kvs,H p=some (.dK kvs)∧k=!kvs.isEmpty:=e
   rcases e' with ⟨xs,hx,e'⟩ | ⟨xs,hx,e'⟩ | ⟨kvs,hx,e'⟩
   . subst e'
     obtain ⟨its,r,pl,hz⟩:=I.list hx
     have hlen:=r.length
     exact wpAny_truthy_list pl.isList (by simp only [List.size_toArray];omega) ⟨H,I.tok _,by rw [zhZ r];exact q⟩
   . subst e'
     obtain ⟨its,r,pl,hz⟩:=I.tuple hx
     have hlen:=r.length
     exact truthy_tuple pl (by simp only [List.size_toArray];omega) ⟨H,I.tok _,by rw [zhZ r];exact q⟩
   . subst e'
     obtain ⟨hz,hS,vs,r,m⟩:kvs.length<=sizeLine∧(p == sysModules)=false∧∃ vs,KV kvs vs∧s.heap.DictOf (zcH X.prog X.w) p vs:=I.hok p _ hx
     have hlen:kvs.length=vs.length:=Paired.length r
     exact wpAny_truthy_dict hS m ω ⟨H,I.tok _,by rw [zpc r];exact q⟩
 | _=>exact (show False from e).elim
theorem znX (ha:PE X a ta) (he:∀ whole,isTrue a X.env whole=(do let v <- whole;standAt a.pos;holding [v] (truthy v))) :
   PT X a (fun σ H Q=>ta σ H fun x H'=>∃ k,ziw X.K x H' k∧Q k H'):=by
 intro pins s σ H Q I h
 exact isTrue_plain (thn (ha pins s σ H _ I h) fun v s1 ⟨x,H1,I1,r1,q1⟩=>zl9 pins s1 σ H1 x v Q I1 r1 q1) (he _)
theorem zf1 {x:V}{us:List Value} (r:zE [x] us):∃ u,us=[u]∧zq x u:=by
 cases r with
 | cons r1 r2=>cases r2;exact ⟨_,rfl,r1⟩
theorem ziq {x y:V}{us:List Value} (r:zE [x,y] us):∃ u w',us=[u,w']∧zq x u∧zq y w':=by
 cases r with
 | cons r1 r2 =>
   cases r2 with
   | cons r3 r4=>cases r4;exact ⟨_,_,rfl,r1,r3⟩
theorem zof:zdu X (.builtin "abs") (fun xs H Q=>∃ i,xs=[.int i]∧Q (.int (if i < 0 then -i else i)) H):=by
 intro pins s σ H xs us Q I r h
 obtain ⟨i,rfl,q⟩:=h
 obtain ⟨u,rfl,t,rfl⟩:=zf1 r
 exact call_abs_int fun u tk=>⟨.int (if i < 0 then -i else i),H,I.tok _,⟨_,rfl⟩,q⟩
end
end L2
namespace L2
open PySem PySem.Spec PyProof.Rows
structure zd0 (h:Heap) (x dx C:Addr) (mA:Str->Option Value):Prop where
 obj:h.get? x=some (PySem.W.instObj C dx)
 ns:h.Ns1 dx mA
 ne:dx≠x
theorem zok {h:Heap}{dx:Addr}{mA:Str->Option Value} (n:h.Ns1 dx mA):∃ od,h.get? dx=some od∧∀ name,PySem.W.lookIn name od=some (mA name):=by
 obtain ⟨o,es,ep,ho,hd,hk,_,hm⟩:=n
 refine ⟨o,ho,fun name=>?_⟩
 have e:=hm name
 unfold nsFind findBy at e
 rw [<- Array.find?_toList]at e
 unfold PySem.W.lookIn
 rw [hd]
 dsimp only
 split
 . rename_i y q
   rw [q]at e
   exact congrArg some e
 . rename_i q
   rw [q]at e
   have a:es.toList.any (·.refKey)=false:=by
     rw [List.any_eq_false]
     intro y hy
     obtain ⟨z,t,hkey⟩:=hk y (Array.mem_toList_iff.mp hy)
     simp [DictEntry.refKey,hkey]
   have a':¬ es.toList.any (·.refKey)=true:=by rw [a];exact Bool.false_ne_true
   rw [if_neg a']
   exact congrArg some e
theorem zd0.look {h:Heap}{x dx C:Addr}{mA:Str->Option Value} (I:zd0 h x dx C mA):∃ od,PySem.W.InstAt h x (PySem.W.instObj C dx) C (some od)∧∀ name,PySem.W.lookIn name od=some (mA name) :=
 let ⟨od,ho,hl⟩:=zok I.ns
 ⟨od,⟨I.obj,rfl,rfl,ho⟩,hl⟩
section
variable {prog:Program}{w:World}{A:Around}{E:Value->Shared->Prop}{s:Shared}{K:PySem.W.Frag}{x dx C f:Addr}{mA:Str->Option Value}{name:Str}{v:Value}
theorem zpJ {expr:Bool}{Q:Value->Shared->Prop} (X:K.In s.heap) (I:zd0 s.heap x dx C mA) (hg:PySem.W.plainGet K C name=true) (hh:PySem.W.hasDictIn K C=true)
   (ha:PySem.W.findIn K (.ref C) name=some none) (hv:mA name=some v) (hv':PySem.W.handedIn v=true) (h:Q v { s with toks:=s.toks+1 }) :
   wpAny (model prog w) A (getAttr (.ref x) name expr) Q E s:=by
 obtain ⟨od,J,hl⟩:=I.look
 exact PySem.W.get_value X J (PySem.W.plainGet_of hg).1 (PySem.W.findObj_own hh ha rfl (by rw [hl,hv])) hv' h
theorem zpa {pl:Sem Bool}{Q:Value×List Value->Shared->Prop} (X:K.In s.heap) (I:zd0 s.heap x dx C mA) (hg:PySem.W.plainGet K C name=true)
   (hf:PySem.W.findIn K (.ref C) name=some (some (.ref f))) (ht:PySem.W.isFn K (.ref f)=true) (hv:mA name=none) (h:Q (.ref f,[.ref x]) s) :
   wpAny (model prog w) A (getMethod (.ref x) name pl) Q E s:=by
 obtain ⟨od,J,hl⟩:=I.look
 exact PySem.W.method_fn X J (PySem.W.plainGet_of hg).1 (PySem.W.plainGet_of hg).2 hf (beq_iff_eq.mp ht) (by show (PySem.W.lookIn name od).map (·.isSome)=some false;rw [hl,hv];rfl) h
theorem zpx {ns:List Str}{Q:Unit->Shared->Prop} (X:K.In s.heap) (I:zd0 s.heap x dx C mA)
   (hs:PySem.W.findIn K (.ref C) "__setattr__" = some (some (.builtin "object.__setattr__"))) (hp:PySem.W.plainOver K C=true) (ht:PySem.W.takerIn K C name=some none) (hh:PySem.W.hasDictIn K C=true)
   (hw:PySem.Within mA ns) (hsz:ns.length<=sizeLine)
   (h:∀ h',zd0 h' x dx C (fun y=>if y=name then some v else mA y)->Heap.SameBut dx s.heap h'->Q () { s with heap:=h',toks:=s.toks+2 }) :
   wpAny (model prog w) A (setAttr (.ref x) name v) Q E s:=by
 obtain ⟨od,J,hl⟩:=I.look
 refine PySem.W.set_plain X J hs (PySem.W.osa_open (s:={ s with toks:=s.toks+1 }) (r:=none) X J hp ht fun b=>?_)
 obtain ⟨cd,hc,hd'⟩:=PySem.W.any_some hh
 have hx:s.heap.get? x=some ⟨.ref C,some dx,.plain,#[]⟩:=I.obj
 refine wpAny_bind (wpAny_pure (wpAny_bind (wpAny_bind (wpAny_loadPart hx (wpAny_bind (PySem.W.Looks.here (s:={ s with toks:=s.toks+1 }) (PySem.W.looks_clsIn X hc) ?_))))))
 rw [hd']
 refine wpAny_pure (a:=some dx) (wpAny_bind (wpAny_pure (wpAny_bind ?_)))
 refine wpAny_nsSet1 (s:={ s with toks:=s.toks+1 }) I.ns fun h' hn2 hs2=>?_
 obtain ⟨oD,esD,epD,hoD,hdD,hcD⟩:=hn2.count (PySem.Within.cons name v hw)
 refine wpAny_bind (wpAny_lookBehind hoD (by rw [hdD];exact pastItsLine_dict (Nat.le_trans hcD (by rw [List.length_cons];omega))) ?_)
 exact wpAny_pure (h _ ⟨(hs2.2 _ (Ne.symm I.ne)).trans I.obj,hn2,I.ne⟩ hs2)
theorem zpW {R:Result->Shared->Prop}{vs:List Value}{kw:List (Str×Value)} (X:K.In s.heap) (hm:PySem.W.makesIn K C=true)
   (hi:PySem.W.findIn K (.ref C) "__init__" = some (some (.ref f))) (hf:PySem.W.typeIn K (.ref f)=some (.type "function"))
   (h:codeAny (model prog w) (A.under (.builtin "type.__call__" ⟨.ref C :: vs,kw⟩)) (.call (.ref f) ⟨.ref (s.heap.objs.size+1) :: vs,kw⟩) (PySem.W.InitBack (s.heap.objs.size+1) R)
     { s with heap:=(s.heap.push PySem.W.emptyDict).push (PySem.W.instObj C s.heap.objs.size) }) :
   codeAny (model prog w) A (.call (.ref C) ⟨vs,kw⟩) R s:=by
 obtain ⟨hh,g,d,t,os⟩:=s
 exact PySem.W.make_core (PySem.W.makes_of X hm) (PySem.W.looks_findIn X hi) (fun self=>PySem.W.bind_fn X self hf) (.inl rfl) h
end
noncomputable def zbG (f:Str) (v:V):List (Str×V)->List (Str×V)
 | []=>[(f,v)]
 | (g,x) :: r=>if g=f then (g,v) :: r else (g,x) :: zbG f v r
theorem zjA (f g:Str) (v:V):∀ fs:List (Str×V),(zbG f v fs).lookup g=if g=f then some v else fs.lookup g
 | []=>by
   show List.lookup g [(f,v)]=_
   by_cases h:g=f
   . have hb:(g == f)=true:=beq_iff_eq.mpr h
     simp only [List.lookup,hb,if_pos h]
   . have hb:(g == f)=false:=beq_eq_false_iff_ne.mpr h
     simp only [List.lookup,hb,if_neg h]
 | (k,x) :: r=>by
   have ih:=zjA f g v r
   rw [show zbG f v ((k,x) :: r)=(if k=f then (k,v) :: r else (k,x) :: zbG f v r) from rfl]
   by_cases hk:k=f
   . rw [if_pos hk]
     by_cases h:g=k
     . have hb:(g == k)=true:=beq_iff_eq.mpr h
       simp only [List.lookup,hb,if_pos (h.trans hk)]
     . have hb:(g == k)=false:=beq_eq_false_iff_ne.mpr h
       simp only [List.lookup,hb,if_neg (fun e:g=f=>h (e.trans hk.symm))]
   . rw [if_neg hk]
     by_cases h:g=k
     . have hb:(g == k)=true:=beq_iff_eq.mpr h
       simp only [List.lookup,hb,if_neg (fun e:g=f=>hk (h.symm.trans e))]
     . have hb:(g == k)=false:=beq_eq_false_iff_ne.mpr h
       simp only [List.lookup,hb]
       exact ih
theorem zgU (f:Str) (v:V):∀ fs:List (Str×V),f∈(zbG f v fs).map (·.1)∧∀ g,g∈fs.map (·.1)->g∈(zbG f v fs).map (·.1)
 | []=>⟨by simp [zbG],fun g h=>by simp at h⟩
 | (k,x) :: r=>by
   obtain ⟨i1,i2⟩:=zgU f v r
   rw [show zbG f v ((k,x) :: r)=(if k=f then (k,v) :: r else (k,x) :: zbG f v r) from rfl]
   by_cases hk:k=f
   . rw [if_pos hk]
     subst hk
     exact ⟨ς,fun g h=>by simpa using h⟩
   . rw [if_neg hk]
     refine ⟨?_,fun g h=>?_⟩
     . rw [List.map_cons]
       exact List.mem_cons_of_mem _ i1
     . rw [List.map_cons]at h ⊢
       rcases List.mem_cons.mp h with e | e
       . exact List.mem_cons.mpr (.inl e)
       . exact List.mem_cons_of_mem _ (i2 g e)
theorem zh6 (f:Str) (v:V):∀ fs:List (Str×V),(zbG f v fs).length<=fs.length+1
 | []=>by simp [zbG]
 | (k,x) :: r=>by
   have ih:=zh6 f v r
   rw [show zbG f v ((k,x) :: r)=(if k=f then (k,v) :: r else (k,x) :: zbG f v r) from rfl]
   by_cases hk:k=f
   . rw [if_pos hk,List.length_cons,List.length_cons];omega
   . rw [if_neg hk,List.length_cons,List.length_cons];omega
theorem zbY.some_of {v:V}{o:Option Value} (r:zbY (some v) o):∃ u,o=some u∧zq v u:=by
 cases o with
 | none=>exact (show False from r).elim
 | some u=>exact ⟨u,rfl,r⟩
theorem zbY.none_of {o:Option Value} (r:zbY none o):o=none:=by
 cases o with
 | none=>rfl
 | some u=>exact (show False from r).elim
theorem zmd {v:V}{u:Value} (r:zq v u):PySem.W.handedIn u=true:=by
 cases v with
 | non=>cases (show u=Value.none from r);rfl
 | bl b=>cases (show u=Value.bool b from r);rfl
 | int i=>obtain ⟨t,e⟩:=(show ∃ t,u=Value.int i t from r);cases e;rfl
 | str x=>obtain ⟨t,e⟩:=(show ∃ t,u=Value.str x t from r);cases e;rfl
 | byt b=>obtain ⟨t,e⟩:=(show ∃ t,u=Value.bytes b t from r);cases e;rfl
 | flt b=>obtain ⟨t,e⟩:=(show ∃ t,u=Value.float b t from r);cases e;rfl
 | ref a=>cases (show u=Value.ref a from r);rfl
 | ty n=>cases (show u=Value.type n from r);rfl
section
variable {P:Program}{w:World}{H H':Hp}{h h':Heap}{a C dx:Addr}{fs fs':List (Str×V)}
theorem zfH (hok:HOk P w H h) (e:H a=some (.ins C dx fs)):∃ mA,zd0 h a dx C mA∧(∀ f,zbY (fs.lookup f) (mA f))∧PySem.Within mA (fs.map (·.1))∧fs.length<=1000∧H dx=some (.own a):=by
 obtain ⟨d,z,ne,ob,mA,n,r,q⟩:=(show zbk P w H h a (.ins C dx fs) from hok a _ e)
 exact ⟨mA,⟨ob,n,ne⟩,r,q,z,d⟩
end
structure Cls (K:PySem.W.Frag) (C:Addr):Prop where
 pg:PySem.W.plainGet K C Str.empty=true
 hd:PySem.W.hasDictIn K C=true
 po:PySem.W.plainOver K C=true
 sa:PySem.W.findIn K (.ref C) "__setattr__" = some (some (.builtin "object.__setattr__"))
theorem Cls.get {K:PySem.W.Frag}{C:Addr} (c:Cls K C) (f:Str):PySem.W.plainGet K C f=true:=c.pg
noncomputable def zcg (K:PySem.W.Frag) (C:Addr) (f:Str):Prop:=PySem.W.findIn K (.ref C) f=some none
theorem zcg.taker {K:PySem.W.Frag}{C:Addr}{f:Str} (n:zcg K C f):PySem.W.takerIn K C f=some none:=by
 unfold PySem.W.takerIn
 rw [show PySem.W.findIn K (.ref C) f=some none from n]
 rfl
structure ze1 (K:PySem.W.Frag) (C:Addr) (m:Str) (f:Addr):Prop where
 at_:PySem.W.findIn K (.ref C) m=some (some (.ref f))
 fn:PySem.W.isFn K (.ref f)=true
 kp:PySem.W.keepIn K (.ref f)=true
section
variable {X:Cx}{pins:List (Addr×Obj)}{σ:St}{H:Hp}{s:Shared}{a C dx:Addr}{fs:List (Str×V)}{f:Str}{v:V}{A:Around}{E:Value->Shared->Prop}
theorem zlU {b:Bool}{Q:Value->Shared->Prop} (I:Inv X pins σ H s) (e:H a=some (.ins C dx fs)) (c:Cls X.K C) (n:zcg X.K C f) (l:fs.lookup f=some v)
   (h:∀ u s',Inv X pins σ H s'->zq v u->Q u s'):wpAny (model X.prog X.w) A (getAttr (.ref a) f b) Q E s:=by
 obtain ⟨mA,O,r,_,_,_⟩:=zfH I.hok e
 obtain ⟨u,hu,ru⟩:=zbY.some_of (v:=v) (o:=mA f) (by rw [<- l];exact r f)
 exact zpJ I.kIn O (c.get f) c.hd n hu (zmd ru) (h u _ (I.tok _) ru)
theorem zno {m:Str}{g:Addr}{pl:Sem Bool}{Q:Value×List Value->Shared->Prop} (I:Inv X pins σ H s) (e:H a=some (.ins C dx fs)) (c:Cls X.K C) (k:ze1 X.K C m g) (l:fs.lookup m=none)
   (h:Q (.ref g,[.ref a]) s):wpAny (model X.prog X.w) A (getMethod (.ref a) m pl) Q E s:=by
 obtain ⟨mA,O,r,_,_,_⟩:=zfH I.hok e
 have hn:mA m=none:=zbY.none_of (by rw [<- l];exact r m)
 exact zpa I.kIn O (c.get m) k.at_ k.fn hn h
theorem znD {y:V}{u:Value}{Q:Unit->Shared->Prop} (I:Inv X pins σ H s) (e:H a=some (.ins C dx fs)) (c:Cls X.K C) (n:zcg X.K C f) (hl:fs.length < 1000) (ry:zq y u)
   (h:∀ s',Inv X pins σ (upd H a (.ins C dx (zbG f y fs))) s'->Q () s'):wpAny (model X.prog X.w) A (setAttr (.ref a) f u) Q E s:=by
 obtain ⟨mA,O,r,wi,_,ho⟩:=zfH I.hok e
 have hz:(fs.map (·.1)).length<=sizeLine:=by rw [List.length_map,sizeLine_eq];omega
 refine zpx I.kIn O c.sa c.po n.taker c.hd wi hz fun h' O' sb=>h _ ?_
 have hd:∃ o,h'.get? dx=some o:=let ⟨o,_,_,e',_⟩:=O'.ns;⟨o,e'⟩
 refine I.write (x:=a) (e:=dx) (by rw [e];exact True.intro) (.inr ho) (fun b q hb z=>(sb.2 b hb).trans z) hd ?_
 refine ⟨by rw [zN O.ne];exact ho,?_,O.ne,O'.obj,_,O'.ns,fun g=>?_,fun g hg=>?_⟩
 . have:=zh6 f y fs;omega
 . show zbY ((zbG f y fs).lookup g) (if g=f then some u else mA g)
   rw [zjA]
   by_cases q:g=f
   . rw [if_pos q,if_pos q];exact ry
   . rw [if_neg q,if_neg q];exact r g
 . by_cases q:g=f
   . rw [q];exact (zgU f y fs).1
   . refine (zgU f y fs).2 g (wi g fun z=>hg ?_)
     show (if g=f then some u else mA g)=none
     rw [if_neg q];exact z
theorem Inv.made (I:Inv X pins σ H s):Inv X pins σ (upd (upd H s.heap.objs.size (.own (s.heap.objs.size+1))) (s.heap.objs.size+1) (.ins C s.heap.objs.size []))
   { s with heap:=(s.heap.push PySem.W.emptyDict).push (PySem.W.instObj C s.heap.objs.size) }:=by
 have e1:(s.heap.push PySem.W.emptyDict).get? s.heap.objs.size=some PySem.W.emptyDict:=Heap.get?_push_size s.heap rfl
 have e2:((s.heap.push PySem.W.emptyDict).push (PySem.W.instObj C s.heap.objs.size)).get? (s.heap.objs.size+1)=some (PySem.W.instObj C s.heap.objs.size):=by
   have:=Heap.get?_push_size (s.heap.push PySem.W.emptyDict) (o:=PySem.W.instObj C s.heap.objs.size) rfl
   rwa [Heap.size_push]at this
 have e3:(s.heap.push PySem.W.emptyDict).Ns s.heap.objs.size (fun _=>none):=⟨PySem.W.emptyDict,#[],_,e1,rfl,(fun e he=>absurd he ς),fun _=>rfl⟩
 have I1:=I.laid (a:=s.heap.objs.size) (o := .own (s.heap.objs.size+1)) (h':=s.heap.push PySem.W.emptyDict) (t':=s.toks) (fun b u q=>Heap.get?_push_of_some _ q) (Nat.le_refl _) ⟨_,e1⟩
 refine I1.laid (a:=s.heap.objs.size+1) (o := .ins C s.heap.objs.size []) (t':=s.toks) (fun b u q=>Heap.get?_push_of_some _ q) (Nat.le_of_eq (Heap.size_push _ _)) ?_
 have ne:s.heap.objs.size≠s.heap.objs.size+1:=Nat.ne_of_lt (Nat.lt_succ_self _)
 refine ⟨by rw [zN ne,zbN],Nat.zero_le _,ne,e2,fun _=>none,(Heap.Ns1.of_empty e3).at fun o q=>Heap.get?_push_of_some _ q,fun _=>True.intro,fun y hy=>absurd rfl hy⟩
theorem zov {prog:Program}{w:World}{env:Env}{e:Expr}{f:Str}{pos:Pos}{s:Shared}{Q:Value->Shared->Prop} (hb:attributeBase e f env (eval e env)=eval e env)
   (h:wpAny (model prog w) A (eval e env) (fun o s₁=>wpAny (model prog w) A (getAttr o f true) Q E s₁) E s):wpAny (model prog w) A (eval (.Attribute e f pos) env) Q E s :=
 Attribute_any_ h (by rw [arm_eval_Attribute,hb])
end
noncomputable def zng (K:PySem.W.Frag) (ta:TE) (f:Str):TE:=fun σ H Q=>ta σ H fun x H1=>∃ a C dx fs v,x = .ref a∧H1 a=some (.ins C dx fs)∧Cls K C∧zcg K C f∧fs.lookup f=some v∧Q v H1
noncomputable def zoV (K:PySem.W.Frag) (ta tv:TE) (f:Str):TS:=fun D σ H=>tv σ H fun y H1=>ta σ H1 fun x H2=>∃ a C dx fs,x = .ref a∧H2 a=some (.ins C dx fs)∧Cls K C∧zcg K C f∧fs.length < 1000 ∧
 D.nx σ (upd H2 a (.ins C dx (zbG f y fs)))
section
variable {X:Cx}{o e value:Expr}{f:Str}{pos pos' tpos:Pos}{ta tv:TE}
theorem zni (he:PE X e ta) (hb:attributeBase e f X.env (eval e X.env)=eval e X.env):PE X (.Attribute e f pos) (zng X.K ta f):=by
 intro pins s σ H Q I h
 refine zov hb (thn (he pins s σ H _ I h) fun u s1 ⟨x,H1,I1,rx,a,C,dx,fs,v,ex,ea,c,n,l,q⟩=>?_)
 subst ex
 obtain rfl:u=Value.ref a:=rx
 exact zlU I1 ea c n l fun u' s2 I2 ru=>⟨v,H1,I2,ru,q⟩
theorem zos (ha:PE X o ta) (hv:PE X value tv) (hs:swapsWith value (some (.Attribute o f pos')) pos.line X.env=pure false):PS X (.Assign [.Attribute o f pos'] value pos) (zoV X.K ta tv f):=by
 intro pins s σ H D I h
 refine plainObj_wpAny_Assign_Attribute (thn (hv pins s σ H _ I h) fun u s1 ⟨y,H1,I1,ry,q⟩=>thn (ha pins s1 σ H1 _ I1 q) fun ov s2 ⟨x,H2,I2,rx,a,C,dx,fs,ex,ea,c,n,l,q2⟩=>?_) hs
 subst ex
 obtain rfl:ov=Value.ref a:=rx
 exact znD I2 ea c n l ry fun s3 I3=>⟨σ,_,I3,q2⟩
end
section
variable {X:Cx}{pins:List (Addr×Obj)}{σ:St}{H:Hp}{s:Shared}{A:Around}{E:Value->Shared->Prop}{Q:Value->Shared->Prop}{c:Value}{b:Bool}
inductive zb7 (K:PySem.W.Frag) (H:Hp):V->Value->Prop where
 | non:zb7 K H .non (.type "NoneType")
 | bl (x:Bool):zb7 K H (.bl x) (.type "bool")
 | int (i:Int):zb7 K H (.int i) (.type "int")
 | str (x:Str):zb7 K H (.str x) (.type "str")
 | flt (x:UInt64):zb7 K H (.flt x) (.type "float")
 | lst {a:Addr} {xs:List V} (e:H a=some (.lst xs)):zb7 K H (.ref a) (.type "list")
 | frz {a:Addr} {o:Obj} {xs:List V} (e:H a=some (.frz o (.lst xs))):zb7 K H (.ref a) (.type "list")
 | tup {a:Addr} {xs:List V} (e:H a=some (.tup xs)):zb7 K H (.ref a) (.type "tuple")
 | dK {a:Addr} {kvs:List (Key×V)} (e:H a=some (.dK kvs)):zb7 K H (.ref a) (.type "dict")
 | dT {a:Addr} {kvs:List (List Key×V)} (e:H a=some (.dT kvs)):zb7 K H (.ref a) (.type "dict")
 | ins {a C dx:Addr} {fs:List (Str×V)} (e:H a=some (.ins C dx fs)) (cl:Cls K C) (ha:PySem.W.findIn K (.ref C) "__class__" = some (some (.builtin "object.__class__")))
     (hn:PySem.W.specialIn K (.builtin "object.__class__") "__get__" = some (some (.builtin "getset_descriptor.__get__"))) (htk:PySem.W.takesIn K (.builtin "object.__class__")=some true)
     (hm:PySem.W.mroIn K C (.type "object")=some true):zb7 K H (.ref a) (.ref C)
theorem ziF {x:V}{u t:Value} (I:Inv X pins σ H s) (rx:zq x u) (ty:zb7 X.K H x t) (e:PySem.W.kitOne X.K t c=some b) (h:∀ tk,Q (.bool b) { s with toks:=tk }) :
   wpAny (model X.prog X.w) A (call (.builtin "isinstance") [u,c]) Q E s:=by
 cases ty with
 | non=>cases (show u=Value.none from rx);exact PySem.W.kia_one PySem.W.kitx_none I.kIn True.intro e (fun z=>nomatch z) h
 | bl y=>cases (show u=Value.bool y from rx);exact PySem.W.kia_one PySem.W.kitx_bool I.kIn True.intro e (fun z=>nomatch z) h
 | int i=>obtain ⟨t,q⟩:=(show ∃ t,u=Value.int i t from rx);cases q;exact PySem.W.kia_one PySem.W.kitx_int I.kIn True.intro e (fun z=>nomatch z) h
 | str y=>obtain ⟨t,q⟩:=(show ∃ t,u=Value.str y t from rx);cases q;exact PySem.W.kia_one PySem.W.kitx_str I.kIn True.intro e (fun z=>nomatch z) h
 | flt y=>obtain ⟨t,q⟩:=(show ∃ t,u=Value.float y t from rx);cases q;exact PySem.W.kia_one PySem.W.kitx_float I.kIn True.intro e (fun z=>nomatch z) h
 | @lst a xs ea =>
   cases (show u=Value.ref a from rx)
   obtain ⟨_,_,n,_,h1⟩:=(show zbk X.prog X.w H s.heap a (.lst xs) from I.hok a _ ea)
   exact PySem.W.kia_one PySem.W.kitx_list I.kIn ⟨_,h1,rfl⟩ e (fun z=>nomatch z) h
 | @frz a ob xs ea =>
   cases (show u=Value.ref a from rx)
   obtain ⟨_,_,_,n,_,h1⟩:=(show zbk X.prog X.w H s.heap a (.frz ob (.lst xs)) from I.hok a _ ea)
   exact PySem.W.kia_one PySem.W.kitx_list I.kIn ⟨_,h1,rfl⟩ e (fun z=>nomatch z) h
 | @tup a xs ea =>
   cases (show u=Value.ref a from rx)
   obtain ⟨_,_,_,p⟩:=(show zbk X.prog X.w H s.heap a (.tup xs) from I.hok a _ ea)
   obtain ⟨o,h1,h2,_⟩:=p
   exact PySem.W.kia_one PySem.W.kitx_tuple I.kIn ⟨o,h1,h2⟩ e (fun z=>nomatch z) h
 | @dK a kvs ea =>
   cases (show u=Value.ref a from rx)
   obtain ⟨_,_,vs,_,p⟩:=(show zbk X.prog X.w H s.heap a (.dK kvs) from I.hok a _ ea)
   obtain ⟨o,es,ep,h1,h2,_⟩:=p
   exact PySem.W.kia_one PySem.W.kitx_dict I.kIn ⟨o,h1,h2.1⟩ e (fun z=>nomatch z) h
 | @dT a kvs ea =>
   cases (show u=Value.ref a from rx)
   obtain ⟨_,_,xs,_,o,es,ep,h1,h2,_⟩:=(show zbk X.prog X.w H s.heap a (.dT kvs) from I.hok a _ ea)
   exact PySem.W.kia_one PySem.W.kitx_dict I.kIn ⟨o,h1,h2.1⟩ e (fun z=>nomatch z) h
 | @ins a C dx fs ea cl ha hn htk hm =>
   cases (show u=Value.ref a from rx)
   obtain ⟨mA,O,_⟩:=zfH I.hok ea
   obtain ⟨od,J,_⟩:=O.look
   exact PySem.W.kia_one (PySem.W.kitx_own (cl.get _) cl.hd ha hn htk hm) I.kIn J e (fun z=>nomatch z) h
end
end L2
namespace L2
open PySem PySem.Spec PyProof.Rows
structure zO (k:Nat) (A:Around):Prop where
 hd:A.handled=none
 dp:A.depth+3 * k+5 < recursionLimit
 un:A.units+16 * k+200 < cLine
theorem zO.mono {j k:Nat}{A:Around} (r:zO k A) (h:j<=k):zO j A:=⟨r.hd,by have:=r.dp;omega,by have:=r.un;omega⟩
theorem zO.deeper {k:Nat}{A:Around} (r:zO (k+1) A) (env:Env):zO k (A.deeper env) :=
 ⟨r.hd,by have:=r.dp;show A.depth+1+3 * k+5 < _;omega,by have:=r.un;show A.units+3+16 * k+200 < _;omega⟩
theorem zp2 {A:Around}{C:Addr}{us:List Value}{kw:List (Str×Value)}:(A.under (.builtin "type.__call__" ⟨.ref C :: us,kw⟩)).depth=A.depth+1:=by
 first | rfl | simp [Around.under,Code.weight,Code.isCreation,Code.isGuard,Code.isCaller,Code.frames,Code.isFrame,guardIds]
theorem znV {A:Around}{C:Addr}{us:List Value}{kw:List (Str×Value)}:(A.under (.builtin "type.__call__" ⟨.ref C :: us,kw⟩)).units=A.units+1:=by
 first | rfl | simp [Around.under,Code.cUnits,Code.frames,Code.isFrame]
theorem zO.make {k:Nat}{A:Around} (r:zO (k+1) A) (C:Addr) (us:List Value) (kw:List (Str×Value)):zO k (A.under (.builtin "type.__call__" ⟨.ref C :: us,kw⟩)) :=
 ⟨r.hd,by have:=r.dp;rw [zp2];omega,by have:=r.un;rw [znV];omega⟩
theorem zO.depth {k:Nat}{A:Around} (r:zO k A):A.depth < recursionLimit:=by have:=r.dp;omega
theorem zO.units {k:Nat}{A:Around} (r:zO k A):A.units+64 < cLine:=by have:=r.un;omega
noncomputable def zfY:TA:=fun _ H Q=>Q [] H
noncomputable def zeU (ta:TE) (tr:TA):TA:=fun σ H Q=>ta σ H fun x H1=>tr σ H1 fun xs H2=>Q (x :: xs) H2
section
variable {X:Cx}{e:Expr}{es:List Expr}{te:TE}{t:TA}{pos:Pos}
theorem zb1:PA X [] zfY:=fun _ _ _ _ H Q I h=>Calls.spliced_nil ⟨[],H,I,.nil,h⟩
theorem zbq (ha:PE X e te) (hr:PA X es t) (hs:starEach (e :: es) X.env=(false,eval e X.env) :: starEach es X.env:=by rfl):PA X (e :: es) (zeU te t):=by
 intro pos pins s σ H Q I h
 rw [hs]
 show wpAny _ _ (spliced ((false,eval e X.env) :: backTo pos (starEach es X.env))) _ _ s
 refine Calls.spliced_cons (thn (ha pins s σ H _ I h) fun u s1 ⟨x,H1,I1,r1,q1⟩=>?_)
 exact thn (hr pos pins s1 σ H1 _ I1 q1) fun us s2 ⟨xs,H2,I2,r2,q2⟩=>⟨x :: xs,H2,I2,.cons r1 r2,q2⟩
noncomputable def zlY (t:TA):TE:=fun σ H Q=>t σ H fun xs H1=>xs.length<=sizeLine∧∀ p,H1 p=none->Q (.ref p) (upd H1 p (.tup xs))
noncomputable def zfL (t:TA):TE:=fun σ H Q=>t σ H fun xs H1=>xs.length<=sizeLine∧∀ p,H1 p=none->Q (.ref p) (upd H1 p (.lst xs))
theorem zoF {x1} (h:PA X es t):PE X (.Tuple es x1 pos) (zlY t):=by
 intro pins s σ H Q I hq
 refine wpAny_Tuple_spliced (thn (h pos pins s σ H _ I hq) fun us s1 ⟨xs,H1,I1,r,z,q⟩=>⟨by rw [<- r.length];exact z,?_⟩)
 have hf:H1 s1.heap.objs.size=none:=I1.hok.fresh (Nat.le_refl _)
 refine ⟨.ref s1.heap.objs.size,upd H1 s1.heap.objs.size (.tup xs),I1.laid (t':=s1.toks) (fun b u e=>Heap.get?_push_of_some _ e) (Nat.le_refl _) ?_,rfl,q _ hf⟩
 exact ⟨z,us,r,⟨_,Heap.get?_push_size _ rfl,rfl,_,rfl⟩⟩
theorem zhi (h:PA X es t):PE X (.List es pos) (zfL t):=by
 intro pins s σ H Q I hq
 refine wpAny_List_spliced (thn (h pos pins s σ H _ I hq) fun us s1 ⟨xs,H1,I1,r,z,q⟩=>⟨by rw [<- r.length];exact z,?_⟩)
 have hf:H1 s1.heap.objs.size=none:=I1.hok.fresh (Nat.le_refl _)
 refine ⟨.ref s1.heap.objs.size,upd H1 s1.heap.objs.size (.lst xs),I1.laid (t':=s1.toks) (fun b u e=>Heap.get?_push_of_some _ e) (Nat.le_refl _) ?_,rfl,q _ hf⟩
 exact ⟨z,us,0,r,Heap.get?_push_size _ rfl⟩
end
noncomputable abbrev Sp:=List V->Hp->VK->XK->Prop
noncomputable abbrev CXT:=List Env->Hp->Shared->XK->Value->Shared->Prop
structure zdb (P:Program) (w:World) (K:PySem.W.Frag) (mg:Str->Option Value) (base:Heap) (A:Around) (outer:List Env) (s:Shared) (H:Hp):Prop where
 frames:A.frames=some outer
 mod:Mod K mg base
 bs:∀ b o,base.get? b=some o->s.heap.get? b=some o∧H b=none
 bsz:base.objs.size<=s.heap.objs.size
 funs:s.heap.FunFrames base outer
 frf:∀ b∈frs outer,H b=none
 hok:HOk P w H s.heap
 bare:AllBare s.gens
noncomputable def CE (outer:List Env) (P:Program) (w:World) (H:Hp) (s:Shared) (Q:VK) (u:Value) (s':Shared):Prop :=
 ∃ v H',s'.os=s.os∧AllBare s'.gens∧Un (frs outer) [] H H' s.heap s'.heap∧HOk P w H' s'.heap∧zq v u∧Q v H'
noncomputable def CR (CX:CXT) (outer:List Env) (P:Program) (w:World) (H:Hp) (s:Shared) (Q:VK) (E:XK) (r:Result) (s':Shared):Prop :=
 match r with
 | .ok (.ret u)=>CE outer P w H s Q u s'
 | .ok _=>False
 | .error e=>CX outer H s E e s'
structure zM (P:Program) (w:World) (K:PySem.W.Frag) (mg:Str->Option Value) (base:Heap) (CX:CXT) (k:Nat) (f:Addr) (fd:FuncData) (ps:List Str) (sp:Sp):Prop where
 len:∀ vs H Q E,sp vs H Q E->vs.length=ps.length
 run:∀ (A:Around) (outer:List Env) (s:Shared) (H:Hp) (args:Args) (us:List Value) (vs:List V) (Q:VK) (E:XK),zO k A->zdb P w K mg base A outer s H->BindsTo s fd args (ps.zip us)->zE vs us->sp vs H Q E ->
   codeAny (model P w) A (.call (.ref f) args) (CR CX outer P w H s Q E) s
theorem zM.imp {P:Program}{w:World}{K:PySem.W.Frag}{mg:Str->Option Value}{base:Heap}{CX:CXT}{k:Nat}{f:Addr}{fd:FuncData}{ps:List Str}{sp sp':Sp} (F:zM P w K mg base CX k f fd ps sp)
   (h:∀ vs H Q E,sp' vs H Q E->sp vs H Q E):zM P w K mg base CX k f fd ps sp' :=
 ⟨fun vs H Q E q=>F.len vs H Q E (h _ _ _ _ q),fun A outer s H args us vs Q E hr he hb hv hs=>F.run A outer s H args us vs Q E hr he hb hv (h _ _ _ _ hs)⟩
theorem zdb.make {P:Program}{w:World}{K:PySem.W.Frag}{mg:Str->Option Value}{base:Heap}{A:Around}{outer:List Env}{s:Shared}{H:Hp} (e:zdb P w K mg base A outer s H) (C:Addr) (us:List Value) (kw:List (Str×Value)) :
   zdb P w K mg base (A.under (.builtin "type.__call__" ⟨.ref C :: us,kw⟩)) outer s H:=⟨by first | exact e.frames | (simpa [Around.under,Code.envs,Code.isFrame,pushEnvs] using e.frames),e.mod,e.bs,e.bsz,e.funs,e.frf,e.hok,e.bare⟩
section
variable {X:Cx}{pins:List (Addr×Obj)}{σ:St}{H:Hp}{s s':Shared}
theorem Inv.env0 (I:Inv X pins σ H s):zdb X.prog X.w X.K X.mg X.base X.A X.stack s H :=
 ⟨I.ok.frames,I.ok.mod,I.bs,Nat.le_trans I.ok.bsz I.sz,I.stack,I.stkFree,I.hok,I.bare⟩
theorem Inv.after {Q:VK}{u:Value} (I:Inv X pins σ H s) (h:CE X.stack X.prog X.w H s Q u s'):EP X pins σ Q u s':=by
 obtain ⟨v,H',os,bare,un,hok,r,q⟩:=h
 obtain ⟨hh,g,d,t,os'⟩:=s'
 obtain rfl:os'=s.os:=os
 exact ⟨v,H',I.call (h':=hh) (g':=g) (d':=d) (t':=t) (ch:=[]) un hok bare (fun b z=>absurd z ς),r,q⟩
end
noncomputable def znH (sp:Sp) (dvs:List V) (E:XK) (t:TA):TE:=fun σ H Q=>t σ H fun vs H1=>sp (vs++dvs) H1 Q E
noncomputable def zmi (C:Addr) (m:Str) (sp:Sp) (dvs:List V) (E:XK) (ta:TE) (t:TA):TE:=fun σ H Q=>ta σ H fun x H1=>∃ a dx fs,x = .ref a∧H1 a=some (.ins C dx fs)∧fs.lookup m=none ∧
 t σ H1 fun vs H2=>sp (x :: (vs++dvs)) H2 Q E
noncomputable def zoY (C:Addr) (sp:Sp) (dvs:List V) (E:XK) (t:TA):TE:=fun σ H Q=>t σ H fun vs H1=>∀ x dx,H1 x=none->H1 dx=none->dx≠x ->
 sp (.ref x :: (vs++dvs)) (upd (upd H1 dx (.own x)) x (.ins C dx [])) (fun v H2=>v = .non∧Q (.ref x) H2) E
noncomputable def zbZ (K:PySem.W.Frag) (fd:FuncData) (ps:List Str) (ds:List Value):Prop :=
 ∀ (s:Shared) (us:List Value),K.In s.heap->(us++ds).length=ps.length->BindsTo s fd ⟨us,[]⟩ (ps.zip (us++ds))
theorem zbZ.all {K:PySem.W.Frag}{fd:FuncData}{ps:List Str} (h:∀ us:List Value,us.length=ps.length->bindArgs fd ⟨us,[]⟩=pure (ps.zip us)):zbZ K fd ps []:=fun s us _ hl=>by
 rw [List.append_nil]at hl ⊢
 exact .of_eq (h us hl)
noncomputable def zc1 (CX:CXT) (X:Cx) (E:XK):Prop:=∀ (pins:List (Addr×Obj)) (σ:St) (H:Hp) (s:Shared) (e:Value) (s':Shared),Inv X pins σ H s->CX X.stack H s E e s'->X.xe e s'
section
variable {X:Cx}{CX:CXT}{k:Nat}{f C:Addr}{fd:FuncData}{ps:List Str}{sp:Sp}{dvs:List V}{ds:List Value}{E:XK}{x m:Str}{p pos apos:Pos}{e o:Expr}{es:List Expr}{ta:TE}{t:TA}
theorem zjq {pins:List (Addr×Obj)}{σ:St}{H:Hp}{s:Shared}{Q:VK}{us:List Value}{vs:List V} (F:zM X.prog X.w X.K X.mg X.base CX k f fd ps sp) (hr:zO k X.A) (hb:zbZ X.K fd ps ds) (hd:zE dvs ds) (hx:zc1 CX X E)
   (I:Inv X pins σ H s) (r:zE vs us) (h:sp (vs++dvs) H Q E):wpAny (model X.prog X.w) X.A (call (.ref f) us) (EP X pins σ Q) X.xe s:=by
 have r2:zE (vs++dvs) (us++ds):=r.append hd
 have hl:(us++ds).length=ps.length:=by rw [<- r2.length];exact F.len _ _ _ _ h
 refine wpAny_call (codeAny_mono (F.run X.A X.stack s H ⟨us,[]⟩ (us++ds) (vs++dvs) Q E hr I.env0 (hb s us I.kIn hl) r2 h) fun r s' hq=>?_)
 cases r with
 | error e=>exact hx pins σ H s e s' I hq
 | ok fl =>
   cases fl with
   | ret u=>exact I.after hq
   | next=>exact False.elim hq
   | brk=>exact False.elim hq
   | cont=>exact False.elim hq
theorem zot (F:zM X.prog X.w X.K X.mg X.base CX k f fd ps sp) (hr:zO k X.A) (hg:Gl X x) (hm:X.mg x=some (.ref f)) (hk:PySem.W.keepIn X.K (.ref f)=true) (hb:zbZ X.K fd ps ds) (hd:zE dvs ds) (hx:zc1 CX X E)
   (ha:PA X (e :: es) t) (hdb:(x == ("__debug__":Str))=false:=by decide) (he:starEach (e :: es) X.env=(false,eval e X.env) :: starEach es X.env:=by rfl) (hpl:(backTo pos (starEach es X.env)).any (·.1)=false:=by rfl) :
   PE X (.Call (.Name x p) (e :: es) [] pos) (znH sp dvs E t):=by
 intro pins s σ H Q I h
 refine wpAny_Call_Name_kw (zeD I hg hm ?_ hdb)
 refine PySem.W.callWith_K (h₀:=X.base) I.ok.mod.kin hk (thn (ha pos pins s σ H _ I h) fun us s1 ⟨vs,H1,I1,r,q⟩=>⟨I1.kIn,?_⟩) he hpl
 exact zjq F hr hb hd hx I1 r q
theorem zqi {pl:Sem Bool} (he:PE X o ta) (c:Cls X.K C) (hm:ze1 X.K C m f) (F:zM X.prog X.w X.K X.mg X.base CX k f fd ps sp) (hr:zO k X.A) (hb:zbZ X.K fd ps ds) (hd:zE dvs ds) (hx:zc1 CX X E)
   (ht:eval (.Call (.Attribute o m apos) [] [] pos) X.env=(do
     let ov <- eval o X.env
     standAt apos.atName
     let (f,first) <- holding [ov] (getMethod ov m pl)
     callWith pos f first (backTo pos (starEach [] X.env)) (backToKw pos (keywordEach [] X.env))):=by rfl) :
   PE X (.Call (.Attribute o m apos) [] [] pos) (zmi C m sp dvs E ta zfY):=by
 intro pins s σ H Q I h
 refine PySem.W.methodCall_KW (pl:=pl) (thn (he pins s σ H _ I h) fun u s1 ⟨x,H1,I1,rx,a,dx,fs,ex,ea,l,q⟩=>?_) ht
 subst ex
 obtain rfl:u=Value.ref a:=rx
 refine zno I1 ea c hm l ?_
 exact PySem.W.callWith_K0 (first:=[.ref a]) I1.kIn hm.kp (zjq (us:=[.ref a]) (vs:=[.ref a]) F hr hb hd hx I1 (.cons rfl .nil) q)
structure Mk (K:PySem.W.Frag) (C f:Addr):Prop where
 makes:PySem.W.makesIn K C=true
 init:PySem.W.findIn K (.ref C) "__init__" = some (some (.ref f))
 fn:PySem.W.isFn K (.ref f)=true
 kp:PySem.W.keepIn K (.ref C)=true
theorem zmN {pins:List (Addr×Obj)}{σ:St}{H:Hp}{s:Shared}{Q:VK}{us:List Value}{vs:List V} (M:Mk X.K C f) (F:zM X.prog X.w X.K X.mg X.base CX k f fd ps sp) (hr:zO (k+1) X.A) (hb:zbZ X.K fd ps ds) (hd:zE dvs ds)
   (hx:zc1 CX X E) (I:Inv X pins σ H s) (r:zE vs us)
   (h:∀ x dx,H x=none->H dx=none->dx≠x->sp (.ref x :: (vs++dvs)) (upd (upd H dx (.own x)) x (.ins C dx [])) (fun v H2=>v = .non∧Q (.ref x) H2) E) :
   wpAny (model X.prog X.w) X.A (call (.ref C) us) (EP X pins σ Q) X.xe s:=by
 have hq:=h (s.heap.objs.size+1) s.heap.objs.size (I.hok.fresh (Nat.le_succ _)) (I.hok.fresh (Nat.le_refl _)) (Nat.ne_of_lt (Nat.lt_succ_self _))
 have I2:=Inv.made (C:=C) I
 have r2:zE (V.ref (s.heap.objs.size+1) :: (vs++dvs)) (Value.ref (s.heap.objs.size+1) :: (us++ds)) := .cons rfl (r.append hd)
 have hl:(Value.ref (s.heap.objs.size+1) :: us++ds).length=ps.length:=by
   have e:=r2.length
   rw [F.len _ _ _ _ hq]at e
   exact e.symm
 refine wpAny_call (zpW (f:=f) I.kIn M.makes M.init (beq_iff_eq.mp M.fn) (codeAny_mono (F.run _ X.stack _ _ ⟨Value.ref (s.heap.objs.size+1) :: us,[]⟩ (Value.ref (s.heap.objs.size+1) :: (us++ds)) _ _ E (hr.make C us [])
   (I2.env0.make C us []) (hb _ (Value.ref (s.heap.objs.size+1) :: us) I2.kIn hl) r2 hq) fun r s' hq'=>?_))
 cases r with
 | error e=>exact hx pins σ _ _ e s' I2 hq'
 | ok fl =>
   cases fl with
   | ret u =>
     obtain ⟨v,H',I3,rv,ev,q3⟩:=I2.after hq'
     subst ev
     exact ⟨rv,⟨V.ref (s.heap.objs.size+1),H',I3,rfl,q3⟩⟩
   | next=>exact False.elim hq'
   | brk=>exact False.elim hq'
   | cont=>exact False.elim hq'
theorem znU (M:Mk X.K C f) (F:zM X.prog X.w X.K X.mg X.base CX k f fd ps sp) (hr:zO (k+1) X.A) (hg:Gl X x) (hm:X.mg x=some (.ref C)) (hb:zbZ X.K fd ps ds) (hd:zE dvs ds) (hx:zc1 CX X E)
   (ha:PA X (e :: es) t) (hdb:(x == ("__debug__":Str))=false:=by decide) (he:starEach (e :: es) X.env=(false,eval e X.env) :: starEach es X.env:=by rfl) (hpl:(backTo pos (starEach es X.env)).any (·.1)=false:=by rfl) :
   PE X (.Call (.Name x p) (e :: es) [] pos) (zoY C sp dvs E t):=by
 intro pins s σ H Q I h
 refine wpAny_Call_Name_kw (zeD I hg hm ?_ hdb)
 refine PySem.W.callWith_K (h₀:=X.base) I.ok.mod.kin M.kp (thn (ha pos pins s σ H _ I h) fun us s1 ⟨vs,H1,I1,r,q⟩=>⟨I1.kIn,?_⟩) he hpl
 exact zmN M F hr hb hd hx I1 r q
end
section
variable {X:Cx}{CX:CXT}{k:Nat}{f C:Addr}{fd:FuncData}{ps ks:List Str}{sp:Sp}{E:XK}{x m:Str}{p pos apos kpos:Pos}{e o:Expr}{es:List Expr}{kws:List Keyword}{te ta:TE}{t tk:TA}{nm:Option Str}
variable {g:List Value->List Value->List Value}{gV:List V->List V->List V}
end
structure zX (N P:List Str) (sc:Scope):Prop where
 kind:sc.kind = .function
 co:sc.isCoroutine=false
 gen:sc.isGenerator=false
 nd:N.Nodup
 pre:N.take P.length=P
 par:∀ x∈P,sc.names.lookup x=some .local∨sc.names.lookup x=some .cell
 nofree:∀ y∈sc.names,y.2 ≠ .free
theorem ziI {kindOf:Str->Option NameKind}{x:Str}:∀ {binds:List (Str×Value)}{m:Str->Option Value},(∀ v,(x,v)∉binds)->bindL kindOf binds m x=m x
 | [],_,_=>rfl
 | (n,v) :: r,m,h=>by
   unfold bindL
   rw [ziI fun w hw=>h w (List.mem_cons_of_mem _ hw)]
   split
   . have:x≠n:=by rintro rfl;exact h v List.mem_cons_self
     simp [this]
   . rfl
theorem zhP {kindOf:Str->Option NameKind}{x:Str}:∀ {binds:List (Str×Value)}{m:Str->Option Value},(∀ v,(x,v)∉binds)->bindC kindOf binds m x=m x
 | [],_,_=>rfl
 | (n,v) :: r,m,h=>by
   unfold bindC
   rw [zhP fun w hw=>h w (List.mem_cons_of_mem _ hw)]
   split
   . rfl
   . have:x≠n:=by rintro rfl;exact h v List.mem_cons_self
     simp [this]
theorem zir {kindOf:Str->Option NameKind}{x:Str}{v:Value}:∀ {P:List Str}{vs:List Value}{i:Nat}{m:Str->Option Value},P.Nodup->P[i]?=some x->vs[i]?=some v->kindOf x=some .local ->
   bindL kindOf (P.zip vs) m x=some v
 | [],_,_,_,_,h,_,_=>by simp at h
 | _ :: _,[],_,_,_,_,h,_=>by simp at h
 | p :: P,w :: vs,0,m,nd,h1,h2,hk=>by
   simp at h1 h2;subst h1;subst h2
   show bindL kindOf ((p,w) :: P.zip vs) m p=_
   unfold bindL
   rw [ziI fun v hv=>(List.nodup_cons.mp nd).1 (List.of_mem_zip hv).1,if_pos hk]
   simp
 | p :: P,w :: vs,i+1,m,nd,h1,h2,hk=>by
   show bindL kindOf ((p,w) :: P.zip vs) m x=_
   unfold bindL
   exact zir (i:=i) (List.nodup_cons.mp nd).2 (by simpa using h1) (by simpa using h2) hk
theorem zji {kindOf:Str->Option NameKind}{x:Str}{v:Value}:∀ {P:List Str}{vs:List Value}{i:Nat}{m:Str->Option Value},P.Nodup->P[i]?=some x->vs[i]?=some v->kindOf x≠some .local ->
   bindC kindOf (P.zip vs) m x=some v
 | [],_,_,_,_,h,_,_=>by simp at h
 | _ :: _,[],_,_,_,_,h,_=>by simp at h
 | p :: P,w :: vs,0,m,nd,h1,h2,hk=>by
   simp at h1 h2;subst h1;subst h2
   show bindC kindOf ((p,w) :: P.zip vs) m p=_
   unfold bindC
   rw [zhP fun v hv=>(List.nodup_cons.mp nd).1 (List.of_mem_zip hv).1,if_neg hk]
   simp
 | p :: P,w :: vs,i+1,m,nd,h1,h2,hk=>by
   show bindC kindOf ((p,w) :: P.zip vs) m x=_
   unfold bindC
   exact zji (i:=i) (List.nodup_cons.mp nd).2 (by simpa using h1) (by simpa using h2) hk
noncomputable def start (N:List Str) (vs:List V):St:=vs.map some++List.replicate (N.length - vs.length) none
noncomputable def zbS (CX:CXT) (P:Program) (w:World) (K:PySem.W.Frag) (mg:Str->Option Value) (base:Heap) (N:List Str) (qual:Str) (scope:Scope) (f:Addr) (cd:Value) (A:Around) (outer:List Env) (s:Shared) (H:Hp) (E:XK):Cx where
 prog:=P
 w:=w
 K:=K
 mg:=mg
 base:=base
 A:=A.deeper (envOfC qual scope s.heap.objs.size f cd)
 N:=N
 s₀:=s
 H₀:=H
 env:=envOfC qual scope s.heap.objs.size f cd
 outer:=outer
 stack:=envOfC qual scope s.heap.objs.size f cd :: outer
 ex:=[]
 calm:=true
 fn:=fun _=>true
 pn:=[]
 xe:=fun e s'=>wpAny (model P w) (A.deeper (envOfC qual scope s.heap.objs.size f cd)) (leaving (envOfC qual scope s.heap.objs.size f cd) e) (fun _ s''=>CX outer H s E e s'') (fun e' s''=>CX outer H s E e' s'') s'
theorem zh4 {sc:Scope}{n:Nat}{x:Str} (h:sc.names.lookup x=some .cell):∃ c,(cellsFrom n sc.names []).lookup x=some c:=by
 have q:=PySem.W.cellsFrom_some sc.names n [] (.inl h)
 exact Option.isSome_iff_exists.mp q
theorem ziV {CX:CXT}{P:Program}{w:World}{K:PySem.W.Frag}{mg:Str->Option Value}{base:Heap}{N ps:List Str}{qual:Str}{scope:Scope}{f:Addr}{cd:Value}{A:Around}{outer:List Env}{s s1:Shared}{H:Hp}{E:XK}{us:List Value}{vs:List V}
   (S:zX N ps scope) (hd:A.handled=none) (e0:zdb P w K mg base A outer s H) (hl:vs.length=ps.length) (r:zE vs us)
   (x:InCallC s s.heap.objs.size (bindL (envOfC qual scope s.heap.objs.size f cd).kindOf (ps.zip us) fun _=>none) (cellsFrom (s.heap.objs.size+1) scope.names []) (bindC (envOfC qual scope s.heap.objs.size f cd).kindOf (ps.zip us) fun _=>none) s1) :
   Inv (zbS CX P w K mg base N qual scope f cd A outer s H E) [] (start N vs) H s1:=by
 have hpl:ps.length<=N.length:=by have:=congrArg List.length S.pre;rw [List.length_take]at this;omega
 obtain ⟨h1,tk,rfl,hk⟩:=x.done
 have noA:∀ b:Addr,b∉(zbS CX P w K mg base N qual scope f cd A outer s H E).ex:=fun b z=>absurd (show b∈([]:List Addr) from z) ς
 refine ⟨⟨e0.mod,S.kind,rfl,rfl,Nat.le_refl _,fun y z c h1 h2=>?_,fun y hy=>?_,fun y c _ h=>?_,fun _=>hd,Around.frames_deeper e0.frames,.inr ⟨rfl,rfl⟩,fun b z=>absurd z (noA b),e0.bs,e0.bsz,fun b _ _=>noA b,fun b z=>absurd z (noA b),e0.funs,e0.frf⟩,
   rfl,e0.bare,Un.kept hk,⟨_,x.toInCall.ns,fun i y v h1 h2 h3=>?_⟩,fun y c h=>⟨_,x.cell y c h⟩,e0.hok.fresh (Nat.le_refl _),fun y c h=>?_,fun p hp=>absurd (show p∈([]:List (Addr×Obj)) from hp) ς,e0.hok.kept hk,?_⟩
 . exact name_of_addr x.apart (PySem.mem_of_lookup h1) (PySem.mem_of_lookup h2)
 . have hy:scope.names.lookup y=some .cell∨scope.names.lookup y=some .free:=hy
   rcases hy with hy | hy
   . exact zh4 hy
   . exact absurd rfl (S.nofree _ (PySem.mem_of_lookup hy))
 . exact Nat.le_of_lt (x.above y c (PySem.mem_of_lookup h))
 . have hi:i < vs.length:=by
     unfold start at h2
     by_cases hi:i < vs.length
     . exact hi
     . rw [List.getElem?_append_right (by simpa using hi)]at h2
       rw [List.getElem?_replicate]at h2
       split at h2 <;> cases h2
   have ha:vs[i]?=some v:=by
     unfold start at h2
     rw [List.getElem?_append_left (by simpa using hi),List.getElem?_map]at h2
     cases e:vs[i]? with
     | none=>rw [e]at h2;cases h2
     | some a=>rw [e]at h2;cases h2;rfl
   obtain ⟨u,hu,rv⟩:=r.get ha
   have hp:ps[i]?=some y:=by
     rw [<- S.pre,List.getElem?_take_of_lt ω];exact h1
   have ndP:ps.Nodup:=by rw [<- S.pre];exact S.nd.sublist (List.take_sublist _ _)
   refine ⟨u,rv,?_⟩
   rcases S.par y (List.mem_of_getElem? hp) with k | k
   . exact .inl ⟨k,zir ndP hp hu k⟩
   . obtain ⟨c,e⟩:=zh4 (n:=s.heap.objs.size+1) k
     refine .inr ⟨.inl k,c,e,?_⟩
     have q:=x.cell y c e
     rw [zji ndP hp hu (by show scope.names.lookup y≠_;rw [k];decide)]at q
     exact q
 . exact e0.hok.fresh (Nat.le_of_lt (x.above y c (PySem.mem_of_lookup h)))
 . unfold start
   show _=N.length
   rw [List.length_append,List.length_map,List.length_replicate]
   omega
theorem zpm {CX:CXT}{P:Program}{w:World}{K:PySem.W.Frag}{mg:Str->Option Value}{base:Heap}{k:Nat}{f:Addr}{name qual:Str}{params:Arguments}{body:List Stmt}{scope:Scope}{dV kV doc pm cdv ct oc:Value}{an od:Option Addr}
   {osl:Array (Option Value)} {N ps:List Str} {sp:Sp} (lk:K.lookup f=some ⟨oc,od,.func (PySem.W.fnOf name qual params body scope dV kV doc pm an cdv ct),osl⟩) (hcd:PySem.W.codeIn K cdv qual=true) (S:zX N ps scope)
   (len:∀ vs H Q E,sp vs H Q E->vs.length=ps.length)
   (hbody:∀ (A:Around) (outer:List Env) (s:Shared) (H:Hp) (vs:List V) (Q:VK) (E:XK),zO k (A.deeper (envOfC qual scope s.heap.objs.size f cdv))->sp vs H Q E ->
     ∃ t,PSs (zbS CX P w K mg base N qual scope f cdv A outer s H E) body t∧t { nx:=fun _ H'=>Q .non H',rt:=Q } (start N vs) H) :
   zM P w K mg base CX (k+1) f (PySem.W.fnOf name qual params body scope dV kV doc pm an cdv ct) ps sp:=by
 refine ⟨len,fun A outer s H args us vs Q E hr e0 hb r hsp=>?_⟩
 have hl:=len _ _ _ _ hsp
 have KX:K.In s.heap:=e0.mod.kin.keeps fun b o e=>(e0.bs b o e).1
 have lim:s.heap.NoLimit:=e0.mod.nolimit.keeps fun b o e=>(e0.bs b o e).1
 have hkind:∀ y∈ps.zip us,scope.names.lookup y.1=some .local∨(scope.names.lookup y.1=some .cell∧((cellsFrom (s.heap.objs.size+1) scope.names []).lookup y.1).isSome=true):=fun ⟨n,v⟩ hy=>by
   rcases S.par n (List.of_mem_zip hy).1 with q | q
   . exact .inl q
   . exact .inr ⟨q,PySem.W.cellsFrom_some _ _ _ (.inl q)⟩
 refine codeAny_call_function hr.depth (KX _ _ lk) rfl S.co S.gen rfl (PySem.W.codeRec_of KX hcd) (hb _ _ _ _ ?_)
 refine wpAny_newFunctionEnv_cells S.kind hkind fun env he s1 x=>?_
 subst he
 refine ⟨lim.keeps x.toInCall.keep,codeAny_func ?_⟩
 obtain ⟨t,ht,hq⟩:=hbody A outer s H vs Q E (hr.deeper _) hsp
 have I:Inv (zbS CX P w K mg base N qual scope f cdv A outer s H E) [] (start N vs) H s1:=ziV S hr.hd e0 hl r x
 refine wpAny_mono (ht [] s1 (start N vs) H _ I hq) (fun fl s' hs=>?_) fun e s' hs=>hs
 have fin:∀ {σ':St} {H':Hp} {v:V} {u:Value},Inv (zbS CX P w K mg base N qual scope f cdv A outer s H E) [] σ' H' s'->zq v u->Q v H'->CE outer P w H s Q u s' :=
   fun {σ' H' v u} J rv q=>⟨v,H',J.os,J.bare,J.base,J.hok,rv,q⟩
 cases fl with
 | ret u =>
   obtain ⟨v,σ',H',J,rv,q⟩:=hs
   exact fin J rv q
 | next =>
   obtain ⟨σ',H',J,q⟩:=hs
   exact fin (v:=V.non) (u:=Value.none) J rfl q
 | brk =>
   obtain ⟨_,_,_,q⟩:=hs
   exact False.elim q
 | cont =>
   obtain ⟨_,_,_,q⟩:=hs
   exact False.elim q
end L2
namespace L2
open PySem PySem.Spec PyProof.Rows
section
variable {X:Cx}{x:Str}{p pos:Pos}{e:Expr}{es:List Expr}{t:TA}{id T:String}{r:List V->Hp->VK->Prop}
noncomputable def tCB (r:List V->Hp->VK->Prop) (t:TA):TE:=fun σ H Q=>t σ H fun vs H1=>r vs H1 Q
theorem zeE (hc:zdu X (.builtin id) r) (hg:Gl X x) (hm:X.mg x=none) (hv:bootBuiltins x=some (.builtin id)) (ha:PA X (e :: es) t) (hn:x ≠ "__name__":=by decide) (hdb:(x == ("__debug__":Str))=false:=by decide)
   (he:starEach (e :: es) X.env=(false,eval e X.env) :: starEach es X.env:=by rfl) (hpl:(backTo pos (starEach es X.env)).any (·.1)=false:=by rfl):PE X (.Call (.Name x p) (e :: es) [] pos) (tCB r t):=by
 intro pins s σ H Q I h
 refine wpAny_Call_Name_kw (zeX I hg hm hv ?_ hn hdb)
 exact PyProof.Rows.callWith_builtin1 (thn (ha pos pins s σ H _ I h) fun us s1 ⟨vs,H1,I1,r1,q1⟩=>hc pins s1 σ H1 vs us Q I1 r1 q1) he hpl
theorem zp4 (hc:zdu X (.type T) r) (hg:Gl X x) (hm:X.mg x=none) (hv:bootBuiltins x=some (.type T)) (ha:PA X (e :: es) t) (hn:x ≠ "__name__":=by decide) (hdb:(x == ("__debug__":Str))=false:=by decide)
   (he:starEach (e :: es) X.env=(false,eval e X.env) :: starEach es X.env:=by rfl) (hpl:(backTo pos (starEach es X.env)).any (·.1)=false:=by rfl):PE X (.Call (.Name x p) (e :: es) [] pos) (tCB r t):=by
 intro pins s σ H Q I h
 refine wpAny_Call_Name_kw (zeX I hg hm hv ?_ hn hdb)
 exact PyProof.Rows.callWith_type1 (thn (ha pos pins s σ H _ I h) fun us s1 ⟨vs,H1,I1,r1,q1⟩=>hc pins s1 σ H1 vs us Q I1 r1 q1) he hpl
end
end L2
namespace HT
open PySem PyProof.Rows
section
open PySem.SeqAt
open PySem.AutoSeq1 (wpAny_loadPart')
open PySem.MeetsSeq PySem.MeetsSeq2 PySem.MeetsSeq3
end
section
variable {prog:Program}{w:World}{A:Around}{E:Value->Shared->Prop}{s:Shared}
noncomputable def sIx (n d:Nat):Option Int->Nat
 | none=>d
 | some v=>if v < 0 then (v+(n:Int)).toNat else min v.toNat n
theorem clip_eq (v:Int) (n d:Nat):(if v < 0 then max (v+(n:Int)) 0 else min v (n:Int))=((sIx n d (some v):Nat):Int):=by
 show (if v < 0 then max (v+(n:Int)) 0 else min v (n:Int))=(((if v < 0 then (v+(n:Int)).toNat else min v.toNat n):Nat):Int)
 by_cases hv:v < 0
 . simp only [if_pos hv];omega
 . simp only [if_neg hv];omega
end
end HT
namespace L2
open PySem PySem.Spec PyProof.Rows
noncomputable abbrev TO:=St->Hp->(Option Int->Hp->Prop)->Prop
noncomputable def PO (X:Cx) (e:Option Expr) (t:TO):Prop :=
 ∀ (pins:List (Addr×Obj)) (s:Shared) (σ:St) (H:Hp) (Q:Option Int->Hp->Prop),Inv X pins σ H s->t σ H Q ->
   wpAny (model X.prog X.w) X.A (evalPart e X.env) (fun u s'=>∃ o H',Inv X pins σ H' s'∧IsPart u o∧Q o H') X.xe s
noncomputable def zmp:TO:=fun _ H Q=>Q none H
noncomputable def zpE (t:TE):TO:=fun σ H Q=>t σ H fun x H1=>∃ i,x = .int i∧Q (some i) H1
section
variable {X:Cx}{e:Expr}{te:TE}{lo hi:Option Expr}{tl th:TO}{pos p2:Pos}
theorem zpi:PO X none zmp:=by
 intro pins s σ H Q I h
 rw [evalPart_none]
 exact wpAny_pure ⟨none,H,I,.none,h⟩
theorem zoM (h:PE X e te):PO X (some e) (zpE te):=by
 intro pins s σ H Q I hw
 rw [evalPart_some]
 refine thn (h pins s σ H _ I hw) fun u s1 ⟨x,H1,I1,r1,q1⟩=>?_
 obtain ⟨i,rfl,q⟩:=q1
 obtain ⟨t,rfl⟩:=r1
 exact ⟨some i,H1,I1,.int i t,q⟩
noncomputable def SlR (X:Cx) (r:V->Option Int->Option Int->Hp->VK->Prop):Prop :=
 ∀ (pins:List (Addr×Obj)) (s:Shared) (σ:St) (H:Hp) (x:V) (v vl vu:Value) (lo hi:Option Int) (sl:Addr) (Q:VK),Inv X pins σ H s->zq x v->s.heap.IsSliceOf sl vl vu .none->IsPart vl lo->IsPart vu hi->r x lo hi H Q ->
   ∃ T id,typeLookup (.type T) "__getitem__" = pure (some (.builtin id))∧s.TypeIs v T∧wpAny (model X.prog X.w) X.A (getItem v (.ref sl)) (EP X pins σ Q) X.xe s
noncomputable def tSl (r:V->Option Int->Option Int->Hp->VK->Prop) (te:TE) (tl th:TO):TE:=fun σ H Q=>te σ H fun x H1=>tl σ H1 fun l H2=>th σ H2 fun u H3=>r x l u H3 Q
theorem zob {r:V->Option Int->Option Int->Hp->VK->Prop} (hr:SlR X r) (he:PE X e te) (hl:PO X lo tl) (hu:PO X hi th):PE X (.Subscript e (.Slice lo hi none p2) pos) (tSl r te tl th):=by
 intro pins s σ H Q I h
 refine Subscript_ (thn (he pins s σ H _ I h) fun v s1 ⟨x,H1,I1,r1,q1⟩=>?_)
 refine wpAny_Slice (thn (hl pins s1 σ H1 _ I1 q1) fun vl s2 ⟨l,H2,I2,pl,q2⟩=>thn (hu pins s2 σ H2 _ I2 q2) fun vu s3 ⟨u,H3,I3,pu,q3⟩=>?_)
 rw [evalPart_none]
 refine wpAny_pure ?_
 have I4:Inv X pins σ H3 { s3 with heap:=s3.heap.push { cls := .type "slice",data := .fields #[vl,vu,.none] } }:=I3.kept (t':=s3.toks) fun b ob q=>Heap.get?_push_of_some _ q
 obtain ⟨T,id,hT,ht,hg⟩:=hr pins { s3 with heap:=s3.heap.push { cls := .type "slice",data := .fields #[vl,vu,.none] } } σ H3 x v vl vu l u s3.heap.objs.size Q I4 r1 (Heap.IsSliceOf.new ..) pl pu q3
 show wpAny (model X.prog X.w) X.A (subscriptTail e (.Slice lo hi none p2) v (.ref s3.heap.objs.size)) (EP X pins σ Q) X.xe { s3 with heap:=s3.heap.push { cls := .type "slice",data := .fields #[vl,vu,.none] } }
 exact tail_any (ops:=[.ref s3.heap.objs.size,v]) ht hT hg (by with_unfolding_all rfl)
noncomputable def cutV (xs:List V) (lo hi:Option Int):List V:=(xs.drop (HT.sIx xs.length 0 lo)).take (HT.sIx xs.length xs.length hi - HT.sIx xs.length 0 lo)
theorem zl0 (xs:List V) (lo hi:Option Int):(cutV xs lo hi).length<=xs.length:=by
 unfold cutV
 rw [List.length_take,List.length_drop]
 omega
end
end L2
namespace L2
open PySem PySem.Spec PyProof.Rows
noncomputable def ixN (n:Nat) (i:Int):Option Nat:=if 0<=i then (if i < n then some i.toNat else none) else if -(n:Int)<=i then some (i+n).toNat else none
noncomputable def atI {α:Type} (xs:List α) (i:Int):Option α:=(ixN xs.length i).bind fun j=>xs[j]?
theorem zpT {n:Nat}{i:Int}{j:Nat} (h:ixN n i=some j):seqIndex? i n=some j∧j < n∧-(n:Int)<=i∧i < n:=by
 unfold ixN at h
 by_cases h0:0<=i
 . rw [if_pos h0]at h
   by_cases h1:i < n
   . rw [if_pos h1]at h
     have e:i.toNat=j:=Option.some.inj h
     exact ⟨by rw [seqIndex_of h0 h1,e],ω,ω,h1⟩
   . rw [if_neg h1]at h;cases h
 . rw [if_neg h0]at h
   by_cases h1:-(n:Int)<=i
   . rw [if_pos h1]at h
     have e:(i+n).toNat=j:=Option.some.inj h
     exact ⟨by rw [seqIndex_neg ω h1,e],ω,h1,ω⟩
   . rw [if_neg h1]at h;cases h
theorem ziv {α:Type}{xs:List α}{i:Int}{v:α} (h:atI xs i=some v):∃ j,seqIndex? i xs.length=some j∧xs[j]?=some v∧j < xs.length∧-(xs.length:Int)<=i∧i < xs.length:=by
 unfold atI at h
 cases e:ixN xs.length i with
 | none=>rw [e]at h;cases h
 | some j =>
   rw [e]at h
   obtain ⟨h1,h2,h3,h4⟩:=zpT e
   exact ⟨j,h1,h,h2,h3,h4⟩
noncomputable def zis (b:Expr):Prop:=∀ o i,subscripted b false o i=operate [o,i] (getItem o i)
noncomputable def IxR (X:Cx) (r:R2):Prop :=
 ∀ (value slice:Expr) (pins:List (Addr×Obj)) (s:Shared) (σ:St) (H:Hp) (x y:V) (v u:Value) (Q:VK),Inv X pins σ H s->zq x v->zq y u->r x y H Q ->
   subscripted slice false v u=operate [v,u] (getItem v u)->wpAny (model X.prog X.w) X.A (subscriptTail value slice v u) (EP X pins σ Q) X.xe s
noncomputable def MtR (X:Cx) (id:String) (r:V->List V->Hp->VK->Prop):Prop :=
 ∀ (pins:List (Addr×Obj)) (s:Shared) (σ:St) (H:Hp) (x:V) (xs:List V) (v:Value) (us:List Value) (Q:VK),Inv X pins σ H s->zq x v->zE xs us->r x xs H Q ->
   wpAny (model X.prog X.w) X.A (call (.builtin id) (v :: us)) (EP X pins σ Q) X.xe s
section
variable {X:Cx}{a b:Expr}{ta tb:TE}{pos:Pos}
theorem IxR.or {r r':R2} (h:IxR X r) (h':IxR X r'):IxR X (fun x y H Q=>r x y H Q∨r' x y H Q):=by
 intro value slice pins s σ H x y v u Q I rx ry q hs
 rcases q with q | q
 . exact h value slice pins s σ H x y v u Q I rx ry q hs
 . exact h' value slice pins s σ H x y v u Q I rx ry q hs
theorem zmw {r:R2} (hr:IxR X r) (ha:PE X a ta) (hb:PE X b tb) (hs:zis b):PE X (.Subscript a b pos) (tOp r ta tb):=by
 intro pins s σ H Q I h
 exact Subscript_ (zg1 ha hb I h fun v u s2 x y H2 I2 rx ry q=>hr a b pins s2 σ H2 x y v u Q I2 rx ry q (hs _ _))
noncomputable def zml (K:PySem.W.Frag):R2:=fun x y H Q=>∃ p xs i v,x = .ref p∧y = .int i∧SqL K H p xs∧atI xs i=some v∧Q v H
noncomputable def zmV (K:PySem.W.Frag):R2:=fun x y H Q=>∃ p xs i v,x = .ref p∧y = .int i∧SqT K H p xs∧atI xs i=some v∧Q v H
theorem zpF:IxR X (zml X.K):=by
 intro value slice pins s σ H x y v u Q I rx ry h hs
 obtain ⟨p,xs,i,z,rfl,rfl,hq,he,q⟩:=h
 cases rx
 obtain ⟨t,rfl⟩:=ry
 obtain ⟨its,r,pl,hz⟩:=I.list hq
 obtain ⟨j,h1,h2,h3,h4,h5⟩:=ziv he
 obtain ⟨w,ew,rw'⟩:=r.get h2
 have hl:=r.length
 have hn:=zfK
 have fin:EP X pins σ Q w s:=⟨z,H,I,rw',q⟩
 by_cases h0:0<=i
 . have hj:i.toNat=j:=by
     rw [seqIndex_of h0 h5]at h1
     exact Option.some.inj h1
   exact item_listR pl.isList h0 ω (by rw [hj];simpa using ew) fin hs
 . have hj:(i+(its.toArray.size:Int)).toNat=j:=by
     rw [seqIndex_neg ω h4]at h1
     rw [List.size_toArray,<- hl]
     exact Option.some.inj h1
   exact subscriptTail_builtinR (x:=w) pl.isList.typeIs slot_list_getitem.lookup
     (wpAny_getItem_list_neg (Q:=fun r s'=>r=w∧EP X pins σ Q r s') pl.isList ω (by rw [List.size_toArray] <;> omega) ω (by rw [hj];simpa using ew) ⟨rfl,fin⟩) hs
theorem zoa:IxR X (zmV X.K):=by
 intro value slice pins s σ H x y v u Q I rx ry h hs
 obtain ⟨p,xs,i,z,rfl,rfl,hq,he,q⟩:=h
 cases rx
 obtain ⟨t,rfl⟩:=ry
 obtain ⟨its,r,pl,hz⟩:=I.tuple hq
 obtain ⟨j,h1,h2,h3,h4,h5⟩:=ziv he
 obtain ⟨w,ew,rw'⟩:=r.get h2
 have hl:=r.length
 have hn:=zfK
 have fin:EP X pins σ Q w s:=⟨z,H,I,rw',q⟩
 exact subscriptTail_builtinR (x:=w) pl.typeIs slot_tuple_getitem.lookup
   (getItem_tuple (j:=j) (Q:=fun r s'=>r=w∧EP X pins σ Q r s') pl ω ω (by rw [List.size_toArray,<- hl];exact h1) (by simpa using ew) ⟨rfl,fin⟩) hs
theorem zp8 (lo hi:Option Int) (n:Nat):(sliceBounds lo hi none n).1=((HT.sIx n 0 lo:Nat):Int)∧(sliceBounds lo hi none n).2.1=((HT.sIx n n hi:Nat):Int)∧(sliceBounds lo hi none n).2.2=1:=by
 refine ⟨?_,?_,rfl⟩
 . cases lo with
   | none=>simp [sliceBounds,HT.sIx]
   | some i =>
     simp only [sliceBounds,HT.sIx,Option.getD_none,show (1:Int) > 0 by decide,if_true]
     by_cases h:i < 0
     . simp only [h,if_true] <;> omega
     . simp only [h,if_false] <;> omega
 . cases hi with
   | none=>simp [sliceBounds,HT.sIx]
   | some i =>
     simp only [sliceBounds,HT.sIx,Option.getD_none,show (1:Int) > 0 by decide,if_true]
     by_cases h:i < 0
     . simp only [h,if_true] <;> omega
     . simp only [h,if_false] <;> omega
theorem zmP (its:List Value) (lo hi:Option Int):slicePick its.toArray lo hi none=((its.drop (HT.sIx its.length 0 lo)).take (HT.sIx its.length its.length hi - HT.sIx its.length 0 lo)).toArray:=by
 obtain ⟨h1,h2,h3⟩:=zp8 lo hi its.toArray.size
 unfold slicePick
 rw [h1,h2,h3]
 simp only [sliceRange_one,pick_run,List.size_toArray] <;> rfl
noncomputable def zmo (K:PySem.W.Frag):V->Option Int->Option Int->Hp->VK->Prop:=fun x lo hi H Q=>∃ a xs,x = .ref a∧SqL K H a xs∧∀ p,H p=none->Q (.ref p) (upd H p (.lst (cutV xs lo hi)))
theorem zlD:SlR X (zmo X.K):=by
 intro pins s σ H x v vl vu lo hi sl Q I rx hs pl pu h
 obtain ⟨a,xs,rfl,hx,q⟩:=h
 cases rx
 obtain ⟨its,r,ht,hz⟩:=I.list hx
 have hlen:=r.length
 refine ⟨"list",_,slot_list_getitem.lookup,ht.isList.typeIs,?_⟩
 refine wpAny_getItem_list_slice ht.isList hs pl pu .none ς ?_ (by rw [List.size_toArray] <;> omega)
 rw [zmP,<- hlen]
 refine ⟨.ref s.heap.objs.size,_,I.laid (t':=s.toks) (o := .lst (cutV xs lo hi)) (fun b ob q=>Heap.get?_push_of_some _ q) (Nat.le_refl _) ?_,rfl,q _ (I.hok.fresh (Nat.le_refl _))⟩
 exact ⟨Nat.le_trans (zl0 xs lo hi) hz,_,0,(r.drop (HT.sIx xs.length 0 lo)).take (HT.sIx xs.length xs.length hi - HT.sIx xs.length 0 lo),Heap.get?_push_size _ rfl⟩
noncomputable def zbs:V->Bool
 | .non=>true
 | .bl _=>true
 | .int _=>true
 | .str _=>true
 | _=>false
noncomputable def eqV:V->V->Bool
 | .non,.non=>true
 | .bl a,.bl b=>a == b
 | .bl a,.int b=>(if a then 1 else 0) == b
 | .int a,.bl b=>a == (if b then 1 else 0)
 | .int a,.int b=>a == b
 | .str a,.str b=>a == b
 | _,_=>false
theorem zgC {A:Around}{s:Shared}{y x:V}{u v:Value} (ry:zq y u) (rx:zq x v) (fy:zbs y=true) (fx:zbs x=true):SeqAt.EqAt A s u v (eqV y x):=by
 cases y with
 | non =>
   cases ry
   cases x with
   | non=>cases rx;exact SeqAt.EqAt.same _
   | bl b=>cases rx;exact SeqAt.EqAt.none_bool b
   | int b=>obtain ⟨t,rfl⟩:=rx;exact SeqAt.EqAt.none_int b t
   | str b=>obtain ⟨t,rfl⟩:=rx;exact SeqAt.EqAt.none_str b t
   | _=>exact absurd (show false=true from fx) Bool.false_ne_true
 | bl a =>
   cases ry
   cases x with
   | non=>cases rx;exact SeqAt.EqAt.bool_none a
   | bl b=>cases rx;exact SeqAt.EqAt.bool_bool a b
   | int b=>obtain ⟨t,rfl⟩:=rx;exact SeqAt.EqAt.bool_int a b t
   | str b=>obtain ⟨t,rfl⟩:=rx;exact SeqAt.EqAt.bool_str a b t
   | _=>exact absurd (show false=true from fx) Bool.false_ne_true
 | int a =>
   obtain ⟨t',rfl⟩:=ry
   cases x with
   | non=>cases rx;exact SeqAt.EqAt.int_none a t'
   | bl b=>cases rx;exact SeqAt.EqAt.int_bool a t' b
   | int b=>obtain ⟨t,rfl⟩:=rx;exact SeqAt.EqAt.int_int a t' b t
   | str b=>obtain ⟨t,rfl⟩:=rx;exact SeqAt.EqAt.int_str a t' b t
   | _=>exact absurd (show false=true from fx) Bool.false_ne_true
 | str a =>
   obtain ⟨t',rfl⟩:=ry
   cases x with
   | non=>cases rx;exact SeqAt.EqAt.str_none a t'
   | bl b=>cases rx;exact SeqAt.EqAt.str_bool a t' b
   | int b=>obtain ⟨t,rfl⟩:=rx;exact SeqAt.EqAt.str_int a t' b t
   | str b=>obtain ⟨t,rfl⟩:=rx;exact SeqAt.EqAt.str_str a t' b t
   | _=>exact absurd (show false=true from fx) Bool.false_ne_true
 | _=>exact absurd (show false=true from fy) Bool.false_ne_true
noncomputable def eqU (x:V) (u:Value):Bool:=match u with
 | .none=>eqV .non x
 | .bool b=>eqV (.bl b) x
 | .int i _=>eqV (.int i) x
 | .str z _=>eqV (.str z) x
 | _=>false
theorem zid {x y:V}{u:Value} (r:zq y u) (f:zbs y=true):eqU x u=eqV y x:=by
 cases y with
 | non=>cases r;rfl
 | bl b=>cases r;rfl
 | int i=>obtain ⟨t,rfl⟩:=r;rfl
 | str z=>obtain ⟨t,rfl⟩:=r;rfl
 | _=>exact absurd (show false=true from f) Bool.false_ne_true
theorem zgq {x:V}:∀ {xs:List V}{us:List Value},zE xs us->xs.all zbs=true->us.any (eqU x)=xs.any fun y=>eqV y x
 | _,_,.nil,_=>rfl
 | y :: xs,u :: us,.cons r t,f=>by
   rw [List.all_cons,Bool.and_eq_true]at f
   rw [List.any_cons,List.any_cons,zid r f.1,zgq t f.2]
theorem zgP {A:Around}{s:Shared}{x:V}{v:Value} (rx:zq x v) (fx:zbs x=true):∀ {xs:List V}{us:List Value},zE xs us->xs.all zbs=true->∀ u∈us,SeqAt.EqAt A s u v (eqU x u)
 | _,_,.nil,_=>fun u hu=>by cases hu
 | y :: xs,u :: us,.cons r t,f=>fun u' hu=>by
   rw [List.all_cons,Bool.and_eq_true]at f
   rcases List.mem_cons.mp hu with rfl | hu
   . rw [zid r f.1];exact zgC r rx f.1 fx
   . exact zgP rx fx t f.2 u' hu
noncomputable def inV (x:V) (xs:List V):Bool:=xs.any fun y=>eqV y x
noncomputable def rIn (K:PySem.W.Frag) (neg:Bool):R2:=fun x y H Q=>∃ p xs,y = .ref p∧(SqL K H p xs∨SqT K H p xs)∧zbs x=true∧xs.all zbs=true∧Q (.bl (if neg then !inV x xs else inV x xs)) H
theorem znI:OpR X (compareOp .In) (rIn X.K false):=by
 intro pins s σ H x y v u Q I rx ry h
 obtain ⟨p,xs,rfl,hq,fx,fs,q⟩:=h
 cases ry
 rcases hq with hq | hq
 . obtain ⟨its,r,pl,hz⟩:=I.list hq
   refine SeqAt.in_listAt (eqU x) pl.isList (fun w hw=>zgP rx fx r fs w (by simpa using hw)) ⟨.bl _,H,I,rfl,?_⟩
   rw [show its.toArray.any (eqU x)=its.any (eqU x) by simp,zgq r fs]
   exact q
 . obtain ⟨its,r,pl,hz⟩:=I.tuple hq
   refine SeqAt.in_tupleAt (eqU x) pl (fun w hw=>zgP rx fx r fs w (by simpa using hw)) ⟨.bl _,H,I,rfl,?_⟩
   rw [show its.toArray.any (eqU x)=its.any (eqU x) by simp,zgq r fs]
   exact q
theorem znj:zdu X (.builtin "len") (fun xs H Q=>∃ p ys,xs=[.ref p]∧(SqL X.K H p ys∨SqT X.K H p ys)∧Q (.int ys.length) H):=by
 intro pins s σ H xs us Q I r h
 obtain ⟨p,ys,rfl,hq,q⟩:=h
 obtain ⟨u,rfl,rx⟩:=zf1 r
 cases rx
 have hn:=zfK
 rcases hq with hq | hq
 . obtain ⟨its,r',pl,hz⟩:=I.list hq
   have hlen:=r'.length
   exact Calls.call_len_list pl.isList (by simp only [List.size_toArray] <;> omega) ⟨.int ys.length,H,I.tok _,⟨s.toks+1,by rw [List.size_toArray,hlen]⟩,q⟩
 . obtain ⟨its,r',pl,hz⟩:=I.tuple hq
   have hlen:=r'.length
   exact len_tuple pl (by simp only [List.size_toArray] <;> omega) ⟨.int ys.length,H,I.tok _,⟨s.toks+1,by rw [List.size_toArray,hlen]⟩,q⟩
theorem zmu:zdu X (.type "list") (fun xs H Q=>∃ p ys,xs=[.ref p]∧(SqL X.K H p ys∨SqT X.K H p ys)∧∀ l,H l=none->Q (.ref l) (upd H l (.lst ys))):=by
 intro pins s σ H xs us Q I r h
 obtain ⟨p,ys,rfl,hq,q⟩:=h
 obtain ⟨u,rfl,rx⟩:=zf1 r
 cases rx
 have fin:∀ (its:List Value),zE ys its->ys.length<=sizeLine->∀ (h':Heap) (c':Nat),(∀ b o',s.heap.get? b=some o'->h'.get? b=some o') ->
     h'.get? s.heap.objs.size=some { cls := .type "list",dict:=none,data := .seq its.toArray c',slots:=#[] }->EP X pins σ Q (.ref s.heap.objs.size) { s with heap:=h' }:=fun its r' hz h' c' kp e =>
   ⟨.ref s.heap.objs.size,_,I.laid (t':=s.toks) kp (Nat.le_refl _) (show zbk X.prog X.w _ h' _ (.lst ys) from ⟨hz,its,c',r',e⟩),rfl,q _ (I.hok.fresh (Nat.le_refl _))⟩
 rcases hq with hq | hq
 . obtain ⟨its,r',pl,hz⟩:=I.list hq
   have hlen:=r'.length
   obtain ⟨o,ho,hc,n,hd⟩:=pl.isList
   exact call_list_seq p (.inl rfl) ho hc hd (fun h' c' kp e=>fin its r' hz h' c' kp e) (by simp only [List.size_toArray] <;> omega)
 . obtain ⟨its,r',pl,hz⟩:=I.tuple hq
   have hlen:=r'.length
   obtain ⟨o,ho,hc,n,hd⟩:=pl
   exact call_list_seq p (.inr rfl) ho hc hd (fun h' c' kp e=>fin its r' hz h' c' kp e) (by simp only [List.size_toArray] <;> omega)
noncomputable def tyV (K:PySem.W.Frag) (T:String) (x:V) (H:Hp):Prop:=match x with
 | .str _=>T = "str"
 | .int _=>T = "int"
 | .ref p=>(T = "list" ∧ ∃ xs,SqL K H p xs)∨(T = "tuple" ∧ ∃ o,K.lookup p=some o∧o.cls = .type "tuple" ∧ o.dict=none) ∨
     (T = "dict" ∧ ((∃ kvs,H p=some (.dK kvs))∨∃ kvs,H p=some (.dT kvs)))∨(T = "set" ∧ ∃ S n,H p=some (.set S n))
 | _=>False
theorem zpR {pins:List (Addr×Obj)}{σ:St}{H:Hp}{s:Shared}{T:String}{x:V}{v:Value} (I:Inv X pins σ H s) (r:zq x v) (ty:tyV X.K T x H) :
   s.TypeIs v T∧∀ a,v = .ref a->∃ ob,s.heap.get? a=some ob∧ob.dict=none:=by
 cases x with
 | str z =>
   obtain ⟨t,rfl⟩:=r
   cases (show T = "str" from ty)
   exact ⟨typeIs_str s z t,fun _ e=>nomatch e⟩
 | int i =>
   obtain ⟨t,rfl⟩:=r
   cases (show T = "int" from ty)
   exact ⟨typeIs_int s i t,fun _ e=>nomatch e⟩
 | ref p =>
   cases r
   rcases ty with ⟨rfl,xs,hq⟩ | ⟨rfl,o,hk,hc,hd⟩ | ⟨rfl,hk⟩ | ⟨rfl,S,n,hk⟩
   . obtain ⟨its,_,pl,_⟩:=I.list hq
     refine ⟨pl.isList.typeIs,fun a e=>?_⟩
     cases e
     obtain ⟨o,n,e,c,hd,_⟩:=pl
     exact ⟨o,e,hd⟩
   . refine ⟨⟨o,I.kIn p o hk,hc⟩,fun a e=>?_⟩
     cases e
     exact ⟨o,I.kIn _ o hk,hd⟩
   . have z:∃ o,s.heap.get? p=some o∧o.ExactDict:=by
       rcases hk with ⟨kvs,hk⟩ | ⟨kvs,hk⟩
       . obtain ⟨_,_,_,_,o,_,_,e,ex,_⟩:=I.hok p _ hk
         exact ⟨o,e,ex⟩
       . obtain ⟨_,_,_,_,o,_,_,e,ex,_⟩:=I.hok p _ hk
         exact ⟨o,e,ex⟩
     obtain ⟨o,e,ex⟩:=z
     refine ⟨⟨o,e,ex.1⟩,fun a e2=>?_⟩
     cases e2
     exact ⟨o,e,ex.2.1⟩
   . obtain ⟨o,_,_,_,e,ex,_⟩:=I.hok p _ hk
     refine ⟨⟨o,e,ex.1⟩,fun a e2=>?_⟩
     cases e2
     exact ⟨o,e,ex.2.1⟩
 | _=>exact False.elim ty
noncomputable def tBM (K:PySem.W.Frag) (T:String) (r:V->List V->Hp->VK->Prop) (to:TE) (t:TA):TE:=fun σ H Q=>to σ H fun x H1=>tyV K T x H1∧t σ H1 fun xs H2=>r x xs H2 Q
variable {o e:Expr}{es:List Expr}{to:TE}{t:TA}{name:Str}{apos cpos:Pos}{T id:String}{r:V->List V->Hp->VK->Prop}
theorem zl1 (pa:PlainAttrs T) (slot:Slot T name id) (hty:typeOf (.builtin id)=pure (.type "method_descriptor")) (hm:MtR X id r) (ho:PE X o to) (ha:PA X (e :: es) t)
   (hbase:attributeBase o name X.env (eval o X.env)=eval o X.env:=by rfl)
   (hfew:((backTo cpos (starEach (e :: es) X.env)).all (fun x=>!x.1) && (backToKw cpos (keywordEach [] X.env)).all (fun x=>x.1.isSome)
     && decide ((e :: es).length+([]:List Keyword).length+(if ([]:List Keyword).isEmpty then 0 else 1) < 30))=true:=by rfl)
   (hline:(apos.endLine == cpos.line)=true:=by rfl) (hs:starEach (e :: es) X.env=(false,eval e X.env) :: starEach es X.env:=by rfl) (hplain:(backTo cpos (starEach es X.env)).any (·.1)=false:=by rfl) :
   PE X (.Call (.Attribute o name apos) (e :: es) [] cpos) (tBM X.K T r to t):=by
 intro pins s σ H Q I h
 refine wpAny_Call_method_late hbase hfew hline rfl (thn (ho pins s σ H _ I h) fun v s1 ⟨x,H1,I1,r1,ty,q1⟩=>?_)
 obtain ⟨h1,h2⟩:=zpR I1 r1 ty
 refine ⟨T,id,pa,slot,hty,h1,h2,?_⟩
 have hA:=ha cpos pins s1 σ H1 _ I1 q1
 rw [hs]at hA ⊢
 refine Calls.callWith_builtin (by show (false || (backTo cpos (starEach es X.env)).any (·.1))=false;rw [hplain] <;> rfl) (Calls.evalArgs_plain ?_)
 exact thn hA fun us s2 ⟨vs,H2,I2,r2,q2⟩=>hm pins s2 σ H2 x vs v us Q I2 r1 r2 q2
end
end L2
namespace L2
open PySem PySem.Spec PyProof.Rows
noncomputable def MtM (X:Cx) (id:String) (r:V->List V->Hp->VK->Prop):Prop :=
 ∀ (pins:List (Addr×Obj)) (s:Shared) (σ:St) (H:Hp) (x:V) (xs:List V) (v:Value) (us:List Value) (Q:VK),Inv X pins σ H s->zq x v->zE xs us->r x xs H Q ->
   wpAny (model X.prog X.w) X.A (call (.builtin id) (v :: us)) (EP X pins σ Q) X.xe s
theorem zE.one:∀ {x:V}{us:List Value},zE [x] us->∃ u,us=[u]∧zq x u
 | _,_,.cons r .nil=>⟨_,rfl,r⟩
section
variable {X:Cx}{pins:List (Addr×Obj)}{σ:St}{H:Hp}{s:Shared}{l b:Addr}{xs ys zs:List V}
theorem Inv.lset {its its':List Value}{n:Nat}{f:Array Value->Array Value}{t':Nat} (I:Inv X pins σ H s) (hH:H l=some (.lst xs))
   (e:s.heap.get? l=some { cls := .type "list",data := .seq its.toArray n }) (hf:f its.toArray=its'.toArray) (hv:zE ys its') (hz:ys.length<=sizeLine) :
   Inv X pins σ (upd H l (.lst ys)) { s with heap:=s.heap.update l (Obj.mapSeq f),toks:=t' }:=by
 have q:=PySem.IsL.update e f
 rw [hf]at q
 refine I.write (x:=l) (e:=l) (by rw [hH];exact trivial) (.inl rfl) (fun b' u hb hu=>(Heap.get?_update_other s.heap (Obj.mapSeq f) (Ne.symm hb)).trans hu) ⟨_,q⟩ ?_
 exact ⟨hz,its',_,hv,q⟩
theorem Inv.lnew {its:List Value}{t':Nat} (I:Inv X pins σ H s) (hv:zE ys its) (hz:ys.length<=sizeLine) :
   Inv X pins σ (upd H s.heap.objs.size (.lst ys)) { s with heap:=s.heap.push { cls := .type "list",data := .seq its.toArray },toks:=t' } :=
 I.laid (fun _ _ q=>Heap.get?_push_of_some _ q) (Nat.le_refl _) ⟨hz,its,0,hv,Heap.get?_push_size _ rfl⟩
theorem Inv.fresh (I:Inv X pins σ H s):H s.heap.objs.size=none:=I.hok.fresh (Nat.le_refl _)
theorem Inv.lstM (I:Inv X pins σ H s) (hH:H l=some (.lst xs)):xs.length<=sizeLine∧∃ (its:List Value) (n:Nat),zE xs its∧xs.length=its.length∧s.heap.get? l=some { cls := .type "list",data := .seq its.toArray n }:=by
 obtain ⟨z,its,n,r,e⟩:=I.hok l _ hH
 exact ⟨z,its,n,r,r.length,e⟩
end
section
variable {X:Cx}
noncomputable def zns:V->List V->Hp->VK->Prop:=fun x vs H Q=>∃ l xs y,x = .ref l∧vs=[y]∧H l=some (.lst xs)∧xs.length < sizeLine∧Q .non (upd H l (.lst (xs++[y])))
theorem zjj:MtM X "list.append" zns:=by
 intro pins s σ H x vs v us Q I rx rv h
 obtain ⟨l,xs,y,rfl,rfl,hH,hz,q⟩:=h
 cases rx
 obtain ⟨u,rfl,ru⟩:=rv.one
 obtain ⟨z,its,n,r,hl,e⟩:=I.lstM hH
 refine call_meets F.slot_list_append ⟨_,e,rfl⟩ F.entry_list_append (F.args_list_append_2 _ _) (PySem.list_append l its.toArray n u (by rw [List.size_toArray];omega)) ⟨e,?_⟩
 refine ⟨.non,_,I.lset (its':=its++[u]) hH e ς (r.append (.cons ru .nil)) ?_,rfl,q⟩
 rw [List.length_append,List.length_singleton]
 omega
noncomputable def zhS:R2:=fun x y H Q=>∃ l b xs zs,x = .ref l∧y = .ref b∧H l=some (.lst xs)∧H b=some (.lst zs)∧xs.length+zs.length<=sizeLine∧∀ p,H p=none->Q (.ref p) (upd H p (.lst (xs++zs)))
theorem zif:OpR X (binaryOp .Add) zhS:=by
 intro pins s σ H x y v u Q I rx ry h
 obtain ⟨l,b,xs,zs,rfl,rfl,hH,hB,hz,q⟩:=h
 cases rx
 cases ry
 obtain ⟨z,its,n,r,hl,e⟩:=I.lstM hH
 obtain ⟨z2,its2,n2,r2,hl2,e2⟩:=I.lstM hB
 refine PySem.P.add_list e e2 ?_ (by rw [List.size_toArray,List.size_toArray];omega)
 have ea:its.toArray++its2.toArray=(its++its2).toArray:=by simp
 rw [ea]
 exact ⟨.ref _,_,I.lnew (t':=s.toks) (r.append r2) (by rw [List.length_append];omega),rfl,q _ I.fresh⟩
end
section
variable {prog:Program}{w:World}{A:Around}{E:Value->Shared->Prop}{s:Shared}
end
section
variable {X:Cx}
end
end L2
namespace Att
open PySem PySem.W PySem.Calls PyProof.Rows
theorem znQ {P:Params}{h:Heap}:∀ (ns:List Int) (vs:List Value),WellAll P h vs (ns.map WData.int)->IntsAre vs ns:=by
 intro ns
 induction ns with
 | nil =>
   intro vs w
   rw [List.map_nil]at w
   cases w
   exact .nil
 | cons n ns ih =>
   intro vs w
   rw [List.map_cons]at w
   cases w with
   | cons a b =>
     cases a
     exact .cons _ _ (ih _ b)
theorem zoA {l:OpenLaw}{n:Nat} (hn:l.most=some n) {P:Params}{h:Heap}{args:List WData}{vals:List Value}
   (hpre:l.row.toRowW.claim.pre args=true) (hwl:WellAll P h vals args) :
   ∃ a vs ns,vals=[Value.ref a]∧args=[WData.list (ns.map WData.int)]∧h.get? a=some { cls := .type "list",data := .seq vs.toArray }∧IntsAre vs ns∧ns.length<=n:=by
 have hsh:WShape.hasAll [] args [.list .int]=true:=(pre_splitW hpre).1
 have hc:l.pre.holds [] { args:=args }=true:=(pre_splitW hpre).2
 obtain ⟨d,r,rfl,h1,h2⟩:=hasAllW_cons hsh
 obtain rfl:=hasAllW_nil h2
 obtain ⟨xs,rfl,h3⟩:=hasW_list h1
 obtain ⟨ns,rfl⟩:=items_int h3
 have hlen:ns.length<=n:=by
   unfold OpenLaw.pre at hc
   have h4:(WTm.not (.lt (.lit (.int (n:Int))) (.len (.arg 0)))).holds [] { args:=[.list (ns.map .int)] }=true:=by
     have h4:=(holds_andW hc).1
     rw [hn]at h4
     exact h4
   have h5:=condW_of h4 (w_not (w_lt w_lit (w_len_list (w_arg rfl))))
   rw [List.length_map]at h5
   refine Nat.le_of_not_lt fun q=>?_
   have q':(n:Int) < ((ns.length:Nat):Int):=by omega
   first
     | (rw [decide_eq_true q']at h5;exact absurd h5 ϑ)
     | (simp at h5;omega)
 cases hwl with
 | cons w1 w2 =>
   cases w2
   cases w1 with
   | list ho hall=>exact ⟨_,_,ns,rfl,rfl,ho,znQ ns _ hall,hlen⟩
theorem zp6 (l:OpenLaw) (args:List WData):l.row.toRowW.claim.post args (.bool true) args=true :=
 postW_of (r:=l.row.toRowW) (X:=(true == true))
   (show WShape.has [] (.bool true) .bool=true by first | rfl | decide | simp [WShape.has,WShape.arms,WShape.armsAll])
   (show (WTm.eq .res (.lit (.bool true))).value [] { args:=args,res:=some (.bool true),after:=args }=some (.bool (true == true)) from w_eq_bool (w_res rfl) w_lit) rfl
theorem attach_call {l:OpenLaw}{n:Nat}{q:Program}{loose:List Str}{XP:(Str->Option Value)->Heap->Prop}{YP:World->Heap->Prop}{d:DefRec}
   (hn:l.most=some n) (hdf:d.params.defaults=[])
   (call:∀ (w:World) (s₀ s₁:Shared) (mg mb:Str->Option Value) (fa:Addr) (o:Obj) (pm cd doc:Value) (a:Addr) (vs:List Value) (ns:List Int),
     Ground q loose [] XP w s₀ mg mb s₁.heap->YP w s₁.heap ->
     s₁.heap.get? fa=some o->o.data = .func (docDef d.name d.params d.body d.scope pm cd doc)->s₁.heap.CodeRec cd d.name->mg d.name=some (.ref fa) ->
     s₁.heap.get? a=some { cls := .type "list",data := .seq vs.toArray }->IntsAre vs ns->ns.length<=n->s₁.gens=#[] ->
     codeAny (model l.prog w) callerA (.call (.ref fa) ⟨[.ref a],[]⟩) (fun r s'=>r = .ok (.ret (.bool true))∧OldK s₁.heap s'.heap∧s'.os=s₁.os∧AllBare s'.gens) s₁) :
   WalkO q loose XP YP l.row.toRowW d [] (fun f vs=>PySem.call f vs):=by
 intro w s₀ s₁ mg mb G Y fa o pm cd doc dV kV ho hd hcd hD hmg hg args vals as hpre hlay hrd hwl hlo
 obtain rfl:dV = .none:=Dflts.none hD hdf
 obtain rfl:kV = .none:=Dflts.noKw hD
 obtain ⟨a,vs,ns,rfl,rfl,hobj,hints,hlen⟩:=zoA hn hpre hwl
 refine enter_call (codeAny_mono (call w s₀ s₁ mg mb fa o pm cd doc a vs ns G Y ho (fd_plain hd) hcd hmg hobj hints hlen hg) fun r s' hq=>?_)
 obtain ⟨rfl,h2,h3,h4⟩:=hq
 exact ⟨.inl ⟨.bool true,.bool true,[],rfl,fun _=>rfl,.bool true,zp6 l _,fun _=>⟨List.Pairwise.nil,fun _ hm=>(nomatch hm)⟩⟩,h2,h3,h4⟩
section
variable {prog:Program}{w:World}{A:Around}{E:Value->Shared->Prop}{s:Shared}{K:Frag}
end
end Att
namespace L2
open PySem PySem.Spec PyProof.Rows
theorem ziP:∀ {vs:List Value}{ns:List Int},IntsAre vs ns->zE (ns.map V.int) vs
 | _,_,.nil=> .nil
 | _,_,.cons n t h=> .cons ⟨t,rfl⟩ (ziP h)
noncomputable def zeV (H:Hp):Prop:=∀ b,H b=none∨∃ o xs,H b=some (.frz o (.lst xs))
theorem znF {P:Program}{w:World}{K:PySem.W.Frag}{mg mb:Str->Option Value}{CX:CXT}{k:Nat}{fa a:Addr}{fd:FuncData}{x:Str}{sp:Sp}{s₁:Shared}{vs:List Value}{ns:List Int}
   (KX:K.In s₁.heap) (hns:s₁.heap.Ns mainGlobals mg) (hb:s₁.heap.Ns builtinsNs mb) (hbb:∀ x:Str,x ≠ "__name__" -> mb x=bootBuiltins x) (hlim:s₁.heap.NoLimit) (hg:s₁.gens=#[])
   (ha:s₁.heap.get? a=some { cls := .type "list",data := .seq vs.toArray }) (hi:IntsAre vs ns) (hl:ns.length<=sizeLine) (hr:zO k callerA)
   (F:∀ base:Heap,K.In base->base.Ns mainGlobals mg->zM P w K mg base CX k fa fd [x] sp) (hbind:∀ (s:Shared) (u:Value),BindsTo s fd ⟨[u],[]⟩ [(x,u)])
   (hsp:∀ H:Hp,zeV H->SqL K H a (ns.map V.int)->sp [.ref a] H (fun v _=>v = .bl true) fun _ _ _=>False)
   (hCX:∀ H e s',CX [] H s₁ (fun _ _ _=>False) e s'->False) :
   codeAny (model P w) callerA (.call (.ref fa) ⟨[.ref a],[]⟩) (fun r s'=>r = .ok (.ret (.bool true))∧OldK s₁.heap s'.heap∧s'.os=s₁.os∧AllBare s'.gens) s₁:=by
 have rv:=ziP hi
 have lenV:=hi.length
 have core:∀ H:Hp,zeV H->SqL K H a (ns.map V.int)->HOk P w H s₁.heap->(∀ b,H b≠none->b=a)->(H a≠none->K.lookup a=none) ->
     codeAny (model P w) callerA (.call (.ref fa) ⟨[.ref a],[]⟩) (fun r s'=>r = .ok (.ret (.bool true))∧OldK s₁.heap s'.heap∧s'.os=s₁.os∧AllBare s'.gens) s₁:=by
   intro H hO hS hok hA hK
   have base_of:∀ {b:Addr} {o:Obj},s₁.heap.get? b=some o->H b=none->(zdj s₁.heap H).get? b=some o:=fun e n=>zpN e n
   have noA:∀ {b:Addr} {o:Obj} {es:Array DictEntry} {ep:Nat},s₁.heap.get? b=some o->o.data = .dict es ep->H b=none:=fun {b o es ep} e d=>by
     cases q:H b with
     | none=>rfl
     | some u =>
       have e':b=a:=hA b (by rw [q];simp)
       subst e'
       rw [ha]at e;cases e
       have d':Data.seq vs.toArray _=Data.dict es ep:=d
       cases d'
   have nsK:∀ {b:Addr} {m:Str->Option Value},s₁.heap.Ns b m->(zdj s₁.heap H).Ns b m:=fun {b m} ⟨o,es,ep,e,d,r⟩=>⟨o,es,ep,base_of e (noA e d),d,r⟩
   have hKb:K.In (zdj s₁.heap H):=fun b o e=>base_of (KX b o e) (by
     cases q:H b with
     | none=>rfl
     | some u =>
       have e':b=a:=hA b (by rw [q];simp)
       subst e'
       rw [hK (by rw [q];simp)]at e;cases e)
   have hM:Mod K mg (zdj s₁.heap H):=⟨hKb,nsK hns,⟨mb,nsK hb,hbb⟩,let ⟨mc,h1,h2⟩:=hlim;⟨mc,nsK h1,h2⟩⟩
   have e0:zdb P w K mg (zdj s₁.heap H) callerA [] s₁ H:=⟨rfl,hM,fun b o e=>zog e,Nat.le_of_eq (zoI _ _),trivial,fun b hb=>absurd (show b∈([]:List Addr) from hb) ς,hok,.of_eq hg⟩
   refine codeAny_mono ((F _ hKb (nsK hns)).run callerA [] s₁ H ⟨[.ref a],[]⟩ [.ref a] [.ref a] _ _ hr e0 (hbind s₁ (.ref a)) (.cons rfl .nil) (hsp H hO hS)) fun r s' h=>?_
   cases r with
   | error e=>exact (hCX H e s' h).elim
   | ok fl =>
     cases fl with
     | next=>exact False.elim h
     | brk=>exact False.elim h
     | cont=>exact False.elim h
     | ret u =>
       obtain ⟨v,H',os,bare,un,hok',r',q⟩:=h
       have q':v = .bl true:=q
       subst q'
       obtain rfl:u=Value.bool true:=r'
       refine ⟨rfl,OldK.of_keep fun b o e=>?_,os,bare⟩
       cases q:H b with
       | none=>exact un.keep b o e q (by intro z;exact absurd (show b∈([]:List Addr) from z) ς) ς
       | some u =>
         rcases hO b with z | ⟨ob,xs,z⟩
         . rw [q]at z;cases z
         . have z2:=un.frzs b ob _ z
           obtain ⟨e1,_⟩:=hok b _ z
           obtain ⟨e2,_⟩:=hok' b _ z2
           rw [e]at e1;cases e1
           exact e2
 cases hk:K.lookup a with
 | some o =>
   have e:=KX a o hk
   rw [ha]at e
   cases e
   refine core (fun _=>none) (fun _=> .inl rfl) (.inr ⟨_,vs.toArray,_,hk,rfl,rfl,rfl,by rw [List.size_toArray,lenV];exact hl,by simpa using rv⟩) (fun b u z=>by have z':(none:Option HO)=some u:=z;cases z') (fun b z=>absurd rfl z) fun z=>absurd rfl z
 | none =>
   refine core (fun b=>if b=a then some (.frz { cls := .type "list",data := .seq vs.toArray } (.lst (ns.map V.int))) else none) (fun b=>?_) (.inl (.inr ⟨{ cls := .type "list",data := .seq vs.toArray },if_pos rfl⟩)) (fun b u z=>?_) (fun b z=>?_) fun _=>hk
   . by_cases hb:b=a
     . exact .inr ⟨_,_,if_pos hb⟩
     . exact .inl (if_neg hb)
   . by_cases hb:b=a
     . have z':=(if_pos hb).symm.trans z
       cases z'
       subst hb
       exact ⟨ha,by rw [List.length_map];exact hl,vs,_,rv,ha⟩
     . have z':=(if_neg hb).symm.trans z
       cases z'
   . by_cases hb:b=a
     . exact hb
     . exact absurd (if_neg hb) z
end L2
namespace L2
open PySem PySem.Spec PyProof.Rows
theorem walk_of {l:PySem.W.OpenLaw}{n k:Nat}{q:Program}{loose:List Str}{XP:(Str->Option Value)->Heap->Prop}{YP:World->Heap->Prop}{d:DefRec}{K:Params->PySem.W.Frag}{CX:World->CXT}{sp:World->Sp}{x:Str}
   (hn:l.most=some n) (hn2:n<=sizeLine) (hdf:d.params.defaults=[]) (hr:zO k callerA)
   (hY:∀ (w:World) (h:Heap),YP w h->(K w.params).In h)
   (F:∀ (w:World) (mg:Str->Option Value) (fa:Addr) (h:Heap),(K w.params).In h->h.Ns mainGlobals mg->mg d.name=some (.ref fa) ->
     ∃ fd:FuncData,(∀ (s:Shared) (u:Value),BindsTo s fd ⟨[u],[]⟩ [(x,u)]) ∧
       ∀ base:Heap,(K w.params).In base->base.Ns mainGlobals mg->zM l.prog w (K w.params) mg base (CX w) k fa fd [x] (sp w))
   (hsp:∀ (w:World) (H:Hp) (a:Addr) (ns:List Int),ns.length<=n->zeV H->SqL (K w.params) H a (ns.map V.int)->sp w [.ref a] H (fun v _=>v = .bl true) fun _ _ _=>False)
   (hCX:∀ (w:World) (H:Hp) (s:Shared) (e:Value) (s':Shared),CX w [] H s (fun _ _ _=>False) e s'->False) :
   PySem.W.WalkO q loose XP YP l.row.toRowW d [] (fun f vs=>PySem.call f vs):=by
 refine Att.attach_call hn hdf fun w s₀ s₁ mg mb fa o pm cd doc a vs ns G Y ho hd hcd hmg hobj hints hlen hg=>?_
 have KX:=hY w _ Y
 obtain ⟨fd,hb,hF⟩:=F w mg fa _ KX G.T.g hmg
 exact znF KX G.T.g G.T.b G.T.builtins G.T.nolimit hg hobj hints (Nat.le_trans hlen hn2) hr hF hb (fun H hO hS=>hsp w H a ns hlen hO hS) fun H e s'=>hCX w H s₁ e s'
end L2
namespace L2
open PySem PySem.Spec PyProof.Rows
noncomputable def zig (s:Stmt) (j:Nat):Stmt:=match s with
 | .ClassDef _ _ _ body _ _ _ _ _ _ _=>body.getD j (.Pass ⟨0,0,0,0⟩)
 | _=> .Pass ⟨0,0,0,0⟩
noncomputable def zcu (s:Stmt):Arguments:=match s with
 | .FunctionDef _ a _ _ _ _ _ _ _ _=>a
 | _=>{ posonlyargs:=[],args:=[],vararg:=none,kwonlyargs:=[],kw_defaults:=[],kwarg:=none,defaults:=[] }
noncomputable def zb3 (s:Stmt):List Stmt:=match s with
 | .FunctionDef _ _ b _ _ _ _ _ _ _=>b
 | _=>[]
noncomputable def zG (s:Stmt):Scope:=match s with
 | .FunctionDef _ _ _ _ _ _ sc _ _ _=>sc
 | _=>{ kind := .function,names:=[],isGenerator:=false,isCoroutine:=false }
noncomputable abbrev CX0:CXT:=fun _ _ _ _ _ _=>False
noncomputable abbrev E0:XK:=fun _ _ _=>False
structure Fun (K:PySem.W.Frag) (x qual:Str) (st:Stmt) (f:Addr) (fd:FuncData):Prop where
 ex:∃ (oc:Value) (od:Option Addr) (kV doc pm:Value) (an:Option Addr) (cdv ct:Value) (osl:Array (Option Value)),
   fd=PySem.W.fnOf x qual (zcu st) (zb3 st) (zG st) .none kV doc pm an cdv ct∧K.lookup f=some ⟨oc,od,.func fd,osl⟩∧PySem.W.codeIn K cdv qual=true
 kp:PySem.W.keepIn K (.ref f)=true
section
variable {P:Program}{w:World}{K:PySem.W.Frag}{mg:Str->Option Value}{base:Heap}
theorem Fun.binds {x qual:Str}{st:Stmt}{f:Addr}{fd:FuncData}{ps:List Str} (F:Fun K x qual st f fd)
   (h:∀ (kV doc pm:Value) (an:Option Addr) (cdv ct:Value) (us:List Value),us.length=ps.length->bindArgs (PySem.W.fnOf x qual (zcu st) (zb3 st) (zG st) .none kV doc pm an cdv ct) ⟨us,[]⟩=pure (ps.zip us)):zbZ K fd ps []:=by
 obtain ⟨oc,od,kV,doc,pm,an,cdv,ct,osl,rfl,lk,hcd⟩:=F.ex
 exact .all (h kV doc pm an cdv ct)
theorem zer {x qual:Str}{st:Stmt}{f:Addr}{oc:Value}{od an:Option Addr}{osl:Array (Option Value)}{kV doc pm cdv ct:Value} (l:K.lookup f=some ⟨oc,od,.func (PySem.W.fnOf x qual (zcu st) (zb3 st) (zG st) .none kV doc pm an cdv ct),osl⟩)
   (c:PySem.W.codeIn K cdv qual=true) (k:PySem.W.keepIn K (.ref f)=true):Fun K x qual st f (PySem.W.fnOf x qual (zcu st) (zb3 st) (zG st) .none kV doc pm an cdv ct):=⟨⟨oc,od,kV,doc,pm,an,cdv,ct,osl,rfl,l,c⟩,k⟩
end
theorem zjf {A:Around}{k:Nat} (hr:zO k A):A.units+1 < cLine:=Nat.lt_of_le_of_lt (Nat.add_le_add_left (by decide:1<=64) _) hr.units
section
variable {X:Cx}
end
end L2
end
section
namespace L2
open PySem PySem.Spec PyProof.Rows
section
variable {κ:Type} [DecidableEq κ]
noncomputable def zcn (kvs:List (κ×V)) (k:κ):Option V:=(kvs.find? fun kv=>decide (kv.1=k)).map (·.2)
theorem zhc {p:κ×V}{r:List (κ×V)}{k:κ} (e:p.1=k):zcn (p :: r) k=some p.2:=by simp [zcn,List.find?_cons,e]
theorem zgp {p:κ×V}{r:List (κ×V)}{k:κ} (e:¬ p.1=k):zcn (p :: r) k=zcn r k:=by simp [zcn,List.find?_cons,e]
theorem zbY.isSome_eq {o:Option V}{u:Option Value} (r:zbY o u):o.isSome=u.isSome:=by
 cases o with
 | none=>cases u with
   | none=>rfl
   | some _=>exact (show False from r).elim
 | some _=>cases u with
   | none=>exact (show False from r).elim
   | some _=>rfl
theorem KV.val {kvs:List (κ×V)}{vs:List (κ×Value)} (r:KV kvs vs) (k:κ):zbY (zcn kvs k) (valueAt vs k):=by
 unfold KV at r
 induction r with
 | nil=>exact True.intro
 | @cons p q ps qs h t ih =>
   obtain ⟨h1,h2⟩:=h
   by_cases e:p.1=k
   . have e':q.1=k:=h1.symm.trans e
     have b:valueAt (q :: qs) k=some q.2:=by simp [valueAt,List.find?_cons,e']
     rw [zhc e,b];exact h2
   . have e':¬ q.1=k:=fun z=>e (h1.trans z)
     have b:valueAt (q :: qs) k=valueAt qs k:=by simp [valueAt,List.find?_cons,e']
     rw [zgp e,b];exact ih
end
theorem zg6 {P:Program}{w:World}{k:Key}{u:Value} (r:zq (kV k) u):(zcH P w).is k u=true:=by
 cases k with
 | inl i=>obtain ⟨t,e⟩:=(show ∃ t,u=Value.int i t from r);subst e;exact zpZ P w i t
 | inr x=>obtain ⟨t,e⟩:=(show ∃ t,u=Value.str x t from r);subst e;exact zoi P w x t
theorem zjy {P:Program}{w:World}:∀ {ks:List Key}{us:List Value},zE (ks.map kV) us->ItemsAre (zcH P w) ks us
 | [],_,r=>by rw [List.map_nil]at r;cases r;exact .nil
 | k :: ks,_,r=>by
   rw [List.map_cons]at r
   cases r with
   | cons h t=>exact .cons (zg6 h) (zjy t)
noncomputable abbrev KT (H:Hp):List (List Key×V)->List (List Key×Addr×Value)->Prop:=Paired fun p q=>p.1=q.1∧H q.2.1=some (.tup (p.1.map kV))∧zq p.2 q.2.2
theorem KT.val {H:Hp}{kvs:List (List Key×V)}{xs:List (List Key×Addr×Value)} (r:KT H kvs xs) (k:List Key):zbY (zcn kvs k) ((atKey xs k).map (·.2)):=by
 induction r with
 | nil=>exact True.intro
 | @cons p q ps qs h t ih =>
   obtain ⟨h1,_,h2⟩:=h
   by_cases e:p.1=k
   . have e':q.1=k:=h1.symm.trans e
     have b:atKey (q :: qs) k=some q.2:=by simp [atKey,List.find?_cons,e']
     rw [zhc e,b];exact h2
   . have e':¬ q.1=k:=fun z=>e (h1.trans z)
     have b:atKey (q :: qs) k=atKey qs k:=by simp [atKey,List.find?_cons,e']
     rw [zgp e,b];exact ih
section
variable {P:Program}{w:World}{H:Hp}{h:Heap}{a:Addr}
theorem zjk {u:HO} (ok:HOk P w H h) (e:Rd H a u):zbk P w H h a u:=e.ok ok
theorem zg0 {kvs:List (Key×V)} (ok:HOk P w H h) (e:Rd H a (.dK kvs)):kvs.length<=sizeLine∧(a == sysModules)=false∧∃ vs,KV kvs vs∧h.DictOf (zcH P w) a vs :=
 show zbk P w H h a (.dK kvs) from zjk ok e
theorem zg8 {ks:List Key} (ok:HOk P w H h) (e:H a=some (.tup (ks.map kV))):(tupleKind (zcH P w)).is h ks a:=by
 obtain ⟨_,its,r,o,h1,h2,n,h3⟩:=(show zbk P w H h a (.tup (ks.map kV)) from ok a _ e)
 exact ⟨o,its.toArray,n,h1,h2,h3,by simpa using zjy r⟩
theorem zgA {kvs:List (List Key×V)} (ok:HOk P w H h) (e:Rd H a (.dT kvs)):kvs.length<=sizeLine∧(a == sysModules)=false ∧
   ∃ xs,KT H kvs xs∧h.DictOfH (tupleKind (zcH P w)) a xs:=by
 obtain ⟨z,y,xs,r,o,es,ep,h1,h2,h3,h4,h5⟩:=(show zbk P w H h a (.dT kvs) from zjk ok e)
 refine ⟨z,y,xs,r,o,es,ep,h1,h2,h3,h4,fun x hx=>?_,h5⟩
 have all:∀ {l:List (List Key×V)} {m:List (List Key×Addr×Value)},KT H l m->∀ x∈m,(tupleKind (zcH P w)).is h x.1 x.2.1:=by
   intro l m q
   induction q with
   | nil=>intro x hx;exact nomatch hx
   | @cons p q ps qs hq t ih =>
     intro x hx
     rcases List.mem_cons.mp hx with e | hx
     . subst e
       exact zg8 ok (by rw [<- hq.1];exact hq.2.1)
     . exact ih x hx
 exact all r x hx
end
noncomputable def zdd (H:Hp) (a:Addr) (y:V) (r:Option V):Prop :=
 (∃ kvs k,Rd H a (.dK kvs)∧y=kV k∧r=zcn kvs k)∨∃ kvs k b,Rd H a (.dT kvs)∧y = .ref b∧H b=some (.tup (k.map kV))∧r=zcn kvs k
theorem zdd.k {H:Hp}{a:Addr}{kvs:List (Key×V)}{k:Key} (e:H a=some (.dK kvs)):zdd H a (kV k) (zcn kvs k) := .inl ⟨kvs,k,.inl e,rfl,rfl⟩
section
variable {X:Cx}{pins:List (Addr×Obj)}{σ:St}{H:Hp}{s:Shared}{a:Addr}{y v:V}{u r:Value}{o:Option V}{A:Around}{E:Value->Shared->Prop}
theorem Inv.big (I:Inv X pins σ H s):sysModules < s.heap.objs.size:=by
 have h:mainGlobals < s.heap.objs.size:=(I.mod.glob.keeps I.bk).lt
 exact Nat.lt_trans ϑ h
theorem zmK {Q:Value->Shared->Prop} (hu:A.units+1 < cLine) (I:Inv X pins σ H s) (g:zdd H a y (some v)) (ry:zq y u) (h:∀ w' s',Inv X pins σ H s'->zq v w'->Q w' s') :
   wpAny (model X.prog X.w) A (getItem (.ref a) u) Q E s:=by
 rcases g with ⟨kvs,k,e,ey,l⟩ | ⟨kvs,k,b,e,ey,eb,l⟩
 . subst ey
   obtain ⟨z,hd,vs,rel,dd⟩:=zg0 I.hok e
   obtain ⟨w',hw,rw'⟩:=zbY.some_of (v:=v) (o:=valueAt vs k) (by rw [l];exact rel.val k)
   exact wpAny_getItem_of (zg6 ry) dd.mapOf hw (h w' _ (I.tok _) rw')
 . subst ey
   cases (show u=Value.ref b from ry)
   obtain ⟨z,hd,xs,rel,dd⟩:=zgA I.hok e
   obtain ⟨w',hw,rw'⟩:=zbY.some_of (v:=v) (o:=(atKey xs k).map (·.2)) (by rw [l];exact rel.val k)
   obtain ⟨p,hp,hp2⟩:=Option.map_eq_some_iff.mp hw
   refine wpAny_getItem_heap (tupleKind_room_in1 hu) (zg8 I.hok eb) dd hp ?_
   rw [hp2]
   exact h w' _ (I.tok _) rw'
theorem zqa {Q:Value->Shared->Prop} (hu:A.units+1 < cLine) (I:Inv X pins σ H s) (g:zdd H a y o) (ry:zq y u) (h:∀ s',Inv X pins σ H s'->Q (.bool o.isSome) s') :
   wpAny (model X.prog X.w) A (compareOp .In u (.ref a)) Q E s:=by
 rcases g with ⟨kvs,k,e,ey,l⟩ | ⟨kvs,k,b,e,ey,eb,l⟩
 . subst ey
   obtain ⟨z,hd,vs,rel,dd⟩:=zg0 I.hok e
   refine wpAny_in_of (zg6 ry) hd dd.mapOf ?_
   rw [<- (rel.val k).isSome_eq,<- l]
   exact h _ (I.tok _)
 . subst ey
   cases (show u=Value.ref b from ry)
   obtain ⟨z,hd,xs,rel,dd⟩:=zgA I.hok e
   refine wpAny_in_heap (tupleKind_room_in1 hu) (zg8 I.hok eb) hd dd ?_
   have q:=(rel.val k).isSome_eq
   rw [Option.isSome_map]at q
   rw [<- q,<- l]
   exact h _ (I.tok _)
end
section
variable {X:Cx}{pins:List (Addr×Obj)}{σ:St}{H:Hp}{s:Shared}{a:Addr}{kvs:List (Key×V)}{k:Key}{u:Value}{A:Around}{E:Value->Shared->Prop}
end
theorem zoH {X:Cx}{pins:List (Addr×Obj)}{σ:St}{H:Hp}{s:Shared}{a:Addr}{y:V}{o:Option V} (I:Inv X pins σ H s) (g:zdd H a y o):s.TypeIs (.ref a) "dict":=by
 rcases g with ⟨kvs,k,e,_,_⟩ | ⟨kvs,k,b,e,_,_,_⟩
 . obtain ⟨_,_,vs,_,dd⟩:=zg0 I.hok e
   exact dd.typeIs
 . obtain ⟨_,_,xs,_,dd⟩:=zgA I.hok e
   exact dd.typeIs
section
variable {X:Cx}{o i e value:Expr}{pos pos' tpos:Pos}{td ty tv:TE}
end
theorem znf {P:Program}{w:World}{H:Hp} (h:Heap) (hb:sysModules < h.objs.size):zbk P w H (h.push { cls := .type "dict",data := .dict #[] }) h.objs.size (.dK []) :=
 ⟨Nat.zero_le _,beq_eq_false_iff_ne.mpr (Ne.symm (Nat.ne_of_lt hb)),[],.nil,Heap.DictOf.new h⟩
noncomputable def zpO:TE:=fun _ H Q=>∀ p,H p=none->Q (.ref p) (upd H p (.dK []))
section
variable {X:Cx}{pos:Pos}
theorem zms:PE X (.Dict [] [] pos) zpO:=fun pins s σ H Q I h =>
 wpAny_Dict_empty ⟨.ref s.heap.objs.size,_,I.laid (a:=s.heap.objs.size) (o := .dK []) (t':=s.toks) (fun _ _ q=>Heap.get?_push_of_some _ q) (Nat.le_refl _) (znf s.heap I.big),rfl,h _ (I.hok.fresh (Nat.le_refl _))⟩
end
section
variable {X:Cx}{pins:List (Addr×Obj)}{σ:St}{H:Hp}{s:Shared}{a:Addr}{y d:V}{u r:Value}{o:Option V}{A:Around}{E:Value->Shared->Prop}
end
section
variable {X:Cx}{o e f:Expr}{apos cpos:Pos}{td ty tx:TE}
end
section
variable {X:Cx}{pins:List (Addr×Obj)}{σ:St}{H:Hp}{s:Shared}{a:Addr}{kvs:List (Key×V)}{A:Around}{E:Value->Shared->Prop}
end
section
variable {X:Cx}{pins:List (Addr×Obj)}{σ:St}{H:Hp}{s:Shared}{a:Addr}{y:V}{u:Value}{A:Around}{E:Value->Shared->Prop}
end
end L2
end
section
namespace L2
open PySem PySem.Spec PyProof.Rows
theorem zhf {env:Env}:∀ (names:List (Str×NameKind)) (acc:List (Str×Addr)),(∀ x∈names,x.2 = .free->∃ c,env.cells.lookup x.1=some c) ->
   ∃ cl:List (Str×Addr),(forIn names acc fun (x:Str×NameKind) (cs:List (Str×Addr))=>if (x.2 == NameKind.free)=true then (do let a <- cellOf env x.1;pure (ForInStep.yield ((x.1,a) :: cs)):Sem _) else pure (ForInStep.yield cs))=pure cl ∧
     (∀ x c,(x,c)∈cl->(x,c)∈acc∨((x,NameKind.free)∈names∧env.cells.lookup x=some c)) ∧
     (∀ x c,(x,c)∈acc∨((x,NameKind.free)∈names∧env.cells.lookup x=some c)->(x,c)∈cl)
 | [],acc,_=>⟨acc,rfl,fun x c h=> .inl h,fun x c h=>h.elim id fun z=>nomatch z.1⟩
 | (n,k) :: r,acc,h=>by
   have hr:∀ x∈r,x.2=NameKind.free->∃ c,env.cells.lookup x.1=some c:=fun x hx=>h x (List.mem_cons_of_mem _ hx)
   by_cases hk:k=NameKind.free
   . subst hk
     obtain ⟨c,hc⟩:=h (n,NameKind.free) List.mem_cons_self rfl
     obtain ⟨cl,e,h1,h2⟩:=zhf r ((n,c) :: acc) hr
     refine ⟨cl,?_,fun x d hx=>?_,fun x d hx=>?_⟩
     . rw [List.forIn_cons]
       have e1:cellOf env n=(pure c:Sem Addr):=by unfold cellOf;rw [hc]
       simp only [beq_self_eq_true,if_true,e1]
       exact e
     . rcases h1 x d hx with z | ⟨z,z'⟩
       . rcases List.mem_cons.mp z with z | z
         . cases z;exact .inr ⟨List.mem_cons_self,hc⟩
         . exact .inl z
       . exact .inr ⟨List.mem_cons_of_mem _ z,z'⟩
     . apply h2
       rcases hx with z | ⟨z,z'⟩
       . exact .inl (List.mem_cons_of_mem _ z)
       . rcases List.mem_cons.mp z with z | z
         . cases z
           rw [hc]at z';cases z'
           exact .inl List.mem_cons_self
         . exact .inr ⟨z,z'⟩
   . obtain ⟨cl,e,h1,h2⟩:=zhf r acc hr
     have hb:(k == NameKind.free)=false:=by simpa using hk
     refine ⟨cl,?_,fun x d hx=>?_,fun x d hx=>?_⟩
     . rw [List.forIn_cons]
       simp only [hb,Bool.false_eq_true,if_false]
       exact e
     . rcases h1 x d hx with z | ⟨z,z'⟩
       . exact .inl z
       . exact .inr ⟨List.mem_cons_of_mem _ z,z'⟩
     . apply h2
       rcases hx with z | ⟨z,z'⟩
       . exact .inl z
       . rcases List.mem_cons.mp z with z | z
         . cases z;exact absurd rfl hk
         . exact .inr ⟨z,z'⟩
theorem zi8 {α:Type}:∀ {l:List (Str×α)}{x:Str}{c:α},(x,c)∈l->∃ d,l.lookup x=some d∧(x,d)∈l
 | (n,k) :: r,x,c,h=>by
   cases e:x == n with
   | true =>
     have e':x=n:=by simpa using e
     subst e'
     exact ⟨k,by simp [List.lookup_cons],List.mem_cons_self⟩
   | false =>
     rcases List.mem_cons.mp h with z | z
     . cases z;simp at e
     . obtain ⟨d,h1,h2⟩:=zi8 z
       exact ⟨d,by rw [List.lookup_cons,e];exact h1,List.mem_cons_of_mem _ h2⟩
theorem mem_of_lookup {α:Type}:∀ {l:List (Str×α)}{x:Str}{c:α},l.lookup x=some c->(x,c)∈l
 | (n,k) :: r,x,c,h=>by
   rw [List.lookup_cons]at h
   cases e:x == n with
   | true =>
     have e':x=n:=by simpa using e
     subst e'
     rw [e]at h;cases h
     exact List.mem_cons_self
   | false =>
     rw [e]at h
     exact List.mem_cons_of_mem _ (mem_of_lookup h)
theorem zl3 {scope:Scope}{env:Env} (h:∀ x∈scope.names,x.2 = .free->∃ c,env.cells.lookup x.1=some c) :
   ∃ cl:List (Str×Addr),closureFor scope env=pure cl∧(∀ x c,cl.lookup x=some c->(x,NameKind.free)∈scope.names∧env.cells.lookup x=some c) ∧
     (∀ x c,(x,NameKind.free)∈scope.names->env.cells.lookup x=some c->cl.lookup x=some c):=by
 obtain ⟨cl,e,h1,h2⟩:=zhf (env:=env) scope.names [] h
 have g1:∀ x c,cl.lookup x=some c->(x,NameKind.free)∈scope.names∧env.cells.lookup x=some c:=fun x c z=>by
   rcases h1 x c (mem_of_lookup z) with q | q
   . exact nomatch q
   . exact q
 refine ⟨cl,?_,g1,fun x c z z'=>?_⟩
 . unfold closureFor
   show (forIn scope.names [] _ >>= _)=_
   have e2:=congrArg (fun m:Sem (List (Str×Addr))=>m >>= fun cs=>pure cs) e
   refine Eq.trans ?_ (Eq.trans e2 ?_)
   . congr 1
   . rfl
 . obtain ⟨d,e1,_⟩:=zi8 (h2 x c (.inr ⟨z,z'⟩))
   have:=(g1 x d e1).2
   rw [z']at this;cases this
   exact e1
theorem zh1 {env:Env}:∀ {names:List (Str×NameKind)}{x:Str},names.lookup x=some .free ->
   (names.map fun (n,k)=>if (k == NameKind.free && env.scope.kind == .function && env.kindOf n == some .cell) then (n,NameKind.cell) else (n,k)).lookup x=some .cell ∨
   (names.map fun (n,k)=>if (k == NameKind.free && env.scope.kind == .function && env.kindOf n == some .cell) then (n,NameKind.cell) else (n,k)).lookup x=some .free
 | [],_,h=>by simp at h
 | (n,k) :: r,x,h=>by
   have ih:=@zh1 env r x
   rw [List.map_cons]
   by_cases hc:(k == NameKind.free && env.scope.kind == .function && env.kindOf n == some .cell)=true
   . simp only [hc,if_true]
     cases hx:x == n with
     | true=>left;simp [List.lookup_cons,hx]
     | false =>
       simp only [List.lookup_cons,hx]at h ⊢
       exact ih h
   . simp only [hc,if_false,Bool.false_eq_true]
     cases hx:x == n with
     | true =>
       simp only [List.lookup_cons,hx]at h ⊢
       cases h
       right;rfl
     | false =>
       simp only [List.lookup_cons,hx]at h ⊢
       exact ih h
theorem zih {env:Env}:∀ {names:List (Str×NameKind)}{x:Str},(∀ y∈names,y.2 ≠ .cell) ->
   ((names.map fun (n,k)=>if (k == NameKind.free && env.scope.kind == .function && env.kindOf n == some .cell) then (n,NameKind.cell) else (n,k)).lookup x=some .cell ∨
   (names.map fun (n,k)=>if (k == NameKind.free && env.scope.kind == .function && env.kindOf n == some .cell) then (n,NameKind.cell) else (n,k)).lookup x=some .free)->names.lookup x=some .free
 | [],_,_,h=>by simp at h
 | (n,k) :: r,x,hn,h=>by
   have ih:=@zih env r x fun y hy=>hn y (List.mem_cons_of_mem _ hy)
   have hk:=hn (n,k) List.mem_cons_self
   rw [List.map_cons]at h
   by_cases hc:(k == NameKind.free && env.scope.kind == .function && env.kindOf n == some .cell)=true
   . simp only [hc,if_true]at h
     have hf:k = .free:=by
       simp only [Bool.and_eq_true,beq_iff_eq]at hc
       exact hc.1.1
     cases hx:x == n with
     | true=>simp [List.lookup_cons,hx,hf]
     | false =>
       simp only [List.lookup_cons,hx]at h ⊢
       exact ih h
   . simp only [hc,if_false,Bool.false_eq_true]at h
     cases hx:x == n with
     | true =>
       simp only [List.lookup_cons,hx]at h ⊢
       rcases h with h | h
       . cases h;exact absurd rfl hk
       . exact h
     | false =>
       simp only [List.lookup_cons,hx]at h ⊢
       exact ih h
noncomputable def zbE (X:Cx) (scope:Scope) (N:List Str) (cl:List (Str×Addr)) (s₀:Shared) (H₀:Hp) (fp:List Addr):Cx :=
 { X with N:=N,s₀:=s₀,H₀:=H₀,env:=compEnvC scope cl s₀.heap.objs.size X.env,outer:=X.stack,ex:=fp,fn:=fun x=>scope.names.lookup x == some .local,pn:=[],xe:=fun _ _=>False }
noncomputable def zdO (js:List (Option Nat)) (σ:St):St:=js.map fun j=>j.bind fun k=>(σ[k]?).join
structure zcF (X:Cx) (scope:Scope) (N:List Str) (js:List (Option Nat)):Prop where
 kind:scope.kind = .function
 cell:∀ y∈scope.names,y.2 ≠ .cell
 names:∀ y∈scope.names,scope.names.lookup y.1=some y.2
 free:∀ y∈scope.names,y.2 = .free->X.env.kindOf y.1=some .cell∨X.env.kindOf y.1=some .free
 len:js.length=N.length
 slot:∀ (i k:Nat),js[i]?=some (some k)->∃ x,N[i]?=some x∧X.N[k]?=some x∧scope.names.lookup x=some .free
section
variable {X:Cx}{pins:List (Addr×Obj)}{σ:St}{H:Hp}{s:Shared}{scope:Scope}{N:List Str}{js:List (Option Nat)}{cl:List (Str×Addr)}{fp:List Addr}
theorem zmT (S:zcF X scope N js) (I:Inv X pins σ H s) (hf:∀ b∈fp,zcq X pins H b) (hlt:∀ b∈fp,b < s.heap.objs.size)
   (h1:∀ x c,cl.lookup x=some c->(x,NameKind.free)∈scope.names∧X.env.cells.lookup x=some c)
   (h2:∀ x c,(x,NameKind.free)∈scope.names->X.env.cells.lookup x=some c->cl.lookup x=some c):(zbE X scope N cl s H fp).Ok where
 mod:=I.ok.mod
 kind:=S.kind
 glob:=I.ok.glob
 blt:=I.ok.blt
 above:=Nat.le_refl _
 inj:=fun x y c hx hy=>I.ok.inj x y c (h1 x c hx).2 (h1 y c hy).2
 has:=fun x hx=>by
   have e:scope.names.lookup x=some .free:=zih S.cell hx
   have hm:=mem_of_lookup e
   obtain ⟨c,hc⟩:=I.ok.has x (S.free (x,.free) hm rfl)
   exact ⟨c,h2 x c hm hc⟩
 cab:=fun x c hx hc=>by
   have hm:=(h1 x c hc).1
   have e:=S.names (x,.free) hm
   have hx':(scope.names.lookup x == some NameKind.local)=true:=hx
   rw [e]at hx'
   have hx2:(some NameKind.free == some NameKind.local)=true:=hx'
   exact absurd hx2 ϑ
 hd:=I.ok.hd
 frames:=I.ok.frames
 stk := .inl rfl
 exf:=fun b hb=>⟨Nat.ne_of_lt (hlt b hb),fun x c hc=>(hf b hb).2.2.2.2.1 x c (h1 x c hc).2⟩
 bs:=I.bs
 bsz:=Nat.le_trans I.ok.bsz I.sz
 noex:=fun b o e hb=>by
   rcases (hf b hb).2.2.2.1 with z | z
   . exact I.ok.noex b o e z
   . exact absurd (Nat.lt_of_lt_of_le (Heap.lt_size e) (Nat.le_trans I.ok.bsz z)) (Nat.lt_irrefl _)
 exfs:=fun b hb z=>by
   rcases List.mem_cons.mp (I.stkSub b z) with e | e
   . exact (hf b hb).2.1 e
   . exact (hf b hb).2.2.1 e
 funs:=I.stack
 frf:=I.stkFree
theorem zoe {h':Heap}{t':Nat}{m':Str->Option Value} (S:zcF X scope N js) (I:Inv X pins σ H s) (hf:∀ b∈fp,zcq X pins H b) (hlt:∀ b∈fp,b < s.heap.objs.size)
   (h1:∀ x c,cl.lookup x=some c->(x,NameKind.free)∈scope.names∧X.env.cells.lookup x=some c)
   (h2:∀ x c,(x,NameKind.free)∈scope.names->X.env.cells.lookup x=some c->cl.lookup x=some c)
   (hn:h'.Ns s.heap.objs.size m') (hk:∀ b o,s.heap.get? b=some o->h'.get? b=some o) :
   Inv (zbE X scope N cl s H fp) [] (zdO js σ) H { s with heap:=h',toks:=t' }:=by
 refine ⟨zmT S I hf hlt h1 h2,rfl,I.bare,Un.kept hk,⟨m',hn,fun i x v e1 e2 e3=>?_⟩,fun x c e=>?_,I.hok.fresh (Nat.le_refl _),fun x c e=>I.freeC x c (h1 x c e).2,fun p hp=>(List.not_mem_nil (show p∈([]:List (Addr×Obj)) from hp)).elim,I.hok.kept hk,?_⟩
 . have e2':(js.map fun j=>j.bind fun k=>(σ[k]?).join)[i]?=some (some v):=e2
   rw [List.getElem?_map]at e2'
   cases ej:js[i]? with
   | none=>rw [ej]at e2';cases e2'
   | some j =>
     rw [ej]at e2'
     cases j with
     | none=>cases e2'
     | some k =>
       have e4:(σ[k]?).join=some v:=Option.some.inj e2'
       have e5:σ[k]?=some (some v):=by
         cases eσ:σ[k]? with
         | none=>rw [eσ]at e4;cases e4
         | some o=>rw [eσ]at e4;exact congrArg some e4
       obtain ⟨x',hx1,hx2,hx3⟩:=S.slot i k ej
       have e1':N[i]?=some x:=e1
       rw [hx1]at e1';cases e1'
       have hm:=mem_of_lookup hx3
       have hfr:=S.free (x,.free) hm rfl
       obtain ⟨m,hns,hl⟩:=I.loc
       obtain ⟨u,r,l⟩:=hl k x v hx2 e5 (hfr.elim (fun z=> .inr (.inl z)) fun z=> .inr (.inr z))
       refine ⟨u,r,.inr ⟨zh1 hx3,?_⟩⟩
       rcases l with ⟨z,_⟩ | ⟨_,c,hc,o,ho,hd⟩
       . rcases hfr with y | y
         . have y':X.env.kindOf x=some .cell:=y
           rw [z]at y';cases y'
         . have y':X.env.kindOf x=some .free:=y
           rw [z]at y';cases y'
       . exact ⟨c,h2 x c hm hc,o,hk c o ho,hd⟩
 . obtain ⟨v,o,ho,hd⟩:=I.cell x c (h1 x c e).2
   exact ⟨v,o,hk c o ho,hd⟩
 . show (js.map _).length=N.length
   rw [List.length_map,S.len]
theorem zjF {H':Hp}{s':Shared}{σ':St} (I:Inv X pins σ H s) (hf:∀ b∈fp,zcq X pins H b) (J:Inv (zbE X scope N cl s H fp) [] σ' H' s'):Inv X pins σ H' s' :=
 I.call' (ch:=fp) J.os J.base J.hok J.bare fun b hb=>by
   obtain ⟨f0,f1,f2,f3,f4,f5⟩:=hf b hb
   exact ⟨f3,f1,f4,f5⟩
theorem zjb {C:Addr}{H':Hp}{s':Shared}{σ':St}{h'':Heap} (I:Inv X pins σ H s) (hC:C=s.heap.objs.size) (hn:H' C=none) (J:Inv X pins σ' H' s') (hs:Heap.SameBut C s'.heap h''):Inv X pins σ' H' { s' with heap:=h'' }:=by
 have J1:=J.turned (h':=h'') (t':=s'.toks) (it:=C) (fun b o hb e=>(hs.2 b hb).trans e) hn (by rw [hC];exact Nat.ne_of_gt I.lt) (.inr (by rw [hC];exact I.sz))
   (fun x c e z=>by
     obtain ⟨v,o,ho,_⟩:=I.cell x c e
     have:=Heap.lt_size ho
     rw [z,hC]at this
     exact absurd this (Nat.lt_irrefl _))
   (fun p hp z=>by
     have:=Heap.lt_size (I.pin p hp).1
     rw [z,hC]at this
     exact absurd this (Nat.lt_irrefl _))
 exact J1
end
noncomputable def zfe (Y:Cx) (ifs:List Expr) (t:TT):Prop :=
 ∀ (pins:List (Addr×Obj)) (s:Shared) (σ:St) (H:Hp) (Q:Bool->Hp->Prop) ,Inv Y pins σ H s->t σ H Q ->
   wpAny (model Y.prog Y.w) Y.A (forIn ifs true fun c r=>if r=true then do let ok <- isTrue c Y.env (eval c Y.env);pure (ForInStep.yield ok) else pure (ForInStep.yield r)) (TP Y pins σ Q) Y.xe s
noncomputable def zpg:TT:=fun _ H Q=>Q true H
theorem zp1 {Y:Cx}:zfe Y [] zpg:=fun pins s σ H Q I h=>wpAny_tests_nil ⟨H,I,h⟩
noncomputable def zhe (J:It) (g:TG) (tc:TT) (te:TE) (D:Addr) (σ:St) (H1:Hp) (js:List (Option Nat)) (Q:VK):Prop :=
 ∃ W:Nat->Nat->St->Hp->Prop,(∃ m,W 0 m (zdO js σ) (upd H1 D (.lst [])))∧∀ i m σ' H',W i m σ' H' ->
   (J.stop i H'∧Q (.ref D) H')∨(J.go i H'∧∀ x H2,J.yld i H' x H2->g x σ' H2 fun σ2 H3=>tc σ2 H3 fun b H4 =>
     if b=true then te σ2 H4 fun y H5=>∃ xs,H5 D=some (.lst xs)∧xs.length < sizeLine∧∃ m',m' < m∧W (i+1) m' σ2 (upd H5 D (.lst (xs++[y])))
     else ∃ m',m' < m∧W (i+1) m' σ2 H4)
noncomputable def zju (js:List (Option Nat)) (wi:TI) (g:TG) (tc:TT) (te:TE):TE:=fun σ H Q=>wi σ H fun J H1=>∀ D,H1 D=none->zhe J g tc te D σ H1 js Q
section
variable {X:Cx}{scope:Scope}{N:List Str}{js:List (Option Nat)}{tg iter elt:Expr}{ifs:List Expr}{wi:TI}{g:TG}{tc:TT}{te:TE}{pos:Pos}
end
end L2
end
section
namespace L2
open PySem PySem.Spec PyProof.Rows
section
variable {X:Cx}{scope:Scope}{N:List Str}{js:List (Option Nat)}{tg iter elt:Expr}{ifs:List Expr}{wi:TI}{g:TG}{tc:TT}{te:TE}{pos:Pos}
theorem zcF.clos (S:zcF X scope N js) {pins:List (Addr×Obj)}{σ:St}{H:Hp}{s:Shared} (I:Inv X pins σ H s) :
   ∃ cl:List (Str×Addr),closureFor scope X.env=pure cl∧(∀ x c,cl.lookup x=some c->(x,NameKind.free)∈scope.names∧X.env.cells.lookup x=some c) ∧
     (∀ x c,(x,NameKind.free)∈scope.names->X.env.cells.lookup x=some c->cl.lookup x=some c) :=
 zl3 fun x hx hf=>I.ok.has x.1 (S.free x hx hf)
end
end L2
end
section
namespace L2
open PySem PySem.Spec PyProof.Rows
inductive D where
 | non | bl (b:Bool) | int (i:Int) | str (x:Str) | lst (ds:List D) | tup (ds:List D)
mutual
noncomputable def Dat (H:Hp):D->V->Prop
 | .non,v=>v = .non
 | .bl b,v=>v = .bl b
 | .int i,v=>v = .int i
 | .str x,v=>v = .str x
 | .lst ds,v=>∃ a xs,v = .ref a∧Rd H a (.lst xs)∧zbe H ds xs
 | .tup ds,v=>∃ a xs,v = .ref a∧H a=some (.tup xs)∧zbe H ds xs
noncomputable def zbe (H:Hp):List D->List V->Prop
 | [],xs=>xs=[]
 | d :: ds,xs=>∃ x r,xs=x :: r∧Dat H d x∧zbe H ds r
end
mutual
noncomputable def dpt:D->Nat
 | .lst ds=>zbC ds+1
 | .tup ds=>zbC ds+1
 | _=>0
noncomputable def zbC:List D->Nat
 | []=>0
 | d :: r=>max (dpt d) (zbC r)
end
mutual
noncomputable def eqD:D->D->Bool
 | .lst a,.lst b=>zbu a b
 | .tup a,.tup b=>zbu a b
 | .non,.non=>true
 | .bl a,.bl b=>a == b
 | .bl a,.int b=>(if a then 1 else 0) == b
 | .int a,.bl b=>a == (if b then 1 else 0)
 | .int a,.int b=>a == b
 | .str a,.str b=>a == b
 | _,_=>false
noncomputable def zbu:List D->List D->Bool
 | [],[]=>true
 | a :: r,b :: q=>eqD a b && zbu r q
 | _,_=>false
end
theorem zbe.length {H:Hp}:∀ {ds:List D}{xs:List V},zbe H ds xs->ds.length=xs.length
 | [],xs,h=>by unfold zbe at h;subst h;rfl
 | d :: ds,xs,h=>by
   unfold zbe at h
   obtain ⟨x,r,h1,h2,h3⟩:=h
   subst h1
   simp [zbe.length h3]
theorem zbe.get {H:Hp}:∀ {ds:List D}{xs:List V}{i:Nat}{x:V},zbe H ds xs->xs[i]?=some x->∃ d,ds[i]?=some d∧Dat H d x
 | [],xs,i,x,h,e=>by unfold zbe at h;subst h;simp at e
 | d :: ds,xs,i,x,h,e=>by
   unfold zbe at h
   obtain ⟨y,r,h1,h2,h3⟩:=h
   subst h1
   cases i with
   | zero=>simp at e;subst e;exact ⟨d,rfl,h2⟩
   | succ i =>
     obtain ⟨d',e1,e2⟩:=zbe.get (i:=i) h3 (by simpa using e)
     exact ⟨d',by simpa using e1,e2⟩
theorem ziD:∀ {ds:List D}{i:Nat}{d:D},ds[i]?=some d->dpt d<=zbC ds
 | [],_,_,e=>by simp at e
 | d' :: ds,0,d,e=>by simp at e;subst e;unfold zbC;omega
 | d' :: ds,i+1,d,e=>by
   have:=ziD (ds:=ds) (i:=i) (d:=d) (by simpa using e)
   unfold zbC;omega
theorem zdM:∀ (a b:List D),a.length=b.length->((List.range a.length).all fun j=>eqD (a.getD j .non) (b.getD j .non))=zbu a b
 | [],[],_=>by simp [zbu]
 | x :: a,y :: b,h=>by
   have ih:=zdM a b (by simpa using h)
   rw [List.length_cons,List.range_succ_eq_map,List.all_cons,List.all_map]
   show (eqD x y && (List.range a.length).all fun j=>eqD (a.getD j .non) (b.getD j .non))=zbu (x :: a) (y :: b)
   rw [ih,zbu]
theorem zdL:∀ (a b:List D),a.length≠b.length->zbu a b=false
 | [],[],h=>absurd rfl h
 | [],_ :: _,_=>by unfold zbu;rfl
 | _ :: _,[],_=>by unfold zbu;rfl
 | x :: a,y :: b,h=>by
   rw [zbu,zdL a b (by simpa using h),Bool.and_false]
end L2
end
section
namespace L2
open PySem PySem.Spec PyProof.Rows
section
variable {X:Cx}{pins:List (Addr×Obj)}{σ:St}{H:Hp}{s:Shared}
theorem Inv.noboth (I:Inv X pins σ H s) {a:Addr}{xs ys:List V} (h:Rd H a (.lst xs)) (h':H a=some (.tup ys)):False:=by
 rcases h with h | ⟨o,h⟩
 . rw [h]at h';cases h'
 . rw [h]at h';cases h'
mutual
theorem zgB (I:Inv X pins σ H s):∀ (d d':D) (v:V),Dat H d v->Dat H d' v->eqD d d'=true
 | .non,d',v,h,h'=>by
   unfold Dat at h;subst h
   cases d' <;> simp [Dat]at h' <;> simp [eqD]
 | .bl b,d',v,h,h'=>by
   unfold Dat at h;subst h
   cases d' <;> simp [Dat]at h' <;> simp [eqD,h']
 | .int b,d',v,h,h'=>by
   unfold Dat at h;subst h
   cases d' <;> simp [Dat]at h' <;> simp [eqD,h']
 | .str b,d',v,h,h'=>by
   unfold Dat at h;subst h
   cases d' <;> simp [Dat]at h' <;> simp [eqD,h']
 | .lst ds,d',v,h,h'=>by
   unfold Dat at h
   obtain ⟨a,xs,rfl,h1,h2⟩:=h
   cases d' with
   | lst ds' =>
     unfold Dat at h'
     obtain ⟨b,ys,e,h3,h4⟩:=h'
     cases e
     have e:=I.list_inj (.inl h1) (.inl h3)
     subst e
     unfold eqD
     exact zhg I ds ds' xs h2 h4
   | tup ds' =>
     unfold Dat at h'
     obtain ⟨b,ys,e,h3,h4⟩:=h'
     cases e
     exact (I.noboth h1 h3).elim
   | _=>simp [Dat]at h'
 | .tup ds,d',v,h,h'=>by
   unfold Dat at h
   obtain ⟨a,xs,rfl,h1,h2⟩:=h
   cases d' with
   | tup ds' =>
     unfold Dat at h'
     obtain ⟨b,ys,e,h3,h4⟩:=h'
     cases e
     have e:=I.tuple_inj (SqT.of h1) (SqT.of h3)
     subst e
     unfold eqD
     exact zhg I ds ds' xs h2 h4
   | lst ds' =>
     unfold Dat at h'
     obtain ⟨b,ys,e,h3,h4⟩:=h'
     cases e
     exact (I.noboth h3 h1).elim
   | _=>simp [Dat]at h'
theorem zhg (I:Inv X pins σ H s):∀ (ds ds':List D) (vs:List V),zbe H ds vs->zbe H ds' vs->zbu ds ds'=true
 | [],ds',vs,h,h'=>by
   unfold zbe at h;subst h
   cases ds' with
   | nil=>simp [zbu]
   | cons d r=>simp [zbe]at h'
 | d :: ds,ds',vs,h,h'=>by
   unfold zbe at h
   obtain ⟨x,r,rfl,h1,h2⟩:=h
   cases ds' with
   | nil=>simp [zbe]at h'
   | cons d' r' =>
     unfold zbe at h'
     obtain ⟨y,q,e,h3,h4⟩:=h'
     cases e
     unfold zbu
     rw [zgB I d d' x h1 h3,zhg I ds r' r h2 h4]
     rfl
end
theorem Dat.flat {d:D}{v:V} (h:Dat H d v):(zbs v=true∧∀ d' v',Dat H d' v'->zbs v'=true->eqD d d'=eqV v v')∨(∃ ds a xs,d = .lst ds∧v = .ref a∧Rd H a (.lst xs)∧zbe H ds xs)∨(∃ ds a xs,d = .tup ds∧v = .ref a∧H a=some (.tup xs)∧zbe H ds xs):=by
 cases d with
 | lst ds=>unfold Dat at h;obtain ⟨a,xs,e,h1,h2⟩:=h;exact .inr (.inl ⟨ds,a,xs,rfl,e,h1,h2⟩)
 | tup ds=>unfold Dat at h;obtain ⟨a,xs,e,h1,h2⟩:=h;exact .inr (.inr ⟨ds,a,xs,rfl,e,h1,h2⟩)
 | _ =>
   unfold Dat at h;subst h
   refine .inl ⟨rfl,fun d' v' h' f=>?_⟩
   cases d' with
   | lst ds=>unfold Dat at h';obtain ⟨a,xs,rfl,_⟩:=h';cases f
   | tup ds=>unfold Dat at h';obtain ⟨a,xs,rfl,_⟩:=h';cases f
   | _=>unfold Dat at h';subst h';simp [eqD,eqV]
theorem zeH {A:Around}{ds ds':List D}{xs ys:List V}{us ws:List Value}
   (ih:∀ (d d':D) (x y:V) (u v:Value),dpt d<=zbC ds->Dat H d x->Dat H d' y->zq x u->zq y v->SeqAt.EqAt A s u v (eqD d d'))
   (h:zbe H ds xs) (h':zbe H ds' ys) (r:zE xs us) (r':zE ys ws) (j:Nat) (h1:j < us.toArray.size) (h2:j < ws.toArray.size) :
   SeqAt.EqAt A s us.toArray[j] ws.toArray[j] (eqD (ds.getD j .non) (ds'.getD j .non)):=by
 have l1:=r.length
 have l2:=r'.length
 have k1:=h.length
 have k2:=h'.length
 have h1':j < us.length:=by simpa using h1
 have h2':j < ws.length:=by simpa using h2
 have e1:xs[j]?=some xs[j]:=List.getElem?_eq_getElem ω
 have e2:ys[j]?=some ys[j]:=List.getElem?_eq_getElem ω
 obtain ⟨d,ed,hd⟩:=h.get e1
 obtain ⟨d',ed',hd'⟩:=h'.get e2
 obtain ⟨u,eu,ru⟩:=r.get e1
 obtain ⟨w,ew,rw'⟩:=r'.get e2
 have g1:ds.getD j .non=d:=by rw [List.getD_eq_getElem?_getD,ed];rfl
 have g2:ds'.getD j .non=d':=by rw [List.getD_eq_getElem?_getD,ed'];rfl
 have g3:us.toArray[j]=u:=by
   have:us[j]?=some us[j]:=List.getElem?_eq_getElem h1'
   rw [eu]at this;simpa using (Option.some.inj this).symm
 have g4:ws.toArray[j]=w:=by
   have:ws[j]?=some ws[j]:=List.getElem?_eq_getElem h2'
   rw [ew]at this;simpa using (Option.some.inj this).symm
 rw [g1,g2,g3,g4]
 exact ih d d' _ _ u w (ziD ed) hd hd' ru rw'
theorem zlI {A:Around}{y x:V}{u v:Value} (ry:zq y u) (rx:zq x v) (fy:zbs y=true) (fx:zbs x=true):SeqAt.RcAt A s u v (eqV y x):=by
 cases y with
 | non =>
   cases ry
   cases x with
   | non =>
     cases rx
     exact SeqAt.RcAt.none_none
   | bl b =>
     cases rx
     exact SeqAt.RcAt.none_bool _
   | int b =>
     obtain ⟨_,rfl⟩:=rx
     exact SeqAt.RcAt.none_int _ _
   | str b =>
     obtain ⟨_,rfl⟩:=rx
     exact SeqAt.RcAt.none_str _ _
   | _=>exact absurd (show false=true from fx) Bool.false_ne_true
 | bl a =>
   cases ry
   cases x with
   | non =>
     cases rx
     exact SeqAt.RcAt.bool_none _
   | bl b =>
     cases rx
     exact SeqAt.RcAt.bool_bool _ _
   | int b =>
     obtain ⟨_,rfl⟩:=rx
     exact SeqAt.RcAt.bool_int _ _ _
   | str b =>
     obtain ⟨_,rfl⟩:=rx
     exact SeqAt.RcAt.bool_str _ _ _
   | _=>exact absurd (show false=true from fx) Bool.false_ne_true
 | int a =>
   obtain ⟨_,rfl⟩:=ry
   cases x with
   | non =>
     cases rx
     exact SeqAt.RcAt.int_none _ _
   | bl b =>
     cases rx
     exact SeqAt.RcAt.int_bool _ _ _
   | int b =>
     obtain ⟨_,rfl⟩:=rx
     exact SeqAt.RcAt.int_int _ _ _ _
   | str b =>
     obtain ⟨_,rfl⟩:=rx
     exact SeqAt.RcAt.int_str _ _ _ _
   | _=>exact absurd (show false=true from fx) Bool.false_ne_true
 | str a =>
   obtain ⟨_,rfl⟩:=ry
   cases x with
   | non =>
     cases rx
     exact SeqAt.RcAt.str_none _ _
   | bl b =>
     cases rx
     exact SeqAt.RcAt.str_bool _ _ _
   | int b =>
     obtain ⟨_,rfl⟩:=rx
     exact SeqAt.RcAt.str_int _ _ _ _
   | str b =>
     obtain ⟨_,rfl⟩:=rx
     exact SeqAt.RcAt.str_str _ _ _ _
   | _=>exact absurd (show false=true from fx) Bool.false_ne_true
 | _=>exact absurd (show false=true from fy) Bool.false_ne_true
theorem zoc {A:Around}{y x:V}{u v:Value} (ry:zq y u) (rx:zq x v) (fy:zbs y=true) (fx:zbs x=true):SeqAt.RcNeAt A s u v (!eqV y x):=by
 cases y with
 | non =>
   cases ry
   cases x with
   | non =>
     cases rx
     exact SeqAt.RcNeAt.none_none
   | bl b =>
     cases rx
     exact SeqAt.RcNeAt.none_bool _
   | int b =>
     obtain ⟨_,rfl⟩:=rx
     exact SeqAt.RcNeAt.none_int _ _
   | str b =>
     obtain ⟨_,rfl⟩:=rx
     exact SeqAt.RcNeAt.none_str _ _
   | _=>exact absurd (show false=true from fx) Bool.false_ne_true
 | bl a =>
   cases ry
   cases x with
   | non =>
     cases rx
     exact SeqAt.RcNeAt.bool_none _
   | bl b =>
     cases rx
     exact SeqAt.RcNeAt.bool_bool _ _
   | int b =>
     obtain ⟨_,rfl⟩:=rx
     exact SeqAt.RcNeAt.bool_int _ _ _
   | str b =>
     obtain ⟨_,rfl⟩:=rx
     exact SeqAt.RcNeAt.bool_str _ _ _
   | _=>exact absurd (show false=true from fx) Bool.false_ne_true
 | int a =>
   obtain ⟨_,rfl⟩:=ry
   cases x with
   | non =>
     cases rx
     exact SeqAt.RcNeAt.int_none _ _
   | bl b =>
     cases rx
     exact SeqAt.RcNeAt.int_bool _ _ _
   | int b =>
     obtain ⟨_,rfl⟩:=rx
     exact SeqAt.RcNeAt.int_int _ _ _ _
   | str b =>
     obtain ⟨_,rfl⟩:=rx
     exact SeqAt.RcNeAt.int_str _ _ _ _
   | _=>exact absurd (show false=true from fx) Bool.false_ne_true
 | str a =>
   obtain ⟨_,rfl⟩:=ry
   cases x with
   | non =>
     cases rx
     exact SeqAt.RcNeAt.str_none _ _
   | bl b =>
     cases rx
     exact SeqAt.RcNeAt.str_bool _ _ _
   | int b =>
     obtain ⟨_,rfl⟩:=rx
     exact SeqAt.RcNeAt.str_int _ _ _ _
   | str b =>
     obtain ⟨_,rfl⟩:=rx
     exact SeqAt.RcNeAt.str_str _ _ _ _
   | _=>exact absurd (show false=true from fx) Bool.false_ne_true
 | _=>exact absurd (show false=true from fy) Bool.false_ne_true
theorem zg3 {A:Around}{y:V}{u:Value}{a:Addr}{its:Array Value} (hu:A.units < cLine) (ry:zq y u) (fy:zbs y=true) (p:s.heap.IsList a its):SeqAt.EqAt A s u (.ref a) false∧SeqAt.EqAt A s (.ref a) u false:=by
 cases y with
 | non =>
   cases ry
   exact ⟨SeqAt.EqAt.none_list p hu,SeqAt.EqAt.list_none p hu⟩
 | bl a =>
   cases ry
   exact ⟨SeqAt.EqAt.bool_list _ p hu,SeqAt.EqAt.list_bool _ p hu⟩
 | int a =>
   obtain ⟨_,rfl⟩:=ry
   exact ⟨SeqAt.EqAt.int_list _ _ p hu,SeqAt.EqAt.list_int _ _ p hu⟩
 | str a =>
   obtain ⟨_,rfl⟩:=ry
   exact ⟨SeqAt.EqAt.str_list _ _ p hu,SeqAt.EqAt.list_str _ _ p hu⟩
 | _=>exact absurd (show false=true from fy) Bool.false_ne_true
theorem zgY {A:Around}{y:V}{u:Value}{a:Addr}{its:Array Value} (hu:A.units < cLine) (ry:zq y u) (fy:zbs y=true) (p:s.heap.IsTuple a its):SeqAt.EqAt A s u (.ref a) false∧SeqAt.EqAt A s (.ref a) u false:=by
 cases y with
 | non =>
   cases ry
   exact ⟨SeqAt.EqAt.none_tuple p hu,SeqAt.EqAt.tuple_none p hu⟩
 | bl a =>
   cases ry
   exact ⟨SeqAt.EqAt.bool_tuple _ p hu,SeqAt.EqAt.tuple_bool _ p hu⟩
 | int a =>
   obtain ⟨_,rfl⟩:=ry
   exact ⟨SeqAt.EqAt.int_tuple _ _ p hu,SeqAt.EqAt.tuple_int _ _ p hu⟩
 | str a =>
   obtain ⟨_,rfl⟩:=ry
   exact ⟨SeqAt.EqAt.str_tuple _ _ p hu,SeqAt.EqAt.tuple_str _ _ p hu⟩
 | _=>exact absurd (show false=true from fy) Bool.false_ne_true
theorem zjC {A:Around}{y:V}{u:Value}{a:Addr}{its:Array Value} (hu:A.units < cLine) (ry:zq y u) (fy:zbs y=true) (p:s.heap.IsList a its):SeqAt.RcAt A s u (.ref a) false∧SeqAt.RcAt A s (.ref a) u false:=by
 cases y with
 | non =>
   cases ry
   exact ⟨SeqAt.RcAt.none_list p hu,SeqAt.RcAt.list_none p hu⟩
 | bl a =>
   cases ry
   exact ⟨SeqAt.RcAt.bool_list _ p hu,SeqAt.RcAt.list_bool _ p hu⟩
 | int a =>
   obtain ⟨_,rfl⟩:=ry
   exact ⟨SeqAt.RcAt.int_list _ _ p hu,SeqAt.RcAt.list_int _ _ p hu⟩
 | str a =>
   obtain ⟨_,rfl⟩:=ry
   exact ⟨SeqAt.RcAt.str_list _ _ p hu,SeqAt.RcAt.list_str _ _ p hu⟩
 | _=>exact absurd (show false=true from fy) Bool.false_ne_true
theorem ziY {A:Around}{y:V}{u:Value}{a:Addr}{its:Array Value} (hu:A.units < cLine) (ry:zq y u) (fy:zbs y=true) (p:s.heap.IsTuple a its):SeqAt.RcAt A s u (.ref a) false∧SeqAt.RcAt A s (.ref a) u false:=by
 cases y with
 | non =>
   cases ry
   exact ⟨SeqAt.RcAt.none_tuple p hu,SeqAt.RcAt.tuple_none p hu⟩
 | bl a =>
   cases ry
   exact ⟨SeqAt.RcAt.bool_tuple _ p hu,SeqAt.RcAt.tuple_bool _ p hu⟩
 | int a =>
   obtain ⟨_,rfl⟩:=ry
   exact ⟨SeqAt.RcAt.int_tuple _ _ p hu,SeqAt.RcAt.tuple_int _ _ p hu⟩
 | str a =>
   obtain ⟨_,rfl⟩:=ry
   exact ⟨SeqAt.RcAt.str_tuple _ _ p hu,SeqAt.RcAt.tuple_str _ _ p hu⟩
 | _=>exact absurd (show false=true from fy) Bool.false_ne_true
theorem ziy {A:Around}{y:V}{u:Value}{a:Addr}{its:Array Value} (hu:A.units < cLine) (ry:zq y u) (fy:zbs y=true) (p:s.heap.IsList a its):SeqAt.RcNeAt A s u (.ref a) true∧SeqAt.RcNeAt A s (.ref a) u true:=by
 cases y with
 | non =>
   cases ry
   exact ⟨SeqAt.RcNeAt.none_list p hu,SeqAt.RcNeAt.list_none p hu⟩
 | bl a =>
   cases ry
   exact ⟨SeqAt.RcNeAt.bool_list _ p hu,SeqAt.RcNeAt.list_bool _ p hu⟩
 | int a =>
   obtain ⟨_,rfl⟩:=ry
   exact ⟨SeqAt.RcNeAt.int_list _ _ p hu,SeqAt.RcNeAt.list_int _ _ p hu⟩
 | str a =>
   obtain ⟨_,rfl⟩:=ry
   exact ⟨SeqAt.RcNeAt.str_list _ _ p hu,SeqAt.RcNeAt.list_str _ _ p hu⟩
 | _=>exact absurd (show false=true from fy) Bool.false_ne_true
theorem zjm {A:Around}{y:V}{u:Value}{a:Addr}{its:Array Value} (hu:A.units < cLine) (ry:zq y u) (fy:zbs y=true) (p:s.heap.IsTuple a its):SeqAt.RcNeAt A s u (.ref a) true∧SeqAt.RcNeAt A s (.ref a) u true:=by
 cases y with
 | non =>
   cases ry
   exact ⟨SeqAt.RcNeAt.none_tuple p hu,SeqAt.RcNeAt.tuple_none p hu⟩
 | bl a =>
   cases ry
   exact ⟨SeqAt.RcNeAt.bool_tuple _ p hu,SeqAt.RcNeAt.tuple_bool _ p hu⟩
 | int a =>
   obtain ⟨_,rfl⟩:=ry
   exact ⟨SeqAt.RcNeAt.int_tuple _ _ p hu,SeqAt.RcNeAt.tuple_int _ _ p hu⟩
 | str a =>
   obtain ⟨_,rfl⟩:=ry
   exact ⟨SeqAt.RcNeAt.str_tuple _ _ p hu,SeqAt.RcNeAt.tuple_str _ _ p hu⟩
 | _=>exact absurd (show false=true from fy) Bool.false_ne_true
theorem zcb {d:D}{v:V} (h:Dat H d v) (f:zbs v=true) (ds:List D):eqD d (.lst ds)=false∧eqD d (.tup ds)=false∧eqD (.lst ds) d=false∧eqD (.tup ds) d=false:=by
 cases d with
 | lst e=>unfold Dat at h;obtain ⟨_,_,rfl,_⟩:=h;cases f
 | tup e=>unfold Dat at h;obtain ⟨_,_,rfl,_⟩:=h;cases f
 | _=>simp [eqD]
theorem zfB (I:Inv X pins σ H s):∀ (n:Nat) (A:Around) (d d':D) (x y:V) (u v:Value),A.units+n < cLine->dpt d<=n->Dat H d x->Dat H d' y->zq x u->zq y v->SeqAt.EqAt A s u v (eqD d d'):=by
 intro n
 induction n with
 | zero =>
   intro A d d' x y u v hu hn h h' r r'
   rcases h.flat with ⟨f,q⟩ | ⟨ds,a,xs,rfl,rfl,h1,h2⟩ | ⟨ds,a,xs,rfl,rfl,h1,h2⟩
   . rcases h'.flat with ⟨f',q'⟩ | ⟨ds,a,xs,rfl,rfl,h1,h2⟩ | ⟨ds,a,xs,rfl,rfl,h1,h2⟩
     . rw [q d' y h' f'];exact zgC r r' f f'
     . cases r'
       obtain ⟨its,_,p,_⟩:=I.list (.inl h1)
       rw [(zcb h f ds).1];exact (zg3 ω r f p.isList).1
     . cases r'
       obtain ⟨its,_,p,_⟩:=I.tuple (SqT.of h1)
       rw [(zcb h f ds).2.1];exact (zgY ω r f (show s.heap.IsTuple a its.toArray from p)).1
   . unfold dpt at hn;omega
   . unfold dpt at hn;omega
 | succ n ih =>
   intro A d d' x y u v hu hn h h' r r'
   rcases h.flat with ⟨f,q⟩ | ⟨ds,a,xs,rfl,rfl,h1,h2⟩ | ⟨ds,a,xs,rfl,rfl,h1,h2⟩
   . rcases h'.flat with ⟨f',q'⟩ | ⟨ds,a,xs,rfl,rfl,h1,h2⟩ | ⟨ds,a,xs,rfl,rfl,h1,h2⟩
     . rw [q d' y h' f'];exact zgC r r' f f'
     . cases r'
       obtain ⟨its,_,p,_⟩:=I.list (.inl h1)
       rw [(zcb h f ds).1];exact (zg3 ω r f p.isList).1
     . cases r'
       obtain ⟨its,_,p,_⟩:=I.tuple (SqT.of h1)
       rw [(zcb h f ds).2.1];exact (zgY ω r f (show s.heap.IsTuple a its.toArray from p)).1
   . cases r
     obtain ⟨its,rv,p,_⟩:=I.list (.inl h1)
     rcases h'.flat with ⟨f',q'⟩ | ⟨ds',b,ys,rfl,rfl,h3,h4⟩ | ⟨ds',b,ys,rfl,rfl,h3,h4⟩
     . rw [(zcb h' f' ds).2.2.1];exact (zg3 ω r' f' p.isList).2
     . cases r'
       obtain ⟨its',rv',p',_⟩:=I.list (.inl h3)
       by_cases hab:a=b
       . subst hab
         rw [zgB I _ _ _ h h'];exact SeqAt.EqAt.same _
       . refine SeqAt.EqAt.of_refs hab ?_
         by_cases hl:ds.length=ds'.length
         . have e:=SeqAt.RcAt.lists (A:=A) p.isList p'.isList (by simp [<- rv.length,<- rv'.length,<- h2.length,<- h4.length,hl]) ω
             (fun j j1 j2=>zeH (fun d d' x y u v hd a1 a2 a3 a4=>ih A.in1 d d' x y u v (by show A.units+1+n < cLine;omega) (by unfold dpt at hn;omega) a1 a2 a3 a4) h2 h4 rv rv' j j1 j2)
           have e2:its.toArray.size=ds.length:=by simp [<- rv.length,<- h2.length]
           rw [e2,zdM ds ds' hl]at e
           unfold eqD;exact e
         . unfold eqD
           rw [zdL _ _ hl]
           exact SeqAt.RcAt.lists_lengths p.isList p'.isList (by simpa [<- rv.length,<- rv'.length,<- h2.length,<- h4.length] using hl) ω
     . cases r'
       obtain ⟨its',rv',p',_⟩:=I.tuple (SqT.of h3)
       unfold eqD
       exact SeqAt.EqAt.list_tuple p.isList (show s.heap.IsTuple b its'.toArray from p') ω
   . cases r
     obtain ⟨its,rv,p0,_⟩:=I.tuple (SqT.of h1)
     have p:s.heap.IsTuple a its.toArray:=p0
     rcases h'.flat with ⟨f',q'⟩ | ⟨ds',b,ys,rfl,rfl,h3,h4⟩ | ⟨ds',b,ys,rfl,rfl,h3,h4⟩
     . rw [(zcb h' f' ds).2.2.2];exact (zgY ω r' f' p).2
     . cases r'
       obtain ⟨its',rv',p',_⟩:=I.list (.inl h3)
       unfold eqD
       exact SeqAt.EqAt.tuple_list p p'.isList ω
     . cases r'
       obtain ⟨its',rv',p0',_⟩:=I.tuple (SqT.of h3)
       have p':s.heap.IsTuple b its'.toArray:=p0'
       by_cases hab:a=b
       . subst hab
         rw [zgB I _ _ _ h h'];exact SeqAt.EqAt.same _
       . refine SeqAt.EqAt.of_refs hab ?_
         have e:=SeqAt.RcAt.tuples (A:=A) p p' ω
           (fun j j1 j2=>zeH (fun d d' x y u v hd a1 a2 a3 a4=>ih A.in1 d d' x y u v (by show A.units+1+n < cLine;omega) (by unfold dpt at hn;omega) a1 a2 a3 a4) h2 h4 rv rv' j j1 j2)
         have e2:its.toArray.size=ds.length:=by simp [<- rv.length,<- h2.length]
         have e3:its'.toArray.size=ds'.length:=by simp [<- rv'.length,<- h4.length]
         rw [e2,e3]at e
         unfold eqD
         by_cases hl:ds.length=ds'.length
         . rw [show min ds.length ds'.length=ds.length by omega,zdM ds ds' hl,beq_iff_eq.mpr hl,Bool.and_true]at e
           exact e
         . rw [beq_eq_false_iff_ne.mpr hl,Bool.and_false]at e
           rw [zdL _ _ hl];exact e
theorem zpe (I:Inv X pins σ H s) {A:Around}{d d':D}{x y:V}{u v:Value} (hu:A.units+dpt d < cLine) (h:Dat H d x) (h':Dat H d' y) (r:zq x u) (r':zq y v):SeqAt.RcAt A s u v (eqD d d'):=by
 rcases h.flat with ⟨f,q⟩ | ⟨ds,a,xs,rfl,rfl,h1,h2⟩ | ⟨ds,a,xs,rfl,rfl,h1,h2⟩
 . rcases h'.flat with ⟨f',q'⟩ | ⟨ds,a,xs,rfl,rfl,h1,h2⟩ | ⟨ds,a,xs,rfl,rfl,h1,h2⟩
   . rw [q d' y h' f'];exact zlI r r' f f'
   . cases r'
     obtain ⟨its,_,p,_⟩:=I.list (.inl h1)
     rw [(zcb h f ds).1];exact (zjC ω r f p.isList).1
   . cases r'
     obtain ⟨its,_,p,_⟩:=I.tuple (SqT.of h1)
     rw [(zcb h f ds).2.1];exact (ziY ω r f (show s.heap.IsTuple a its.toArray from p)).1
 . cases r
   obtain ⟨its,rv,p,_⟩:=I.list (.inl h1)
   rcases h'.flat with ⟨f',q'⟩ | ⟨ds',b,ys,rfl,rfl,h3,h4⟩ | ⟨ds',b,ys,rfl,rfl,h3,h4⟩
   . rw [(zcb h' f' ds).2.2.1];exact (zjC ω r' f' p.isList).2
   . cases r'
     obtain ⟨its',rv',p',_⟩:=I.list (.inl h3)
     by_cases hl:ds.length=ds'.length
     . have e:=SeqAt.RcAt.lists (A:=A) p.isList p'.isList (by simp [<- rv.length,<- rv'.length,<- h2.length,<- h4.length,hl]) ω
         (fun j j1 j2=>zeH (fun d d' x y u v hd a1 a2 a3 a4=>zfB I (zbC ds) A.in1 d d' x y u v (by unfold dpt at hu;show A.units+1+zbC ds < cLine;omega) hd a1 a2 a3 a4) h2 h4 rv rv' j j1 j2)
       have e2:its.toArray.size=ds.length:=by simp [<- rv.length,<- h2.length]
       rw [e2,zdM ds ds' hl]at e
       unfold eqD;exact e
     . unfold eqD
       rw [zdL _ _ hl]
       exact SeqAt.RcAt.lists_lengths p.isList p'.isList (by simpa [<- rv.length,<- rv'.length,<- h2.length,<- h4.length] using hl) ω
   . cases r'
     obtain ⟨its',rv',p',_⟩:=I.tuple (SqT.of h3)
     unfold eqD
     exact SeqAt.RcAt.list_tuple p.isList (show s.heap.IsTuple b its'.toArray from p') ω
 . cases r
   obtain ⟨its,rv,p0,_⟩:=I.tuple (SqT.of h1)
   have p:s.heap.IsTuple a its.toArray:=p0
   rcases h'.flat with ⟨f',q'⟩ | ⟨ds',b,ys,rfl,rfl,h3,h4⟩ | ⟨ds',b,ys,rfl,rfl,h3,h4⟩
   . rw [(zcb h' f' ds).2.2.2];exact (ziY ω r' f' p).2
   . cases r'
     obtain ⟨its',rv',p',_⟩:=I.list (.inl h3)
     unfold eqD
     exact SeqAt.RcAt.tuple_list p p'.isList ω
   . cases r'
     obtain ⟨its',rv',p0',_⟩:=I.tuple (SqT.of h3)
     have p':s.heap.IsTuple b its'.toArray:=p0'
     have e:=SeqAt.RcAt.tuples (A:=A) p p' ω
       (fun j j1 j2=>zeH (fun d d' x y u v hd a1 a2 a3 a4=>zfB I (zbC ds) A.in1 d d' x y u v (by unfold dpt at hu;show A.units+1+zbC ds < cLine;omega) hd a1 a2 a3 a4) h2 h4 rv rv' j j1 j2)
     have e2:its.toArray.size=ds.length:=by simp [<- rv.length,<- h2.length]
     have e3:its'.toArray.size=ds'.length:=by simp [<- rv'.length,<- h4.length]
     rw [e2,e3]at e
     unfold eqD
     by_cases hl:ds.length=ds'.length
     . rw [show min ds.length ds'.length=ds.length by omega,zdM ds ds' hl,beq_iff_eq.mpr hl,Bool.and_true]at e
       exact e
     . rw [beq_eq_false_iff_ne.mpr hl,Bool.and_false]at e
       rw [zdL _ _ hl];exact e
theorem zoP (I:Inv X pins σ H s) {A:Around}{d d':D}{x y:V}{u v:Value} (hu:A.units+dpt d < cLine) (h:Dat H d x) (h':Dat H d' y) (r:zq x u) (r':zq y v):SeqAt.RcNeAt A s u v (!eqD d d'):=by
 rcases h.flat with ⟨f,q⟩ | ⟨ds,a,xs,rfl,rfl,h1,h2⟩ | ⟨ds,a,xs,rfl,rfl,h1,h2⟩
 . rcases h'.flat with ⟨f',q'⟩ | ⟨ds,a,xs,rfl,rfl,h1,h2⟩ | ⟨ds,a,xs,rfl,rfl,h1,h2⟩
   . rw [q d' y h' f'];exact zoc r r' f f'
   . cases r'
     obtain ⟨its,_,p,_⟩:=I.list (.inl h1)
     rw [(zcb h f ds).1];exact (ziy ω r f p.isList).1
   . cases r'
     obtain ⟨its,_,p,_⟩:=I.tuple (SqT.of h1)
     rw [(zcb h f ds).2.1];exact (zjm ω r f (show s.heap.IsTuple a its.toArray from p)).1
 . cases r
   obtain ⟨its,rv,p,_⟩:=I.list (.inl h1)
   rcases h'.flat with ⟨f',q'⟩ | ⟨ds',b,ys,rfl,rfl,h3,h4⟩ | ⟨ds',b,ys,rfl,rfl,h3,h4⟩
   . rw [(zcb h' f' ds).2.2.1];exact (ziy ω r' f' p.isList).2
   . cases r'
     obtain ⟨its',rv',p',_⟩:=I.list (.inl h3)
     by_cases hl:ds.length=ds'.length
     . have e:=SeqAt.RcNeAt.lists (A:=A) p.isList p'.isList (by simp [<- rv.length,<- rv'.length,<- h2.length,<- h4.length,hl]) ω
         (fun j j1 j2=>zeH (fun d d' x y u v hd a1 a2 a3 a4=>zfB I (zbC ds) A.in1 d d' x y u v (by unfold dpt at hu;show A.units+1+zbC ds < cLine;omega) hd a1 a2 a3 a4) h2 h4 rv rv' j j1 j2)
       have e2:its.toArray.size=ds.length:=by simp [<- rv.length,<- h2.length]
       rw [e2,zdM ds ds' hl]at e
       unfold eqD;exact e
     . unfold eqD
       rw [zdL _ _ hl]
       exact SeqAt.RcNeAt.lists_lengths p.isList p'.isList (by simpa [<- rv.length,<- rv'.length,<- h2.length,<- h4.length] using hl) ω
   . cases r'
     obtain ⟨its',rv',p',_⟩:=I.tuple (SqT.of h3)
     unfold eqD
     exact SeqAt.RcNeAt.list_tuple p.isList (show s.heap.IsTuple b its'.toArray from p') ω
 . cases r
   obtain ⟨its,rv,p0,_⟩:=I.tuple (SqT.of h1)
   have p:s.heap.IsTuple a its.toArray:=p0
   rcases h'.flat with ⟨f',q'⟩ | ⟨ds',b,ys,rfl,rfl,h3,h4⟩ | ⟨ds',b,ys,rfl,rfl,h3,h4⟩
   . rw [(zcb h' f' ds).2.2.2];exact (zjm ω r' f' p).2
   . cases r'
     obtain ⟨its',rv',p',_⟩:=I.list (.inl h3)
     unfold eqD
     exact SeqAt.RcNeAt.tuple_list p p'.isList ω
   . cases r'
     obtain ⟨its',rv',p0',_⟩:=I.tuple (SqT.of h3)
     have p':s.heap.IsTuple b its'.toArray:=p0'
     have e:=SeqAt.RcNeAt.tuples (A:=A) p p' ω
       (fun j j1 j2=>zeH (fun d d' x y u v hd a1 a2 a3 a4=>zfB I (zbC ds) A.in1 d d' x y u v (by unfold dpt at hu;show A.units+1+zbC ds < cLine;omega) hd a1 a2 a3 a4) h2 h4 rv rv' j j1 j2)
     have e2:its.toArray.size=ds.length:=by simp [<- rv.length,<- h2.length]
     have e3:its'.toArray.size=ds'.length:=by simp [<- rv'.length,<- h4.length]
     rw [e2,e3]at e
     unfold eqD
     by_cases hl:ds.length=ds'.length
     . rw [show min ds.length ds'.length=ds.length by omega,zdM ds ds' hl,beq_iff_eq.mpr hl,Bool.and_true]at e
       exact e
     . rw [beq_eq_false_iff_ne.mpr hl,Bool.and_false]at e
       rw [zdL _ _ hl];exact e
end
section
variable {X:Cx}
noncomputable def zfM:R2:=fun x y H Q=>∃ d d',Dat H d x∧Dat H d' y∧dpt d<=100∧Q (.bl (eqD d d')) H
noncomputable def zfy:R2:=fun x y H Q=>∃ d d',Dat H d x∧Dat H d' y∧dpt d<=100∧Q (.bl (!eqD d d')) H
theorem znJ {k:Nat} (hr:zO k X.A):OpR X (compareOp .Eq) zfM:=by
 intro pins s σ H x y v u Q I r r' h
 obtain ⟨d,d',h1,h2,h3,q⟩:=h
 exact zpe I (by have:=hr.un;omega) h1 h2 r r' _ _ _ _ ⟨.bl _,H,I,rfl,q⟩
theorem zmX {k:Nat} (hr:zO k X.A):OpR X (compareOp .NotEq) zfy:=by
 intro pins s σ H x y v u Q I r r' h
 obtain ⟨d,d',h1,h2,h3,q⟩:=h
 exact zoP I (by have:=hr.un;omega) h1 h2 r r' _ _ _ _ ⟨.bl _,H,I,rfl,q⟩
end
end L2
end
section
namespace L2
open PySem PySem.Spec PyProof.Rows
section
variable {X:Cx}
noncomputable def znn (K:PySem.W.Frag):List V->Hp->VK->Prop:=fun xs H Q=>∃ x t b,zb7 K H x t∧((∃ n,xs=[x,.ty n]∧PySem.W.kitOne K t (.type n)=some b)∨(∃ C,xs=[x,.ref C]∧PySem.W.kitOne K t (.ref C)=some b))∧Q (.bl b) H
theorem ziG:zdu X (.builtin "isinstance") (znn X.K):=by
 intro pins s σ H xs us Q I r h
 obtain ⟨x,t,b,ty,h | h,q⟩:=h
 . obtain ⟨n,rfl,hk⟩:=h
   obtain ⟨u,c,rfl,ru,rc⟩:=ziq r
   cases rc
   exact ziF I ru ty hk fun tk=>⟨.bl b,H,I.tok _,rfl,q⟩
 . obtain ⟨C,rfl,hk⟩:=h
   obtain ⟨u,c,rfl,ru,rc⟩:=ziq r
   cases rc
   exact ziF I ru ty hk fun tk=>⟨.bl b,H,I.tok _,rfl,q⟩
theorem zlJ:OpR X (compareOp .Is) (fun x y H Q=>∃ b c,x = .bl b∧y = .bl c∧Q (.bl (b == c)) H):=by
 intro pins s σ H x y v u Q I r r' h
 obtain ⟨b,c,rfl,rfl,q⟩:=h
 cases r;cases r'
 refine wpAny_is_plain rfl ⟨.bl (b == c),H,I,?_,q⟩
 cases b <;> cases c <;> rfl
theorem zo0 {xs:List V}{us:List Value} (r:zE xs us) {i:Nat}{v:Value} (e:us.toArray[i]?=some v):∃ x,xs[i]?=some x∧zq x v:=by
 have e':us[i]?=some v:=by simpa using e
 have hi:i < us.length:=(List.getElem?_eq_some_iff.mp e').1
 have l:=r.length
 have ex:xs[i]?=some xs[i]:=List.getElem?_eq_getElem ω
 obtain ⟨u,eu,ru⟩:=r.get ex
 rw [e']at eu;cases eu
 exact ⟨_,ex,ru⟩
theorem zl5 (bs:List Bool):((List.range bs.length).all fun i=>bs.getD i false)=bs.all id:=by
 rw [Bool.eq_iff_iff,List.all_eq_true,List.all_eq_true]
 constructor
 . intro q b hb
   obtain ⟨i,hi,e⟩:=List.getElem_of_mem hb
   have:=q i (List.mem_range.mpr hi)
   rw [List.getD_eq_getElem?_getD,List.getElem?_eq_getElem hi,e]at this
   exact this
 . intro q i hi
   have hi':=List.mem_range.mp hi
   rw [List.getD_eq_getElem?_getD,List.getElem?_eq_getElem hi']
   exact q _ (List.getElem_mem hi')
theorem znK {pins:List (Addr×Obj)}{σ:St}{H:Hp}{s:Shared}{a:Addr}{its:Array Value} (I:Inv X pins σ H s) {h':Heap}{tk:Nat}
   (hk:∀ b o,b∉[s.heap.objs.size]->(s.heap.push { cls := .type "list_iterator",data := .fields #[.ref a,.int 0 0] }).get? b=some o->h'.get? b=some o):Inv X pins σ H { s with heap:=h',toks:=tk } :=
 I.kept fun b o e=>hk b o (by simpa using Nat.ne_of_lt (Heap.lt_size e)) (Heap.get?_push_of_some _ e)
theorem zmZ {A:Around}{bs:List Bool}{its:List Value} (rv:zE (bs.map V.bl) its):TruthOf X.prog X.w A (fun i v=>its.toArray[i]?=some v) (fun i=>bs.getD i false):=by
 intro i v s Q E hp hq
 obtain ⟨x,ex,rx⟩:=zo0 rv hp
 rw [List.getElem?_map]at ex
 cases eb:bs[i]? with
 | none=>rw [eb]at ex;cases ex
 | some b =>
   rw [eb]at ex
   cases ex
   cases rx
   have hq':Q (bs.getD i false) s:=hq
   rw [List.getD_eq_getElem?_getD,eb]at hq'
   exact wpAny_truthy_bool hq'
theorem zoD (hc:X.calm=true):zdu X (.builtin "all") (fun xs H Q=>∃ (a:Addr) (bs:List Bool),xs=[.ref a]∧SqL X.K H a (bs.map V.bl)∧Q (.bl (bs.all id)) H):=by
 intro pins s σ H xs us Q I r h
 obtain ⟨a,bs,rfl,hq,q⟩:=h
 obtain ⟨u,rfl,ru⟩:=zf1 r
 cases ru
 obtain ⟨its,rv,p,_⟩:=I.list hq
 refine call_all_walk (wpAny_pyIter_list p.isList ?_)
 obtain ⟨o,ho,_⟩:=id p.isList
 refine ⟨s.heap.objs.size,_,_,_,_,_,_,rfl,Walks.list (A:=X.A.in1) (I.ok.hd hc) _ a (Nat.ne_of_lt (Heap.lt_size ho)) its.toArray,⟨⟨_,Heap.get?_push_size _ rfl,rfl,rfl⟩,p.isList.at fun o e=>Heap.get?_push_of_some _ e⟩,zmZ (A:=X.A.in1) rv,fun h' tk hk=>?_⟩
 refine ⟨.bl (bs.all id),H,znK (a:=a) (its:=its.toArray) I hk,?_,q⟩
 have e:its.toArray.size=bs.length:=by simp [<- rv.length]
 rw [e,zl5];rfl
end
end L2
end
section
namespace L2
open PySem PySem.Spec PyProof.Rows
noncomputable def ziE (osc scope:Scope) (N0 N:List Str) (js:List (Option Nat)):Bool :=
 decide (scope.kind = .function) && scope.names.all (fun y=>decide (y.2 ≠ .cell) && decide (scope.names.lookup y.1=some y.2) && (decide (y.2 ≠ .free) || decide (osc.names.lookup y.1=some .cell) || decide (osc.names.lookup y.1=some .free))) &&
   decide (js.length=N.length) && (List.range js.length).all fun i=>match js[i]? with
     | some (some k)=>match N[i]?,N0[k]? with
       | some x,some y=>decide (x=y) && decide (scope.names.lookup x=some .free)
       | _,_=>false
     | _=>true
theorem zcF.of {X:Cx}{osc scope:Scope}{N0 N:List Str}{js:List (Option Nat)} (hs:X.env.scope=osc) (hN:X.N=N0) (hc:ziE osc scope N0 N js=true):zcF X scope N js:=by
 unfold ziE at hc
 rw [Bool.and_eq_true,Bool.and_eq_true,Bool.and_eq_true]at hc
 obtain ⟨⟨⟨h1,h2⟩,h3⟩,h4⟩:=hc
 rw [List.all_eq_true]at h2 h4
 have g:∀ y∈scope.names,y.2 ≠ .cell∧scope.names.lookup y.1=some y.2∧(y.2 ≠ .free∨osc.names.lookup y.1=some .cell∨osc.names.lookup y.1=some .free):=fun y hy=>by
   have:=h2 y hy
   simp only [Bool.and_eq_true,Bool.or_eq_true,decide_eq_true_eq]at this
   exact ⟨this.1.1,this.1.2,by rcases this.2 with (z | z) | z <;> simp [z]⟩
 refine ⟨of_decide_eq_true h1,fun y hy=>(g y hy).1,fun y hy=>(g y hy).2.1,fun y hy hf=>?_,of_decide_eq_true h3,fun i k e=>?_⟩
 . rcases (g y hy).2.2 with z | z | z
   . exact absurd hf z
   . left;show X.env.scope.names.lookup y.1=_;rw [hs];exact z
   . right;show X.env.scope.names.lookup y.1=_;rw [hs];exact z
 . have hi:i < js.length:=(List.getElem?_eq_some_iff.mp e).1
   have q:=h4 i (List.mem_range.mpr hi)
   rw [e]at q
   cases e1:N[i]? with
   | none=>rw [e1]at q;cases q
   | some x =>
     cases e2:N0[k]? with
     | none =>
       rw [e1]at q
       dsimp only at q
       rw [e2]at q
       cases q
     | some y =>
       rw [e1]at q
       dsimp only at q
       rw [e2]at q
       simp only [Bool.and_eq_true,decide_eq_true_eq]at q
       exact ⟨x,rfl,by rw [hN,e2,q.1],q.2⟩
section
variable {K:PySem.W.Frag}{a D:Addr}{xs:List V}{g:TG}{tc:TT}{te:TE}{σ:St}{H1:Hp}{js:List (Option Nat)}{Q:VK}
end
section
variable {prog:Program}{w:World}{A:Around}{E:Value->Shared->Prop}{s:Shared}
end
section
variable {X:Cx}{e st:Expr}{te:TE}{lo hi:Option Expr}{tl th ts:TO}{pos p2:Pos}
end
end L2
namespace L2
open PySem PySem.Spec PyProof.Rows
structure zhQ (K:PySem.W.Frag) (C:Addr):Prop where
 ha:PySem.W.findIn K (.ref C) "__class__" = some (some (.builtin "object.__class__"))
 hn:PySem.W.specialIn K (.builtin "object.__class__") "__get__" = some (some (.builtin "getset_descriptor.__get__"))
 htk:PySem.W.takesIn K (.builtin "object.__class__")=some true
 hm:PySem.W.mroIn K C (.type "object")=some true
structure DF (K:PySem.W.Frag) (x q:Str) (st:Stmt) (ps:List Str) where
 a:Addr
 d:FuncData
 F:Fun K x q st a d
 b:zbZ K d ps []
structure CF (K:PySem.W.Frag) (mg:Str->Option Value) (x:Str) where
 c:Addr
 m:mg x=some (.ref c)
 cl:Cls K c
 ic:zhQ K c
structure VF (mg:Str->Option Value) (x:Str) (v:V) where
 u:Value
 m:mg x=some u
 r:zq v u
noncomputable def Isa (K:PySem.W.Frag) (C C':Addr) (b:Bool):Prop:=PySem.W.kitOne K (.ref C) (.ref C')=some b
end L2
namespace L2
open PySem
section
variable {env:Env}{es:List Expr}
theorem zg {c j p}:starEach (.Constant c j p :: es) env=(false,eval (.Constant c j p) env) :: starEach es env:=rfl
theorem zi {x p}:starEach (.Name x p :: es) env=(false,eval (.Name x p) env) :: starEach es env:=rfl
theorem zbo {a o b p}:starEach (.BinOp a o b p :: es) env=(false,eval (.BinOp a o b p) env) :: starEach es env:=rfl
theorem zdk {o a p}:starEach (.UnaryOp o a p :: es) env=(false,eval (.UnaryOp o a p) env) :: starEach es env:=rfl
theorem zfz {a o b p}:starEach (.Compare a o b p :: es) env=(false,eval (.Compare a o b p) env) :: starEach es env:=rfl
theorem zcl {f a k p}:starEach (.Call f a k p :: es) env=(false,eval (.Call f a k p) env) :: starEach es env:=rfl
theorem zgv {o a p}:starEach (.Attribute o a p :: es) env=(false,eval (.Attribute o a p) env) :: starEach es env:=rfl
theorem zby {o a p}:starEach (.Subscript o a p :: es) env=(false,eval (.Subscript o a p) env) :: starEach es env:=rfl
theorem zH {a p}:starEach (.List a p :: es) env=(false,eval (.List a p) env) :: starEach es env:=rfl
theorem zZ {a k p}:starEach (.Tuple a k p :: es) env=(false,eval (.Tuple a k p) env) :: starEach es env:=rfl
theorem zlQ {a g sc p}:starEach (.ListComp a g sc p :: es) env=(false,eval (.ListComp a g sc p) env) :: starEach es env:=rfl
theorem zpI {a b c p}:starEach (.IfExp a b c p :: es) env=(false,eval (.IfExp a b c p) env) :: starEach es env:=rfl
theorem zpM {a b p}:starEach (.Dict a b p :: es) env=(false,eval (.Dict a b p) env) :: starEach es env:=rfl
end
end L2
namespace L2
open PySem
end L2
namespace L2
open PySem
end L2
namespace L2
open PySem
end L2
end
section
namespace L2
open PySem
section
variable {K:PySem.W.Frag}{mg:Str->Option Value}{h:Heap}{x q:Str}{st:Stmt}{ps:List Str}{C:Addr}
inductive GB (K:PySem.W.Frag) (x:Str) (st:Stmt) (ps:List Str):Prop
 | mk {f:Addr} {oc kV doc pm cdv ct:Value} {od an:Option Addr} {sl:Array (Option Value)} (a:PySem.W.nsIn K mainGlobals x=some (some (.ref f)))
   (l:K.lookup f=some ⟨oc,od,.func (PySem.W.fnOf x x (zcu st) (zb3 st) (zG st) .none kV doc pm an cdv ct),sl⟩) (c:PySem.W.codeIn K cdv x=true) (k:PySem.W.keepIn K (.ref f)=true):GB K x st ps
inductive MB (K:PySem.W.Frag) (C:Addr) (x q:Str) (st:Stmt) (ps:List Str):Prop
 | mk {f:Addr} {oc kV doc pm cdv ct:Value} {od an:Option Addr} {sl:Array (Option Value)} (a:PySem.W.findIn K (.ref C) x=some (some (.ref f))) (i:PySem.W.isFn K (.ref f)=true)
   (l:K.lookup f=some ⟨oc,od,.func (PySem.W.fnOf x q (zcu st) (zb3 st) (zG st) .none kV doc pm an cdv ct),sl⟩) (c:PySem.W.codeIn K cdv q=true) (k:PySem.W.keepIn K (.ref f)=true):MB K C x q st ps
structure CB (K:PySem.W.Frag) (x:Str) (C:Addr):Prop where
 a:PySem.W.nsIn K mainGlobals x=some (some (.ref C))
 pg:PySem.W.plainGet K C Str.empty=true
 hd:PySem.W.hasDictIn K C=true
 po:PySem.W.plainOver K C=true
 sa:PySem.W.findIn K (.ref C) "__setattr__" = some (some (.builtin "object.__setattr__"))
 ha:PySem.W.findIn K (.ref C) "__class__" = some (some (.builtin "object.__class__"))
 hm:PySem.W.mroIn K C (.type "object")=some true
 hn:PySem.W.specialIn K (.builtin "object.__class__") "__get__" = some (some (.builtin "getset_descriptor.__get__"))
 htk:PySem.W.takesIn K (.builtin "object.__class__")=some true
noncomputable def CB.cf (X:K.In h) (G:h.Ns mainGlobals mg) (b:CB K x C):CF K mg x:=⟨C,PySem.W.mg_of X G b.a,⟨b.pg,b.hd,b.po,b.sa⟩,⟨b.ha,b.hn,b.htk,b.hm⟩⟩
noncomputable abbrev zbg (x q:Str) (st:Stmt) (ps:List Str):Prop:=∀ (kV doc pm:Value) (an:Option Addr) (cdv ct:Value) (us:List Value),us.length=ps.length->bindArgs (PySem.W.fnOf x q (zcu st) (zb3 st) (zG st) .none kV doc pm an cdv ct) ⟨us,[]⟩=pure (ps.zip us)
theorem zbg.mk1 {st:Stmt}{x q a:Str} (h:∀ kV doc pm an cdv ct u,bindArgs (PySem.W.fnOf x q (zcu st) (zb3 st) (zG st) .none kV doc pm an cdv ct) ⟨[u],[]⟩=pure [(a,u)]):zbg x q st [a]:=by
 intro _ _ _ _ _ _ us hl;rcases us with _ | ⟨u1,_ | ⟨x0,us⟩⟩ <;> first | exact h _ _ _ _ _ _ _ | cases hl | (simp at hl)
theorem zbg.mk2 {st:Stmt}{x q a b:Str} (h:∀ kV doc pm an cdv ct u v,bindArgs (PySem.W.fnOf x q (zcu st) (zb3 st) (zG st) .none kV doc pm an cdv ct) ⟨[u,v],[]⟩=pure [(a,u),(b,v)]):zbg x q st [a,b]:=by
 intro _ _ _ _ _ _ us hl;rcases us with _ | ⟨u1,_ | ⟨u2,_ | ⟨x0,us⟩⟩⟩ <;> first | exact h _ _ _ _ _ _ _ _ | cases hl | (simp at hl)
theorem zbg.mk3 {st:Stmt}{x q a b c:Str} (h:∀ kV doc pm an cdv ct u v w,bindArgs (PySem.W.fnOf x q (zcu st) (zb3 st) (zG st) .none kV doc pm an cdv ct) ⟨[u,v,w],[]⟩=pure [(a,u),(b,v),(c,w)]):zbg x q st [a,b,c]:=by
 intro _ _ _ _ _ _ us hl;rcases us with _ | ⟨u1,_ | ⟨u2,_ | ⟨u3,_ | ⟨x0,us⟩⟩⟩⟩ <;> first | exact h _ _ _ _ _ _ _ _ _ | cases hl | (simp at hl)
theorem zbg.mk4 {st:Stmt}{x q a b c d:Str} (h:∀ kV doc pm an cdv ct u v w y,bindArgs (PySem.W.fnOf x q (zcu st) (zb3 st) (zG st) .none kV doc pm an cdv ct) ⟨[u,v,w,y],[]⟩=pure [(a,u),(b,v),(c,w),(d,y)]):zbg x q st [a,b,c,d]:=by
 intro _ _ _ _ _ _ us hl;rcases us with _ | ⟨u1,_ | ⟨u2,_ | ⟨u3,_ | ⟨u4,_ | ⟨x0,us⟩⟩⟩⟩⟩ <;> first | exact h _ _ _ _ _ _ _ _ _ _ | cases hl | (simp at hl)
theorem zbg.mk5 {st:Stmt}{x q a b c d e:Str} (h:∀ kV doc pm an cdv ct u v w y z,bindArgs (PySem.W.fnOf x q (zcu st) (zb3 st) (zG st) .none kV doc pm an cdv ct) ⟨[u,v,w,y,z],[]⟩=pure [(a,u),(b,v),(c,w),(d,y),(e,z)]):zbg x q st [a,b,c,d,e]:=by
 intro _ _ _ _ _ _ us hl;rcases us with _ | ⟨u1,_ | ⟨u2,_ | ⟨u3,_ | ⟨u4,_ | ⟨u5,_ | ⟨x0,us⟩⟩⟩⟩⟩⟩ <;> first | exact h _ _ _ _ _ _ _ _ _ _ _ | cases hl | (simp at hl)
theorem GB.df (X:K.In h) (G:h.Ns mainGlobals mg) (b:GB K x st ps) (hb:zbg x x st ps:=by first | exact zbg.mk1 fun _ _ _ _ _ _ _=>rfl | exact zbg.mk2 fun _ _ _ _ _ _ _ _=>rfl | exact zbg.mk3 fun _ _ _ _ _ _ _ _ _=>rfl | exact zbg.mk4 fun _ _ _ _ _ _ _ _ _ _=>rfl | exact zbg.mk5 fun _ _ _ _ _ _ _ _ _ _ _=>rfl):∃ D:DF K x x st ps,mg x=some (.ref D.a)∧∀ us:List Value,us.length=ps.length->bindArgs D.d ⟨us,[]⟩=pure (ps.zip us):=by
 obtain ⟨a,l,c,k⟩:=b
 exact ⟨⟨_,_,zer l c k,(zer l c k).binds hb⟩,PySem.W.mg_of X G a,hb _ _ _ _ _ _⟩
theorem MB.df (b:MB K C x q st ps) (hb:zbg x q st ps:=by first | exact zbg.mk1 fun _ _ _ _ _ _ _=>rfl | exact zbg.mk2 fun _ _ _ _ _ _ _ _=>rfl | exact zbg.mk3 fun _ _ _ _ _ _ _ _ _=>rfl | exact zbg.mk4 fun _ _ _ _ _ _ _ _ _ _=>rfl | exact zbg.mk5 fun _ _ _ _ _ _ _ _ _ _ _=>rfl):∃ D:DF K x q st ps,ze1 K C x D.a:=by
 obtain ⟨a,i,l,c,k⟩:=b
 exact ⟨⟨_,_,zer l c k,(zer l c k).binds hb⟩,⟨a,i,k⟩⟩
theorem MB.mk' (m:PySem.W.makesIn K C=true) (kc:PySem.W.keepIn K (.ref C)=true) (b:MB K C "__init__" q st ps) (hb:zbg "__init__" q st ps:=by first | exact zbg.mk1 fun _ _ _ _ _ _ _=>rfl | exact zbg.mk2 fun _ _ _ _ _ _ _ _=>rfl | exact zbg.mk3 fun _ _ _ _ _ _ _ _ _=>rfl | exact zbg.mk4 fun _ _ _ _ _ _ _ _ _ _=>rfl | exact zbg.mk5 fun _ _ _ _ _ _ _ _ _ _ _=>rfl):∃ D:DF K "__init__" q st ps,Mk K C D.a:=by
 obtain ⟨a,i,l,c,k⟩:=b
 exact ⟨⟨_,_,zer l c k,(zer l c k).binds hb⟩,⟨m,a,i,kc⟩⟩
noncomputable def zeK (K:PySem.W.Frag) (sub:Nat->Nat->Bool) (a:Addr) (i:Nat):Nat->List Addr->Prop
 | _,[]=>True
 | j,b :: bs=>PySem.W.kitOne K (.ref a) (.ref b)=some (sub i j)∧zeK K sub a i (j+1) bs
noncomputable def zeF (K:PySem.W.Frag) (sub:Nat->Nat->Bool) (cs:List Addr):Nat->List Addr->Prop
 | _,[]=>True
 | i,a :: as=>zeK K sub a i 0 cs∧zeF K sub cs (i+1) as
theorem zeK.get {sub:Nat->Nat->Bool}{a b:Addr}{i:Nat}:∀ {bs:List Addr}{k j:Nat},zeK K sub a i k bs->bs[j]?=some b->Isa K a b (sub i (k+j))
 | [],_,_,_,h=>by simp at h
 | c :: cs,k,0,r,h=>by
   simp at h;subst h;exact r.1
 | c :: cs,k,j+1,r,h=>by
   rw [show k+(j+1)=(k+1)+j by omega]
   exact zeK.get r.2 (by simpa using h)
theorem zeF.get {sub:Nat->Nat->Bool}{a b:Addr}{cs:List Addr}:∀ {as:List Addr}{k i j:Nat},zeF K sub cs k as->as[i]?=some a->cs[j]?=some b->Isa K a b (sub (k+i) j)
 | [],_,_,_,_,h,_=>by simp at h
 | c :: as,k,0,j,r,h,g=>by
   simp at h;subst h
   have:=zeK.get r.1 g
   rwa [Nat.zero_add]at this
 | c :: as,k,i+1,j,r,h,g=>by
   rw [show k+(i+1)=(k+1)+i by omega]
   exact zeF.get r.2 (by simpa using h) g
end
end L2
end
section
namespace L2
open PySem PySem.Spec PyProof.Rows
section
variable {X:Cx}{pins:List (Addr×Obj)}{σ:St}{H H':Hp}{s:Shared}{a C:Addr}
structure zdT (X:Cx) (pins:List (Addr×Obj)) (H:Hp) (b:Addr):Prop where
 new:X.s₀.heap.get? b=none
 free:H b=none
 pn:∀ p∈X.pn++pins,p.1≠b
theorem Inv.callN {h':Heap}{g':Array GenState}{t':Nat}{d':Drawn}{ch:List Addr} (I:Inv X pins σ H s) (u:Un (frs X.stack) ch H H' s.heap h') (hok:HOk X.prog X.w H' h') (hg:AllBare g')
   (hch:∀ b∈ch,X.s₀.heap.get? b=none∧b≠X.env.locals∧(∀ x c,X.env.cells.lookup x=some c->c≠b)∧∀ p∈X.pn++pins,p.1≠b) :
   Inv X pins σ H' { s with heap:=h',gens:=g',drawn:=d',toks:=t' }:=by
 have nch:∀ b o,X.s₀.heap.get? b=some o->b∉ch:=fun b o e z=>by have:=(hch b z).1;rw [e]at this;cases this
 have ok':Cx.Ok { X with ex:=ch++X.ex }:=⟨I.ok.mod,I.ok.kind,I.ok.glob,I.ok.blt,I.ok.above,I.ok.inj,I.ok.has,I.ok.cab,I.ok.hd,I.ok.frames,I.ok.stk,
   fun b hb=>(List.mem_append.mp hb).elim (fun z=>⟨(hch b z).2.1,(hch b z).2.2.1⟩) (I.ok.exf b),I.ok.bs,I.ok.bsz,
   fun b o e hb=>(List.mem_append.mp hb).elim (nch b o (I.ok.bs b o e).1) (I.ok.noex b o e),
   fun b hb=>(List.mem_append.mp hb).elim (fun z hf=>by obtain ⟨_,o,ho,_⟩:=I.ok.funs.mem hf;exact nch b o ho z) (I.ok.exfs b),I.ok.funs,I.ok.frf⟩
 have sub:∀ b,b∉ch++X.ex->b∉X.ex:=fun b z w=>z (List.mem_append_right _ w)
 have I':Inv { X with ex:=ch++X.ex } pins σ H s:=⟨ok',I.os,I.bare,⟨fun b o e n hb hx=>I.base.keep b o e n hb (sub b hx),fun b o e n hb hx=>I.base.slot b o e n hb (sub b hx),fun b o e n hx=>I.base.free b o e n (sub b hx),fun b o e hx=>I.base.there b o e (sub b hx),I.base.tups,I.base.frzs,I.base.tbls⟩,
   I.loc,I.cell,I.free,I.freeC,I.pin,I.hok,I.len⟩
 have J:=I'.call (g':=g') (t':=t') (d':=d') u hok hg fun b hb=>⟨.inl (List.mem_append_left _ hb),(hch b hb).2⟩
 have up:∀ b o,X.s₀.heap.get? b=some o->b∉X.ex->b∉ch++X.ex:=fun b o e z w=>(List.mem_append.mp w).elim (nch b o e) z
 exact ⟨I.ok,J.os,J.bare,⟨fun b o e n hb hx=>J.base.keep b o e n hb (up b o e hx),fun b o e n hb hx=>J.base.slot b o e n hb (up b o e hx),fun b o e n hx=>J.base.free b o e n (up b o e hx),fun b o e hx=>J.base.there b o e (up b o e hx),J.base.tups,J.base.frzs,J.base.tbls⟩,
   J.loc,J.cell,J.free,J.freeC,J.pin,J.hok,J.len⟩
theorem Inv.rec_ne {r:Addr}{o:Obj}{vs:Array Value} (I:Inv X pins σ H s) (ho:s.heap.get? r=some o) (hd:o.data = .fields vs):r∉frs X.stack∧r≠X.env.locals∧∀ x c,X.env.cells.lookup x=some c->c≠r:=by
 refine ⟨fun z=>?_,fun z=>?_,fun x c e z=>?_⟩
 . obtain ⟨_,o',ho',hn⟩:=I.stack.mem z
   rw [ho]at ho';cases ho';exact hn vs hd
 . obtain ⟨m,⟨o',es,ep,ho',hd',_⟩,_⟩:=I.loc
   rw [<- z,ho]at ho';cases ho';rw [hd]at hd';cases hd'
 . obtain ⟨v,o',ho',hd'⟩:=I.cell x c e
   rw [z,ho]at ho';cases ho';rw [hd]at hd';cases hd'
theorem Inv.recd {r:Addr}{o:Obj}{vs:Array Value} (I:Inv X pins σ H s) (L:zdT X pins H r) (ho:s.heap.get? r=some o) (hd:o.data = .fields vs) (g:Array Value->Array Value) :
   Inv X pins σ H { s with heap:=s.heap.update r (Obj.mapFields g) }:=by
 obtain ⟨n1,n2,n3⟩:=I.rec_ne ho hd
 have k:∀ b u,b≠r->s.heap.get? b=some u->(s.heap.update r (Obj.mapFields g)).get? b=some u:=fun b u hb e=>by rw [Heap.get?_update_other _ _ (Ne.symm hb)];exact e
 have kr:(s.heap.update r (Obj.mapFields g)).get? r=some (Obj.mapFields g o):=Heap.get?_update_self _ ho (Obj.isFreed_of_fields (Obj.data_mapFields hd g))
 refine I.callN (g':=s.gens) (t':=s.toks) (d':=s.drawn) (ch:=[r]) ⟨fun b u e n hb hx=>k b u (fun z=>hx (by simp [z])) e,fun b u e n hb hx=>⟨u.slots,k b u (fun z=>hx (by simp [z])) e⟩,fun b u e n hx=>n,
   fun b u e hx=>⟨u,k b u (fun z=>hx (by simp [z])) e⟩,fun _ _ e=>e,fun _ _ _ e=>e,fun b ps e=>⟨#[],by rw [e];simp⟩⟩ (fun b u e=>?_) I.bare (fun b hb=>?_)
 . refine (I.hok b u e).stay (fun c v hc q=>k c v ?_ q) (fun _ q=>q) fun _ _ q=>q
   rcases hc with z | z
   . rw [z];exact fun y=>by rw [y,L.free]at e;cases e
   . exact fun y=>by rw [y,L.free]at z;cases z
 . have e:b=r:=by simpa using hb
   subst e
   exact ⟨L.new,n2,n3,L.pn⟩
theorem Inv.slots {h':Heap} (I:Inv X pins σ H s) (k:Heap.SlotsOnly (frs X.stack) s.heap h'):Inv X pins σ H { s with heap:=h' }:=by
 refine I.callN (g':=s.gens) (t':=s.toks) (d':=s.drawn) (ch:=[]) ⟨fun b u e n hb hx=>by rw [k.2.1 b hb];exact e,fun b u e n hb hx=>k.2.2 b u e,fun b u e n hx=>n,
   fun b u e hx=>?_,fun _ _ e=>e,fun _ _ _ e=>e,fun b ps e=>⟨#[],by rw [e];simp⟩⟩ (fun b u e=>?_) I.bare (fun b hb=>nomatch hb)
 . obtain ⟨sl,q⟩:=k.2.2 b u e;exact ⟨_,q⟩
 . refine (I.hok b u e).stay (fun c v hc q=>?_) (fun _ q=>q) fun _ _ q=>q
   have nf:c∉frs X.stack:=fun z=>by
     have:=I.stkFree c z
     rcases hc with y | y
     . rw [y,e]at this;cases this
     . rw [y]at this;cases this
   rw [k.2.1 c nf];exact q
theorem Inv.lone (I:Inv X pins σ H s) {b:Addr} (hb:s.heap.get? b=none) (hn:H' b=none) (hx:b∉X.ex):zdT X pins H' b:=by
 refine ⟨?_,hn,fun p hp z=>?_⟩
 . cases q:X.s₀.heap.get? b with
   | none=>rfl
   | some o =>
     obtain ⟨o',e⟩:=I.base.there b o q hx
     rw [hb]at e;cases e
 . obtain ⟨e,_⟩:=I.pin p hp
   rw [z,hb]at e;cases e
noncomputable def zna (X:Cx) (pins:List (Addr×Obj)) (H:Hp) (h:Heap) (a:Addr) (vs:Array Value):Prop :=
 ∃ T oT ts,vs[1]?=some (.ref T)∧T≠a∧zdT X pins H T∧h.get? T=some oT∧oT.data = .fields ts∧3 < ts.size
structure Fl (t:Bool) (X:Cx) (pins:List (Addr×Obj)) (H:Hp) (h:Heap) (a C:Addr):Prop where
 lone:zdT X pins H a
 ob:∃ oe vs,h.get? a=some oe∧oe.cls = .ref C∧oe.data = .fields vs∧vs.size=6∧((t=false∧vs[1]?=some .none)∨zna X pins H h a vs)
variable {M:Model}{A:Around}{E:Value->Shared->Prop}{Q:Unit->Shared->Prop}{t:Bool}
theorem zhn {h:Heap}{r:Addr}{o:Obj}{vs:Array Value}{g:Array Value->Array Value} (ho:h.get? r=some o) (hd:o.data = .fields vs) (b:Addr) (m:Str->Option Value) (n:h.Ns b m):(h.update r (Obj.mapFields g)).Ns b m:=by
 obtain ⟨o',es,ep,ho',hd',rest⟩:=n
 refine ⟨o',es,ep,?_,hd',rest⟩
 rw [Heap.get?_update_other _ _ (fun z=>by rw [z,ho']at ho;cases ho;rw [hd]at hd';cases hd')]
 exact ho'
theorem zmF {S:List Addr}{h h':Heap} (k:Heap.SlotsOnly S h h') (b:Addr) (m:Str->Option Value) (n:h.Ns b m):h'.Ns b m:=by
 obtain ⟨o,es,ep,ho,hd,rest⟩:=n
 obtain ⟨sl,q⟩:=k.2.2 b o ho
 exact ⟨_,es,ep,q,hd,rest⟩
theorem zou {h:Heap}{o:Obj} (b:Addr) (m:Str->Option Value) (n:h.Ns b m):(h.push o).Ns b m:=by
 obtain ⟨o',es,ep,ho,rest⟩:=n
 exact ⟨o',es,ep,Heap.get?_push_of_some _ ho,rest⟩
theorem zfF {fr:Option Addr} (I:Inv X pins σ H s) (f:Fl t X pins H s.heap a C) (h:∀ s',Inv X pins σ H s'->Fl t X pins H s'.heap a C->(∀ b m,s.heap.Ns b m->s'.heap.Ns b m)->Q () s'):wpAny M A (setFlight (.ref a) fr) Q E s:=by
 obtain ⟨l,oe,vs,h1,h2,h3,h4,h5⟩:=f
 unfold setFlight
 rcases h5 with ⟨rfl,h5⟩ | ⟨T,oT,ts,g1,g2,g3,g4,g5,g6⟩
 . refine wpAny_bind (wpAny_field h1 h3 h5 ?_)
   rw [if_neg ϑ]
   exact wpAny_pure (h s I ⟨l,oe,vs,h1,h2,h3,h4,.inl ⟨rfl,h5⟩⟩ fun _ _ z=>z)
 . refine wpAny_bind (wpAny_field h1 h3 g1 ?_)
   rw [if_pos (show (Value.ref T != Value.none)=true from by simp)]
   refine wpAny_setField g4 g5 g6 (h _ (I.recd g3 g4 g5 _) ⟨l,oe,vs,?_,h2,h3,h4,.inr ⟨T,_,_,g1,g2,g3,Heap.get?_update_self _ g4 (Obj.isFreed_of_fields (Obj.data_mapFields g5 _)),Obj.data_mapFields g5 _,?_⟩⟩ fun b m n=>zhn g4 g5 b m n)
   . rw [Heap.get?_update_other _ _ g2];exact h1
   . rw [Array.size_setIfInBounds];exact g6
theorem zhV {head:Value}{hadNext:Bool}{L:Addr} (hfr:A.frames=some X.stack) (hst:∃ o,X.stack=X.env :: o) (hf:X.env.frame=some L) (hx:∀ b∈X.ex,b < s.heap.objs.size) (I:Inv X pins σ H s) (l:zdT X pins H a)
   {oe:Obj} {vs:Array Value} (h1:s.heap.get? a=some oe) (h2:oe.cls = .ref C) (h3:oe.data = .fields vs) (h4:vs.size=6)
   (h:∀ s',Inv X pins σ H s'->Fl true X pins H s'.heap a C->(∀ b m,s.heap.Ns b m->s'.heap.Ns b m)->Q () s') :
   wpAny M A (do setField (.ref a) 1 (<- EntryCells.newEntry head (<- frameOf X.env) .none (rawInt L) .none (<- entryPlaceOf L hadNext))) Q E s:=by
 obtain ⟨o,hst⟩:=hst
 have hl:s.heap.FunFrames X.base (X.env :: o):=hst ▸ I.stack
 have hne:=(I.rec_ne h1 h3).1
 refine wpAny_bind (wpAny_frameOf_fun (by rw [hfr,hst]) hl hf fun h₁ hs₁=>?_)
 have hs₁:Heap.SlotsOnly (frs X.stack) s.heap h₁:=by rw [hst];exact hs₁
 have I1:=I.slots hs₁
 have e1:h₁.get? a=some oe:=by rw [hs₁.2.1 a hne];exact h1
 refine wpAny_bind (wpAny_entryPlaceOf fun pl hpl=>?_)
 unfold EntryCells.newEntry newFields
 refine wpAny_bind (wpAny_newObj_type ?_ (hpl.sizeOk5 _ _ _ _ _))
 generalize hT:({ cls := .type "traceback",dict:=none,data := .fields ([head,.ref L,.none,rawInt L,.none]++(if pl.isEmpty then List.replicate 6 Value.none else pl)).toArray }:Obj)=oT
 have I2:Inv X pins σ H { s with heap:=h₁.push oT }:=I1.kept (t':=s.toks) fun b u e=>Heap.get?_push_of_some _ e
 have e2:(h₁.push oT).get? a=some oe:=Heap.get?_push_of_some _ e1
 have hTn:h₁.get? h₁.objs.size=none:=Heap.get?_none_of_le (Nat.le_refl _)
 have lT:zdT X pins H h₁.objs.size:=I1.lone hTn (I1.hok.fresh (Nat.le_refl _)) fun z=>by
   have:=hx _ z;rw [<- hs₁.1]at this;exact absurd this (Nat.lt_irrefl _)
 have eT:(h₁.push oT).get? h₁.objs.size=some oT:=Heap.get?_push_size _ (by rw [<- hT];rfl)
 have hTa:h₁.objs.size≠a:=Nat.ne_of_gt (Heap.lt_size e1)
 refine wpAny_setField e2 h3 (by rw [h4];decide) (h _ (I2.recd l e2 h3 _) ⟨l,_,_,Heap.get?_update_self _ e2 (Obj.isFreed_of_fields (Obj.data_mapFields h3 _)),by rw [Obj.cls_mapFields];exact h2,Obj.data_mapFields h3 _,by simp [h4],.inr ⟨h₁.objs.size,oT,_,?_,hTa,lT,?_,by rw [<- hT],?_⟩⟩ fun b m n=>zhn e2 h3 b m (zou b m (zmF hs₁ b m n)))
 . rw [Array.getElem?_setIfInBounds_self_of_lt (by rw [h4];decide)]
 . rw [Heap.get?_update_other _ _ (Ne.symm hTa)];exact eT
 . simp
theorem zhk (hfr:A.frames=some X.stack) (hst:∃ o,X.stack=X.env :: o) {L:Addr} (hf:X.env.frame=some L) (hx:∀ b∈X.ex,b < s.heap.objs.size) (I:Inv X pins σ H s) (f:Fl t X pins H s.heap a C)
   (h:∀ s',Inv X pins σ H s'->Fl true X pins H s'.heap a C->(∀ b m,s.heap.Ns b m->s'.heap.Ns b m)->Q () s'):wpAny M A (noteFrame (.ref a) X.env) Q E s:=by
 obtain ⟨l,oe,vs,h1,h2,h3,h4,h5⟩:=f
 unfold noteFrame
 simp only [hf]
 rcases h5 with ⟨rfl,h5⟩ | ⟨T,oT,ts,g1,g2,g3,g4,g5,g6⟩
 . refine wpAny_bind (wpAny_field h1 h3 h5 ?_)
   rw [if_neg ϑ]
   exact zhV hfr hst hf hx I l h1 h2 h3 h4 h
 . refine wpAny_bind (wpAny_field h1 h3 g1 ?_)
   rw [if_pos (show (Value.ref T != Value.none)=true from by simp)]
   refine wpAny_bind (wpAny_field g4 g5 (Array.getElem?_eq_getElem g6) ?_)
   by_cases hq:(ts[3] == rawInt L)=true
   . rw [if_pos hq]
     exact wpAny_pure (h s I ⟨l,oe,vs,h1,h2,h3,h4,.inr ⟨T,oT,ts,g1,g2,g3,g4,g5,g6⟩⟩ fun _ _ z=>z)
   . rw [if_neg hq]
     refine wpAny_bind (wpAny_setField g4 g5 g6 ?_)
     exact zhV hfr hst hf (fun b hb=>by show b < (s.heap.update T _).objs.size;rw [Heap.size_after_update];exact hx b hb) (I.recd g3 g4 g5 _) l (by show (s.heap.update T _).get? a=_;rw [Heap.get?_update_other _ _ g2];exact h1) h2 h3 h4 fun s' J f k=>h s' J f fun b m n=>k b m (zhn g4 g5 b m n)
theorem zqb (hfr:A.frames=some X.stack) (hst:∃ o,X.stack=X.env :: o) {L:Addr} (hf:X.env.frame=some L) (hx:∀ b∈X.ex,b < s.heap.objs.size) (I:Inv X pins σ H s) (f:Fl t X pins H s.heap a C)
   (h:∀ s',Inv X pins σ H s'->Fl true X pins H s'.heap a C->(∀ b m,s.heap.Ns b m->s'.heap.Ns b m)->Q () s'):wpAny M A (leaving X.env (.ref a)) Q E s:=by
 unfold leaving
 exact wpAny_bind (zhk hfr hst hf hx I f fun s1 I1 f1 k1=>zfF I1 f1 fun s2 I2 f2 k2=>h s2 I2 f2 fun b m n=>k2 b m (k1 b m n))
theorem zon {α:Type}{what:String}{env':Env}{Q:α->Shared->Prop} (I:Inv X pins σ H s) (f:Fl true X pins H s.heap a C) (h:∀ s',Inv X pins σ H s'->Fl true X pins H s'.heap a C->E (.ref a) s'):wpAny M A (PySem.passOn what (.ref a) env':Sem α) Q E s:=by
 obtain ⟨l,oe,vs,h1,h2,h3,h4,h5⟩:=id f
 obtain ⟨T,oT,ts,g1,g2,g3,g4,g5,g6⟩:=h5.elim (fun z=>nomatch z.1) id
 unfold PySem.passOn
 refine wpAny_bind (wpAny_field h1 h3 g1 ?_)
 rw [if_neg ς]
 exact wpAny_bind (zfF I f fun s1 J f1 _=>wpAny_throw (h s1 J f1))
noncomputable def CX1 (P:Program) (w:World):CXT:=fun outer H s E e s'=>∃ a C H',e = .ref a∧s.heap.get? a=none∧s'.os=s.os∧AllBare s'.gens∧Un (frs outer) [] H H' s.heap s'.heap∧HOk P w H' s'.heap∧H' a=none∧E (.ref C) none H' ∧
 ∃ oe vs,s'.heap.get? a=some oe∧oe.cls = .ref C∧oe.data = .fields vs∧vs.size=6∧∃ T oT ts,vs[1]?=some (.ref T)∧T≠a∧s.heap.get? T=none∧H' T=none∧s'.heap.get? T=some oT∧oT.data = .fields ts∧3 < ts.size
theorem CX1.inv {EX:XK}{e:Value}{s':Shared} (I:Inv X pins σ H s) (hx:X.ex=[]) (c:CX1 X.prog X.w X.stack H s EX e s'):∃ a C H',e = .ref a∧Inv X pins σ H' s'∧Fl true X pins H' s'.heap a C∧EX (.ref C) none H'∧Un (frs X.stack) [] H H' s.heap s'.heap:=by
 obtain ⟨a,C,H',rfl,hn,os,bare,un,hok,ha,q,oe,vs,h1,h2,h3,h4,T,oT,ts,g1,g2,g3,g3',g4,g5,g6⟩:=c
 obtain ⟨hh,g,d,t,os'⟩:=s'
 obtain rfl:os'=s.os:=os
 have nx:∀ b,b∉X.ex:=fun b z=>by rw [hx]at z;exact nomatch z
 exact ⟨a,C,H',rfl,I.callN (g':=g) (t':=t) (d':=d) (ch:=[]) un hok bare (fun b z=>nomatch z),⟨I.lone hn ha (nx a),oe,vs,h1,h2,h3,h4,.inr ⟨T,oT,ts,g1,g2,I.lone g3 g3' (nx T),g4,g5,g6⟩⟩,q,un⟩
theorem CX1.of {EX:XK} (hx:X.ex=[]) (I:Inv X pins σ H s) (f:Fl true X pins H s.heap a C) (q:EX (.ref C) none H):CX1 X.prog X.w X.outer X.H₀ X.s₀ EX (.ref a) s:=by
 obtain ⟨l,oe,vs,h1,h2,h3,h4,h5⟩:=f
 obtain ⟨T,oT,ts,g1,g2,g3,g4,g5,g6⟩:=h5.elim (fun z=>nomatch z.1) id
 exact ⟨a,C,H,rfl,l.new,I.os,I.bare,hx ▸ I.base,I.hok,l.free,q,oe,vs,h1,h2,h3,h4,T,oT,ts,g1,g2,g3.new,g3.free,g4,g5,g6⟩
end
noncomputable abbrev EW (WX:Addr->Hp->Prop):XK:=fun cls _ H=>∃ C,cls = .ref C∧WX C H
structure XOk (X:Cx) (WX:Addr->Hp->Prop):Prop where
 thr:∀ (t:Bool) (pins:List (Addr×Obj)) (σ:St) (H:Hp) (s:Shared) (a C:Addr),Inv X pins σ H s->Fl t X pins H s.heap a C->WX C H->X.xe (.ref a) s
 pass:zc1 (CX1 X.prog X.w) X (EW WX)
 own:PassesOwn (model X.prog X.w) X.A X.env X.xe
section
variable {P:Program}{w:World}{K:PySem.W.Frag}{mg:Str->Option Value}{base:Heap}
theorem zpH {N:List Str}{qual:Str}{scope:Scope}{f:Addr}{cd:Value}{A:Around}{outer:List Env}{s:Shared}{H:Hp}{E:XK}:XOk (zbS (CX1 P w) P w K mg base N qual scope f cd A outer s H E) (fun C H1=>E (.ref C) none H1):=by
 have thr:∀ (t:Bool) (pins:List (Addr×Obj)) (σ:St) (H':Hp) (s':Shared) (a C:Addr),Inv (zbS (CX1 P w) P w K mg base N qual scope f cd A outer s H E) pins σ H' s' ->
     Fl t (zbS (CX1 P w) P w K mg base N qual scope f cd A outer s H E) pins H' s'.heap a C->E (.ref C) none H'->(zbS (CX1 P w) P w K mg base N qual scope f cd A outer s H E).xe (.ref a) s':=fun t pins σ H' s' a C I fl q =>
   zqb (X:=zbS (CX1 P w) P w K mg base N qual scope f cd A outer s H E) I.ok.frames ⟨outer,rfl⟩ (L:=s.heap.objs.size) rfl (fun b z=>nomatch z) I fl fun s'' I2 f2 _=>CX1.of (X:=zbS (CX1 P w) P w K mg base N qual scope f cd A outer s H E) rfl I2 f2 q
 refine ⟨thr,fun pins σ H' s' e s'' I c=>?_,PassesOwn.leaving⟩
 obtain ⟨a,C,H2,rfl,I2,f2,⟨C',e2,q⟩,_⟩:=CX1.inv I rfl c
 cases e2
 exact thr true pins σ H2 s'' a C I2 f2 q
theorem Fun.okE {x qual:Str}{st:Stmt}{f:Addr}{fd:FuncData}{N ps:List Str}{k:Nat}{sp:Sp} (F:Fun K x qual st f fd) (S:zX N ps (zG st)) (len:∀ vs H Q E,sp vs H Q E->vs.length=ps.length)
   (hbody:∀ (cdv:Value) (A:Around) (outer:List Env) (s:Shared) (H:Hp) (vs:List V) (Q:VK) (E:XK),zO k (A.deeper (envOfC qual (zG st) s.heap.objs.size f cdv))->sp vs H Q E ->
     ∃ t,PSs (zbS (CX1 P w) P w K mg base N qual (zG st) f cdv A outer s H E) (zb3 st) t∧t { nx:=fun _ H'=>Q .non H',rt:=Q } (start N vs) H):zM P w K mg base (CX1 P w) (k+1) f fd ps sp:=by
 obtain ⟨oc,od,kV,doc,pm,an,cdv,ct,osl,rfl,lk,hcd⟩:=F.ex
 exact zpm lk hcd S len fun A outer s H vs Q E hr hsp=>hbody cdv A outer s H vs Q E hr hsp
end
end L2
end
section
namespace L2
open PySem PySem.Spec PyProof.Rows
theorem zbk.get {P:Program}{w:World}{H:Hp}{h:Heap}{a:Addr}{o:HO} (x:zbk P w H h a o):∃ u,h.get? a=some u:=by
 cases o with
 | lst xs=>obtain ⟨_,_,_,_,e⟩:=x;exact ⟨_,e⟩
 | tup xs=>obtain ⟨_,_,_,ob,e,_⟩:=x;exact ⟨_,e⟩
 | dK kvs=>obtain ⟨_,_,_,_,o,_,_,e,_⟩:=x;exact ⟨_,e⟩
 | dT kvs=>obtain ⟨_,_,_,_,o,_,_,e,_⟩:=x;exact ⟨_,e⟩
 | set S n=>obtain ⟨o,_,_,_,e,_⟩:=x;exact ⟨_,e⟩
 | ins C dx fs=>obtain ⟨_,_,_,e,_⟩:=x;exact ⟨_,e⟩
 | own y=>exact x
 | xd fs=>obtain ⟨_,⟨_,_,_,e,_⟩,_⟩:=x;exact ⟨_,e⟩
 | rng lo hi=>obtain ⟨_,_,_,e⟩:=x;exact ⟨_,e⟩
 | frz ob u=>obtain ⟨e,_⟩:=x;exact ⟨_,e⟩
 | tbl ps=>exact ⟨_,x⟩
 | met f y=>exact ⟨_,x⟩
 | ext φ=>obtain ⟨_,e,_⟩:=x;exact e
theorem HOk.none_of {P:Program}{w:World}{H:Hp}{h:Heap}{a:Addr} (x:HOk P w H h) (e:h.get? a=none):H a=none:=by
 cases q:H a with
 | none=>rfl
 | some o=>obtain ⟨u,z⟩:=(x a o q).get;rw [e]at z;cases z
theorem zmn {p:Program}{mg:Str->Option Value}{h:Heap} (G:h.Ns mainGlobals mg) (B:∃ mb,h.Ns builtinsNs mb∧∀ x:Str,x ≠ "__name__" -> mb x=bootBuiltins x) (nl:h.NoLimit) :
   ∃ loose mb,PySem.W.TopRead p loose mg mb h:=by
 obtain ⟨o,es,ep,ho,hd,hk,hf⟩:=id G
 obtain ⟨mb,b1,b2⟩:=B
 refine ⟨es.toList.map fun e=>match e.key with | .str y _=>y | _=>Str.empty,mb,G,b1,nl,b2,fun x _ hx _ _ _=>?_⟩
 rw [<- hf]
 unfold nsFind findBy
 cases q:es.find? fun e=>e.key.isStr x with
 | none=>rfl
 | some e =>
   refine absurd (List.mem_map.mpr ⟨e,?_,?_⟩) hx
   . rw [Array.mem_toList_iff];exact Array.mem_of_find?_eq_some q
   . have:=Array.find?_some q
     cases hk:e.key with
     | str y t=>rw [hk]at this;exact beq_iff_eq.mp this
     | _=>rw [hk]at this;cases this
structure XC (K:PySem.W.Frag) (x:Str) (C:Addr):Prop where
 a:PySem.W.nsIn K mainGlobals x=some (some (.ref C))
 ex:PySem.W.excIn K C [.type "ValueError",.type "Exception",.type "BaseException",.type "object"] "ValueError.__new__" = true
section
variable {X:Cx}{x:Str}{C:Addr}{WX:Addr->Hp->Prop}{np p1 cpos pos:Pos}{m:Str}{j:Option Str}
theorem znh {e:Expr}{te:TE} (hc:X.calm=true) (hx:X.ex=[]) (hg:Gl X x) (xo:XOk X WX) (xc:XC X.K x C) (he:PE X e te) (hte:∀ σ H Q,(∀ v,Q v H)->te σ H Q)
   (hs:starEach [e] X.env=(false,eval e X.env) :: starEach [] X.env:=by rfl) (hdb:(x == ("__debug__":Str))=false:=by decide) :
   PS X (.Raise (some (.Call (.Name x np) [e] [] cpos)) none pos) (fun _ _ H=>WX C H):=by
 intro pins s σ H D I h
 obtain ⟨loose,mb,T⟩:=zmn (p:=X.prog) I.mod.glob I.mod.blt I.mod.nolimit
 have O:=(PySem.W.own_of_in I.mod.kin T xc.a xc.ex)
 have O':=O.keeps I.bk
 obtain ⟨tl,N,nm,q,bs,hdct,sn,sub,ab,col,dd,k0,k1,k2,k3,k5,mN,hC,hN,hni,TL⟩:=O.obj
 refine wpAny_Raise_call_subT (C:=C) (nm:=nm) (q:=q) (N:=N) (bs:=bs) (bm:=tl) (hdct:=hdct) (sn:=sn) (sub:=sub) (ab:=ab) (col:=col) (dd:=dd) (k0:=k0) (k1:=k1) (k2:=k2) (k3:=k3) (k5:=k5)
   PySem.F.excBase_ValueError (mN:=mN) (TL.hasType PySem.F.excBase_ValueError.hasBase) (I.ok.hd hc) (by rw [hs];rfl) hni (zeD I hg O.bound ⟨rfl,?_⟩ hdb)
 have ha:=(zbq he zb1 hs) cpos pins s σ H (fun vs H1=>vs.length=1∧H1=H) I (hte _ _ _ fun v=>⟨rfl,rfl⟩)
 rw [hs]at ha ⊢
 refine Calls.evalArgs_plain (wpAny_mono ha (fun vs s₂ hv=>?_) fun _ _ y=>y)
 obtain ⟨ws,H1,I2,r,hl,rfl⟩:=hv
 refine ⟨rfl,?_,I2.bk _ _ hC,hN.keeps I2.bk,TL.keeps I2.bk,fun h' a hm=>?_⟩
 . show vs.length<=sizeLine
   rw [<- r.length,hl];decide
 . obtain ⟨t,ht,_,_⟩:=hm.there
   have hn:H1 a=none:=I2.hok.none_of hm.new
   exact xo.thr false pins σ H1 _ a C (I2.kept (t':=s₂.toks) hm.keeps) ⟨I2.lone hm.new hn (fun z=>by rw [hx]at z;exact nomatch z),_,_,ht,rfl,rfl,rfl,.inl ⟨rfl,rfl⟩⟩ h
end
end L2
end
section
namespace L2
open PySem PySem.Spec PyProof.Rows
section
variable {X:Cx}{scope:Scope}{N:List Str}{js:List (Option Nat)}{tg iter elt:Expr}{ifs:List Expr}{wi:TI}{g:TG}{tc:TT}{te:TE}{pos:Pos}
structure ziR (X:Cx) (WX:Addr->Hp->Prop) (scope:Scope) (N:List Str) (tg elt:Expr) (ifs:List Expr) (g:TG) (tc:TT) (te:TE):Prop where
 run:∀ (cl:List (Str×Addr)) (s₀:Shared) (H₀:Hp) (fp:List Addr) (XE:Value->Shared->Prop),zc1 (CX1 X.prog X.w) ((zbE X scope N cl s₀ H₀ fp).wish XE) (EW WX) ->
   PG ((zbE X scope N cl s₀ H₀ fp).wish XE) tg g∧zfe ((zbE X scope N cl s₀ H₀ fp).wish XE) ifs tc∧PE ((zbE X scope N cl s₀ H₀ fp).wish XE) elt te
theorem zpo {WX:Addr->Hp->Prop}{L:Addr}{E:Value->Shared->Prop}{RR:Value->Addr->Result->Shared->Prop}{Q:VK}{pins:List (Addr×Obj)}{σ:St}{H1:Hp}{s2:Shared}{J:It}{it:Addr}{fp:List Addr}{tn:Nat->Heap->Prop}
   {cl:List (Str×Addr)} (hc:X.calm=true) (hex:X.ex=[]) (hst:∃ o,X.stack=X.env :: o) (hfr:X.env.frame=some L) (S:zcF X scope N js) (Pt:ziR X WX scope N tg elt ifs g tc te) (hcl:closureFor scope X.env=pure cl)
   (h1:∀ x c,cl.lookup x=some c->(x,NameKind.free)∈scope.names∧X.env.cells.lookup x=some c)
   (h2:∀ x c,(x,NameKind.free)∈scope.names->X.env.cells.lookup x=some c->cl.lookup x=some c)
   (I2:Inv X pins σ H1 s2) (T:ze7 X.prog X.w X.K tg J fp it tn) (st2:tn 0 s2.heap) (f2:∀ b∈fp,zcq X pins H1 b)
   (h:∀ D,H1 D=none->zhe J g tc te D σ H1 js Q)
   (hRR:∀ (D C:Addr) (s0 s':Shared) (H0 H':Hp) (m:Str->Option Value),Inv X pins σ H0 s0->C=s0.heap.objs.size->H' C=none->s'.heap.Ns C m->Inv X pins σ H' s'->Q (.ref D) H'->RR (.ref D) C (.ok .next) s')
   (hRX:∀ (D C:Addr) (s0 s':Shared) (H0 H':Hp) (m:Str->Option Value) (a Cc:Addr),Inv X pins σ H0 s0->C=s0.heap.objs.size->H' C=none->s'.heap.Ns C m->Inv X pins σ H' s'->Fl true X pins H' s'.heap a Cc->WX Cc H'->RR (.ref D) C (.error (.ref a)) s') :
   wpAny (model X.prog X.w) X.A (newList []) (fun acc s₃=>wpAny (model X.prog X.w) X.A (newFunctionEnv scope X.env.globals cl [] X.env.qual none .none (some X.env)) (fun cenv s₄ =>
     codeAny (model X.prog X.w) X.A (.compStart (.ListComp elt [⟨tg,iter,ifs,0⟩] scope pos) 0 (.ref it) acc { cenv with scope:=relabel scope X.env }) (RR acc cenv.locals) s₄) E s₃) E s2:=by
 obtain ⟨W,⟨m0,w0⟩,turn⟩:=h s2.heap.objs.size (I2.hok.fresh (Nat.le_refl _))
 refine wpAny_newObj_type (wpAny_newFunctionEnv S.cell (by intro y hy;simp at hy) (fun h₁ hns₁ hsb₁=>?_) S.kind)
 dsimp only at hns₁ hsb₁ ⊢
 have I3:Inv X pins σ (upd H1 s2.heap.objs.size (.lst [])) { s2 with heap:=s2.heap.push { cls := .type "list",dict:=none,data := .seq ([]:List Value).toArray } } :=
   I2.lnew (its:=[]) (t':=s2.toks) .nil (Nat.zero_le _)
 generalize hH3:(upd H1 s2.heap.objs.size (.lst []))=H3 at I3 w0
 generalize hs3:({ s2 with heap:=s2.heap.push { cls := .type "list",dict:=none,data := .seq ([]:List Value).toArray } }:Shared)=s3 at I3
 have e3:s2.heap.push { cls := .type "list",dict:=none,data := .seq ([]:List Value).toArray }=s3.heap:=by rw [<- hs3]
 rw [e3]at hns₁ hsb₁ ⊢
 have hsz:s3.heap.objs.size=s2.heap.objs.size+1:=by rw [<- e3,Heap.size_push]
 have hlt2:∀ b∈fp,b < s2.heap.objs.size:=fun b hb=>by
   obtain ⟨o,ho,_⟩:=T.obj 0 _ st2 b hb
   exact Heap.lt_size ho
 have hlt3:∀ b∈fp,b < s3.heap.objs.size:=fun b hb=>by rw [hsz];exact Nat.lt_succ_of_lt (hlt2 b hb)
 have f3:∀ b∈fp,zcq X pins H3 b:=fun b hb=>⟨by rw [<- hH3,zN (Nat.ne_of_lt (hlt2 b hb))];exact (f2 b hb).1,(f2 b hb).2⟩
 have old:∀ b o,s3.heap.get? b=some o->h₁.get? b=some o:=fun b o e=>hsb₁.extBut b o (Nat.ne_of_lt (Heap.lt_size e)) (Heap.get?_push_of_some _ e)
 have old2:∀ b o,s2.heap.get? b=some o->h₁.get? b=some o:=fun b o e=>old b o (by rw [<- e3];exact Heap.get?_push_of_some _ e)
 have st4:tn 0 h₁:=T.keep 0 _ _ st2 fun b _ o e=>old2 b o e
 have I4:∀ t',Inv (zbE X scope N cl s3 H3 fp) [] (zdO js σ) H3 { s3 with heap:=h₁,toks:=t' }:=fun t'=>zoe S I3 f3 hlt3 h1 h2 hns₁ old
 generalize hXE:(fun e s'=>notedBy (model X.prog X.w) X.A (compEnvC scope cl s3.heap.objs.size X.env) (fun e s''=>RR (.ref s2.heap.objs.size) s3.heap.objs.size (.error e) s'') e s':Value->Shared->Prop)=XE
 have hp:zc1 (CX1 X.prog X.w) ((zbE X scope N cl s3 H3 fp).wish XE) (EW WX):=fun pins' σ' Ha sa e sb Ia c=>by
   have Ja:Inv (zbE X scope N cl s3 H3 fp) [] σ' Ha sa:=⟨Ia.ok.unwish,Ia.os,Ia.bare,Ia.base,Ia.loc,Ia.cell,Ia.free,Ia.freeC,(fun p hp=>nomatch hp),Ia.hok,Ia.len⟩
   obtain ⟨a,Cc,Hb,rfl,Ib,fb,⟨C',e',q⟩,un⟩:=CX1.inv (zjF I3 f3 Ja) hex c
   cases e'
   obtain ⟨m,⟨o,es,ep,ho,r⟩,_⟩:=Ja.loc
   have ho:sa.heap.get? s3.heap.objs.size=some o:=ho
   obtain ⟨sl,hb⟩:=un.any ho Ja.free ς
   have nb:sb.heap.Ns s3.heap.objs.size m:=⟨_,es,ep,hb,r⟩
   rw [<- hXE]
   show wpAny (model X.prog X.w) X.A (noteFrame (.ref a) X.env) (fun _ s''=>RR (.ref s2.heap.objs.size) s3.heap.objs.size (.error (.ref a)) s'') _ sb
   exact zhk (X:=X) Ib.ok.frames hst hfr (fun b z=>by rw [hex]at z;exact nomatch z) Ib fb fun sc Ic fc kc=>hRX _ _ s3 sc H3 Hb m a Cc I3 rfl (un.free _ o ho Ja.free ς) (kc _ _ nb) Ic fc q
 obtain ⟨pg,pif,pe⟩:=Pt.run cl s3 H3 fp XE hp
 have stat:∀ {H':Hp} {pl:List (Addr×Obj)},(∀ b∈fp,H' b=none)->pl=[]->∀ b∈fp,zcq ((zbE X scope N cl s3 H3 fp).wish XE) pl H' b:=fun hn e b hb=>by
   subst e
   refine ⟨hn b hb,Nat.ne_of_lt (hlt3 b hb),fun z=>?_,.inl hb,fun x c hc=>(f3 b hb).2.2.2.2.1 x c (h1 x c hc).2,fun p hp=>(List.not_mem_nil (show p∈([]:List (Addr×Obj)) from hp)).elim⟩
   rcases List.mem_cons.mp (I3.stkSub b z) with e | e
   . exact (f3 b hb).2.1 e
   . exact (f3 b hb).2.2.1 e
 have loop:∀ s₄:Shared,s₄={ s3 with heap:=h₁,toks:=s2.toks+([]:List (Str×Value)).length } ->
     codeAny (model X.prog X.w) X.A (.compLoop (.ListComp elt [⟨tg,iter,ifs,0⟩] scope pos) 0 (.ref it) (.ref s2.heap.objs.size) (compEnvC scope cl s3.heap.objs.size X.env)) (RR (.ref s2.heap.objs.size) s3.heap.objs.size) s₄:=by
   rintro s₄ rfl
   refine codeAny_loop rfl (fun n s'=>∃ i σ' H',Inv ((zbE X scope N cl s3 H3 fp).wish XE) [] σ' H' s'∧tn i s'.heap∧(∀ b∈fp,H' b=none)∧W i n σ' H') ?_ m0 ⟨0,zdO js σ,H3,(I4 _).wish XE,st4,fun b hb=>(f3 b hb).1,w0⟩
   rintro n s5 ⟨i,σ5,H5,I5,st5,fr5,w5⟩
   show wpAny _ X.A ((compTurn (.ListComp elt [⟨tg,iter,ifs,0⟩] scope pos) 0 (.ref it) (.ref s2.heap.objs.size) (compEnvC scope cl s3.heap.objs.size X.env)).onRaise (fun x=>do noteFrame x (compEnvC scope cl s3.heap.objs.size X.env);theTreesLotGoes x)) _ _ s5
   refine wpAny_noted ?_
   rw [compTurn_list]
   have nox:∀ {α:Type} {t:Sem α} {Q:α->Shared->Prop} {E':Value->Shared->Prop} {s':Shared},wpAny (model X.prog X.w) X.A t Q (fun _ _=>False) s'->wpAny (model X.prog X.w) X.A t Q E' s':=fun h=>wpAny_mono h (fun _ _ x=>x) fun _ _ x=>x.elim
   have yox:∀ {α:Type} {t:Sem α} {Q:α->Shared->Prop} {s':Shared},wpAny (model X.prog X.w) X.A t Q XE s'->wpAny (model X.prog X.w) X.A t Q (notedBy (model X.prog X.w) X.A (compEnvC scope cl s3.heap.objs.size X.env) (fun e s''=>RR (.ref s2.heap.objs.size) s3.heap.objs.size (.error e) s'')) s':=fun h=>by subst hXE;exact h
   refine wpAny_bind (wpAny_standAt (wpAny_bind ?_))
   rcases turn i n σ5 H5 w5 with ⟨stop,qn⟩ | ⟨go,step⟩
   . refine nox (thn (T.done ((zbE X scope N cl s3 H3 fp).wish XE) rfl rfl rfl hc i [] s5 σ5 H5 _ I5 (stat fr5 rfl) st5 stop) fun r s6 ⟨hr,I6⟩=>?_)
     subst hr
     obtain ⟨m6,hn6,_⟩:=id I6.loc
     exact wpAny_pure (hRR _ _ s3 s6 H3 H5 m6 I3 rfl I6.free hn6 (zjF I3 f3 I6.unwish) qn)
   . refine nox (thn (T.item ((zbE X scope N cl s3 H3 fp).wish XE) rfl rfl rfl hc i [] s5 σ5 H5 _ I5 (stat fr5 rfl) st5 go) fun r s6 ⟨u,hr,h6⟩=>?_)
     subst hr
     refine wpAny_bind (nox (thn h6 fun _ s7 ⟨x,H7,I7,r7,y7,st7,fr7⟩=>?_))
     have I7':=I7.pinned (stat fr7 rfl) (T.obj _ _ st7)
     refine wpAny_bind (yox (thn (pg _ s7 σ5 H7 x u _ I7' r7 (step x H7 y7)) fun _ s8 ⟨σ8,H8,I8,q8⟩=>?_))
     refine wpAny_bind (yox (thn (pif _ s8 σ8 H8 _ I8 q8) fun ok s9 ⟨H9,I9,q9⟩=>?_))
     have again:∀ {σa:St} {Ha:Hp} {sa:Shared} {m':Nat},Inv ((zbE X scope N cl s3 H3 fp).wish XE) ([]++zfj fp s7.heap) σa Ha sa->m' < n->W (i+1) m' σa Ha->∃ m,m < n∧∃ i σ' H',Inv ((zbE X scope N cl s3 H3 fp).wish XE) [] σ' H' sa∧tn i sa.heap∧(∀ b∈fp,H' b=none)∧W i m σ' H':=fun {σa Ha sa m'} Ia hm wa=>by
       refine ⟨m',hm,i+1,σa,Ha,Ia.unpinned,T.keep _ _ _ st7 fun b hb o e=>(Ia.pin (b,o) (List.mem_append_right _ (List.mem_append_right _ (zfA hb e)))).1,fun b hb=>?_,wa⟩
       obtain ⟨o,e,d⟩:=T.obj _ _ st7 b hb
       exact (Ia.pin (b,o) (List.mem_append_right _ (List.mem_append_right _ (zfA hb e)))).2.1
     cases ok with
     | false =>
       obtain ⟨m',hm,wa⟩:=q9
       exact wpAny_pure ⟨rfl,again I9 hm wa⟩
     | true =>
       refine wpAny_bind (wpAny_bind (yox (thn (pe _ s9 σ8 H9 _ I9 q9) fun y sa ⟨vy,Ha,Ia,ra,xs,hD,hz,m',hm,wa⟩=>?_)))
       refine wpAny_bind (yox (thn (zjj _ sa σ8 Ha (.ref s2.heap.objs.size) [vy] (.ref s2.heap.objs.size) [y] (fun _ H'=>H'=upd Ha s2.heap.objs.size (.lst (xs++[vy]))) Ia rfl (.cons ra .nil) ⟨_,_,_,rfl,rfl,hD,hz,rfl⟩) fun z sb ⟨vz,Hb,Ib,rb,eb⟩=>?_))
       subst eb
       exact wpAny_pure (wpAny_pure ⟨rfl,again Ib hm wa⟩)
 exact codeAny_compStart_list (loop _ (by rw [<- hs3])) (T.self _ 0 _ _ _ st4 (loop _ (by rw [<- hs3])))
theorem zpn {WX:Addr->Hp->Prop}{L:Addr} (hc:X.calm=true) (xo:XOk X WX) (hex:X.ex=[]) (hst:∃ o,X.stack=X.env :: o) (hfr:X.env.frame=some L) (S:zcF X scope N js) (hi:PI X tg iter wi) (Pt:ziR X WX scope N tg elt ifs g tc te) (hs:∀ x,foldedSetIterable iter X.env x=pure x:=by intro _;rfl) :
   PE X (.ListComp elt [⟨tg,iter,ifs,0⟩] scope pos) (zju js wi g tc te):=by
 intro pins s σ H Q I h
 obtain ⟨cl,hcl,h1,h2⟩:=S.clos I
 rw [eval_ListComp]
 refine wpAny_comprehension_free (use:=none) (cl:=cl) rfl hs hcl S.kind (fun x hx hl=>by rw [S.names x hx,hl]) ?_
 refine wpAny_mono (hi pins s σ H _ I h) (fun v s1 p1=>wpAny_mono p1 (fun itv s2 p2=>?_) fun _ _ e=>e) fun _ _ e=>e
 obtain ⟨it,fp,tn,J,H2,e,I2,T,st2,f2,r2⟩:=p2
 subst e
 refine zpo (WX:=WX) (L:=L) (RR:=fun acc C=>compPost (model X.prog X.w) X.A X.xe none (EP X pins σ Q) acc C) hc hex hst hfr S Pt hcl h1 h2 I2 T st2 f2 r2 ?_ ?_
 . intro D C s0 s' H0 H' m I0 hC hn hns I' q
   exact ⟨m,hns,fun h' hs'=>⟨.ref D,H',zjb I0 hC hn I' hs',rfl,q⟩⟩
 . intro D C s0 s' H0 H' m a Cc I0 hC hn hns I' f q
   refine ⟨m,hns,fun h' hs' cenv _=>zon (zjb I0 hC hn I' hs') ?_ fun s2 I2 f2=>xo.thr true pins σ H' s2 a Cc I2 f2 q⟩
   obtain ⟨l,oe,vs,g1,g2,g3,g4,g5⟩:=f
   obtain ⟨o,es,ep,ho,hd,_⟩:=hns
   have ne:∀ (r:Addr) (u:Obj) (ws:Array Value),s'.heap.get? r=some u->u.data = .fields ws->r≠C:=fun r u ws e d z=>by rw [z,ho]at e;cases e;rw [hd]at d;cases d
   obtain ⟨T,oT,ts,k1,k2,k3,k4,k5,k6⟩:=g5.elim (fun z=>nomatch z.1) id
   exact ⟨l,oe,vs,by rw [hs'.2 a (ne _ _ _ g1 g3)];exact g1,g2,g3,g4,.inr ⟨T,oT,ts,k1,k2,k3,by rw [hs'.2 T (ne _ _ _ k4 k5)];exact k4,k5,k6⟩⟩
end
end L2
end
section
namespace L2
open PySem
section
variable {prog:Program}{w:World}{A:Around}{E:Value->Shared->Prop}{h:Heap}{g:Array GenState}{d:Drawn}{t:Nat}{os:OsState}{a C:Addr}{o:Obj}{K:PySem.W.Frag}
theorem zmE {R:Result->Shared->Prop} (X:K.In h) (hm:PySem.W.mroIn K C (.type "object")=some true) (hx:h.get? a=some o) (hc:o.cls = .ref C) (hq:R (.ok (.ret (.ref C))) ⟨h,g,d,t,os⟩) :
   codeAny (model prog w) A (.call (.builtin "getset_descriptor.__get__") ⟨[.builtin "object.__class__",.ref a,.ref C],[]⟩) R ⟨h,g,d,t,os⟩:=by
 have hT5:(⟨h,g,d,t,os⟩:Shared).TypeIs (.builtin "object.__class__") "getset_descriptor":=F.typeOf_object_class
 have L:=PySem.W.looks_mroIn (M:=model prog w) X hm
 rw [<- F.owner_object_class]at L
 refine codeAny_call_builtin F.slot_gs_get.plain F.entry_gs_get (F.slot_gs_get.check _ _ _ _ _ _ _ _ hT5 (F.args_gs_get _ _ _) ?_)
 repeat (any_goals (first | assumption | (with_reducible refine wpAny_loadPart_at hx ?_;rw [hc]) | with_reducible refine L.at ?_ | wp_step))
 refine ⟨Code.quiet_builtin _ ϰ,codeAny_builtin F.entry_object_class ?_⟩
 repeat (any_goals (first | assumption | (with_reducible refine wpAny_loadPart_at hx ?_;rw [hc]) | with_reducible refine L.at ?_ | wp_step))
theorem znO {tk:Tok}{Q:Fin->Shared->Prop} (X:K.In h) (hm:PySem.W.mroIn K C (.type "object")=some true) (hf:PySem.W.findIn K (.ref C) "__class__" = some (some (.builtin "object.__class__"))) (hx:h.get? a=some o) (hc:o.cls = .ref C) (hq:Q (.done (.ret (.ref C))) ⟨h,g,d,t,os⟩) :
   wpAny (model prog w) A (Builtin.«object.__getattribute__» ⟨[.ref a,.str "__class__" tk],[]⟩) Q E ⟨h,g,d,t,os⟩:=by
 have hT5:(⟨h,g,d,t,os⟩:Shared).TypeIs (.builtin "object.__class__") "getset_descriptor":=F.typeOf_object_class
 have f5:=F.typeOf_object_class
 have f6:=F.slot_gs_get.lookup
 have f7:=F.slot_gs_set.lookup
 have L:=PySem.W.looks_findIn (M:=model prog w) X hf
 repeat (any_goals (first | assumption | (with_reducible refine wpAny_loadPart_at hx ?_;rw [hc]) | with_reducible refine L.at ?_ | wp_step))
 refine zmE X hm hx hc ?_
 repeat (any_goals (first | assumption | wp_step))
theorem zlZ {M:Model}{nameV:Value}{Q:Unit->Shared->Prop} (X:K.In h) (hB:PySem.W.mroIn K C (.type "BaseException")=some true) (hx:h.get? a=some o) (hc:o.cls = .ref C) (hq:Q () ⟨h,g,d,t,os⟩) :
   wpAny M A (checkBuiltinCall "BaseException.__getattribute__" ⟨[.ref a,nameV],[]⟩) Q E ⟨h,g,d,t,os⟩:=by
 have hk:builtinKind "BaseException.__getattribute__" = some .slot:=by decide +kernel
 have hsplit:splitId "BaseException.__getattribute__" = some ("BaseException", "__getattribute__"):=by decide +kernel
 have L:=PySem.W.looks_mroIn (M:=M) X hB
 have ha:=F.args_bexc_ga (.ref a) nameV
 simp only [checkBuiltinCall,hk,hsplit]
 refine wpAny_bind ?_
 . unfold isInstance
   repeat (first | (with_reducible refine wpAny_loadPart_at hx ?_;rw [hc]) | with_reducible refine L.at ?_ | wp_step)
   exact hq
theorem zo6 {tk:Tok}{R:Result->Shared->Prop} (X:K.In h) (hm:PySem.W.mroIn K C (.type "object")=some true) (hB:PySem.W.mroIn K C (.type "BaseException")=some true) (hf:PySem.W.findIn K (.ref C) "__class__" = some (some (.builtin "object.__class__"))) (hx:h.get? a=some o) (hc:o.cls = .ref C)
   (hq:R (.ok (.ret (.ref C))) ⟨h,g,d,t,os⟩):codeAny (model prog w) A (.call (.builtin "BaseException.__getattribute__") ⟨[.ref a,.str "__class__" tk],[]⟩) R ⟨h,g,d,t,os⟩ :=
 codeAny_call_builtin (by first | exact F.slot_bexc_ga.plain | decide +kernel | skip) F.entry_bexc_ga (zlZ X hB hx hc (znO X hm hf hx hc hq))
theorem zm9 {tk:Tok}{Q:Value->Shared->Prop} (X:K.In h) (hm:PySem.W.mroIn K C (.type "object")=some true) (hB:PySem.W.mroIn K C (.type "BaseException")=some true) (hf:PySem.W.findIn K (.ref C) "__class__" = some (some (.builtin "object.__class__")))
   (hga:PySem.W.findIn K (.ref C) "__getattribute__" = some (some (.builtin "BaseException.__getattribute__"))) (hgn:PySem.W.findIn K (.ref C) "__getattr__" = some none) (hx:h.get? a=some o) (hc:o.cls = .ref C) (hq:Q (.ref C) ⟨h,g,d,t,os⟩) :
   wpAny (model prog w) A (getAttrBy (.ref a) (.str "__class__" tk) false) Q E ⟨h,g,d,t,os⟩:=by
 have f3:=PySem.F.excAttr_ValueError.ga.bind (.ref a)
 have hx2:(Value.builtin "BaseException.__getattribute__" == Value.builtin "object.__getattribute__")=false:=by decide +kernel
 have hx1:(onTheHeap (Value.ref C) && Value.builtin "BaseException.__getattribute__" == Value.builtin "object.__getattribute__")=false:=by rw [hx2];rfl
 have L1:=PySem.W.looks_findIn (M:=model prog w) X hga
 have L2:=PySem.W.looks_findIn (M:=model prog w) X hgn
 repeat (any_goals (first | assumption | (with_reducible refine wpAny_loadPart_at hx ?_;rw [hc]) | with_reducible refine L1.at ?_ | with_reducible refine L2.at ?_ | wp_step))
 refine zo6 X hm hB hf hx hc ?_
 repeat (any_goals (first | assumption | wp_step))
theorem zpr {Q:Option Value->Shared->Prop} (X:K.In h) (hm:PySem.W.mroIn K C (.type "object")=some true) (hB:PySem.W.mroIn K C (.type "BaseException")=some true) (hf:PySem.W.findIn K (.ref C) "__class__" = some (some (.builtin "object.__class__")))
   (hga:PySem.W.findIn K (.ref C) "__getattribute__" = some (some (.builtin "BaseException.__getattribute__"))) (hgn:PySem.W.findIn K (.ref C) "__getattr__" = some none) (hx:h.get? a=some o) (hc:o.cls = .ref C) (hq:Q (some (.ref C)) ⟨h,g,d,t+1,os⟩) :
   wpAny (model prog w) A (getAttr? (.ref a) "__class__") Q E ⟨h,g,d,t,os⟩:=by
 unfold getAttr? getAttrBy?
 repeat (any_goals (first | assumption | with_reducible apply zm9 X hm hB hf hga hgn hx hc | wp_step))
end
structure XF (K:PySem.W.Frag) (C:Addr):Prop where
 ob:PySem.W.mroIn K C (.type "object")=some true
 be:PySem.W.mroIn K C (.type "BaseException")=some true
 cl:PySem.W.findIn K (.ref C) "__class__" = some (some (.builtin "object.__class__"))
 ga:PySem.W.findIn K (.ref C) "__getattribute__" = some (some (.builtin "BaseException.__getattribute__"))
 gn:PySem.W.findIn K (.ref C) "__getattr__" = some none
 hd:PySem.W.hasDictIn K C=true
theorem zpv {K:PySem.W.Frag}{a C:Addr} (F:XF K C):PySem.W.KitX K (.ref a) (.ref C) (fun h=>∃ o,h.get? a=some o∧o.cls = .ref C) where
 ty:=fun M h X ⟨o,h1,h2⟩=>h2 ▸ (PySem.W.Looks.ld h1).andThen .now
 it:=fun _ _ X _=>by
   obtain ⟨cd,hcD,_⟩:=PySem.W.any_some F.hd
   unfold PySem.W.clsIn at hcD
   split at hcD
   . rename_i c' d' cd' sl' ho
     intro A' Q' E' s' k q
     unfold isType loadHead
     exact wpAny_bind (wpAny_loadPart (k _ _ (X _ _ ho)) (wpAny_pure q))
   . cases hcD
 ne:=fun h tp dd its n sl X htp=>by
   obtain ⟨cd,hcD,_⟩:=PySem.W.any_some F.hd
   refine Bool.eq_false_iff.mpr fun q=>?_
   have e:C=tp:=Value.ref.inj (beq_iff_eq.mp q)
   subst e
   unfold PySem.W.clsIn at hcD
   split at hcD
   . rename_i c' d' cd' sl' ho
     rw [X _ _ ho]at htp
     cases htp
   . cases hcD
 ca:=fun {prog w A E Q s} X ⟨o,h1,h2⟩ q=>by
   obtain ⟨h,g,d,t,os⟩:=s
   exact zpr X F.ob F.be F.cl F.ga F.gn h1 h2 q
end L2
end
section
namespace L2
open PySem PySem.Spec PyProof.Rows
structure zdS (k:Nat) (A:Around):Prop where
 dp:A.depth+3 * k+5 < recursionLimit
 un:A.units+16 * k+200 < cLine
theorem zO.loud {k:Nat}{A:Around}{o:Option Value} (r:zO k A):zdS k (A.mark o):=⟨r.dp,r.un⟩
theorem zdS.deeper {k:Nat}{A:Around} (r:zdS (k+1) A) (env:Env):zdS k (A.deeper env) :=
 ⟨by have:=r.dp;show A.depth+1+3 * k+5 < _;omega,by have:=r.un;show A.units+3+16 * k+200 < _;omega⟩
noncomputable abbrev Cx.loud (X:Cx) (A:Around):Cx:={ X with A:=A,calm:=false }
section
variable {X:Cx}{pins:List (Addr×Obj)}{σ:St}{H:Hp}{s:Shared}{A:Around}
theorem Inv.loud (I:Inv X pins σ H s) (hf:A.frames=X.A.frames):Inv (X.loud A) pins σ H s :=
 ⟨⟨I.ok.mod,I.ok.kind,I.ok.glob,I.ok.blt,I.ok.above,I.ok.inj,I.ok.has,I.ok.cab,(fun z=>nomatch z),hf.trans I.ok.frames,I.ok.stk,I.ok.exf,I.ok.bs,I.ok.bsz,I.ok.noex,I.ok.exfs,I.ok.funs,I.ok.frf⟩,I.os,I.bare,I.base,I.loc,I.cell,I.free,I.freeC,I.pin,I.hok,I.len⟩
theorem Inv.calmed (I:Inv (X.loud A) pins σ H s) (ok:X.Ok):Inv X pins σ H s:=⟨ok,I.os,I.bare,I.base,I.loc,I.cell,I.free,I.freeC,I.pin,I.hok,I.len⟩
end
noncomputable def FnH (P:Program) (w:World) (K:PySem.W.Frag) (mg:Str->Option Value) (base:Heap) (k:Nat) (f:Addr) (fd:FuncData) (ps:List Str) (sp:List V->Hp->VK->Prop):Prop :=
 ∀ (A:Around) (outer:List Env) (s:Shared) (H:Hp) (args:Args) (us:List Value) (vs:List V) (Q:VK),zdS k A->zdb P w K mg base A outer s H->BindsTo s fd args (ps.zip us)->zE vs us->vs.length=ps.length->sp vs H Q ->
   codeAny (model P w) A (.call (.ref f) args) (fun r s'=>match r with | .ok (.ret u)=>CE outer P w H s Q u s' | _=>False) s
section
variable {P:Program}{w:World}{K:PySem.W.Frag}{mg:Str->Option Value}{base:Heap}
theorem Fun.okH {x qual:Str}{st:Stmt}{f:Addr}{fd:FuncData}{N ps:List Str}{k:Nat}{sp:List V->Hp->VK->Prop} (F:Fun K x qual st f fd) (S:zX N ps (zG st))
   (hbody:∀ (cdv:Value) (A:Around) (outer:List Env) (s:Shared) (H:Hp) (vs:List V) (Q:VK),zdS k (A.deeper (envOfC qual (zG st) s.heap.objs.size f cdv))->sp vs H Q ->
     ∃ t,PSs ((zbS CX0 P w K mg base N qual (zG st) f cdv A outer s H E0).loud (A.deeper (envOfC qual (zG st) s.heap.objs.size f cdv))).nox (zb3 st) t∧t { nx:=fun _ H'=>Q .non H',rt:=Q } (start N vs) H) :
   FnH P w K mg base (k+1) f fd ps sp:=by
 obtain ⟨oc,od,kV,doc,pm,an,cdv,ct,osl,rfl,lk,hcd⟩:=F.ex
 intro A outer s H args us vs Q hr e0 hb r hl hsp
 have KX:K.In s.heap:=e0.mod.kin.keeps fun b o e=>(e0.bs b o e).1
 have lim:s.heap.NoLimit:=e0.mod.nolimit.keeps fun b o e=>(e0.bs b o e).1
 have hkind:∀ y∈ps.zip us,(zG st).names.lookup y.1=some .local∨((zG st).names.lookup y.1=some .cell∧((cellsFrom (s.heap.objs.size+1) (zG st).names []).lookup y.1).isSome=true):=by
   rintro ⟨n,v⟩ hy
   rcases S.par n (List.of_mem_zip hy).1 with q | q
   . exact Or.inl q
   . exact Or.inr ⟨q,PySem.W.cellsFrom_some _ _ _ (.inl q)⟩
 refine codeAny_call_function (by have:=hr.dp;omega) (KX _ _ lk) rfl S.co S.gen rfl (PySem.W.codeRec_of KX hcd) (hb _ _ _ _ ?_)
 refine wpAny_newFunctionEnv_cells S.kind hkind fun env he s1 x=>?_
 subst he
 refine ⟨lim.keeps x.toInCall.keep,codeAny_func ?_⟩
 obtain ⟨t,ht,hq⟩:=hbody cdv A outer s H vs Q (hr.deeper _) hsp
 have e0':zdb P w K mg base { A with handled:=none } outer s H:=⟨e0.frames,e0.mod,e0.bs,e0.bsz,e0.funs,e0.frf,e0.hok,e0.bare⟩
 have I0:=ziV (CX:=CX0) (E:=E0) (qual:=qual) (f:=f) (cd:=cdv) (A:={ A with handled:=none }) S rfl e0' hl r x
 have I:Inv ((zbS CX0 P w K mg base N qual (zG st) f cdv A outer s H E0).loud (A.deeper (envOfC qual (zG st) s.heap.objs.size f cdv))).nox [] (start N vs) H s1 :=
   ⟨⟨I0.ok.mod,I0.ok.kind,I0.ok.glob,I0.ok.blt,I0.ok.above,I0.ok.inj,I0.ok.has,I0.ok.cab,(fun z=>nomatch z),Around.frames_deeper e0.frames,I0.ok.stk,I0.ok.exf,I0.ok.bs,I0.ok.bsz,I0.ok.noex,I0.ok.exfs,I0.ok.funs,I0.ok.frf⟩,I0.os,I0.bare,I0.base,I0.loc,I0.cell,I0.free,I0.freeC,I0.pin,I0.hok,I0.len⟩
 refine wpAny_mono (ht [] s1 (start N vs) H _ I hq) (fun fl s' hs=>?_) fun e s' hs=>hs.elim
 cases fl with
 | ret u=>obtain ⟨v,σ',H',J,rv,q⟩:=hs;exact ⟨v,H',J.os,J.bare,J.base,J.hok,rv,q⟩
 | next=>obtain ⟨σ',H',J,q⟩:=hs;exact ⟨.non,H',J.os,J.bare,J.base,J.hok,rfl,q⟩
 | brk=>obtain ⟨_,_,_,q⟩:=hs;exact q.elim
 | cont=>obtain ⟨_,_,_,q⟩:=hs;exact q.elim
end
noncomputable def zpP (sp:List V->Hp->VK->Prop) (n:Nat) (t:TA):TE:=fun σ H Q=>t σ H fun vs H1=>vs.length=n∧sp vs H1 Q
section
variable {X:Cx}{k:Nat}{f:Addr}{fd:FuncData}{ps:List Str}{sp:List V->Hp->VK->Prop}{x:Str}{p pos:Pos}{e:Expr}{es:List Expr}{t:TA}
theorem zpw (F:FnH X.prog X.w X.K X.mg X.base k f fd ps sp) (hr:zdS k X.A) (hg:Gl X x) (hm:X.mg x=some (.ref f)) (hk:PySem.W.keepIn X.K (.ref f)=true) (hb:zbZ X.K fd ps [])
   (ha:PA X (e :: es) t) (hdb:(x == ("__debug__":Str))=false:=by decide) (he:starEach (e :: es) X.env=(false,eval e X.env) :: starEach es X.env:=by rfl) (hpl:(backTo pos (starEach es X.env)).any (·.1)=false:=by rfl) :
   PE X (.Call (.Name x p) (e :: es) [] pos) (zpP sp ps.length t):=by
 intro pins s σ H Q I h
 refine wpAny_Call_Name_kw (zeD I hg hm ?_ hdb)
 refine PySem.W.callWith_K (h₀:=X.base) I.ok.mod.kin hk (thn (ha pos pins s σ H _ I h) fun us s1 ⟨vs,H1,I1,r,hl,q⟩=>⟨I1.kIn,?_⟩) he hpl
 have hb':=hb s1 us I1.kIn (by rw [List.append_nil,<- r.length];exact hl)
 rw [List.append_nil]at hb'
 refine wpAny_call (codeAny_mono (F X.A X.stack s1 H1 ⟨us,[]⟩ us vs Q hr I1.env0 hb' r hl q) fun r s' hq=>?_)
 cases r with
 | error e=>exact hq.elim
 | ok fl =>
   cases fl with
   | ret u=>exact I1.after hq
   | next=>exact hq.elim
   | brk=>exact hq.elim
   | cont=>exact hq.elim
end
section
variable {X:Cx}{pins:List (Addr×Obj)}{σ:St}{H:Hp}{s:Shared}{a:Addr}{ob:Obj}
theorem Inv.freezeX (I:Inv X pins σ H s) (l:zdT X pins H a) (ho:s.heap.get? a=some ob) {vs:Array Value} (hd:ob.data = .fields vs):Inv X pins σ (upd H a (.frz ob (.own a))) s:=by
 obtain ⟨n1,n2,n3⟩:=I.rec_ne ho hd
 have nb:∀ b o,X.s₀.heap.get? b=some o->b≠a:=fun b o e z=>by rw [z,l.new]at e;cases e
 have nh:∀ b o,H b=some o->b≠a:=fun b o e z=>by rw [z,l.free]at e;cases e
 refine ⟨I.ok,I.os,I.bare,⟨I.base.keep,I.base.slot,fun b o e n hx=>by rw [zN (nb b o e)];exact I.base.free b o e n hx,I.base.there,fun b xs e=>?_,fun b o u e=>?_,fun b ps e=>?_⟩,I.loc,I.cell,by rw [zN (Ne.symm n2)];exact I.free,
   fun x c e=>by rw [zN (n3 x c e)];exact I.freeC x c e,fun p hp=>?_,fun b o e=>?_,I.len⟩
 . have:=I.base.tups b xs e;rw [zN (nh b _ this)];exact this
 . have:=I.base.frzs b o u e;rw [zN (nh b _ this)];exact this
 . obtain ⟨m,q⟩:=I.base.tbls b ps e;exact ⟨m,by rw [zN (nh b _ q)];exact q⟩
 . obtain ⟨q1,q2,q3⟩:=I.pin p hp
   exact ⟨q1,by rw [zN (l.pn p hp)];exact q2,q3⟩
 . by_cases hb:b=a
   . subst hb
     rw [zbN]at e;cases e
     exact ⟨ho,ob,ho⟩
   . rw [zN hb]at e
     refine (I.hok b o e).stay (fun c u _ q=>q) (fun c q=>by rw [zN (nh c _ q)];exact q) fun c xs q=>by rw [zN (nh c _ q)];exact q
theorem Inv.forget {h':Heap}{m':Str->Option Value}{t':Nat} (I:Inv X pins σ H s) (hs:Heap.SameBut X.env.locals s.heap h') (hn:h'.Ns X.env.locals m'):Inv X pins (List.replicate X.N.length none) H { s with heap:=h',toks:=t' }:=by
 have neL:∀ b o,X.s₀.heap.get? b=some o->b≠X.env.locals:=fun b o e=>Nat.ne_of_lt (Nat.lt_of_lt_of_le (Heap.lt_size e) I.ok.above)
 have k:∀ b u,b≠X.env.locals->s.heap.get? b=some u->h'.get? b=some u:=fun b u hb e=>(hs.2 b hb).trans e
 refine ⟨I.ok,I.os,I.bare,⟨fun b o e n hb hx=>k b o (neL b o e) (I.base.keep b o e n hb hx),fun b o e n hb hx=>?_,I.base.free,fun b o e hx=>?_,I.base.tups,I.base.frzs,I.base.tbls⟩,⟨m',hn,fun i x v h1 h2=>?_⟩,fun x c e=>?_,I.free,I.freeC,fun p hp=>?_,fun b o e=>?_,ς⟩
 . obtain ⟨sl,q⟩:=I.base.slot b o e n hb hx;exact ⟨sl,k b _ (neL b o e) q⟩
 . obtain ⟨u,q⟩:=I.base.there b o e hx;exact ⟨u,k b u (neL b o e) q⟩
 . rw [List.getElem?_replicate]at h2;split at h2 <;> cases h2
 . obtain ⟨v,o,ho,hd⟩:=I.cell x c e;exact ⟨v,o,k c o (I.cne x c e) ho,hd⟩
 . obtain ⟨q1,q2,q3,q4⟩:=I.pin p hp;exact ⟨k _ _ q3 q1,q2,q3,q4⟩
 . refine (I.hok b o e).stay (fun c u hc q=>k c u (fun z=>?_) q) (fun _ q=>q) fun _ _ q=>q
   rcases hc with y | y
   . rw [<- y,z,I.free]at e;cases e
   . rw [z,I.free]at y;cases y
end
end L2
end
section
namespace L2
open PySem PySem.Spec PyProof.Rows
noncomputable def spK (K:PySem.W.Frag) (cs:List Value):List V->Hp->VK->Prop:=fun vs H Q=>∃ (a:Addr) (ob:Obj) (u:HO) (C:Addr) (bs:List Bool),vs=[.ref a]∧H a=some (.frz ob u)∧ob.cls = .ref C∧XF K C∧Paired (fun c b=>PySem.W.kitOne K (.ref C) c=some b) cs bs ∧
 ∀ H' q,(∀ b o,H b=some o->H' b=some o)->H q=none->H' q=some (.lst (bs.map .bl))->Q (.ref q) H'
noncomputable def WK (K:PySem.W.Frag) (cs:List Value) (CW:Addr) (D:zcK):Addr->Hp->Prop:=fun C H=>XF K C∧PySem.W.exmOne K (.ref C) (.ref CW)=some true∧∃ bs:List Bool,Paired (fun c b=>PySem.W.kitOne K (.ref C) c=some b) cs bs ∧
 ∀ H' q,(∀ b o,H b=some o->H' b=some o)->H q=none->H' q=some (.lst (bs.map .bl))->D.rt (.ref q) H'
noncomputable abbrev Cx.pinned (X:Cx) (pn:List (Addr×Obj)):Cx:={ X with pn:=pn }
section
variable {X:Cx}{x n fk:Str}{i k:Nat}{np np2 kp cp rp hp pos:Pos}{CW f L:Addr}{fd:FuncData}{ps:List Str}{cs:List Value}{body:List Stmt}
theorem zpd {pins:List (Addr×Obj)}{σ:St}{H:Hp}{s:Shared}{a C:Addr}{D:zcK} (hgx:Gl X x) (hmx:X.mg x=some (.ref CW)) (hdx:(x == ("__debug__":Str))=false)
   (F:FnH X.prog X.w X.K X.mg X.base k f fd ps (spK X.K cs)) (hr:zO k X.A) (hgf:Gl X fk) (hmf:X.mg fk=some (.ref f)) (hkf:PySem.W.keepIn X.K (.ref f)=true) (hbf:zbZ X.K fd ps []) (hps:ps.length=1) (hdf:(fk == ("__debug__":Str))=false)
   (hN:X.N.Nodup) (hi:X.N[i]?=some n) (hx:X.env.scope.names.lookup n=some .local) (hdn:(n == ("__debug__":Str))=false) (hcn:(n == ("__classdict__":Str))=false)
   (hst:starEach [.Name n np2] X.env=(false,eval (.Name n np2) X.env) :: starEach [] X.env)
   (I:Inv X pins σ H s) (fl:Fl true X pins H s.heap a C) (wk:WK X.K cs CW D C H) :
   wpAny (model X.prog X.w) X.A (handleBy (.ref a) X.env [.ExceptHandler (some (.Name x np)) (some n) [.Return (some (.Call (.Name fk kp) [.Name n np2] [] cp)) rp] hp]) (SP X pins D) X.xe s:=by
 obtain ⟨xf,hex,bs,hbs,q⟩:=wk
 refine wpAny_handleBy_cons (codeAny_handlers_test (zeD (X:=X.loud (X.A.mark (some (.ref a)))) (I.loud rfl) hgx hmx ?_ hdx)) (by intro q;cases q)
 obtain ⟨l,oe,vs,h1,h2,h3,h4,h5⟩:=id fl
 have LT:PySem.W.Looks (model X.prog X.w) s.heap (typeOf (.ref a)) (.ref C):=h2 ▸ (PySem.W.Looks.ld h1).andThen .now
 refine (PySem.W.exm_one I.kIn LT hex).here ?_
 refine codeAny_handlers_suite_as (zfF I fl fun s4 I4 f4 _=>zh8 I4 hN hi (.inl hx) (show zq (.ref a) (.ref a) from rfl) (fun s5 I5 hsb=>?_) (.inr hx))
 obtain ⟨l4,oe4,vs4,k1,k2,k3,k4,k5⟩:=f4
 have ho:s5.heap.get? a=some oe4:=by
   obtain ⟨b,sb,hb⟩:=hsb
   obtain ⟨_,n2,n3⟩:=I4.rec_ne k1 k3
   refine (sb.2 a ?_).trans k1
   rcases hb with z | z
   . rw [z];exact n2
   . exact fun y=>n3 _ _ z y.symm
 have I6:=I5.freezeX ⟨l4.new,l4.free,l4.pn⟩ ho k3
 have hil:i < σ.length:=by rw [I.len];exact (List.getElem?_eq_some_iff.mp hi).1
 have hS:PSs ((X.loud (X.A.mark (some (.ref a)))).nox) [.Return (some (.Call (.Name fk kp) [.Name n np2] [] cp)) rp] _ :=
   zgX (zgI (zpw (X:=(X.loud (X.A.mark (some (.ref a)))).nox) F hr.loud hgf hmf hkf hbf (zbq (zfJ (i:=i) hi (.inl hx) hdn hcn) zb1 hst) hdf hst rfl))
 refine wpAny_mono (hS pins s5 _ _ { nx:=fun _ _=>False,rt:=D.rt } ((I6.loud (A:=X.A.mark (some (.ref a))) rfl).wish _) ?_) (fun fw s6 hs=>?_) fun e s' hs=>hs.elim
 . refine ⟨.ref a,by rw [List.getElem?_set_self hil],hps.symm ▸ rfl,a,oe4,.own a,C,bs,rfl,zbN,k2,xf,hbs,fun H' r e1 e2 e3=>?_⟩
   have hr':r≠a:=fun z=>by rw [z,zbN]at e2;cases e2
   exact q H' r (fun b o e=>e1 b o (by rw [zN (fun z=>by rw [z,l.free]at e;cases e)];exact e)) (by rw [zN hr']at e2;exact e2) e3
 . cases fw with
   | ret u =>
     obtain ⟨v,σ7,H7,J7,rv,q7⟩:=hs
     have J8:Inv X pins σ7 H7 s6:=J7.unwish.calmed I.ok
     obtain ⟨m,hn,_⟩:=J8.loc
     exact wpAny_nameGoes hx hn (by rw [I.ok.kind];rfl) fun h' m' hn' hs'=>⟨v,_,H7,J8.forget hs' hn',rv,q7⟩
   | next=>obtain ⟨_,_,_,z⟩:=hs;exact z.elim
   | brk=>obtain ⟨_,_,_,z⟩:=hs;exact z.elim
   | cont=>obtain ⟨_,_,_,z⟩:=hs;exact z.elim
theorem znr {tb:zcK->TS} (hex:X.ex=[]) (hst0:∃ o,X.stack=X.env :: o) (hfr:X.env.frame=some L) (hgx:Gl X x) (hmx:X.mg x=some (.ref CW)) (hdx:(x == ("__debug__":Str))=false)
   (F:FnH X.prog X.w X.K X.mg X.base k f fd ps (spK X.K cs)) (hr:zO k X.A) (hgf:Gl X fk) (hmf:X.mg fk=some (.ref f)) (hkf:PySem.W.keepIn X.K (.ref f)=true) (hbf:zbZ X.K fd ps []) (hps:ps.length=1) (hdf:(fk == ("__debug__":Str))=false)
   (hN:X.N.Nodup) (hi:X.N[i]?=some n) (hx:X.env.scope.names.lookup n=some .local) (hdn:(n == ("__debug__":Str))=false) (hcn:(n == ("__classdict__":Str))=false)
   (hst:starEach [.Name n np2] X.env=(false,eval (.Name n np2) X.env) :: starEach [] X.env)
   (hb:∀ (pn:List (Addr×Obj)) (XE:Value->Shared->Prop) (D:zcK),zc1 (CX1 X.prog X.w) ((X.pinned pn).wish XE) (EW (WK X.K cs CW D))->PSs ((X.pinned pn).wish XE) body (tb D)) :
   PS X (.Try body [.ExceptHandler (some (.Name x np)) (some n) [.Return (some (.Call (.Name fk kp) [.Name n np2] [] cp)) rp] hp] [] [] pos) (fun D σ H=>tb D D σ H):=by
 intro pins s σ H D I h
 have back:∀ {XE:Value->Shared->Prop} {pl:List (Addr×Obj)} {σ':St} {H':Hp} {s':Shared},Inv ((X.pinned (X.pn++pins)).wish XE) pl σ' H' s'->Inv X pins σ' H' s':=fun J =>
   ⟨I.ok,J.os,J.bare,J.base,J.loc,J.cell,J.free,J.freeC,fun p hp=>J.pin p (List.mem_append_left _ hp),J.hok,J.len⟩
 refine wpAny_Try_except (wpAny_mono (hb (X.pn++pins) (fun e s₁=>wpAny (model X.prog X.w) X.A (noteFrame e X.env) (fun _ s₂=>wpAny (model X.prog X.w) X.A (setFlight e none) (fun _ s₃=>wpAny (model X.prog X.w) X.A (handleBy e X.env [.ExceptHandler (some (.Name x np)) (some n) [.Return (some (.Call (.Name fk kp) [.Name n np2] [] cp)) rp] hp]) (SP X pins D) X.xe s₃) X.xe s₂) X.xe s₁) D ?_ [] s σ H D ?_ h) (fun fw s1 hs=>?_) fun e s1 he=>he)
 . intro pl σ' Ha sa e sb Ia c
   obtain ⟨a,C,Hb,rfl,Ib,fb,⟨C',e',wk⟩,_⟩:=CX1.inv (back Ia) hex c
   cases e'
   exact zhk Ib.ok.frames hst0 hfr (fun b z=>by rw [hex]at z;exact nomatch z) Ib fb fun s2 I2 f2 _=>zfF I2 f2 fun s3 I3 f3 _ =>
     zpd hgx hmx hdx F hr hgf hmf hkf hbf hps hdf hN hi hx hdn hcn hst I3 f3 wk
 . exact ⟨⟨I.ok.mod,I.ok.kind,I.ok.glob,I.ok.blt,I.ok.above,I.ok.inj,I.ok.has,I.ok.cab,I.ok.hd,I.ok.frames,I.ok.stk,I.ok.exf,I.ok.bs,I.ok.bsz,I.ok.noex,I.ok.exfs,I.ok.funs,I.ok.frf⟩,I.os,I.bare,I.base,I.loc,I.cell,I.free,I.freeC,fun p hp=>I.pin p (by rw [List.append_nil]at hp;exact hp),I.hok,I.len⟩
 . cases fw with
   | next=>obtain ⟨σ',H',J,q⟩:=hs;exact zhX pins s1 σ' H' D (back J) q
   | brk=>obtain ⟨σ',H',J,q⟩:=hs;exact ⟨σ',H',back J,q⟩
   | cont=>obtain ⟨σ',H',J,q⟩:=hs;exact ⟨σ',H',back J,q⟩
   | ret u=>obtain ⟨v,σ',H',J,r,q⟩:=hs;exact ⟨v,σ',H',back J,r,q⟩
end
end L2
end
section
namespace L2
open PySem PySem.Spec PyProof.Rows
noncomputable def zf0 (K:PySem.W.Frag) (i:Nat) (c:Value):TE:=fun σ H Q=>∃ (a:Addr) (ob:Obj) (u:HO) (C:Addr) (b:Bool),σ[i]?=some (some (.ref a))∧H a=some (.frz ob u)∧ob.cls = .ref C∧XF K C∧PySem.W.kitOne K (.ref C) c=some b∧Q (.bl b) H
section
variable {X:Cx}{p p1 pos:Pos}{n:Str}{i:Nat}{ce:Expr}{vc:V}{c:Value}
theorem zl6 (c:Value):zdu X (.builtin "isinstance") (fun xs H Q=>∃ (a:Addr) (vc:V) (ob:Obj) (u:HO) (C:Addr) (b:Bool),xs=[.ref a,vc]∧(∀ w,zq vc w->w=c)∧H a=some (.frz ob u)∧ob.cls = .ref C∧XF X.K C∧PySem.W.kitOne X.K (.ref C) c=some b∧Q (.bl b) H):=by
 rintro pins s σ H xs us Q I r ⟨a,vc,ob,u,C,b,rfl,hc,ha,hcl,xf,hk,q⟩
 cases r with
 | cons r1 r2 =>
   cases r2 with
   | cons r2 r3 =>
     cases r3
     cases (show _=Value.ref a from r1)
     cases hc _ r2
     exact PySem.W.kia_one (zpv xf) I.kIn ⟨ob,(I.hok a _ ha).1,hcl⟩ hk (fun z=>nomatch z) fun tk=>⟨.bl b,H,I.tok tk,rfl,q⟩
theorem zeL (hg:Gl X "isinstance") (hm:X.mg "isinstance" = none) (hi:X.N[i]?=some n) (hx:Vis X.env.scope n) (hdn:(n == ("__debug__":Str))=false) (hcn:(n == ("__classdict__":Str))=false) (hc:PE X ce (tC vc)) (hvc:∀ w,zq vc w->w=c)
   (hs:starEach [.Name n p1,ce] X.env=(false,eval (.Name n p1) X.env) :: starEach [ce] X.env) (hs2:starEach [ce] X.env=(false,eval ce X.env) :: starEach [] X.env) (hpl:(backTo pos (starEach [ce] X.env)).any (·.1)=false) :
   PE X (.Call (.Name "isinstance" p) [.Name n p1,ce] [] pos) (zf0 X.K i c):=fun pins s σ H Q I ⟨a,ob,u,C,b,e,ha,hcl,xf,hk,q⟩ =>
 zeE (zl6 c) hg hm ϰ (zbq (zfJ hi hx hdn hcn) (zbq hc zb1 hs2) hs) ϑ ϑ hs hpl pins s σ H Q I ⟨.ref a,e,a,vc,ob,u,C,b,rfl,hvc,ha,hcl,xf,hk,q⟩
noncomputable def zgL (K:PySem.W.Frag) (i:Nat) (c1 c2 c3:Value):TA:=zeU (zf0 K i c1) (zeU (zf0 K i c2) (zeU (zf0 K i c3) zfY))
theorem is3 {K:PySem.W.Frag}{i:Nat}{c1 c2 c3:Value}{σ:St}{H:Hp}{Q:List V->Hp->Prop}{a C:Addr}{ob:Obj}{u:HO}{b1 b2 b3:Bool} (e:σ[i]?=some (some (.ref a))) (ha:H a=some (.frz ob u)) (hcl:ob.cls = .ref C) (xf:XF K C)
   (h1:PySem.W.kitOne K (.ref C) c1=some b1) (h2:PySem.W.kitOne K (.ref C) c2=some b2) (h3:PySem.W.kitOne K (.ref C) c3=some b3) (q:Q [.bl b1,.bl b2,.bl b3] H):zgL K i c1 c2 c3 σ H Q :=
 ⟨a,ob,u,C,b1,e,ha,hcl,xf,h1,a,ob,u,C,b2,e,ha,hcl,xf,h2,a,ob,u,C,b3,e,ha,hcl,xf,h3,q⟩
end
theorem zfa {H:Hp}{p b:Addr}{u o:HO} (hp:H p=none) (e:H b=some o):upd H p u b=some o:=by rw [zN (zdh e hp)];exact e
theorem zom {K:PySem.W.Frag}{c1 c2 c3 c4 c5 c6:Value}{vs:List V}{H:Hp}{Q:VK} (h:spK K [c1,c2,c3,c4,c5,c6] vs H Q) {N:List Str} (hN:N.length=2) :
   zgo (zfw (zfL (zgL K 0 c1 c2 c3)) (zhl 1)) (zjd (tOp zhS (ziK 1) (zfL (zgL K 0 c4 c5 c6)))) { nx:=fun _ H'=>Q .non H',rt:=Q } (start N vs) H:=by
 obtain ⟨a,ob,u,C,bs,rfl,ha,hcl,xf,hp,q⟩:=h
 cases hp with | cons h1 hp=>cases hp with | cons h2 hp=>cases hp with | cons h3 hp=>cases hp with | cons h4 hp=>cases hp with | cons h5 hp=>cases hp with | cons h6 hp =>
 cases hp
 have e0:start N [V.ref a]=[some (.ref a),none]:=by unfold start;rw [hN];rfl
 rw [e0]
 unfold zgo zfw zfL
 refine is3 rfl ha hcl xf h1 h2 h3 ⟨show 3<=sizeLine by decide,fun p hp=>?_⟩
 have hpa:a≠p:=fun z=>by rw [<- z,ha]at hp;cases hp
 refine ⟨.ref p,rfl,?_⟩
 dsimp only
 refine is3 rfl (by rw [zN hpa];exact ha) hcl xf h4 h5 h6 ⟨show 3<=sizeLine by decide,fun p2 hp2=>?_⟩
 have hpp:p≠p2:=fun z=>by rw [<- z,zbN]at hp2;cases hp2
 refine ⟨p,p2,[.bl _,.bl _,.bl _],_,rfl,rfl,by rw [zN hpp,zbN],zbN,show 6<=sizeLine by decide,fun d hd=>q _ d (fun b o e=>?_) ?_ zbN⟩
 . exact zfa hd (zfa hp2 (zfa hp e))
 . cases z:H d with
   | none=>rfl
   | some o=>rw [zfa hp2 (zfa hp z)]at hd;cases hd
end L2
end
section
namespace L2
open PySem
noncomputable def KP (K:PySem.W.Frag) (C:Addr):List Value->List Bool->Prop
 | [],[]=>True
 | c :: cs,b :: bs=>PySem.W.kitOne K (.ref C) c=some b∧KP K C cs bs
 | _,_=>False
theorem KP.pair {K:PySem.W.Frag}{C:Addr}:∀ {cs:List Value}{bs:List Bool},KP K C cs bs->Paired (fun c b=>PySem.W.kitOne K (.ref C) c=some b) cs bs
 | [],[],_=> .nil
 | c :: cs,b :: bs,h=> .cons h.1 h.2.pair
 | [],_ :: _,h=>h.elim
 | _ :: _,[],h=>h.elim
structure XBd (K:PySem.W.Frag) (x:Str) (C CW:Addr) (cs:List Value) (bs:List Bool):Prop where
 a:PySem.W.nsIn K mainGlobals x=some (some (.ref C))
 ex:PySem.W.excIn K C [.type "ValueError",.type "Exception",.type "BaseException",.type "object"] "ValueError.__new__" = true
 ob:PySem.W.mroIn K C (.type "object")=some true
 be:PySem.W.mroIn K C (.type "BaseException")=some true
 cl:PySem.W.findIn K (.ref C) "__class__" = some (some (.builtin "object.__class__"))
 ga:PySem.W.findIn K (.ref C) "__getattribute__" = some (some (.builtin "BaseException.__getattribute__"))
 gn:PySem.W.findIn K (.ref C) "__getattr__" = some none
 hd:PySem.W.hasDictIn K C=true
 sb:PySem.W.subIn K (.ref CW) (.type "BaseException")=some true
 k0:PySem.W.kitOne K (.ref C) (.ref CW)=some true
 ne:(C == CW)=false
 ki:KP K C cs bs
theorem XBd.all {K:PySem.W.Frag}{x:Str}{C CW:Addr}{cs:List Value}{bs:List Bool} (b:XBd K x C CW cs bs):XF K C∧PySem.W.exmOne K (.ref C) (.ref CW)=some true∧Paired (fun c b=>PySem.W.kitOne K (.ref C) c=some b) cs bs:=by
 refine ⟨⟨b.ob,b.be,b.cl,b.ga,b.gn,b.hd⟩,?_,b.ki.pair⟩
 have hne:¬ (Value.ref C == Value.ref CW)=true:=fun z=>by
   have e:C=CW:=Value.ref.inj (beq_iff_eq.mp z)
   have n:=b.ne
   rw [e]at n;simp at n
 have k:=b.k0
 unfold PySem.W.kitOne at k
 rw [if_neg hne]at k
 unfold PySem.W.exmOne
 rw [if_pos (by rw [b.sb];rfl)]
 exact k
theorem XBd.xc {K:PySem.W.Frag}{x:Str}{C CW:Addr}{cs:List Value}{bs:List Bool} (b:XBd K x C CW cs bs):XC K x C:=⟨b.a,b.ex⟩
end L2
end
section
namespace L2
open PySem PySem.Spec PyProof.Rows
noncomputable def zgG (lo c:Int) (n:Nat):It:=⟨fun i _=>i < n,fun i H x H'=>x = .int (lo+i * c)∧H'=H,fun i _=>n<=i⟩
theorem znA {P:Program}{w:World}{K:PySem.W.Frag}{tg:Expr} (it:Addr) (lo c:Int) (n:Nat):ze7 P w K tg (zgG lo c n) [it] it (fun i h=>IsRangeIter h it (lo+(i:Nat) * c) ((n:Int) - (i:Nat)) c) where
 mem:=by simp
 obj:=fun i h st b hb=>by
   have e:b=it:=by simpa using hb
   subst e
   exact ⟨_,st,fun v z=>by
     have z':Data.fields _=Data.cell v:=z
     cases z'⟩
 keep:=fun i h h' st k=>k it ς _ st
 item:=by
   intro X hP hw hK hc i pins s σ H E I hf st hg
   subst hP hw hK
   obtain ⟨f0,f1,f2,f3,f4,f5⟩:=hf it ς
   have W:=Walks.range (prog:=X.prog) (w:=X.w) (I.ok.hd hc) it lo c n
   refine W.item i s _ _ hg st fun v h' tk hv st' kk=>?_
   obtain ⟨t,rfl⟩:=hv
   have I1:Inv X pins σ H { s with heap:=h',toks:=tk }:=I.turned (fun b o hb e=>kk b o (by simpa using hb) e) f0 f1 f3 f4 f5
   exact ⟨_,rfl,zgV (s:={ s with heap:=h',toks:=tk }) (n :="range_iterator") st' rfl rfl ϑ ⟨.int (lo+i * c),H,I1,⟨t,rfl⟩,⟨rfl,rfl⟩,st',fun b hb=>(hf b hb).1⟩⟩
 done:=by
   intro X hP hw hK hc i pins s σ H E I hf st hg
   subst hP hw hK
   obtain ⟨f0,f1,f2,f3,f4,f5⟩:=hf it ς
   exact wpAny_pyNext_range_end (I.ok.hd hc) st (by have:n<=i:=hg;omega) fun h' eb=>⟨rfl,I.turned (t':=s.toks) (fun b o hb e=>eb b o hb e) f0 f1 f3 f4 f5⟩
 self:=fun _ _ _ _ _ st h=>wpAny_pyIter_rangeiter st h
noncomputable def rz3 (a b c:Int):Nat:=if a < b then ((b - a - 1) / c+1).toNat else 0
theorem zgy {a b c:Int} (hc:0 < c):Builtin.Range.rangeSize a b c=(rz3 a b c:Int):=by
 unfold Builtin.Range.rangeSize rz3
 rw [if_pos hc]
 split
 . have:=Int.ediv_nonneg (a:=b - a - 1) (b:=c) ω ω;omega
 . rfl
noncomputable def zpq (ta:TA):TI:=fun σ H R=>ta σ H fun vs H1=>∃ i j k:Int,vs=[.int i,.int j,.int k]∧(-1000000<=i∧i<=1000000∧-1000000<=j∧j<=1000000∧0 < k∧k<=1000000)∧R (zgG i k (rz3 i j k)) H1
theorem znC {a b c:Int} (h1:-1000000<=a) (h2:a<=1000000) (h3:-1000000<=b) (h4:b<=1000000) (h5:0 < c) (h6:c<=1000000):Builtin.Range.small a b c=true:=by
 unfold Builtin.Range.small
 have hz:Builtin.Range.rangeSize a b c<=2000001:=by
   rw [zgy h5]
   unfold rz3
   split
   . have:=Int.ediv_le_self c (show (0:Int)<=b - a - 1 by omega)
     have:=Int.ediv_nonneg (a:=b - a - 1) (b:=c) ω ω
     omega
   . decide
 have hz0:0<=Builtin.Range.rangeSize a b c:=by rw [zgy h5];omega
 simp only [Builtin.Range.rangeFitsLong,Bool.and_eq_true,Bool.or_eq_true,decide_eq_true_eq,beq_iff_eq]
 refine ⟨⟨⟨⟨⟨ω,ω⟩,ω,ω⟩,ω,ω⟩,ω,ω⟩,.inr ?_⟩
 rw [if_pos h5,Bool.and_eq_true,decide_eq_true_eq,decide_eq_true_eq]
 exact ⟨ω,ω⟩
section
variable {X:Cx}{tg:Expr}
theorem zpK {a b c:Expr}{ta:TA}{p pos:Pos} (hg:Gl X "range") (hm:X.mg "range" = none) (ha:PA X [a,b,c] ta) (hs:starEach [a,b,c] X.env=(false,eval a X.env) :: starEach [b,c] X.env) (hpl:(backTo pos (starEach [b,c] X.env)).any (·.1)=false) :
   PI X tg (.Call (.Name "range" p) [a,b,c] [] pos) (zpq ta):=by
 intro pins s σ H R I h
 refine Call_ (zeX I hg hm boot_range (PyProof.Rows.callWith_type1 (thn (ha pos pins s σ H _ I h) fun us s1 ⟨vs,H1,I1,r1,q1⟩=>?_) hs hpl))
 obtain ⟨i,j,k,e,⟨q1,q2,q3,q4,q5,q6⟩,q⟩:=q1
 subst e
 cases r1 with
 | cons r rr =>
   cases rr with
   | cons r' rr =>
     cases rr with
     | cons r'' rr =>
       cases rr
       obtain ⟨t,rfl⟩:=r
       obtain ⟨t',rfl⟩:=r'
       obtain ⟨t'',rfl⟩:=r''
       refine call_range_3 ω ?_ (Or.inl (PyProof.noPylong_small ω))
       refine wpAny_pyIter_range (IsRange.new ..) (znC q1 q2 q3 q4 q5 q6) ?_
       generalize hob:({ cls := .type "range",data := .fields #[.int i t,.int j t',.int k t''] }:Obj)=ob
       have I2:Inv X pins σ H1 { s1 with heap:=s1.heap.push ob,toks:=s1.toks }:=I1.kept fun b o e=>Heap.get?_push_of_some _ e
       refine ⟨(s1.heap.push ob).objs.size,[(s1.heap.push ob).objs.size],_,_,H1,rfl,I2.kept (t':=s1.toks) fun b o e=>Heap.get?_push_of_some _ e,znA _ i k (rz3 i j k),?_,fun b hb=>?_,q⟩
       . have e1:i+((0:Nat):Int) * k=i:=by simp
         show IsRangeIter _ _ (i+((0:Nat):Int) * k) ((rz3 i j k:Int) - ((0:Nat):Int)) k
         rw [e1,<- zgy q5,show ∀ z:Int,z - ((0:Nat):Int)=z from fun z=>by simp]
         exact Heap.get?_push_size _ rfl
       . have e:b=(s1.heap.push ob).objs.size:=by simpa using hb
         subst e
         exact I2.fpOk (Nat.le_refl _) (I2.hok.fresh (Nat.le_refl _))
end
end L2
end
section
namespace L2
open PySem PySem.Spec PyProof.Rows
section
variable {X:Cx}{pins:List (Addr×Obj)}{σ:St}{H:Hp}{s:Shared}{h':Heap}
end
section
variable {X:Cx}{es:List Expr}{k:Nat}{tp p pos:Pos}{l l2 o:Expr}{tl tl2 to:TE}
end
section
variable {X:Cx}{es:List Expr}{k:Nat}{tp p pos apos:Pos}{l l2 o:Expr}{tl tl2 to:TE}
end
end L2
end
section
namespace MI
open PySem PySem.Spec L2
structure GP where
 K:PySem.W.Frag
 cm:List Addr
 an:List Str
structure GP.Ok (G:GP) (sub att:Nat->Nat->Bool):Prop where
 cls:∀ (c:Nat) C,G.cm[c]?=some C->Cls G.K C∧zhQ G.K C
 noat:∀ (c:Nat) C (k:Nat) f,G.cm[c]?=some C->att c k=true->G.an[k]?=some f->zcg G.K C f
 nd:G.an.Nodup
 isa:∀ (c c':Nat) C C',G.cm[c]?=some C->G.cm[c']?=some C'->Isa G.K C C' (sub c c')
mutual
noncomputable def RD (ρ:List Addr) (H:Hp):D->V->Prop
 | .non,v=>v = .non
 | .bl b,v=>v = .bl b
 | .int i,v=>v = .int i
 | .str x,v=>v = .str x
 | .tup ds,v=>∃ a vs,v = .ref a∧H a=some (.tup vs)∧RDs ρ H ds vs
 | .obj n,v=>∃ a,v = .ref a∧ρ[n]?=some a
noncomputable def RDs (ρ:List Addr) (H:Hp):List D->List V->Prop
 | [],vs=>vs=[]
 | d :: ds,vs=>∃ x r,vs=x :: r∧RD ρ H d x∧RDs ρ H ds r
end
structure Ext (F:Addr->Prop) (ρ ρ1:List Addr) (H H1:Hp):Prop where
 pre:∃ t,ρ1=ρ++t
 tup:∀ b xs,H b=some (.tup xs)->H1 b=some (.tup xs)
 frm:∀ b,F b->H1 b=H b
theorem Ext.refl {F:Addr->Prop}{ρ:List Addr}{H:Hp}:Ext F ρ ρ H H:=⟨⟨[],ς⟩,fun _ _ h=>h,fun _ _=>rfl⟩
theorem Ext.trans {F:Addr->Prop}{ρ ρ1 ρ2:List Addr}{H H1 H2:Hp} (a:Ext F ρ ρ1 H H1) (b:Ext F ρ1 ρ2 H1 H2):Ext F ρ ρ2 H H2:=by
 obtain ⟨t,rfl⟩:=a.pre
 obtain ⟨u,rfl⟩:=b.pre
 exact ⟨⟨t++u,ς⟩,fun c xs h=>b.tup c xs (a.tup c xs h),fun c hc=>(b.frm c hc).trans (a.frm c hc)⟩
theorem Ext.get {F:Addr->Prop}{ρ ρ1:List Addr}{H H1:Hp} (e:Ext F ρ ρ1 H H1) {n:Nat}{a:Addr} (h:ρ[n]?=some a):ρ1[n]?=some a:=by
 obtain ⟨t,rfl⟩:=e.pre
 rw [List.getElem?_append_left (List.getElem?_eq_some_iff.mp h).1];exact h
mutual
theorem RD.ext {F:Addr->Prop}{ρ ρ1:List Addr}{H H1:Hp} (e:Ext F ρ ρ1 H H1):∀ (d:D) (v:V),RD ρ H d v->RD ρ1 H1 d v
 | .non,v,h=>by unfold RD at h ⊢;exact h
 | .bl b,v,h=>by unfold RD at h ⊢;exact h
 | .int i,v,h=>by unfold RD at h ⊢;exact h
 | .str x,v,h=>by unfold RD at h ⊢;exact h
 | .tup ds,v,h=>by
   unfold RD at h ⊢
   obtain ⟨a,vs,h1,h2,h3⟩:=h
   exact ⟨a,vs,h1,e.tup _ _ h2,RDs.ext e ds vs h3⟩
 | .obj n,v,h=>by
   unfold RD at h ⊢
   obtain ⟨a,h1,h2⟩:=h
   exact ⟨a,h1,e.get h2⟩
theorem RDs.ext {F:Addr->Prop}{ρ ρ1:List Addr}{H H1:Hp} (e:Ext F ρ ρ1 H H1):∀ (ds:List D) (vs:List V),RDs ρ H ds vs->RDs ρ1 H1 ds vs
 | [],vs,h=>by unfold RDs at h ⊢;exact h
 | d :: ds,vs,h=>by
   unfold RDs at h ⊢
   obtain ⟨x,r,h1,h2,h3⟩:=h
   exact ⟨x,r,h1,RD.ext e d x h2,RDs.ext e ds r h3⟩
end
mutual
noncomputable def D.bd (n:Nat):D->Prop
 | .obj m=>m < n
 | .tup ds=>bds n ds
 | _=>True
noncomputable def bds (n:Nat):List D->Prop
 | []=>True
 | d :: r=>d.bd n∧bds n r
end
mutual
theorem RD.bd {ρ:List Addr}{H:Hp}:∀ (d:D) (v:V),RD ρ H d v->d.bd ρ.length
 | .non,v,h=>by simp [D.bd]
 | .bl b,v,h=>by simp [D.bd]
 | .int i,v,h=>by simp [D.bd]
 | .str x,v,h=>by simp [D.bd]
 | .tup ds,v,h=>by
   unfold RD at h;unfold D.bd
   obtain ⟨a,vs,h1,h2,h3⟩:=h
   exact RDs.bd ds vs h3
 | .obj n,v,h=>by
   unfold RD at h;unfold D.bd
   obtain ⟨a,h1,h2⟩:=h
   exact (List.getElem?_eq_some_iff.mp h2).1
theorem RDs.bd {ρ:List Addr}{H:Hp}:∀ (ds:List D) (vs:List V),RDs ρ H ds vs->bds ρ.length ds
 | [],vs,h=>by simp [bds]
 | d :: ds,vs,h=>by
   unfold RDs at h;unfold bds
   obtain ⟨x,r,h1,h2,h3⟩:=h
   exact ⟨RD.bd d x h2,RDs.bd ds r h3⟩
end
mutual
theorem D.nr_bd {n:Nat}:∀ (d:D),d.nr=true->d.bd n
 | .non,h=>by simp [D.bd]
 | .bl b,h=>by simp [D.bd]
 | .int i,h=>by simp [D.bd]
 | .str x,h=>by simp [D.bd]
 | .tup ds,h=>by unfold D.nr at h;unfold D.bd;exact zg9 ds h
 | .obj n,h=>by simp [D.nr]at h
theorem zg9 {n:Nat}:∀ (ds:List D),nrs ds=true->bds n ds
 | [],h=>by simp [bds]
 | d :: ds,h=>by
   unfold nrs at h;unfold bds
   rw [Bool.and_eq_true]at h
   exact ⟨D.nr_bd d h.1,zg9 ds h.2⟩
end
mutual
theorem RD.cut {ρ ρ1:List Addr}{H:Hp}{n:Nat} (e:∀ m,m < n->ρ1[m]?=ρ[m]?):∀ (d:D) (v:V),d.bd n->RD ρ H d v->RD ρ1 H d v
 | .non,v,_,h=>by unfold RD at h ⊢;exact h
 | .bl b,v,_,h=>by unfold RD at h ⊢;exact h
 | .int i,v,_,h=>by unfold RD at h ⊢;exact h
 | .str x,v,_,h=>by unfold RD at h ⊢;exact h
 | .tup ds,v,b,h=>by
   unfold RD at h ⊢;unfold D.bd at b
   obtain ⟨a,vs,h1,h2,h3⟩:=h
   exact ⟨a,vs,h1,h2,RDs.cut e ds vs b h3⟩
 | .obj m,v,b,h=>by
   unfold RD at h ⊢;unfold D.bd at b
   obtain ⟨a,h1,h2⟩:=h
   exact ⟨a,h1,by rw [e m b];exact h2⟩
theorem RDs.cut {ρ ρ1:List Addr}{H:Hp}{n:Nat} (e:∀ m,m < n->ρ1[m]?=ρ[m]?):∀ (ds:List D) (vs:List V),bds n ds->RDs ρ H ds vs->RDs ρ1 H ds vs
 | [],vs,_,h=>by unfold RDs at h ⊢;exact h
 | d :: ds,vs,b,h=>by
   unfold RDs at h ⊢;unfold bds at b
   obtain ⟨x,r,h1,h2,h3⟩:=h
   exact ⟨x,r,h1,RD.cut e d x b.1 h2,RDs.cut e ds r b.2 h3⟩
end
section
variable {ρ:List Addr}{H:Hp}
theorem RDs.length:∀ {ds:List D}{vs:List V},RDs ρ H ds vs->ds.length=vs.length
 | [],vs,h=>by unfold RDs at h;subst h;rfl
 | d :: ds,vs,h=>by
   unfold RDs at h
   obtain ⟨x,r,h1,h2,h3⟩:=h
   subst h1;simp [RDs.length h3]
theorem RDs.get:∀ {ds:List D}{vs:List V}{i:Nat}{d:D},RDs ρ H ds vs->ds[i]?=some d->∃ v,vs[i]?=some v∧RD ρ H d v
 | [],vs,i,d,h,e=>by simp at e
 | x :: ds,vs,i,d,h,e=>by
   unfold RDs at h
   obtain ⟨y,r,h1,h2,h3⟩:=h
   subst h1
   cases i with
   | zero=>simp at e;subst e;exact ⟨y,rfl,h2⟩
   | succ i =>
     obtain ⟨v,e1,e2⟩:=RDs.get (i:=i) h3 (by simpa using e)
     exact ⟨v,by simpa using e1,e2⟩
theorem RDs.nil:RDs ρ H [] []:=by unfold RDs;rfl
theorem RDs.cons {d:D}{v:V}{ds:List D}{vs:List V} (h:RD ρ H d v) (hs:RDs ρ H ds vs):RDs ρ H (d :: ds) (v :: vs):=by
 unfold RDs;exact ⟨v,vs,rfl,h,hs⟩
theorem RDs.append {ds2:List D}{vs2:List V} (h:RDs ρ H ds2 vs2):∀ {ds:List D}{vs:List V},RDs ρ H ds vs->RDs ρ H (ds++ds2) (vs++vs2)
 | [],vs,hs=>by unfold RDs at hs;subst hs;exact h
 | d :: ds,vs,hs=>by
   unfold RDs at hs
   obtain ⟨y,r,h1,h2,h3⟩:=hs
   subst h1
   exact RDs.cons h2 (RDs.append h h3)
theorem RDs.snoc {d:D}{v:V}{ds:List D}{vs:List V} (hs:RDs ρ H ds vs) (h:RD ρ H d v):RDs ρ H (ds++[d]) (vs++[v]):=RDs.append (RDs.cons h RDs.nil) hs
theorem RDs.take:∀ (n:Nat) {ds:List D}{vs:List V},RDs ρ H ds vs->RDs ρ H (ds.take n) (vs.take n)
 | 0,_,_,h=>by simp;exact RDs.nil
 | n+1,[],vs,h=>by unfold RDs at h;subst h;simp;exact RDs.nil
 | n+1,d :: ds,vs,h=>by
   unfold RDs at h
   obtain ⟨y,r,h1,h2,h3⟩:=h
   subst h1
   exact RDs.cons h2 (RDs.take n h3)
theorem RDs.drop:∀ (n:Nat) {ds:List D}{vs:List V},RDs ρ H ds vs->RDs ρ H (ds.drop n) (vs.drop n)
 | 0,_,_,h=>h
 | n+1,[],vs,h=>by unfold RDs at h;subst h;simp;exact RDs.nil
 | n+1,d :: ds,vs,h=>by
   unfold RDs at h
   obtain ⟨y,r,h1,h2,h3⟩:=h
   subst h1
   exact RDs.drop n h3
theorem RDs.ints:∀ ns:List Int,RDs ρ H (ns.map D.int) (ns.map V.int)
 | []=>by simp;exact RDs.nil
 | n :: r=>RDs.cons (by unfold RD;rfl) (RDs.ints r)
theorem RDs.of_bools:∀ {ds:List D}{ns:List Bool}{vs:List V},zci ds=some ns->RDs ρ H ds vs->vs=ns.map V.bl
 | [],ns,vs,e,h=>by
   unfold RDs at h;subst h
   simp [zci]at e;subst e;rfl
 | d :: ds,ns,vs,e,h=>by
   unfold RDs at h
   obtain ⟨y,r,h1,h2,h3⟩:=h
   cases d with
   | bl i =>
     rw [zci,Option.map_eq_some_iff]at e
     obtain ⟨ms,e1,rfl⟩:=e
     unfold RD at h2
     subst h1 h2
     rw [RDs.of_bools e1 h3];rfl
   | _=>simp [zci]at e
end
noncomputable def KRs (ρ:List Addr) (H:Hp):List (Int×D)->List (Key×V)->Prop
 | [],vs=>vs=[]
 | p :: r,vs=>∃ v q,vs=(Sum.inl p.1,v) :: q∧RD ρ H p.2 v∧KRs ρ H r q
noncomputable def FRs (G:GP) (ρ:List Addr) (H:Hp) (C:Addr):List (Nat×D)->List (Str×V)->Prop
 | [],vs=>vs=[]
 | p :: r,vs=>∃ f v q,vs=(f,v) :: q∧G.an[p.1]?=some f∧zcg G.K C f∧RD ρ H p.2 v∧FRs G ρ H C r q
noncomputable def KL (K:PySem.W.Frag) (a:Addr) (xs:List V):Prop :=
 ∃ (o:Obj) (its:Array Value) (n:Nat),K.lookup a=some o∧o.cls = .type "list" ∧ o.dict=none∧o.data = .seq its n∧its.size<=sizeLine∧zE xs its.toList
noncomputable def RO (G:GP) (ρ:List Addr) (H:Hp) (a:Addr):O->Prop
 | .lst xs=>∃ vs,H a=some (.lst vs)∧RDs ρ H xs vs
 | .scr xs=>∃ vs,((∃ o,H a=some (.frz o (.lst vs)))∨KL G.K a vs)∧RDs ρ H xs vs
 | .dic kvs=>∃ vs,H a=some (.dK vs)∧KRs ρ H kvs vs
 | .hole=>True
 | .set xs=>∃ S n,H a=some (.set S n)∧n=xs.length∧∀ x,S x=decide (x∈xs)
 | .ins c fs=>∃ C dx vs,G.cm[c]?=some C∧H a=some (.ins C dx vs)∧FRs G ρ H C fs vs
theorem KRs.map {ρ ρ1:List Addr}{H H1:Hp}:∀ {kvs:List (Int×D)}{vs:List (Key×V)},KRs ρ H kvs vs->(∀ p∈kvs,∀ v,RD ρ H p.2 v->RD ρ1 H1 p.2 v)->KRs ρ1 H1 kvs vs
 | [],vs,h,_=>h
 | p :: r,vs,h,f=>by
   unfold KRs at h ⊢
   obtain ⟨v,q,h1,h2,h3⟩:=h
   exact ⟨v,q,h1,f p List.mem_cons_self v h2,KRs.map h3 fun x hx=>f x (List.mem_cons_of_mem _ hx)⟩
theorem FRs.map {G:GP}{ρ ρ1:List Addr}{H H1:Hp}{C:Addr}:∀ {kvs:List (Nat×D)}{vs:List (Str×V)},FRs G ρ H C kvs vs->(∀ p∈kvs,∀ v,RD ρ H p.2 v->RD ρ1 H1 p.2 v)->FRs G ρ1 H1 C kvs vs
 | [],vs,h,_=>h
 | p :: r,vs,h,f=>by
   unfold FRs at h ⊢
   obtain ⟨g,v,q,h1,h2,h3,h4,h5⟩:=h
   exact ⟨g,v,q,h1,h2,h3,f p List.mem_cons_self v h4,FRs.map h5 fun x hx=>f x (List.mem_cons_of_mem _ hx)⟩
theorem RO.map {G:GP}{ρ ρ1:List Addr}{H H1:Hp}{a:Addr}{o:O} (h:RO G ρ H a o) (ha:∀ u,H a=some u->H1 a=some u) (f:∀ d v,RD ρ H d v->RD ρ1 H1 d v) (fs:∀ ds vs,RDs ρ H ds vs->RDs ρ1 H1 ds vs):RO G ρ1 H1 a o:=by
 cases o with
 | lst xs=>obtain ⟨vs,h1,h2⟩:=h;exact ⟨vs,ha _ h1,fs _ _ h2⟩
 | scr xs =>
   obtain ⟨vs,h1,h2⟩:=h
   refine ⟨vs,?_,fs _ _ h2⟩
   rcases h1 with ⟨o,h1⟩ | h1
   . exact .inl ⟨o,ha _ h1⟩
   . exact .inr h1
 | dic kvs=>obtain ⟨vs,h1,h2⟩:=h;exact ⟨vs,ha _ h1,h2.map fun p _ v=>f _ _⟩
 | hole=>trivial
 | set xs=>obtain ⟨S,n,h1,h2⟩:=h;exact ⟨S,n,ha _ h1,h2⟩
 | ins c fs=>obtain ⟨C,dx,vs,h1,h2,h3⟩:=h;exact ⟨C,dx,vs,h1,ha _ h2,h3.map fun p _ v=>f _ _⟩
noncomputable def O.isScr:O->Bool
 | .scr _=>true
 | .hole=>true
 | _=>false
structure HR (F:Addr->Prop) (G:GP) (ρ:List Addr) (h:MH) (H:Hp):Prop where
 pro:∀ b,F b->(∃ u,H b=some u)∧∀ (m:Nat) o,ρ[m]?=some b->h[m]?=some o->o.isScr=true
 nd:∀ (n m:Nat) a o o',n≠m->ρ[n]?=some a->ρ[m]?=some a->h[n]?=some o->h[m]?=some o'->o.isScr=true∨o'.isScr=true
 len:ρ.length=h.length
 all:∀ (n:Nat) o,h[n]?=some o->∃ a,ρ[n]?=some a∧RO G ρ H a o
theorem HR.at {F:Addr->Prop}{G:GP}{ρ:List Addr}{h:MH}{H:Hp} (r:HR F G ρ h H) {n:Nat}{o:O}{a:Addr} (e:h[n]?=some o) (ea:ρ[n]?=some a):RO G ρ H a o:=by
 obtain ⟨b,e1,e2⟩:=r.all n o e
 rw [ea]at e1;cases e1;exact e2
structure zS (ρ:List Addr) (H:Hp) (env:zx) (σ:St):Prop where
 len:env.length=σ.length
 all:∀ (i:Nat) d,env[i]?=some (some d)->∃ v,σ[i]?=some (some v)∧RD ρ H d v
theorem zS.ext {F:Addr->Prop}{ρ ρ1:List Addr}{H H1:Hp}{env:zx}{σ:St} (h:zS ρ H env σ) (e:Ext F ρ ρ1 H H1):zS ρ1 H1 env σ :=
 ⟨h.len,fun i d q=>let ⟨v,q1,q2⟩:=h.all i d q;⟨v,q1,RD.ext e _ _ q2⟩⟩
theorem zS.set {ρ:List Addr}{H:Hp}{env:zx}{σ:St} (h:zS ρ H env σ) {d:D}{v:V} (r:RD ρ H d v) (i:Nat):zS ρ H (env.set i (some d)) (σ.set i (some v)):=by
 refine ⟨by simp [h.len],fun j d' q=>?_⟩
 by_cases hj:i=j
 . subst hj
   have hi:i < env.length:=by
     have:=(List.getElem?_eq_some_iff.mp q).1
     simpa using this
   rw [List.getElem?_set_self hi]at q
   cases q
   exact ⟨v,by rw [List.getElem?_set_self (by rw [<- h.len];exact hi)],r⟩
 . rw [List.getElem?_set_ne hj]at q ⊢
   exact h.all j d' q
section
variable {F:Addr->Prop}{G:GP}{ρ:List Addr}{h:MH}{H:Hp}
theorem zcC (hr:HR F G ρ h H) {p:Addr}{u:HO} (hp:H p=none):Ext F ρ ρ H (upd H p u):=⟨⟨[],ς⟩,fun b xs e=>by rw [zN (zdh e hp)];exact e,fun b hb=>by
 obtain ⟨⟨v,hv⟩,_⟩:=hr.pro b hb
 rw [zN (zdh hv hp)]⟩
theorem zmb {p:Addr}{u:HO} (hp:H p=none) {a:Addr}{o:HO} (e:H a=some o):upd H p u a=some o:=by rw [zN (zdh e hp)];exact e
theorem HR.grow {H1:Hp} (r:HR F G ρ h H) (k:∀ a o,H a=some o->H1 a=some o):HR F G ρ h H1:=by
 have e:Ext F ρ ρ H H1:=⟨⟨[],ς⟩,fun b xs q=>k _ _ q,fun b hb=>by obtain ⟨⟨v,hv⟩,_⟩:=r.pro b hb;rw [hv];exact k _ _ hv⟩
 exact ⟨fun b hb=>let ⟨⟨v,hv⟩,z⟩:=r.pro b hb;⟨⟨v,k _ _ hv⟩,z⟩,r.nd,r.len,fun n o q=>let ⟨a,q1,q2⟩:=r.all n o q;⟨a,q1,q2.map (fun u=>k a u) (RD.ext e) (RDs.ext e)⟩⟩
theorem HR.new (r:HR F G ρ h H) {p:Addr}{u:HO} (hp:H p=none):HR F G ρ h (upd H p u):=r.grow fun a o e=>zmb hp e
noncomputable def zde (F:Addr->Prop) (ρ:List Addr) (h:MH) (a:Addr):Prop:=¬ F a∧∀ (m:Nat) o,ρ[m]?=some a->h[m]?=some o->o.isScr=true
theorem RO.some_of {a:Addr}{o:O} (r:RO G ρ H a o):o.isScr=true∨∃ u,H a=some u:=by
 cases o with
 | lst xs=>obtain ⟨vs,z,_⟩:=r;exact .inr ⟨_,z⟩
 | scr xs=>exact .inl rfl
 | dic xs=>obtain ⟨vs,z,_⟩:=r;exact .inr ⟨_,z⟩
 | hole=>exact .inl rfl
 | set xs=>obtain ⟨S,n,z,_⟩:=r;exact .inr ⟨_,z⟩
 | ins c fs=>obtain ⟨C,dx,vs,_,z,_⟩:=r;exact .inr ⟨_,z⟩
theorem HR.fresh (r:HR F G ρ h H) {a:Addr} (ha:H a=none):zde F ρ h a:=by
 refine ⟨fun z=>?_,fun m o e1 e2=>?_⟩
 . obtain ⟨⟨v,hv⟩,_⟩:=r.pro a z
   rw [ha]at hv;cases hv
 . rcases (r.at e2 e1).some_of with z | ⟨u,z⟩
   . exact z
   . rw [ha]at z;cases z
theorem getElem?_snoc {α:Type}{l:List α}{x y:α}{n:Nat} (h:(l++[x])[n]?=some y):(l[n]?=some y)∨(n=l.length∧x=y):=by
 by_cases hn:n < l.length
 . rw [List.getElem?_append_left hn]at h;exact .inl h
 . rw [List.getElem?_append_right ω]at h
   have:n - l.length=0:=by
     by_cases z:n - l.length=0
     . exact z
     . rw [List.getElem?_eq_none (by simp;omega)]at h;cases h
   rw [this]at h
   simp at h
   exact .inr ⟨ω,h⟩
theorem RD.snoc {b:Addr} (d:D) (v:V) (h:RD ρ H d v):RD (ρ++[b]) H d v:=RD.ext (F:=fun _=>False) ⟨⟨[b],rfl⟩,fun _ _ z=>z,fun _ z=>z.elim⟩ _ _ h
theorem RDs.snocρ {b:Addr} (d:List D) (v:List V) (h:RDs ρ H d v):RDs (ρ++[b]) H d v:=RDs.ext (F:=fun _=>False) ⟨⟨[b],rfl⟩,fun _ _ z=>z,fun _ z=>z.elim⟩ _ _ h
theorem HR.named (r:HR F G ρ h H) {a:Addr}{o:O} (fr:zde F ρ h a) (ro:RO G (ρ++[a]) H a o):HR F G (ρ++[a]) (h++[o]) H:=by
 refine ⟨fun b hb=>⟨(r.pro b hb).1,fun m x z1 z2=>?_⟩,fun n m b x y hne h1 h2 h3 h4=>?_,by simp [r.len],fun n x hx=>?_⟩
 . rcases getElem?_snoc z1 with z1 | ⟨e1,f1⟩
   . have hm:m < h.length:=by rw [<- r.len];exact (List.getElem?_eq_some_iff.mp z1).1
     rw [List.getElem?_append_left hm]at z2
     exact (r.pro b hb).2 m x z1 z2
   . subst f1;exact absurd hb fr.1
 . rcases getElem?_snoc h1 with h1 | ⟨e1,f1⟩
   . rcases getElem?_snoc h2 with h2 | ⟨e2,f2⟩
     . have hn:n < h.length:=by rw [<- r.len];exact (List.getElem?_eq_some_iff.mp h1).1
       have hm:m < h.length:=by rw [<- r.len];exact (List.getElem?_eq_some_iff.mp h2).1
       rw [List.getElem?_append_left hn]at h3
       rw [List.getElem?_append_left hm]at h4
       exact r.nd n m b x y hne h1 h2 h3 h4
     . have hn:n < h.length:=by rw [<- r.len];exact (List.getElem?_eq_some_iff.mp h1).1
       rw [List.getElem?_append_left hn]at h3
       subst f2
       exact .inl (fr.2 n x h1 h3)
   . rcases getElem?_snoc h2 with h2 | ⟨e2,f2⟩
     . have hm:m < h.length:=by rw [<- r.len];exact (List.getElem?_eq_some_iff.mp h2).1
       rw [List.getElem?_append_left hm]at h4
       subst f1
       exact .inr (fr.2 m y h2 h4)
     . exact absurd (e1.trans e2.symm) hne
 . rcases getElem?_snoc hx with hx | ⟨e,f⟩
   . obtain ⟨b,e1,e2⟩:=r.all n x hx
     exact ⟨b,by rw [List.getElem?_append_left (List.getElem?_eq_some_iff.mp e1).1];exact e1,e2.map (fun _ z=>z) RD.snoc RDs.snocρ⟩
   . subst f
     exact ⟨a,by rw [e,<- r.len];simp,ro⟩
theorem HR.write (r:HR F G ρ h H) {n:Nat}{a:Addr}{o o1:O}{u0 u:HO} (e:h[n]?=some o) (ea:ρ[n]?=some a) (hs:o.isScr=false) (hs1:o1.isScr=false) (eu:H a=some u0) (mu:Mut (some u0))
   (ro:RO G ρ (upd H a u) a o1):Ext F ρ ρ H (upd H a u)∧HR F G ρ (h.set n o1) (upd H a u):=by
 have hn:n < h.length:=(List.getElem?_eq_some_iff.mp e).1
 have tp:∀ b xs,H b=some (.tup xs)->upd H a u b=some (.tup xs):=fun b xs q=>by
   rw [zN]
   . exact q
   . intro z;subst z;rw [eu]at q;cases q;exact mu
 have hb0:∀ b,F b->b≠a:=fun b hb z=>by have:=(r.pro b hb).2 n o (by rw [z];exact ea) e;rw [hs]at this;cases this
 have ex:Ext F ρ ρ H (upd H a u):=⟨⟨[],ς⟩,tp,fun b hb=>zN (hb0 b hb)⟩
 refine ⟨ex,fun b hb=>⟨by rw [zN (hb0 b hb)];exact (r.pro b hb).1,fun m x z1 z2=>?_⟩,fun i j b x y hne h1 h2 h3 h4=>?_,by simp [r.len],fun m x hx=>?_⟩
 . by_cases hm:n=m
   . subst hm
     rw [ea]at z1;cases z1
     exact absurd rfl (hb0 _ hb)
   . rw [List.getElem?_set_ne hm]at z2
     exact (r.pro b hb).2 m x z1 z2
 . have sc:∀ (k:Nat) z,(h.set n o1)[k]?=some z->∃ z0,h[k]?=some z0∧z0.isScr=z.isScr:=fun k z hz=>by
     by_cases hk:n=k
     . subst hk
       rw [List.getElem?_set_self hn]at hz
       cases hz
       exact ⟨o,e,hs.trans hs1.symm⟩
     . rw [List.getElem?_set_ne hk]at hz
       exact ⟨z,hz,rfl⟩
   obtain ⟨x0,hx0,ex0⟩:=sc i x h3
   obtain ⟨y0,hy0,ey0⟩:=sc j y h4
   rw [<- ex0,<- ey0]
   exact r.nd i j b x0 y0 hne h1 h2 hx0 hy0
 . by_cases hm:n=m
   . subst hm
     rw [List.getElem?_set_self hn]at hx
     cases hx
     exact ⟨a,ea,ro⟩
   . rw [List.getElem?_set_ne hm]at hx
     obtain ⟨b,e1,e2⟩:=r.all m x hx
     refine ⟨b,e1,?_⟩
     by_cases hb:b=a
     . subst hb
       have hsc:x.isScr=true:=by
         rcases r.nd n m b o x hm ea e1 e hx with z | z
         . rw [hs]at z;cases z
         . exact z
       cases x with
       | scr xs =>
         obtain ⟨vs,z,w⟩:=e2
         refine ⟨vs,?_,RDs.ext ex _ _ w⟩
         rcases z with ⟨o',z⟩ | z
         . rw [eu]at z;cases z;exact mu.elim
         . exact .inr z
       | hole=>trivial
       | _=>cases hsc
     . exact e2.map (fun w z=>by rw [zN hb];exact z) (RD.ext ex) (RDs.ext ex)
theorem HR.sub {F':Addr->Prop} (r:HR F' G ρ h H) (hs:∀ b,F b->F' b):HR F G ρ h H:=⟨fun b hb=>r.pro b (hs b hb),r.nd,r.len,r.all⟩
theorem Ext.sub {F':Addr->Prop}{ρ1:List Addr}{H1:Hp} (r:Ext F' ρ ρ1 H H1) (hs:∀ b,F b->F' b):Ext F ρ ρ1 H H1:=⟨r.pre,r.tup,fun b hb=>r.frm b (hs b hb)⟩
theorem HR.upd_free (r:HR F G ρ h H) {a:Addr}{xs ys:List V} (fr:zde F ρ h a) (ha:H a=some (.lst xs)):Ext F ρ ρ H (upd H a (.lst ys))∧HR F G ρ h (upd H a (.lst ys)):=by
 have hb0:∀ b,F b->b≠a:=fun b hb z=>fr.1 (z ▸ hb)
 have tp:∀ b xs,H b=some (.tup xs)->upd H a (.lst ys) b=some (.tup xs):=fun b xs q=>by
   rw [zN]
   . exact q
   . intro z;subst z;rw [ha]at q;cases q
 have ex:Ext F ρ ρ H (upd H a (.lst ys)):=⟨⟨[],ς⟩,tp,fun b hb=>zN (hb0 b hb)⟩
 refine ⟨ex,fun b hb=>⟨by rw [zN (hb0 b hb)];exact (r.pro b hb).1,(r.pro b hb).2⟩,r.nd,r.len,fun n o q=>?_⟩
 obtain ⟨b,q1,q2⟩:=r.all n o q
 refine ⟨b,q1,?_⟩
 by_cases hb:b=a
 . subst hb
   have hsc:=fr.2 n o q1 q
   cases o with
   | scr xs =>
     obtain ⟨vs,z,w⟩:=q2
     refine ⟨vs,?_,RDs.ext ex _ _ w⟩
     rcases z with ⟨o',z⟩ | z
     . rw [ha]at z;cases z
     . exact .inr z
   | hole=>trivial
   | _=>cases hsc
 . exact q2.map (fun w z=>by rw [zN hb];exact z) (RD.ext ex) (RDs.ext ex)
end
end MI
end
section
namespace MI
open PySem PySem.Spec L2
section
variable {α β γ δ:Type}
noncomputable abbrev RL (α β:Type):=(Addr->Prop)->List Addr->MH->Hp->α->β->Prop
noncomputable def wp (F:Addr->Prop) (W:Nat->Hp->Prop) (G:GP) (Rl:RL α β) (env:zx) (σ:L2.St) (ρ:List Addr) (H:Hp) (r:R α) (Q:β->Hp->Prop):Prop:=match r with
 | .ok v h1=>∀ ρ1 H1 v1,Ext F ρ ρ1 H H1->zS ρ1 H1 env σ->HR F G ρ1 h1 H1->Rl F ρ1 h1 H1 v v1->Q v1 H1
 | .ex c h1=>∀ ρ1 H1,Ext F ρ ρ1 H H1->HR F G ρ1 h1 H1->W c H1
 | .bad=>False
noncomputable def tG (W:Nat->Hp->Prop) (G:GP) (Rl:RL α β) (m:ME α):L2.St->Hp->(β->Hp->Prop)->Prop:=fun σ H Q =>
 ∃ F ρ env h,zS ρ H env σ∧HR F G ρ h H∧wp F W G Rl env σ ρ H (m env h) Q
variable {W:Nat->Hp->Prop}{F:Addr->Prop}{G:GP}{Rl:RL α β}{Rl':RL γ δ}{env:zx}{σ:L2.St}{ρ ρ1:List Addr}{H H1:Hp}{h h1:MH}
theorem wp.mono {r:R α}{Q:β->Hp->Prop} (w:wp F W G Rl env σ ρ H r Q) (e:Ext F ρ ρ1 H H1):wp F W G Rl env σ ρ1 H1 r Q:=by
 cases r with
 | ok v h1=>exact fun ρ2 H2 v1 e2=>w ρ2 H2 v1 (e.trans e2)
 | ex c h1=>exact fun ρ2 H2 e2=>w ρ2 H2 (e.trans e2)
 | bad=>exact w
theorem zJ {m:ME α}{k:α->ME γ}{Q:δ->Hp->Prop}{P:β->Hp->Prop} (w:wp F W G Rl' env σ ρ H (zn m k env h) Q)
   (f:∀ x h1 ρ1 H1 y,Ext F ρ ρ1 H H1->zS ρ1 H1 env σ->HR F G ρ1 h1 H1->Rl F ρ1 h1 H1 x y->wp F W G Rl' env σ ρ1 H1 (k x env h1) Q->P y H1):wp F W G Rl env σ ρ H (m env h) P:=by
 unfold zn at w
 cases e:m env h with
 | ok v h1 =>
   rw [e]at w
   exact fun ρ1 H1 y ex er hr rl=>f v h1 ρ1 H1 y ex er hr rl (w.mono ex)
 | ex c h1=>rw [e]at w;exact w
 | bad=>rw [e]at w;exact w
end
theorem zbb {X:Cx}{e:Expr}{t t':TE} (h:PE X e t) (i:∀ σ H Q,t' σ H Q->t σ H Q):PE X e t':=fun pins s σ H Q I hw=>h pins s σ H Q I (i _ _ _ hw)
theorem zgT {X:Cx}{e:Expr}{t t':TT} (h:PT X e t) (i:∀ σ H Q,t' σ H Q->t σ H Q):PT X e t':=fun pins s σ H Q I hw=>h pins s σ H Q I (i _ _ _ hw)
theorem ziA {X:Cx}{e:Expr}{t t':TT} (h:PW X e t) (i:∀ σ H Q,t' σ H Q->t σ H Q):PW X e t':=fun wh pins s σ H Q I hw=>h wh pins s σ H Q I (i _ _ _ hw)
theorem zhF {X:Cx}{e:List Expr}{t t':TA} (h:PA X e t) (i:∀ σ H Q,t' σ H Q->t σ H Q):PA X e t':=fun pos pins s σ H Q I hw=>h pos pins s σ H Q I (i _ _ _ hw)
theorem zhD {X:Cx}{e:Option Expr}{t t':TO} (h:PO X e t) (i:∀ σ H Q,t' σ H Q->t σ H Q):PO X e t':=fun pins s σ H Q I hw=>h pins s σ H Q I (i _ _ _ hw)
theorem zgt {X:Cx}{tg e:Expr}{t t':TI} (h:PI X tg e t) (i:∀ σ H Q,t' σ H Q->t σ H Q):PI X tg e t':=fun pins s σ H Q I hw=>h pins s σ H Q I (i _ _ _ hw)
noncomputable abbrev rV:RL D V:=fun _ ρ _ H d v=>RD ρ H d v
noncomputable abbrev rB:RL Bool Bool:=fun _ _ _ _ a b=>a=b
noncomputable abbrev rO:RL (Option Int) (Option Int):=fun _ _ _ _ a b=>a=b
noncomputable abbrev rA:RL (List D) (List V):=fun _ ρ _ H d v=>RDs ρ H d v
noncomputable def rL (K:PySem.W.Frag):RL (List D) V:=fun _ ρ _ H xs v=>∃ a vs,v = .ref a∧H a=some (.lst vs)∧RDs ρ H xs vs
noncomputable def rN (K:PySem.W.Frag):RL (List D) V:=fun F ρ h H xs v=>∃ a vs,v = .ref a∧H a=some (.lst vs)∧zde F ρ h a∧RDs ρ H xs vs
noncomputable abbrev tE (W:Nat->Hp->Prop) (G:GP) (m:ME D):TE:=tG W G rV m
noncomputable abbrev tT (W:Nat->Hp->Prop) (G:GP) (m:ME Bool):TT:=tG W G rB m
noncomputable abbrev tA (W:Nat->Hp->Prop) (G:GP) (m:ME (List D)):TA:=tG W G rA m
noncomputable abbrev tO (W:Nat->Hp->Prop) (G:GP) (m:ME (Option Int)):TO:=tG W G rO m
noncomputable abbrev tL (W:Nat->Hp->Prop) (G:GP) (m:ME (List D)):TE:=tG W G (rL G.K) m
noncomputable abbrev tN (W:Nat->Hp->Prop) (G:GP) (m:ME (List D)):TE:=tG W G (rN G.K) m
@[irreducible] noncomputable def JE (X:Cx) (e:Expr) (t:TE):Prop:=PE X e t
@[irreducible] noncomputable def JT (X:Cx) (e:Expr) (t:TT):Prop:=PT X e t
@[irreducible] noncomputable def JW (X:Cx) (e:Expr) (t:TT):Prop:=PW X e t
@[irreducible] noncomputable def JA (X:Cx) (e:List Expr) (t:TA):Prop:=PA X e t
@[irreducible] noncomputable def JO (X:Cx) (e:Option Expr) (t:TO):Prop:=PO X e t
theorem JE.to {X:Cx}{e:Expr}{t:TE} (h:JE X e t):PE X e t:=by unfold JE at h;exact h
theorem JE.of {X:Cx}{e:Expr}{t:TE} (h:PE X e t):JE X e t:=by unfold JE;exact h
theorem JT.to {X:Cx}{e:Expr}{t:TT} (h:JT X e t):PT X e t:=by unfold JT at h;exact h
theorem JT.of {X:Cx}{e:Expr}{t:TT} (h:PT X e t):JT X e t:=by unfold JT;exact h
theorem JW.to {X:Cx}{e:Expr}{t:TT} (h:JW X e t):PW X e t:=by unfold JW at h;exact h
theorem JW.of {X:Cx}{e:Expr}{t:TT} (h:PW X e t):JW X e t:=by unfold JW;exact h
theorem JA.to {X:Cx}{e:List Expr}{t:TA} (h:JA X e t):PA X e t:=by unfold JA at h;exact h
theorem JA.of {X:Cx}{e:List Expr}{t:TA} (h:PA X e t):JA X e t:=by unfold JA;exact h
theorem JO.to {X:Cx}{e:Option Expr}{t:TO} (h:JO X e t):PO X e t:=by unfold JO at h;exact h
theorem JO.of {X:Cx}{e:Option Expr}{t:TO} (h:PO X e t):JO X e t:=by unfold JO;exact h
section
variable {W:Nat->Hp->Prop}{X:Cx}{F:Addr->Prop}{G:GP}{env:zx}{σ:L2.St}{ρ:List Addr}{H:Hp}{h:MH}{a b c:Expr}{ma mb mc:ME D}{pos:Pos}{Q:VK}
theorem wp.done {α β:Type}{Rl:RL α β}{x:α}{y:β}{Q:β->Hp->Prop} (w:wp F W G Rl env σ ρ H (.ok x h) Q) (er:zS ρ H env σ) (hr:HR F G ρ h H) (r:Rl F ρ h H x y):Q y H:=w ρ H y Ext.refl er hr r
theorem wp.made {α β:Type}{Rl:RL α β}{x:α}{y:β}{Q:β->Hp->Prop}{p:Addr}{u:HO} (w:wp F W G Rl env σ ρ H (.ok x h) Q) (er:zS ρ H env σ) (hr:HR F G ρ h H) (hp:H p=none) (r:Rl F ρ h (upd H p u) x y):Q y (upd H p u) :=
 w ρ _ y (zcC hr hp) (er.ext (zcC hr hp)) (hr.new hp) r
theorem zd (i:Nat) {x:Str}{pos:Pos} (hN:X.N[i]?=some x:=by rfl) (hv:Vis X.env.scope x:=by first | exact Or.inl rfl | exact Or.inr (Or.inl rfl) | exact Or.inr (Or.inr rfl)) (hd:(x == ("__debug__":Str))=false:=by decide)
   (hcd:(x == ("__classdict__":Str))=false:=by decide):JE X (.Name x pos) (tE W G (var i)) :=
 .of (zbb (zfJ hN hv hd hcd) fun σ H Q ⟨F,ρ,env,h,er,hr,w⟩=>by
   unfold var at w
   cases e:env[i]? with
   | none=>rw [e]at w;exact w.elim
   | some o =>
     cases o with
     | none=>rw [e]at w;exact w.elim
     | some d =>
       rw [e]at w
       obtain ⟨v,h1,h2⟩:=er.all i d e
       exact ⟨v,h1,w.done er hr h2⟩)
theorem q_c {e:Expr}{v:V}{d:D} (h:PE X e (tC v)) (r:∀ ρ H,RD ρ H d v):JE X e (tE W G (zb d)) :=
 .of (zbb h fun σ H Q ⟨F,ρ,env,h,er,hr,w⟩=>wp.done (h:=h) w er hr (r ρ H))
theorem ze {i j pos}:JE X (.Constant (.int i) j pos) (tE W G (zb (.int i))):=q_c zqc fun _ _=>by unfold RD;rfl
theorem zbv {i j pos}:JE X (.Constant (.bool i) j pos) (tE W G (zb (.bl i))):=q_c zn2 fun _ _=>by unfold RD;rfl
theorem zbW {j pos}:JE X (.Constant .none j pos) (tE W G (zb .non)):=q_c zo7 fun _ _=>by unfold RD;rfl
theorem zds {x j pos}:JE X (.Constant (.str x) j pos) (tE W G (zb (.str x))):=q_c zja fun _ _=>by unfold RD;rfl
theorem zdU {x:Str}{i:Int}{u:Value}{pos:Pos} (hg:Gl X x) (hm:X.mg x=some u) (r:zq (.int i) u) (hd:(x == ("__debug__":Str))=false:=by decide):JE X (.Name x pos) (tE W G (zb (.int i))) :=
 q_c (zdQ hg hm r hd) fun _ _=>by unfold RD;rfl
noncomputable def OpM (W:Nat->Hp->Prop) (G:GP) (f:D->D->ME D) (r:R2):Prop:=∀ (F:Addr->Prop) (ρ:List Addr) (h:MH) (H:Hp) (env:zx) (σ:L2.St) (x y:D) (v u:V) (Q:VK),zS ρ H env σ->HR F G ρ h H->RD ρ H x v->RD ρ H y u ->
 wp F W G rV env σ ρ H (f x y env h) Q->r v u H Q
theorem zeJ {op:Operator}{r:R2}{f:D->D->ME D} (ho:OpR X (binaryOp op) r) (hf:OpM W G f r) (ha:JE X a (tE W G ma)) (hb:JE X b (tE W G mb)):JE X (.BinOp a op b pos) (tE W G (bin f ma mb)) :=
 .of (zbb (zgK ho ha.to hb.to) fun σ H Q ⟨F,ρ,env,h,er,hr,w⟩=>⟨F,ρ,env,h,er,hr,zJ w fun x h1 ρ1 H1 y e1 er1 hr1 r1 w1=>⟨F,ρ1,env,h1,er1,hr1,zJ w1 fun x2 h2 ρ2 H2 y2 e2 er2 hr2 r2 w2 =>
   hf F ρ2 h2 H2 env σ x x2 y y2 Q er2 hr2 (RD.ext e2 _ _ r1) r2 w2⟩⟩)
theorem zcs {op:CmpOp}{r:R2}{f:D->D->ME D} (ho:OpR X (compareOp op) r∧OpM W G f r) (ha:JE X a (tE W G ma)) (hb:JE X b (tE W G mb)) (hm:behindInMarks op b=false):JE X (.Compare a [op] [b] pos) (tE W G (bin f ma mb)) :=
 .of (zbb (znu ho.1 ha.to hb.to hm) fun σ H Q ⟨F,ρ,env,h,er,hr,w⟩=>⟨F,ρ,env,h,er,hr,zJ w fun x h1 ρ1 H1 y e1 er1 hr1 r1 w1=>⟨F,ρ1,env,h1,er1,hr1,zJ w1 fun x2 h2 ρ2 H2 y2 e2 er2 hr2 r2 w2 =>
   ho.2 F ρ2 h2 H2 env σ x x2 y y2 Q er2 hr2 (RD.ext e2 _ _ r1) r2 w2⟩⟩)
theorem zow {m:ME D}{Q:Bool->Hp->Prop} (w:wp F W G rB env σ ρ H (tst m env h) Q):wp F W G rV env σ ρ H (m env h) (fun v H1=>∃ k,v = .bl k∧Q k H1) :=
 zJ w fun d h1 ρ1 H1 y e1 er1 hr1 r1 w1=>by
   cases d with
   | bl k =>
     have r1:RD ρ1 H1 (.bl k) y:=r1
     unfold RD at r1
     exact ⟨k,r1,wp.done (h:=h1) w1 er1 hr1 rfl⟩
   | _=>exact w1.elim
theorem zbl {op:CmpOp}{r:R2}{f:D->D->ME D} (ho:OpR X (compareOp op) r∧OpM W G f r) (ha:JE X a (tE W G ma)) (hb:JE X b (tE W G mb)) (hm:behindInMarks op b=false):JT X (.Compare a [op] [b] pos) (tT W G (tst (bin f ma mb))) :=
 .of (zgT (znq ho.1 ha.to hb.to hm) fun σ H Q ⟨F,ρ,env,h,er,hr,w⟩=>⟨F,ρ,env,h,er,hr,zJ (zow (m:=bin f ma mb) w) fun x h1 ρ1 H1 y e1 er1 hr1 r1 w1=>⟨F,ρ1,env,h1,er1,hr1,zJ w1 fun x2 h2 ρ2 H2 y2 e2 er2 hr2 r2 w2 =>
   ho.2 F ρ2 h2 H2 env σ x x2 y y2 _ er2 hr2 (RD.ext e2 _ _ r1) r2 w2⟩⟩)
theorem zny {r r':R2}{f g:D->D->ME D}{Q:VK} (hf:OpM W G f r) (hg:OpM W G g r') (w:tE W G (zff f g ma mb mc) σ H Q):zjE r r' (tE W G ma) (tE W G mb) (tE W G mc) σ H Q:=by
 obtain ⟨F,ρ,env,h,er,hr,w⟩:=w
 refine ⟨F,ρ,env,h,er,hr,zJ w fun x h1 ρ1 H1 y e1 er1 hr1 r1 w1=>⟨F,ρ1,env,h1,er1,hr1,zJ w1 fun x2 h2 ρ2 H2 y2 e2 er2 hr2 r2 w2=>?_⟩⟩
 refine hf F ρ2 h2 H2 env σ x x2 y y2 _ er2 hr2 (RD.ext e2 _ _ r1) r2 ?_
 refine zJ (Rl:=rV) w2 fun d h3 ρ3 H3 z e3 er3 hr3 r3 w3=>?_
 cases d with
 | bl k =>
   have r3:RD ρ3 H3 (.bl k) z:=r3
   unfold RD at r3
   refine ⟨k,r3,?_⟩
   cases k with
   | true =>
     rw [if_pos rfl]
     exact ⟨F,ρ3,env,h3,er3,hr3,zJ w3 fun x4 h4 ρ4 H4 y4 e4 er4 hr4 r4 w4=>hg F ρ4 h4 H4 env σ x2 x4 y2 y4 Q er4 hr4 (RD.ext (e3.trans e4) _ _ r2) r4 w4⟩
   | false =>
     rw [if_neg ϑ]
     exact wp.done (h:=h3) w3 er3 hr3 (by unfold RD;rfl)
 | _=>exact w3.elim
theorem znc {op op':CmpOp}{r r':R2}{f g:D->D->ME D} (ho:OpR X (compareOp op) r∧OpM W G f r) (ho':OpR X (compareOp op') r'∧OpM W G g r') (ha:JE X a (tE W G ma)) (hb:JE X b (tE W G mb)) (hc:JE X c (tE W G mc))
   (hm:lastMarks [op,op'] [b,c]=false:=by with_unfolding_all rfl):JE X (.Compare a [op,op'] [b,c] pos) (tE W G (zff f g ma mb mc)) :=
 .of (zbb (zoz ho.1 ho'.1 ha.to hb.to hc.to hm) fun σ H Q w=>zny ho.2 ho'.2 w)
theorem zlG {op:UnaryOp}{r:V->Hp->VK->Prop}{f:D->ME D} (ho:UnR X (unaryOp op) r)
   (hf:∀ (F:Addr->Prop) (ρ:List Addr) (h:MH) (H:Hp) (env:zx) (σ:L2.St) (x:D) (v:V) (Q:VK),zS ρ H env σ->HR F G ρ h H->RD ρ H x v->wp F W G rV env σ ρ H (f x env h) Q->r v H Q) (ha:JE X a (tE W G ma)):JE X (.UnaryOp op a pos) (tE W G (un f ma)) :=
 .of (zbb (znT ho ha.to) fun σ H Q ⟨F,ρ,env,h,er,hr,w⟩=>⟨F,ρ,env,h,er,hr,zJ w fun x h1 ρ1 H1 y e1 er1 hr1 r1 w1=>hf F ρ1 h1 H1 env σ x y Q er1 hr1 r1 w1⟩)
theorem zb2 (ha:JE X a (tE W G ma)):JE X (.UnaryOp .USub a pos) (tE W G (un zbK ma)):=zlG zpU (fun F ρ h H env σ x v Q er hr r w=>by
 cases x with
 | int i=>unfold RD at r;exact ⟨i,r,wp.done (h:=h) w er hr (by unfold RD;rfl)⟩
 | _=>exact w.elim) ha
theorem zgO {f:D->D->ME D}{C:Int->Int->Prop}{g:Int->Int->V}{k:Int->Int->D} (hk:∀ i j ρ H,RD ρ H (k i j) (g i j)) (hf:∀ x y env h,(∃ i j,x = .int i∧y = .int j∧((C i j∧f x y env h = .ok (k i j) h)∨f x y env h = .bad))∨f x y env h = .bad):OpM W G f (rI C g):=by
 intro F ρ h H env σ x y v u Q er hr r1 r2 w
 rcases hf x y env h with ⟨i,j,rfl,rfl,⟨hc,e⟩ | e⟩ | e
 . rw [e]at w
   unfold RD at r1 r2
   exact ⟨i,j,r1,r2,hc,w.done er hr (hk i j ρ H)⟩
 . rw [e]at w;exact w.elim
 . rw [e]at w;exact w.elim
theorem zg2 {f:D->D->ME D}{g:Int->Int->V}{k:Int->Int->D} (hk:∀ i j ρ H,RD ρ H (k i j) (g i j)) (hf:∀ x y env h,(∃ i j,x = .int i∧y = .int j∧f x y env h = .ok (k i j) h)∨f x y env h = .bad):OpM W G f (rI0 g):=by
 intro F ρ h H env σ x y v u Q er hr r1 r2 w
 rcases hf x y env h with ⟨i,j,rfl,rfl,e⟩ | e
 . rw [e]at w
   unfold RD at r1 r2
   exact ⟨i,j,r1,r2,w.done er hr (hk i j ρ H)⟩
 . rw [e]at w;exact w.elim
theorem zm2:OpM W G zA (rI0 fun i j=> .int (i+j)):=zg2 (k:=fun i j=> .int (i+j)) (fun _ _ _ _=>by unfold RD;rfl) fun x y env h=>by cases x <;> cases y <;> first | exact .inr rfl | exact .inl ⟨_,_,rfl,rfl,rfl⟩
theorem znB:OpM W G zU (rI0 fun i j=> .int (i - j)):=zg2 (k:=fun i j=> .int (i - j)) (fun _ _ _ _=>by unfold RD;rfl) fun x y env h=>by cases x <;> cases y <;> first | exact .inr rfl | exact .inl ⟨_,_,rfl,rfl,rfl⟩
theorem zlO:OpM W G zbw (rI ze2 fun i j=> .int (i * j)):=zgO (k:=fun i j=> .int (i * j)) (fun _ _ _ _=>by unfold RD;rfl) fun x y env h=>by
 cases x <;> cases y <;> first | exact .inr rfl | skip
 rename_i i j
 refine .inl ⟨i,j,rfl,rfl,?_⟩
 show (_∧(if (zbU i || zbU j)=true then zb (.int (i * j)) else zB:ME D) env h=_)∨(if (zbU i || zbU j)=true then zb (.int (i * j)) else zB:ME D) env h=_
 by_cases e:(zbU i || zbU j)=true
 . left
   rw [if_pos e]
   refine ⟨?_,rfl⟩
   unfold ze2
   simp only [zbU,Bool.or_eq_true,Bool.and_eq_true,decide_eq_true_eq]at e
   exact e
 . right;rw [if_neg e];rfl
theorem znv:OpM W G zbR (rI zio fun i j=> .int (i / j)):=zgO (k:=fun i j=> .int (i / j)) (fun _ _ _ _=>by unfold RD;rfl) fun x y env h=>by
 cases x <;> cases y <;> first | exact .inr rfl | skip
 rename_i i j
 refine .inl ⟨i,j,rfl,rfl,?_⟩
 show (_∧(if 0 < j∧j < 1073741824 then zb (.int (i / j)) else zB:ME D) env h=_)∨(if 0 < j∧j < 1073741824 then zb (.int (i / j)) else zB:ME D) env h=_
 by_cases e:0 < j∧j < 1073741824
 . left;rw [if_pos e];exact ⟨e,rfl⟩
 . right;rw [if_neg e];rfl
theorem zl4:OpM W G zY (rI (fun _ j=>0 < j) fun i j=> .int (i % j)):=zgO (k:=fun i j=> .int (i % j)) (fun _ _ _ _=>by unfold RD;rfl) fun x y env h=>by
 cases x <;> cases y <;> first | exact .inr rfl | skip
 rename_i i j
 refine .inl ⟨i,j,rfl,rfl,?_⟩
 show (_∧(if 0 < j then zb (.int (i % j)) else zB:ME D) env h=_)∨(if 0 < j then zb (.int (i % j)) else zB:ME D) env h=_
 by_cases e:0 < j
 . left;rw [if_pos e];exact ⟨e,rfl⟩
 . right;rw [if_neg e];rfl
theorem zgH (p:Int->Int->Bool):OpM W G (ze9 p) (rI0 fun i j=> .bl (p i j)):=zg2 (k:=fun i j=> .bl (p i j)) (fun _ _ _ _=>by unfold RD;rfl) fun x y env h=>by cases x <;> cases y <;> first | exact .inr rfl | exact .inl ⟨_,_,rfl,rfl,rfl⟩
theorem zbt (ha:JE X a (tE W G ma)) (hb:JE X b (tE W G mb)):JE X (.BinOp a .Add b pos) (tE W G (bin zA ma mb)):=zeJ zm8 zm2 ha hb
theorem zb9 (ha:JE X a (tE W G ma)) (hb:JE X b (tE W G mb)):JE X (.BinOp a .Sub b pos) (tE W G (bin zU ma mb)):=zeJ zlL znB ha hb
theorem ze4 (ha:JE X a (tE W G ma)) (hb:JE X b (tE W G mb)):JE X (.BinOp a .Mult b pos) (tE W G (bin zbw ma mb)):=zeJ zol zlO ha hb
theorem zeZ (ha:JE X a (tE W G ma)) (hb:JE X b (tE W G mb)):JE X (.BinOp a .FloorDiv b pos) (tE W G (bin zbR ma mb)):=zeJ zmG znv ha hb
theorem zcO (ha:JE X a (tE W G ma)) (hb:JE X b (tE W G mb)):JE X (.BinOp a .Mod b pos) (tE W G (bin zY ma mb)):=zeJ zpj zl4 ha hb
end
end MI
end
section
namespace MI
open PySem PySem.Spec L2
mutual
noncomputable def cv:D->L2.D
 | .non=> .non
 | .bl b=> .bl b
 | .int i=> .int i
 | .str x=> .str x
 | .tup ds=> .tup (cvs ds)
 | .obj _=> .non
noncomputable def cvs:List D->List L2.D
 | []=>[]
 | d :: r=>cv d :: cvs r
end
noncomputable def cvC:Cmp->L2.D
 | .d x=>cv x
 | .l xs=> .lst (cvs xs)
theorem ziN {ρ:List Addr}{H:Hp}:∀ (n:Nat),(∀ (d:D) (v:V),d.pl n=true->RD ρ H d v->Dat H (cv d) v∧dpt (cv d)<=n)∧(∀ (ds:List D) (vs:List V),ds.all (D.pl n)=true->RDs ρ H ds vs->zbe H (cvs ds) vs∧zbC (cvs ds)<=n):=by
 intro n
 induction n with
 | zero =>
   have one:∀ (d:D) (v:V),d.pl 0=true->RD ρ H d v->Dat H (cv d) v∧dpt (cv d)<=0:=fun d v p r=>by
     cases d <;> first
       | (simp [D.pl]at p;done)
       | (unfold RD at r;simp [cv,Dat,dpt,r])
   refine ⟨one,fun ds=>?_⟩
   induction ds with
   | nil=>intro vs _ r;unfold RDs at r;simp [cvs,zbe,zbC,r]
   | cons d ds ih =>
     intro vs p r
     rw [List.all_cons,Bool.and_eq_true]at p
     unfold RDs at r
     obtain ⟨x,q,rfl,r1,r2⟩:=r
     obtain ⟨h1,h2⟩:=one d x p.1 r1
     obtain ⟨h3,h4⟩:=ih q p.2 r2
     unfold cvs zbe zbC
     exact ⟨⟨x,q,rfl,h1,h3⟩,ω⟩
 | succ n ihn =>
   have one:∀ (d:D) (v:V),d.pl (n+1)=true->RD ρ H d v->Dat H (cv d) v∧dpt (cv d)<=n+1:=fun d v p r=>by
     cases d with
     | tup ds =>
       unfold D.pl at p
       unfold RD at r
       obtain ⟨a,vs,rfl,h1,h2⟩:=r
       obtain ⟨h3,h4⟩:=ihn.2 ds vs p h2
       unfold cv Dat dpt
       exact ⟨⟨a,vs,rfl,h1,h3⟩,ω⟩
     | obj m=>simp [D.pl]at p
     | _=>unfold RD at r;simp [cv,Dat,dpt,r]
   refine ⟨one,fun ds=>?_⟩
   induction ds with
   | nil=>intro vs _ r;unfold RDs at r;simp [cvs,zbe,zbC,r]
   | cons d ds ih =>
     intro vs p r
     rw [List.all_cons,Bool.and_eq_true]at p
     unfold RDs at r
     obtain ⟨x,q,rfl,r1,r2⟩:=r
     obtain ⟨h1,h2⟩:=one d x p.1 r1
     obtain ⟨h3,h4⟩:=ih q p.2 r2
     unfold cvs zbe zbC
     exact ⟨⟨x,q,rfl,h1,h3⟩,ω⟩
theorem zjx:∀ (n:Nat),(∀ (a b:D),a.pl n=true->b.pl n=true->eqD (cv a) (cv b)=peq a b)∧(∀ (a b:List D),a.all (D.pl n)=true->b.all (D.pl n)=true->zbu (cvs a) (cvs b)=zbJ a b):=by
 intro n
 have many:(∀ (a b:D),a.pl n=true->b.pl n=true->eqD (cv a) (cv b)=peq a b)->(∀ (a b:List D),a.all (D.pl n)=true->b.all (D.pl n)=true->zbu (cvs a) (cvs b)=zbJ a b):=by
   intro one a
   induction a with
   | nil=>intro b _ _;cases b <;> simp [cvs,zbu,zbJ]
   | cons x a ih =>
     intro b p q
     cases b with
     | nil=>simp [cvs,zbu,zbJ]
     | cons y b =>
       rw [List.all_cons,Bool.and_eq_true]at p q
       unfold cvs zbu zbJ
       rw [one x y p.1 q.1,ih b p.2 q.2]
 induction n with
 | zero =>
   have one:∀ (a b:D),a.pl 0=true->b.pl 0=true->eqD (cv a) (cv b)=peq a b:=fun a b p q=>by
     cases a <;> first
       | (simp [D.pl]at p;done)
       | (cases b <;> first
         | (simp [D.pl]at q;done)
         | simp [cv,eqD,peq])
   exact ⟨one,many one⟩
 | succ n ihn =>
   have one:∀ (a b:D),a.pl (n+1)=true->b.pl (n+1)=true->eqD (cv a) (cv b)=peq a b:=fun a b p q=>by
     cases a with
     | tup as =>
       cases b with
       | tup bs =>
         unfold D.pl at p q
         unfold cv eqD peq
         refine (ihn ?_).2 as bs p q
         intro one a
         induction a with
         | nil=>intro b _ _;cases b <;> simp [cvs,zbu,zbJ]
         | cons x a ih =>
           intro b p q
           cases b with
           | nil=>simp [cvs,zbu,zbJ]
           | cons y b =>
             rw [List.all_cons,Bool.and_eq_true]at p q
             unfold cvs zbu zbJ
             rw [one x y p.1 q.1,ih b p.2 q.2]
       | obj m=>simp [D.pl]at q
       | _=>simp [cv,eqD,peq]
     | obj m=>simp [D.pl]at p
     | _ =>
       cases b with
       | obj m=>simp [D.pl]at q
       | _=>simp [cv,eqD,peq]
   exact ⟨one,many one⟩
section
variable {W:Nat->Hp->Prop}{X:Cx}{F:Addr->Prop}{G:GP}{env:zx}{σ:L2.St}{ρ:List Addr}{H:Hp}{h:MH}{a b c:Expr}{ma mb mc:ME D}{pos:Pos}{Q:VK}{k:Nat}
theorem HR.lst (hr:HR F G ρ h H) {n:Nat}{v:V}{xs:List D} (r:RD ρ H (.obj n) v) (e:h[n]?=some (.lst xs)):∃ a vs,v = .ref a∧ρ[n]?=some a∧H a=some (.lst vs)∧RDs ρ H xs vs:=by
 unfold RD at r
 obtain ⟨a,rfl,ea⟩:=r
 obtain ⟨vs,h1,h2⟩:=hr.at e ea
 exact ⟨a,vs,rfl,ea,h1,h2⟩
theorem HR.scr (hr:HR F G ρ h H) {n:Nat}{v:V}{xs:List D} (r:RD ρ H (.obj n) v) (e:h[n]?=some (.scr xs)):∃ a vs,v = .ref a∧ρ[n]?=some a∧SqL G.K H a vs∧RDs ρ H xs vs:=by
 unfold RD at r
 obtain ⟨a,rfl,ea⟩:=r
 obtain ⟨vs,h1,h2⟩:=hr.at e ea
 refine ⟨a,vs,rfl,ea,?_,h2⟩
 rcases h1 with ⟨o,h1⟩ | h1
 . exact .inl (.inr ⟨o,h1⟩)
 . exact .inr h1
theorem HR.dic (hr:HR F G ρ h H) {n:Nat}{v:V}{xs:List (Int×D)} (r:RD ρ H (.obj n) v) (e:h[n]?=some (.dic xs)):∃ a vs,v = .ref a∧ρ[n]?=some a∧H a=some (.dK vs)∧KRs ρ H xs vs:=by
 unfold RD at r
 obtain ⟨a,rfl,ea⟩:=r
 obtain ⟨vs,h1,h2⟩:=hr.at e ea
 exact ⟨a,vs,rfl,ea,h1,h2⟩
theorem HR.ins (hr:HR F G ρ h H) {n c:Nat}{v:V}{xs:List (Nat×D)} (r:RD ρ H (.obj n) v) (e:h[n]?=some (.ins c xs)):∃ a C dx vs,v = .ref a∧ρ[n]?=some a∧G.cm[c]?=some C∧H a=some (.ins C dx vs)∧FRs G ρ H C xs vs:=by
 unfold RD at r
 obtain ⟨a,rfl,ea⟩:=r
 obtain ⟨C,dx,vs,h1,h2,h3⟩:=hr.at e ea
 exact ⟨a,C,dx,vs,rfl,ea,h1,h2,h3⟩
theorem zhU {x:D}{k:Cmp} (e:zbO h x=some k):(∃ n xs,x = .obj n∧h[n]?=some (.lst xs)∧xs.all (D.pl 5)=true∧k = .l xs)∨(x.pl 5=true∧k = .d x):=by
 have fin:∀ {y:D},(if y.pl 5=true then some (Cmp.d y) else none)=some k->y.pl 5=true∧k = .d y:=fun {y} e=>by
   by_cases p:y.pl 5=true
   . rw [if_pos p]at e;cases e;exact ⟨p,rfl⟩
   . rw [if_neg p]at e;cases e
 cases x with
 | obj n =>
   simp only [zbO]at e
   cases q:h[n]? with
   | none=>rw [q]at e;cases e
   | some o =>
     rw [q]at e
     cases o with
     | lst xs =>
       dsimp only at e
       by_cases p:xs.all (D.pl 5)=true
       . rw [if_pos p]at e;cases e;exact .inl ⟨n,xs,rfl,q,p,rfl⟩
       . rw [if_neg p]at e;cases e
     | _=>cases e
 | _=>exact .inr (fin e)
theorem zfR (hr:HR F G ρ h H) {x:D}{v:V}{k:Cmp} (r:RD ρ H x v) (e:zbO h x=some k):Dat H (cvC k) v∧dpt (cvC k)<=100:=by
 rcases zhU e with ⟨n,xs,rfl,q,p,rfl⟩ | ⟨p,rfl⟩
 . obtain ⟨a,vs,rfl,ea,h1,h2⟩:=hr.lst r q
   obtain ⟨h3,h4⟩:=(ziN 5).2 xs vs p h2
   unfold cvC Dat dpt
   exact ⟨⟨a,vs,rfl,.inl h1,h3⟩,ω⟩
 . obtain ⟨h1,h2⟩:=(ziN 5).1 _ v p r
   exact ⟨h1,Nat.le_trans h2 ϑ⟩
theorem ziu {x:D}{k:Cmp} (e:zbO h x=some k):match k with
   | .d y=>y.pl 5=true
   | .l ys=>ys.all (D.pl 5)=true:=by
 rcases zhU e with ⟨n,xs,rfl,q,p,rfl⟩ | ⟨p,rfl⟩
 . exact p
 . exact p
theorem zhN (xs:List L2.D) (y:D):eqD (.lst xs) (cv y)=false∧eqD (cv y) (.lst xs)=false:=by
 cases y <;> simp [cv,eqD]
theorem zi9 {x y:D}{k l:Cmp} (e:zbO h x=some k) (e':zbO h y=some l):eqD (cvC k) (cvC l)=k.eq l:=by
 have p:=ziu e
 have q:=ziu e'
 cases k with
 | d x =>
   cases l with
   | d y=>exact (zjx 5).1 x y p q
   | l ys=>exact (zhN _ _).2
 | l xs =>
   cases l with
   | d y=>exact (zhN _ _).1
   | l ys =>
     show eqD (.lst (cvs xs)) (.lst (cvs ys))=zbJ xs ys
     unfold eqD
     exact (zjx 5).2 xs ys p q
theorem zmv:OpM W G eqV zfM:=fun F ρ h H env σ x y v u Q er hr r1 r2 w=>by
 unfold eqV at w
 cases e1:zbO h x with
 | none=>rw [e1]at w;exact w.elim
 | some k =>
   cases e2:zbO h y with
   | none=>rw [e1,e2]at w;exact w.elim
   | some l =>
     rw [e1,e2]at w
     obtain ⟨h1,h2⟩:=zfR hr r1 e1
     obtain ⟨h3,h4⟩:=zfR hr r2 e2
     exact ⟨_,_,h1,h3,h2,w.done er hr (by rw [zi9 e1 e2];unfold RD;rfl)⟩
theorem zoZ:OpM W G neV zfy:=fun F ρ h H env σ x y v u Q er hr r1 r2 w=>by
 unfold neV at w
 cases e1:zbO h x with
 | none=>rw [e1]at w;exact w.elim
 | some k =>
   cases e2:zbO h y with
   | none=>rw [e1,e2]at w;exact w.elim
   | some l =>
     rw [e1,e2]at w
     obtain ⟨h1,h2⟩:=zfR hr r1 e1
     obtain ⟨h3,h4⟩:=zfR hr r2 e2
     exact ⟨_,_,h1,h3,h2,w.done er hr (by rw [zi9 e1 e2];unfold RD;rfl)⟩
theorem zdR (hr:zO k X.A):OpR X (compareOp .Lt) (rI0 fun i j=> .bl (decide (i < j)))∧OpM W G ltV (rI0 fun i j=> .bl (decide (i < j))):=⟨zpQ,zgH _⟩
theorem zjo (hr:zO k X.A):OpR X (compareOp .LtE) (rI0 fun i j=> .bl (decide (i<=j)))∧OpM W G leV (rI0 fun i j=> .bl (decide (i<=j))):=⟨zm6,zgH _⟩
theorem zfP (hr:zO k X.A):OpR X (compareOp .Gt) (rI0 fun i j=> .bl (decide (j < i)))∧OpM W G gtV (rI0 fun i j=> .bl (decide (j < i))):=⟨zm4,zgH _⟩
theorem zbQ (hr:zO k X.A):OpR X (compareOp .Eq) zfM∧OpM W G eqV zfM:=⟨znJ hr,zmv⟩
theorem zdX (hr:zO k X.A):OpR X (compareOp .NotEq) zfy∧OpM W G neV zfy:=⟨zmX hr,zoZ⟩
theorem zjs {d:D}{v:V} (r:RD ρ H d v) (f:zbD d=true):zbs v=true:=by
 cases d <;> first | (simp [zbD]at f;done) | (unfold RD at r;subst r;rfl)
theorem zim:∀ {ds:List D}{vs:List V},RDs ρ H ds vs->ds.all zbD=true->vs.all zbs=true
 | [],vs,r,_=>by unfold RDs at r;subst r;rfl
 | d :: ds,vs,r,f=>by
   unfold RDs at r
   obtain ⟨x,q,rfl,r1,r2⟩:=r
   rw [List.all_cons,Bool.and_eq_true]at f
   rw [List.all_cons,zjs r1 f.1,zim r2 f.2];rfl
theorem znW {d e:D}{v u:V} (r:RD ρ H d v) (r':RD ρ H e u) (f:zbD d=true) (f':zbD e=true):L2.eqV v u=peq d e:=by
 cases d <;> first
   | (simp [zbD]at f;done)
   | (cases e <;> first
     | (simp [zbD]at f';done)
     | (unfold RD at r r';subst r r';simp [L2.eqV,peq]))
theorem zhT {d:D}{v:V} (r:RD ρ H d v) (f:zbD d=true):∀ {ds:List D}{vs:List V},RDs ρ H ds vs->ds.all zbD=true->L2.inV v vs=inB d ds
 | [],vs,r',_=>by unfold RDs at r';subst r';rfl
 | e :: ds,vs,r',f'=>by
   unfold RDs at r'
   obtain ⟨x,q,rfl,r1,r2⟩:=r'
   rw [List.all_cons,Bool.and_eq_true]at f'
   have ih:=zhT r f r2 f'.2
   unfold L2.inV inB at ih ⊢
   rw [List.any_cons,List.any_cons,ih,znW r1 r f'.1 f]
theorem zhp:∀ {kvs:List (Int×D)}{vs:List (Key×V)}{k:Int},KRs ρ H kvs vs->match look k kvs with
   | some d=>∃ v,zcn vs (Sum.inl k)=some v∧RD ρ H d v
   | none=>zcn vs (Sum.inl k)=none
 | [],vs,k,r=>by unfold KRs at r;subst r;rfl
 | p :: kvs,vs,k,r=>by
   unfold KRs at r
   obtain ⟨v,q,rfl,r1,r2⟩:=r
   unfold look
   by_cases e:p.1=k
   . rw [if_pos e]
     exact ⟨v,zhc (by rw [e]),r1⟩
   . rw [if_neg e,zgp (fun z=>e (Sum.inl.inj z))]
     exact zhp r2
noncomputable def zfd (neg:Bool):R2:=fun x y H Q=>∃ a o,y = .ref a∧zdd H a x o∧Q (.bl (if neg then !o.isSome else o.isSome)) H
theorem zoW (hr:zO k X.A):OpR X (compareOp .In) (zfd false):=fun pins s σ H x y v u Q I rx ry ⟨a,o,e,g,q⟩=>by
 subst e;cases ry
 exact zqa (zjf hr) I g rx fun s' I'=>⟨.bl o.isSome,H,I',rfl,q⟩
theorem zp7 {x y:D}:(∃ b,inV x y env h = .ok (.bl b) h)∨inV x y env h = .bad:=by
 cases y with
 | tup ds =>
   simp only [inV]
   split
   . exact .inl ⟨_,rfl⟩
   . exact .inr rfl
 | obj n =>
   simp only [inV]
   cases q:h[n]? with
   | none=>exact .inr rfl
   | some o =>
     cases o with
     | lst xs =>
       dsimp only
       split
       . exact .inl ⟨_,rfl⟩
       . exact .inr rfl
     | scr xs =>
       dsimp only
       split
       . exact .inl ⟨_,rfl⟩
       . exact .inr rfl
     | dic kvs=>cases x <;> first | exact .inl ⟨_,rfl⟩ | exact .inr rfl
     | _=>exact .inr rfl
 | _=>exact .inr rfl
theorem znp {x y:D}{v u:V}{neg b:Bool}{Q:VK} (hK:X.K=G.K) (hr:HR F G ρ h H) (r1:RD ρ H x v) (r2:RD ρ H y u) (w:inV x y env h = .ok (.bl b) h) (q0:Q (.bl (if neg then !b else b)) H) :
   rIn X.K neg v u H Q∨zfd neg v u H Q:=by
 have seq:∀ {p:Addr} {vs:List V} {ds:List D},u = .ref p->(SqL X.K H p vs∨SqT X.K H p vs)->RDs ρ H ds vs->(if (zbD x && ds.all zbD)=true then R.ok (.bl (inB x ds)) h else .bad:R D) = .ok (.bl b) h->rIn X.K neg v u H Q:=fun {p vs ds} e sq rs w=>by
   by_cases f:(zbD x && ds.all zbD)=true
   . rw [if_pos f]at w
     cases w
     rw [Bool.and_eq_true]at f
     refine ⟨p,vs,e,sq,zjs r1 f.1,zim rs f.2,?_⟩
     rw [zhT r1 f.1 rs f.2]
     exact q0
   . rw [if_neg f]at w;cases w
 cases y with
 | tup ds =>
   simp only [inV]at w
   unfold RD at r2
   obtain ⟨p,vs,e,hp,rs⟩:=r2
   exact .inl (seq e (.inr (.inl (.inl hp))) rs w)
 | obj n =>
   simp only [inV]at w
   cases q:h[n]? with
   | none=>rw [q]at w;cases w
   | some o =>
     rw [q]at w
     cases o with
     | lst xs =>
       obtain ⟨a,vs,e,ea,h1,h2⟩:=hr.lst r2 q
       exact .inl (seq e (.inl (SqL.of h1)) h2 w)
     | scr xs =>
       obtain ⟨a,vs,e,ea,h1,h2⟩:=hr.scr r2 q
       exact .inl (seq e (.inl (by rw [hK];exact h1)) h2 w)
     | dic kvs =>
       obtain ⟨a,vs,e,ea,h1,h2⟩:=hr.dic r2 q
       cases x with
       | int i =>
         dsimp only at w
         unfold RD at r1
         subst r1
         refine .inr ⟨a,zcn vs (Sum.inl i),e,zdd.k (k:=Sum.inl i) h1,?_⟩
         have lv:=zhp (k:=i) h2
         cases el:look i kvs with
         | none=>rw [el]at lv w;cases w;rw [lv];exact q0
         | some d =>
           rw [el]at lv w
           obtain ⟨v',e',_⟩:=lv
           cases w
           rw [e'];exact q0
       | _=>cases w
     | _=>cases w
 | _=>cases w
noncomputable def ROr (r r':R2):R2:=fun x y H Q=>r x y H Q∨r' x y H Q
theorem zp5 (hK:X.K=G.K):OpM W G inV (ROr (rIn X.K false) (zfd false)):=fun F ρ h H env σ x y v u Q er hr r1 r2 w=>by
 rcases zp7 (x:=x) (y:=y) (env:=env) (h:=h) with ⟨b,e⟩ | e
 . rw [e]at w
   exact znp (neg:=false) hK hr r1 r2 e (w.done er hr (by unfold RD;rfl))
 . rw [e]at w;exact w.elim
theorem zn7 (hr:zO k X.A) (hK:X.K=G.K:=by rfl):OpR X (compareOp .In) (ROr (rIn X.K false) (zfd false))∧OpM W G inV (ROr (rIn X.K false) (zfd false)):=⟨znI.or (zoW hr),zp5 hK⟩
theorem RD.non_iff {d:D}{v:V} (r:RD ρ H d v):(v = .non)↔(d = .non):=by
 cases d <;> unfold RD at r <;> first
   | (subst r;simp;done)
   | (obtain ⟨a,vs,rfl,_⟩:=r;simp;done)
   | (obtain ⟨a,rfl,_⟩:=r;simp;done)
noncomputable def rIs (neg:Bool):R2:=ROr (fun x y H Q=>y = .non∧Q (.bl (if neg then !decide (x = .non) else decide (x = .non))) H) (fun x y H Q=>∃ b c,x = .bl b∧y = .bl c∧Q (.bl (if neg then !(b == c) else (b == c))) H)
theorem zlS:OpM W G isN (rIs false):=fun F ρ h H env σ x y v u Q er hr r1 r2 w=>by
 cases y with
 | non =>
   unfold RD at r2
   refine .inl ⟨r2,?_⟩
   have e:decide (v = .non)=decide (x = .non):=decide_eq_decide.mpr r1.non_iff
   have w':wp F W G rV env σ ρ H (.ok (.bl (decide (x = .non))) h) Q:=by cases x <;> exact w
   exact w'.done er hr (by rw [e];unfold RD;rfl)
 | bl c =>
   cases x with
   | bl b=>unfold RD at r1 r2;exact .inr ⟨b,c,r1,r2,wp.done (h:=h) w er hr (by unfold RD;rfl)⟩
   | _=>exact w.elim
 | _=>cases x <;> exact w.elim
theorem zmh (hr:zO k X.A):OpR X (compareOp .Is) (rIs false)∧OpM W G isN (rIs false):=⟨zl2.or zlJ,zlS⟩
theorem zm7 (ha:JE X a (tE W G ma)):JE X (.UnaryOp .Not a pos) (tE W G (un zgQ ma)) :=
 .of (zbb (znk ha.to) fun σ H Q ⟨F,ρ,env,h,er,hr,w⟩=>⟨F,ρ,env,h,er,hr,zJ w fun x h1 ρ1 H1 y e1 er1 hr1 r1 w1=>by
   cases x with
   | bl b=>have r1:RD ρ1 H1 (.bl b) y:=r1;unfold RD at r1;exact ⟨b,r1,wp.done (h:=h1) w1 er1 hr1 (by unfold RD;rfl)⟩
   | _=>exact w1.elim⟩)
variable {rest:List Expr}
theorem zeM {op} (ha:JE X a (tE W G ma)):JE X (.BoolOp op [a] pos) (tE W G ma) := .of (zoq ha.to)
theorem zdr (ha:JE X a (tE W G ma)) (hb:JE X (.BoolOp .And (b :: rest) pos) (tE W G mb)):JE X (.BoolOp .And (a :: b :: rest) pos) (tE W G (zcL ma mb)) :=
 .of (zbb (znm ha.to hb.to) fun σ H Q ⟨F,ρ,env,h,er,hr,w⟩=>⟨F,ρ,env,h,er,hr,zJ w fun x h1 ρ1 H1 y e1 er1 hr1 r1 w1=>by
   cases x with
   | bl b =>
     have r1:RD ρ1 H1 (.bl b) y:=r1
     unfold RD at r1
     refine ⟨b,r1,?_⟩
     cases b with
     | true=>rw [if_pos rfl];exact ⟨F,ρ1,env,h1,er1,hr1,w1⟩
     | false=>rw [if_neg ϑ];exact wp.done (h:=h1) w1 er1 hr1 (by unfold RD;rfl)
   | _=>exact w1.elim⟩)
variable {ta tb:ME Bool}
theorem zdV (hc:JT X c (tT W G ta)) (ha:JE X a (tE W G ma)) (hb:JE X b (tE W G mb)):JE X (.IfExp c a b pos) (tE W G (ifE ta ma mb)) :=
 .of (zbb (zmY hc.to ha.to hb.to) fun σ H Q ⟨F,ρ,env,h,er,hr,w⟩=>⟨F,ρ,env,h,er,hr,zJ w fun x h1 ρ1 H1 y e1 er1 hr1 r1 w1=>by
   obtain rfl:x=y:=r1
   cases x with
   | true=>rw [if_pos rfl]at w1 ⊢;exact ⟨F,ρ1,env,h1,er1,hr1,w1⟩
   | false=>rw [if_neg ϑ]at w1 ⊢;exact ⟨F,ρ1,env,h1,er1,hr1,w1⟩⟩)
theorem zbp (ha:JT X a (tT W G ta)):JT X (.UnaryOp .Not a pos) (tT W G (zbd ta)) :=
 .of (zgT (znZ ha.to) fun σ H Q ⟨F,ρ,env,h,er,hr,w⟩=>⟨F,ρ,env,h,er,hr,zJ w fun x h1 ρ1 H1 y e1 er1 hr1 r1 w1=>by
   obtain rfl:x=y:=r1
   exact wp.done (h:=h1) w1 er1 hr1 rfl⟩)
theorem zhI (ha:JT X a (tT W G ta)):JW X (.BoolOp .And [a] pos) (tT W G ta) := .of (zmD ha.to)
theorem zdD (ha:JT X a (tT W G ta)):JW X (.BoolOp .Or [a] pos) (tT W G ta) := .of (zoh ha.to)
theorem zhm (ha:JT X a (tT W G ta)) (hb:JW X (.BoolOp .And (b :: rest) pos) (tT W G tb)):JW X (.BoolOp .And (a :: b :: rest) pos) (tT W G (zbn ta tb)) :=
 .of (ziA (znE ha.to hb.to) fun σ H Q ⟨F,ρ,env,h,er,hr,w⟩=>⟨F,ρ,env,h,er,hr,zJ w fun x h1 ρ1 H1 y e1 er1 hr1 r1 w1=>by
   obtain rfl:x=y:=r1
   cases x with
   | true=>rw [if_pos rfl]at w1 ⊢;exact ⟨F,ρ1,env,h1,er1,hr1,w1⟩
   | false=>rw [if_neg ϑ]at w1 ⊢;exact wp.done (h:=h1) w1 er1 hr1 rfl⟩)
theorem zdv (ha:JT X a (tT W G ta)) (hb:JW X (.BoolOp .Or (b :: rest) pos) (tT W G tb)):JW X (.BoolOp .Or (a :: b :: rest) pos) (tT W G (orT ta tb)) :=
 .of (ziA (zlM ha.to hb.to) fun σ H Q ⟨F,ρ,env,h,er,hr,w⟩=>⟨F,ρ,env,h,er,hr,zJ w fun x h1 ρ1 H1 y e1 er1 hr1 r1 w1=>by
   obtain rfl:x=y:=r1
   cases x with
   | false=>rw [if_neg ϑ]at w1 ⊢;exact ⟨F,ρ1,env,h1,er1,hr1,w1⟩
   | true=>rw [if_pos rfl]at w1 ⊢;exact wp.done (h:=h1) w1 er1 hr1 rfl⟩)
theorem t_w (h:JW X a (tT W G ta)):JT X a (tT W G ta) := .of (PW.pt h.to)
theorem zbm (ha:JE X a (tE W G ma)) (he:∀ whole,isTrue a X.env whole=(do let v <- whole;standAt a.pos;holding [v] (truthy v))) (hK:X.K=G.K:=by rfl):JT X a (tT W G (tru ma)) :=
 .of (zgT (znX ha.to he) fun σ H Q ⟨F,ρ,env,h,er,hr,w⟩=>⟨F,ρ,env,h,er,hr,zJ w fun x h1 ρ1 H1 y e1 er1 hr1 r1 w1=>by
   unfold zex at w1
   have r1:RD ρ1 H1 x y:=r1
   cases x with
   | non=>unfold RD at r1;subst r1;exact ⟨false,rfl,wp.done (h:=h1) w1 er1 hr1 rfl⟩
   | bl b=>unfold RD at r1;subst r1;exact ⟨b,rfl,wp.done (h:=h1) w1 er1 hr1 rfl⟩
   | int i=>unfold RD at r1;subst r1;exact ⟨i != 0,rfl,wp.done (h:=h1) w1 er1 hr1 rfl⟩
   | tup ds =>
     unfold RD at r1
     obtain ⟨p,vs,rfl,hp,rs⟩:=r1
     refine ⟨!ds.isEmpty,.inr (.inl ⟨vs,.inl (.inl hp),?_⟩),wp.done (h:=h1) w1 er1 hr1 rfl⟩
     have:=rs.length
     cases ds <;> cases vs <;> first | rfl | simp at this
   | obj n =>
     dsimp only at w1
     cases q:h1[n]? with
     | none=>rw [q]at w1;exact w1.elim
     | some o =>
       rw [q]at w1
       cases o with
       | lst xs =>
         obtain ⟨p,vs,rfl,ea,hp,rs⟩:=hr1.lst r1 q
         refine ⟨!xs.isEmpty,.inl ⟨vs,SqL.of hp,?_⟩,wp.done (h:=h1) w1 er1 hr1 rfl⟩
         have:=rs.length
         cases xs <;> cases vs <;> first | rfl | simp at this
       | scr xs =>
         obtain ⟨p,vs,rfl,ea,hp,rs⟩:=hr1.scr r1 q
         refine ⟨!xs.isEmpty,.inl ⟨vs,by rw [hK];exact hp,?_⟩,wp.done (h:=h1) w1 er1 hr1 rfl⟩
         have:=rs.length
         cases xs <;> cases vs <;> first | rfl | simp at this
       | dic kvs =>
         obtain ⟨p,vs,rfl,ea,hp,rs⟩:=hr1.dic r1 q
         refine ⟨!kvs.isEmpty,.inr (.inr ⟨vs,hp,?_⟩),wp.done (h:=h1) w1 er1 hr1 rfl⟩
         cases kvs with
         | nil=>unfold KRs at rs;subst rs;rfl
         | cons p r=>unfold KRs at rs;obtain ⟨v,q,rfl,_⟩:=rs;rfl
       | _=>exact w1.elim
   | _=>exact w1.elim⟩)
end
end MI
end
section
namespace MI
open PySem PySem.Spec L2
section
variable {α β γ δ:Type}{W:Nat->Hp->Prop}{F:Addr->Prop}{G:GP}{Rl:RL α β}{Rl':RL γ δ}{env:zx}{σ:L2.St}{ρ:List Addr}{H:Hp}{h:MH}
theorem ziW {r:R α}{Rl2:RL α δ}{Q:δ->Hp->Prop}{P:β->Hp->Prop} (w:wp F W G Rl2 env σ ρ H r Q)
   (f:∀ x h1 ρ1 H1 y,Ext F ρ ρ1 H H1->zS ρ1 H1 env σ->HR F G ρ1 h1 H1->Rl F ρ1 h1 H1 x y->wp F W G Rl2 env σ ρ1 H1 (.ok x h1) Q->P y H1):wp F W G Rl env σ ρ H r P:=by
 cases r with
 | ok v h1=>exact fun ρ1 H1 y ex er hr rl=>f v h1 ρ1 H1 y ex er hr rl (w.mono ex)
 | ex c h1=>exact w
 | bad=>exact w
end
section
variable {W:Nat->Hp->Prop}{X:Cx}{F:Addr->Prop}{G:GP}{env:zx}{σ:L2.St}{ρ:List Addr}{H:Hp}{h:MH}{a b c e:Expr}{es:List Expr}{ma mb mc:ME D}{ml ml':ME (List D)}{pos p p1 p2:Pos}{Q:VK}{k:Nat}
theorem zh:JA X [] (tA W G zf) := .of (zhF zb1 fun σ H Q ⟨F,ρ,env,h,er,hr,w⟩=>wp.done (h:=h) w er hr RDs.nil)
theorem zc (ha:JE X e (tE W G ma)) (hr:JA X es (tA W G ml)) (hs:starEach (e :: es) X.env=(false,eval e X.env) :: starEach es X.env):JA X (e :: es) (tA W G (za ma ml)) :=
 .of (zhF (zbq ha.to hr.to hs) fun σ H Q ⟨F,ρ,env,h,er,hr,w⟩=>⟨F,ρ,env,h,er,hr,zJ w fun x h1 ρ1 H1 y e1 er1 hr1 r1 w1=>⟨F,ρ1,env,h1,er1,hr1,zJ w1 fun xs h2 ρ2 H2 ys e2 er2 hr2 r2 w2 =>
   wp.done (h:=h2) w2 er2 hr2 (RDs.cons (RD.ext e2 _ _ r1) r2)⟩⟩)
theorem zg7 {n:Nat} (h:n<=1000000):n<=sizeLine:=by rw [sizeLine_eq];omega
theorem zP {x1} (ha:JA X es (tA W G ml)):JE X (.Tuple es x1 pos) (tE W G (zy ml)) :=
 .of (zbb (zoF ha.to) fun σ H Q ⟨F,ρ,env,h,er,hr,w⟩=>⟨F,ρ,env,h,er,hr,zJ w fun xs h1 ρ1 H1 ys e1 er1 hr1 r1 w1=>by
   by_cases hl:xs.length<=1000
   . rw [if_pos hl]at w1
     have r1:RDs ρ1 H1 xs ys:=r1
     refine ⟨zg7 (by rw [<- r1.length];omega),fun p hp=>?_⟩
     refine wp.made (h:=h1) w1 er1 hr1 hp ?_
     show RD ρ1 (upd H1 p (.tup ys)) (.tup xs) (.ref p)
     unfold RD
     exact ⟨p,ys,rfl,zbN,RDs.ext (zcC hr1 hp) _ _ r1⟩
   . rw [if_neg hl]at w1;exact w1.elim⟩)
theorem zfT {p:Addr}{xs:List D}{vs:List V} (hr:HR F G ρ h H) (hp:H p=none) (r:RDs ρ H xs vs):rN G.K F ρ h (upd H p (.lst vs)) xs (.ref p):=⟨p,vs,rfl,zbN,hr.fresh hp,RDs.ext (zcC hr hp) _ _ r⟩
theorem zv (ha:JA X es (tA W G ml)):JE X (.List es pos) (tN W G (zp ml)) :=
 .of (zbb (zhi ha.to) fun σ H Q ⟨F,ρ,env,h,er,hr,w⟩=>⟨F,ρ,env,h,er,hr,zJ w fun xs h1 ρ1 H1 ys e1 er1 hr1 r1 w1=>by
   by_cases hl:xs.length<=1000
   . rw [if_pos hl]at w1
     have r1:RDs ρ1 H1 xs ys:=r1
     exact ⟨zg7 (by rw [<- r1.length];omega),fun p hp=>wp.made (h:=h1) w1 er1 hr1 hp (zfT hr1 hp r1)⟩
   . rw [if_neg hl]at w1;exact w1.elim⟩)
theorem znl {a:Addr}{vs:List V}{xs:List D}{Q:VK} (w:wp F W G rV env σ ρ H (zeG (.lst xs) env h) Q) (er:zS ρ H env σ) (hr:HR F G ρ h H) (ha:H a=some (.lst vs)) (fr:zde F ρ h a) (r:RDs ρ H xs vs):Q (.ref a) H:=by
 have ex:Ext F ρ (ρ++[a]) H H:=⟨⟨[a],rfl⟩,fun _ _ z=>z,fun _ _=>rfl⟩
 refine w (ρ++[a]) H (.ref a) ex (er.ext ex) (hr.named fr ⟨vs,ha,RDs.snocρ _ _ r⟩) ?_
 show RD _ _ (.obj h.length) (.ref a)
 unfold RD
 exact ⟨a,rfl,by rw [<- hr.len];simp⟩
theorem zu (ha:JE X e (tN W G ml)):JE X e (tE W G (zo ml)) :=
 .of (zbb ha.to fun σ H Q ⟨F,ρ,env,h,er,hr,w⟩=>⟨F,ρ,env,h,er,hr,zJ w fun xs h1 ρ1 H1 y e1 er1 hr1 ⟨a,vs,ey,ha,fr,r1⟩ w1=>by
   subst ey;exact znl w1 er1 hr1 ha fr r1⟩)
theorem zet (ha:JE X e (tN W G ml)):JE X e (tL W G ml) :=
 .of (zbb ha.to fun σ H Q ⟨F,ρ,env,h,er,hr,w⟩=>⟨F,ρ,env,h,er,hr,ziW w fun x h1 ρ1 H1 y e1 er1 hr1 ⟨a,vs,ey,ha,fr,r1⟩ w1=>by
   subst ey;exact w1.done er1 hr1 ⟨a,vs,rfl,ha,r1⟩⟩)
theorem zma {n:Nat}{y:V}{P:Prop}{β:Type}{Rl:RL (List D) β}{Q:β->Hp->Prop} (w:wp F W G Rl env σ ρ H (zcr n env h) Q) (hr:HR F G ρ h H) (r:RD ρ H (.obj n) y)
   (f:∀ a vs xs,y = .ref a->ρ[n]?=some a->H a=some (.lst vs)->RDs ρ H xs vs->h[n]?=some (.lst xs)->wp F W G Rl env σ ρ H (.ok xs h) Q->P):P:=by
 simp only [zcr]at w
 cases q:h[n]? with
 | none=>rw [q]at w;exact w.elim
 | some o =>
   rw [q]at w
   cases o with
   | lst xs=>obtain ⟨a,vs,ea,e1,h1,h2⟩:=hr.lst r q;exact f a vs xs ea e1 h1 h2 q w
   | _=>exact w.elim
theorem zjp {γ δ:Type}{Rl':RL γ δ}{n:Nat}{y:V}{P:Prop}{Q:δ->Hp->Prop}{kk:List D->ME γ} (w:wp F W G Rl' env σ ρ H (zn (zcr n) kk env h) Q) (hr:HR F G ρ h H) (r:RD ρ H (.obj n) y)
   (f:∀ a vs xs,y = .ref a->ρ[n]?=some a->H a=some (.lst vs)->RDs ρ H xs vs->h[n]?=some (.lst xs)->wp F W G Rl' env σ ρ H (kk xs env h) Q->P):P:=by
 simp only [zn,zcr]at w
 cases q:h[n]? with
 | none=>rw [q]at w;exact w.elim
 | some o =>
   rw [q]at w
   cases o with
   | lst xs=>obtain ⟨a,vs,ea,e1,h1,h2⟩:=hr.lst r q;exact f a vs xs ea e1 h1 h2 q w
   | _=>exact w.elim
theorem zne (ha:JE X e (tE W G ma)):JE X e (tL W G (zfU ma)) :=
 .of (zbb ha.to fun σ H Q ⟨F,ρ,env,h,er,hr,w⟩=>⟨F,ρ,env,h,er,hr,zJ w fun x h1 ρ1 H1 y e1 er1 hr1 r1 w1=>by
   cases x with
   | obj n=>exact zma w1 hr1 r1 fun a vs xs ey _ ha rs _ w2=>by subst ey;exact w2.done er1 hr1 ⟨a,vs,rfl,ha,rs⟩
   | _=>exact w1.elim⟩)
theorem RDs.atI {xs:List D}{vs:List V}{i:Int}{d:D} (r:RDs ρ H xs vs) (e:MI.atI xs i=some d):∃ v,L2.atI vs i=some v∧RD ρ H d v:=by
 unfold MI.atI at e
 unfold L2.atI
 rw [Option.bind_eq_some_iff]at e
 obtain ⟨j,e1,e2⟩:=e
 obtain ⟨v,e3,e4⟩:=r.get e2
 exact ⟨v,by rw [<- r.length];show (MI.ixN xs.length i).bind _=_;rw [e1];exact e3,e4⟩
noncomputable def zpf:R2:=fun x y H Q=>∃ a v,x = .ref a∧zdd H a y (some v)∧Q v H
theorem zo5 (hr:zO k X.A):IxR X zpf:=by
 intro value slice pins s σ H x y v u Q I rx ry h hs
 obtain ⟨a,z,rfl,g,q⟩:=h
 cases rx
 have hT:=zoH I g
 unfold PyProof.Rows.subscriptTail
 refine wpAny_bind ?_
 rw [getitemInPython_of_ne hT.not_modules]
 refine wpAny_bind (wpAny_specialOf hT PySem.F.slot_dict_getitem.lookup ?_)
 have fin:wpAny (model X.prog X.w) X.A (subscripted slice false (.ref a) u) (fun r s₃=>wpAny (model X.prog X.w) X.A (letTemporaryGo value (.ref a) r >>= fun _=>pure r) (EP X pins σ Q) X.xe s₃) X.xe s:=by
   rw [hs]
   exact wpAny_operating (zmK (zjf hr) I g ry fun w' s3 I3 rw'=>wpAny_bind (wpAny_letTemporaryGo (wpAny_pure ⟨z,H,I3,rw',q⟩)))
 first
   | exact wpAny_pure (wpAny_bind fin)
   | exact wpAny_bind (wpAny_pure (wpAny_bind fin))
   | exact wpAny_bind fin
theorem zQ (rm:zO k X.A) (ha:JE X a (tE W G ma)) (hb:JE X b (tE W G mb)) (hs:zis b) (hK:X.K=G.K:=by rfl):JE X (.Subscript a b pos) (tE W G (bin zk ma mb)) :=
 .of (zbb (zmw (zpF.or (zoa.or (zo5 rm))) ha.to hb.to hs) fun σ H Q ⟨F,ρ,env,h,er,hr,w⟩=>⟨F,ρ,env,h,er,hr,zJ w fun x h1 ρ1 H1 y e1 er1 hr1 r1 w1=>⟨F,ρ1,env,h1,er1,hr1,zJ w1 fun x2 h2 ρ2 H2 y2 e2 er2 hr2 r2 w2=>by
   have r1:RD ρ2 H2 x y:=RD.ext e2 _ _ r1
   have r2:RD ρ2 H2 x2 y2:=r2
   cases x with
   | tup ds =>
     cases x2 with
     | int i =>
       simp only [zk]at w2
       unfold RD at r1 r2
       obtain ⟨p,vs,rfl,hp,rs⟩:=r1
       cases q:MI.atI ds i with
       | none=>rw [q]at w2;exact w2.elim
       | some d =>
         rw [q]at w2
         obtain ⟨v,e3,e4⟩:=rs.atI q
         exact .inr (.inl ⟨p,vs,i,v,rfl,r2,SqT.of hp,e3,w2.done er2 hr2 e4⟩)
     | _=>exact w2.elim
   | obj n =>
     cases x2 with
     | int i =>
       simp only [zk]at w2
       have r2':=r2
       unfold RD at r2'
       cases qo:h2[n]? with
       | none=>rw [qo]at w2;exact w2.elim
       | some o =>
         rw [qo]at w2
         cases o with
         | lst xs =>
           obtain ⟨p,vs,rfl,ea,hp,rs⟩:=hr2.lst r1 qo
           dsimp only at w2
           cases q:MI.atI xs i with
           | none=>rw [q]at w2;exact w2.elim
           | some d =>
             rw [q]at w2
             obtain ⟨v,e3,e4⟩:=rs.atI q
             exact .inl ⟨p,vs,i,v,rfl,r2',SqL.of hp,e3,w2.done er2 hr2 e4⟩
         | scr xs =>
           obtain ⟨p,vs,rfl,ea,hp,rs⟩:=hr2.scr r1 qo
           dsimp only at w2
           cases q:MI.atI xs i with
           | none=>rw [q]at w2;exact w2.elim
           | some d =>
             rw [q]at w2
             obtain ⟨v,e3,e4⟩:=rs.atI q
             exact .inl ⟨p,vs,i,v,rfl,r2',by rw [hK];exact hp,e3,w2.done er2 hr2 e4⟩
         | dic kvs =>
           obtain ⟨p,vs,rfl,ea,hp,rs⟩:=hr2.dic r1 qo
           dsimp only at w2
           have lv:=zhp (k:=i) rs
           cases q:look i kvs with
           | none=>rw [q]at w2;exact w2.elim
           | some d =>
             rw [q]at w2 lv
             obtain ⟨v,e3,e4⟩:=lv
             subst r2'
             exact .inr (.inr ⟨p,v,rfl,by rw [<- e3];exact zdd.k (k:=Sum.inl i) hp,w2.done er2 hr2 e4⟩)
         | _=>exact w2.elim
     | _=>exact w2.elim
   | _=>cases x2 <;> exact w2.elim⟩⟩)
theorem zhE:JO X none (tO W G noP) := .of (zhD zpi fun σ H Q ⟨F,ρ,env,h,er,hr,w⟩=>wp.done (h:=h) w er hr rfl)
theorem zh5 (ha:JE X a (tE W G ma)):JO X (some a) (tO W G (zcE ma)) :=
 .of (zhD (zoM ha.to) fun σ H Q ⟨F,ρ,env,h,er,hr,w⟩=>⟨F,ρ,env,h,er,hr,zJ w fun x h1 ρ1 H1 y e1 er1 hr1 r1 w1=>by
   cases x with
   | int i=>have r1:RD ρ1 H1 (.int i) y:=r1;unfold RD at r1;exact ⟨i,r1,wp.done (h:=h1) w1 er1 hr1 rfl⟩
   | _=>exact w1.elim⟩)
variable {lo hi:Option Expr}{ol oh:ME (Option Int)}
theorem zil (n d:Nat) (o:Option Int):MI.sIx n d o=HT.sIx n d o:=by
 cases o with
 | none=>rfl
 | some v =>
   show (if v < 0 then max (v+(n:Int)) 0 else min v (n:Int)).toNat=_
   rw [HT.clip_eq v n d]
   simp
theorem RDs.cutV {xs:List D}{vs:List V} (r:RDs ρ H xs vs) (l u:Option Int):RDs ρ H (MI.cut xs l u) (L2.cutV vs l u):=by
 unfold MI.cut L2.cutV
 rw [zil,zil,r.length]
 exact (r.drop _).take _
theorem zik (ha:JE X a (tE W G ma)) (hl:JO X lo (tO W G ol)) (hh:JO X hi (tO W G oh)):JE X (.Subscript a (.Slice lo hi none p2) pos) (tN W G (zcI ma ol oh)) :=
 .of (zbb (zob zlD ha.to hl.to hh.to) fun σ H Q ⟨F,ρ,env,h,er,hr,w⟩=>⟨F,ρ,env,h,er,hr,zJ w fun x h1 ρ1 H1 y e1 er1 hr1 r1 w1=>⟨F,ρ1,env,h1,er1,hr1,zJ w1 fun l h2 ρ2 H2 l' e2 er2 hr2 r2 w2 =>
   ⟨F,ρ2,env,h2,er2,hr2,zJ w2 fun u h3 ρ3 H3 u' e3 er3 hr3 r3 w3=>by
     have r1:RD ρ3 H3 x y:=RD.ext (e2.trans e3) _ _ r1
     obtain rfl:l=l':=r2
     obtain rfl:u=u':=r3
     cases x with
     | obj n =>
       exact zjp w3 hr3 r1 fun p vs xs ey _ hp rs eq w4=>⟨p,vs,ey,SqL.of hp,fun q hq=>wp.made (h:=h3) w4 er3 hr3 hq (zfT hr3 hq (rs.cutV l u))⟩
     | _=>exact w3.elim⟩⟩⟩)
end
end MI
end
section
namespace MI
open PySem PySem.Spec L2
section
variable {W:Nat->Hp->Prop}{X:Cx}{F:Addr->Prop}{G:GP}{env:zx}{σ:L2.St}{ρ:List Addr}{H:Hp}{h:MH}{a b c e o:Expr}{es:List Expr}{ma mb mc:ME D}{ml ml':ME (List D)}{pos p p1 p2 apos:Pos}{Q:VK}{k:Nat}
theorem zfh (ha:JE X a (tE W G ma)) (hb:JE X b (tL W G ml)):JE X (.BinOp a .Add b pos) (tN W G (zb8 ma ml)) :=
 .of (zbb (zgK zif ha.to hb.to) fun σ H Q ⟨F,ρ,env,h,er,hr,w⟩=>⟨F,ρ,env,h,er,hr,zJ w fun x h1 ρ1 H1 y e1 er1 hr1 r1 w1=>⟨F,ρ1,env,h1,er1,hr1,zJ w1 fun ys h2 ρ2 H2 y2 e2 er2 hr2 ⟨q,us,ey,hq,rs2⟩ w2=>by
   subst ey
   have r1:RD ρ2 H2 x y:=RD.ext e2 _ _ r1
   cases x with
   | obj n =>
     refine zjp w2 hr2 r1 fun p vs xs ey _ hp rs eq w3=>?_
     by_cases hl:xs.length+ys.length<=1000000
     . rw [if_pos hl]at w3
       exact ⟨p,q,vs,us,ey,rfl,hp,hq,zg7 (by rw [<- rs.length,<- rs2.length];exact hl),fun d hd=>wp.made (h:=h2) w3 er2 hr2 hd (zfT hr2 hd (RDs.append rs2 rs))⟩
     . rw [if_neg hl]at w3;exact w3.elim
   | _=>exact w2.elim⟩⟩)
theorem zeB {α:Type}{Rl:RL α V}{m:ME α}{P:List V->Hp->Prop} (hw:tG W G Rl m σ H (fun y H1=>P [y] H1)):zeU (tG W G Rl m) zfY σ H P:=hw
theorem zmg (hg:Gl X "all") (hm:X.mg "all" = none) (ha:JE X e (tL W G ml)) (hs:starEach [e] X.env=(false,eval e X.env) :: starEach [] X.env) (hc:X.calm=true:=by rfl):JE X (.Call (.Name "all" p) [e] [] pos) (tE W G (zfc ml)) :=
 .of (zbb (zeE (zoD hc) hg hm ϰ (zbq ha.to zb1 hs) (he:=hs)) fun σ H Q ⟨F,ρ,env,h,er,hr,w⟩=>zeB ⟨F,ρ,env,h,er,hr,zJ w fun xs h1 ρ1 H1 y e1 er1 hr1 ⟨q,us,ey,hq,rs⟩ w1=>by
   subst ey
   cases eb:zci xs with
   | none=>rw [eb]at w1;exact w1.elim
   | some bs =>
     rw [eb]at w1
     have e2:=RDs.of_bools eb rs
     subst e2
     exact ⟨q,bs,rfl,SqL.of hq,wp.done (h:=h1) w1 er1 hr1 (by unfold RD;rfl)⟩⟩)
theorem zd2 (hg:Gl X "len") (hm:X.mg "len" = none) (ha:JE X e (tE W G ma)) (hs:starEach [e] X.env=(false,eval e X.env) :: starEach [] X.env) (hK:X.K=G.K:=by rfl):JE X (.Call (.Name "len" p) [e] [] pos) (tE W G (zcm (zck ma))) :=
 .of (zbb (zeE znj hg hm PySem.boot_len (zbq ha.to zb1 hs) (he:=hs)) fun σ H Q ⟨F,ρ,env,h,er,hr,w⟩=>zeB ⟨F,ρ,env,h,er,hr,by
   have w':wp F W G rV env σ ρ H (zn ma (fun x=>zn (fun _ h=>match x with
     | .obj n=>(match h[n]? with
       | some (.lst xs)=>R.ok xs h
       | some (.scr xs)=> .ok xs h
       | _=> .bad)
     | .tup ds=> .ok ds h
     | _=> .bad) fun xs=>zb (.int xs.length)) env h) Q:=by
     have e:zcm (zck ma) env h=(zn ma (fun x=>zn (fun _ h=>match x with
       | .obj n=>(match h[n]? with
         | some (.lst xs)=>R.ok xs h
         | some (.scr xs)=> .ok xs h
         | _=> .bad)
       | .tup ds=> .ok ds h
       | _=> .bad) fun xs=>zb (.int xs.length)) env h):=by
       unfold zcm zck zn
       cases ma env h <;> rfl
     rw [<- e];exact w
   refine zJ w' fun x h1 ρ1 H1 y e1 er1 hr1 r1 w1=>?_
   have r1:RD ρ1 H1 x y:=r1
   cases x with
   | tup ds =>
     unfold RD at r1
     obtain ⟨q,vs,rfl,hp,rs⟩:=r1
     exact ⟨q,vs,rfl,.inr (SqT.of hp),wp.done (h:=h1) w1 er1 hr1 (by rw [rs.length];unfold RD;rfl)⟩
   | obj n =>
     simp only [zn]at w1
     cases qo:h1[n]? with
     | none=>rw [qo]at w1;exact w1.elim
     | some o =>
       rw [qo]at w1
       cases o with
       | lst xs =>
         obtain ⟨q,vs,rfl,ea,hp,rs⟩:=hr1.lst r1 qo
         exact ⟨q,vs,rfl,.inl (SqL.of hp),wp.done (h:=h1) w1 er1 hr1 (by rw [rs.length];unfold RD;rfl)⟩
       | scr xs =>
         obtain ⟨q,vs,rfl,ea,hp,rs⟩:=hr1.scr r1 qo
         exact ⟨q,vs,rfl,.inl (by rw [hK];exact hp),wp.done (h:=h1) w1 er1 hr1 (by rw [rs.length];unfold RD;rfl)⟩
       | _=>exact w1.elim
   | _=>exact w1.elim⟩)
theorem zoo (hg:Gl X "list") (hm:X.mg "list" = none) (ha:JE X e (tL W G ml)) (hs:starEach [e] X.env=(false,eval e X.env) :: starEach [] X.env):JE X (.Call (.Name "list" p) [e] [] pos) (tN W G ml) :=
 .of (zbb (zp4 zmu hg hm ϰ (zbq ha.to zb1 hs) (he:=hs)) fun σ H Q ⟨F,ρ,env,h,er,hr,w⟩=>zeB ⟨F,ρ,env,h,er,hr,ziW w fun xs h1 ρ1 H1 y e1 er1 hr1 ⟨q,us,ey,hq,rs⟩ w1=>by
   subst ey
   exact ⟨q,us,rfl,.inl (SqL.of hq),fun d hd=>w1.made er1 hr1 hd (zfT hr1 hd rs)⟩⟩)
theorem zn8 (hg:Gl X "abs") (hm:X.mg "abs" = none) (ha:JE X e (tE W G ma)) (hs:starEach [e] X.env=(false,eval e X.env) :: starEach [] X.env):JE X (.Call (.Name "abs" p) [e] [] pos) (tE W G (zc4 ma)) :=
 .of (zbb (zeE zof hg hm ϰ (zbq ha.to zb1 hs) (he:=hs)) fun σ H Q ⟨F,ρ,env,h,er,hr,w⟩=>zeB ⟨F,ρ,env,h,er,hr,zJ w fun x h1 ρ1 H1 y e1 er1 hr1 r1 w1=>by
   cases x with
   | int i=>have r1:RD ρ1 H1 (.int i) y:=r1;unfold RD at r1;subst r1;exact ⟨i,rfl,wp.done (h:=h1) w1 er1 hr1 (by unfold RD;rfl)⟩
   | _=>exact w1.elim⟩)
end
end MI
end
section
namespace MI
open PySem PySem.Spec L2
section
variable {W:Nat->Hp->Prop}{X:Cx}{F:Addr->Prop}{G:GP}{env:zx}{σ:L2.St}{ρ:List Addr}{H:Hp}{h:MH}{a b c e o:Expr}{es:List Expr}{ma mb mc:ME D}{ml ml':ME (List D)}{pos p p1 p2 apos:Pos}{Q:VK}{k:Nat}
end
end MI
end
section
namespace MI
open PySem PySem.Spec L2
noncomputable def tyN:Ty->String
 | .int => "int"
 | .bool => "bool"
 | .str => "str"
 | .list => "list"
 | .tuple => "tuple"
 | .dict => "dict"
section
variable {W:Nat->Hp->Prop}{X:Cx}{F:Addr->Prop}{G:GP}{env:zx}{σ:L2.St}{ρ:List Addr}{H:Hp}{h:MH}{a b c e o:Expr}{es:List Expr}{ma mb mc mo:ME D}{ml ml':ME (List D)}{pos p p1 p2 apos cpos:Pos}{Q:VK}{k:Nat}
theorem znM {t:Ty}{x:D}{v:V}{b:Bool} (hr:HR F G ρ h H) (r:RD ρ H x v) (e:zT h t x=some b):∃ u,zb7 X.K H v u∧PySem.W.kitOne X.K u (.type (tyN t))=some b:=by
 cases x with
 | non=>unfold RD at r;subst r;cases e;exact ⟨_,.non,by cases t <;> rfl⟩
 | bl x=>unfold RD at r;subst r;cases e;exact ⟨_,.bl x,by cases t <;> rfl⟩
 | int x=>unfold RD at r;subst r;cases e;exact ⟨_,.int x,by cases t <;> rfl⟩
 | str x=>unfold RD at r;subst r;cases e;exact ⟨_,.str x,by cases t <;> rfl⟩
 | tup ds =>
   unfold RD at r
   obtain ⟨q,vs,rfl,hq,_⟩:=r
   cases e;exact ⟨_,.tup hq,by cases t <;> rfl⟩
 | obj n =>
   simp only [zT]at e
   cases qo:h[n]? with
   | none=>rw [qo]at e;cases e
   | some o =>
     rw [qo]at e
     cases o with
     | lst xs =>
       obtain ⟨q,vs,rfl,_,hq,_⟩:=hr.lst r qo
       cases e;exact ⟨_,.lst hq,by cases t <;> rfl⟩
     | dic xs =>
       obtain ⟨q,vs,rfl,_,hq,_⟩:=hr.dic r qo
       cases e;exact ⟨_,.dK hq,by cases t <;> rfl⟩
     | _=>cases e
theorem zeN {t:Ty}{x:Str} (hg:Gl X "isinstance") (hm:X.mg "isinstance" = none) (hg':Gl X x) (hm':X.mg x=none) (ha:JE X e (tE W G ma)) (hs:starEach [e,.Name x p1] X.env=(false,eval e X.env) :: starEach [.Name x p1] X.env)
   (hv:bootBuiltins x=some (.type (tyN t)):=by decide +kernel) (hn:x ≠ "__name__":=by decide) (hd:(x == ("__debug__":Str))=false:=by decide):JE X (.Call (.Name "isinstance" p) [e,.Name x p1] [] pos) (tE W G (zdi t ma)) :=
 .of (zbb (zeE ziG hg hm ϰ (zbq ha.to (zbq (zh0 (v := .ty (tyN t)) hg' hm' hv rfl hn hd) zb1 zi) hs) (he:=hs) (hpl:=by rw [zi];rfl)) fun σ H Q ⟨F,ρ,env,h,er,hr,w⟩=>by
   refine ⟨F,ρ,env,h,er,hr,zJ w fun x' h1 ρ1 H1 y e1 er1 hr1 r1 w1=>?_⟩
   cases eb:zT h1 t x' with
   | none=>rw [eb]at w1;exact w1.elim
   | some b =>
     rw [eb]at w1
     obtain ⟨u,h2,h3⟩:=znM (X:=X) hr1 r1 eb
     exact ⟨y,u,b,h2,.inl ⟨_,rfl,h3⟩,wp.done (h:=h1) w1 er1 hr1 (by unfold RD;rfl)⟩)
theorem zix {sub att:Nat->Nat->Bool}{ci:Nat}{C:Addr}{x:Str} (ok:G.Ok sub att) (hC:G.cm[ci]?=some C) (hg:Gl X "isinstance") (hm:X.mg "isinstance" = none) (hg':Gl X x) (hm':X.mg x=some (.ref C)) (ha:JE X e (tE W G ma))
   (hs:starEach [e,.Name x p1] X.env=(false,eval e X.env) :: starEach [.Name x p1] X.env) (hK:X.K=G.K:=by rfl) (hd:(x == ("__debug__":Str))=false:=by decide):JE X (.Call (.Name "isinstance" p) [e,.Name x p1] [] pos) (tE W G (ze3 sub ci ma)) :=
 .of (zbb (zeE ziG hg hm ϰ (zbq ha.to (zbq (zdQ (v := .ref C) hg' hm' rfl hd) zb1 zi) hs) (he:=hs) (hpl:=by rw [zi];rfl)) fun σ H Q ⟨F,ρ,env,h,er,hr,w⟩=>by
   refine ⟨F,ρ,env,h,er,hr,zJ w fun x' h1 ρ1 H1 y e1 er1 hr1 r1 w1=>?_⟩
   have r1:RD ρ1 H1 x' y:=r1
   cases x' with
   | obj n =>
     dsimp only at w1
     cases qo:h1[n]? with
     | none=>rw [qo]at w1;exact w1.elim
     | some o =>
       rw [qo]at w1
       cases o with
       | ins c fs =>
         obtain ⟨q,C',dx,vs,rfl,_,hC',hq,_⟩:=hr1.ins r1 qo
         obtain ⟨h2,h3⟩:=ok.cls c C' hC'
         refine ⟨.ref q,.ref C',sub c ci,.ins hq (by rw [hK];exact h2) (by rw [hK];exact h3.ha) (by rw [hK];exact h3.hn) (by rw [hK];exact h3.htk) (by rw [hK];exact h3.hm),.inr ⟨C,rfl,?_⟩,wp.done (h:=h1) w1 er1 hr1 (by unfold RD;rfl)⟩
         rw [hK];exact ok.isa c ci C' C hC' hC
       | _=>exact w1.elim
   | _=>exact w1.elim)
theorem zh3 {l:List Str} (hl:l.Nodup) {i j:Nat}{x:Str} (h1:l[i]?=some x) (h2:l[j]?=some x):i=j:=zhd hl h1 h2
theorem FRs.lookup {C:Addr} (nd:G.an.Nodup) {f:Str}{kk:Nat} (hf:G.an[kk]?=some f):∀ {fs:List (Nat×D)}{vs:List (Str×V)}{d:D},FRs G ρ H C fs vs->fs.lookup kk=some d->∃ v,vs.lookup f=some v∧RD ρ H d v∧zcg G.K C f
 | [],vs,d,r,e=>by simp at e
 | p :: fs,vs,d,r,e=>by
   unfold FRs at r
   obtain ⟨g,v,q,rfl,h1,h2,h3,h4⟩:=r
   obtain ⟨i,d'⟩:=p
   rw [List.lookup_cons]at e
   by_cases hi:kk=i
   . subst hi
     simp at e
     subst e
     rw [hf]at h1;cases h1
     exact ⟨v,by rw [List.lookup_cons];simp,h3,h2⟩
   . have b:(kk == i)=false:=by simpa using hi
     rw [b]at e
     obtain ⟨v',e1,e2,e3⟩:=FRs.lookup nd hf h4 e
     refine ⟨v',?_,e2,e3⟩
     have hne:¬ f=g:=fun z=>hi (zh3 nd (z ▸ hf) h1)
     have b':(f == g)=false:=by simpa using hne
     rw [List.lookup_cons,b']
     exact e1
theorem FRs.none {C:Addr}{f:Str} (hf:∀ kk:Nat,G.an[kk]?≠some f):∀ {fs:List (Nat×D)}{vs:List (Str×V)},FRs G ρ H C fs vs->vs.lookup f=none
 | [],vs,r=>by unfold FRs at r;subst r;rfl
 | p :: fs,vs,r=>by
   unfold FRs at r
   obtain ⟨g,v,q,rfl,h1,h2,h3,h4⟩:=r
   have hne:¬ f=g:=fun z=>hf p.1 (z ▸ h1)
   have b':(f == g)=false:=by simpa using hne
   rw [List.lookup_cons,b']
   exact FRs.none hf h4
theorem FRs.put {C:Addr} (nd:G.an.Nodup) {f:Str}{kk:Nat}{d:D}{v:V} (hf:G.an[kk]?=some f) (hn:zcg G.K C f) (rd:RD ρ H d v):∀ {fs:List (Nat×D)}{vs:List (Str×V)},FRs G ρ H C fs vs->FRs G ρ H C (zdE kk d fs) (zbG f v vs)
 | [],vs,r=>by
   unfold FRs at r;subst r
   show FRs G ρ H C [(kk,d)] [(f,v)]
   unfold FRs
   exact ⟨f,v,[],rfl,hf,hn,rd,by unfold FRs;rfl⟩
 | p :: fs,vs,r=>by
   unfold FRs at r
   obtain ⟨g,u,q,rfl,h1,h2,h3,h4⟩:=r
   unfold zdE zbG
   by_cases hi:p.1=kk
   . rw [if_pos hi]
     rw [hi,hf]at h1;cases h1
     rw [if_pos rfl]
     unfold FRs
     exact ⟨f,v,q,rfl,hf,hn,rd,h4⟩
   . rw [if_neg hi]
     have hne:¬ g=f:=fun z=>hi (zh3 nd (z ▸ h1) hf)
     rw [if_neg hne]
     unfold FRs
     exact ⟨g,u,_,rfl,h1,h2,h3,FRs.put nd hf hn rd h4⟩
theorem zda {sub att:Nat->Nat->Bool}{kk:Nat}{f:Str} (ok:G.Ok sub att) (hf:G.an[kk]?=some f) (ha:JE X e (tE W G ma)) (hb:attributeBase e f X.env (eval e X.env)=eval e X.env) (hK:X.K=G.K:=by rfl):JE X (.Attribute e f pos) (tE W G (fld kk ma)) :=
 .of (zbb (zni ha.to hb) fun σ H Q ⟨F,ρ,env,h,er,hr,w⟩=>⟨F,ρ,env,h,er,hr,zJ w fun x h1 ρ1 H1 y e1 er1 hr1 r1 w1=>by
   have r1:RD ρ1 H1 x y:=r1
   cases x with
   | obj n =>
     dsimp only at w1
     cases qo:h1[n]? with
     | none=>rw [qo]at w1;exact w1.elim
     | some o =>
       rw [qo]at w1
       cases o with
       | ins c fs =>
         dsimp only at w1
         obtain ⟨q,C,dx,vs,rfl,_,hC,hq,rs⟩:=hr1.ins r1 qo
         cases ql:fs.lookup kk with
         | none=>rw [ql]at w1;exact w1.elim
         | some d =>
           rw [ql]at w1
           obtain ⟨v,h2,h3,h4⟩:=rs.lookup ok.nd hf ql
           exact ⟨q,C,dx,vs,v,rfl,hq,by rw [hK];exact (ok.cls c C hC).1,by rw [hK];exact h4,h2,wp.done (h:=h1) w1 er1 hr1 h3⟩
       | _=>exact w1.elim
   | _=>exact w1.elim⟩)
theorem zlR {q:Addr}{u:HO}{ob:O}{Q:VK} (w:wp F W G rV env σ ρ H (zeG ob env h) Q) (er:zS ρ H env σ) (hr:HR F G ρ h H) (hq:H q=none) (ro:RO G (ρ++[q]) (upd H q u) q ob):Q (.ref q) (upd H q u):=by
 have ex:Ext F ρ (ρ++[q]) H (upd H q u):=⟨⟨[q],rfl⟩,(zcC hr hq).tup,(zcC hr hq).frm⟩
 refine w (ρ++[q]) _ (.ref q) ex (er.ext ex) ((hr.new hq).named (hr.fresh hq) ro) ?_
 show RD _ _ (.obj h.length) (.ref q)
 unfold RD
 exact ⟨q,rfl,by rw [<- hr.len];simp⟩
theorem zpt:JE X (.Dict [] [] pos) (tE W G zhh) :=
 .of (zbb zms fun σ H Q ⟨F,ρ,env,h,er,hr,w⟩=>fun q hq=>zlR w er hr hq ⟨[],zbN,by unfold KRs;rfl⟩)
theorem zpS {n:Nat}{q:Addr}{xs ys:List D}{us vs:List V}{Q:VK}{d:D}{v:V} (w:wp F W G rV env σ ρ H (.ok d (h.set n (.lst ys))) Q) (er:zS ρ H env σ) (hr:HR F G ρ h H) (e:h[n]?=some (.lst xs)) (eq:ρ[n]?=some q) (hq:H q=some (.lst us))
   (rs:RDs ρ H ys vs) (rd:RD ρ H d v):Q v (upd H q (.lst vs)):=by
 have tp:Ext (fun _=>False) ρ ρ H (upd H q (.lst vs)):=by
   refine ⟨⟨[],ς⟩,fun b xs z=>?_,fun _ z=>z.elim⟩
   rw [zN]
   . exact z
   . intro zz;subst zz;rw [hq]at z;cases z
 obtain ⟨ex,hr'⟩:=hr.write (o1 := .lst ys) (u := .lst vs) e eq rfl rfl hq trivial ⟨vs,zbN,RDs.ext tp _ _ rs⟩
 exact w ρ _ v ex (er.ext ex) hr' (RD.ext ex _ _ rd)
theorem zoG {x:D}{kk:Unit->ME D}{Q:VK} (w:wp F W G rV env σ ρ H (zn (isL x) kk env h) Q):∃ n xs,x = .obj n∧h[n]?=some (.lst xs)∧wp F W G rV env σ ρ H (kk () env h) Q:=by
 cases x with
 | obj n =>
   simp only [zn,isL]at w
   cases qo:h[n]? with
   | none=>rw [qo]at w;exact w.elim
   | some o =>
     rw [qo]at w
     cases o with
     | lst xs=>exact ⟨n,xs,rfl,qo,w⟩
     | _=>exact w.elim
 | _=>exact w.elim
theorem zgF (ho:JE X o (tE W G mo)) (ha:JE X e (tE W G ma)) (hs:starEach [e] X.env=(false,eval e X.env) :: starEach [] X.env) (hbase:attributeBase o "append" X.env (eval o X.env)=eval o X.env:=by rfl)
   (hfew:((backTo cpos (starEach [e] X.env)).all (fun x=>!x.1) && (backToKw cpos (keywordEach [] X.env)).all (fun x=>x.1.isSome) && decide (([e]:List Expr).length+([]:List Keyword).length+(if ([]:List Keyword).isEmpty then 0 else 1) < 30))=true:=by rfl)
   (hline:(apos.endLine == cpos.line)=true:=by rfl):JE X (.Call (.Attribute o "append" apos) [e] [] cpos) (tE W G (zcc mo ma)) :=
 .of (zbb (zl1 PySem.F.plainAttrs_list PySem.F.slot_list_append PySem.F.type_list_append zjj ho.to (zbq ha.to zb1 hs) hbase hfew hline hs) fun σ H Q ⟨F,ρ,env,h,er,hr,w⟩=>⟨F,ρ,env,h,er,hr,zJ w fun x h1 ρ1 H1 y e1 er1 hr1 r1 w1=>by
   obtain ⟨n,xs,rfl,qo,w2⟩:=zoG w1
   obtain ⟨q,vs,rfl,_,hq,_⟩:=hr1.lst r1 qo
   refine ⟨.inl ⟨rfl,_,SqL.of hq⟩,zeB ⟨F,ρ1,env,h1,er1,hr1,zJ w2 fun z h2 ρ2 H2 yz e2 er2 hr2 r2 w3=>?_⟩⟩
   dsimp only at w3
   cases qo2:h2[n]? with
   | none=>rw [qo2]at w3;exact w3.elim
   | some o2 =>
     rw [qo2]at w3
     cases o2 with
     | lst xs2 =>
       dsimp only at w3
       by_cases hl:xs2.length < 1000000
       . rw [if_pos hl]at w3
         obtain ⟨q2,vs2,ev,eq2,hq2,rs2⟩:=hr2.lst (RD.ext e2 _ _ r1) qo2
         cases ev
         exact ⟨q,vs2,yz,rfl,rfl,hq2,by rw [<- rs2.length,sizeLine_eq];omega,zpS w3 er2 hr2 qo2 eq2 hq2 (rs2.snoc r2) (by unfold RD;rfl)⟩
       . rw [if_neg hl]at w3;exact w3.elim
     | _=>exact w3.elim⟩)
end
end MI
end
section
namespace MI
open PySem PySem.Spec L2
noncomputable def wpS (F:Addr->Prop) (W:Nat->Hp->Prop) (G:GP) (ρ:List Addr) (H:Hp) (r:RS) (E:zcK):Prop:=match r with
 | .nx e h1=>∀ ρ1 H1 σ1,Ext F ρ ρ1 H H1->zS ρ1 H1 e σ1->HR F G ρ1 h1 H1->E.nx σ1 H1
 | .bk e h1=>∀ ρ1 H1 σ1,Ext F ρ ρ1 H H1->zS ρ1 H1 e σ1->HR F G ρ1 h1 H1->E.bk σ1 H1
 | .ct e h1=>∀ ρ1 H1 σ1,Ext F ρ ρ1 H H1->zS ρ1 H1 e σ1->HR F G ρ1 h1 H1->E.ct σ1 H1
 | .rt v h1=>∀ ρ1 H1 v1,Ext F ρ ρ1 H H1->HR F G ρ1 h1 H1->RD ρ1 H1 v v1->E.rt v1 H1
 | .ex c h1=>∀ ρ1 H1,Ext F ρ ρ1 H H1->HR F G ρ1 h1 H1->W c H1
 | .bad=>False
noncomputable def tS (W:Nat->Hp->Prop) (G:GP) (m:MS):TS:=fun E σ H=>∃ F ρ env h,zS ρ H env σ∧HR F G ρ h H∧wpS F W G ρ H (m env h) E
section
variable {F:Addr->Prop}{W:Nat->Hp->Prop}{G:GP}{env:zx}{σ:L2.St}{ρ ρ1:List Addr}{H H1:Hp}{h h1:MH}{E:zcK}
theorem wpS.mono {r:RS} (w:wpS F W G ρ H r E) (e:Ext F ρ ρ1 H H1):wpS F W G ρ1 H1 r E:=by
 cases r with
 | nx v h1=>exact fun ρ2 H2 v1 e2=>w ρ2 H2 v1 (e.trans e2)
 | bk v h1=>exact fun ρ2 H2 v1 e2=>w ρ2 H2 v1 (e.trans e2)
 | ct v h1=>exact fun ρ2 H2 v1 e2=>w ρ2 H2 v1 (e.trans e2)
 | rt v h1=>exact fun ρ2 H2 v1 e2=>w ρ2 H2 v1 (e.trans e2)
 | ex c h1=>exact fun ρ2 H2 e2=>w ρ2 H2 (e.trans e2)
 | bad=>exact w
theorem wpS_bind {α β:Type}{Rl:RL α β}{m:ME α}{k:α->MS}{P:β->Hp->Prop} (w:wpS F W G ρ H (zbV m k env h) E)
   (f:∀ x h1 ρ1 H1 y,Ext F ρ ρ1 H H1->zS ρ1 H1 env σ->HR F G ρ1 h1 H1->Rl F ρ1 h1 H1 x y->wpS F W G ρ1 H1 (k x env h1) E->P y H1):wp F W G Rl env σ ρ H (m env h) P:=by
 unfold zbV at w
 cases e:m env h with
 | ok v h1 =>
   rw [e]at w
   exact fun ρ1 H1 y ex er hr rl=>f v h1 ρ1 H1 y ex er hr rl (w.mono ex)
 | ex c h1=>rw [e]at w;exact w
 | bad=>rw [e]at w;exact w
theorem wpS.done {e:zx}{σ1:L2.St} (w:wpS F W G ρ H (.nx e h) E) (er:zS ρ H e σ1) (hr:HR F G ρ h H):E.nx σ1 H:=w ρ H σ1 Ext.refl er hr
end
@[irreducible] noncomputable def JS (X:Cx) (e:Stmt) (t:TS):Prop:=PS X e t
@[irreducible] noncomputable def JSs (X:Cx) (e:List Stmt) (t:TS):Prop:=PSs X e t
@[irreducible] noncomputable def JG (X:Cx) (e:Expr) (t:TG):Prop:=PG X e t
@[irreducible] noncomputable def JGs (X:Cx) (e:List Expr) (t:TGs):Prop:=PGs X e t
@[irreducible] noncomputable def JI (X:Cx) (tg e:Expr) (t:TI):Prop:=PI X tg e t
@[irreducible] noncomputable def zdz (X:Cx) (e:List Expr) (t:TT):Prop:=zfe X e t
theorem JS.to {X:Cx}{e:Stmt}{t:TS} (h:JS X e t):PS X e t:=by unfold JS at h;exact h
theorem JS.of {X:Cx}{e:Stmt}{t:TS} (h:PS X e t):JS X e t:=by unfold JS;exact h
theorem JSs.to {X:Cx}{e:List Stmt}{t:TS} (h:JSs X e t):PSs X e t:=by unfold JSs at h;exact h
theorem JSs.of {X:Cx}{e:List Stmt}{t:TS} (h:PSs X e t):JSs X e t:=by unfold JSs;exact h
theorem JG.to {X:Cx}{e:Expr}{t:TG} (h:JG X e t):PG X e t:=by unfold JG at h;exact h
theorem JG.of {X:Cx}{e:Expr}{t:TG} (h:PG X e t):JG X e t:=by unfold JG;exact h
theorem JGs.to {X:Cx}{e:List Expr}{t:TGs} (h:JGs X e t):PGs X e t:=by unfold JGs at h;exact h
theorem JGs.of {X:Cx}{e:List Expr}{t:TGs} (h:PGs X e t):JGs X e t:=by unfold JGs;exact h
theorem JI.to {X:Cx}{tg e:Expr}{t:TI} (h:JI X tg e t):PI X tg e t:=by unfold JI at h;exact h
theorem JI.of {X:Cx}{tg e:Expr}{t:TI} (h:PI X tg e t):JI X tg e t:=by unfold JI;exact h
theorem zdz.to {X:Cx}{e:List Expr}{t:TT} (h:zdz X e t):zfe X e t:=by unfold zdz at h;exact h
theorem zdz.of {X:Cx}{e:List Expr}{t:TT} (h:zfe X e t):zdz X e t:=by unfold zdz;exact h
theorem zc0 {X:Cx}{e:Stmt}{t t':TS} (h:PS X e t) (i:∀ E σ H,t' E σ H->t E σ H):PS X e t':=fun pins s σ H E I hw=>h pins s σ H E I (i _ _ _ hw)
theorem zjn {X:Cx}{e:List Stmt}{t t':TS} (h:PSs X e t) (i:∀ E σ H,t' E σ H->t E σ H):PSs X e t':=fun pins s σ H E I hw=>h pins s σ H E I (i _ _ _ hw)
theorem zjl {X:Cx}{e:Expr}{t t':TG} (h:PG X e t) (i:∀ v σ H Q,t' v σ H Q->t v σ H Q):PG X e t':=fun pins s σ H v u Q I r hw=>h pins s σ H v u Q I r (i _ _ _ _ hw)
theorem zi1 {X:Cx}{e:List Expr}{t t':TGs} (h:PGs X e t) (i:∀ v σ H Q,t' v σ H Q->t v σ H Q):PGs X e t':=fun pins s σ H v u Q I r hw=>h pins s σ H v u Q I r (i _ _ _ _ hw)
section
variable {W:Nat->Hp->Prop}{X:Cx}{F:Addr->Prop}{G:GP}{env:zx}{σ:L2.St}{ρ:List Addr}{H:Hp}{h:MH}{a b c e o:Expr}{es:List Expr}{st:Stmt}{rest bd bd2:List Stmt}{ma mb mc mo:ME D}{ml ml':ME (List D)}{mt:ME Bool}{m1 m2:MS}{pos p p1 p2 tpos:Pos}{k i:Nat}{x:Str}
theorem zbf:JSs X [] (tS W G zI) := .of (zjn zhX fun E σ H ⟨F,ρ,env,h,er,hr,w⟩=>wpS.done (h:=h) w er hr)
theorem zw (h1:JS X st (tS W G m1)):JSs X [st] (tS W G m1) := .of (zgX h1.to)
theorem zt (h1:JS X st (tS W G m1)) (h2:JSs X rest (tS W G m2)):JSs X (st :: rest) (tS W G (zm m1 m2)) :=
 .of (zjn (zi5 h1.to h2.to) fun E σ H ⟨F,ρ,env,h,er,hr,w⟩=>⟨F,ρ,env,h,er,hr,by
   unfold zm at w
   cases e:m1 env h with
   | nx e1 h1 =>
     rw [e]at w
     exact fun ρ1 H1 σ1 ex er1 hr1=>⟨F,ρ1,e1,h1,er1,hr1,w.mono ex⟩
   | bk e1 h1=>rw [e]at w;exact w
   | ct e1 h1=>rw [e]at w;exact w
   | rt v h1=>rw [e]at w;exact w
   | ex c h1=>rw [e]at w;exact w
   | bad=>rw [e]at w;exact w⟩)
theorem zcB (ha:JE X e (tE W G ma)) (hs:swapsWith e none pos.line X.env=pure false:=by rfl):JS X (.Expr e pos) (tS W G (zbi ma)) :=
 .of (zc0 (zqj ha.to hs) fun E σ H ⟨F,ρ,env,h,er,hr,w⟩=>⟨F,ρ,env,h,er,hr,wpS_bind w fun x h1 ρ1 H1 y e1 er1 hr1 r1 w1=>wpS.done (h:=h1) w1 er1 hr1⟩)
theorem zR (ha:JE X e (tE W G ma)):JS X (.Return (some e) pos) (tS W G (zL ma)) :=
 .of (zc0 (zgI ha.to) fun E σ H ⟨F,ρ,env,h,er,hr,w⟩=>⟨F,ρ,env,h,er,hr,wpS_bind w fun x h1 ρ1 H1 y e1 er1 hr1 r1 w1=>w1 ρ1 H1 y Ext.refl hr1 r1⟩)
theorem z7 (hc:JT X c (tT W G mt)) (ha:JSs X bd (tS W G m1)) (hb:JSs X bd2 (tS W G m2)):JS X (.If c bd bd2 pos) (tS W G (ifS mt m1 m2)) :=
 .of (zc0 (zmt hc.to ha.to hb.to) fun E σ H ⟨F,ρ,env,h,er,hr,w⟩=>⟨F,ρ,env,h,er,hr,wpS_bind w fun x h1 ρ1 H1 y e1 er1 hr1 r1 w1=>by
   obtain rfl:x=y:=r1
   cases x with
   | true=>rw [if_pos rfl]at w1 ⊢;exact ⟨F,ρ1,env,h1,er1,hr1,w1⟩
   | false=>rw [if_neg ϑ]at w1 ⊢;exact ⟨F,ρ1,env,h1,er1,hr1,w1⟩⟩)
noncomputable def tTg (G:GP) (t:Tg):TG:=fun v σ H Q=>∃ F ρ env h d env1,zS ρ H env σ∧HR F G ρ h H∧RD ρ H d v∧zcj t d env=some env1∧∀ σ1,zS ρ H env1 σ1->Q σ1 H
noncomputable def zfD (l:List Nat):TGs:=fun vs σ H Q=>∃ ρ env ds env1,zS ρ H env σ∧RDs ρ H ds vs∧zcM l ds env=some env1∧∀ σ1,zS ρ H env1 σ1->Q σ1 H
theorem zdW (hN:X.N.Nodup) (hi:X.N[i]?=some x) (hx:Loc X.env.scope x) (hf:X.fn x=true∨X.env.scope.names.lookup x=some .local:=by first | exact .inl rfl | exact .inr rfl | assumption):JG X (.Name x pos) (tTg G (.nm i)) :=
 .of (zjl (zin hN hi hx hf) fun v σ H Q ⟨F,ρ,env,h,d,env1,er,hr,r,e,q⟩=>by
   cases e
   exact q _ (er.set r i))
theorem zm3:JGs X [] (zfD []) := .of (zi1 zpD fun v σ H Q ⟨ρ,env,ds,env1,er,r,e,q⟩=>by
 cases ds with
 | nil=>unfold RDs at r;cases e;exact ⟨r,q σ er⟩
 | cons d ds=>cases e)
theorem zgZ {l:List Nat} (hN:X.N.Nodup) (hi:X.N[i]?=some x) (hx:Loc X.env.scope x) (h2:JGs X es (zfD l)) (hf:X.fn x=true∨X.env.scope.names.lookup x=some .local:=by first | exact .inl rfl | exact .inr rfl | assumption)
   (hs:(assignEach (.Name x pos :: es) X.env).map (·.2)=assign (.Name x pos) X.env :: (assignEach es X.env).map (·.2):=by rfl):JGs X (.Name x pos :: es) (zfD (i :: l)) :=
 .of (zi1 (zo8 (zin hN hi hx hf) h2.to hs) fun v σ H Q ⟨ρ,env,ds,env1,er,r,e,q⟩=>by
   cases ds with
   | nil=>cases e
   | cons d ds =>
     unfold RDs at r
     obtain ⟨y,vs,rfl,r1,r2⟩:=r
     exact ⟨y,vs,rfl,ρ,_,ds,env1,er.set r1 i,r2,e,q⟩)
theorem zl8:∀ (l:List Nat) {ds:List D}{e e1:zx},zcM l ds e=some e1->ds.length=l.length:=by
 intro l
 induction l with
 | nil=>intro ds e e1 h;cases ds <;> first | rfl | cases h
 | cons i l ih =>
   intro ds e e1 h
   cases ds with
   | nil=>cases h
   | cons d ds=>simp [ih (ds:=ds) h]
theorem zqh {l:List Nat}{n k:Nat} (hc:X.calm=true) (h:JGs X es (zfD l)) (hl:n=l.length:=by rfl) (hn:(assignEach es X.env).length=n:=by rfl) (hst:(assignEach es X.env).findIdx? (·.1)=none:=by rfl):JG X (.Tuple es k pos) (tTg G (.tp l)) :=
 .of (zjl (zp0 hc h.to hn hst) fun v σ H Q ⟨F,ρ,env,hh,d,env1,er,hr,r,e,q⟩=>by
   cases d with
   | tup ds =>
     unfold RD at r
     obtain ⟨a,vs,rfl,ha,rs⟩:=r
     exact ⟨a,vs,rfl,SqT.of ha,by rw [<- rs.length,hl];exact zl8 l e,ρ,env,ds,env1,er,rs,e,q⟩
   | _=>cases e)
theorem zV (hN:X.N.Nodup) (hi:X.N[i]?=some x) (hx:Loc X.env.scope x) (ha:JE X e (tE W G ma)) (hs:swapsWith e (some (.Name x p)) pos.line X.env=pure false:=by rfl) (hf:X.fn x=true∨X.env.scope.names.lookup x=some .local:=by first | exact .inl rfl | exact .inr rfl | assumption) :
   JS X (.Assign [.Name x p] e pos) (tS W G (zr (.nm i) ma)) :=
 .of (zc0 (ziC hN hi hx ha.to hs hf) fun E σ H ⟨F,ρ,env,h,er,hr,w⟩=>⟨F,ρ,env,h,er,hr,wpS_bind w fun x h1 ρ1 H1 y e1 er1 hr1 r1 w1=>wpS.done (h:=h1) w1 (er1.set r1 i) hr1⟩)
theorem zpX {tg:Expr}{t:Tg} (ha:JE X e (tE W G ma)) (hg:JG X tg (tTg G t)) (hs:swapsWithSole [tg] e pos.line X.env=pure false:=by rfl) (hw:swappedStores [tg] e X.env=pure none:=by rfl)
   (h1:(assignEach [tg] X.env).map (·.2)=[assign tg X.env]:=by rfl):JS X (.Assign [tg] e pos) (tS W G (zr t ma)) :=
 .of (zc0 (zlC ha.to hg.to hs hw h1) fun E σ H ⟨F,ρ,env,h,er,hr,w⟩=>⟨F,ρ,env,h,er,hr,wpS_bind w fun x h1 ρ1 H1 y e1 er1 hr1 r1 w1=>by
   unfold zfg at w1
   cases eb:zcj t x env with
   | none=>rw [eb]at w1;exact w1.elim
   | some env1 =>
     rw [eb]at w1
     exact ⟨F,ρ1,env,h1,x,env1,er1,hr1,r1,eb,fun σ1 er2=>w1.done er2 hr1⟩⟩)
theorem zpC {j:Nat}{y:Str}{px py pt:Pos}{kt k2 pt2} (hN:X.N.Nodup) (hi:X.N[i]?=some x) (hj:X.N[j]?=some y) (ha:JA X [a,b] (tA W G ml)) (hij:i≠j:=by decide)
   (hx:X.env.scope.names.lookup x=some .local:=by rfl) (hy:X.env.scope.names.lookup y=some .local:=by rfl) (hc:X.calm=true:=by rfl)
   (hw:swappedStores [.Tuple [.Name x px,.Name y py] kt pt] (.Tuple [a,b] k2 pt2) X.env=pure (some [x,y]):=by rfl)
   (hs:swapsWithSole [.Tuple [.Name x px,.Name y py] kt pt] (.Tuple [a,b] k2 pt2) pos.line X.env=pure false:=by rfl) :
   JS X (.Assign [.Tuple [.Name x px,.Name y py] kt pt] (.Tuple [a,b] k2 pt2) pos) (tS W G (zfN [i,j] ml)) :=
 .of (zc0 (zps hc hN hi hj hij hx hy ha.to hw hs) fun E σ H ⟨F,ρ,env,h,er,hr,w⟩=>⟨F,ρ,env,h,er,hr,wpS_bind w fun xs h1 ρ1 H1 ys e1 er1 hr1 r1 w1=>by
   have r1:RDs ρ1 H1 xs ys:=r1
   match xs,w1 with
   | [u,v],w1 =>
     unfold RDs at r1
     obtain ⟨u',q,rfl,ru,r1⟩:=r1
     unfold RDs at r1
     obtain ⟨v',q,rfl,rv,r1⟩:=r1
     unfold RDs at r1
     subst r1
     exact ⟨u',v',rfl,wpS.done (h:=h1) w1 ((er1.set ru i).set rv j) hr1⟩
   | [],w1=>exact w1.elim
   | [_],w1=>exact w1.elim
   | _ :: _ :: _ :: _,w1=>exact w1.elim⟩)
theorem FRs.length {C:Addr}:∀ {fs:List (Nat×D)}{vs:List (Str×V)},FRs G ρ H C fs vs->vs.length=fs.length
 | [],vs,r=>by unfold FRs at r;subst r;rfl
 | p :: fs,vs,r=>by
   unfold FRs at r
   obtain ⟨g,v,q,rfl,h1,h2,h3,h4⟩:=r
   simp [FRs.length h4]
theorem zgM {sub att:Nat->Nat->Bool}{kk:Nat}{f:Str} (ok:G.Ok sub att) (hf:G.an[kk]?=some f) (ho:JE X o (tE W G mo)) (ha:JE X e (tE W G ma)) (hs:swapsWith e (some (.Attribute o f p)) pos.line X.env=pure false) (hK:X.K=G.K:=by rfl) :
   JS X (.Assign [.Attribute o f p] e pos) (tS W G (zey att kk mo ma)) :=
 .of (zc0 (zos ho.to ha.to hs) fun E σ H ⟨F,ρ,env,h,er,hr,w⟩=>⟨F,ρ,env,h,er,hr,wpS_bind w fun y h1 ρ1 H1 vy e1 er1 hr1 r1 w1=>⟨F,ρ1,env,h1,er1,hr1,wpS_bind w1 fun x h2 ρ2 H2 vx e2 er2 hr2 r2 w2=>by
   have r1:RD ρ2 H2 y vy:=RD.ext e2 _ _ r1
   have r2:RD ρ2 H2 x vx:=r2
   cases x with
   | obj n =>
     dsimp only at w2
     cases qo:h2[n]? with
     | none=>rw [qo]at w2;exact w2.elim
     | some o =>
       rw [qo]at w2
       cases o with
       | ins c fs =>
         dsimp only at w2
         obtain ⟨q,C,dx,vs,rfl,eq,hC,hq,rs⟩:=hr2.ins r2 qo
         by_cases hl:(att c kk && decide (fs.length < 100))=true
         . rw [if_pos hl]at w2
           rw [Bool.and_eq_true,decide_eq_true_eq]at hl
           have hn:=ok.noat c C kk f hC hl.1 hf
           refine ⟨q,C,dx,vs,rfl,hq,by rw [hK];exact (ok.cls c C hC).1,by rw [hK];exact hn,by rw [rs.length];omega,?_⟩
           have tp:Ext (fun _=>False) ρ2 ρ2 H2 (upd H2 q (.ins C dx (zbG f vy vs))):=by
             refine ⟨⟨[],ς⟩,fun b xs z=>?_,fun _ z=>z.elim⟩
             rw [zN]
             . exact z
             . intro zz;subst zz;rw [hq]at z;cases z
           obtain ⟨ex,hr'⟩:=hr2.write (o1 := .ins c (zdE kk y fs)) (u := .ins C dx (zbG f vy vs)) qo eq rfl rfl hq trivial ⟨C,dx,_,hC,zbN,FRs.put ok.nd hf hn (RD.ext tp _ _ r1) (rs.map fun p _ v=>RD.ext tp _ _)⟩
           exact w2 ρ2 _ σ ex (er2.ext ex) hr'
         . rw [if_neg hl]at w2;exact w2.elim
       | _=>exact w2.elim
   | _=>exact w2.elim⟩⟩)
end
end MI
end
section
namespace MI
open PySem PySem.Spec L2
noncomputable def zfE (G:GP) (F:Addr->Prop) (ρ:List Addr) (H:Hp) (J:It) (p:Src):Prop :=
 ∀ (F':Addr->Prop) (ρ':List Addr) (h':MH) (H':Hp) (i:Nat),Ext F ρ ρ' H H'->HR F' G ρ' h' H'->guard p.2 h'=true ->
   (∀ d,p.1[i]?=some d->J.go i H'∧∀ x H2,J.yld i H' x H2->Ext F' ρ' ρ' H' H2∧HR F' G ρ' h' H2∧RD ρ' H2 d x)∧(p.1.length<=i->J.stop i H')
noncomputable def rI (G:GP):RL Src It:=fun F ρ _ H p J=>zfE G F ρ H J p
noncomputable abbrev tI (W:Nat->Hp->Prop) (G:GP) (m:ME Src):TI:=tG W G (rI G) m
section
variable {W:Nat->Hp->Prop}{X:Cx}{F:Addr->Prop}{G:GP}{env:zx}{σ:L2.St}{ρ:List Addr}{H:Hp}{h:MH}{a b c e o tg:Expr}{ma mb:ME D}{pos p p1:Pos}{k:Nat}
theorem zlN {n:Nat}{ob:O}{gs:List (Nat×O)} (g:guard gs h=true) (hm:(n,ob)∈gs):h[n]?=some ob:=by
 unfold guard at g
 rw [List.all_eq_true]at g
 exact of_decide_eq_true (g (n,ob) hm)
theorem zmI {n:Nat}{q:Addr}{xs:List D} (hK:X.K=G.K) (eq:ρ[n]?=some q):zfE G F ρ H (Itl X.K q) (xs,[(n,.lst xs)]):=by
 intro F' ρ' h' H' i ex hr g
 have e:=zlN g (List.mem_singleton.mpr rfl)
 have eq':=ex.get eq
 obtain ⟨vs,hq,rs⟩:=hr.at e eq'
 refine ⟨fun d hd=>?_,fun hl=>⟨vs,SqL.of hq,by rw [<- rs.length];exact hl⟩⟩
 obtain ⟨v,e1,e2⟩:=rs.get hd
 refine ⟨⟨vs,v,SqL.of hq,e1⟩,fun x H2 ⟨y1,y2⟩=>?_⟩
 subst y1
 have:=y2 vs (SqL.of hq)
 rw [e1]at this;cases this
 exact ⟨Ext.refl,hr,e2⟩
theorem zf2 (ha:JE X a (tE W G ma)) (hK:X.K=G.K:=by rfl):JI X tg a (tI W G (itL ma)) :=
 .of (zgt (zoS ha.to) fun σ H Q ⟨F,ρ,env,h,er,hr,w⟩=>⟨F,ρ,env,h,er,hr,zJ w fun x h1 ρ1 H1 y e1 er1 hr1 r1 w1=>by
   cases x with
   | obj n =>
     simp only [zgN]at w1
     cases qo:h1[n]? with
     | none=>rw [qo]at w1;exact w1.elim
     | some o =>
       rw [qo]at w1
       cases o with
       | lst xs =>
         obtain ⟨q,vs,rfl,eq,hq,rs⟩:=hr1.lst r1 qo
         exact ⟨q,rfl,⟨vs,SqL.of hq⟩,w1.done er1 hr1 (zmI hK eq)⟩
       | _=>exact w1.elim
   | _=>exact w1.elim⟩)
theorem zij (hg:Gl X "range") (hm:X.mg "range" = none) (ha:JE X a (tE W G ma)) (hs:starEach [a] X.env=(false,eval a X.env) :: starEach [] X.env):JI X tg (.Call (.Name "range" p) [a] [] pos) (tI W G (itR ma)) :=
 .of (zgt (zoX hg hm (zbq ha.to zb1 hs) (hs.trans ϱ)) fun σ H Q ⟨F,ρ,env,h,er,hr,w⟩=>zeB ⟨F,ρ,env,h,er,hr,zJ w fun x h1 ρ1 H1 y e1 er1 hr1 r1 w1=>by
   have r1:RD ρ1 H1 x y:=r1
   cases x with
   | int i =>
     unfold RD at r1
     subst r1
     by_cases hl:-1000000<=i∧i<=1000000
     . dsimp only at w1
       rw [if_pos hl]at w1
       refine ⟨i,rfl,ω,ω,w1 ρ1 H1 (Itr 0 i.toNat) Ext.refl er1 hr1 ?_⟩
       intro F' ρ' h' H' j _ hr' _
       refine ⟨fun d hd=>?_,fun hj=>by rw [List.length_map,List.length_range]at hj;exact hj⟩
       have hj:j < i.toNat:=by
         have:=(List.getElem?_eq_some_iff.mp hd).1
         simpa using this
       refine ⟨hj,fun x H2 ⟨y1,y2⟩=>?_⟩
       subst y1 y2
       rw [List.getElem?_map,List.getElem?_range hj]at hd
       cases hd
       exact ⟨Ext.refl,hr',by unfold RD;simp⟩
     . dsimp only at w1
       rw [if_neg hl]at w1;exact w1.elim
   | _=>exact w1.elim⟩)
variable {mt:ME Bool}{m1:MS}{bd:List Stmt}{E:zcK}{r:RS}{kk:MS}
theorem zoL {N:L2.St->Hp->Prop} (w:wpS F W G ρ H (zdf r kk) E) (f:∀ e1 h1 ρ1 H1 σ1,Ext F ρ ρ1 H H1->zS ρ1 H1 e1 σ1->HR F G ρ1 h1 H1->wpS F W G ρ1 H1 (kk e1 h1) E->N σ1 H1):wpS F W G ρ H r { E with nx:=N,ct:=N,bk:=E.nx }:=by
 cases r with
 | nx e1 h1=>exact fun ρ1 H1 σ1 ex er hr=>f e1 h1 ρ1 H1 σ1 ex er hr (wpS.mono (r:=kk e1 h1) w ex)
 | ct e1 h1=>exact fun ρ1 H1 σ1 ex er hr=>f e1 h1 ρ1 H1 σ1 ex er hr (wpS.mono (r:=kk e1 h1) w ex)
 | bk e1 h1=>exact w
 | rt v h1=>exact w
 | ex c h1=>exact w
 | bad=>exact w
variable {ms:ME Src}{t:Tg}{iter:Expr}
theorem zmR {p:Src}{J:It}{ρ1:List Addr}{H1:Hp}{h1:MH} (src:zfE G F ρ1 H1 J p) (er1:zS ρ1 H1 env σ) (hr1:HR F G ρ1 h1 H1) (w1:wpS F W G ρ1 H1 (zbH t p.2 m1 p.1 env h1) E) :
   ∃ Wv:Nat->Nat->L2.St->Hp->Prop,(∃ m,Wv 0 m σ H1)∧∀ i m σ H,Wv i m σ H ->
     (J.stop i H∧E.nx σ H)∨(J.go i H∧∃ N:L2.St->Hp->Prop,(∀ σ' H',N σ' H'->∃ m',m' < m∧Wv (i+1) m' σ' H')∧∀ x H',J.yld i H x H'->tTg G t x σ H' fun σ2 H2=>tS W G m1 { E with nx:=N,ct:=N,bk:=E.nx } σ2 H2):=by
 refine ⟨fun i m σ H=>∃ ρ env h,Ext F ρ1 ρ H1 H∧zS ρ H env σ∧HR F G ρ h H∧m=p.1.length - i∧i<=p.1.length∧wpS F W G ρ H (zbH t p.2 m1 (p.1.drop i) env h) E,⟨p.1.length,ρ1,env,h1,Ext.refl,er1,hr1,ς,Nat.zero_le _,by simpa using w1⟩,?_⟩
 rintro i m σ H ⟨ρ,env,h,ex,er,hr,rfl,hi,w⟩
 by_cases hlt:i < p.1.length
 . right
   have ed:p.1.drop i=p.1[i] :: p.1.drop (i+1):=List.drop_eq_getElem_cons hlt
   rw [ed]at w
   simp only [zbH]at w
   by_cases g:guard p.2 h=true
   . rw [if_pos g]at w
     obtain ⟨s1,_⟩:=src F ρ h H i ex hr g
     obtain ⟨go,yl⟩:=s1 p.1[i] (List.getElem?_eq_getElem hlt)
     refine ⟨go,_,fun σ' H' z=>z,fun x H' hy=>?_⟩
     obtain ⟨ex2,hr2,rd⟩:=yl x H' hy
     cases eb:zcj t p.1[i] env with
     | none=>rw [eb]at w;exact w.elim
     | some env1 =>
       rw [eb]at w
       refine ⟨F,ρ,env,h,p.1[i],env1,er.ext ex2,hr2,rd,eb,fun σ1 er3=>⟨F,ρ,env1,h,er3,hr2,zoL (wpS.mono (r:=zdf (m1 env1 h) (zbH t p.2 m1 (p.1.drop (i+1)))) w ex2) fun e4 h4 ρ4 H4 σ4 ex4 er4 hr4 w4=>?_⟩⟩
       exact ⟨p.1.length - (i+1),ω,ρ4,e4,h4,(ex.trans ex2).trans ex4,er4,hr4,rfl,hlt,w4⟩
   . rw [if_neg g]at w;exact w.elim
 . left
   have ei:i=p.1.length:=by omega
   rw [List.drop_eq_nil_of_le ω]at w
   simp only [zbH]at w
   by_cases g:guard p.2 h=true
   . rw [if_pos g]at w
     exact ⟨(src F ρ h H i ex hr g).2 ω,w.done er hr⟩
   . rw [if_neg g]at w;exact w.elim
theorem zfi (hp:PassesOwn (model X.prog X.w) X.A X.env X.xe) (hi:JI X tg iter (tI W G ms)) (hg:JG X tg (tTg G t)) (hb:JSs X bd (tS W G m1)) (hc:X.calm=true:=by rfl) (hs:∀ x,foldedSetIterable iter X.env x=pure x:=by intro _;rfl) :
   JS X (.For tg iter bd [] pos) (tS W G (zdx t ms m1)) :=
 .of (zc0 (zpl hp hc hi.to hg.to hb.to hs) fun E σ H ⟨F,ρ,env,h,er,hr,w⟩=>⟨F,ρ,env,h,er,hr,wpS_bind w fun p h1 ρ1 H1 J e1 er1 hr1 src w1=>zmR src er1 hr1 w1⟩)
theorem zjt {α β γ δ:Type}{Rl:RL α β}{Rl':RL γ δ}{F':Addr->Prop}{env1:zx}{σ1:L2.St} (sub:∀ b,F b->F' b) {m:ME α}{k:α->ME γ}{Q:δ->Hp->Prop}{P:β->Hp->Prop} (w:wp F W G Rl' env σ ρ H (zn m k env1 h) Q)
   (f:∀ x h1 ρ1 H1 y,Ext F' ρ ρ1 H H1->zS ρ1 H1 env1 σ1->HR F' G ρ1 h1 H1->Rl F' ρ1 h1 H1 x y->wp F W G Rl' env σ ρ1 H1 (k x env1 h1) Q->P y H1):wp F' W G Rl env1 σ1 ρ H (m env1 h) P:=by
 unfold zn at w
 cases e:m env1 h with
 | ok v h1 =>
   rw [e]at w
   exact fun ρ1 H1 y ex er hr rl=>f v h1 ρ1 H1 y ex er hr rl (w.mono (ex.sub sub))
 | ex c h1=>rw [e]at w;exact fun ρ1 H1 ex hr=>w ρ1 H1 (ex.sub sub) (hr.sub sub)
 | bad=>rw [e]at w;exact w
theorem znb {js:List (Option Nat)} (er:zS ρ H env σ):zS ρ H (zcJ js env) (zdO js σ):=by
 refine ⟨by simp [zcJ,zdO],fun i d e=>?_⟩
 unfold zcJ at e
 unfold zdO
 rw [List.getElem?_map]at e ⊢
 cases ej:js[i]? with
 | none=>rw [ej]at e;cases e
 | some j =>
   rw [ej]at e
   cases j with
   | none=>cases e
   | some kk =>
     have e2:(env[kk]?).join=some d:=Option.some.inj e
     cases ek:env[kk]? with
     | none=>rw [ek]at e2;cases e2
     | some od =>
       rw [ek]at e2
       have e3:od=some d:=e2
       subst e3
       obtain ⟨v,h1,h2⟩:=er.all kk d ek
       refine ⟨v,?_,h2⟩
       show some ((σ[kk]?).join)=_
       rw [h1];rfl
variable {N:List Str}{js:List (Option Nat)}{scope:Scope}{elt:Expr}{ifs:List Expr}{cond:ME Bool}{me:ME D}
theorem zoB {t:Tg}{Q:VK}{p:Src}{J:It}{ρ1:List Addr}{H1:Hp}{h1:MH} (hlen:p.1.length<=1000000) (src:zfE G F ρ1 H1 J p) (er1:zS ρ1 H1 env σ) (hr1:HR F G ρ1 h1 H1) (w1:wp F W G (rN G.K) env σ ρ1 H1 (zbx t p.2 cond me p.1 [] (zcJ js env) h1) Q) (D:Addr) (hD:H1 D=none) :
   zhe J (tTg G t) (tT W G cond) (tE W G me) D σ H1 js Q:=by
 have nF:¬ F D:=(hr1.fresh hD).1
 have hr1':HR F G ρ1 h1 (upd H1 D (.lst [])):=hr1.new hD
 have frD:=hr1.fresh hD
 refine ⟨fun i m σ' H'=>∃ ρ' env' h' acc vs,Ext F ρ1 ρ' H1 H'∧zS ρ' H' env' σ'∧HR F G ρ' h' H'∧H' D=some (.lst vs)∧zde F ρ' h' D∧RDs ρ' H' acc vs∧acc.length<=i∧m=p.1.length - i∧i<=p.1.length ∧
   wp F W G (rN G.K) env σ ρ' H' (zbx t p.2 cond me (p.1.drop i) acc env' h') Q,⟨p.1.length,ρ1,zcJ js env,h1,[],[],zcC hr1 hD,znb (er1.ext (zcC hr1 hD)),hr1',zbN,frD,RDs.nil,Nat.le_refl _,ς,Nat.zero_le _,by simpa using w1.mono (zcC hr1 hD)⟩,?_⟩
 rintro i m σ' H' ⟨ρ',env',h',acc,vs,ex,er',hr',hD',fr,rs,hal,rfl,hi,w⟩
 have sub:∀ b,F b->(F b∨b=D):=fun b hb=> .inl hb
 have hrF:HR (fun b=>F b∨b=D) G ρ' h' H':=⟨fun b hb=>by
   rcases hb with hb | rfl
   . exact hr'.pro b hb
   . exact ⟨⟨_,hD'⟩,fr.2⟩,hr'.nd,hr'.len,hr'.all⟩
 by_cases hlt:i < p.1.length
 . right
   have ed:p.1.drop i=p.1[i] :: p.1.drop (i+1):=List.drop_eq_getElem_cons hlt
   rw [ed]at w
   simp only [zbx]at w
   by_cases g:guard p.2 h'=true
   . rw [if_pos g]at w
     obtain ⟨s1,_⟩:=src _ ρ' h' H' i ex hrF g
     obtain ⟨go,yl⟩:=s1 p.1[i] (List.getElem?_eq_getElem hlt)
     refine ⟨go,fun x H2 hy=>?_⟩
     obtain ⟨ex2,hr2,rd⟩:=yl x H2 hy
     cases eb:zcj t p.1[i] env' with
     | none=>rw [eb]at w;exact w.elim
     | some env1 =>
       rw [eb]at w
       refine ⟨_,ρ',env',h',p.1[i],env1,er'.ext ex2,hr2,rd,eb,fun σ2 er3=>⟨_,ρ',env1,h',er3,hr2,zjt sub (w.mono (ex2.sub sub)) fun b h3 ρ3 H3 b' ex3 er3' hr3 rb w3=>?_⟩⟩
       obtain rfl:b=b':=rb
       have hD3:H3 D=some (.lst vs):=by rw [ex3.frm D (.inr rfl),ex2.frm D (.inr rfl)];exact hD'
       cases b with
       | true =>
         rw [if_pos rfl]at w3 ⊢
         refine ⟨_,ρ3,env1,h3,er3',hr3,zjt sub w3 fun y h4 ρ4 H4 vy ex4 er4 hr4 ry w4=>?_⟩
         have hD4:H4 D=some (.lst vs):=by rw [ex4.frm D (.inr rfl)];exact hD3
         have fr4:zde F ρ4 h4 D:=⟨nF,(hr4.pro D (.inr rfl)).2⟩
         have exA:Ext F ρ' ρ4 H' H4:=((ex2.trans ex3).trans ex4).sub sub
         have rs4:RDs ρ4 H4 acc vs:=RDs.ext exA _ _ rs
         obtain ⟨ex5,hr5⟩:=(hr4.sub sub).upd_free (ys:=vs++[vy]) fr4 hD4
         refine ⟨vs,hD4,by have:=rs.length;rw [sizeLine_eq];omega,p.1.length - (i+1),ω,ρ4,env1,h4,acc++[y],vs++[vy],(ex.trans exA).trans ex5,er4.ext ex5,hr5,zbN,fr4,RDs.ext ex5 _ _ (rs4.snoc ry),by simp;omega,rfl,hlt,w4.mono ex5⟩
       | false =>
         rw [if_neg ϑ]at w3 ⊢
         have exA:Ext F ρ' ρ3 H' H3:=(ex2.trans ex3).sub sub
         exact ⟨p.1.length - (i+1),ω,ρ3,env1,h3,acc,vs,ex.trans exA,er3',hr3.sub sub,hD3,⟨nF,(hr3.pro D (.inr rfl)).2⟩,RDs.ext exA _ _ rs,ω,rfl,hlt,w3⟩
   . rw [if_neg g]at w;exact w.elim
 . left
   rw [List.drop_eq_nil_of_le ω]at w
   simp only [zbx]at w
   by_cases g:guard p.2 h'=true
   . rw [if_pos g]at w
     exact ⟨(src F ρ' h' H' i ex hr' g).2 ω,w.done (er1.ext ex) hr' ⟨D,vs,rfl,hD',fr,rs⟩⟩
   . rw [if_neg g]at w;exact w.elim
theorem znY {t:Tg}{Q:VK} (w:tN W G (zd1 js t ms cond me) σ H Q):zju js (tI W G ms) (tTg G t) (tT W G cond) (tE W G me) σ H Q:=by
 obtain ⟨F,ρ,env,h,er,hr,w⟩:=w
 refine ⟨F,ρ,env,h,er,hr,zJ w fun p h1 ρ1 H1 J e1 er1 hr1 src w1=>fun D hD=>?_⟩
 by_cases hlen:p.1.length<=1000000
 . rw [if_pos hlen]at w1
   exact zoB hlen src er1 hr1 w1 D hD
 . rw [if_neg hlen]at w1;exact w1.elim
theorem ziM:zdz X [] (tT W G zcZ) := .of (fun pins s σ H Q I ⟨F,ρ,env,h,er,hr,w⟩=>zp1 pins s σ H Q I (wp.done (h:=h) w er hr rfl))
end
end MI
end
section
namespace MI
open PySem PySem.Spec L2
noncomputable def O.bd (n:Nat):O->Prop
 | .lst xs=>bds n xs
 | .scr xs=>bds n xs
 | .dic kvs=>∀ p∈kvs,p.2.bd n
 | .hole=>True
 | .set _=>True
 | .ins _ fs=>∀ p∈fs,p.2.bd n
section
variable {F:Addr->Prop}{G:GP}{ρ ρ1 ρ2 ρ':List Addr}{H H1 H2:Hp}{h h1 h2:MH}{a:Addr}{o:O}{n:Nat}
theorem KRs.mem {kvs:List (Int×D)}:∀ {vs:List (Key×V)},KRs ρ H kvs vs->∀ p∈kvs,∃ v,RD ρ H p.2 v:=by
 induction kvs with
 | nil=>intro vs r p hp;cases hp
 | cons q kvs ih =>
   intro vs r p hp
   unfold KRs at r
   obtain ⟨v,w,rfl,r1,r2⟩:=r
   rcases List.mem_cons.mp hp with rfl | hp
   . exact ⟨v,r1⟩
   . exact ih r2 p hp
theorem FRs.mem {C:Addr}{kvs:List (Nat×D)}:∀ {vs:List (Str×V)},FRs G ρ H C kvs vs->∀ p∈kvs,∃ v,RD ρ H p.2 v:=by
 induction kvs with
 | nil=>intro vs r p hp;cases hp
 | cons q kvs ih =>
   intro vs r p hp
   unfold FRs at r
   obtain ⟨f,v,w,rfl,_,_,r1,r2⟩:=r
   rcases List.mem_cons.mp hp with rfl | hp
   . exact ⟨v,r1⟩
   . exact ih r2 p hp
theorem RO.bd (r:RO G ρ H a o):o.bd ρ.length:=by
 cases o with
 | lst xs=>obtain ⟨vs,_,r⟩:=r;exact RDs.bd _ _ r
 | scr xs=>obtain ⟨vs,_,r⟩:=r;exact RDs.bd _ _ r
 | dic kvs=>obtain ⟨vs,_,r⟩:=r;exact fun p hp=>let ⟨v,q⟩:=r.mem p hp;RD.bd _ _ q
 | hole=>trivial
 | set xs=>trivial
 | ins c fs=>obtain ⟨C,dx,vs,_,_,r⟩:=r;exact fun p hp=>let ⟨v,q⟩:=r.mem p hp;RD.bd _ _ q
theorem zh2:∀ {ds:List D},nrs ds=true->∀ d∈ds,d.nr=true
 | [],_,d,hd=>by cases hd
 | x :: ds,h,d,hd=>by
   unfold nrs at h
   rw [Bool.and_eq_true]at h
   rcases List.mem_cons.mp hd with rfl | hd
   . exact h.1
   . exact zh2 h.2 d hd
theorem O.flat_bd (f:o.flat=true):o.bd n:=by
 cases o with
 | lst xs=>exact zg9 xs f
 | scr xs=>cases f
 | dic kvs=>exact fun p hp=>D.nr_bd _ (zh2 f _ (List.mem_map_of_mem hp))
 | hole=>cases f
 | set xs=>trivial
 | ins c fs=>cases f
theorem KRs.cut {kvs:List (Int×D)} (e:∀ m,m < n->ρ1[m]?=ρ[m]?):∀ {vs:List (Key×V)},KRs ρ H kvs vs->(∀ p∈kvs,p.2.bd n)->KRs ρ1 H kvs vs:=by
 induction kvs with
 | nil=>intro vs r _;exact r
 | cons q kvs ih =>
   intro vs r b
   unfold KRs at r ⊢
   obtain ⟨v,w,e1,r1,r2⟩:=r
   exact ⟨v,w,e1,RD.cut e _ _ (b q List.mem_cons_self) r1,ih r2 fun p hp=>b p (List.mem_cons_of_mem _ hp)⟩
theorem FRs.cut {C:Addr}{kvs:List (Nat×D)} (e:∀ m,m < n->ρ1[m]?=ρ[m]?):∀ {vs:List (Str×V)},FRs G ρ H C kvs vs->(∀ p∈kvs,p.2.bd n)->FRs G ρ1 H C kvs vs:=by
 induction kvs with
 | nil=>intro vs r _;exact r
 | cons q kvs ih =>
   intro vs r b
   unfold FRs at r ⊢
   obtain ⟨f,v,w,e1,e2,e3,r1,r2⟩:=r
   exact ⟨f,v,w,e1,e2,e3,RD.cut e _ _ (b q List.mem_cons_self) r1,ih r2 fun p hp=>b p (List.mem_cons_of_mem _ hp)⟩
theorem RO.cut (r:RO G ρ H a o) (b:o.bd n) (e:∀ m,m < n->ρ1[m]?=ρ[m]?):RO G ρ1 H a o:=by
 cases o with
 | lst xs=>obtain ⟨vs,h1,r⟩:=r;exact ⟨vs,h1,RDs.cut e _ _ b r⟩
 | scr xs=>obtain ⟨vs,h1,r⟩:=r;exact ⟨vs,h1,RDs.cut e _ _ b r⟩
 | dic kvs=>obtain ⟨vs,h1,r⟩:=r;exact ⟨vs,h1,r.cut e b⟩
 | hole=>exact r
 | set xs=>exact r
 | ins c fs=>obtain ⟨C,dx,vs,h1,h2,r⟩:=r;exact ⟨C,dx,vs,h1,h2,r.cut e b⟩
theorem HR.select (hr:HR F G ρ2 h2 H2) {os:List Nat}{objs:MH}{ρ':List Addr} (nd:os.Nodup) (hl:objs.length=os.length) (hl':ρ'.length=os.length) (ha:∀ (j i:Nat),os[j]?=some i->ρ'[j]?=ρ2[i]?)
   (hA:∀ (j i:Nat) ob,os[j]?=some i->objs[j]?=some ob->∃ a ob2,ρ2[i]?=some a∧h2[i]?=some ob2∧ob.isScr=ob2.isScr∧RO G ρ' H2 a ob):HR F G ρ' objs H2:=by
 have org:∀ (j:Nat) b ob,ρ'[j]?=some b->objs[j]?=some ob->∃ i ob2,os[j]?=some i∧ρ2[i]?=some b∧h2[i]?=some ob2∧ob.isScr=ob2.isScr∧RO G ρ' H2 b ob:=fun j b ob e1 e2=>by
   have hj:j < os.length:=by rw [<- hl];exact (List.getElem?_eq_some_iff.mp e2).1
   have ei:=List.getElem?_eq_getElem hj
   obtain ⟨a,ob2,h3,h4,h5,h6⟩:=hA j _ ob ei e2
   have:=ha j _ ei
   rw [e1,h3]at this;cases this
   exact ⟨_,ob2,ei,h3,h4,h5,h6⟩
 refine ⟨fun b hb=>⟨(hr.pro b hb).1,fun m ob e1 e2=>?_⟩,fun m m' b ob ob' hne e1 e2 e3 e4=>?_,by rw [hl,hl'],fun m ob e=>?_⟩
 . obtain ⟨i,ob2,_,h3,h4,h5,_⟩:=org m b ob e1 e2
   rw [h5];exact (hr.pro b hb).2 i ob2 h3 h4
 . obtain ⟨i,ob2,f1,h3,h4,h5,_⟩:=org m b ob e1 e3
   obtain ⟨i',ob2',f1',h3',h4',h5',_⟩:=org m' b ob' e2 e4
   rw [h5,h5']
   refine hr.nd i i' b ob2 ob2' (fun z=>hne ?_) h3 h3' h4 h4'
   subst z
   obtain ⟨g1,g2⟩:=List.getElem?_eq_some_iff.mp f1
   obtain ⟨g1',g2'⟩:=List.getElem?_eq_some_iff.mp f1'
   exact (List.getElem_inj nd).mp (g2.trans g2'.symm)
 . have hm:m < os.length:=by rw [<- hl];exact (List.getElem?_eq_some_iff.mp e).1
   obtain ⟨a,ob2,h3,h4,h5,h6⟩:=hA m _ ob (List.getElem?_eq_getElem hm) e
   exact ⟨a,by rw [ha m _ (List.getElem?_eq_getElem hm)];exact h3,h6⟩
noncomputable def RlP (n b:Nat) (h2:MH) (ds:List D) (ms:List Nat) (ds':List D) (ms':List Nat):Prop:=(∃ t,ms'=ms++t)∧ms'.Nodup∧(∀ m∈ms',n<=m∧∃ o,h2[m]?=some o∧o.flat=true) ∧
   ∀ (ρ2 ρ':List Addr) (H:Hp) (vs:List V),(∀ i,i < n->ρ'[i]?=ρ2[i]?)->(∀ (j m:Nat),ms'[j]?=some m->ρ'[b+j]?=ρ2[m]?)->RDs ρ2 H ds vs->RDs ρ' H ds' vs
theorem zfO {b:Nat}:∀ {ds:List D}{ms:List Nat}{ds':List D}{ms':List Nat},zbT n b h2 ds ms=some (ds',ms')->ms.Nodup->(∀ m∈ms,n<=m∧∃ o,h2[m]?=some o∧o.flat=true)->RlP n b h2 ds ms ds' ms'
 | [],ms,ds',ms',e,nd,hm=>by
   simp only [zbT]at e
   cases e
   exact ⟨⟨[],ς⟩,nd,hm,fun ρ2 ρ' H vs _ _ r=>by unfold RDs at r ⊢;exact r⟩
 | d :: ds,ms,ds',ms',e,nd,hm=>by
   have plain:∀ {q:List D×List Nat},d.bd n->zbT n b h2 ds ms=some q->ds'=d :: q.1->ms'=q.2->RlP n b h2 (d :: ds) ms ds' ms':=fun {q} hd e' e1 e2=>by
     subst e1 e2
     obtain ⟨h3,h4,h5,h6⟩:=zfO (ds':=q.1) (ms':=q.2) e' nd hm
     refine ⟨h3,h4,h5,fun ρ2 ρ' H vs g1 g2 r=>?_⟩
     unfold RDs at r ⊢
     obtain ⟨x,w,e3,r1,r2⟩:=r
     exact ⟨x,w,e3,RD.cut g1 _ _ hd r1,h6 ρ2 ρ' H w g1 g2 r2⟩
   have byNr:d.nr=true->(if d.nr=true then (zbT n b h2 ds ms).map fun p=>(d :: p.1,p.2) else none)=some (ds',ms')->RlP n b h2 (d :: ds) ms ds' ms':=fun hn e=>by
     rw [if_pos hn,Option.map_eq_some_iff]at e
     obtain ⟨q,e1,e2⟩:=e
     cases e2
     exact plain (D.nr_bd d hn) e1 rfl rfl
   cases d with
   | obj m =>
     simp only [zbT]at e
     by_cases h1:m < n
     . rw [if_pos h1,Option.map_eq_some_iff]at e
       obtain ⟨q,e1,e2⟩:=e
       cases e2
       exact plain (by unfold D.bd;exact h1) e1 rfl rfl
     . rw [if_neg h1]at e
       by_cases h3:m∈ms
       . rw [if_pos h3]at e;cases e
       . rw [if_neg h3]at e
         cases q:h2[m]? with
         | none=>rw [q]at e;cases e
         | some ob =>
           rw [q]at e
           dsimp only at e
           by_cases h4:ob.flat=true
           . rw [if_pos h4,Option.map_eq_some_iff]at e
             obtain ⟨w,e1,e2⟩:=e
             cases e2
             have nd':(ms++[m]).Nodup:=by
               rw [List.nodup_append]
               exact ⟨nd,ς,fun x hx y hy=>by simp at hy;subst hy;exact fun z=>h3 (z ▸ hx)⟩
             obtain ⟨⟨t,et⟩,g4,g5,g6⟩:=zfO (ds':=w.1) (ms':=w.2) e1 nd' (fun x hx=>by
               rcases List.mem_append.mp hx with hx | hx
               . exact hm x hx
               . simp at hx;subst hx;exact ⟨ω,ob,q,h4⟩)
             refine ⟨⟨m :: t,by rw [et];simp⟩,g4,g5,fun ρ2 ρ' H vs g1 g2 r=>?_⟩
             unfold RDs at r ⊢
             obtain ⟨x,w',e3,r1,r2⟩:=r
             refine ⟨x,w',e3,?_,g6 ρ2 ρ' H w' g1 g2 r2⟩
             unfold RD at r1 ⊢
             obtain ⟨a,ea,eb⟩:=r1
             refine ⟨a,ea,?_⟩
             rw [g2 ms.length m (by rw [et];simp)]
             exact eb
           . rw [if_neg h4]at e;cases e
   | non=>exact byNr rfl e
   | bl x=>exact byNr rfl e
   | int x=>exact byNr rfl e
   | str x=>exact byNr rfl e
   | tup xs =>
     have e':(if (D.tup xs).nr=true then (zbT n b h2 ds ms).map fun p=>(D.tup xs :: p.1,p.2) else none)=some (ds',ms'):=e
     by_cases hn:(D.tup xs).nr=true
     . exact byNr hn e'
     . rw [if_neg hn]at e';cases e'
theorem znx (hr1:HR F G ρ1 h1 H1) (ok:zdC h1 h2=true) {i:Nat}{ob:O} (hi:i < h1.length) (e:h2[i]?=some ob):ob.bd ρ1.length:=by
 unfold zdC at ok
 rw [List.all_eq_true]at ok
 have:=ok i (List.mem_range.mpr hi)
 rw [Bool.or_eq_true,decide_eq_true_eq]at this
 rcases this with z | z
 . obtain ⟨a,e1,e2⟩:=hr1.all i ob (by rw [<- z];exact e)
   exact e2.bd
 . rw [e]at z
   exact O.flat_bd z
theorem HR.keepSome {t:List Addr} (hr1:HR F G ρ1 h1 H1) (hr2:HR F G (ρ1++t) h2 H2) (ok:zdC h1 h2=true) {os:List Nat}{obs:MH} (nd:os.Nodup) (hge:∀ m∈os,h1.length<=m) (hl:obs.length=os.length)
   (hA:∀ (j i:Nat) ob,os[j]?=some i->obs[j]?=some ob->∃ a ob2,(ρ1++t)[i]?=some a∧h2[i]?=some ob2∧ob.isScr=ob2.isScr∧RO G (ρ1++os.map fun i=>(ρ1++t).getD i 0) H2 a ob) :
   HR F G (ρ1++os.map fun i=>(ρ1++t).getD i 0) (h2.take h1.length++obs) H2:=by
 have hl2:h1.length<=h2.length:=by rw [<- hr1.len,<- hr2.len];simp
 have hpre:∀ m,m < ρ1.length->(ρ1++os.map fun i=>(ρ1++t).getD i 0)[m]?=(ρ1++t)[m]?:=fun m hm=>by rw [List.getElem?_append_left hm,List.getElem?_append_left hm]
 have hio:∀ (j i:Nat),(List.range h1.length++os)[j]?=some i->(j < h1.length∧i=j)∨(h1.length<=j∧os[j - h1.length]?=some i):=fun j i e=>by
   by_cases hj:j < h1.length
   . rw [List.getElem?_append_left (by simpa using hj),List.getElem?_range hj]at e
     cases e;exact .inl ⟨hj,rfl⟩
   . rw [List.getElem?_append_right (by simp;omega)]at e
     simp only [List.length_range]at e
     exact .inr ⟨ω,e⟩
 refine hr2.select (os:=List.range h1.length++os) ?_ ?_ ?_ (fun j i e=>?_) (fun j i ob e1 e2=>?_)
 . rw [List.nodup_append]
   refine ⟨List.nodup_range,nd,fun x hx y hy z=>?_⟩
   have:=hge y hy
   rw [List.mem_range]at hx
   omega
 . rw [List.length_append,List.length_append,List.length_range,hl,List.length_take];omega
 . rw [List.length_append,List.length_append,List.length_range,List.length_map,hr1.len]
 . rcases hio j i e with ⟨hj,rfl⟩ | ⟨hj,e⟩
   . exact hpre i (by rw [hr1.len];exact hj)
   . rw [List.getElem?_append_right (by rw [hr1.len];exact hj),List.getElem?_map,hr1.len,e]
     have hi:i < (ρ1++t).length:=by
       have ho:j - h1.length < obs.length:=by rw [hl];exact (List.getElem?_eq_some_iff.mp e).1
       obtain ⟨a,_,h3,_⟩:=hA _ _ _ e (List.getElem?_eq_getElem ho)
       exact (List.getElem?_eq_some_iff.mp h3).1
     rw [List.getElem?_eq_getElem hi]
     simp [List.getD,List.getElem?_eq_getElem hi]
 . rcases hio j i e1 with ⟨hj,rfl⟩ | ⟨hj,e1⟩
   . have hlt:i < (h2.take h1.length).length:=by rw [List.length_take];omega
     rw [List.getElem?_append_left hlt,List.getElem?_take_of_lt hj]at e2
     obtain ⟨a,h3,h4⟩:=hr2.all i ob e2
     exact ⟨a,ob,h3,e2,rfl,h4.cut (znx hr1 ok hj e2) hpre⟩
   . have hlt:(h2.take h1.length).length=h1.length:=by rw [List.length_take];omega
     rw [List.getElem?_append_right (by rw [hlt];exact hj),hlt]at e2
     exact hA _ _ _ e1 e2
theorem RO.flat (r:RO G ρ H a o) (f:o.flat=true):RO G ρ' H a o:=r.cut (n:=0) (O.flat_bd f) fun m hm=>absurd hm (Nat.not_lt_zero m)
theorem zi2:∀ {fs:List (Nat×D)}{ds:List D}{vs:List (Str×V)}{C:Addr}{us:List V},FRs G ρ H C fs vs->vs.map (·.2)=us->RDs ρ' H ds us->FRs G ρ' H C ((fs.map (·.1)).zip ds) vs
 | [],ds,vs,C,us,r,e,rs=>by unfold FRs at r;subst r;simp [FRs]
 | p :: fs,ds,vs,C,us,r,e,rs=>by
   unfold FRs at r
   obtain ⟨f,v,q,rfl,h1,h2,h3,h4⟩:=r
   subst e
   rw [List.map_cons]at rs
   cases ds with
   | nil=>unfold RDs at rs;cases rs
   | cons d ds =>
     unfold RDs at rs
     obtain ⟨x,w,e1,r1,r2⟩:=rs
     cases e1
     rw [List.map_cons,List.zip_cons_cons]
     unfold FRs
     exact ⟨f,v,q,rfl,h1,h2,r1,zi2 h4 rfl r2⟩
theorem FRs.vals:∀ {fs:List (Nat×D)}{vs:List (Str×V)}{C:Addr},FRs G ρ H C fs vs->RDs ρ H (fs.map (·.2)) (vs.map (·.2))
 | [],vs,C,r=>by unfold FRs at r;subst r;simp;exact RDs.nil
 | p :: fs,vs,C,r=>by
   unfold FRs at r
   obtain ⟨f,v,q,rfl,h1,h2,h3,h4⟩:=r
   exact RDs.cons h3 (FRs.vals h4)
theorem zo4 {v:D}{v2:V}{t:List Addr} (hr1:HR F G ρ1 h1 H1) (hr2:HR F G (ρ1++t) h2 H2) (rd:RD (ρ1++t) H2 v v2) (ok:zdC h1 h2=true) :
   ∃ t',HR F G (ρ1++t') (gcV h1.length v h2).2 H2∧RD (ρ1++t') H2 (gcV h1.length v h2).1 v2:=by
 have none':HR F G ρ1 (h2.take h1.length) H2:=by
   have:=hr1.keepSome hr2 ok (os:=[]) (obs:=[]) ς ς rfl (fun j i ob e=>by simp at e)
   simpa using this
 have low:∀ {d:D} {u:V},d.bd h1.length->RD (ρ1++t) H2 d u->RD ρ1 H2 d u:=fun {d u} hb r=>RD.cut (n:=h1.length) (fun m hm=>by rw [List.getElem?_append_left (by rw [hr1.len];exact hm)]) d u hb r
 have flatOs:∀ {ms:List Nat},(∀ m∈ms,h1.length<=m∧∃ o,h2[m]?=some o∧o.flat=true)->∀ (ρ':List Addr) (j i:Nat) ob,ms[j]?=some i->(ms.map fun k=>h2.getD k (.lst []))[j]?=some ob->∃ a ob2,(ρ1++t)[i]?=some a∧h2[i]?=some ob2∧ob.isScr=ob2.isScr∧RO G ρ' H2 a ob:=fun {ms} hm ρ' j i ob e1 e2=>by
   obtain ⟨_,o,ho,hf⟩:=hm i (List.mem_of_getElem? e1)
   rw [List.getElem?_map,e1]at e2
   have e3:h2.getD i (.lst [])=ob:=Option.some.inj e2
   rw [List.getD_eq_getElem?_getD,ho]at e3
   have e4:o=ob:=e3
   subst e4
   obtain ⟨a,g1,g2⟩:=hr2.all i o ho
   exact ⟨a,o,g1,ho,rfl,g2.flat hf⟩
 cases v with
 | obj m =>
   simp only [gcV]
   by_cases hm:m < h1.length
   . rw [if_pos hm]
     exact ⟨[],by simpa using none',by simpa using low (by unfold D.bd;exact hm) rd⟩
   . rw [if_neg hm]
     cases q:h2[m]? with
     | none=>exact ⟨t,hr2,rd⟩
     | some ob =>
       have flatCase:ob.flat=true->∃ t',HR F G (ρ1++t') (h2.take h1.length++[ob]) H2∧RD (ρ1++t') H2 (.obj h1.length) v2:=fun hf=>by
         have hh:=hr1.keepSome hr2 ok (os:=[m]) (obs:=[ob]) ς (by simp;omega) rfl (fun j i x e1 e2=>by
           refine flatOs (ms:=[m]) (fun k hk=>?_) _ j i x e1 ?_
           . have e:k=m:=by simpa using hk
             subst e;exact ⟨ω,ob,q,hf⟩
           . simp only [List.map_cons,List.map_nil,List.getD_eq_getElem?_getD,q];exact e2)
         refine ⟨_,hh,?_⟩
         unfold RD at rd ⊢
         obtain ⟨a,e1,e2⟩:=rd
         refine ⟨a,e1,?_⟩
         rw [List.getElem?_append_right (by rw [hr1.len];exact Nat.le_refl _),hr1.len]
         simp [List.getD_eq_getElem?_getD,e2]
       cases ob with
       | ins c fs =>
         dsimp only
         cases qr:zbT h1.length (h1.length+1) h2 (fs.map (·.2)) [] with
         | none=>exact ⟨t,hr2,rd⟩
         | some pr =>
           obtain ⟨ds,ms⟩:=pr
           obtain ⟨_,nd,hms,rel⟩:=zfO qr ς ς
           dsimp only
           have hge:∀ k∈m :: ms,h1.length<=k:=fun k hk=>by
             rcases List.mem_cons.mp hk with rfl | hk
             . omega
             . exact (hms k hk).1
           have ndm:(m :: ms).Nodup:=by
             rw [List.nodup_cons]
             refine ⟨fun z=>?_,nd⟩
             obtain ⟨_,o,ho,hf⟩:=hms m z
             rw [q]at ho;cases ho;cases hf
           have hlen:∀ k∈ms,k < (ρ1++t).length:=fun k hk=>by
             obtain ⟨_,o,ho,_⟩:=hms k hk
             rw [hr2.len];exact (List.getElem?_eq_some_iff.mp ho).1
           have hml:m < (ρ1++t).length:=by rw [hr2.len];exact (List.getElem?_eq_some_iff.mp q).1
           have hh:=hr1.keepSome hr2 ok (os:=m :: ms) (obs := .ins c ((fs.map (·.1)).zip ds) :: ms.map fun k=>h2.getD k (.lst [])) ndm hge ς (fun j i x e1 e2=>by
             cases j with
             | zero =>
               cases e1;cases e2
               obtain ⟨a,g1,g2⟩:=hr2.all m _ q
               refine ⟨a,_,g1,q,rfl,?_⟩
               obtain ⟨C,dx,vs,k1,k2,k3⟩:=g2
               refine ⟨C,dx,vs,k1,k2,zi2 k3 rfl (rel (ρ1++t) _ H2 _ (fun i hi=>?_) (fun j k ek=>?_) k3.vals)⟩
               . rw [List.getElem?_append_left (by rw [hr1.len];exact hi),List.getElem?_append_left (by rw [hr1.len];exact hi)]
               . rw [List.getElem?_append_right (by rw [hr1.len];omega),hr1.len]
                 have e5:h1.length+1+j - h1.length=j+1:=by omega
                 rw [e5,List.map_cons,List.getElem?_cons_succ,List.getElem?_map,ek]
                 have hk:=hlen k (List.mem_of_getElem? ek)
                 rw [List.getElem?_eq_getElem hk]
                 simp [List.getD_eq_getElem?_getD,List.getElem?_eq_getElem hk]
             | succ j=>exact flatOs hms _ j i x (by simpa using e1) (by simpa using e2))
           refine ⟨_,hh,?_⟩
           unfold RD at rd ⊢
           obtain ⟨a,e1,e2⟩:=rd
           refine ⟨a,e1,?_⟩
           rw [List.getElem?_append_right (by rw [hr1.len];exact Nat.le_refl _),hr1.len]
           simp [List.getD_eq_getElem?_getD,e2]
       | lst xs =>
         dsimp only
         by_cases hf:(O.lst xs).flat=true
         . rw [if_pos hf];exact flatCase hf
         . rw [if_neg hf];exact ⟨t,hr2,rd⟩
       | scr xs =>
         dsimp only
         by_cases hf:(O.scr xs).flat=true
         . rw [if_pos hf];exact flatCase hf
         . rw [if_neg hf];exact ⟨t,hr2,rd⟩
       | dic xs =>
         dsimp only
         by_cases hf:(O.dic xs).flat=true
         . rw [if_pos hf];exact flatCase hf
         . rw [if_neg hf];exact ⟨t,hr2,rd⟩
       | hole =>
         dsimp only
         by_cases hf:O.hole.flat=true
         . rw [if_pos hf];exact flatCase hf
         . rw [if_neg hf];exact ⟨t,hr2,rd⟩
       | set xs =>
         dsimp only
         by_cases hf:(O.set xs).flat=true
         . rw [if_pos hf];exact flatCase hf
         . rw [if_neg hf];exact ⟨t,hr2,rd⟩
 | tup ds =>
   simp only [gcV]
   cases qr:zbT h1.length h1.length h2 ds [] with
   | none=>exact ⟨t,hr2,rd⟩
   | some pr =>
     obtain ⟨ds',ms⟩:=pr
     obtain ⟨_,nd,hms,rel⟩:=zfO qr ς ς
     dsimp only
     have hlen:∀ k∈ms,k < (ρ1++t).length:=fun k hk=>by
       obtain ⟨_,o,ho,_⟩:=hms k hk
       rw [hr2.len];exact (List.getElem?_eq_some_iff.mp ho).1
     have hh:=hr1.keepSome hr2 ok (os:=ms) (obs:=ms.map fun k=>h2.getD k (.lst [])) nd (fun k hk=>(hms k hk).1) ς (fun j i x e1 e2=>flatOs hms _ j i x e1 e2)
     refine ⟨_,hh,?_⟩
     unfold RD at rd ⊢
     obtain ⟨a,vs,e1,e2,rs⟩:=rd
     refine ⟨a,vs,e1,e2,rel (ρ1++t) _ H2 vs (fun i hi=>?_) (fun j k ek=>?_) rs⟩
     . rw [List.getElem?_append_left (by rw [hr1.len];exact hi),List.getElem?_append_left (by rw [hr1.len];exact hi)]
     . rw [List.getElem?_append_right (by rw [hr1.len];omega),hr1.len]
       have e5:h1.length+j - h1.length=j:=by omega
       rw [e5,List.getElem?_map,ek]
       have hk:=hlen k (List.mem_of_getElem? ek)
       rw [List.getElem?_eq_getElem hk]
       simp [List.getD_eq_getElem?_getD,List.getElem?_eq_getElem hk]
 | non=>exact ⟨[],by simpa [gcV] using none',by simpa [gcV] using low (by simp [D.bd]) rd⟩
 | bl x=>exact ⟨[],by simpa [gcV] using none',by simpa [gcV] using low (by simp [D.bd]) rd⟩
 | int x=>exact ⟨[],by simpa [gcV] using none',by simpa [gcV] using low (by simp [D.bd]) rd⟩
 | str x=>exact ⟨[],by simpa [gcV] using none',by simpa [gcV] using low (by simp [D.bd]) rd⟩
end
end MI
end
section
namespace MI
open PySem PySem.Spec L2
noncomputable def wpF (F:Addr->Prop) (G:GP) (ρ:List Addr) (H:Hp) (r:R D) (Q:VK):Prop:=match r with
 | .ok v h1=>∀ ρ1 H1 v1,Ext F ρ ρ1 H H1->HR F G ρ1 h1 H1->RD ρ1 H1 v v1->Q v1 H1
 | .ex c h1=>∀ ρ1 H1,Ext F ρ ρ1 H H1->HR F G ρ1 h1 H1->False
 | .bad=>False
noncomputable def spM (G:GP) (n:Nat) (f:MF):Sp:=fun vs H Q _=>∃ F ρ ds h,HR F G ρ h H∧RDs ρ H ds vs∧ds.length=n∧wpF F G ρ H (f ds h) Q
noncomputable def Ar (n:Nat) (f:MF):Prop:=∀ ds h,ds.length≠n->f ds h = .bad
theorem zho {np nl:Nat}{m:MS}:Ar np (z6 np nl m):=fun ds h hn=>if_neg hn
section
variable {P:Program}{w:World}{K:PySem.W.Frag}{mg:Str->Option Value}{base:Heap}{G:GP}
theorem zmJ {F:Addr->Prop}{ρ:List Addr}{H:Hp}{N:List Str}{ds:List D}{vs:List V}{nl np:Nat} (r:RDs ρ H ds vs) (h1:N.length=nl) (h2:ds.length=np) (h3:np<=nl):zS ρ H (ds.map some++List.replicate (nl - np) none) (L2.start N vs):=by
 have hl:=r.length
 unfold L2.start
 refine ⟨by simp;omega,fun i d e=>?_⟩
 by_cases hi:i < ds.length
 . rw [List.getElem?_append_left (by simpa using hi),List.getElem?_map]at e
   rw [List.getElem?_append_left (by simp;omega),List.getElem?_map]
   cases ei:ds[i]? with
   | none=>rw [ei]at e;cases e
   | some d' =>
     rw [ei]at e
     have e':d'=d:=by simpa using e
     subst e'
     obtain ⟨v,g1,g2⟩:=r.get ei
     exact ⟨v,by rw [g1];rfl,g2⟩
 . rw [List.getElem?_append_right (by simpa using hi)]at e
   have:=List.mem_of_getElem? e
   rw [List.mem_replicate]at this
   cases this.2
end
section
variable {X:Cx}{F:Addr->Prop}{G:GP}{env:zx}{σ:L2.St}{ρ:List Addr}{H:Hp}{h:MH}{e o:Expr}{es:List Expr}{mo:ME D}{ml:ME (List D)}{pos p apos:Pos}{k n:Nat}{x m:Str}{f C:Addr}{fd:FuncData}{ps:List Str}{mf:MF}
theorem zgW:∀ {tbl:List (Nat×MF)}{c:Nat}{mf:MF},tbl.lookup c=some mf->c∈tbl.map (·.1)
 | [],c,mf,h=>by cases h
 | p :: r,c,mf,h=>by
   rw [List.lookup_cons]at h
   by_cases e:c=p.1
   . rw [e];simp
   . have b:(c == p.1)=false:=by simpa using e
     rw [b]at h
     exact List.mem_cons_of_mem _ (zgW h)
theorem zgz {l:List Str}{m:Str} (h:l.contains m=false) (kk:Nat):l[kk]?≠some m:=fun e=>by
 have:=List.mem_of_getElem? e
 rw [<- List.contains_iff_mem,h]at this
 cases this
end
end MI
end
section
namespace MI
open PySem PySem.Spec L2
noncomputable def zdN (K:PySem.W.Frag):Sp:=fun vs H Q _=>∃ (a:Addr) (ns:List Int),vs=[.ref a]∧ns.length<=63∧zeV H∧SqL K H a (ns.map V.int)∧∀ H',Q (.bl true) H'
theorem zmU {G:GP}{mf:MF} (hl:∀ ns:List Int,ns.length<=63->∃ h',mf [.obj 0] [.scr (ns.map .int)] = .ok (.bl true) h') (vs:List V) (H:Hp) (Q:VK) (E:XK) (h:zdN G.K vs H Q E):spM G 1 mf vs H Q E:=by
 obtain ⟨a,ns,rfl,hn,ho,hs,q⟩:=h
 obtain ⟨h',e⟩:=hl ns hn
 refine ⟨fun _=>False,[a],[.obj 0],[.scr (ns.map .int)],⟨fun b z=>z.elim,fun n m b o o' hne h1 h2 h3 h4=>?_,rfl,fun n o e=>?_⟩,RDs.cons (by unfold RD;exact ⟨a,rfl,rfl⟩) RDs.nil,rfl,?_⟩
 . have e1:n=0:=by have:=(List.getElem?_eq_some_iff.mp h3).1;simp at this;exact this
   have e2:m=0:=by have:=(List.getElem?_eq_some_iff.mp h4).1;simp at this;exact this
   exact absurd (e1.trans e2.symm) hne
 . have e1:n=0:=by have:=(List.getElem?_eq_some_iff.mp e).1;simp at this;exact this
   subst e1
   cases e
   refine ⟨a,rfl,ns.map V.int,?_,RDs.ints ns⟩
   rcases hs with hs | hs
   . rcases hs with hs | ⟨o,hs⟩
     . rcases ho a with z | ⟨o,xs,z⟩
       . rw [z]at hs;cases hs
       . rw [z]at hs;cases hs
     . exact .inl ⟨o,hs⟩
   . exact .inr hs
 . rw [e]
   intro ρ1 H1 v1 _ _ r
   unfold RD at r
   subst r
   exact q H1
theorem law_start {K:PySem.W.Frag}{H:Hp}{a:Addr}{ns:List Int} (ho:zeV H) (hl:ns.length<=63) (hS:SqL K H a (ns.map V.int)):zdN K [.ref a] H (fun v _=>v = .bl true) fun _ _ _=>False:=⟨a,ns,rfl,hl,ho,hS,fun _=>rfl⟩
end MI
end
section
namespace MI
open PySem PySem.Spec L2
section
variable {W:Nat->Hp->Prop}{X:Cx}{F:Addr->Prop}{G:GP}{env:zx}{σ:L2.St}{ρ:List Addr}{H:Hp}{h:MH}{a b c e o tg:Expr}{es:List Expr}{ma mb mo:ME D}{pos p p1 tp apos cpos:Pos}{k:Nat}
variable {m1:MS}{t:Tg}{bd:List Stmt}{cond:ME Bool}{me:ME D}{N:List Str}{js:List (Option Nat)}{scope:Scope}{elt:Expr}{ifs:List Expr}
end
end MI
end
section
namespace MI
open PySem PySem.Spec L2
noncomputable abbrev WE (xm:List Addr) (E:XK):Nat->Hp->Prop:=fun c H=>∃ C,xm[c]?=some C∧E (.ref C) none H
noncomputable abbrev zcG (xm:List Addr) (W:Nat->Hp->Prop):Addr->Hp->Prop:=fun C H=>∃ c,xm[c]?=some C∧W c H
structure XM (X:Cx) (xm:List Addr) (W:Nat->Hp->Prop):Prop where
 has:∀ c H,W c H->∃ C,xm[c]?=some C
 pass:zc1 (CX1 X.prog X.w) X (EW (zcG xm W))
structure XB (X:Cx) (xm:List Addr) (W:Nat->Hp->Prop):Prop extends XM X xm W where
 ok:XOk X (zcG xm W)
 ex:X.ex=[]
 st:∃ o,X.stack=X.env :: o
 fr:∃ L,X.env.frame=some L
theorem CX1.mono {P:Program}{w:World}{outer:List Env}{H:Hp}{s:Shared}{E E':XK}{e:Value}{s':Shared} (m:∀ c d H,E c d H->E' c d H) (c:CX1 P w outer H s E e s'):CX1 P w outer H s E' e s':=by
 obtain ⟨a,C,H',r1,r2,r3,r4,r5,r6,r7,q,r⟩:=c
 exact ⟨a,C,H',r1,r2,r3,r4,r5,r6,r7,m _ _ _ q,r⟩
theorem XOk.mono {X:Cx}{WX WX':Addr->Hp->Prop} (x:XOk X WX) (m:∀ C H,WX' C H->WX C H):XOk X WX' :=
 ⟨fun t pins σ H s a C I f q=>x.thr t pins σ H s a C I f (m C H q),fun pins σ H s e s' I c=>x.pass pins σ H s e s' I (CX1.mono (fun cls d H ⟨C,e,q⟩=>⟨C,e,m C H q⟩) c),x.own⟩
noncomputable def zew (F:Addr->Prop) (W:Nat->Hp->Prop) (G:GP) (ρ:List Addr) (H:Hp) (r:R D) (Q:VK):Prop:=match r with
 | .ok v h1=>∀ ρ1 H1 v1,Ext F ρ ρ1 H H1->HR F G ρ1 h1 H1->RD ρ1 H1 v v1->Q v1 H1
 | .ex c h1=>∀ ρ1 H1,Ext F ρ ρ1 H H1->HR F G ρ1 h1 H1->W c H1
 | .bad=>False
noncomputable def spE (G:GP) (xm:List Addr) (n:Nat) (f:MF):Sp:=fun vs H Q E=>∃ F ρ ds h,HR F G ρ h H∧RDs ρ H ds vs∧ds.length=n∧zew F (WE xm E) G ρ H (f ds h) Q
section
variable {P:Program}{w:World}{K:PySem.W.Frag}{mg:Str->Option Value}{base:Heap}{G:GP}{xm:List Addr}
theorem zmC {N:List Str}{qual:Str}{scope:Scope}{f:Addr}{cd:Value}{A:Around}{outer:List Env}{s:Shared}{H:Hp}{E:XK}:XB (zbS (CX1 P w) P w K mg base N qual scope f cd A outer s H E) xm (WE xm E) :=
 have ok:=XOk.mono (zpH (P:=P) (w:=w) (K:=K) (mg:=mg) (base:=base) (N:=N) (qual:=qual) (scope:=scope) (f:=f) (cd:=cd) (A:=A) (outer:=outer) (s:=s) (H:=H) (E:=E)) (WX':=zcG xm (WE xm E)) fun C H ⟨c,e,C',e',q⟩=>by rw [e]at e';cases e';exact q
 ⟨⟨fun c H ⟨C,e,_⟩=>⟨C,e⟩,ok.pass⟩,ok,rfl,⟨outer,rfl⟩,⟨_,rfl⟩⟩
theorem zbh {x qual:Str}{st:Stmt}{f:Addr}{fd:FuncData}{N ps:List Str}{k np nl:Nat}{m:MS} (Fn:Fun K x qual st f fd) (S:zX N ps (zG st)) (hnl:N.length=nl) (hnp:ps.length=np) (hle:np<=nl)
   (body:∀ (cdv:Value) (A:Around) (outer:List Env) (s:Shared) (H:Hp) (E:XK),zO k (A.deeper (PyProof.Rows.envOfC qual (zG st) s.heap.objs.size f cdv)) ->
     ∀ W,XB (zbS (CX1 P w) P w K mg base N qual (zG st) f cdv A outer s H E) xm W->JSs (zbS (CX1 P w) P w K mg base N qual (zG st) f cdv A outer s H E) (zb3 st) (tS W G m)):zM P w K mg base (CX1 P w) (k+1) f fd ps (spE G xm np (z6 np nl m)):=by
 refine Fn.okE S (fun vs H Q E h=>?_) (fun cdv A outer s H vs Q E hr h=>?_)
 . obtain ⟨F,ρ,ds,h,_,r,hl,_⟩:=h
   rw [<- r.length,hl,hnp]
 . obtain ⟨F,ρ,ds,h,hrr,r,hl,w⟩:=h
   refine ⟨_,(body cdv A outer s H E hr (WE xm E) (zmC)).to,F,ρ,_,h,zmJ (F:=F) r hnl hl hle,hrr,?_⟩
   unfold z6 at w
   rw [if_pos hl]at w
   cases e:m (ds.map some++List.replicate (nl - np) none) h with
   | nx e1 h1=>rw [e]at w;exact fun ρ1 H1 σ1 ex er hr'=>w ρ1 H1 .non ex hr' (by unfold RD;rfl)
   | rt v h1=>rw [e]at w;exact w
   | ex c h1=>rw [e]at w;exact w
   | bk e1 h1=>rw [e]at w;exact w.elim
   | ct e1 h1=>rw [e]at w;exact w.elim
   | bad=>rw [e]at w;exact w.elim
end
section
variable {X:Cx}{F:Addr->Prop}{G:GP}{env:zx}{σ:L2.St}{ρ:List Addr}{H:Hp}{h:MH}{e o:Expr}{es:List Expr}{mo:ME D}{ml:ME (List D)}{pos p apos:Pos}{k n:Nat}{x m:Str}{xm:List Addr}{W:Nat->Hp->Prop}{f C:Addr}{fd:FuncData}{ps:List Str}{mf:MF}
theorem ziT {ds:List D}{Q:VK} (er:zS ρ H env σ) (hr:HR F G ρ h H) (w:wp F W G rV env σ ρ H (app mf ds h) Q):zew F W G ρ H (mf ds h) Q:=by
 unfold app gc at w
 cases e:mf ds h with
 | ok v h2 =>
   rw [e]at w
   intro ρ2 H2 v2 ex hr2 rd
   dsimp only at w
   by_cases ok:zdC h h2=true
   . rw [if_pos ok]at w
     obtain ⟨t,rfl⟩:=ex.pre
     obtain ⟨t',g1,g2⟩:=zo4 hr hr2 rd ok
     have ex':Ext F ρ (ρ++t') H H2:=⟨⟨t',rfl⟩,ex.tup,ex.frm⟩
     exact w (ρ++t') H2 v2 ex' (er.ext ex') g1 g2
   . rw [if_neg ok]at w
     exact w ρ2 H2 v2 ex (er.ext ex) hr2 rd
 | ex c h2=>rw [e]at w;exact w
 | bad=>rw [e]at w;exact w
theorem zew.imp {r:R D}{Q:VK} (w:zew F W G ρ H r Q) (has:∀ c H,W c H->∃ C,xm[c]?=some C):zew F (WE xm (EW (zcG xm W))) G ρ H r Q:=by
 cases r with
 | ok v h=>exact w
 | bad=>exact w
 | ex c h =>
   intro ρ1 H1 e hr
   obtain ⟨C,ec⟩:=has c H1 (w ρ1 H1 e hr)
   exact ⟨C,ec,C,rfl,c,ec,w ρ1 H1 e hr⟩
theorem ziS {ds:List D}{vs:List V}{Q:VK} (has:∀ c H,W c H->∃ C,xm[c]?=some C) (ar:Ar n mf) (er:zS ρ H env σ) (hr:HR F G ρ h H) (rs:RDs ρ H ds vs) (w:wp F W G rV env σ ρ H (app mf ds h) Q):spE G xm n mf vs H Q (EW (zcG xm W)):=by
 by_cases hl:ds.length=n
 . exact ⟨F,ρ,ds,h,hr,rs,hl,zew.imp (ziT er hr w) has⟩
 . unfold app gc at w
   rw [ar ds h hl]at w
   exact w.elim
theorem zD (xw:XM X xm W) (Fo:zM X.prog X.w X.K X.mg X.base (CX1 X.prog X.w) k f fd ps (spE G xm n mf)) (hr:zO k X.A) (hg:Gl X x) (hm:X.mg x=some (.ref f)) (hk:PySem.W.keepIn X.K (.ref f)=true) (hb:zbZ X.K fd ps []) (ha:JA X (e :: es) (tA W G ml))
   (ar:Ar n mf:=by exact zho) (he:starEach (e :: es) X.env=(false,eval e X.env) :: starEach es X.env:=by rfl) (hpl:(backTo pos (starEach es X.env)).any (·.1)=false:=by rfl) (hdb:(x == ("__debug__":Str))=false:=by decide) :
   JE X (.Call (.Name x p) (e :: es) [] pos) (tE W G (zj mf ml)) :=
 .of (zbb (zot (dvs:=[]) (E:=EW (zcG xm W)) Fo hr hg hm hk hb .nil xw.pass ha.to hdb he hpl) fun σ H Q ⟨F,ρ,env,h,er,hrr,w⟩=>⟨F,ρ,env,h,er,hrr,zJ w fun ds h1 ρ1 H1 vs e1 er1 hr1 rs w1=>by
   rw [List.append_nil]
   exact ziS xw.has ar er1 hr1 rs w1⟩)
theorem zc3 {c ni:Nat} (xw:XM X xm W) (hC:G.cm[c]?=some C) (M:Mk X.K C f) (Fo:zM X.prog X.w X.K X.mg X.base (CX1 X.prog X.w) k f fd ps (spE G xm ni mf)) (hr:zO (k+1) X.A) (hg:Gl X x) (hm:X.mg x=some (.ref C)) (hb:zbZ X.K fd ps []) (ha:JA X (e :: es) (tA W G ml))
   (ar:Ar ni mf:=by exact zho) (he:starEach (e :: es) X.env=(false,eval e X.env) :: starEach es X.env:=by rfl) (hpl:(backTo pos (starEach es X.env)).any (·.1)=false:=by rfl) (hdb:(x == ("__debug__":Str))=false:=by decide) :
   JE X (.Call (.Name x p) (e :: es) [] pos) (tE W G (zj (mkF c mf) ml)) :=
 .of (zbb (znU (dvs:=[]) (E:=EW (zcG xm W)) M Fo hr hg hm hb .nil xw.pass ha.to hdb he hpl) fun σ H Q ⟨F,ρ,env,h,er,hrr,w⟩=>⟨F,ρ,env,h,er,hrr,zJ w fun ds h1 ρ1 H1 vs e1 er1 hr1 rs w1=>fun q dx hq hdx hne=>by
   have w2:=ziT er1 hr1 w1
   rw [List.append_nil]
   have hnq:upd H1 dx (.own q) q=none:=by rw [zN (Ne.symm hne)];exact hq
   have hra:HR F G ρ1 h1 (upd H1 dx (.own q)):=hr1.new hdx
   have hrb:HR F G ρ1 h1 (upd (upd H1 dx (.own q)) q (.ins C dx [])):=hra.new hnq
   have exa:Ext F ρ1 ρ1 H1 (upd (upd H1 dx (.own q)) q (.ins C dx [])):=(zcC hr1 hdx).trans (zcC hra hnq)
   have frq:zde F ρ1 h1 q:=hr1.fresh hq
   have hrc:HR F G (ρ1++[q]) (h1++[.ins c []]) (upd (upd H1 dx (.own q)) q (.ins C dx [])):=hrb.named frq ⟨C,dx,[],hC,zbN,by unfold FRs;rfl⟩
   have exb:Ext F ρ1 (ρ1++[q]) H1 (upd (upd H1 dx (.own q)) q (.ins C dx [])):=⟨⟨[q],rfl⟩,exa.tup,exa.frm⟩
   have hql:(ρ1++[q])[h1.length]?=some q:=by rw [<- hr1.len];simp
   by_cases hl:(D.obj h1.length :: ds).length=ni
   . refine ⟨F,ρ1++[q],.obj h1.length :: ds,h1++[.ins c []],hrc,RDs.cons (by unfold RD;exact ⟨q,rfl,hql⟩) (RDs.ext exb _ _ rs),hl,?_⟩
     unfold mkF at w2
     cases em:mf (.obj h1.length :: ds) (h1++[.ins c []]) with
     | ok v h2 =>
       rw [em]at w2
       cases v with
       | non =>
         intro ρ3 H3 v3 ex3 hr3 r3
         unfold RD at r3
         exact ⟨r3,w2 ρ3 H3 (.ref q) (exb.trans ex3) hr3 (by unfold RD;exact ⟨q,rfl,ex3.get hql⟩)⟩
       | _=>exact w2.elim
     | ex c h2=>rw [em]at w2;exact fun ρ3 H3 ex3 hr3=>let z:=w2 ρ3 H3 (exb.trans ex3) hr3;let ⟨C,ec⟩:=xw.has c H3 z;⟨C,ec,C,rfl,c,ec,z⟩
     | bad=>rw [em]at w2;exact w2
   . unfold mkF at w2
     rw [ar _ _ hl]at w2
     exact w2.elim⟩)
noncomputable def zfS (W:Nat->Hp->Prop) (X:Cx) (G:GP) (ex:Expr) (mo:ME D) (ml:ME (List D)) (tbl:List (Nat×MF)) (cs:List Nat):Prop :=
 ∀ (c:Nat) (mf:MF),c∈cs->tbl.lookup c=some mf->PE X ex (fun σ H Q=>∃ F ρ env h,zS ρ H env σ∧HR F G ρ h H∧(∀ v h1,mo env h = .ok v h1->∃ n fs,v = .obj n∧h1[n]?=some (.ins c fs))∧wp F W G rV env σ ρ H (zcv tbl mo ml env h) Q)
theorem zgE {ex:Expr}{tbl:List (Nat×MF)}:zfS W X G ex mo ml tbl []:=fun _ _ hc=>nomatch hc
theorem zgD {c:Nat}{cs:List Nat}{tbl:List (Nat×MF)}{pl:Sem Bool} (xw:XM X xm W) (hC:G.cm[c]?=some C) (cl:Cls X.K C) (hm:ze1 X.K C m f) (Fo:zM X.prog X.w X.K X.mg X.base (CX1 X.prog X.w) k f fd ps (spE G xm n mf)) (hr:zO k X.A) (hb:zbZ X.K fd ps []) (ho:JE X o (tE W G mo))
   (rest:zfS W X G (.Call (.Attribute o m apos) [] [] pos) mo zf tbl cs) (hn:∀ kk:Nat,G.an[kk]?≠some m) (ht:tbl.lookup c=some mf:=by rfl) (ar:Ar n mf:=by exact zho)
   (hev:eval (.Call (.Attribute o m apos) [] [] pos) X.env=(do
     let ov <- eval o X.env
     standAt apos.atName
     let (f,first) <- holding [ov] (getMethod ov m pl)
     callWith pos f first (backTo pos (starEach [] X.env)) (backToKw pos (keywordEach [] X.env))):=by rfl):zfS W X G (.Call (.Attribute o m apos) [] [] pos) mo zf tbl (c :: cs):=fun c' mf' hc' ht'=>by
 rcases List.mem_cons.mp hc' with rfl | hc'
 . rw [ht]at ht';cases ht'
   refine zbb (zqi (dvs:=[]) (E:=EW (zcG xm W)) ho.to cl hm Fo hr hb .nil xw.pass hev) fun σ H Q w=>?_
   obtain ⟨F,ρ,env,h,er,hr,hcl,w⟩:=w
   refine ⟨F,ρ,env,h,er,hr,?_⟩
   cases em:mo env h with
   | ex c h1=>unfold zcv zn at w;simp only [em]at w;exact w
   | bad=>unfold zcv zn at w;simp only [em]at w;exact w
   | ok v0 h1 =>
   obtain ⟨i,fs,rfl,ei⟩:=hcl v0 h1 em
   have w':wp F W G rV env σ ρ H (app mf [.obj i] h1) Q:=by
     unfold zcv zn at w
     simp only [em,ei,ht]at w
     exact w
   intro ρ1 H1 v1 ex1 er1 hr1 r1
   obtain ⟨q,C',dx,vs,rfl,eq,hC',hq,rs⟩:=hr1.ins r1 ei
   rw [hC]at hC';cases hC'
   refine ⟨q,dx,vs,rfl,hq,rs.none hn,?_⟩
   show spE G xm n mf (.ref q :: ([]++[])) H1 Q (EW (zcG xm W))
   exact ziS xw.has ar er1 hr1 (RDs.cons r1 RDs.nil) (w'.mono ex1)
 . exact rest c' mf' hc' ht'
theorem zgs {ex:Expr}{tbl:List (Nat×MF)}{c0:Nat}{mf0:MF} (h:zfS W X G ex mo ml tbl (tbl.map (·.1))) (h0:tbl.lookup c0=some mf0:=by rfl):JE X ex (tE W G (zcv tbl mo ml)) :=
 .of (fun pins s σ H Q I ⟨F,ρ,env,hh,er,hr,w⟩=>by
   cases em:mo env hh with
   | ex c h1=>exact h c0 mf0 (zgW h0) h0 pins s σ H Q I ⟨F,ρ,env,hh,er,hr,(fun v h1' e=>by rw [em]at e;cases e),w⟩
   | bad=>unfold zcv zn at w;simp only [em]at w;exact w.elim
   | ok v h1 =>
     have w':=w
     unfold zcv zn at w'
     simp only [em]at w'
     cases v with
     | obj n =>
       dsimp only at w'
       cases qo:h1[n]? with
       | none=>rw [qo]at w';exact w'.elim
       | some o =>
         rw [qo]at w'
         cases o with
         | ins c fs =>
           dsimp only at w'
           cases ht:tbl.lookup c with
           | none=>rw [ht]at w';exact w'.elim
           | some mf=>exact h c mf (zgW ht) ht pins s σ H Q I ⟨F,ρ,env,hh,er,hr,(fun v h1' e=>by rw [em]at e;cases e;exact ⟨n,fs,rfl,qo⟩),w⟩
         | _=>exact w'.elim
     | _=>exact w'.elim)
theorem zc8 {c:Nat}{np cpos rpos:Pos}{C:Addr}{mm:Str}{jj:Nat}{pp:Pos} (xb:XB X xm W) (hc:xm[c]?=some C) (xc:XC X.K x C) (hg:Gl X x) (hcalm:X.calm=true:=by rfl) (hdb:(x == ("__debug__":Str))=false:=by decide) :
   JS X (.Raise (some (.Call (.Name x np) [.Constant (.str mm) jj pp] [] cpos)) none rpos) (tS W G (zcD c)) :=
 .of (zc0 (znh (WX:=zcG xm W) hcalm xb.ex hg xb.ok xc (zja (X:=X)) (fun σ H Q h=>h _) rfl hdb) fun E σ H ⟨F,ρ,env,h,er,hr,w⟩=>⟨c,hc,w ρ H Ext.refl hr⟩)
section
variable {js:List (Option Nat)}{N:List Str}{scope:Scope}{tg iter elt:Expr}{ifs:List Expr}{ms:ME Src}{cond:ME Bool}{me:ME D}
theorem zh9 {t:Tg} (xb:XB X xm W) (S:zcF X scope N js) (hi:JI X tg iter (tI W G ms)) (he:∀ cl s₀ H₀ fp XE,XM ((zbE X scope N cl s₀ H₀ fp).wish XE) xm W ->
     JG ((zbE X scope N cl s₀ H₀ fp).wish XE) tg (tTg G t)∧zdz ((zbE X scope N cl s₀ H₀ fp).wish XE) ifs (tT W G cond)∧JE ((zbE X scope N cl s₀ H₀ fp).wish XE) elt (tE W G me)) (hc:X.calm=true:=by rfl)
   (hs:∀ x,foldedSetIterable iter X.env x=pure x:=by intro _;rfl):JE X (.ListComp elt [⟨tg,iter,ifs,0⟩] scope pos) (tN W G (zd1 js t ms cond me)):=by
 obtain ⟨L,hL⟩:=xb.fr
 exact .of (zbb (zpn (WX:=zcG xm W) hc xb.ok xb.ex xb.st hL S hi.to ⟨fun cl s₀ H₀ fp XE hp=>let z:=he cl s₀ H₀ fp XE ⟨xb.has,hp⟩;⟨z.1.to,z.2.1.to,z.2.2.to⟩⟩ hs) fun σ H Q w=>znY w)
end
theorem RDs.bls {ρ:List Addr}{H:Hp}:∀ bs:List Bool,RDs ρ H (bs.map .bl) (bs.map .bl)
 | []=>RDs.nil
 | b :: bs=>RDs.cons (by unfold RD;rfl) (RDs.bls bs)
theorem zjg {xw n fk:Str}{i kk:Nat}{np np2 kp cp rp hp tpos:Pos}{CW fa:Addr}{fdk:FuncData}{psk:List Str}{cs:List Value}{body:List Stmt}{kinds:Nat->List Bool}{m1:MS} (xb:XB X xm W) (hgx:Gl X xw) (hmx:X.mg xw=some (.ref CW))
   (Fk:FnH X.prog X.w X.K X.mg X.base kk fa fdk psk (spK X.K cs)) (hrm:zO kk X.A) (hgf:Gl X fk) (hmf:X.mg fk=some (.ref fa)) (hkf:PySem.W.keepIn X.K (.ref fa)=true) (hbf:zbZ X.K fdk psk []) (hN:X.N.Nodup) (hi:X.N[i]?=some n)
   (hk:∀ (c:Nat) C,xm[c]?=some C->XF X.K C∧PySem.W.exmOne X.K (.ref C) (.ref CW)=some true∧Paired (fun cv b=>PySem.W.kitOne X.K (.ref C) cv=some b) cs (kinds c))
   (hb:∀ pn XE W',XM ((X.pinned pn).wish XE) xm W'->JSs ((X.pinned pn).wish XE) body (tS W' G m1))
   (hx:X.env.scope.names.lookup n=some .local:=by rfl) (hps:psk.length=1:=by rfl) (hdx:(xw == ("__debug__":Str))=false:=by decide) (hdf:(fk == ("__debug__":Str))=false:=by decide) (hdn:(n == ("__debug__":Str))=false:=by decide) (hcn:(n == ("__classdict__":Str))=false:=by decide)
   (hst:starEach [.Name n np2] X.env=(false,eval (.Name n np2) X.env) :: starEach [] X.env:=by rfl) :
   JS X (.Try body [.ExceptHandler (some (.Name xw np)) (some n) [.Return (some (.Call (.Name fk kp) [.Name n np2] [] cp)) rp] hp] [] [] tpos) (tS W G (zeY xm.length kinds m1)):=by
 obtain ⟨L,hL⟩:=xb.fr
 refine .of (zc0 (znr (tb:=fun D=>tS (fun c H=>∃ C,xm[c]?=some C∧WK X.K cs CW D C H) G m1) xb.ex xb.st hL hgx hmx hdx Fk hrm hgf hmf hkf hbf hps hdf hN hi hx hdn hcn hst fun pn XE D hp=>(hb pn XE _ ⟨fun c H ⟨C,e,_⟩=>⟨C,e⟩,?_⟩).to) fun E σ H ⟨F,ρ,env,h,er,hr,w⟩=>⟨F,ρ,env,h,er,hr,?_⟩)
 . exact fun pins σ H s e s' I c=>hp pins σ H s e s' I (CX1.mono (fun cls d H ⟨C,e,cn,ec,C',ec',q⟩=>⟨C,e,by rw [ec]at ec';cases ec';exact q⟩) c)
 . unfold zeY at w
   cases em:m1 env h with
   | ex c h1 =>
     rw [em]at w
     dsimp only at w
     intro ρ1 H1 ex hr1
     by_cases hcl:c < xm.length
     . rw [if_pos hcl]at w
       refine ⟨xm[c],List.getElem?_eq_getElem hcl,?_⟩
       obtain ⟨k1,k2,k3⟩:=hk c _ (List.getElem?_eq_getElem hcl)
       refine ⟨k1,k2,kinds c,k3,fun H' q e1 e2 e3=>?_⟩
       have hr2:HR F G ρ1 h1 H':=hr1.grow e1
       have fq:zde F ρ1 h1 q:=hr1.fresh e2
       have hr3:=hr2.named fq (o := .lst ((kinds c).map .bl)) ⟨_,e3,RDs.bls _⟩
       have ex2:Ext F ρ1 (ρ1++[q]) H1 H':=⟨⟨[q],rfl⟩,fun b xs z=>e1 _ _ z,fun b hb=>by obtain ⟨⟨v,hv⟩,_⟩:=hr1.pro b hb;rw [hv];exact e1 _ _ hv⟩
       exact w (ρ1++[q]) H' (.ref q) (ex.trans ex2) hr3 (by unfold RD;exact ⟨q,rfl,by rw [<- hr1.len];simp⟩)
     . rw [if_neg hcl]at w;exact w.elim
   | nx e1 h1=>rw [em]at w;exact w
   | rt v h1=>rw [em]at w;exact w
   | bk e1 h1=>rw [em]at w;exact w
   | ct e1 h1=>rw [em]at w;exact w
   | bad=>rw [em]at w;exact w
theorem zfX {sts:List Stmt}:JSs X sts (tS W G zeI) := .of fun pins s σ H E I ⟨F,ρ,env,h,er,hr,w⟩=>w.elim
end
section
variable {X:Cx}{W:Nat->Hp->Prop}{G:GP}{a b c:Expr}{ma mb mc:ME D}{pos p:Pos}{tg:Expr}
theorem zp3 (ha:JE X a (tE W G ma)) (hb:JE X b (tE W G mb)):JE X (.BinOp a .Pow b pos) (tE W G (bin zfQ ma mb)):=zeJ znR (fun F ρ h H env σ x y v u Q er hr rx ry w=>by
 cases x with
 | int i =>
   cases y with
   | int j =>
     unfold RD at rx ry
     subst rx;subst ry
     unfold zfQ at w
     dsimp only at w
     by_cases hc:0<=j∧j<=1000000∧i.natAbs < 18446744073709551616
     . rw [if_pos hc]at w
       exact ⟨i,j,rfl,rfl,hc,wp.done (h:=h) w er hr (by unfold RD;rfl)⟩
     . rw [if_neg hc]at w;exact w.elim
   | _=>exact w.elim
 | _=>exact w.elim) ha hb
theorem zn6 (hg:Gl X "range") (hm:X.mg "range" = none) (ha:JE X a (tE W G ma)) (hb:JE X b (tE W G mb)) (hc:JE X c (tE W G mc)) (hs1:∀ {es:List Expr},starEach (a :: es) X.env=(false,eval a X.env) :: starEach es X.env) (hs2:∀ {es:List Expr},starEach (b :: es) X.env=(false,eval b X.env) :: starEach es X.env) (hs3:∀ {es:List Expr},starEach (c :: es) X.env=(false,eval c X.env) :: starEach es X.env) :
   JI X tg (.Call (.Name "range" p) [a,b,c] [] pos) (tI W G (zfC ma mb mc)) :=
 .of (zgt (zpK hg hm (zbq ha.to (zbq hb.to (zbq hc.to zb1 hs3) hs2) hs1) hs1 (by rw [hs2,hs3];rfl)) fun σ H Q ⟨F,ρ,env,h,er,hr,w⟩=>⟨F,ρ,env,h,er,hr,zJ w fun x h1 ρ1 H1 y e1 er1 hr1 r1 w1=>⟨F,ρ1,env,h1,er1,hr1,zJ w1 fun x2 h2 ρ2 H2 y2 e2 er2 hr2 r2 w2=>⟨F,ρ2,env,h2,er2,hr2,zJ w2 fun x3 h3 ρ3 H3 y3 e3 er3 hr3 r3 w3=>by
   have r1:RD ρ3 H3 x y:=RD.ext e3 _ _ (RD.ext e2 _ _ r1)
   have r2:RD ρ3 H3 x2 y2:=RD.ext e3 _ _ r2
   have r3:RD ρ3 H3 x3 y3:=r3
   cases x with
   | int i =>
     cases x2 with
     | int j =>
       cases x3 with
       | int k =>
         unfold RD at r1 r2 r3
         subst r1;subst r2;subst r3
         dsimp only at w3
         by_cases hc:(-1000000<=i∧i<=1000000)∧(-1000000<=j∧j<=1000000)∧0 < k∧k<=1000000
         . rw [if_pos hc]at w3
           refine ⟨i,j,k,rfl,⟨hc.1.1,hc.1.2,hc.2.1.1,hc.2.1.2,hc.2.2.1,hc.2.2.2⟩,w3 ρ3 H3 (zgG i k (rz3 i j k)) Ext.refl er3 hr3 ?_⟩
           intro F' ρ' h' H' n _ hr' _
           refine ⟨fun d hd=>?_,fun hj=>by rw [List.length_map,List.length_range]at hj;exact hj⟩
           have hj:n < rz i j k:=by
             have:=(List.getElem?_eq_some_iff.mp hd).1
             simpa using this
           refine ⟨hj,fun x H2 ⟨y1,y2⟩=>?_⟩
           subst y1 y2
           rw [List.getElem?_map,List.getElem?_range hj]at hd
           cases hd
           exact ⟨Ext.refl,hr',by unfold RD;rfl⟩
         . rw [if_neg hc]at w3;exact w3.elim
       | _=>exact w3.elim
     | _=>exact w3.elim
   | _=>exact w3.elim⟩⟩⟩)
end
theorem zm0 {G:GP}{xm:List Addr}{mf:MF} (hl:∀ ns:List Int,ns.length<=63->∃ h',mf [.obj 0] [.scr (ns.map .int)] = .ok (.bl true) h') (vs:List V) (H:Hp) (Q:VK) (E:XK) (h:zdN G.K vs H Q E):spE G xm 1 mf vs H Q E:=by
 obtain ⟨F,ρ,ds,hh,r1,r2,r3,w⟩:=zmU hl vs H Q E h
 refine ⟨F,ρ,ds,hh,r1,r2,r3,?_⟩
 cases e:mf ds hh with
 | ok v h1=>rw [e]at w;exact w
 | ex c h1=>rw [e]at w;exact fun ρ1 H1 ex hr=>(w ρ1 H1 ex hr).elim
 | bad=>rw [e]at w;exact w
end MI
end
section
open PySem L2 MI
namespace My
noncomputable def top (i:Nat):Stmt:=PySem.Challenge.pw_closering_k09_refused.main.body.getD i (.Pass ⟨0,0,0,0⟩)
noncomputable abbrev zfm:Stmt:=top 10
theorem zjH:zX ["value"] ["value"] (zG zfm):=⟨rfl,rfl,rfl,ϰ,rfl,ϰ,ϰ⟩
noncomputable abbrev zfn:Stmt:=top 11
theorem zjI:zX ["value", "least", "most"] ["value", "least", "most"] (zG zfn):=⟨rfl,rfl,rfl,ϰ,rfl,ϰ,ϰ⟩
noncomputable abbrev zfo:Stmt:=top 12
theorem zjJ:zX ["points", "value"] ["points", "value"] (zG zfo):=⟨rfl,rfl,rfl,ϰ,rfl,ϰ,ϰ⟩
noncomputable abbrev zfp:Stmt:=top 13
theorem zjK:zX ["points", "value"] ["points", "value"] (zG zfp):=⟨rfl,rfl,rfl,ϰ,rfl,ϰ,ϰ⟩
noncomputable abbrev zd9:Stmt:=top 14
theorem zjL:zX ["points", "value"] ["points", "value"] (zG zd9):=⟨rfl,rfl,rfl,ϰ,rfl,ϰ,ϰ⟩
noncomputable abbrev zfr:Stmt:=zig (top 15) 0
theorem zjM:zX ["self", "points", "ties", "turn"] ["self", "points", "ties", "turn"] (zG zfr):=⟨rfl,rfl,rfl,ϰ,rfl,ϰ,ϰ⟩
noncomputable abbrev zc7:Stmt:=zig (top 15) 1
theorem zjN:zX ["self"] ["self"] (zG zc7):=⟨rfl,rfl,rfl,ϰ,rfl,ϰ,ϰ⟩
noncomputable abbrev zfq:Stmt:=top 16
theorem zjO:zX ["tie"] ["tie"] (zG zfq):=⟨rfl,rfl,rfl,ϰ,rfl,ϰ,ϰ⟩
noncomputable abbrev zf3:Stmt:=top 17
theorem zjP:zX ["one", "other"] ["one", "other"] (zG zf3):=⟨rfl,rfl,rfl,ϰ,rfl,ϰ,ϰ⟩
noncomputable abbrev zcU:Stmt:=top 21
theorem zjQ:zX ["ties", "value"] ["ties", "value"] (zG zcU):=⟨rfl,rfl,rfl,ϰ,rfl,ϰ,ϰ⟩
noncomputable abbrev zeO:Stmt:=top 22
theorem zjR:zX ["ties", "value"] ["ties", "value"] (zG zeO):=⟨rfl,rfl,rfl,ϰ,rfl,ϰ,ϰ⟩
noncomputable abbrev zeP:Stmt:=top 23
theorem zhq:zX ["ties", "step", "tie"] ["ties", "step"] (zG zeP):=⟨rfl,rfl,rfl,ϰ,rfl,ϰ,ϰ⟩
noncomputable abbrev zeQ:Stmt:=top 24
theorem zea:zX ["web", "start", "steps", "ties", "gone", "here", "step"] ["web", "start", "steps"] (zG zeQ):=⟨rfl,rfl,rfl,ϰ,rfl,ϰ,ϰ⟩
noncomputable abbrev zf4:Stmt:=top 37
theorem zjS:zX ["web", "value"] ["web", "value"] (zG zf4):=⟨rfl,rfl,rfl,ϰ,rfl,ϰ,ϰ⟩
noncomputable abbrev zf5:Stmt:=top 38
theorem zjT:zX ["web", "one", "other", "arrived"] ["web", "one", "other"] (zG zf5):=⟨rfl,rfl,rfl,ϰ,rfl,ϰ,ϰ⟩
noncomputable abbrev zf6:Stmt:=top 39
theorem zhr:zX ["web", "tie", "ties", "others", "arrived"] ["web", "tie"] (zG zf6):=⟨rfl,rfl,rfl,ϰ,rfl,ϰ,ϰ⟩
noncomputable abbrev zf7:Stmt:=top 40
theorem zhs:zX ["web", "start", "steps", "gone", "end"] ["web", "start", "steps"] (zG zf7):=⟨rfl,rfl,rfl,ϰ,rfl,ϰ,ϰ⟩
noncomputable abbrev zf8:Stmt:=top 42
theorem zjU:zX ["_law_script", "_law_k"] ["_law_script", "_law_k"] (zG zf8):=⟨rfl,rfl,rfl,ϰ,rfl,ϰ,ϰ⟩
noncomputable abbrev zf9:Stmt:=top 43
theorem zht:zX ["_law_cell", "_law_k", "_law_many", "_law_primes"] ["_law_cell", "_law_k", "_law_many"] (zG zf9):=⟨rfl,rfl,rfl,ϰ,rfl,ϰ,ϰ⟩
noncomputable abbrev zga:Stmt:=top 44
theorem zbL:zX ["_law_script", "_law_few", "_law_points", "_law_turn", "_law_most", "_law_wrong", "_law_halves", "_law_ties", "_law_k", "_law_one", "_law_other", "_law_low", "_law_many", "_law_by", "_law_number"] ["_law_script"] (zG zga):=⟨rfl,rfl,rfl,ϰ,rfl,ϰ,ϰ⟩
noncomputable abbrev zgS:Stmt:=top 48
theorem ziz:zX ["_law_error", "_law_found"] ["_law_error"] (zG zgS):=⟨rfl,rfl,rfl,ϰ,rfl,ϰ,ϰ⟩
noncomputable abbrev zgb:Stmt:=top 49
theorem zjV:zX ["_law_which", "_law_thing"] ["_law_which", "_law_thing"] (zG zgb):=⟨rfl,rfl,rfl,ϰ,rfl,ϰ,ϰ⟩
noncomputable abbrev zgc:Stmt:=top 50
theorem zjW:zX ["_law_web_here", "_law_door", "_law_thing"] ["_law_web_here", "_law_door", "_law_thing"] (zG zgc):=⟨rfl,rfl,rfl,ϰ,rfl,ϰ,ϰ⟩
noncomputable abbrev zgd:Stmt:=top 51
theorem zhu:zX ["_law_door", "_law_web_here", "_law_thing", "_law_error"] ["_law_door", "_law_web_here", "_law_thing"] (zG zgd):=⟨rfl,rfl,rfl,ϰ,rfl,ϰ,ϰ⟩
noncomputable abbrev zfs:Stmt:=top 52
theorem zhv:zX ["_law_doors", "_law_web_here", "_law_things", "_law_due", "_law_door"] ["_law_doors", "_law_web_here", "_law_things", "_law_due"] (zG zfs):=⟨rfl,rfl,rfl,ϰ,rfl,ϰ,ϰ⟩
noncomputable abbrev zge:Stmt:=top 53
theorem zeR:zX ["_law_due", "_law_far", "_law_bad", "_law_numbers_here"] ["_law_due", "_law_far"] (zG zge):=⟨rfl,rfl,rfl,ϰ,rfl,ϰ,ϰ⟩
noncomputable abbrev zgf:Stmt:=top 54
theorem zeS:zX ["_law_web_here", "_law_points", "_law_many", "_law_due", "_law_far", "_law_numbers_here", "_law_steps"] ["_law_web_here", "_law_points", "_law_many", "_law_due", "_law_far"] (zG zgf):=⟨rfl,rfl,rfl,ϰ,rfl,ϰ,ϰ⟩
noncomputable abbrev zgg:Stmt:=top 55
theorem zhw:zX ["_law_points", "_law_ties", "_law_turn", "_law_error"] ["_law_points", "_law_ties", "_law_turn"] (zG zgg):=⟨rfl,rfl,rfl,ϰ,rfl,ϰ,ϰ⟩
noncomputable abbrev zgh:Stmt:=top 56
theorem zcA:zX ["_law_script", "_law_far", "_law_due", "_law_k", "_law_points", "_law_ties", "_law_turn", "_law_web_here", "_law_many", "_law_at", "_law_bad", "_law_others"] ["_law_script"] (zG zgh):=⟨rfl,rfl,rfl,ϰ,rfl,ϰ,ϰ⟩
noncomputable def anL:List Str:=["points", "turn", "triples"]
theorem zmz:anL.Nodup:=ϰ
theorem zhb:anL.contains "ties" = false:=ϰ
set_option genInjectivity false in
set_option genSizeOfSpec false in
structure TX (K:PySem.W.Frag) (mg:Str->Option Value) where
 zdm:DF K "is_number" "is_number" zfm ["value"]
 zcP:mg "is_number" = some (.ref zdm.a)
 zb5:DF K "is_within" "is_within" zfn ["value", "least", "most"]
 zbX:mg "is_within" = some (.ref zb5.a)
 zcp:DF K "is_point" "is_point" zfo ["points", "value"]
 zb4:mg "is_point" = some (.ref zcp.a)
 zeb:DF K "is_tie" "is_tie" zfp ["points", "value"]
 zdl:mg "is_tie" = some (.ref zeb.a)
 zec:DF K "own_tie" "own_tie" zd9 ["points", "value"]
 zcw:mg "own_tie" = some (.ref zec.a)
 zb6:DF K "__init__" "Web.__init__" zfr ["self", "points", "ties", "turn"]
 zdI:DF K "ties" "Web.ties" zc7 ["self"]
 zed:DF K "turned" "turned" zfq ["tie"]
 zd5:mg "turned" = some (.ref zed.a)
 zee:DF K "together" "together" zf3 ["one", "other"]
 zdF:mg "together" = some (.ref zee.a)
 zdn:DF K "is_place" "is_place" zcU ["ties", "value"]
 zcQ:mg "is_place" = some (.ref zdn.a)
 zef:DF K "is_step" "is_step" zeO ["ties", "value"]
 zc6:mg "is_step" = some (.ref zef.a)
 zeg:DF K "leg" "leg" zeP ["ties", "step"]
 zdG:mg "leg" = some (.ref zeg.a)
 zeh:DF K "legs" "legs" zeQ ["web", "start", "steps"]
 zcR:mg "legs" = some (.ref zeh.a)
 zcV:DF K "refuse_no_point" "refuse_no_point" zf4 ["web", "value"]
 zco:mg "refuse_no_point" = some (.ref zcV.a)
 zdo:DF K "between" "between" zf5 ["web", "one", "other"]
 zcS:mg "between" = some (.ref zdo.a)
 zei:DF K "spare" "spare" zf6 ["web", "tie"]
 zdH:mg "spare" = some (.ref zei.a)
 zdp:DF K "climb" "climb" zf7 ["web", "start", "steps"]
 zcx:mg "climb" = some (.ref zdp.a)
 zbM:DF K "_law_cell_at" "_law_cell_at" zf8 ["_law_script", "_law_k"]
 zbI:mg "_law_cell_at" = some (.ref zbM.a)
 z9:DF K "_law_draw" "_law_draw" zf9 ["_law_cell", "_law_k", "_law_many"]
 zF:mg "_law_draw" = some (.ref z9.a)
 zej:DF K "_law_web" "_law_web" zga ["_law_script"]
 zd6:mg "_law_web" = some (.ref zej.a)
 f__law_kinds:DF K "_law_kinds" "_law_kinds" zgS ["_law_error"]
 m__law_kinds:mg "_law_kinds" = some (.ref f__law_kinds.a)
 zek:DF K "_law_make" "_law_make" zgb ["_law_which", "_law_thing"]
 zcy:mg "_law_make" = some (.ref zek.a)
 zel:DF K "_law_with_point" "_law_with_point" zgc ["_law_web_here", "_law_door", "_law_thing"]
 zcz:mg "_law_with_point" = some (.ref zel.a)
 zem:DF K "_law_told" "_law_told" zgd ["_law_door", "_law_web_here", "_law_thing"]
 zbz:mg "_law_told" = some (.ref zem.a)
 zbB:DF K "_law_all" "_law_all" zfs ["_law_doors", "_law_web_here", "_law_things", "_law_due"]
 zbA:mg "_law_all" = some (.ref zbB.a)
 zen:DF K "_law_makes_right" "_law_makes_right" zge ["_law_due", "_law_far"]
 zd7:mg "_law_makes_right" = some (.ref zen.a)
 zeo:DF K "_law_doors_right" "_law_doors_right" zgf ["_law_web_here", "_law_points", "_law_many", "_law_due", "_law_far"]
 zd8:mg "_law_doors_right" = some (.ref zeo.a)
 zep:DF K "_law_spoilt" "_law_spoilt" zgg ["_law_points", "_law_ties", "_law_turn"]
 zcT:mg "_law_spoilt" = some (.ref zep.a)
 zeq:DF K "law" "law" zgh ["_law_script"]
 zfl:mg "law" = some (.ref zeq.a)
 zbj:CF K mg "Web"
 zcW:Mk K zbj.c zb6.a
 zgi:ze1 K zbj.c "ties" zdI.a
 zgj:zcg K zbj.c "points"
 zgk:zcg K zbj.c "turn"
 zgl:zcg K zbj.c "triples"
 n_ValueError:mg "ValueError" = none
 n_isinstance:mg "isinstance" = none
 n_int:mg "int" = none
 n_bool:mg "bool" = none
 n_tuple:mg "tuple" = none
 n_len:mg "len" = none
 n_list:mg "list" = none
 n_sorted:mg "sorted" = none
 n_sum:mg "sum" = none
 n_range:mg "range" = none
 n_abs:mg "abs" = none
 n_all:mg "all" = none
 v_MOST:VF mg "MOST" (.int (1000000))
 v_FORTH:VF mg "FORTH" (.int (1))
 v_BACK:VF mg "BACK" (.int (-1))
 is:zeF K zdK [zbj.c] 0 [zbj.c]
 {X_WebError X_BadWeb X_BadPoint X_BadTie X_Unlike X_BadText:Addr}
 m_WebError:mg "WebError" = some (.ref X_WebError)
 m_BadWeb:mg "BadWeb" = some (.ref X_BadWeb)
 xb_BadWeb:XBd K "BadWeb" X_BadWeb X_WebError [.ref X_BadWeb,.ref X_BadPoint,.ref X_BadTie,.ref X_Unlike,.ref X_BadText,.type "ValueError"] [true,false,false,false,false,true]
 m_BadPoint:mg "BadPoint" = some (.ref X_BadPoint)
 xb_BadPoint:XBd K "BadPoint" X_BadPoint X_WebError [.ref X_BadWeb,.ref X_BadPoint,.ref X_BadTie,.ref X_Unlike,.ref X_BadText,.type "ValueError"] [false,true,false,false,false,true]
 m_BadTie:mg "BadTie" = some (.ref X_BadTie)
 xb_BadTie:XBd K "BadTie" X_BadTie X_WebError [.ref X_BadWeb,.ref X_BadPoint,.ref X_BadTie,.ref X_Unlike,.ref X_BadText,.type "ValueError"] [false,false,true,false,false,true]
 m_Unlike:mg "Unlike" = some (.ref X_Unlike)
 xb_Unlike:XBd K "Unlike" X_Unlike X_WebError [.ref X_BadWeb,.ref X_BadPoint,.ref X_BadTie,.ref X_Unlike,.ref X_BadText,.type "ValueError"] [false,false,false,true,false,true]
 m_BadText:mg "BadText" = some (.ref X_BadText)
 xb_BadText:XBd K "BadText" X_BadText X_WebError [.ref X_BadWeb,.ref X_BadPoint,.ref X_BadTie,.ref X_Unlike,.ref X_BadText,.type "ValueError"] [false,false,false,false,true,true]
section
variable {K:PySem.W.Frag}{mg:Str->Option Value}{P:Program}{w:World}{base:Heap}
noncomputable def TX.G (T:TX K mg):GP:=⟨K,[T.zbj.c],anL⟩
noncomputable def TX.xm (T:TX K mg):List Addr:=[T.X_BadWeb,T.X_BadPoint,T.X_BadTie,T.X_Unlike,T.X_BadText]
theorem TX.zb0 (T:TX K mg):T.G.cm[0]?=some T.zbj.c:=rfl
theorem TX.an_points (T:TX K mg):T.G.an[0]?=some ("points":Str):=rfl
theorem TX.an_turn (T:TX K mg):T.G.an[1]?=some ("turn":Str):=rfl
theorem TX.an_triples (T:TX K mg):T.G.an[2]?=some ("triples":Str):=rfl
theorem TX.xi_BadWeb (T:TX K mg):T.xm[0]?=some T.X_BadWeb:=rfl
theorem TX.x_BadWeb (T:TX K mg):XC K "BadWeb" T.X_BadWeb:=T.xb_BadWeb.xc
theorem TX.xi_BadPoint (T:TX K mg):T.xm[1]?=some T.X_BadPoint:=rfl
theorem TX.x_BadPoint (T:TX K mg):XC K "BadPoint" T.X_BadPoint:=T.xb_BadPoint.xc
theorem TX.xi_BadTie (T:TX K mg):T.xm[2]?=some T.X_BadTie:=rfl
theorem TX.x_BadTie (T:TX K mg):XC K "BadTie" T.X_BadTie:=T.xb_BadTie.xc
theorem TX.xi_Unlike (T:TX K mg):T.xm[3]?=some T.X_Unlike:=rfl
theorem TX.x_Unlike (T:TX K mg):XC K "Unlike" T.X_Unlike:=T.xb_Unlike.xc
theorem TX.xi_BadText (T:TX K mg):T.xm[4]?=some T.X_BadText:=rfl
theorem TX.x_BadText (T:TX K mg):XC K "BadText" T.X_BadText:=T.xb_BadText.xc
theorem TX.ok (T:TX K mg):T.G.Ok zdK zez where
 cls:=fun c C h=>match c,h with
   | 0,h=>by cases h;exact ⟨T.zbj.cl,T.zbj.ic⟩
   | _+1,h=>by cases h
 noat:=fun c C k f h1 h2 h3=>by
   have h2:=List.contains_iff_mem.mp h2
   simp only [List.mem_cons,Prod.mk.injEq,List.not_mem_nil,or_false]at h2
   rcases h2 with ⟨rfl,rfl⟩ | ⟨rfl,rfl⟩ | ⟨rfl,rfl⟩
   . cases h1;cases h3;exact T.zgj
   . cases h1;cases h3;exact T.zgk
   . cases h1;cases h3;exact T.zgl
 nd:=zmz
 isa:=fun c c' C C' h1 h2=>by have:=T.is.get h1 h2;rwa [Nat.zero_add]at this
theorem TX.kinds (T:TX K mg):∀ (c:Nat) C,T.xm[c]?=some C->XF K C∧PySem.W.exmOne K (.ref C) (.ref T.X_WebError)=some true∧Paired (fun cv b=>PySem.W.kitOne K (.ref C) cv=some b) [.ref T.X_BadWeb,.ref T.X_BadPoint,.ref T.X_BadTie,.ref T.X_Unlike,.ref T.X_BadText,.type "ValueError"] (zfV c)
 | 0,C,h=>by cases h;exact T.xb_BadWeb.all
 | 1,C,h=>by cases h;exact T.xb_BadPoint.all
 | 2,C,h=>by cases h;exact T.xb_BadTie.all
 | 3,C,h=>by cases h;exact T.xb_Unlike.all
 | 4,C,h=>by cases h;exact T.xb_BadText.all
 | _+5,C,h=>by cases h
theorem TX.ok_kinds (T:TX K mg):FnH P w K mg base 1 T.f__law_kinds.a T.f__law_kinds.d ["_law_error"] (spK K [.ref T.X_BadWeb,.ref T.X_BadPoint,.ref T.X_BadTie,.ref T.X_Unlike,.ref T.X_BadText,.type "ValueError"]) :=
 T.f__law_kinds.F.okH (k:=0) ziz fun cdv A outer s H vs Q hr h=>⟨_,zi5 (ziC (i:=1) ziz.nd rfl (.inl rfl) (zhi (zbq (zeL (i:=0) ϱ T.n_isinstance rfl (.inl rfl) ϑ ϑ (zdQ (v := .ref T.X_BadWeb) ϱ T.m_BadWeb rfl) (fun w h=>h) rfl rfl rfl) (zbq (zeL (i:=0) ϱ T.n_isinstance rfl (.inl rfl) ϑ ϑ (zdQ (v := .ref T.X_BadPoint) ϱ T.m_BadPoint rfl) (fun w h=>h) rfl rfl rfl) (zbq (zeL (i:=0) ϱ T.n_isinstance rfl (.inl rfl) ϑ ϑ (zdQ (v := .ref T.X_BadTie) ϱ T.m_BadTie rfl) (fun w h=>h) rfl rfl rfl) zb1 rfl) rfl) rfl))) (zgX (zgI (zgK zif (zfJ (i:=1) rfl (.inl rfl)) (zhi (zbq (zeL (i:=0) ϱ T.n_isinstance rfl (.inl rfl) ϑ ϑ (zdQ (v := .ref T.X_Unlike) ϱ T.m_Unlike rfl) (fun w h=>h) rfl rfl rfl) (zbq (zeL (i:=0) ϱ T.n_isinstance rfl (.inl rfl) ϑ ϑ (zdQ (v := .ref T.X_BadText) ϱ T.m_BadText rfl) (fun w h=>h) rfl rfl rfl) (zbq (zeL (i:=0) ϱ T.n_isinstance rfl (.inl rfl) ϑ ϑ (zh0 (v := .ty "ValueError") ϱ T.n_ValueError ϰ rfl) (fun w h=>h) rfl rfl rfl) zb1 rfl) rfl) rfl))))),zom h rfl⟩
end
end My
end
section
open PySem L2 MI
namespace My
section
variable {P:Program}{w:World}{K:PySem.W.Frag}{mg:Str->Option Value}{base:Heap}
theorem zhx (T:TX K mg):zM P w K mg base (CX1 P w) 2 T.zdm.a T.zdm.d ["value"] (spE T.G T.xm 1 zcP) :=
 zbh (k:=1) T.zdm.F zjH rfl rfl ϑ fun cdv A outer s H E hr W xb =>
     (zw (zR (zdr (zeN ϱ T.n_isinstance ϱ T.n_int (zd 0) zi) (zeM (zm7 (zeN ϱ T.n_isinstance ϱ T.n_bool (zd 0) zi))))))
theorem zeT (T:TX K mg):zM P w K mg base (CX1 P w) 3 T.zb5.a T.zb5.d ["value", "least", "most"] (spE T.G T.xm 3 zbX) :=
 zbh (k:=2) T.zb5.F zjI rfl rfl ϑ fun cdv A outer s H E hr W xb =>
     (zw (zR (zdr (zD xb.toXM (zhx T) (hr.mono ϑ) ϱ T.zcP T.zdm.F.kp T.zdm.b (zc (zd 0) zh zi)) (zeM (znc (zjo hr) (zjo hr) (zd 1) (zd 0) (zd 2))))))
theorem zft (T:TX K mg):zM P w K mg base (CX1 P w) 4 T.zcp.a T.zcp.d ["points", "value"] (spE T.G T.xm 2 zb4) :=
 zbh (k:=3) T.zcp.F zjJ rfl rfl ϑ fun cdv A outer s H E hr W xb =>
     (zw (zR (zD xb.toXM (zeT T) (hr.mono ϑ) ϱ T.zbX T.zb5.F.kp T.zb5.b (zc (zd 1) (zc ze (zc (zb9 (zd 0) ze) zh zbo) zg) zi))))
theorem zjX (T:TX K mg):zM P w K mg base (CX1 P w) 5 T.zeb.a T.zeb.d ["points", "value"] (spE T.G T.xm 2 zdl) :=
 zbh (k:=4) T.zeb.F zjK rfl rfl ϑ fun cdv A outer s H E hr W xb =>
     (zt (z7 (t_w (zdv (zbp (zbm (zeN ϱ T.n_isinstance ϱ T.n_tuple (zd 1) zi) (fun _=>rfl))) (zdD (zbl (zdX hr) (zd2 ϱ T.n_len (zd 1) zi) ze (zW _))))) (zw (zR zbv)) zbf)
     (zt (z7 (t_w (zdv (zbp (zbm (zD xb.toXM (zft T) (hr.mono ϑ) ϱ T.zb4 T.zcp.F.kp T.zcp.b (zc (zd 0) (zc (zQ hr (zd 1) ze (fun _ _=>rfl)) zh zby) zi)) (fun _=>rfl))) (zdD (zbp (zbm (zD xb.toXM (zft T) (hr.mono ϑ) ϱ T.zb4 T.zcp.F.kp T.zcp.b (zc (zd 0) (zc (zQ hr (zd 1) ze (fun _ _=>rfl)) zh zby) zi)) (fun _=>rfl)))))) (zw (zR zbv)) zbf)
     (zw (zR (zdr (zcs (zdX hr) (zQ hr (zd 1) ze (fun _ _=>rfl)) (zQ hr (zd 1) ze (fun _ _=>rfl)) (zW _)) (zeM (zD xb.toXM (zeT T) (hr.mono ϑ) ϱ T.zbX T.zb5.F.kp T.zb5.b (zc (zQ hr (zd 1) ze (fun _ _=>rfl)) (zc (zb2 (zdU ϱ T.v_MOST.m T.v_MOST.r)) (zc (zdU ϱ T.v_MOST.m T.v_MOST.r) zh zi) zdk) zby))))))))
theorem zjY (T:TX K mg):zM P w K mg base (CX1 P w) 6 T.zec.a T.zec.d ["points", "value"] (spE T.G T.xm 2 zcw) :=
 zbh (k:=5) T.zec.F zjL rfl rfl ϑ fun cdv A outer s H E hr W xb =>
     (zt (z7 (zbp (zbm (zD xb.toXM (zjX T) (hr.mono ϑ) ϱ T.zdl T.zeb.F.kp T.zeb.b (zc (zd 0) (zc (zd 1) zh zi) zi)) (fun _=>rfl))) (zw (zc8 (c:=0) xb T.xi_BadWeb T.x_BadWeb ϱ)) zbf)
     (zw (zR (zP (zc (zQ hr (zd 1) ze (fun _ _=>rfl)) (zc (zQ hr (zd 1) ze (fun _ _=>rfl)) (zc (zQ hr (zd 1) ze (fun _ _=>rfl)) zh zby) zby) zby)))))
theorem zcX (T:TX K mg):zM P w K mg base (CX1 P w) 7 T.zb6.a T.zb6.d ["self", "points", "ties", "turn"] (spE T.G T.xm 4 zbr) :=
 zbh (k:=6) T.zb6.F zjM rfl rfl ϑ fun cdv A outer s H E hr W xb =>
     (zt (z7 (zbp (zbm (zD xb.toXM (zeT T) (hr.mono ϑ) ϱ T.zbX T.zb5.F.kp T.zb5.b (zc (zd 1) (zc ze (zc (zdU ϱ T.v_MOST.m T.v_MOST.r) zh zi) zg) zi)) (fun _=>rfl))) (zw (zc8 (c:=0) xb T.xi_BadWeb T.x_BadWeb ϱ)) zbf)
     (zt (z7 (zbp (zbm (zD xb.toXM (zeT T) (hr.mono ϑ) ϱ T.zbX T.zb5.F.kp T.zb5.b (zc (zd 3) (zc ze (zc (zdU ϱ T.v_MOST.m T.v_MOST.r) zh zi) zg) zi)) (fun _=>rfl))) (zw (zc8 (c:=0) xb T.xi_BadWeb T.x_BadWeb ϱ)) zbf)
     (zt (z7 (zbp (zbm (zeN ϱ T.n_isinstance ϱ T.n_list (zd 2) zi) (fun _=>rfl))) (zw (zc8 (c:=0) xb T.xi_BadWeb T.x_BadWeb ϱ)) zbf)
     (zt (zgM T.ok T.an_points (zd 0) (zd 1) rfl)
     (zt (zgM T.ok T.an_turn (zd 0) (zd 3) rfl)
     (zw (zgM T.ok T.an_triples (zd 0) (zu (zh9 (N:=["tie", "points"]) (js:=[none,some 1]) xb (zcF.of (osc:=zG zfr) (N0:=["self", "points", "ties", "turn"]) rfl rfl ϰ) (zf2 (zd 2)) (fun _ _ _ _ _ xc=>⟨(zdW (i:=0) (show (["tie", "points"]:List Str).Nodup by decide +kernel) rfl (Or.inl rfl)),ziM,(zD xc (zjY T) (hr.mono ϑ) ϱ T.zcw T.zec.F.kp T.zec.b (zc (zd 1) (zc (zd 0) zh zi) zi))⟩))) rfl)))))))
theorem zgm (T:TX K mg):zM P w K mg base (CX1 P w) 2 T.zdI.a T.zdI.d ["self"] (spE T.G T.xm 1 zfk) :=
 zbh (k:=1) T.zdI.F zjN rfl rfl ϑ fun cdv A outer s H E hr W xb =>
     (zw (zR (zu (zoo ϱ T.n_list (zne (zda T.ok T.an_triples (zd 0) rfl)) zgv))))
theorem zjZ (T:TX K mg):zM P w K mg base (CX1 P w) 2 T.zed.a T.zed.d ["tie"] (spE T.G T.xm 1 zd5) :=
 zbh (k:=1) T.zed.F zjO rfl rfl ϑ fun cdv A outer s H E hr W xb =>
     (zw (zR (zP (zc (zQ hr (zd 0) ze (fun _ _=>rfl)) (zc (zQ hr (zd 0) ze (fun _ _=>rfl)) (zc (zb2 (zQ hr (zd 0) ze (fun _ _=>rfl))) zh zdk) zby) zby))))
theorem zj0 (T:TX K mg):zM P w K mg base (CX1 P w) 2 T.zee.a T.zee.d ["one", "other"] (spE T.G T.xm 2 zdF) :=
 zbh (k:=1) T.zee.F zjP rfl rfl ϑ fun cdv A outer s H E hr W xb =>
     (zt (z7 (t_w (zdv (zbp (zbm (zix T.ok T.zb0 ϱ T.n_isinstance ϱ T.zbj.m (zd 0) zi) (fun _=>rfl))) (zdD (zbp (zbm (zix T.ok T.zb0 ϱ T.n_isinstance ϱ T.zbj.m (zd 1) zi) (fun _=>rfl)))))) (zw (zc8 (c:=3) xb T.xi_Unlike T.x_Unlike ϱ)) zbf)
     (zt (z7 (t_w (zdv (zbl (zdX hr) (zda T.ok T.an_points (zd 0) rfl) (zda T.ok T.an_points (zd 1) rfl) (zW _)) (zdD (zbl (zdX hr) (zda T.ok T.an_turn (zd 0) rfl) (zda T.ok T.an_turn (zd 1) rfl) (zW _))))) (zw (zc8 (c:=3) xb T.xi_Unlike T.x_Unlike ϱ)) zbf)
     zfX))
theorem zhy (T:TX K mg):zM P w K mg base (CX1 P w) 4 T.zdn.a T.zdn.d ["ties", "value"] (spE T.G T.xm 2 zcQ) :=
 zbh (k:=3) T.zdn.F zjQ rfl rfl ϑ fun cdv A outer s H E hr W xb =>
     (zw (zR (zD xb.toXM (zeT T) (hr.mono ϑ) ϱ T.zbX T.zb5.F.kp T.zb5.b (zc (zd 1) (zc ze (zc (zb9 (zd2 ϱ T.n_len (zd 0) zi) ze) zh zbo) zg) zi))))
theorem zj1 (T:TX K mg):zM P w K mg base (CX1 P w) 5 T.zef.a T.zef.d ["ties", "value"] (spE T.G T.xm 2 zc6) :=
 zbh (k:=4) T.zef.F zjR rfl rfl ϑ fun cdv A outer s H E hr W xb =>
     (zt (z7 (t_w (zdv (zbp (zbm (zeN ϱ T.n_isinstance ϱ T.n_tuple (zd 1) zi) (fun _=>rfl))) (zdD (zbl (zdX hr) (zd2 ϱ T.n_len (zd 1) zi) ze (zW _))))) (zw (zR zbv)) zbf)
     (zw (zR (zdr (zD xb.toXM (zhy T) (hr.mono ϑ) ϱ T.zcQ T.zdn.F.kp T.zdn.b (zc (zd 0) (zc (zQ hr (zd 1) ze (fun _ _=>rfl)) zh zby) zi)) (zdr (zD xb.toXM (zhx T) (hr.mono ϑ) ϱ T.zcP T.zdm.F.kp T.zdm.b (zc (zQ hr (zd 1) ze (fun _ _=>rfl)) zh zby)) (zeM (zcs (zn7 hr) (zQ hr (zd 1) ze (fun _ _=>rfl)) (zP (zc (zdU ϱ T.v_FORTH.m T.v_FORTH.r) (zc (zdU ϱ T.v_BACK.m T.v_BACK.r) zh zi) zi)) (by with_unfolding_all rfl))))))))
theorem zj2 (T:TX K mg):zM P w K mg base (CX1 P w) 3 T.zeg.a T.zeg.d ["ties", "step"] (spE T.G T.xm 2 zdG) :=
 zbh (k:=2) T.zeg.F zhq rfl rfl ϑ fun cdv A outer s H E hr W xb =>
     (zt (zV (i:=2) zhq.nd rfl (Or.inl rfl) (zQ hr (zd 0) (zQ hr (zd 1) ze (fun _ _=>rfl)) (fun _ _=>rfl)))
     (zw (zR (zdV (zbl (zbQ hr) (zQ hr (zd 1) ze (fun _ _=>rfl)) (zdU ϱ T.v_FORTH.m T.v_FORTH.r) (zW _)) (zd 2) (zD xb.toXM (zjZ T) (hr.mono ϑ) ϱ T.zd5 T.zed.F.kp T.zed.b (zc (zd 2) zh zi))))))
theorem zj3 (T:TX K mg):zM P w K mg base (CX1 P w) 6 T.zeh.a T.zeh.d ["web", "start", "steps"] (spE T.G T.xm 3 zcR) :=
 zbh (k:=5) T.zeh.F zea rfl rfl ϑ fun cdv A outer s H E hr W xb =>
     (zt (z7 (t_w (zdv (zbp (zbm (zD xb.toXM (zft T) (hr.mono ϑ) ϱ T.zb4 T.zcp.F.kp T.zcp.b (zc (zda T.ok T.an_points (zd 0) rfl) (zc (zd 1) zh zi) zgv)) (fun _=>rfl))) (zdD (zbp (zbm (zeN ϱ T.n_isinstance ϱ T.n_list (zd 2) zi) (fun _=>rfl)))))) (zw (zR zbW)) zbf)
     (zt (zV (i:=3) zea.nd rfl (Or.inl rfl) (zgs (c0:=0) (zgD xb.toXM T.zb0 T.zbj.cl T.zgi (zgm T) (hr.mono ϑ) T.zdI.b (zd 0) zgE (zgz zhb))))
     (zt (zV (i:=4) zea.nd rfl (Or.inl rfl) (zu (zv zh)))
     (zt (zV (i:=5) zea.nd rfl (Or.inl rfl) (zd 1))
     (zt (zfi xb.ok.own (zf2 (zd 2)) (zdW (i:=6) zea.nd rfl (Or.inl rfl))
     (zt (z7 (zbp (zbm (zD xb.toXM (zj1 T) (hr.mono ϑ) ϱ T.zc6 T.zef.F.kp T.zef.b (zc (zd 3) (zc (zd 6) zh zi) zi)) (fun _=>rfl))) (zw (zR zbW)) zbf)
     (zt (zcB (zgF (zd 4) (zD xb.toXM (zj2 T) (hr.mono ϑ) ϱ T.zdG T.zeg.F.kp T.zeg.b (zc (zd 3) (zc (zd 6) zh zi) zi)) zcl))
     (zt (z7 (zbl (zdX hr) (zQ hr (zQ hr (zd 4) (zb2 ze) (fun _ _=>rfl)) ze (fun _ _=>rfl)) (zd 5) (zW _)) (zw (zR zbW)) zbf)
     (zw (zV (i:=5) zea.nd rfl (Or.inl rfl) (zQ hr (zQ hr (zd 4) (zb2 ze) (fun _ _=>rfl)) ze (fun _ _=>rfl))))))))
     (zw (zR (zd 4))))))))
theorem zgn (T:TX K mg):zM P w K mg base (CX1 P w) 5 T.zcV.a T.zcV.d ["web", "value"] (spE T.G T.xm 2 zco) :=
 zbh (k:=4) T.zcV.F zjS rfl rfl ϑ fun cdv A outer s H E hr W xb =>
     (zw (z7 (zbp (zbm (zD xb.toXM (zft T) (hr.mono ϑ) ϱ T.zb4 T.zcp.F.kp T.zcp.b (zc (zda T.ok T.an_points (zd 0) rfl) (zc (zd 1) zh zi) zgv)) (fun _=>rfl))) (zw (zc8 (c:=1) xb T.xi_BadPoint T.x_BadPoint ϱ)) zbf))
theorem zhz (T:TX K mg):zM P w K mg base (CX1 P w) 6 T.zdo.a T.zdo.d ["web", "one", "other"] (spE T.G T.xm 3 zcS) :=
 zbh (k:=5) T.zdo.F zjT rfl rfl ϑ fun cdv A outer s H E hr W xb =>
     (zt (zcB (zD xb.toXM (zgn T) (hr.mono ϑ) ϱ T.zco T.zcV.F.kp T.zcV.b (zc (zd 0) (zc (zd 1) zh zi) zi)))
     (zt (zcB (zD xb.toXM (zgn T) (hr.mono ϑ) ϱ T.zco T.zcV.F.kp T.zcV.b (zc (zd 0) (zc (zd 2) zh zi) zi)))
     zfX))
theorem zj4 (T:TX K mg):zM P w K mg base (CX1 P w) 5 T.zei.a T.zei.d ["web", "tie"] (spE T.G T.xm 2 zdH) :=
 zbh (k:=4) T.zei.F zhr rfl rfl ϑ fun cdv A outer s H E hr W xb =>
     (zt (zV (i:=2) zhr.nd rfl (Or.inl rfl) (zgs (c0:=0) (zgD xb.toXM T.zb0 T.zbj.cl T.zgi (zgm T) (hr.mono ϑ) T.zdI.b (zd 0) zgE (zgz zhb))))
     (zt (z7 (zbp (zbm (zD xb.toXM (zhy T) (hr.mono ϑ) ϱ T.zcQ T.zdn.F.kp T.zdn.b (zc (zd 2) (zc (zd 1) zh zi) zi)) (fun _=>rfl))) (zw (zc8 (c:=2) xb T.xi_BadTie T.x_BadTie ϱ)) zbf)
     zfX))
theorem zhA (T:TX K mg):zM P w K mg base (CX1 P w) 7 T.zdp.a T.zdp.d ["web", "start", "steps"] (spE T.G T.xm 3 zcx) :=
 zbh (k:=6) T.zdp.F zhs rfl rfl ϑ fun cdv A outer s H E hr W xb =>
     (zt (zcB (zD xb.toXM (zgn T) (hr.mono ϑ) ϱ T.zco T.zcV.F.kp T.zcV.b (zc (zd 0) (zc (zd 1) zh zi) zi)))
     (zt (zV (i:=3) zhs.nd rfl (Or.inl rfl) (zD xb.toXM (zj3 T) (hr.mono ϑ) ϱ T.zcR T.zeh.F.kp T.zeh.b (zc (zd 0) (zc (zd 1) (zc (zd 2) zh zi) zi) zi)))
     (zt (z7 (zbl (zmh hr) (zd 3) zbW (zW _)) (zw (zc8 (c:=2) xb T.xi_BadTie T.x_BadTie ϱ)) zbf)
     zfX)))
theorem zdJ (T:TX K mg):zM P w K mg base (CX1 P w) 2 T.zbM.a T.zbM.d ["_law_script", "_law_k"] (spE T.G T.xm 2 zbI) :=
 zbh (k:=1) T.zbM.F zjU rfl rfl ϑ fun cdv A outer s H E hr W xb =>
     (zt (z7 (zbl (zdR hr) (zd 1) (zd2 ϱ T.n_len (zd 0) zi) (zW _)) (zw (zR (zQ hr (zd 0) (zd 1) (fun _ _=>rfl)))) zbf)
     (zw (zR ze)))
theorem zcd (T:TX K mg):zM P w K mg base (CX1 P w) 2 T.z9.a T.z9.d ["_law_cell", "_law_k", "_law_many"] (spE T.G T.xm 3 zF) :=
 zbh (k:=1) T.z9.F zht rfl rfl ϑ fun cdv A outer s H E hr W xb =>
     (zt (zV (i:=3) zht.nd rfl (Or.inl rfl) (zP (zc ze (zc ze (zc ze (zc ze (zc ze (zc ze (zc ze (zc ze (zc ze (zc ze (zc ze (zc ze (zc ze (zc ze (zc ze (zc ze zh zg) zg) zg) zg) zg) zg) zg) zg) zg) zg) zg) zg) zg) zg) zg) zg)))
     (zw (zR (zcO (zcO (zbt (ze4 (zd 0) ze) (ze4 (zd 1) ze)) (zQ hr (zd 3) (zcO (zd 1) ze) (fun _ _=>rfl))) (zd 2)))))
theorem zj5 (T:TX K mg):zM P w K mg base (CX1 P w) 3 T.zej.a T.zej.d ["_law_script"] (spE T.G T.xm 1 zd6) :=
 zbh (k:=2) T.zej.F zbL rfl rfl ϑ fun cdv A outer s H E hr W xb =>
     (zt (zV (i:=1) zbL.nd rfl (Or.inl rfl) (zeZ (ze4 (zd2 ϱ T.n_len (zd 0) zi) (zQ hr (zP (zc ze (zc ze (zc ze zh zg) zg) zg)) (zD xb.toXM (zcd T) (hr.mono ϑ) ϱ T.zF T.z9.F.kp T.z9.b (zc (zD xb.toXM (zdJ T) (hr.mono ϑ) ϱ T.zbI T.zbM.F.kp T.zbM.b (zc (zd 0) (zc ze zh zg) zi)) (zc ze (zc ze zh zg) zg) zcl)) (fun _ _=>rfl))) ze))
     (zt (zV (i:=2) zbL.nd rfl (Or.inl rfl) (zbt ze (zD xb.toXM (zcd T) (hr.mono ϑ) ϱ T.zF T.z9.F.kp T.z9.b (zc (zD xb.toXM (zdJ T) (hr.mono ϑ) ϱ T.zbI T.zbM.F.kp T.zbM.b (zc (zd 0) (zc ze zh zg) zi)) (zc ze (zc (zbt ze (zd 1)) zh zbo) zg) zcl))))
     (zt (zV (i:=3) zbL.nd rfl (Or.inl rfl) (zQ hr (zP (zc ze (zc ze (zc ze (zc ze (zc ze (zc ze (zc ze zh zg) zg) zg) zg) zg) zg) zg)) (zD xb.toXM (zcd T) (hr.mono ϑ) ϱ T.zF T.z9.F.kp T.z9.b (zc (zD xb.toXM (zdJ T) (hr.mono ϑ) ϱ T.zbI T.zbM.F.kp T.zbM.b (zc (zd 0) (zc ze zh zg) zi)) (zc ze (zc ze zh zg) zg) zcl)) (fun _ _=>rfl)))
     (zt (zV (i:=4) zbL.nd rfl (Or.inl rfl) (zQ hr (zP (zc ze (zc ze (zc ze (zc ze zh zg) zg) zg) zg)) (zD xb.toXM (zcd T) (hr.mono ϑ) ϱ T.zF T.z9.F.kp T.z9.b (zc (zD xb.toXM (zdJ T) (hr.mono ϑ) ϱ T.zbI T.zbM.F.kp T.zbM.b (zc (zd 0) (zc ze zh zg) zi)) (zc ze (zc ze zh zg) zg) zcl)) (fun _ _=>rfl)))
     (zt (zV (i:=5) zbL.nd rfl (Or.inl rfl) (zQ hr (zP (zc ze (zc ze (zc ze (zc ze zh zg) zg) zg) zg)) (zD xb.toXM (zcd T) (hr.mono ϑ) ϱ T.zF T.z9.F.kp T.z9.b (zc (zD xb.toXM (zdJ T) (hr.mono ϑ) ϱ T.zbI T.zbM.F.kp T.zbM.b (zc (zd 0) (zc ze zh zg) zi)) (zc ze (zc ze zh zg) zg) zcl)) (fun _ _=>rfl)))
     (zt (zV (i:=6) zbL.nd rfl (Or.inl rfl) (zdr (zcs (zfP hr) (zd 2) ze (zW _)) (zeM (zcs (zbQ hr) (zD xb.toXM (zcd T) (hr.mono ϑ) ϱ T.zF T.z9.F.kp T.z9.b (zc (zD xb.toXM (zdJ T) (hr.mono ϑ) ϱ T.zbI T.zbM.F.kp T.zbM.b (zc (zd 0) (zc ze zh zg) zi)) (zc ze (zc ze zh zg) zg) zcl)) ze (zW _)))))
     (zt (zV (i:=7) zbL.nd rfl (Or.inl rfl) (zu (zv zh)))
     (zt (zfi xb.ok.own (zij ϱ T.n_range (zd2 ϱ T.n_len (zd 0) zi) zcl) (zdW (i:=8) zbL.nd rfl (Or.inl rfl))
     (zt (zV (i:=9) zbL.nd rfl (Or.inl rfl) (zD xb.toXM (zcd T) (hr.mono ϑ) ϱ T.zF T.z9.F.kp T.z9.b (zc (zQ hr (zd 0) (zd 8) (fun _ _=>rfl)) (zc (zbt (zcO (zd 8) ze) ze) (zc (zd 2) zh zi) zbo) zby)))
     (zt (zV (i:=10) zbL.nd rfl (Or.inl rfl) (zcO (zbt (zbt (zd 9) ze) (zD xb.toXM (zcd T) (hr.mono ϑ) ϱ T.zF T.z9.F.kp T.z9.b (zc (zQ hr (zd 0) (zd 8) (fun _ _=>rfl)) (zc (zbt (zcO (zd 8) ze) ze) (zc (zb9 (zd 2) ze) zh zbo) zbo) zby))) (zd 2)))
     (zt (z7 (zbm (zd 6) (fun _=>rfl)) (zt (zV (i:=11) zbL.nd rfl (Or.inl rfl) (zdV (zbl (zdR hr) (zd 9) (zeZ (zd 2) ze) (zW _)) ze (zeZ (zd 2) ze)))
     (zt (zV (i:=12) zbL.nd rfl (Or.inl rfl) (zdV (zbl (zbQ hr) (zd 11) ze (zW _)) (zeZ (zd 2) ze) (zb9 (zd 2) (zd 11))))
     (zt (zV (i:=13) zbL.nd rfl (Or.inl rfl) (zbt ze (zD xb.toXM (zcd T) (hr.mono ϑ) ϱ T.zF T.z9.F.kp T.z9.b (zc (zQ hr (zd 0) (zd 8) (fun _ _=>rfl)) (zc (zbt (zcO (zd 8) ze) ze) (zc (zb9 (zd 12) ze) zh zbo) zbo) zby))))
     (zw (zV (i:=10) zbL.nd rfl (Or.inl rfl) (zbt (zd 11) (zcO (zbt (zb9 (zd 9) (zd 11)) (zd 13)) (zd 12)))))))) zbf)
     (zt (zV (i:=14) zbL.nd rfl (Or.inl rfl) (zb9 (zD xb.toXM (zcd T) (hr.mono ϑ) ϱ T.zF T.z9.F.kp T.z9.b (zc (ze4 (zd 10) ze) (zc ze (zc (zd 4) zh zi) zg) zbo)) (zD xb.toXM (zcd T) (hr.mono ϑ) ϱ T.zF T.z9.F.kp T.z9.b (zc (ze4 (zd 9) ze) (zc ze (zc (zd 4) zh zi) zg) zbo))))
     (zt (z7 (t_w (zhm (zbl (zfP hr) (zd 5) ze (zW _)) (zhI (zbl (zbQ hr) (zD xb.toXM (zcd T) (hr.mono ϑ) ϱ T.zF T.z9.F.kp T.z9.b (zc (zQ hr (zd 0) (zd 8) (fun _ _=>rfl)) (zc (zbt (zcO (zd 8) ze) ze) (zc (zd 5) zh zi) zbo) zby)) ze (zW _))))) (zw (zV (i:=14) zbL.nd rfl (Or.inl rfl) (zbt (zd 14) ze))) zbf)
     (zt (z7 (t_w (zhm (zbl (zfP hr) (zd 3) ze (zW _)) (zhm (zbl (zbQ hr) (zD xb.toXM (zcd T) (hr.mono ϑ) ϱ T.zF T.z9.F.kp T.z9.b (zc (zQ hr (zd 0) (zd 8) (fun _ _=>rfl)) (zc ze (zc ze zh zg) zg) zby)) ze (zW _)) (zhI (zbl (zdR hr) (zbt (zn8 ϱ T.n_abs (zd 14) zi) (zd 3)) ze (zW _)))))) (zw (zV (i:=14) zbL.nd rfl (Or.inl rfl) (zb9 (zd 14) (zd 3)))) zbf)
     (zw (zcB (zgF (zd 7) (zP (zc (zd 9) (zc (zd 10) (zc (zd 14) zh zi) zi) zi)) zZ))))))))))
     (zw (zR (zP (zc (zd 2) (zc (zd 7) (zc (zd 3) zh zi) zi) zi))))))))))))
theorem zj6 (T:TX K mg):zM P w K mg base (CX1 P w) 9 T.zek.a T.zek.d ["_law_which", "_law_thing"] (spE T.G T.xm 2 zcy) :=
 zbh (k:=8) T.zek.F zjV rfl rfl ϑ fun cdv A outer s H E hr W xb =>
     (zt (z7 (zbl (zbQ hr) (zd 0) ze (zW _)) (zw (zR (zc3 xb.toXM T.zb0 T.zcW (zcX T) (hr.mono ϑ) ϱ T.zbj.m T.zb6.b (zc (zd 1) (zc (zu (zv zh)) (zc ze zh zg) zH) zi)))) zbf)
     (zw (zR (zdV (zbl (zbQ hr) (zd 0) ze (zW _)) (zc3 xb.toXM T.zb0 T.zcW (zcX T) (hr.mono ϑ) ϱ T.zbj.m T.zb6.b (zc ze (zc (zd 1) (zc ze zh zg) zi) zg)) (zc3 xb.toXM T.zb0 T.zcW (zcX T) (hr.mono ϑ) ϱ T.zbj.m T.zb6.b (zc ze (zc (zu (zv zh)) (zc (zd 1) zh zi) zH) zg))))))
theorem zj7 (T:TX K mg):zM P w K mg base (CX1 P w) 8 T.zel.a T.zel.d ["_law_web_here", "_law_door", "_law_thing"] (spE T.G T.xm 3 zcz) :=
 zbh (k:=7) T.zel.F zjW rfl rfl ϑ fun cdv A outer s H E hr W xb =>
     (zt (z7 (zbl (zdR hr) (zd 1) ze (zW _)) (zw (zR (zdV (zbl (zbQ hr) (zd 1) ze (zW _)) (zD xb.toXM (zhz T) (hr.mono ϑ) ϱ T.zcS T.zdo.F.kp T.zdo.b (zc (zd 0) (zc (zd 2) (zc ze zh zg) zi) zi)) (zD xb.toXM (zhz T) (hr.mono ϑ) ϱ T.zcS T.zdo.F.kp T.zdo.b (zc (zd 0) (zc ze (zc (zd 2) zh zi) zg) zi))))) zbf)
     (zw (zR (zD xb.toXM (zhA T) (hr.mono ϑ) ϱ T.zcx T.zdp.F.kp T.zdp.b (zc (zd 0) (zc (zd 2) (zc zbW zh zg) zi) zi)))))
theorem zj8 (T:TX K mg):zM P w K mg base (CX1 P w) 10 T.zem.a T.zem.d ["_law_door", "_law_web_here", "_law_thing"] (spE T.G T.xm 3 zbz) :=
 zbh (k:=9) T.zem.F zhu rfl rfl ϑ fun cdv A outer s H E hr W xb =>
     (zt (zjg (i:=3) xb ϱ T.m_WebError T.ok_kinds (hr.mono ϑ) ϱ T.m__law_kinds T.f__law_kinds.F.kp T.f__law_kinds.b zhu.nd rfl T.kinds (fun _ _ _ xt=>(zw (z7 (zbl (zdR hr) (zd 0) ze (zW _)) (zw (zcB (zD xt (zj6 T) (hr.mono ϑ) ϱ T.zcy T.zek.F.kp T.zek.b (zc (zd 0) (zc (zd 2) zh zi) zi)))) (zw (z7 (zbl (zdR hr) (zd 0) ze (zW _)) (zw (zcB (zD xt (zj7 T) (hr.mono ϑ) ϱ T.zcz T.zel.F.kp T.zel.b (zc (zd 1) (zc (zb9 (zd 0) ze) (zc (zd 2) zh zi) zbo) zi)))) (zw (z7 (zbl (zdR hr) (zd 0) ze (zW _)) (zw (zcB (zdV (zbl (zbQ hr) (zd 0) ze (zW _)) (zD xt (zj4 T) (hr.mono ϑ) ϱ T.zdH T.zei.F.kp T.zei.b (zc (zd 1) (zc (zd 2) zh zi) zi)) (zD xt (zhA T) (hr.mono ϑ) ϱ T.zcx T.zdp.F.kp T.zdp.b (zc (zd 1) (zc ze (zc (zd 2) zh zi) zg) zi))))) (zw (zcB (zD xt (zj0 T) (hr.mono ϑ) ϱ T.zdF T.zee.F.kp T.zee.b (zc (zd 1) (zc (zd 2) zh zi) zi))))))))))))
     (zw (zR (zu (zv zh)))))
theorem zdq (T:TX K mg):zM P w K mg base (CX1 P w) 11 T.zbB.a T.zbB.d ["_law_doors", "_law_web_here", "_law_things", "_law_due"] (spE T.G T.xm 4 zbA) :=
 zbh (k:=10) T.zbB.F zhv rfl rfl ϑ fun cdv A outer s H E hr W xb =>
     (zt (zfi xb.ok.own (zf2 (zd 0)) (zdW (i:=4) zhv.nd rfl (Or.inr rfl))
     (zw (z7 (zbp (zbm (zmg ϱ T.n_all (zet (zh9 (N:=["_law_thing", "_law_due", "_law_door", "_law_web_here"]) (js:=[none,some 3,some 4,some 1]) xb (zcF.of (osc:=zG zfs) (N0:=["_law_doors", "_law_web_here", "_law_things", "_law_due", "_law_door"]) rfl rfl ϰ) (zf2 (zd 2)) (fun _ _ _ _ _ xc=>⟨(zdW (i:=0) (show (["_law_thing", "_law_due", "_law_door", "_law_web_here"]:List Str).Nodup by decide +kernel) rfl (Or.inl rfl)),ziM,(zcs (zbQ hr) (zD xc (zj8 T) (hr.mono ϑ) ϱ T.zbz T.zem.F.kp T.zem.b (zc (zd 2) (zc (zd 3) (zc (zd 0) zh zi) zi) zi)) (zd 1) (zW _))⟩))) zlQ) (fun _=>rfl))) (zw (zR zbv)) zbf)))
     (zw (zR zbv)))
theorem zj9 (T:TX K mg):zM P w K mg base (CX1 P w) 12 T.zen.a T.zen.d ["_law_due", "_law_far"] (spE T.G T.xm 2 zd7) :=
 zbh (k:=11) T.zen.F zeR rfl rfl ϑ fun cdv A outer s H E hr W xb =>
     (zt (zV (i:=2) zeR.nd rfl (Or.inl rfl) (zu (zv (zc zbW (zc (zP zh) (zc zds (zc zpt (zc ze (zc (zu (zv (zc zbW zh zg))) (zc (zu (zv (zc ze zh zg))) (zc (zu (zv (zc (zP (zc ze (zc ze zh zg) zg)) zh zZ))) (zc (zu (zv (zc (zP (zc ze (zc ze (zc ze (zc ze zh zg) zg) zg) zg)) zh zZ))) (zc (zu (zv (zc (zu (zv (zc ze (zc ze (zc ze zh zg) zg) zg))) zh zH))) (zc (zu (zv (zc (zP (zc ze (zc ze (zc ze zh zg) zg) zg)) zh zZ))) (zc (zu (zv (zc (zP (zc ze (zc ze (zc ze zh zg) zg) zg)) zh zZ))) zh zH) zH) zH) zH) zH) zH) zH) zg) zpM) zg) zZ) zg))))
     (zt (zV (i:=2) zeR.nd rfl (Or.inl rfl) (zu (zfh (zd 2) (zet (zv (zc (zu (zv (zc (zP (zc (zb2 ze) (zc ze (zc ze zh zg) zg) zdk)) zh zZ))) (zc (zu (zv (zc (zP (zc (zbt ze (zd 1)) (zc ze (zc ze zh zg) zg) zbo)) zh zZ))) (zc (zu (zv (zc (zP (zc ze (zc ze (zc zbW zh zg) zg) zg)) zh zZ))) (zc (zu (zv (zc (zP (zc ze (zc ze (zc zbv zh zg) zg) zg)) zh zZ))) (zc (zu (zv (zc (zP (zc zbv (zc ze (zc ze zh zg) zg) zg)) zh zZ))) (zc (zu (zv (zc (zP (zc zds (zc ze (zc ze zh zg) zg) zg)) zh zZ))) zh zH) zH) zH) zH) zH) zH))))))
     (zt (zV (i:=2) zeR.nd rfl (Or.inl rfl) (zu (zfh (zd 2) (zet (zv (zc (zu (zv (zc (zP (zc ze (zc ze (zc ze zh zg) zg) zg)) zh zZ))) (zc (zu (zv (zc (zP (zc ze (zc ze (zc (zb9 (zb2 ze) (zd 1)) zh zbo) zg) zg)) zh zZ))) (zc (zu (zv (zc (zP (zc ze (zc ze (zc ze zh zg) zg) zg)) (zc (zP (zc ze (zc ze (zc ze zh zg) zg) zg)) zh zZ) zZ))) zh zH) zH) zH))))))
     (zt (zV (i:=3) zeR.nd rfl (Or.inl rfl) (zu (zv (zc zbW (zc zds (zc zbv (zc (zu (zv (zc ze zh zg))) (zc (zb2 ze) (zc (zb9 (zb2 ze) (zd 1)) (zc ze (zc (zbt ze (zd 1)) zh zbo) zg) zbo) zdk) zH) zg) zg) zg))))
     (zt (z7 (t_w (zdv (zbp (zbm (zD xb.toXM (zdq T) (hr.mono ϑ) ϱ T.zbA T.zbB.F.kp T.zbB.b (zc (zu (zv (zc ze zh zg))) (zc zbW (zc (zd 2) (zc (zd 0) zh zi) zi) zg) zH)) (fun _=>rfl))) (zdD (zbp (zbm (zD xb.toXM (zdq T) (hr.mono ϑ) ϱ T.zbA T.zbB.F.kp T.zbB.b (zc (zu (zv (zc ze (zc ze zh zg) zg))) (zc zbW (zc (zd 3) (zc (zd 0) zh zi) zi) zg) zH)) (fun _=>rfl)))))) (zw (zR zbv)) zbf)
     (zw (zR (zD xb.toXM (zdq T) (hr.mono ϑ) ϱ T.zbA T.zbB.F.kp T.zbB.b (zc (zu (zv (zc ze zh zg))) (zc zbW (zc (zu (zv (zc ze zh zg))) (zc (zd 0) zh zi) zH) zg) zH)))))))))
theorem zka (T:TX K mg):zM P w K mg base (CX1 P w) 12 T.zeo.a T.zeo.d ["_law_web_here", "_law_points", "_law_many", "_law_due", "_law_far"] (spE T.G T.xm 5 zd8) :=
 zbh (k:=11) T.zeo.F zeS rfl rfl ϑ fun cdv A outer s H E hr W xb =>
     (zt (zV (i:=5) zeS.nd rfl (Or.inl rfl) (zu (zv (zc zbW (zc zds (zc zbv (zc (zu (zv (zc ze zh zg))) (zc (zb2 ze) (zc (zb9 (zb2 ze) (zd 4)) (zc (zd 1) (zc (zbt (zd 1) (zd 4)) zh zbo) zi) zbo) zdk) zH) zg) zg) zg))))
     (zt (z7 (zbp (zbm (zD xb.toXM (zdq T) (hr.mono ϑ) ϱ T.zbA T.zbB.F.kp T.zbB.b (zc (zu (zv (zc ze (zc ze (zc ze zh zg) zg) zg))) (zc (zd 0) (zc (zd 5) (zc (zQ hr (zd 3) ze (fun _ _=>rfl)) zh zby) zi) zi) zH)) (fun _=>rfl))) (zw (zR zbv)) zbf)
     (zt (zV (i:=5) zeS.nd rfl (Or.inl rfl) (zu (zv (zc zbW (zc zds (zc zbv (zc (zu (zv (zc ze zh zg))) (zc (zb2 ze) (zc (zb9 (zb2 ze) (zd 4)) (zc (zd 2) (zc (zbt (zd 2) (zd 4)) zh zbo) zi) zbo) zdk) zH) zg) zg) zg))))
     (zt (z7 (zbp (zbm (zD xb.toXM (zdq T) (hr.mono ϑ) ϱ T.zbA T.zbB.F.kp T.zbB.b (zc (zu (zv (zc ze zh zg))) (zc (zd 0) (zc (zd 5) (zc (zQ hr (zd 3) ze (fun _ _=>rfl)) zh zby) zi) zi) zH)) (fun _=>rfl))) (zw (zR zbv)) zbf)
     (zt (zV (i:=6) zeS.nd rfl (Or.inl rfl) (zu (zv (zc zbW (zc (zP zh) (zc zds (zc ze (zc (zu (zv (zc zbW zh zg))) (zc (zu (zv (zc ze zh zg))) (zc (zu (zv (zc (zP zh) zh zZ))) (zc (zu (zv (zc (zP (zc ze zh zg)) zh zZ))) (zc (zu (zv (zc (zP (zc ze (zc ze (zc ze zh zg) zg) zg)) zh zZ))) (zc (zu (zv (zc (zP (zc (zd 2) (zc ze zh zg) zi)) zh zZ))) (zc (zu (zv (zc (zP (zc (zb2 ze) (zc ze zh zg) zdk)) zh zZ))) (zc (zu (zv (zc (zP (zc ze (zc ze zh zg) zg)) zh zZ))) (zc (zu (zv (zc (zP (zc ze (zc zbv zh zg) zg)) zh zZ))) zh zH) zH) zH) zH) zH) zH) zH) zH) zH) zg) zg) zZ) zg))))
     (zt (zV (i:=6) zeS.nd rfl (Or.inl rfl) (zu (zfh (zd 6) (zet (zv (zc (zu (zv (zc (zP (zc ze (zc ze zh zg) zg)) zh zZ))) (zc (zu (zv (zc (zP (zc zds (zc ze zh zg) zg)) zh zZ))) (zc (zu (zv (zc (zP (zc zbv (zc ze zh zg) zg)) zh zZ))) (zc (zu (zv (zc (zu (zv (zc ze (zc ze zh zg) zg))) zh zH))) (zc (zu (zv (zc (zP (zc (zbt (zd 2) (zd 4)) (zc (zb2 ze) zh zdk) zbo)) zh zZ))) zh zH) zH) zH) zH) zH))))))
     (zw (zR (zD xb.toXM (zdq T) (hr.mono ϑ) ϱ T.zbA T.zbB.F.kp T.zbB.b (zc (zu (zv (zc ze zh zg))) (zc (zd 0) (zc (zd 6) (zc (zQ hr (zd 3) ze (fun _ _=>rfl)) zh zby) zi) zi) zH))))))))))
theorem zkb (T:TX K mg):zM P w K mg base (CX1 P w) 9 T.zep.a T.zep.d ["_law_points", "_law_ties", "_law_turn"] (spE T.G T.xm 3 zcT) :=
 zbh (k:=8) T.zep.F zhw rfl rfl ϑ fun cdv A outer s H E hr W xb =>
     (zt (zjg (i:=3) xb ϱ T.m_WebError T.ok_kinds (hr.mono ϑ) ϱ T.m__law_kinds T.f__law_kinds.F.kp T.f__law_kinds.b zhw.nd rfl T.kinds (fun _ _ _ xt=>(zw (zcB (zc3 xt T.zb0 T.zcW (zcX T) (hr.mono ϑ) ϱ T.zbj.m T.zb6.b (zc (zd 0) (zc (zd 1) (zc (zd 2) zh zi) zi) zi))))))
     (zw (zR (zu (zv zh)))))
theorem zkc (T:TX K mg):zM P w K mg base (CX1 P w) 13 T.zeq.a T.zeq.d ["_law_script"] (spE T.G T.xm 1 zfl) :=
 zbh (k:=12) T.zeq.F zcA rfl rfl ϑ fun cdv A outer s H E hr W xb =>
     (zt (zV (i:=1) zcA.nd rfl (Or.inl rfl) (zcO (zD xb.toXM (zdJ T) (hr.mono ϑ) ϱ T.zbI T.zbM.F.kp T.zbM.b (zc (zd 0) (zc ze zh zg) zi)) (zp3 ze ze)))
     (zt (zV (i:=2) zcA.nd rfl (Or.inl rfl) (zu (zv zh)))
     (zt (zfi xb.ok.own (zij ϱ T.n_range ze zg) (zdW (i:=3) zcA.nd rfl (Or.inl rfl))
     (zw (zcB (zgF (zd 2) (zu (zv (zc (zcs (zbQ hr) (zd 3) ze (zW _)) (zc (zcs (zbQ hr) (zd 3) ze (zW _)) (zc (zcs (zbQ hr) (zd 3) ze (zW _)) (zc (zcs (zbQ hr) (zd 3) ze (zW _)) (zc zbv (zc zbv zh zg) zg) zfz) zfz) zfz) zfz))) zH))))
     (zt (zpX (zD xb.toXM (zj5 T) (hr.mono ϑ) ϱ T.zd6 T.zej.F.kp T.zej.b (zc (zd 0) zh zi)) (zqh rfl (zgZ (i:=4) zcA.nd rfl (Or.inl rfl) (zgZ (i:=5) zcA.nd rfl (Or.inl rfl) (zgZ (i:=6) zcA.nd rfl (Or.inl rfl) zm3)))))
     (zt (zpC (i:=7) (j:=8) zcA.nd rfl rfl (zc (zc3 xb.toXM T.zb0 T.zcW (zcX T) (hr.mono ϑ) ϱ T.zbj.m T.zb6.b (zc (zd 4) (zc (zd 5) (zc (zd 6) zh zi) zi) zi)) (zc (zd2 ϱ T.n_len (zd 5) zi) zh zcl) zcl))
     (zt (z7 (t_w (zdv (zbp (zbm (zD xb.toXM (zj9 T) (hr.mono ϑ) ϱ T.zd7 T.zen.F.kp T.zen.b (zc (zQ hr (zd 2) ze (fun _ _=>rfl)) (zc (zd 1) zh zi) zby)) (fun _=>rfl))) (zdD (zbp (zbm (zD xb.toXM (zka T) (hr.mono ϑ) ϱ T.zd8 T.zeo.F.kp T.zeo.b (zc (zd 7) (zc (zd 4) (zc (zd 8) (zc (zd 2) (zc (zd 1) zh zi) zi) zi) zi) zi)) (fun _=>rfl)))))) (zw (zR zbv)) zbf)
     (zt (zfi xb.ok.own (zn6 ϱ T.n_range ze (zd 8) (zbt ze (zeZ (zd 8) ze)) zg zi zbo) (zdW (i:=9) zcA.nd rfl (Or.inl rfl))
     (zt (zV (i:=10) zcA.nd rfl (Or.inl rfl) (zQ hr (zP (zc zbW (zc (zP (zc ze (zc ze (zc ze zh zg) zg) zg)) (zc (zP (zc ze (zc (zd 4) (zc ze zh zg) zi) zg)) (zc (zP (zc ze (zc ze (zc zds zh zg) zg) zg)) (zc (zu (zv (zc ze (zc ze (zc ze zh zg) zg) zg))) zh zH) zZ) zZ) zZ) zg)) (zcO (zd 9) ze) (fun _ _=>rfl)))
     (zw (z7 (zbl (zdX hr) (zD xb.toXM (zkb T) (hr.mono ϑ) ϱ T.zcT T.zep.F.kp T.zep.b (zc (zd 4) (zc (zu (zfh (zu (zfh (zu (zik (zd 5) zhE (zh5 (zd 9)))) (zet (zv (zc (zd 10) zh zi))))) (zet (zik (zd 5) (zh5 (zbt (zd 9) ze)) zhE)))) (zc (zd 6) zh zi) zbo) zi)) (zQ hr (zd 2) ze (fun _ _=>rfl)) (zW _)) (zw (zR zbv)) zbf))))
     (zt (zV (i:=11) zcA.nd rfl (Or.inl rfl) (zu (zv (zc (zc3 xb.toXM T.zb0 T.zcW (zcX T) (hr.mono ϑ) ϱ T.zbj.m T.zb6.b (zc (zbt (zd 4) ze) (zc (zd 5) (zc (zd 6) zh zi) zi) zbo)) (zc (zc3 xb.toXM T.zb0 T.zcW (zcX T) (hr.mono ϑ) ϱ T.zbj.m T.zb6.b (zc (zd 4) (zc (zd 5) (zc (zdV (zbl (zfP hr) (zd 6) ze (zW _)) (zb9 (zd 6) ze) (zbt (zd 6) ze)) zh zpI) zi) zi)) zh zcl) zcl))))
     (zt (z7 (zbp (zbm (zD xb.toXM (zdq T) (hr.mono ϑ) ϱ T.zbA T.zbB.F.kp T.zbB.b (zc (zu (zv (zc ze zh zg))) (zc (zd 7) (zc (zd 11) (zc (zQ hr (zd 2) ze (fun _ _=>rfl)) zh zby) zi) zi) zH)) (fun _=>rfl))) (zw (zR zbv)) zbf)
     (zt (z7 (zbp (zbm (zD xb.toXM (zdq T) (hr.mono ϑ) ϱ T.zbA T.zbB.F.kp T.zbB.b (zc (zu (zv (zc ze zh zg))) (zc (zc3 xb.toXM T.zb0 T.zcW (zcX T) (hr.mono ϑ) ϱ T.zbj.m T.zb6.b (zc ze (zc (zu (zv (zc (zP (zc ze (zc ze (zc ze zh zg) zg) zg)) zh zZ))) (zc ze zh zg) zH) zg)) (zc (zu (zv (zc (zu (zv (zc (zP (zc ze (zc zbv zh zg) zg)) zh zZ))) (zc (zu (zv (zc (zP (zc ze (zc (zb2 ze) zh zdk) zg)) zh zZ))) zh zH) zH))) (zc (zQ hr (zd 2) ze (fun _ _=>rfl)) zh zby) zH) zcl) zH)) (fun _=>rfl))) (zw (zR zbv)) zbf)
     (zw (zR (zdr (zcs (zbQ hr) (zgs (c0:=0) (zgD xb.toXM T.zb0 T.zbj.cl T.zgi (zgm T) (hr.mono ϑ) T.zdI.b (zd 7) zgE (zgz zhb))) (zd 5) (zW _)) (zdr (zcs (zbQ hr) (zda T.ok T.an_turn (zc3 xb.toXM T.zb0 T.zcW (zcX T) (hr.mono ϑ) ϱ T.zbj.m T.zb6.b (zc ze (zc (zu (zv zh)) (zc ze zh zg) zH) zg)) rfl) ze (zW _)) (zeM (zcs (zbQ hr) (zda T.ok T.an_points (zc3 xb.toXM T.zb0 T.zcW (zcX T) (hr.mono ϑ) ϱ T.zbj.m T.zb6.b (zc ze (zc (zu (zv zh)) (zc ze zh zg) zH) zg)) rfl) ze (zW _)))))))))))))))))
end
end My
end
namespace PySem.W.Fast
def tw5840378940552190060:=0
def tw13778683257885482791:=0
def tw7218059057246141599:=0
def tw693340281923280857:=0
def tw8078448740092095825:=0
def tw8393727623981752354:=0
def tw15441134059817501665:=0
def tw6585973146489468244:=0
def tw6781578935525382500:=0
def tw6903536722667708115:=0
def tw5709887545348641628:=0
def tw6634051172037386106:=0
def tw438077836171042408:=0
def tw5915152947152199904:=0
def tw6423053249093035415:=0
def tw13774961412271405200:=0
def tw9259678084806430510:=0
def tw17771793940755850912:=0
def tw7546937235289521425:=0
def tw17644282205167684297:=0
def tw12335355734240826985:=0
def tw4605804289117933353:=0
def tw15192074510965284911:=0
def tw6545078743054848661:=0
def tw9034395912785558991:=0
def tw7323573752505901990:=0
def tw16619866949250352049:=0
def tw16907635705697385269:=0
def tw10330639253818215688:=0
def tw5735205701048864816:=0
def tw5048463725987219015:=0
def tw4430487702770562217:=0
def tw10623466500709601046:=0
def tw2255409631851525363:=0
def tw2408976402934614409:=0
def tw18178210601322802071:=0
def tw12499376787973711308:=0
def tw7858957102099352644:=0
def tw2880984687853547243:=0
def tw12069615058850083438:=0
def tw5101307199014523961:=0
def tw7951033264929696367:=0
def tw3601777089972005479:=0
end PySem.W.Fast
open PySem L2 MI
namespace My
theorem zox {P:Program}{w:World}{K:PySem.W.Frag}{mg:Str->Option Value}{base:Heap} (T:TX K mg):zM P w K mg base (CX1 P w) 13 T.zeq.a T.zeq.d ["_law_script"] (zdN K):=(zkc T).imp fun vs H Q E h=>zm0 (G:=T.G) Mx.law_true vs H Q E h
theorem all_mk {l:PySem.W.OpenLaw}{w:World}{K:PySem.W.Frag}{h:Heap}{mg:Str->Option Value}{fa:Addr} (X:K.In h) (G:h.Ns mainGlobals mg) (hfa:mg "law" = some (.ref fa))
   {zcY X_WebError X_BadWeb X_BadPoint X_BadTie X_Unlike X_BadText:Addr}
   {tk_MOST tk_FORTH tk_BACK:Tok}
   (zkd:CB K "Web" zcY)
   (ea_WebError:PySem.W.nsIn K mainGlobals "WebError" = some (some (.ref X_WebError)))
   (ea_BadWeb:PySem.W.nsIn K mainGlobals "BadWeb" = some (some (.ref X_BadWeb)))
   (ea_BadPoint:PySem.W.nsIn K mainGlobals "BadPoint" = some (some (.ref X_BadPoint)))
   (ea_BadTie:PySem.W.nsIn K mainGlobals "BadTie" = some (some (.ref X_BadTie)))
   (ea_Unlike:PySem.W.nsIn K mainGlobals "Unlike" = some (some (.ref X_Unlike)))
   (ea_BadText:PySem.W.nsIn K mainGlobals "BadText" = some (some (.ref X_BadText)))
   (zke:GB K "is_number" zfm ["value"])
   (zkf:GB K "is_within" zfn ["value", "least", "most"])
   (zkg:GB K "is_point" zfo ["points", "value"])
   (zkh:GB K "is_tie" zfp ["points", "value"])
   (zki:GB K "own_tie" zd9 ["points", "value"])
   (zkj:MB K zcY "__init__" "Web.__init__" zfr ["self", "points", "ties", "turn"])
   (zkk:PySem.W.makesIn K zcY=true)
   (zkl:PySem.W.keepIn K (.ref zcY)=true)
   (zkm:MB K zcY "ties" "Web.ties" zc7 ["self"])
   (zkn:GB K "turned" zfq ["tie"])
   (zko:GB K "together" zf3 ["one", "other"])
   (zkp:GB K "is_place" zcU ["ties", "value"])
   (zkq:GB K "is_step" zeO ["ties", "value"])
   (zkr:GB K "leg" zeP ["ties", "step"])
   (zks:GB K "legs" zeQ ["web", "start", "steps"])
   (zkt:GB K "refuse_no_point" zf4 ["web", "value"])
   (zku:GB K "between" zf5 ["web", "one", "other"])
   (zkv:GB K "spare" zf6 ["web", "tie"])
   (zkw:GB K "climb" zf7 ["web", "start", "steps"])
   (zkx:GB K "_law_cell_at" zf8 ["_law_script", "_law_k"])
   (zky:GB K "_law_draw" zf9 ["_law_cell", "_law_k", "_law_many"])
   (zkz:GB K "_law_web" zga ["_law_script"])
   (b__law_kinds:GB K "_law_kinds" zgS ["_law_error"])
   (zkA:GB K "_law_make" zgb ["_law_which", "_law_thing"])
   (zkB:GB K "_law_with_point" zgc ["_law_web_here", "_law_door", "_law_thing"])
   (zkC:GB K "_law_told" zgd ["_law_door", "_law_web_here", "_law_thing"])
   (zkD:GB K "_law_all" zfs ["_law_doors", "_law_web_here", "_law_things", "_law_due"])
   (zkE:GB K "_law_makes_right" zge ["_law_due", "_law_far"])
   (zkF:GB K "_law_doors_right" zgf ["_law_web_here", "_law_points", "_law_many", "_law_due", "_law_far"])
   (zkG:GB K "_law_spoilt" zgg ["_law_points", "_law_ties", "_law_turn"])
   (zkH:GB K "law" zgh ["_law_script"])
   (zgj:PySem.W.findIn K (.ref zcY) "points" = some none)
   (zgk:PySem.W.findIn K (.ref zcY) "turn" = some none)
   (zgl:PySem.W.findIn K (.ref zcY) "triples" = some none)
   (z_ValueError:PySem.W.nsIn K mainGlobals "ValueError" = some none)
   (z_isinstance:PySem.W.nsIn K mainGlobals "isinstance" = some none)
   (z_int:PySem.W.nsIn K mainGlobals "int" = some none)
   (z_bool:PySem.W.nsIn K mainGlobals "bool" = some none)
   (z_tuple:PySem.W.nsIn K mainGlobals "tuple" = some none)
   (z_len:PySem.W.nsIn K mainGlobals "len" = some none)
   (z_list:PySem.W.nsIn K mainGlobals "list" = some none)
   (z_sorted:PySem.W.nsIn K mainGlobals "sorted" = some none)
   (z_sum:PySem.W.nsIn K mainGlobals "sum" = some none)
   (z_range:PySem.W.nsIn K mainGlobals "range" = some none)
   (z_abs:PySem.W.nsIn K mainGlobals "abs" = some none)
   (z_all:PySem.W.nsIn K mainGlobals "all" = some none)
   (u_MOST:PySem.W.nsIn K mainGlobals "MOST" = some (some (.int (1000000) tk_MOST)))
   (u_FORTH:PySem.W.nsIn K mainGlobals "FORTH" = some (some (.int (1) tk_FORTH)))
   (u_BACK:PySem.W.nsIn K mainGlobals "BACK" = some (some (.int (-1) tk_BACK)))
   (iz:zeF K zdK [zcY] 0 [zcY])
   (eb_BadWeb:XBd K "BadWeb" X_BadWeb X_WebError [.ref X_BadWeb,.ref X_BadPoint,.ref X_BadTie,.ref X_Unlike,.ref X_BadText,.type "ValueError"] [true,false,false,false,false,true])
   (eb_BadPoint:XBd K "BadPoint" X_BadPoint X_WebError [.ref X_BadWeb,.ref X_BadPoint,.ref X_BadTie,.ref X_Unlike,.ref X_BadText,.type "ValueError"] [false,true,false,false,false,true])
   (eb_BadTie:XBd K "BadTie" X_BadTie X_WebError [.ref X_BadWeb,.ref X_BadPoint,.ref X_BadTie,.ref X_Unlike,.ref X_BadText,.type "ValueError"] [false,false,true,false,false,true])
   (eb_Unlike:XBd K "Unlike" X_Unlike X_WebError [.ref X_BadWeb,.ref X_BadPoint,.ref X_BadTie,.ref X_Unlike,.ref X_BadText,.type "ValueError"] [false,false,false,true,false,true])
   (eb_BadText:XBd K "BadText" X_BadText X_WebError [.ref X_BadWeb,.ref X_BadPoint,.ref X_BadTie,.ref X_Unlike,.ref X_BadText,.type "ValueError"] [false,false,false,false,true,true])
   : ∃ fd:FuncData,(∀ (s:Shared) (v:Value),BindsTo s fd ⟨[v],[]⟩ [("_law_script",v)])∧∀ base:Heap,K.In base->base.Ns mainGlobals mg->zM l.prog w K mg base (CX1 l.prog w) 13 fa fd ["_law_script"] (zdN K):=by
 obtain ⟨zkI,zkJ,_⟩:=zke.df X G
 obtain ⟨zkK,zkL,_⟩:=zkf.df X G
 obtain ⟨zkM,zkN,_⟩:=zkg.df X G
 obtain ⟨zkO,zkP,_⟩:=zkh.df X G
 obtain ⟨zkQ,zkR,_⟩:=zki.df X G
 obtain ⟨zkS,zkT⟩:=zkj.mk' zkk zkl
 obtain ⟨zkU,zkV⟩:=zkm.df
 obtain ⟨zkW,zkX,_⟩:=zkn.df X G
 obtain ⟨zkY,zkZ,_⟩:=zko.df X G
 obtain ⟨zk0,zk1,_⟩:=zkp.df X G
 obtain ⟨zk2,zk3,_⟩:=zkq.df X G
 obtain ⟨zk4,zk5,_⟩:=zkr.df X G
 obtain ⟨zk6,zk7,_⟩:=zks.df X G
 obtain ⟨zk8,zk9,_⟩:=zkt.df X G
 obtain ⟨zla,zlb,_⟩:=zku.df X G
 obtain ⟨zlc,zld,_⟩:=zkv.df X G
 obtain ⟨zle,zlf,_⟩:=zkw.df X G
 obtain ⟨zlg,zlh,_⟩:=zkx.df X G
 obtain ⟨zli,zlj,_⟩:=zky.df X G
 obtain ⟨zlk,zll,_⟩:=zkz.df X G
 obtain ⟨D__law_kinds,w__law_kinds,_⟩:=b__law_kinds.df X G
 obtain ⟨zlm,zln,_⟩:=zkA.df X G
 obtain ⟨zlo,zlp,_⟩:=zkB.df X G
 obtain ⟨zlq,zlr,_⟩:=zkC.df X G
 obtain ⟨zls,zlt,_⟩:=zkD.df X G
 obtain ⟨zlu,zlv,_⟩:=zkE.df X G
 obtain ⟨zlw,zlx,_⟩:=zkF.df X G
 obtain ⟨zly,zlz,_⟩:=zkG.df X G
 obtain ⟨zhB,zhC,hl⟩:=zkH.df X G
 cases hfa.symm.trans zhC
 exact ⟨zhB.d,fun s v=> .of_eq (hl [v] rfl),fun base _ _=>zox ⟨zkI,zkJ,zkK,zkL,zkM,zkN,zkO,zkP,zkQ,zkR,zkS,zkU,zkW,zkX,zkY,zkZ,zk0,zk1,zk2,zk3,zk4,zk5,zk6,zk7,zk8,zk9,zla,zlb,zlc,zld,zle,zlf,zlg,zlh,zli,zlj,zlk,zll,D__law_kinds,w__law_kinds,zlm,zln,zlo,zlp,zlq,zlr,zls,zlt,zlu,zlv,zlw,zlx,zly,zlz,zhB,zhC,zkd.cf X G,zkT,zkV,zgj,zgk,zgl,PySem.W.mg_none_of X G z_ValueError,PySem.W.mg_none_of X G z_isinstance,PySem.W.mg_none_of X G z_int,PySem.W.mg_none_of X G z_bool,PySem.W.mg_none_of X G z_tuple,PySem.W.mg_none_of X G z_len,PySem.W.mg_none_of X G z_list,PySem.W.mg_none_of X G z_sorted,PySem.W.mg_none_of X G z_sum,PySem.W.mg_none_of X G z_range,PySem.W.mg_none_of X G z_abs,PySem.W.mg_none_of X G z_all,⟨_,PySem.W.mg_of X G u_MOST,⟨_,rfl⟩⟩,⟨_,PySem.W.mg_of X G u_FORTH,⟨_,rfl⟩⟩,⟨_,PySem.W.mg_of X G u_BACK,⟨_,rfl⟩⟩,iz,PySem.W.mg_of X G ea_WebError,PySem.W.mg_of X G ea_BadWeb,eb_BadWeb,PySem.W.mg_of X G ea_BadPoint,eb_BadPoint,PySem.W.mg_of X G ea_BadTie,eb_BadTie,PySem.W.mg_of X G ea_Unlike,eb_Unlike,PySem.W.mg_of X G ea_BadText,eb_BadText⟩⟩
theorem walk {l:PySem.W.OpenLaw}{q:Program}{loose:List Str}{XP:(Str->Option Value)->Heap->Prop}{YP:World->Heap->Prop}{d:DefRec}{K:Params->PySem.W.Frag} (hn:l.most=some 63) (hdf:d.params.defaults=[])
   (hY:∀ (w:World) (h:Heap),YP w h->(K w.params).In h)
   (F:∀ (w:World) (mg:Str->Option Value) (fa:Addr) (h:Heap),(K w.params).In h->h.Ns mainGlobals mg->mg d.name=some (.ref fa) ->
     ∃ fd:FuncData,(∀ (s:Shared) (u:Value),BindsTo s fd ⟨[u],[]⟩ [("_law_script",u)])∧∀ base:Heap,(K w.params).In base->base.Ns mainGlobals mg->zM l.prog w (K w.params) mg base (CX1 l.prog w) 13 fa fd ["_law_script"] (zdN (K w.params))) :
   PySem.W.WalkO q loose XP YP l.row.toRowW d [] (fun f vs=>PySem.call f vs) :=
 L2.walk_of (n:=63) (k:=13) (x :="_law_script") (CX:=fun w=>CX1 l.prog w) (sp:=fun w=>zdN (K w.params)) hn ϑ hdf ⟨rfl,ϑ,ϑ⟩ hY F (fun _ _ a ns hl ho hS=>MI.law_start ho hl hS) fun _ _ _ _ _ ⟨_,_,_,_,_,_,_,_,_,_,z,_⟩=>z
end My
open PySem PySem.W PyProof.Rows
set_option maxRecDepth 100000 in
theorem PySem.Challenge.cw_closering_k09_refused_holds : PySem.Challenge.rw_closering_k09_refused.Holds := by
 w_on;o_law;k_head;(case hw=>w_witness2)
 k_fill
 refine My.walk (l:=PySem.Challenge.rw_closering_k09_refused) rfl rfl (fun w h Y=>PySem.W.kIn_of Y) ?F
 case F =>
   intro w mg fa h KX G hmg
   apply My.all_mk KX G hmg
   all_goals first | k_is | (apply L2.GB.mk <;> k_is) | (apply L2.MB.mk <;> k_is) | (apply L2.CB.mk <;> k_is) | (apply L2.XBd.mk <;> first | k_is | k_exc | kit_is | rfl | ((repeat' first | exact trivial | apply And.intro) <;> kit_is)) | ((repeat' first | exact trivial | apply And.intro) <;> kit_is)

