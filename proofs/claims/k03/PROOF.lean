import PyProof.Rows.All
import Wide.All
import OpenK.AllK
import Wide.FinOn
import Lean
import PyProof.EqAt
import PyProof.EqKinds
import PyProof.TupleCall
import PySem.Challenge.RW_closering_k03_whole_spare
set_option Elab.async false
set_option linter.all false
set_option maxRecDepth 100000
noncomputable section
section
namespace MI
open PySem (Str)
inductive D where
 | non | bl (b:Bool) | int (i:Int) | str (x:Str) | tup (ds:List D) | obj (n:Nat)
deriving Inhabited
mutual
noncomputable def D.eq:D->D->Bool
 | .non,.non=>true
 | .bl a,.bl b=>a == b
 | .int a,.int b=>a == b
 | .str a,.str b=>decide (a=b)
 | .tup a,.tup b=>eqs a b
 | .obj a,.obj b=>a == b
 | _,_=>false
noncomputable def eqs:List D->List D->Bool
 | [],[]=>true
 | a :: r,b :: q=>D.eq a b && eqs r q
 | _,_=>false
end
mutual
theorem D.eq_iff:∀ a b:D,D.eq a b=true↔a=b
 | .non,b=>by cases b <;> simp [D.eq]
 | .bl a,b=>by cases b <;> simp [D.eq]
 | .int a,b=>by cases b <;> simp [D.eq]
 | .str a,b=>by cases b <;> simp [D.eq]
 | .obj a,b=>by cases b <;> simp [D.eq]
 | .tup a,b=>by
   cases b with
   | tup b=>simp [D.eq,ztD a b]
   | _=>simp [D.eq]
theorem ztD:∀ a b:List D,eqs a b=true↔a=b
 | [],b=>by cases b <;> simp [eqs]
 | x :: r,b=>by
   cases b with
   | nil=>simp [eqs]
   | cons y q=>simp [eqs,D.eq_iff x y,ztD r q]
end
instance:DecidableEq D:=fun a b=>decidable_of_iff _ (D.eq_iff a b)
mutual
noncomputable def D.nr:D->Bool
 | .obj _=>false
 | .tup ds=>nrs ds
 | _=>true
noncomputable def nrs:List D->Bool
 | []=>true
 | d :: r=>d.nr && nrs r
end
inductive O where
 | lst (xs:List D) | scr (xs:List D) | dic (kvs:List (Int×D)) | hole | set (xs:List Int) | ins (c:Nat) (fs:List (Nat×D))
deriving Inhabited,DecidableEq
noncomputable def O.flat:O->Bool
 | .lst xs=>nrs xs
 | .scr _=>false
 | .dic kvs=>nrs (kvs.map (·.2))
 | .hole=>false
 | .set _=>true
 | .ins _ _=>false
abbrev zx:=List (Option D)
abbrev MH:=List O
inductive R (α:Type) where
 | ok (a:α) (h:MH) | ex (c:Nat) (h:MH) | bad
abbrev ME (α:Type):=zx->MH->R α
inductive RS where
 | nx (e:zx) (h:MH) | rt (v:D) (h:MH) | bk (e:zx) (h:MH) | ct (e:zx) (h:MH) | ex (c:Nat) (h:MH) | bad
abbrev MS:=zx->MH->RS
abbrev MF:=List D->MH->R D
section
variable {α β:Type}
noncomputable def zb (a:α):ME α:=fun _ h=> .ok a h
noncomputable def zI:ME α:=fun _ _=> .bad
noncomputable def zm (m:ME α) (k:α->ME β):ME β:=fun e h=>match m e h with
 | .ok a h1=>k a e h1
 | .ex c h1=> .ex c h1
 | .bad=> .bad
end
noncomputable def var (i:Nat):ME D:=fun e h=>match e[i]? with
 | some (some d)=> .ok d h
 | _=> .bad
noncomputable def un (f:D->ME D) (a:ME D):ME D:=zm a f
noncomputable def bin (f:D->D->ME D) (a b:ME D):ME D:=zm a fun x=>zm b fun y=>f x y
noncomputable def zhf (o:O):ME D:=fun _ h=> .ok (.obj h.length) (h++[o])
noncomputable def O.items:O->Option (List D)
 | .lst xs=>some xs
 | .scr xs=>some xs
 | _=>none
noncomputable def zcc (n:Nat):ME (List D):=fun _ h=>match h[n]? with
 | some (.lst xs)=> .ok xs h
 | _=> .bad
noncomputable def zcf:D->ME D
 | .int i=>zb (.int (-i))
 | _=>zI
noncomputable def zE:D->D->ME D
 | .int i,.int j=>zb (.int (i+j))
 | _,_=>zI
noncomputable def zbj:D->D->ME D
 | .int i,.int j=>zb (.int (i - j))
 | _,_=>zI
noncomputable def zcF (i:Int):Bool:=decide (-18446744073709551616 < i) && decide (i < 18446744073709551616)
noncomputable def zb1:D->D->ME D
 | .int i,.int j=>if zcF i || zcF j then zb (.int (i * j)) else zI
 | _,_=>zI
noncomputable def zdr:D->D->ME D
 | .int i,.int j=>if 0 < j∧j < 1073741824 then zb (.int (i / j)) else zI
 | _,_=>zI
noncomputable def zbc:D->D->ME D
 | .int i,.int j=>if 0 < j then zb (.int (i % j)) else zI
 | _,_=>zI
noncomputable def zhU (p:Int->Int->Bool):D->D->ME D
 | .int i,.int j=>zb (.bl (p i j))
 | _,_=>zI
noncomputable def ltV:=zhU fun i j=>decide (i < j)
noncomputable def leV:=zhU fun i j=>decide (i<=j)
noncomputable def gtV:=zhU fun i j=>decide (j < i)
noncomputable def geV:=zhU fun i j=>decide (j<=i)
mutual
noncomputable def peq:D->D->Bool
 | .non,.non=>true
 | .bl a,.bl b=>a == b
 | .bl a,.int b=>(if a then 1 else 0) == b
 | .int a,.bl b=>a == (if b then 1 else 0)
 | .int a,.int b=>a == b
 | .str a,.str b=>a == b
 | .tup a,.tup b=>zb5 a b
 | _,_=>false
noncomputable def zb5:List D->List D->Bool
 | [],[]=>true
 | a :: r,b :: q=>peq a b && zb5 r q
 | _,_=>false
end
noncomputable def D.pl:Nat->D->Bool
 | _,.obj _=>false
 | 0,.tup _=>false
 | n+1,.tup ds=>ds.all (D.pl n)
 | _,_=>true
inductive Cmp where
 | d (x:D) | l (xs:List D)
noncomputable def zb8 (h:MH):D->Option Cmp
 | .obj n=>match h[n]? with
   | some (.lst xs)=>if xs.all (D.pl 5) then some (.l xs) else none
   | _=>none
 | x=>if x.pl 5 then some (.d x) else none
noncomputable def Cmp.eq:Cmp->Cmp->Bool
 | .d x,.d y=>peq x y
 | .l x,.l y=>zb5 x y
 | _,_=>false
noncomputable def eqV (x y:D):ME D:=fun _ h=>match zb8 h x,zb8 h y with
 | some a,some b=> .ok (.bl (a.eq b)) h
 | _,_=> .bad
noncomputable def neV (x y:D):ME D:=fun _ h=>match zb8 h x,zb8 h y with
 | some a,some b=> .ok (.bl (!a.eq b)) h
 | _,_=> .bad
noncomputable def zbV:D->Bool
 | .non=>true
 | .bl _=>true
 | .int _=>true
 | .str _=>true
 | _=>false
noncomputable def look (k:Int):List (Int×D)->Option D
 | []=>none
 | p :: r=>if p.1=k then some p.2 else look k r
noncomputable def zcV (k:Int) (v:D) (kvs:List (Int×D)):List (Int×D) :=
 if (kvs.any fun p=>decide (p.1=k))=true then kvs.map (fun p=>if p.1=k then (p.1,v) else p) else kvs++[(k,v)]
noncomputable def inB (x:D) (xs:List D):Bool:=xs.any fun y=>peq y x
noncomputable def inV (x y:D):ME D:=fun _ h=>match y with
 | .tup ds=>if zbV x && ds.all zbV then .ok (.bl (inB x ds)) h else .bad
 | .obj n=>match h[n]? with
   | some (.lst xs)=>if zbV x && xs.all zbV then .ok (.bl (inB x xs)) h else .bad
   | some (.scr xs)=>if zbV x && xs.all zbV then .ok (.bl (inB x xs)) h else .bad
   | some (.dic kvs)=>match x with
     | .int k=> .ok (.bl (look k kvs).isSome) h
     | _=> .bad
   | _=> .bad
 | _=> .bad
noncomputable def zb2 (x y:D):ME D:=zm (inV x y) fun b=>match b with
 | .bl b=>zb (.bl !b)
 | _=>zI
noncomputable def isN:D->D->ME D
 | x,.non=>zb (.bl (decide (x = .non)))
 | .bl a,.bl b=>zb (.bl (a == b))
 | _,_=>zI
noncomputable def zch (x y:D):ME D:=zm (isN x y) fun b=>match b with
 | .bl b=>zb (.bl !b)
 | _=>zI
noncomputable def zfI:D->ME D
 | .bl b=>zb (.bl !b)
 | _=>zI
noncomputable def zc3 (a b:ME D):ME D:=zm a fun x=>match x with
 | .bl true=>b
 | .bl false=>zb (.bl false)
 | _=>zI
noncomputable def orV (a b:ME D):ME D:=zm a fun x=>match x with
 | .bl true=>zb (.bl true)
 | .bl false=>b
 | _=>zI
noncomputable def zex (f g:D->D->ME D) (a b c:ME D):ME D:=zm a fun x=>zm b fun y=>zm (f x y) fun t=>match t with
 | .bl true=>zm c fun z=>g y z
 | .bl false=>zb (.bl false)
 | _=>zI
noncomputable def tst (m:ME D):ME Bool:=zm m fun x=>match x with
 | .bl b=>zb b
 | _=>zI
noncomputable def zhj (x:D):ME Bool:=fun _ h=>match x with
 | .non=> .ok false h
 | .bl b=> .ok b h
 | .int i=> .ok (i != 0) h
 | .tup ds=> .ok (!ds.isEmpty) h
 | .obj n=>match h[n]? with
   | some (.lst xs)=> .ok (!xs.isEmpty) h
   | some (.scr xs)=> .ok (!xs.isEmpty) h
   | some (.dic kvs)=> .ok (!kvs.isEmpty) h
   | _=> .bad
 | _=> .bad
noncomputable def tru (m:ME D):ME Bool:=zm m zhj
noncomputable def zbT (a b:ME Bool):ME Bool:=zm a fun c=>if c=true then b else zb false
noncomputable def orT (a b:ME Bool):ME Bool:=zm a fun c=>if c=true then zb true else b
noncomputable def zO (a:ME Bool):ME Bool:=zm a fun c=>zb !c
noncomputable def ifE (t:ME Bool) (a b:ME D):ME D:=zm t fun c=>if c=true then a else b
noncomputable def ze:ME (List D):=zb []
noncomputable def za (a:ME D) (r:ME (List D)):ME (List D):=zm a fun x=>zm r fun xs=>zb (x :: xs)
noncomputable def zM (r:ME (List D)):ME D:=zm r fun xs=>if xs.length<=1000 then zb (.tup xs) else zI
noncomputable def zbq (r:ME (List D)):ME (List D):=zm r fun xs=>if xs.length<=1000 then zb xs else zI
noncomputable def zN (r:ME (List D)):ME D:=zm r fun xs=>zhf (.lst xs)
noncomputable def zc0 (a:ME D):ME (List D):=zm a fun x=>match x with
 | .obj n=>zcc n
 | _=>zI
noncomputable def zbW (a:ME D):ME (List D):=zm a fun x=>fun _ h=>match x with
 | .obj n=>(match h[n]? with
   | some (.lst xs)=> .ok xs h
   | some (.scr xs)=> .ok xs h
   | _=> .bad)
 | .tup ds=> .ok ds h
 | _=> .bad
noncomputable def ixN (n:Nat) (i:Int):Option Nat:=if 0<=i then (if i < n then some i.toNat else none) else if -(n:Int)<=i then some (i+n).toNat else none
noncomputable def atI {α:Type} (xs:List α) (i:Int):Option α:=(ixN xs.length i).bind fun j=>xs[j]?
noncomputable def zi (x i:D):ME D:=fun _ h=>match x,i with
 | .tup ds,.int i=>match atI ds i with
   | some d=> .ok d h
   | none=> .bad
 | .obj n,.int i=>match h[n]? with
   | some (.lst xs)=>(match atI xs i with
     | some d=> .ok d h
     | none=> .bad)
   | some (.scr xs)=>(match atI xs i with
     | some d=> .ok d h
     | none=> .bad)
   | some (.dic kvs)=>(match look i kvs with
     | some d=> .ok d h
     | none=> .bad)
   | _=> .bad
 | _,_=> .bad
noncomputable def sIx (n d:Nat):Option Int->Nat
 | none=>d
 | some v=>(if v < 0 then max (v+n) 0 else min v n).toNat
noncomputable def cut {α:Type} (xs:List α) (lo hi:Option Int):List α:=(xs.drop (sIx xs.length 0 lo)).take (sIx xs.length xs.length hi - sIx xs.length 0 lo)
noncomputable def noP:ME (Option Int):=zb none
noncomputable def zfR (a:ME D):ME (Option Int):=zm a fun x=>match x with
 | .int i=>zb (some i)
 | _=>zI
noncomputable def zhm (a:ME D) (lo hi:ME (Option Int)):ME (List D):=zm a fun x=>zm lo fun l=>zm hi fun u=>match x with
 | .obj n=>zm (zcc n) fun xs=>zb (cut xs l u)
 | _=>zI
noncomputable def zh3 (a:ME D) (lo hi:ME (Option Int)):ME D:=zm a fun x=>zm lo fun l=>zm hi fun u=>match x with
 | .tup ds=>if (cut ds l u).length < ds.length then zb (.tup (cut ds l u)) else zI
 | _=>zI
noncomputable def zhC (a:ME D):ME D:=zm a fun x=>match x with
 | .tup [p,q,_]=>zb (.tup [q,p])
 | _=>zI
noncomputable def zcI:List D->Option (List Bool)
 | []=>some []
 | .bl b :: r=>(zcI r).map (b :: ·)
 | _ :: _=>none
noncomputable def zcl:List D->Option (List Int)
 | []=>some []
 | .int b :: r=>(zcl r).map (b :: ·)
 | _ :: _=>none
noncomputable def zgs (l:ME (List D)):ME D:=zm l fun xs=>match zcI xs with
 | some bs=>zb (.bl (bs.all id))
 | none=>zI
noncomputable def zeq (l:ME (List D)):ME D:=zm l fun xs=>match zcI xs with
 | some bs=>zb (.bl (bs.any id))
 | none=>zI
noncomputable def ztY (l:ME (List D)):ME D:=zm l fun xs=>match zcl xs with
 | some ns=>zb (.int ns.sum)
 | none=>zI
noncomputable def zbU (l:ME (List D)):ME D:=zm l fun xs=>zb (.int xs.length)
noncomputable def zbv:List Int->List Int->List Int
 | _,[]=>[]
 | seen,x :: r=>if x∈seen then zbv seen r else x :: zbv (x :: seen) r
noncomputable def zhI (l:ME (List D)):ME D:=zm l fun xs=>match zcl xs with
 | some ns=>if ns.length < 4000 then zb (.int (zbv [] ns).length) else zI
 | none=>zI
noncomputable def zcv (x:Int):List Int->List Int
 | []=>[x]
 | y :: r=>if x<=y then x :: y :: r else y :: zcv x r
noncomputable def sortI (l:List Int):List Int:=l.foldr zcv []
noncomputable def ztd (l:ME (List D)):ME (List D):=zm l fun xs=>match zcl xs with
 | some ns=>if ns.length < 64 then zb ((sortI ns).map .int) else zI
 | none=>zI
noncomputable def ziw (l:ME (List D)):ME (List D):=zm l fun xs=>match zcl xs with
 | some ns=>if ns.length < 64 then zb ((sortI (zbv [] ns)).map .int) else zI
 | none=>zI
noncomputable def ziP (a:ME D):ME (List D):=zm a fun x=>fun _ h=>match x with
 | .obj n=>match h[n]? with
   | some (.dic kvs)=>if kvs.length < 64 then .ok ((sortI (kvs.map (·.1))).map .int) h else .bad
   | _=> .bad
 | _=> .bad
noncomputable def zeO (a:ME D):ME D:=zm a fun x=>match x with
 | .int i=>zb (.int (if i < 0 then -i else i))
 | _=>zI
noncomputable def zua (a:ME D):ME D:=zm a fun x=>match x with
 | .int i=>zb (.int i)
 | .bl b=>zb (.int (if b then 1 else 0))
 | _=>zI
noncomputable def zso (a n:ME D):ME (List D):=zm a fun x=>zm n fun k=>match x,k with
 | .obj m,.int k=>zm (zcc m) fun xs=>if -1000000<=k∧k<=1000000∧xs.length * k.toNat<=1000000 then zb (List.replicate k.toNat xs).flatten else zI
 | _,_=>zI
noncomputable def zfD (a:ME D) (b:ME (List D)):ME (List D):=zm a fun x=>zm b fun ys=>match x with
 | .obj m=>zm (zcc m) fun xs=>if xs.length+ys.length<=1000000 then zb (xs++ys) else zI
 | _=>zI
noncomputable def zeV:List D->Option (List (Int×D))
 | []=>some []
 | .tup [.int k,v] :: r=>(zeV r).map ((k,v) :: ·)
 | _ :: _=>none
noncomputable def zjf (l:ME (List D)):ME D:=zm l fun xs=>match zeV xs with
 | some ps=>if ps.length<=1000000 then zhf (.dic (ps.foldl (fun a p=>zcV p.1 p.2 a) [])) else zI
 | none=>zI
noncomputable def zpV:ME D:=zhf (.dic [])
noncomputable def ziI (a:ME D):ME (List D):=zm a fun x=>match x with
 | .int i=>if -1000000<=i∧i<=1000000 then zb ((List.range i.toNat).map fun (k:Nat)=>D.int k) else zI
 | _=>zI
inductive Ty where
 | int | bool | str | list | tuple | dict
deriving DecidableEq
noncomputable def zcg (h:MH) (t:Ty):D->Option Bool
 | .non=>some false
 | .bl _=>some (t == .bool || t == .int)
 | .int _=>some (t == .int)
 | .str _=>some (t == .str)
 | .tup _=>some (t == .tuple)
 | .obj n=>match h[n]? with
   | some (.lst _)=>some (t == .list)
   | some (.dic _)=>some (t == .dict)
   | _=>none
noncomputable def zcj (t:Ty) (a:ME D):ME D:=zm a fun x=>fun _ h=>match zcg h t x with
 | some b=> .ok (.bl b) h
 | none=> .bad
noncomputable def zw (sub:Nat->Nat->Bool) (c:Nat) (a:ME D):ME D:=zm a fun x=>fun _ h=>match x with
 | .obj n=>match h[n]? with
   | some (.ins c' _)=> .ok (.bl (sub c' c)) h
   | _=> .bad
 | _=> .bad
noncomputable def fld (k:Nat) (a:ME D):ME D:=zm a fun x=>fun _ h=>match x with
 | .obj n=>match h[n]? with
   | some (.ins _ fs)=>(match fs.lookup k with
     | some d=> .ok d h
     | none=> .bad)
   | _=> .bad
 | _=> .bad
noncomputable def zfh (k:Nat) (v:D):List (Nat×D)->List (Nat×D)
 | []=>[(k,v)]
 | p :: r=>if p.1=k then (k,v) :: r else p :: zfh k v r
noncomputable def isL (x:D):ME Unit:=fun _ h=>match x with
 | .obj n=>(match h[n]? with
   | some (.lst _)=> .ok () h
   | _=> .bad)
 | _=> .bad
noncomputable def zbg (a v:ME D):ME D:=zm a fun x=>zm (isL x) fun _=>zm v fun y=>fun _ h=>match x with
 | .obj n=>match h[n]? with
   | some (.lst xs)=>if xs.length < 1000000 then .ok .non (h.set n (.lst (xs++[y]))) else .bad
   | _=> .bad
 | _=> .bad
noncomputable def zsL (a:ME D):ME D:=zm a fun x=>fun _ h=>match x with
 | .obj n=>match h[n]? with
   | some (.lst xs)=>(match xs[xs.length - 1]? with
     | some y=> .ok y (h.set n (.lst xs.dropLast))
     | none=> .bad)
   | _=> .bad
 | _=> .bad
noncomputable def zio (a:ME D):ME D:=zm a fun x=>fun _ h=>match x with
 | .obj n=>match h[n]? with
   | some (.lst xs)=> .ok .non (h.set n (.lst xs.reverse))
   | _=> .bad
 | _=> .bad
noncomputable def zrI (a:ME D):ME D:=zm a fun x=>fun _ h=>match x with
 | .obj n=>match h[n]? with
   | some (.lst xs)=> .ok .non (h.set n (.lst []))
   | _=> .bad
 | _=> .bad
noncomputable def zHW (a b:ME D):ME D:=zm a fun x=>zm (isL x) fun _=>zm b fun y=>fun _ h=>match x,y with
 | .obj n,.obj m=>match h[n]?,h[m]? with
   | some (.lst xs),some (.lst ys)=>if xs.length+ys.length<=1000000 then .ok .non (h.set n (.lst (xs++ys))) else .bad
   | _,_=> .bad
 | _,_=> .bad
noncomputable def zev (h1 h2:MH):Bool:=(List.range h1.length).all fun i=>decide (h2[i]?=h1[i]?) || (match h2[i]? with
 | some o=>o.flat
 | none=>false)
noncomputable def zcz (n b:Nat) (h2:MH):List D->List Nat->Option (List D×List Nat)
 | [],ms=>some ([],ms)
 | .obj m :: r,ms=>if m < n then (zcz n b h2 r ms).map fun p=>(.obj m :: p.1,p.2)
   else if m∈ms then none else match h2[m]? with
     | some o=>if o.flat=true then (zcz n b h2 r (ms++[m])).map fun p=>(.obj (b+ms.length) :: p.1,p.2) else none
     | none=>none
 | d :: r,ms=>if d.nr=true then (zcz n b h2 r ms).map fun p=>(d :: p.1,p.2) else none
noncomputable def gcV (n:Nat) (v:D) (h2:MH):D×MH:=match v with
 | .obj m=>if m < n then (v,h2.take n) else match h2[m]? with
   | some (.ins c fs)=>(match zcz n (n+1) h2 (fs.map (·.2)) [] with
     | some (ds,ms)=>(.obj n,h2.take n ++ .ins c ((fs.map (·.1)).zip ds) :: ms.map fun k=>h2.getD k (.lst []))
     | none=>(v,h2))
   | some o=>if o.flat=true then (.obj n,h2.take n++[o]) else (v,h2)
   | none=>(v,h2)
 | .tup ds=>(match zcz n n h2 ds [] with
   | some (ds',ms)=>(.tup ds',h2.take n++ms.map fun k=>h2.getD k (.lst []))
   | none=>(v,h2))
 | _=>(v,h2.take n)
noncomputable def gc (h1:MH):R D->R D
 | .ok v h2=>if zev h1 h2=true then .ok (gcV h1.length v h2).1 (gcV h1.length v h2).2 else .ok v h2
 | r=>r
noncomputable def app (f:MF) (ds:List D) (h:MH):R D:=gc h (f ds h)
noncomputable def zj (f:MF) (args:ME (List D)):ME D:=zm args fun ds=>fun _ h=>app f ds h
noncomputable def mkF (c:Nat) (f:MF):MF:=fun ds h=>match f (.obj h.length :: ds) (h++[.ins c []]) with
 | .ok .non h2=> .ok (.obj h.length) h2
 | .ok _ _=> .bad
 | .ex c h2=> .ex c h2
 | .bad=> .bad
noncomputable def zR (tbl:List (Nat×MF)) (o:ME D) (args:ME (List D)):ME D:=zm o fun x=>fun e h=>match x with
 | .obj n=>match h[n]? with
   | some (.ins c _)=>(match tbl.lookup c with
     | some f=>zm args (fun ds=>fun _ h=>app f (x :: ds) h) e h
     | none=> .bad)
   | _=> .bad
 | _=> .bad
noncomputable def zcU {α:Type} (m:ME α) (k:α->MS):MS:=fun e h=>match m e h with
 | .ok a h1=>k a e h1
 | .ex c h1=> .ex c h1
 | .bad=> .bad
noncomputable def zp:MS:=fun e h=> .nx e h
noncomputable def zgB:MS:=fun _ _=> .bad
noncomputable def zf (a b:MS):MS:=fun e h=>match a e h with
 | .nx e1 h1=>b e1 h1
 | r=>r
noncomputable def ifS (t:ME Bool) (a b:MS):MS:=zcU t fun c=>if c=true then a else b
noncomputable def z9 (m:ME D):MS:=zcU m fun _=>zp
noncomputable def zn (m:ME D):MS:=zcU m fun v _ h=> .rt v h
noncomputable def zGB:MS:=fun e h=> .bk e h
noncomputable def zG3:MS:=fun e h=> .ct e h
inductive Tg where
 | nm (i:Nat) | tp (l:List Nat)
noncomputable def zet:List Nat->List D->zx->Option zx
 | [],[],e=>some e
 | i :: r,x :: xs,e=>zet r xs (e.set i (some x))
 | _,_,_=>none
noncomputable def zdC:Tg->D->zx->Option zx
 | .nm i,x,e=>some (e.set i (some x))
 | .tp l,.tup ds,e=>zet l ds e
 | .tp _,_,_=>none
noncomputable def zh0 (t:Tg) (v:D):MS:=fun e h=>match zdC t v e with
 | some e1=> .nx e1 h
 | none=> .bad
noncomputable def zk (t:Tg) (m:ME D):MS:=zcU m (zh0 t)
noncomputable def zim (l:List Nat) (m:ME (List D)):MS:=zcU m fun vs e h=>match zet l vs e with
 | some e1=> .nx e1 h
 | none=> .bad
noncomputable def zhs (f:D->D->ME D) (i:Nat) (m:ME D):MS:=zk (.nm i) (zm (var i) fun x=>zm m fun y=>f x y)
noncomputable def zfN (att:Nat->Nat->Bool) (k:Nat) (o v:ME D):MS:=zcU v fun y=>zcU o fun x=>fun e h=>match x with
 | .obj n=>(match h[n]? with
   | some (.ins c fs)=>if att c k && decide (fs.length < 100) then .nx e (h.set n (.ins c (zfh k y fs))) else .bad
   | _=> .bad)
 | _=> .bad
noncomputable def zgG (o i v:ME D):MS:=zcU v fun y=>zcU o fun x=>zcU i fun z=>fun e h=>match x,z with
 | .obj n,.int k=>(match h[n]? with
   | some (.lst xs)=>(match ixN xs.length k with
     | some j=> .nx e (h.set n (.lst (xs.set j y)))
     | none=> .bad)
   | some (.dic kvs)=>if kvs.length < 1000000 then .nx e (h.set n (.dic (zcV k y kvs))) else .bad
   | _=> .bad)
 | _,_=> .bad
abbrev Src:=List D×List (Nat×O)
noncomputable def guard (gs:List (Nat×O)) (h:MH):Bool:=gs.all fun p=>decide (h[p.1]?=some p.2)
noncomputable def zpE (n:Nat) (f:List D->List D):ME Src:=fun _ h=>match h[n]? with
 | some (.lst xs)=> .ok (f xs,[(n,.lst xs)]) h
 | _=> .bad
noncomputable def zpA (k:Nat):List D->List D
 | []=>[]
 | x :: r=> .tup [.int k,x] :: zpA (k+1) r
noncomputable def zc4:List D->List D->List D
 | x :: r,y :: q=> .tup [x,y] :: zc4 r q
 | _,_=>[]
noncomputable def itL (a:ME D):ME Src:=zm a fun x=>match x with
 | .obj n=>zpE n id
 | _=>zI
noncomputable def itT (a:ME D):ME Src:=zm a fun x=>match x with
 | .tup ds=>zb (ds,[])
 | _=>zI
noncomputable def itR (a:ME D):ME Src:=zm a fun x=>match x with
 | .int i=>if -1000000<=i∧i<=1000000 then zb ((List.range i.toNat).map fun (k:Nat)=>D.int k,[]) else zI
 | _=>zI
noncomputable def itE (a:ME D):ME Src:=zm a fun x=>match x with
 | .obj n=>zpE n (zpA 0)
 | _=>zI
noncomputable def itZ (a b:ME D):ME Src:=zm a fun x=>zm b fun y=>match x,y with
 | .obj n,.obj m=>fun _ h=>(match h[n]?,h[m]? with
   | some (.lst xs),some (.lst ys)=> .ok (zc4 xs ys,[(n,.lst xs),(m,.lst ys)]) h
   | _,_=> .bad)
 | _,_=>zI
noncomputable def zfK (r:RS) (k:MS):RS:=match r with
 | .nx e h=>k e h
 | .ct e h=>k e h
 | .bk e h=> .nx e h
 | r=>r
noncomputable def zc8 (t:Tg) (gs:List (Nat×O)) (body:MS):List D->MS
 | [],e,h=>if guard gs h=true then .nx e h else .bad
 | x :: xs,e,h=>if guard gs h=true then (match zdC t x e with
     | none=> .bad
     | some e1=>zfK (body e1 h) (zc8 t gs body xs)) else .bad
noncomputable def zcD (t:Tg) (src:ME Src) (body:MS):MS:=zcU src fun p=>zc8 t p.2 body p.1
noncomputable def zGU (kvs:List (Int×D)):List D:=kvs.map fun p=> .tup [.int p.1,p.2]
noncomputable def zFS (kvs:List (Int×D)):List D:=kvs.map (·.2)
noncomputable def ztx (n:Nat) (kvs:List (Int×D)):RS->RS
 | .nx e h=>if h[n]?=some .hole then .nx e (h.set n (.dic kvs)) else .bad
 | .bk e h=>if h[n]?=some .hole then .bk e (h.set n (.dic kvs)) else .bad
 | .ct e h=>if h[n]?=some .hole then .ct e (h.set n (.dic kvs)) else .bad
 | .rt v h=>if h[n]?=some .hole then .rt v (h.set n (.dic kvs)) else .bad
 | .ex _ _=> .bad
 | .bad=> .bad
noncomputable def zrV {α:Type} (n:Nat) (kvs:List (Int×D)):R α->R α
 | .ok a h=>if h[n]?=some .hole then .ok a (h.set n (.dic kvs)) else .bad
 | .ex _ _=> .bad
 | .bad=> .bad
noncomputable def zrR (pr:List (Int×D)->List D) (t:Tg) (a:ME D) (body:MS):MS:=zcU a fun x=>fun e h=>match x with
 | .obj n=>(match h[n]? with
   | some (.dic kvs)=>ztx n kvs (zc8 t [] body (pr kvs) e (h.set n .hole))
   | _=> .bad)
 | _=> .bad
noncomputable def zfF (t:ME Bool) (body:MS):Nat->MS
 | 0=>zgB
 | n+1=>zcU t fun c=>if c=true then (fun e h=>zfK (body e h) (zfF t body n)) else zp
noncomputable def zhB (t:ME Bool) (body:MS):MS:=zfF t body 1000000
noncomputable def zbS (js:List (Option Nat)) (e:zx):zx:=js.map fun j=>j.bind fun k=>(e[k]?).join
noncomputable def zcw (t:Tg) (gs:List (Nat×O)) (cond:ME Bool) (elt:ME D):List D->List D->ME (List D)
 | [],acc,e,h=>if guard gs h=true then .ok acc h else .bad
 | x :: xs,acc,e,h=>if guard gs h=true then (match zdC t x e with
     | none=> .bad
     | some e1=>zm cond (fun c=>if c=true then zm elt (fun y=>zcw t gs cond elt xs (acc++[y])) else zcw t gs cond elt xs acc) e1 h) else .bad
noncomputable def zco:ME Bool:=zb true
noncomputable def zcx (js:List (Option Nat)) (t:Tg) (src:ME Src) (cond:ME Bool) (elt:ME D):ME (List D):=zm src fun p=>fun e h=>if p.1.length<=1000000 then zcw t p.2 cond elt p.1 [] (zbS js e) h else .bad
noncomputable def zsC (pr:List (Int×D)->List D) (js:List (Option Nat)) (t:Tg) (a:ME D) (cond:ME Bool) (elt:ME D):ME (List D):=zm a fun x=>fun e h=>match x with
 | .obj n=>(match h[n]? with
   | some (.dic kvs)=>if (pr kvs).length<=1000000 then zrV n kvs (zcw t [] cond elt (pr kvs) [] (zbS js e) (h.set n .hole)) else .bad
   | _=> .bad)
 | _=> .bad
noncomputable def zZ (np nl:Nat) (body:MS):MF:=fun ds h=>if ds.length=np then (match body (ds.map some++List.replicate (nl - np) none) h with
 | .nx _ h1=> .ok .non h1
 | .rt v h1=> .ok v h1
 | .ex c h1=> .ex c h1
 | _=> .bad) else .bad
end MI
end
section
namespace MI
open PySem (Str)
noncomputable def zB {α β:Type} (r:R α) (f:α->MH->R β):R β:=match r with
 | .ok a h=>f a h
 | .ex c h=> .ex c h
 | .bad=> .bad
noncomputable def zcS {α:Type} (r:R α) (f:α->MH->RS):RS:=match r with
 | .ok a h=>f a h
 | .ex c h=> .ex c h
 | .bad=> .bad
noncomputable def zgl (r:RS) (f:zx->MH->RS):RS:=match r with
 | .nx e h=>f e h
 | r=>r
noncomputable def zhM (r:RS):R D:=match r with
 | .nx _ h1=> .ok .non h1
 | .rt v h1=> .ok v h1
 | .ex c h1=> .ex c h1
 | _=> .bad
section
variable {α β:Type}{e e1:zx}{h h1:MH}{x y z d v:D}{i j:Int}{n m k:Nat}
@[simp] theorem zCB (a:α) (f:α->MH->R β):zB (.ok a h) f=f a h:=rfl
@[simp] theorem zGA (f:α->MH->R β):zB (.bad) f = .bad:=rfl
@[simp] theorem ziV (a:α) (f:α->MH->RS):zcS (.ok a h) f=f a h:=rfl
@[simp] theorem zH8 (f:α->MH->RS):zcS (.bad) f = .bad:=rfl
@[simp] theorem zce (f:zx->MH->RS):zgl (.nx e h) f=f e h:=rfl
@[simp] theorem zH0 (f:zx->MH->RS):zgl (.rt v h) f = .rt v h:=rfl
@[simp] theorem zG9 (f:zx->MH->RS):zgl (.bk e h) f = .bk e h:=rfl
@[simp] theorem zHz (f:zx->MH->RS):zgl (.ct e h) f = .ct e h:=rfl
@[simp] theorem zF8 (f:zx->MH->RS):zgl .bad f = .bad:=rfl
@[simp] theorem zHy:zhM (.nx e h) = .ok .non h:=rfl
@[simp] theorem zGw:zhM (.rt v h) = .ok v h:=rfl
@[simp] theorem zFW:zhM .bad = .bad:=rfl
@[simp] theorem zC6 (f:MS):zfK (.nx e h) f=f e h:=rfl
@[simp] theorem zGb (f:MS):zfK (.ct e h) f=f e h:=rfl
@[simp] theorem zH6 (f:MS):zfK (.rt v h) f = .rt v h:=rfl
@[simp] theorem zG2 (f:MS):zfK .bad f = .bad:=rfl
@[simp] theorem zL (a:ME α) (f:α->ME β):zm a f e h=zB (a e h) fun x h1=>f x e h1:=by unfold zm zB;cases a e h <;> rfl
@[simp] theorem zeZ (a:ME α) (f:α->MS):zcU a f e h=zcS (a e h) fun x h1=>f x e h1:=by unfold zcU zcS;cases a e h <;> rfl
@[simp] theorem zcr (a b:MS):zf a b e h=zgl (a e h) b:=by unfold zf zgl;cases a e h <;> rfl
@[simp] theorem zFD (np nl:Nat) (b:MS) (ds:List D):zZ np nl b ds h=if ds.length=np then zhM (b (ds.map some++List.replicate (nl - np) none) h) else .bad:=by
 unfold zZ zhM
 split
 . cases b (ds.map some++List.replicate (nl - np) none) h <;> rfl
 . rfl
@[simp] theorem zHB (a:α):zb a e h = .ok a h:=rfl
@[simp] theorem zGr:(zI:ME α) e h = .bad:=rfl
@[simp] theorem zHH:var n e h=match e[n]? with
 | some (some d)=> .ok d h
 | _=> .bad:=rfl
@[simp] theorem zGu (f:D->ME D) (a:ME D):un f a e h=zB (a e h) fun x h1=>f x e h1:=zL _ _
@[simp] theorem zHQ (f:D->D->ME D) (a b:ME D):MI.bin f a b e h=zB (a e h) fun x h1=>zB (b e h1) fun y h2=>f x y e h2:=by unfold MI.bin;simp
@[simp] theorem zGQ (o:O):zhf o e h = .ok (.obj h.length) (h++[o]):=rfl
@[simp] theorem zFP:zcf (.int i) e h = .ok (.int (-i)) h:=rfl
@[simp] theorem zGC:zE (.int i) (.int j) e h = .ok (.int (i+j)) h:=rfl
@[simp] theorem zGS:zbj (.int i) (.int j) e h = .ok (.int (i - j)) h:=rfl
@[simp] theorem zHi:zdr (.int i) (.int j) e h=if 0 < j∧j < 1073741824 then .ok (.int (i / j)) h else .bad:=by simp only [zdr];split <;> rfl
@[simp] theorem zHN:zbc (.int i) (.int j) e h=if 0 < j then .ok (.int (i % j)) h else .bad:=by simp only [zbc];split <;> rfl
@[simp] theorem zr5:zb1 (.int i) (.int j) e h=if (zcF i || zcF j)=true then .ok (.int (i * j)) h else .bad:=by simp only [zb1];split <;> rfl
@[simp] theorem zG8:ltV (.int i) (.int j) e h = .ok (.bl (decide (i < j))) h:=rfl
@[simp] theorem zHq:leV (.int i) (.int j) e h = .ok (.bl (decide (i<=j))) h:=rfl
@[simp] theorem zGJ:gtV (.int i) (.int j) e h = .ok (.bl (decide (j < i))) h:=rfl
@[simp] theorem zGl:geV (.int i) (.int j) e h = .ok (.bl (decide (j<=i))) h:=rfl
@[simp] theorem zH1:eqV (.int i) (.int j) e h = .ok (.bl (decide (i=j))) h:=by simp only [eqV,zb8,D.pl,if_pos,Cmp.eq,peq,Bool.beq_eq_decide_eq]
@[simp] theorem zGL:neV (.int i) (.int j) e h = .ok (.bl (!decide (i=j))) h:=by simp only [neV,zb8,D.pl,if_pos,Cmp.eq,peq,Bool.beq_eq_decide_eq]
@[simp] theorem zGP {a b:Bool}:eqV (.bl a) (.bl b) e h = .ok (.bl (a == b)) h:=rfl
@[simp] theorem zHa {a b:Bool}:neV (.bl a) (.bl b) e h = .ok (.bl (!(a == b))) h:=rfl
@[simp] theorem zGM {b:Bool}:zfI (.bl b) e h = .ok (.bl !b) h:=rfl
@[simp] theorem zGD:isN x .non e h = .ok (.bl (decide (x = .non))) h:=by cases x <;> rfl
@[simp] theorem zGI {a b:Bool}:isN (.bl a) (.bl b) e h = .ok (.bl (a == b)) h:=rfl
@[simp] theorem zHK:zch x .non e h = .ok (.bl (!decide (x = .non))) h:=by cases x <;> rfl
@[simp] theorem zHc {a b:Bool}:zch (.bl a) (.bl b) e h = .ok (.bl (!(a == b))) h:=rfl
noncomputable def zhH (r:R D) (f:MH->R D):R D:=zB r fun x h1=>match x with
 | .bl true=>f h1
 | .bl false=> .ok (.bl false) h1
 | _=> .bad
noncomputable def orR (r:R D) (f:MH->R D):R D:=zB r fun x h1=>match x with
 | .bl true=> .ok (.bl true) h1
 | .bl false=>f h1
 | _=> .bad
@[simp] theorem zGX {b:Bool} (f:MH->R D):zhH (.ok (.bl b) h) f=if b=true then f h else .ok (.bl false) h:=by cases b <;> rfl
@[simp] theorem zGE {b:Bool} (f:MH->R D):orR (.ok (.bl b) h) f=if b=true then .ok (.bl true) h else f h:=by cases b <;> rfl
@[simp] theorem zIa (a b:ME D):zc3 a b e h=zhH (a e h) (b e):=by
 unfold zc3 zhH
 rw [zL]
 cases a e h with
 | ok x h1=>cases x <;> first | rfl | (rename_i b;cases b <;> rfl)
 | _=>rfl
@[simp] theorem zHR (a b:ME D):orV a b e h=orR (a e h) (b e):=by
 unfold orV orR
 rw [zL]
 cases a e h with
 | ok x h1=>cases x <;> first | rfl | (rename_i b;cases b <;> rfl)
 | _=>rfl
@[simp] theorem zHA (f g:D->D->ME D) (a b c:ME D):zex f g a b c e h=zB (a e h) fun x h1=>zB (b e h1) fun y h2=>zhH (f x y e h2) fun h3=>zB (c e h3) fun z h4=>g y z e h4:=by
 unfold zex
 simp only [zL]
 congr 1;funext x h1;congr 1;funext y h2
 unfold zhH
 congr 1;funext t h3
 cases t <;> first | rfl | (rename_i b;cases b <;> simp)
noncomputable def zpt (r:R D):R Bool:=zB r fun x h1=>match x with
 | .bl b=> .ok b h1
 | _=> .bad
@[simp] theorem zHb {b:Bool}:zpt (.ok (.bl b) h) = .ok b h:=rfl
@[simp] theorem zGg (a:ME D):tst a e h=zpt (a e h):=by
 unfold tst zpt
 rw [zL]
 congr 1;funext x h1;cases x <;> rfl
@[simp] theorem zG5 (a:ME D):tru a e h=zB (a e h) fun x h1=>zhj x e h1:=by unfold tru;rw [zL]
@[simp] theorem zHP {b:Bool}:zhj (.bl b) e h = .ok b h:=rfl
@[simp] theorem zGW:zhj .non e h = .ok false h:=rfl
@[simp] theorem zHe:zhj (.int i) e h = .ok (i != 0) h:=rfl
@[simp] theorem zF1 (a b:ME Bool):zbT a b e h=zB (a e h) fun c h1=>if c=true then b e h1 else .ok false h1:=by unfold zbT;rw [zL];congr 1;funext c h1;cases c <;> rfl
@[simp] theorem zFY (a b:ME Bool):orT a b e h=zB (a e h) fun c h1=>if c=true then .ok true h1 else b e h1:=by unfold orT;rw [zL];congr 1;funext c h1;cases c <;> rfl
@[simp] theorem zHg (a:ME Bool):zO a e h=zB (a e h) fun c h1=> .ok (!c) h1:=by unfold zO;rw [zL];rfl
@[simp] theorem zG0 (t:ME Bool) (a b:ME D):ifE t a b e h=zB (t e h) fun c h1=>if c=true then a e h1 else b e h1:=by unfold ifE;rw [zL];congr 1;funext c h1;cases c <;> rfl
@[simp] theorem zGZ:ze e h = .ok [] h:=rfl
@[simp] theorem zGt (a:ME D) (r:ME (List D)):za a r e h=zB (a e h) fun x h1=>zB (r e h1) fun xs h2=> .ok (x :: xs) h2:=by unfold za;simp
@[simp] theorem zHu (r:ME (List D)):zM r e h=zB (r e h) fun xs h1=>if xs.length<=1000 then .ok (.tup xs) h1 else .bad:=by unfold zM;rw [zL];congr 1;funext xs h1;split <;> rfl
@[simp] theorem zGm (r:ME (List D)):zbq r e h=zB (r e h) fun xs h1=>if xs.length<=1000 then .ok xs h1 else .bad:=by unfold zbq;rw [zL];congr 1;funext xs h1;split <;> rfl
@[simp] theorem zFN (r:ME (List D)):zN r e h=zB (r e h) fun xs h1=> .ok (.obj h1.length) (h1++[.lst xs]):=by unfold zN;rw [zL];rfl
@[simp] theorem zGT:zcc n e h=match h[n]? with
 | some (.lst xs)=> .ok xs h
 | _=> .bad:=rfl
@[simp] theorem zHF (a:ME D):zc0 a e h=zB (a e h) fun x h1=>match x with
 | .obj n=>zcc n e h1
 | _=> .bad:=by unfold zc0;rw [zL];congr 1;funext x h1;cases x <;> rfl
@[simp] theorem zHT (a:ME D):zbW a e h=zB (a e h) fun x h1=>match x with
 | .obj n=>(match h1[n]? with
   | some (.lst xs)=> .ok xs h1
   | some (.scr xs)=> .ok xs h1
   | _=> .bad)
 | .tup ds=> .ok ds h1
 | _=> .bad:=by unfold zbW;rw [zL] <;> congr 1
@[simp] theorem zFR:noP e h = .ok none h:=rfl
@[simp] theorem zG1 (a:ME D):zfR a e h=zB (a e h) fun x h1=>match x with
 | .int i=> .ok (some i) h1
 | _=> .bad:=by unfold zfR;rw [zL];congr 1;funext x h1;cases x <;> rfl
@[simp] theorem zHl (a:ME D) (lo hi:ME (Option Int)):zhm a lo hi e h=zB (a e h) fun x h1=>zB (lo e h1) fun l h2=>zB (hi e h2) fun u h3=>match x with
 | .obj n=>zB (zcc n e h3) fun xs h4=> .ok (cut xs l u) h4
 | _=> .bad:=by unfold zhm;simp only [zL];congr 1;funext x h1;congr 1;funext l h2;congr 1;funext u h3;cases x <;> simp
@[simp] theorem zF5 (a:ME D) (lo hi:ME (Option Int)):zh3 a lo hi e h=zB (a e h) fun x h1=>zB (lo e h1) fun l h2=>zB (hi e h2) fun u h3=>match x with
 | .tup ds=>if (cut ds l u).length < ds.length then .ok (.tup (cut ds l u)) h3 else .bad
 | _=> .bad:=by unfold zh3;simp only [zL];congr 1;funext x h1;congr 1;funext l h2;congr 1;funext u h3;cases x <;> first | rfl | (dsimp only;split <;> rfl)
@[simp] theorem zHm (a:ME D):zhC a e h=zB (a e h) fun x h1=>match x with
 | .tup [p,q,_]=> .ok (.tup [q,p]) h1
 | _=> .bad:=by unfold zhC;rw [zL];congr 1;funext x h1;rcases x with _|_|_|_|l|_ <;> first | rfl | (rcases l with _|⟨a0,_|⟨a1,_|⟨a2,_|⟨a3,l⟩⟩⟩⟩ <;> rfl)
@[simp] theorem zFZ (l:ME (List D)):zgs l e h=zB (l e h) fun xs h1=>match zcI xs with
 | some bs=> .ok (.bl (bs.all id)) h1
 | none=> .bad:=by unfold zgs;rw [zL];congr 1;funext x h1;cases hh:zcI x <;> simp [hh]
@[simp] theorem zHf (l:ME (List D)):zeq l e h=zB (l e h) fun xs h1=>match zcI xs with
 | some bs=> .ok (.bl (bs.any id)) h1
 | none=> .bad:=by unfold zeq;rw [zL];congr 1;funext x h1;cases hh:zcI x <;> simp [hh]
@[simp] theorem zF9 (l:ME (List D)):ztY l e h=zB (l e h) fun xs h1=>match zcl xs with
 | some bs=> .ok (.int bs.sum) h1
 | none=> .bad:=by unfold ztY;rw [zL];congr 1;funext x h1;cases hh:zcl x <;> simp [hh]
@[simp] theorem zsY (l:ME (List D)):zbU l e h=zB (l e h) fun xs h1=> .ok (.int xs.length) h1:=by unfold zbU;rw [zL];rfl
@[simp] theorem zFQ (l:ME (List D)):zhI l e h=zB (l e h) fun xs h1=>match zcl xs with
 | some ns=>if ns.length < 4000 then .ok (.int (zbv [] ns).length) h1 else .bad
 | none=> .bad:=by unfold zhI;rw [zL];congr 1;funext x h1;cases hh:zcl x <;> simp [hh];split <;> rfl
@[simp] theorem zHj (l:ME (List D)):ztd l e h=zB (l e h) fun xs h1=>match zcl xs with
 | some ns=>if ns.length < 64 then .ok ((sortI ns).map .int) h1 else .bad
 | none=> .bad:=by unfold ztd;rw [zL];congr 1;funext x h1;cases hh:zcl x <;> simp [hh];split <;> rfl
@[simp] theorem zFM (a:ME D):zeO a e h=zB (a e h) fun x h1=>match x with
 | .int i=> .ok (.int (if i < 0 then -i else i)) h1
 | _=> .bad:=by unfold zeO;rw [zL];congr 1;funext x h1;cases x <;> rfl
@[simp] theorem zH9 (a:ME D):zua a e h=zB (a e h) fun x h1=>match x with
 | .int i=> .ok (.int i) h1
 | .bl b=> .ok (.int (if b then 1 else 0)) h1
 | _=> .bad:=by unfold zua;rw [zL];congr 1;funext x h1;cases x <;> rfl
@[simp] theorem zFK (a b:ME D):zso a b e h=zB (a e h) fun x h1=>zB (b e h1) fun kk h2=>match x,kk with
 | .obj m,.int k=>zB (zcc m e h2) fun xs h3=>if -1000000<=k∧k<=1000000∧xs.length * k.toNat<=1000000 then .ok (List.replicate k.toNat xs).flatten h3 else .bad
 | _,_=> .bad:=by
 unfold zso;simp only [zL];congr 1;funext x h1;congr 1;funext y h2
 cases x <;> cases y <;> first | rfl | (dsimp only;rw [zL];congr 1;funext xs h3;split <;> rfl)
@[simp] theorem zHI (a:ME D) (b:ME (List D)):zfD a b e h=zB (a e h) fun x h1=>zB (b e h1) fun ys h2=>match x with
 | .obj m=>zB (zcc m e h2) fun xs h3=>if xs.length+ys.length<=1000000 then .ok (xs++ys) h3 else .bad
 | _=> .bad:=by
 unfold zfD;simp only [zL];congr 1;funext x h1;congr 1;funext y h2
 cases x <;> first | rfl | (dsimp only;rw [zL];congr 1;funext xs h3;split <;> rfl)
@[simp] theorem zG6:zpV e h = .ok (.obj h.length) (h++[.dic []]):=rfl
@[simp] theorem zGN (a:ME D):ziI a e h=zB (a e h) fun x h1=>match x with
 | .int i=>if -1000000<=i∧i<=1000000 then .ok ((List.range i.toNat).map fun (k:Nat)=>D.int k) h1 else .bad
 | _=> .bad:=by unfold ziI;rw [zL];congr 1;funext x h1;cases x <;> first | rfl | (dsimp only;split <;> rfl)
@[simp] theorem zF6 (t:Ty) (a:ME D):zcj t a e h=zB (a e h) fun x h1=>match zcg h1 t x with
 | some b=> .ok (.bl b) h1
 | none=> .bad:=by unfold zcj;rw [zL] <;> congr 1
@[simp] theorem zGR (s:Nat->Nat->Bool) (a:ME D):zw s n a e h=zB (a e h) fun x h1=>match x with
 | .obj n'=>match h1[n']? with
   | some (.ins c' _)=> .ok (.bl (s c' n)) h1
   | _=> .bad
 | _=> .bad:=by unfold zw;rw [zL] <;> congr 1
@[simp] theorem zFJ (a:ME D):fld k a e h=zB (a e h) fun x h1=>match x with
 | .obj n=>match h1[n]? with
   | some (.ins _ fs)=>(match fs.lookup k with
     | some d=> .ok d h1
     | none=> .bad)
   | _=> .bad
 | _=> .bad:=by unfold fld;rw [zL] <;> congr 1
noncomputable def zdc (x:D) (h:MH) (r:R D):R D:=match x with
 | .obj n=>(match h[n]? with
   | some (.lst _)=>r
   | _=> .bad)
 | _=> .bad
@[simp] theorem zGx (a b:ME D):zbg a b e h=zB (a e h) fun x h1=>zdc x h1 (zB (b e h1) fun y h2=>match x with
 | .obj n=>match h2[n]? with
   | some (.lst xs)=>if xs.length < 1000000 then .ok .non (h2.set n (.lst (xs++[y]))) else .bad
   | _=> .bad
 | _=> .bad):=by
 unfold zbg;simp only [zL];congr 1;funext x h1
 unfold isL zdc
 cases x <;> first | rfl | skip
 dsimp only
 split <;> simp_all <;> congr 1
@[simp] theorem zGv (a:ME D):zio a e h=zB (a e h) fun x h1=>match x with
 | .obj n=>match h1[n]? with
   | some (.lst xs)=> .ok .non (h1.set n (.lst xs.reverse))
   | _=> .bad
 | _=> .bad:=by unfold zio;rw [zL] <;> congr 1
@[simp] theorem zGV (a:ME D):zrI a e h=zB (a e h) fun x h1=>match x with
 | .obj n=>match h1[n]? with
   | some (.lst xs)=> .ok .non (h1.set n (.lst []))
   | _=> .bad
 | _=> .bad:=by unfold zrI;rw [zL] <;> congr 1
@[simp] theorem zFX (a:ME D):zsL a e h=zB (a e h) fun x h1=>match x with
 | .obj n=>match h1[n]? with
   | some (.lst xs)=>(match xs[xs.length - 1]? with
     | some y=> .ok y (h1.set n (.lst xs.dropLast))
     | none=> .bad)
   | _=> .bad
 | _=> .bad:=by unfold zsL;rw [zL] <;> congr 1
@[simp] theorem zHM (f:MF) (a:ME (List D)):zj f a e h=zB (a e h) fun ds h1=>app f ds h1:=by unfold zj;rw [zL]
@[simp] theorem zF7 (tbl:List (Nat×MF)) (o:ME D) (a:ME (List D)):zR tbl o a e h=zB (o e h) fun x h1=>match x with
 | .obj n=>match h1[n]? with
   | some (.ins c _)=>(match tbl.lookup c with
     | some f=>zB (a e h1) fun ds h2=>app f (x :: ds) h2
     | none=> .bad)
   | _=> .bad
 | _=> .bad:=by
 unfold zR;rw [zL] <;> congr 1
@[simp] theorem zFI:zp e h = .nx e h:=rfl
@[simp] theorem zG4 (t:ME Bool) (a b:MS):ifS t a b e h=zcS (t e h) fun c h1=>if c=true then a e h1 else b e h1:=by unfold ifS;rw [zeZ];congr 1;funext c h1;cases c <;> rfl
@[simp] theorem zHx (a:ME D):z9 a e h=zcS (a e h) fun _ h1=> .nx e h1:=by unfold z9;rw [zeZ];rfl
@[simp] theorem zGq (a:ME D):zn a e h=zcS (a e h) fun v h1=> .rt v h1:=by unfold zn;rw [zeZ]
@[simp] theorem zCO (t:Tg) (a:ME D):zk t a e h=zcS (a e h) fun v h1=>zh0 t v e h1:=by unfold zk;rw [zeZ]
@[simp] theorem zHS:zh0 (.nm n) v e h = .nx (e.set n (some v)) h:=rfl
@[simp] theorem zHC (l:List Nat) (ds:List D):zh0 (.tp l) (.tup ds) e h=match zet l ds e with
 | some e1=> .nx e1 h
 | none=> .bad:=rfl
@[simp] theorem zH4 (l:List Nat) (a:ME (List D)):zim l a e h=zcS (a e h) fun vs h1=>match zet l vs e with
 | some e1=> .nx e1 h1
 | none=> .bad:=by unfold zim;rw [zeZ] <;> congr 1
@[simp] theorem zGe:zet [] [] e=some e:=rfl
@[simp] theorem zHD (l:List Nat) (ds:List D):zet (n :: l) (x :: ds) e=zet l ds (e.set n (some x)):=rfl
@[simp] theorem zCL:zdC (.nm n) x e=some (e.set n (some x)):=rfl
@[simp] theorem zHO (l:List Nat) (ds:List D):zdC (.tp l) (.tup ds) e=zet l ds e:=rfl
@[simp] theorem zGa (f:D->D->ME D) (a:ME D):zhs f n a e h=zcS (zB (var n e h) fun x h1=>zB (a e h1) fun y h2=>f x y e h2) fun v h1=> .nx (e.set n (some v)) h1:=by unfold zhs;rw [zCO];simp only [zL];rfl
@[simp] theorem zGY (att:Nat->Nat->Bool) (o a:ME D):zfN att k o a e h=zcS (a e h) fun y h1=>zcS (o e h1) fun x h2=>match x with
 | .obj n=>(match h2[n]? with
   | some (.ins c fs)=>if (att c k && decide (fs.length < 100))=true then .nx e (h2.set n (.ins c (zfh k y fs))) else .bad
   | _=> .bad)
 | _=> .bad:=by unfold zfN;rw [zeZ] <;> congr 1
@[simp] theorem zGh (o i a:ME D):zgG o i a e h=zcS (a e h) fun y h1=>zcS (o e h1) fun x h2=>zcS (i e h2) fun z h3=>match x,z with
 | .obj n,.int k=>(match h3[n]? with
   | some (.lst xs)=>(match ixN xs.length k with
     | some j=> .nx e (h3.set n (.lst (xs.set j y)))
     | none=> .bad)
   | some (.dic kvs)=>if kvs.length < 1000000 then .nx e (h3.set n (.dic (zcV k y kvs))) else .bad
   | _=> .bad)
 | _,_=> .bad:=by unfold zgG;rw [zeZ] <;> congr 1
@[simp] theorem zpM (t:Tg) (s:ME Src) (b:MS):zcD t s b e h=zcS (s e h) fun p h1=>zc8 t p.2 b p.1 e h1:=by unfold zcD;rw [zeZ]
@[simp] theorem zGf (a:ME D):itL a e h=zB (a e h) fun x h1=>match x with
 | .obj n=>(match h1[n]? with
   | some (.lst xs)=> .ok (xs,[(n,.lst xs)]) h1
   | _=> .bad)
 | _=> .bad:=by unfold itL;rw [zL];congr 1;funext x h1;cases x <;> rfl
@[simp] theorem zHJ (a:ME D):itE a e h=zB (a e h) fun x h1=>match x with
 | .obj n=>(match h1[n]? with
   | some (.lst xs)=> .ok (zpA 0 xs,[(n,.lst xs)]) h1
   | _=> .bad)
 | _=> .bad:=by unfold itE;rw [zL];congr 1;funext x h1;cases x <;> rfl
@[simp] theorem zHv (a:ME D):itT a e h=zB (a e h) fun x h1=>match x with
 | .tup ds=> .ok (ds,[]) h1
 | _=> .bad:=by unfold itT;rw [zL];congr 1;funext x h1;cases x <;> rfl
@[simp] theorem zHo (a:ME D):itR a e h=zB (a e h) fun x h1=>match x with
 | .int i=>if -1000000<=i∧i<=1000000 then .ok ((List.range i.toNat).map fun (k:Nat)=>D.int k,[]) h1 else .bad
 | _=> .bad:=by unfold itR;rw [zL];congr 1;funext x h1;cases x <;> first | rfl | (dsimp only;split <;> rfl)
@[simp] theorem zHX (js:List (Option Nat)) (t:Tg) (s:ME Src) (c:ME Bool) (a:ME D):zcx js t s c a e h=zB (s e h) fun p h1=>if p.1.length<=1000000 then zcw t p.2 c a p.1 [] (zbS js e) h1 else .bad:=by unfold zcx;rw [zL]
@[simp] theorem zGF (pr:List (Int×D)->List D) (js:List (Option Nat)) (t:Tg) (a:ME D) (c:ME Bool) (b:ME D):zsC pr js t a c b e h=zB (a e h) fun x h1=>match x with
 | .obj n=>(match h1[n]? with
   | some (.dic kvs)=>if (pr kvs).length<=1000000 then zrV n kvs (zcw t [] c b (pr kvs) [] (zbS js e) (h1.set n .hole)) else .bad
   | _=> .bad)
 | _=> .bad:=by unfold zsC;rw [zL] <;> congr 1
@[simp] theorem zFO (pr:List (Int×D)->List D) (t:Tg) (a:ME D) (b:MS):zrR pr t a b e h=zcS (a e h) fun x h1=>match x with
 | .obj n=>(match h1[n]? with
   | some (.dic kvs)=>ztx n kvs (zc8 t [] b (pr kvs) e (h1.set n .hole))
   | _=> .bad)
 | _=> .bad:=by unfold zrR;rw [zeZ] <;> congr 1
@[simp] theorem zHV:zco e h = .ok true h:=rfl
@[simp] theorem zHh (a:D) (l:List D):MI.atI (a :: l) 0=some a:=by simp [MI.atI,ixN]
@[simp] theorem zHY (a b:D) (l:List D):MI.atI (a :: b :: l) 1=some b:=by rw [MI.atI,show ixN (a :: b :: l).length 1=some 1 from by unfold ixN;rw [if_pos (by omega),if_pos (by simp only [List.length_cons];omega)];rfl];rfl
@[simp] theorem zF3 (a b c:D) (l:List D):MI.atI (a :: b :: c :: l) 2=some c:=by rw [MI.atI,show ixN (a :: b :: c :: l).length 2=some 2 from by unfold ixN;rw [if_pos (by omega),if_pos (by simp only [List.length_cons];omega)];rfl];rfl
theorem zEj {n k:Nat} (h:k < n):ixN n (k:Int)=some k:=by
 unfold ixN
 rw [if_pos (by omega),if_pos (by omega)];simp
theorem zgA {α:Type}{xs:List α}{k:Nat} (h:k < xs.length):MI.atI xs (k:Int)=some xs[k]:=by
 unfold MI.atI
 rw [zEj h];simp [h]
theorem ziC {α:Type} (xs:List α) (a:α):MI.atI (xs++[a]) (-1)=some a:=by
 unfold MI.atI ixN
 rw [if_neg (by omega),if_pos (by simp;omega)]
 have e:(-1+((xs++[a]).length:Int)).toNat=xs.length:=by simp;omega
 rw [e];simp
theorem zG {h:MH}{n:Nat}{o:O} (e:h[n]?=some o) (g:MH):(h++g)[n]?=some o:=by rw [List.getElem?_append_left (List.getElem?_eq_some_iff.mp e).1];exact e
@[simp] theorem zGc (h g:MH):(h++g)[h.length]?=g[0]?:=by rw [List.getElem?_append_right (Nat.le_refl _)];simp
@[simp] theorem zcQ (h g:MH) (k:Nat):(h++g)[h.length+k]?=g[k]?:=by rw [List.getElem?_append_right (by omega)];congr 1;omega
@[simp] theorem zGn (h:MH) (a o:O) (g:MH):(h++a :: g).set h.length o=h++o :: g:=by rw [List.set_append_right _ _ (Nat.le_refl _)];simp
@[simp] theorem zto (h g:MH) (k:Nat) (o:O):(h++g).set (h.length+k) o=h++g.set k o:=by rw [List.set_append_right _ _ (by omega)];congr 2;omega
theorem zGG {h:MH}{n:Nat} (hn:n < h.length) (o:O) (g:MH):(h++g).set n o=h.set n o++g:=by rw [List.set_append_left _ _ hn]
theorem zGO {h:MH}{n:Nat}{o:O} (e:h[n]?=some o):h.set n o=h:=by
 apply List.ext_getElem?
 intro i
 by_cases hi:n=i
 . subst hi
   rw [List.getElem?_set_self (List.getElem?_eq_some_iff.mp e).1,e]
 . rw [List.getElem?_set_ne hi]
theorem zen (h g:MH):zev h (h++g)=true:=by
 unfold zev
 rw [List.all_eq_true]
 intro i hi
 rw [List.mem_range]at hi
 rw [List.getElem?_append_left hi];simp
theorem zGj (h:MH):zev h h=true:=by have:=zen h [];simpa using this
@[simp] theorem zH3 (h:MH):gc h .bad = .bad:=rfl
theorem zAS (h g:MH) (i:Int):gc h (.ok (.int i) (h++g)) = .ok (.int i) h:=by simp [gc,zen,gcV]
theorem zcm (h g:MH) (b:Bool):gc h (.ok (.bl b) (h++g)) = .ok (.bl b) h:=by simp [gc,zen,gcV]
theorem ztZ (h g:MH):gc h (.ok .non (h++g)) = .ok .non h:=by simp [gc,zen,gcV]
@[simp] theorem zF2 (h:MH) (i:Int):gc h (.ok (.int i) h) = .ok (.int i) h:=by have:=zAS h [] i;simpa using this
@[simp] theorem zFL (h:MH) (b:Bool):gc h (.ok (.bl b) h) = .ok (.bl b) h:=by have:=zcm h [] b;simpa using this
@[simp] theorem zHd (h:MH):gc h (.ok .non h) = .ok .non h:=by have:=ztZ h [];simpa using this
theorem zrT (n b:Nat) (h2:MH):∀ (ds:List D) (ms:List Nat),nrs ds=true->zcz n b h2 ds ms=some (ds,ms)
 | [],ms,_=>rfl
 | d :: ds,ms,hn=>by
   unfold nrs at hn
   rw [Bool.and_eq_true]at hn
   have ih:=zrT n b h2 ds ms hn.2
   cases d with
   | obj m=>simp [D.nr]at hn
   | _=>simp only [zcz,hn.1,if_pos,ih];rfl
theorem zBY (h g:MH) {ds:List D} (hn:nrs ds=true):gc h (.ok (.tup ds) (h++g)) = .ok (.tup ds) h:=by
 simp only [gc,zen,if_pos,gcV,zrT _ _ _ _ _ hn]
 simp
theorem ziO (h:MH) {ds:List D} (hn:nrs ds=true):gc h (.ok (.tup ds) h) = .ok (.tup ds) h:=by have:=zBY h [] hn;simpa using this
theorem ztu (h g:MH) {k:Nat}{o:O} (e:g[k]?=some o) (f:o.flat=true):gc h (.ok (.obj (h.length+k)) (h++g)) = .ok (.obj h.length) (h++[o]):=by
 have hlt:¬ h.length+k < h.length:=by omega
 simp only [gc,zen,if_pos,gcV,if_neg hlt,zcQ,e]
 cases o with
 | ins c fs=>cases f
 | _=>simp [f]
theorem ztg (h g:MH) {o:O} (f:o.flat=true):gc h (.ok (.obj h.length) (h++o :: g)) = .ok (.obj h.length) (h++[o]):=ztu h (o :: g) (k:=0) rfl f
end
end MI
end
section
open PySem MI
namespace My
noncomputable def zo:Nat->Nat->Bool:=fun a b=>[(0,0),(1,1),(2,1),(2,2),(3,1),(3,3),(4,1),(4,4),(5,1),(5,5),(6,1),(6,6),(7,1),(7,7),(8,1),(8,8),(9,1),(9,9),(10,1),(10,10)].contains (a,b)
noncomputable def zfi:Nat->Nat->Bool:=fun a b=>[(0,0),(0,1),(0,2),(2,3),(3,4),(4,5),(4,6),(5,7),(6,8),(6,4),(7,4),(8,0),(9,4),(10,0)].contains (a,b)
noncomputable def ze3:MF:=zZ 1 1
   (zn (zc3 (zcj .int (var 0)) (un zfI (zcj .bool (var 0)))))
noncomputable def zcJ:MF:=zZ 3 3
   (zn (zc3 (zj ze3 (za (var 0) ze)) (zex leV leV (var 1) (var 0) (var 2))))
noncomputable def zer:MF:=zZ 2 2
   (zn (zj zcJ (za (var 1) (za (zb (.int (0))) (za (bin zbj (var 0) (zb (.int (1)))) ze)))))
noncomputable def zfS:MF:=zZ 2 2
   (zf (ifS (orT (zO (tru (zcj .tuple (var 1)))) (tst (bin neV (zbU (zbW (var 1))) (zb (.int (3)))))) (zn (zb (.bl false))) zp)
   (zf (ifS (orT (zO (tru (zj zer (za (var 0) (za (bin zi (var 1) (zb (.int (0)))) ze))))) (zO (tru (zj zer (za (var 0) (za (bin zi (var 1) (zb (.int (1)))) ze)))))) (zn (zb (.bl false))) zp)
   (zn (zc3 (bin neV (bin zi (var 1) (zb (.int (0)))) (bin zi (var 1) (zb (.int (1))))) (zj zcJ (za (bin zi (var 1) (zb (.int (2)))) (za (un zcf (zb (.int (1000000)))) (za (zb (.int (1000000))) ze))))))))
noncomputable def zfp:MF:=zZ 2 2
   (zf (ifS (zO (tru (zj zfS (za (var 0) (za (var 1) ze))))) zgB zp)
   (zn (zM (za (bin zi (var 1) (zb (.int (0)))) (za (bin zi (var 1) (zb (.int (1)))) (za (bin zi (var 1) (zb (.int (2)))) ze))))))
noncomputable def zhv:MF:=zZ 4 4
   (zf (ifS (zO (tru (zj zcJ (za (var 1) (za (zb (.int (1))) (za (zb (.int (1000000))) ze)))))) zgB zp)
   (zf (ifS (zO (tru (zj zcJ (za (var 3) (za (zb (.int (0))) (za (zb (.int (1000000))) ze)))))) zgB zp)
   (zf (ifS (zO (tru (zcj .list (var 2)))) zgB zp)
   (zf (zfN zfi 0 (var 0) (var 1))
   (zf (zfN zfi 1 (var 0) (var 3))
   (zfN zfi 2 (var 0) (zN (zcx [none,some 1] (.nm 0) (itL (var 2)) zco (zj zfp (za (var 1) (za (var 0) ze)))))))))))
noncomputable def zh4:MF:=zZ 1 1
   (zn (zN (zc0 (fld 2 (var 0)))))
noncomputable def zfT:MF:=zZ 1 1
   (zn (zM (za (bin zi (var 0) (zb (.int (1)))) (za (bin zi (var 0) (zb (.int (0)))) (za (un zcf (bin zi (var 0) (zb (.int (2))))) ze)))))
noncomputable def zdA:MF:=zZ 2 2
   (zn (zj zcJ (za (var 1) (za (zb (.int (0))) (za (bin zbj (zbU (zbW (var 0))) (zb (.int (1)))) ze)))))
noncomputable def zfq:MF:=zZ 2 2
   (zf (ifS (orT (zO (tru (zcj .tuple (var 1)))) (tst (bin neV (zbU (zbW (var 1))) (zb (.int (2)))))) (zn (zb (.bl false))) zp)
   (zn (zc3 (zj zdA (za (var 0) (za (bin zi (var 1) (zb (.int (0)))) ze))) (zc3 (zj ze3 (za (bin zi (var 1) (zb (.int (1)))) ze)) (bin inV (bin zi (var 1) (zb (.int (1)))) (zM (za (zb (.int (1))) (za (zb (.int (-1))) ze))))))))
noncomputable def zc6:MF:=zZ 2 3
   (zf (zk (.nm 2) (bin zi (var 0) (bin zi (var 1) (zb (.int (0))))))
   (zn (ifE (tst (bin eqV (bin zi (var 1) (zb (.int (1)))) (zb (.int (1))))) (var 2) (zj zfT (za (var 2) ze)))))
noncomputable def zcb:List (Nat×MF):=[(0,zh4)]
noncomputable def zfU:MF:=zZ 3 7
   (zf (ifS (orT (zO (tru (zj zer (za (fld 0 (var 0)) (za (var 1) ze))))) (zO (tru (zcj .list (var 2))))) (zn (zb .non)) zp)
   (zf (zk (.nm 3) (zR zcb (var 0) ze))
   (zf (zk (.nm 4) (zN (zbq ze)))
   (zf (zk (.nm 5) (var 1))
   (zf (zcD (.nm 6) (itL (var 2))
   (zf (ifS (zO (tru (zj zfq (za (var 3) (za (var 6) ze))))) (zn (zb .non)) zp)
   (zf (z9 (zbg (var 4) (zj zc6 (za (var 3) (za (var 6) ze)))))
   (zf (ifS (tst (bin neV (bin zi (bin zi (var 4) (un zcf (zb (.int (1))))) (zb (.int (0)))) (var 5))) (zn (zb .non)) zp)
   (zk (.nm 5) (bin zi (bin zi (var 4) (un zcf (zb (.int (1))))) (zb (.int (1)))))))))
   (zn (var 4)))))))
noncomputable def ze4:MF:=zZ 3 4
   (zf (zk (.nm 3) (zj zfU (za (var 0) (za (var 1) (za (var 2) ze)))))
   (zf (ifS (tst (bin isN (var 3) (zb .non))) (zn (zb .non)) zp)
   (zn (zN (zfD (zN (zbq (za (var 1) ze))) (zcx [none] (.nm 0) (itL (var 3)) zco (bin zi (var 0) (zb (.int (1))))))))))
noncomputable def zfV:MF:=zZ 3 4
   (zf (zk (.nm 3) (zj ze4 (za (var 0) (za (var 1) (za (var 2) ze)))))
   (zn (zc3 (bin zch (var 3) (zb .non)) (bin eqV (zhI (zc0 (var 3))) (zbU (zbW (var 3)))))))
noncomputable def zfW:MF:=zZ 4 4
   (zn (zc3 (zj zfV (za (var 0) (za (var 1) (za (var 3) ze)))) (bin eqV (bin zi (zj ze4 (za (var 0) (za (var 1) (za (var 3) ze)))) (un zcf (zb (.int (1))))) (var 2))))
noncomputable def zfX:MF:=zZ 1 1
   (zn (zN (ziI (zbU (zbW (zR zcb (var 0) ze))))))
noncomputable def zfY:MF:=zZ 2 5
   (zf (zk (.nm 2) (zR zcb (var 0) ze))
   (zf (zk (.nm 3) (zN (zcx [none] (.nm 0) (itR (fld 0 (var 0))) zco (zN (zbq ze)))))
   (zf (zcD (.nm 4) (itL (var 1))
   (zf (z9 (zbg (bin zi (var 3) (bin zi (bin zi (var 2) (var 4)) (zb (.int (0))))) (zM (za (var 4) (za (zb (.int (1))) ze)))))
   (z9 (zbg (bin zi (var 3) (bin zi (bin zi (var 2) (var 4)) (zb (.int (1))))) (zM (za (var 4) (za (zb (.int (-1))) ze)))))))
   (zn (var 3)))))
noncomputable def zfZ:MF:=zZ 4 9
   (zf (zgG (var 3) (var 2) (zb .non))
   (zf (zk (.nm 4) (zN (zbq (za (var 2) ze))))
   (zf (zk (.nm 5) (zb (.int (0))))
   (zhB (tst (bin ltV (var 5) (zbU (zbW (var 4))))) (zf (zk (.nm 6) (bin zi (var 4) (var 5)))
   (zf (zcD (.nm 7) (itL (bin zi (var 1) (var 6)))
   (zf (zk (.nm 8) (bin zi (zj zc6 (za (var 0) (za (var 7) ze))) (zb (.int (1)))))
   (ifS (tst (bin zb2 (var 8) (var 3))) (zf (zgG (var 3) (var 8) (var 7))
   (z9 (zbg (var 4) (var 8)))) zp)))
   (zhs zE 5 (zb (.int (1))))))))))
noncomputable def zf0:MF:=zZ 3 4
   (zf (zk (.nm 3) zpV)
   (zf (z9 (zj zfZ (za (zR zcb (var 0) ze) (za (zj zfY (za (var 0) (za (var 1) ze))) (za (var 2) (za (var 3) ze))))))
   (zn (var 3))))
noncomputable def zf1:MF:=zZ 3 6
   (zf (zk (.nm 3) (zR zcb (var 0) ze))
   (zf (zk (.nm 4) (zN (zbq ze)))
   (zf (zk (.nm 5) (var 2))
   (zf (zhB (tst (bin zch (bin zi (var 1) (var 5)) (zb .non))) (zf (z9 (zbg (var 4) (bin zi (var 1) (var 5))))
   (zk (.nm 5) (bin zi (zj zc6 (za (var 3) (za (bin zi (var 1) (var 5)) ze))) (zb (.int (0)))))))
   (zf (z9 (zio (var 4)))
   (zn (var 4)))))))
noncomputable def zf2:MF:=zZ 2 2
   (zf (ifS (orT (zO (tru (zcj .list (var 0)))) (zO (tru (zgs (zcx [none,some 1] (.nm 0) (itL (var 0)) zco (zj zcJ (za (var 0) (za (zb (.int (0))) (za (bin zbj (var 1) (zb (.int (1)))) ze))))))))) (zn (zb (.bl false))) zp)
   (zn (zgs (zcx [none,none] (.tp [0,1]) (itZ (var 0) (zN (zhm (var 0) (zfR (zb (.int (1)))) noP))) zco (bin ltV (var 0) (var 1))))))
noncomputable def zf3:MF:=zZ 4 5
   (zf (zk (.nm 4) (zjf (zcx [none] (.nm 0) (itL (var 0)) zco (zM (za (var 0) (za (zb (.bl true)) ze))))))
   (zf (ifS (orT (tst (bin zb2 (var 2) (var 4))) (tst (bin inV (var 3) (var 4)))) (zn (zb (.bl false))) zp)
   (zn (zgs (zcx [none,some 4] (.nm 0) (itL (var 1)) zco (bin eqV (bin inV (bin zi (var 0) (zb (.int (0)))) (var 1)) (bin inV (bin zi (var 0) (zb (.int (1)))) (var 1))))))))
noncomputable def zh5:MF:=zZ 2 2
   (zfN zfi 4 (var 0) (zN (zc0 (var 1))))
noncomputable def zhw:MF:=zZ 3 4
   (zf (zk (.nm 3) (zR zcb (var 1) ze))
   (zf (ifS (orT (zO (tru (zj zdA (za (var 3) (za (var 2) ze))))) (zO (tru (zj zfW (za (var 1) (za (bin zi (bin zi (var 3) (var 2)) (zb (.int (0)))) (za (bin zi (bin zi (var 3) (var 2)) (zb (.int (1)))) (za (fld 4 (var 0)) ze)))))))) (zn (zb (.bl false))) zp)
   (zn (zgs (zcx [none,some 2] (.nm 0) (itL (fld 4 (var 0))) zco (bin neV (bin zi (var 0) (zb (.int (0)))) (var 1)))))))
noncomputable def zh6:MF:=zZ 2 2
   (zfN zfi 0 (var 0) (zN (zc0 (var 1))))
noncomputable def zhx:MF:=zZ 3 4
   (zf (zk (.nm 3) (zR zcb (var 1) ze))
   (zf (ifS (orT (zO (tru (zj zdA (za (var 3) (za (var 2) ze))))) (zO (tru (zj zf2 (za (fld 0 (var 0)) (za (fld 0 (var 1)) ze)))))) (zn (zb (.bl false))) zp)
   (zn (zj zf3 (za (fld 0 (var 0)) (za (zN (zfD (zN (zhm (var 3) noP (zfR (var 2)))) (zhm (var 3) (zfR (bin zE (var 2) (zb (.int (1))))) noP))) (za (bin zi (bin zi (var 3) (var 2)) (zb (.int (0)))) (za (bin zi (bin zi (var 3) (var 2)) (zb (.int (1)))) ze))))))))
noncomputable def zcX:MF:=zZ 2 5
   (zf (zk (.nm 2) (zR zcb (var 0) ze))
   (zf (ifS (zO (tru (zj zdA (za (var 2) (za (var 1) ze))))) zgB zp)
   (zf (zk (.nm 3) (zN (zcx [none,some 1] (.nm 0) (itL (zj zfX (za (var 0) ze))) (tst (bin neV (var 0) (var 1))) (var 0))))
   (zf (zk (.nm 4) (zj zf0 (za (var 0) (za (var 3) (za (bin zi (bin zi (var 2) (var 1)) (zb (.int (0)))) ze)))))
   (zf (ifS (tst (bin inV (bin zi (bin zi (var 2) (var 1)) (zb (.int (1)))) (var 4))) (zn (zj (mkF 9 zh5) (za (zj zf1 (za (var 0) (za (var 4) (za (bin zi (bin zi (var 2) (var 1)) (zb (.int (1)))) ze)))) ze))) zp)
   (zn (zj (mkF 10 zh6) (za (zN (ziP (var 4))) ze))))))))
noncomputable def zb9:MF:=zZ 2 2
   (zf (ifS (tst (bin ltV (var 1) (zbU (zbW (var 0))))) (zn (bin zi (var 0) (var 1))) zp)
   (zn (zb (.int (0)))))
noncomputable def zD:MF:=zZ 3 4
   (zf (zk (.nm 3) (zM (za (zb (.int (1000003))) (za (zb (.int (1000033))) (za (zb (.int (1000037))) (za (zb (.int (1000039))) (za (zb (.int (1000081))) (za (zb (.int (1000099))) (za (zb (.int (1000117))) (za (zb (.int (1000121))) (za (zb (.int (1000133))) (za (zb (.int (1000151))) (za (zb (.int (1000159))) (za (zb (.int (1000171))) (za (zb (.int (1000183))) (za (zb (.int (1000187))) (za (zb (.int (1000193))) (za (zb (.int (1000199))) ze))))))))))))))))))
   (zn (bin zbc (bin zbc (bin zE (bin zb1 (var 0) (zb (.int (48271)))) (bin zb1 (var 1) (zb (.int (69621))))) (bin zi (var 3) (bin zbc (var 1) (zb (.int (16)))))) (var 2))))
noncomputable def zfr:MF:=zZ 1 15
   (zf (zk (.nm 1) (bin zdr (bin zb1 (zbU (zbW (var 0))) (bin zi (zM (za (zb (.int (1))) (za (zb (.int (2))) (za (zb (.int (3))) ze)))) (zj zD (za (zj zb9 (za (var 0) (za (zb (.int (1))) ze))) (za (zb (.int (2))) (za (zb (.int (3))) ze)))))) (zb (.int (3)))))
   (zf (zk (.nm 2) (bin zE (zb (.int (2))) (zj zD (za (zj zb9 (za (var 0) (za (zb (.int (0))) ze))) (za (zb (.int (1))) (za (bin zE (zb (.int (2))) (var 1)) ze))))))
   (zf (zk (.nm 3) (bin zi (zM (za (zb (.int (0))) (za (zb (.int (0))) (za (zb (.int (2))) (za (zb (.int (3))) (za (zb (.int (12))) (za (zb (.int (1))) (za (zb (.int (1000000))) ze)))))))) (zj zD (za (zj zb9 (za (var 0) (za (zb (.int (2))) ze))) (za (zb (.int (3))) (za (zb (.int (7))) ze))))))
   (zf (zk (.nm 4) (bin zi (zM (za (zb (.int (2))) (za (zb (.int (3))) (za (zb (.int (40))) (za (zb (.int (400000))) ze))))) (zj zD (za (zj zb9 (za (var 0) (za (zb (.int (0))) ze))) (za (zb (.int (4))) (za (zb (.int (4))) ze))))))
   (zf (zk (.nm 5) (bin zi (zM (za (zb (.int (0))) (za (zb (.int (0))) (za (zb (.int (5))) (za (zb (.int (30))) ze))))) (zj zD (za (zj zb9 (za (var 0) (za (zb (.int (1))) ze))) (za (zb (.int (5))) (za (zb (.int (4))) ze))))))
   (zf (zk (.nm 6) (zc3 (bin gtV (var 2) (zb (.int (3)))) (bin eqV (zj zD (za (zj zb9 (za (var 0) (za (zb (.int (2))) ze))) (za (zb (.int (8))) (za (zb (.int (4))) ze)))) (zb (.int (0))))))
   (zf (zk (.nm 7) (zN (zbq ze)))
   (zf (zcD (.nm 8) (itR (zbU (zbW (var 0))))
   (zf (zk (.nm 9) (zj zD (za (bin zi (var 0) (var 8)) (za (bin zE (bin zbc (var 8) (zb (.int (5)))) (zb (.int (1)))) (za (var 2) ze)))))
   (zf (zk (.nm 10) (bin zbc (bin zE (bin zE (var 9) (zb (.int (1)))) (zj zD (za (bin zi (var 0) (var 8)) (za (bin zE (bin zbc (var 8) (zb (.int (7)))) (zb (.int (2)))) (za (bin zbj (var 2) (zb (.int (1)))) ze))))) (var 2)))
   (zf (ifS (tru (var 6)) (zf (zk (.nm 11) (ifE (tst (bin ltV (var 9) (bin zdr (var 2) (zb (.int (2)))))) (zb (.int (0))) (bin zdr (var 2) (zb (.int (2))))))
   (zf (zk (.nm 12) (ifE (tst (bin eqV (var 11) (zb (.int (0))))) (bin zdr (var 2) (zb (.int (2)))) (bin zbj (var 2) (var 11))))
   (zf (zk (.nm 13) (bin zE (zb (.int (1))) (zj zD (za (bin zi (var 0) (var 8)) (za (bin zE (bin zbc (var 8) (zb (.int (7)))) (zb (.int (2)))) (za (bin zbj (var 12) (zb (.int (1)))) ze))))))
   (zk (.nm 10) (bin zE (var 11) (bin zbc (bin zE (bin zbj (var 9) (var 11)) (var 13)) (var 12))))))) zp)
   (zf (zk (.nm 14) (bin zbj (zj zD (za (bin zb1 (var 10) (zb (.int (7919)))) (za (zb (.int (6))) (za (var 4) ze)))) (zj zD (za (bin zb1 (var 9) (zb (.int (7919)))) (za (zb (.int (6))) (za (var 4) ze))))))
   (zf (ifS (zbT (tst (bin gtV (var 5) (zb (.int (0))))) (tst (bin eqV (zj zD (za (bin zi (var 0) (var 8)) (za (bin zE (bin zbc (var 8) (zb (.int (3)))) (zb (.int (9)))) (za (var 5) ze)))) (zb (.int (0)))))) (zk (.nm 14) (bin zE (var 14) (zb (.int (1))))) zp)
   (zf (ifS (zbT (tst (bin gtV (var 3) (zb (.int (0))))) (zbT (tst (bin eqV (zj zD (za (bin zi (var 0) (var 8)) (za (zb (.int (12))) (za (zb (.int (3))) ze)))) (zb (.int (0))))) (tst (bin ltV (bin zE (zeO (var 14)) (var 3)) (zb (.int (1000000))))))) (zk (.nm 14) (bin zbj (var 14) (var 3))) zp)
   (z9 (zbg (var 7) (zM (za (var 9) (za (var 10) (za (var 14) ze)))))))))))))
   (zn (zM (za (var 2) (za (var 7) (za (var 3) ze)))))))))))))
noncomputable def zf4:MF:=zZ 3 9
   (zf (zim [3,4] (za (zN (zbq (za (var 1) ze))) (za (zb (.int (0))) ze)))
   (zf (zcD (.nm 5) (itL (var 2))
   (zf (ifS (orT (zO (tru (zcj .tuple (var 5)))) (tst (bin neV (zbU (zbW (var 5))) (zb (.int (2)))))) (zn (zM (za (zN (zbq ze)) (za (zb (.int (0))) ze)))) zp)
   (zf (zk (.tp [6,7]) (var 5))
   (zf (ifS (orT (tru (zcj .bool (var 6))) (orT (zO (tru (zcj .int (var 6)))) (orT (zO (tst (zex leV ltV (zb (.int (0))) (var 6) (zbU (zbW (var 0)))))) (tst (bin zb2 (var 7) (zM (za (zb (.int (1))) (za (un zcf (zb (.int (1)))) ze)))))))) (zn (zM (za (zN (zbq ze)) (za (zb (.int (0))) ze)))) zp)
   (zf (zk (.nm 8) (ifE (tst (bin eqV (var 7) (zb (.int (1))))) (zh3 (bin zi (var 0) (var 6)) noP (zfR (zb (.int (2))))) (zhC (bin zi (var 0) (var 6)))))
   (zf (ifS (tst (bin neV (bin zi (var 3) (un zcf (zb (.int (1))))) (bin zi (var 8) (zb (.int (0)))))) (zn (zM (za (zN (zbq ze)) (za (zb (.int (0))) ze)))) zp)
   (zf (z9 (zbg (var 3) (bin zi (var 8) (zb (.int (1))))))
   (zk (.nm 4) (bin zE (var 4) (bin zb1 (var 7) (bin zi (bin zi (var 0) (var 6)) (zb (.int (2))))))))))))))
   (zn (zM (za (var 3) (za (var 4) ze))))))
noncomputable def zdB:MF:=zZ 1 1
   (zf (ifS (zO (tru (zcj .list (var 0)))) (zn (zb (.bl false))) zp)
   (zn (un zfI (zeq (zcx [none] (.nm 0) (itL (var 0)) zco (orV (zcj .bool (var 0)) (un zfI (zcj .int (var 0)))))))))
noncomputable def zf5:MF:=zZ 4 5
   (zf (zk (.nm 4) (bin zi (zj zf4 (za (var 0) (za (var 1) (za (var 2) ze)))) (zb (.int (0)))))
   (zn (zc3 (bin neV (var 4) (zN (zbq ze))) (zc3 (bin eqV (bin zi (var 4) (un zcf (zb (.int (1))))) (var 3)) (bin eqV (zhI (zc0 (var 4))) (zbU (zbW (var 4))))))))
noncomputable def zf6:MF:=zZ 4 5
   (zf (ifS (orT (tst (bin neV (var 2) (zN (ziw (zc0 (var 2)))))) (tru (zeq (zcx [none,some 0] (.nm 0) (itL (var 2)) zco (un zfI (zex leV ltV (zb (.int (0))) (var 0) (var 1))))))) (zn (zb (.bl false))) zp)
   (zf (zcD (.nm 4) (itR (zbU (zbW (var 1))))
   (ifS (zbT (tst (bin neV (var 4) (var 3))) (tst (bin neV (bin inV (bin zi (bin zi (var 1) (var 4)) (zb (.int (0)))) (var 2)) (bin inV (bin zi (bin zi (var 1) (var 4)) (zb (.int (1)))) (var 2))))) (zn (zb (.bl false))) zp))
   (zn (zb (.bl true)))))
noncomputable def zbP:MF:=zZ 4 7
   (zf (zk (.tp [4,5,6]) (bin zi (var 1) (var 2)))
   (zf (ifS (tru (zw zo 9 (var 3))) (zn (zc3 (zj zf5 (za (var 1) (za (var 4) (za (fld 4 (var 3)) (za (var 5) ze))))) (bin zb2 (var 2) (zN (zcx [none] (.nm 0) (itL (fld 4 (var 3))) zco (bin zi (var 0) (zb (.int (0))))))))) zp)
   (zn (zc3 (bin inV (var 4) (fld 0 (var 3))) (zc3 (bin zb2 (var 5) (fld 0 (var 3))) (zj zf6 (za (var 0) (za (var 1) (za (fld 0 (var 3)) (za (var 2) ze))))))))))
noncomputable def zbK:List (Nat×MF):=[(9,zhw),(10,zhx)]
noncomputable def zhy:MF:=zZ 1 11
   (zf (zk (.tp [1,2,3]) (zj zfr (za (var 0) ze)))
   (zf (zk (.tp [4,5]) (zM (za (zj (mkF 0 zhv) (za (var 1) (za (var 2) (za (var 3) ze)))) (za (zbU (zbW (var 2))) ze))))
   (zf (zk (.nm 6) (ifE (tst (bin gtV (var 5) (zb (.int (0))))) (zN (zcx [none,some 5,some 0] (.nm 0) (itR (zb (.int (8)))) zco (zj zD (za (zj zb9 (za (var 2) (za (var 0) ze))) (za (zb (.int (3))) (za (var 1) ze)))))) (zN (zbq ze))))
   (zf (zcD (.nm 7) (itL (ifE (tst (bin gtV (var 5) (zb (.int (0))))) (zN (zfD (var 6) (zbq (za (bin zbj (var 5) (zb (.int (1)))) (za (zb (.int (0))) ze))))) (zN (zbq ze))))
   (zf (zk (.nm 8) (zj zcX (za (var 4) (za (var 7) ze))))
   (zf (ifS (orT (zO (tru (zw zo 1 (var 8)))) (tst (bin eqV (zw zo 9 (var 8)) (zw zo 10 (var 8))))) (zn (zb (.bl false))) zp)
   (zf (zk (.nm 9) (zN (zbq (za (zw zo 2 (var 8)) (za (zw zo 3 (var 8)) (za (zw zo 7 (var 8)) (za (zw zo 8 (var 8)) ze)))))))
   (zf (ifS (orT (tru (zeq (zc0 (var 9)))) (orT (tru (zw zo 5 (var 8))) (orT (tru (zw zo 4 (var 8))) (tru (zw zo 6 (var 8)))))) (zn (zb (.bl false))) zp)
   (zf (ifS (orT (zO (tru (zj zbP (za (var 1) (za (var 2) (za (var 7) (za (var 8) ze))))))) (tst (bin zch (zR zbK (var 8) (za (var 4) (za (var 7) ze))) (zb (.bl true))))) (zn (zb (.bl false))) zp)
   (zf (zcD (.nm 10) (itT (zM (za (zb (.int (0))) (za (bin zbc (bin zE (var 7) (zb (.int (1)))) (var 5)) ze))))
   (ifS (tst (bin neV (zR zbK (var 8) (za (var 4) (za (var 10) ze))) (zj zbP (za (var 1) (za (var 2) (za (var 10) (za (var 8) ze))))))) (zn (zb (.bl false))) zp))
   (zf (ifS (tru (zw zo 10 (var 8))) (zf (ifS (zO (tru (zj zdB (za (fld 0 (var 8)) ze)))) (zn (zb (.bl false))) zp)
   (z9 (zbg (fld 0 (var 8)) (un zcf (zb (.int (1))))))) (z9 (zbg (fld 4 (var 8)) (zM (za (var 7) (za (zb (.int (1))) ze))))))
   (ifS (tst (bin zch (zR zbK (var 8) (za (var 4) (za (var 7) ze))) (zb (.bl false)))) (zn (zb (.bl false))) zp)))))))))
   (zn (bin eqV (zR zcb (var 4) ze) (var 2)))))))
end My
end
section
open PySem MI
namespace Mx
open My
structure T3 where
 a:Int
 b:Int
 n:Int
noncomputable def tD (t:T3):D := .tup [.int t.a,.int t.b,.int t.n]
@[simp] theorem zHr (t:T3) (e:zx) (h:MH):zi (tD t) (.int 0) e h = .ok (.int t.a) h:=rfl
@[simp] theorem zGp (t:T3) (e:zx) (h:MH):zi (tD t) (.int 1) e h = .ok (.int t.b) h:=rfl
@[simp] theorem zHp (t:T3) (e:zx) (h:MH):zi (tD t) (.int 2) e h = .ok (.int t.n) h:=rfl
theorem zbn (n:Nat) (i:Int) (e:zx) (h:MH):zi (.obj n) (.int i) e h=match h[n]? with
   | some (.lst xs)=>(match MI.atI xs i with
     | some d=> .ok d h
     | none=> .bad)
   | some (.scr xs)=>(match MI.atI xs i with
     | some d=> .ok d h
     | none=> .bad)
   | some (.dic kvs)=>(match look i kvs with
     | some d=> .ok d h
     | none=> .bad)
   | _=> .bad:=rfl
theorem zBd (t:T3):(tD t).nr=true:=rfl
theorem zhp {α:Type} (f:α->D) (hf:∀ a,(f a).nr=true):∀ l:List α,nrs (l.map f)=true
 | []=>rfl
 | a :: l=>by simp [nrs,hf a,zhp f hf l]
theorem zg9 (l:List T3):nrs (l.map tD)=true:=zhp _ zBd l
structure T3.Ok (P:Int) (t:T3):Prop where
 a0:0<=t.a
 a1:t.a < P
 b0:0<=t.b
 b1:t.b < P
 ne:t.a≠t.b
 n0:-1000000<=t.n
 n1:t.n<=1000000
@[simp] theorem zf7 (i:Int) (h:MH):app ze3 [.int i] h = .ok (.bl true) h:=by
 unfold app ze3;simp [zcg]
@[simp] theorem zf8 (i a b:Int) (h:MH):app zcJ [.int i,.int a,.int b] h = .ok (.bl (decide (a<=i) && decide (i<=b))) h:=by
 unfold app zcJ;simp
 by_cases h1:a<=i <;> simp [h1]
@[simp] theorem zf9 (p i:Int) (h:MH):app zer [.int p,.int i] h = .ok (.bl (decide (0<=i) && decide (i < p))) h:=by
 have:(i<=p - 1)↔i < p:=by omega
 unfold app zer;simp [this]
@[simp] theorem zga (p:Int) (t:T3) (ht:t.Ok p) (h:MH):app zfS [.int p,tD t] h = .ok (.bl true) h:=by
 unfold app zfS;simp [zcg,tD,zi,ht.a0,ht.a1,ht.b0,ht.b1,ht.ne,ht.n0,ht.n1]
@[simp] theorem zfs (p:Int) (t:T3) (ht:t.Ok p) (h:MH):app zfp [.int p,tD t] h = .ok (tD t) h:=by
 unfold app zfp;simp [ht]
 simp [tD,zi]
 exact ziO h (by rfl)
theorem zpw {α:Type}{t:Tg}{gs:List (Nat×O)}{cond:ME Bool}{elt:ME D}{h:MH} (f g:α->D) (c:α->Bool) (I:zx->Prop) (hg:guard gs h=true) :
   ∀ (xs:List α),(∀ x∈xs,∀ e,I e->∃ e1,zdC t (f x) e=some e1∧I e1∧cond e1 h = .ok (c x) h∧(c x=true->elt e1 h = .ok (g x) h)) ->
   ∀ acc e,I e->zcw t gs cond elt (xs.map f) acc e h = .ok (acc++(xs.filter c).map g) h
 | [],_,acc,e,_=>by simp [zcw,hg]
 | x :: xs,st,acc,e,he=>by
   obtain ⟨e1,h1,h2,h3,h4⟩:=st x (by simp) e he
   have ih:=zpw f g c I hg xs (fun y hy=>st y (by simp [hy]))
   rw [List.map_cons,zcw,if_pos hg,h1]
   cases hc:c x with
   | true=>simp [h3,h4 hc,hc,ih _ _ h2]
   | false=>simp [h3,hc,ih _ _ h2]
theorem zez {α:Type}{t:Tg}{gs:List (Nat×O)}{elt:ME D}{h:MH} (f g:α->D) (I:zx->Prop) (hg:guard gs h=true)
   (xs:List α) (st:∀ x∈xs,∀ e,I e->∃ e1,zdC t (f x) e=some e1∧I e1∧elt e1 h = .ok (g x) h) (e:zx) (he:I e) :
   zcw t gs zco elt (xs.map f) [] e h = .ok (xs.map g) h:=by
 have:=zpw f g (fun _=>true) I hg xs (fun x hx e he=>by obtain ⟨e1,a,b,c⟩:=st x hx e he;exact ⟨e1,a,b,rfl,fun _=>c⟩) [] e he
 rw [List.filter_eq_self.2 (fun _ _=>rfl),List.nil_append]at this
 exact this
theorem zct {h:MH}{n:Nat}{o:O} (e:h[n]?=some o):guard [(n,o)] h=true:=by simp [MI.guard,e]
theorem zhT {α:Type}{t:Tg}{gs:List (Nat×O)}{body:MS} (f:α->D) (I:List α->zx->MH->Prop) (Q:D->MH->Prop) :
   ∀ (rest done:List α),(∀ d x r e h,d++x :: r=done++rest->I d e h->guard gs h=true∧∃ e1,zdC t (f x) e=some e1 ∧
       ((∃ e2 h2,body e1 h = .nx e2 h2∧I (d++[x]) e2 h2)∨(∃ v h2,body e1 h = .rt v h2∧Q v h2))) ->
     (∀ e h,I (done++rest) e h->guard gs h=true)->∀ e h,I done e h ->
     (∃ e2 h2,zc8 t gs body (rest.map f) e h = .nx e2 h2∧I (done++rest) e2 h2)∨(∃ v h2,zc8 t gs body (rest.map f) e h = .rt v h2∧Q v h2)
 | [],done,_,hl,e,h,hi=>by
   refine .inl ⟨e,h,?_,by simpa using hi⟩
   simp only [List.map_nil,zc8]
   rw [if_pos (hl e h (by simpa using hi))]
 | x :: rest,done,st,hl,e,h,hi=>by
   obtain ⟨hg,e1,hb,hr⟩:=st done x rest e h rfl hi
   simp only [List.map_cons,zc8]
   rw [if_pos hg,hb]
   dsimp only
   rcases hr with ⟨e2,h2,hb2,hi2⟩ | ⟨v,h2,hb2,hq⟩
   . rw [hb2,zC6]
     have ih:=zhT f I Q rest (done++[x]) (fun d y r e h eq=>st d y r e h (by simpa using eq)) (fun e h hi=>hl e h (by simpa using hi)) e2 h2 hi2
     simpa using ih
   . rw [hb2]
     exact .inr ⟨v,h2,rfl,hq⟩
theorem zg7 {α:Type}{t:Tg}{gs:List (Nat×O)}{body:MS} (f:α->D) (I:List α->zx->MH->Prop) (xs:List α)
   (st:∀ d x r e h,d++x :: r=xs->I d e h->guard gs h=true∧∃ e1,zdC t (f x) e=some e1∧(∃ e2 h2,body e1 h = .nx e2 h2∧I (d++[x]) e2 h2))
   (hl:∀ e h,I xs e h->guard gs h=true) (e:zx) (h:MH) (hi:I [] e h):∃ e2 h2,zc8 t gs body (xs.map f) e h = .nx e2 h2∧I xs e2 h2:=by
 have:=zhT (t:=t) (gs:=gs) (body:=body) f I (fun _ _=>False) xs [] (fun d x r e h eq hi=>by
   obtain ⟨a,e1,b,c⟩:=st d x r e h (by simpa using eq) hi
   exact ⟨a,e1,b,.inl c⟩) (fun e h hi=>hl e h (by simpa using hi)) e h hi
 rcases this with h1 | ⟨_,_,_,h2⟩
 . simpa using h1
 . exact h2.elim
theorem zsz {t:ME Bool}{body:MS} (I:Nat->zx->MH->Prop) (J:zx->MH->Prop)
   (st:∀ k e h,I k e h->(t e h = .ok false h∧J e h)∨(t e h = .ok true h∧∃ k' e2 h2,k' < k∧body e h = .nx e2 h2∧I k' e2 h2)) :
   ∀ n k e h,k < n->I k e h->∃ e2 h2,zfF t body n e h = .nx e2 h2∧J e2 h2
 | 0,k,e,h,hk,_=>absurd hk (by omega)
 | n+1,k,e,h,hk,hi=>by
   rw [zfF,zeZ]
   rcases st k e h hi with ⟨ht,hj⟩ | ⟨ht,k',e2,h2,hk',hb,hi2⟩
   . exact ⟨e,h,by simp [ht],hj⟩
   . obtain ⟨e3,h3,hw,hj⟩:=zsz I J st n k' e2 h2 (by omega) hi2
     exact ⟨e3,h3,by simp [ht,hb,hw],hj⟩
@[simp] theorem lk1 (a b c:D):List.lookup 1 [(0,a),(1,b),(2,c)]=some b:=rfl
@[simp] theorem lk2 (a b c:D):List.lookup 2 [(0,a),(1,b),(2,c)]=some c:=rfl
theorem zDp (h g:MH) {xs:List D} (f:nrs xs=true):gc h (.ok (.obj h.length) (h ++ .lst xs :: g)) = .ok (.obj h.length) (h++[.lst xs]):=ztg (o := .lst xs) h g f
theorem zjh (h g:MH) {k:Nat}{xs:List D} (e:g[k]?=some (.lst xs)) (f:nrs xs=true):gc h (.ok (.obj (h.length+k)) (h++g)) = .ok (.obj h.length) (h++[.lst xs]):=ztu (o := .lst xs) h g e f
structure zb7 (h:MH) (w t:Nat) (P turn:Int) (ts:List T3):Prop where
 w:h[w]?=some (.ins 0 [(0,.int P),(1,.int turn),(2,.obj t)])
 t:h[t]?=some (.lst (ts.map tD))
theorem zb7.app {h:MH}{w t:Nat}{P turn:Int}{ts:List T3} (W:zb7 h w t P turn ts) (g:MH):zb7 (h++g) w t P turn ts:=⟨zG W.w g,zG W.t g⟩
theorem zb7.wA {h:MH}{w t:Nat}{P turn:Int}{ts:List T3} (W:zb7 h w t P turn ts) (g:MH):(h++g)[w]?=some (.ins 0 [(0,.int P),(1,.int turn),(2,.obj t)]):=zG W.w g
theorem zb7.tA {h:MH}{w t:Nat}{P turn:Int}{ts:List T3} (W:zb7 h w t P turn ts) (g:MH):(h++g)[t]?=some (.lst (ts.map tD)):=zG W.t g
theorem zAo {h:MH}{n:Nat}{P turn:Int}{ts:List T3} (hn:h[n]?=some (.lst (ts.map tD))) (hP:1<=P) (hP':P<=1000000) (ht:0<=turn) (ht':turn<=1000000) (hl:ts.length<=1000000) (hts:∀ t∈ts,t.Ok P) :
   app (mkF 0 zhv) [.int P,.obj n,.int turn] h = .ok (.obj h.length) (h++[.ins 0 [(0,.int P),(1,.int turn),(2,.obj (h.length+1))],.lst (ts.map tD)]):=by
 have c:∀ g e,(∃ d,e=[d,some (.int P)])->zcw (.nm 0) [(n,.lst (ts.map tD))] zco (zj zfp (za (var 1) (za (var 0) ze))) (ts.map tD) [] e (h++g) = .ok (ts.map tD) (h++g):=by
   intro g e he
   refine zez tD tD (fun e=>∃ d,e=[d,some (.int P)]) (zct (zG hn g)) ts ?_ e he
   rintro t ht _ ⟨d,rfl⟩
   exact ⟨_,rfl,⟨_,rfl⟩,by simp [zfs P t (hts t ht)]⟩
 unfold app mkF zhv
 simp [hP,hP',ht,ht',zcg,zG hn,zfi,zfh,zbS,c,hl]
 simp only [gc]
 rw [if_pos (zen _ _)]
 have q:¬ h.length+1 < h.length:=by omega
 simp [gcV,nrs,zcz,O.flat,zg9,D.nr,q]
theorem zGd {h:MH}{P turn:Int}{ts:List T3}:zb7 (h++[.ins 0 [(0,.int P),(1,.int turn),(2,.obj (h.length+1))],.lst (ts.map tD)]) h.length (h.length+1) P turn ts:=⟨by simp,by simp⟩
section
variable {h:MH}{w t:Nat}{P turn:Int}{ts:List T3}
theorem zcR (W:zb7 h w t P turn ts):app zh4 [.obj w] h = .ok (.obj h.length) (h++[.lst (ts.map tD)]):=by
 unfold app zh4
 simp [W.w,W.t]
 exact zDp h [] (zg9 _)
@[simp] theorem zgb (t:T3) (h:MH):app zfT [tD t] h = .ok (tD ⟨t.b,t.a,-t.n⟩) h:=by
 unfold app zfT
 simp [tD,zi]
 exact ziO h (by rfl)
noncomputable def tn (t:T3):T3:=⟨t.b,t.a,-t.n⟩
theorem zBj {t:T3} (ht:t.Ok P):(tn t).Ok P:=⟨ht.b0,ht.b1,ht.a0,ht.a1,fun e=>ht.ne e.symm,by have:=ht.n1;simp [tn];omega,by have:=ht.n0;simp [tn];omega⟩
theorem zHn (h:MH) (g:MH) (P turn:Int) {k:Nat} (ts:List T3) (hk:g[k]?=some (.ins 0 [(0,.int P),(1,.int turn),(2,.obj (h.length+k+1))])) (hk1:g[k+1]?=some (.lst (ts.map tD))) :
   gc h (.ok (.obj (h.length+k)) (h++g)) = .ok (.obj h.length) (h++[.ins 0 [(0,.int P),(1,.int turn),(2,.obj (h.length+1))],.lst (ts.map tD)]):=by
 simp only [gc]
 rw [if_pos (zen _ _)]
 have q:¬ h.length+k < h.length:=by omega
 have q1:¬ h.length+k+1 < h.length:=by omega
 have e1:(h++g)[h.length+k+1]?=some (.lst (ts.map tD)):=by rw [Nat.add_assoc,zcQ];exact hk1
 simp [gcV,q,hk,zcz,q1,e1,D.nr,O.flat,zg9]
end
end Mx
end
section
open PySem MI
namespace Mx
open My
theorem zfl {α:Type} [DecidableEq α]:∀ (l m:List α),l.Nodup->(∀ x∈l,x∈m)->l.length<=m.length
 | [],m,_,_=>by simp
 | x :: l,m,hn,hs=>by
   have h1:=List.nodup_cons.1 hn
   have:=zfl l (m.erase x) h1.2 (fun y hy=>(List.mem_erase_of_ne (fun (e:y=x)=>h1.1 (e ▸ hy))).2 (hs y (by simp [hy])))
   rw [List.length_erase_of_mem (hs x (by simp))]at this
   have:0 < m.length:=List.length_pos_of_mem (hs x (by simp))
   simp;omega
theorem zi8:∀ (l seen:List Int) (x:Int),x∈zbv seen l↔x∈l∧x∉seen
 | [],seen,x=>by simp [zbv]
 | y :: l,seen,x=>by
   unfold zbv
   by_cases hy:y∈seen
   . rw [if_pos hy,zi8 l seen x]
     constructor
     . rintro ⟨a,b⟩;exact ⟨by simp [a],b⟩
     . rintro ⟨a,b⟩
       rcases List.mem_cons.1 a with e | e
       . exact absurd (e ▸ hy) b
       . exact ⟨e,b⟩
   . rw [if_neg hy,List.mem_cons,zi8 l (y :: seen) x]
     constructor
     . rintro (e | ⟨a,b⟩)
       . exact ⟨by simp [e],e ▸ hy⟩
       . exact ⟨by simp [a],fun c=>b (by simp [c])⟩
     . rintro ⟨a,b⟩
       by_cases e:x=y
       . exact .inl e
       . refine .inr ⟨?_,?_⟩
         . rcases List.mem_cons.1 a with e' | e'
           . exact absurd e' e
           . exact e'
         . intro c
           rcases List.mem_cons.1 c with e' | e'
           . exact e e'
           . exact b e'
theorem zfG:∀ (l seen:List Int),(zbv seen l).Nodup
 | [],seen=>by simp [zbv]
 | y :: l,seen=>by
   unfold zbv
   by_cases hy:y∈seen
   . rw [if_pos hy];exact zfG l seen
   . rw [if_neg hy]
     exact List.nodup_cons.2 ⟨fun c=>((zi8 l (y :: seen) y).1 c).2 (by simp),zfG l (y :: seen)⟩
noncomputable def zdG (l:List Int):Nat:=(zbv [] l).length
theorem zeD {l:List Int}{x:Int}:x∈zbv [] l↔x∈l:=by simp [zi8]
theorem zBV {l m:List Int} (h:∀ x,x∈l↔x∈m):zdG l=zdG m :=
 Nat.le_antisymm (zfl _ _ (zfG _ _) fun x hx=>zeD.2 ((h x).1 (zeD.1 hx))) (zfl _ _ (zfG _ _) fun x hx=>zeD.2 ((h x).2 (zeD.1 hx)))
theorem zDS (l:List Int):zdG l<=l.length:=zfl _ _ (zfG _ _) fun x hx=>zeD.1 hx
theorem zCK {l:List Int}{x:Int} (h:x∈l):zdG (x :: l)=zdG l:=zBV fun y=>by
 constructor
 . intro hy
   rcases List.mem_cons.1 hy with e | e
   . exact e ▸ h
   . exact e
 . intro hy;simp [hy]
theorem zD0 {l:List Int}{x:Int} (h:x∉l):zdG (x :: l)=zdG l+1:=by
 apply Nat.le_antisymm
 . have:=zfl (zbv [] (x :: l)) (x :: zbv [] l) (zfG _ _) (fun y hy=>by
     rcases List.mem_cons.1 (zeD.1 hy) with e | e
     . simp [e]
     . exact List.mem_cons_of_mem _ (zeD.2 e))
   simpa [zdG] using this
 . have:=zfl (x :: zbv [] l) (zbv [] (x :: l)) (List.nodup_cons.2 ⟨fun c=>h (zeD.1 c),zfG _ _⟩) (fun y hy=>by
     rcases List.mem_cons.1 hy with e | e
     . exact zeD.2 (by simp [e])
     . exact zeD.2 (by simp [zeD.1 e]))
   simpa [zdG] using this
theorem zps:∀ l:List Int,zdG l=l.length↔l.Nodup
 | []=>by simp [zdG,zbv]
 | x :: l=>by
   rw [List.nodup_cons]
   by_cases h:x∈l
   . rw [zCK h]
     have:=zDS l
     simp [h];omega
   . rw [zD0 h,<- zps l]
     simp [h]
theorem ziD:∀ l:List Int,zcl (l.map D.int)=some l
 | []=>rfl
 | x :: l=>by simp [zcl,ziD l]
theorem zgq:∀ l:List Bool,zcI (l.map D.bl)=some l
 | []=>rfl
 | x :: l=>by simp [zcI,zgq l]
structure St where
 k:Nat
 f:Bool
noncomputable def wy (b:Bool):Int:=if b=true then 1 else -1
noncomputable def sD (s:St):D := .tup [.int s.k,.int (wy s.f)]
@[simp] theorem zHG (t:St) (e:zx) (h:MH):zi (sD t) (.int 0) e h = .ok (.int t.k) h:=rfl
@[simp] theorem zGs (t:St) (e:zx) (h:MH):zi (sD t) (.int 1) e h = .ok (.int (wy t.f)) h:=rfl
theorem zCC (s:St):(sD s).nr=true:=rfl
theorem zo9 (l:List St):nrs (l.map sD)=true:=zhp _ zCC l
noncomputable def zbp (f:Bool) (t:T3):T3:=if f=true then t else tn t
noncomputable def z8 (ts:List T3) (s:St):Option T3:=(ts[s.k]?).map (zbp s.f)
theorem zsu {P:Int}{ts:List T3} (hts:∀ t∈ts,t.Ok P) {s:St}{t:T3} (e:z8 ts s=some t):t.Ok P:=by
 unfold z8 at e
 cases h:ts[s.k]? with
 | none=>rw [h]at e;cases e
 | some t0 =>
   rw [h]at e
   have:=hts t0 (List.mem_of_getElem? h)
   simp at e
   subst e
   unfold zbp
   split
   . exact this
   . exact zBj this
theorem zdK {h:MH}{l:Nat}{xs:List D} (hl:h[l]?=some (.lst xs)) (i:Int):app zdA [.obj l,.int i] h = .ok (.bl (decide (0<=i) && decide (i < xs.length))) h:=by
 unfold app zdA
 have:(i<=(xs.length:Int) - 1)↔i < xs.length:=by omega
 simp [hl,this]
theorem zgF (a b:Int):peq (.int a) (.int b)=(a == b):=by rw [peq]
theorem zsb (f:Bool) (e:zx) (h:MH):inV (.int (wy f)) (.tup [.int 1,.int (-1)]) e h = .ok (.bl true) h:=by
 simp only [inV,inB,List.any_cons,List.any_nil,zgF]
 cases f <;> rfl
theorem zft {h:MH}{l:Nat}{xs:List D} (hl:h[l]?=some (.lst xs)) (s:St):app zfq [.obj l,sD s] h = .ok (.bl (decide (s.k < xs.length))) h:=by
 unfold app zfq
 have e1:(0:Int)<=s.k:=by omega
 have e2:((s.k:Int) < xs.length)↔s.k < xs.length:=by omega
 by_cases hk:s.k < xs.length
 . simp [sD,zcg,zi,zdK hl,e1,e2,hk,zsb]
 . simp [sD,zcg,zi,zdK hl,e1,e2,hk]
theorem zeH {h:MH}{l:Nat}{ts:List T3} (hl:h[l]?=some (.lst (ts.map tD))) {s:St}{t:T3} (ht:z8 ts s=some t):app zc6 [.obj l,sD s] h = .ok (tD t) h:=by
 unfold app zc6
 unfold z8 at ht
 cases hk:ts[s.k]? with
 | none=>rw [hk]at ht;cases ht
 | some t0 =>
   have hlt:=(List.getElem?_eq_some_iff.1 hk).1
   rw [hk]at ht
   simp at ht
   subst ht
   have e1:MI.atI (ts.map tD) (s.k:Int)=some (tD t0):=by
     rw [zgA (by simpa using hlt)]
     have:=(List.getElem?_eq_some_iff.1 hk).2
     simp [this]
   cases hf:s.f
   . simp [sD,zi,hl,e1,wy,hf,zbp]
     exact ziO h (by rfl)
   . simp [sD,zi,hl,e1,wy,hf,zbp]
     exact ziO h (by rfl)
noncomputable def zbb (ts:List T3):Int->List St->Option (List T3)
 | _,[]=>some []
 | here,s :: r=>match z8 ts s with
   | none=>none
   | some t=>if t.a=here then (zbb ts t.b r).map (t :: ·) else none
theorem zDv {P:Int}{ts:List T3} (hts:∀ t∈ts,t.Ok P):∀ (S:List St) (here:Int) (g:List T3),zbb ts here S=some g->∀ t∈g,t.Ok P
 | [],_,g,e=>by simp [zbb]at e;subst e;simp
 | s :: r,here,g,e=>by
   unfold zbb at e
   cases hl:z8 ts s with
   | none=>simp [hl]at e
   | some t =>
     simp only [hl]at e
     by_cases ha:t.a=here
     . rw [if_pos ha]at e
       cases hr:zbb ts t.b r with
       | none=>simp [hr]at e
       | some g' =>
         simp [hr]at e
         subst e
         intro x hx
         rcases List.mem_cons.1 hx with rfl | hx
         . exact zsu hts hl
         . exact zDv hts r _ _ hr x hx
     . simp [ha]at e
theorem zg6 {ts:List T3}:∀ (S:List St) (here:Int) (g:List T3),zbb ts here S=some g->g.length=S.length
 | [],_,g,e=>by simp [zbb]at e;subst e;simp
 | s :: r,here,g,e=>by
   unfold zbb at e
   cases hl:z8 ts s with
   | none=>simp [hl]at e
   | some t =>
     simp only [hl]at e
     by_cases ha:t.a=here
     . rw [if_pos ha]at e
       cases hr:zbb ts t.b r with
       | none=>simp [hr]at e
       | some g' =>
         simp [hr]at e
         subst e
         simp [zg6 r _ _ hr]
     . simp [ha]at e
noncomputable def fin (a:Int) (g:List T3):Int:=match g.getLast? with
 | none=>a
 | some t=>t.b
@[simp] theorem zGi (a:Int):fin a []=a:=rfl
@[simp] theorem zH7 (a:Int) (g:List T3) (t:T3):fin a (g++[t])=t.b:=by simp [fin]
@[simp] theorem zHL (a:Int) (t:T3) (g:List T3):fin a (t :: g)=fin t.b g:=by
 unfold fin
 cases g with
 | nil=>rfl
 | cons x g=>simp [List.getLast?_cons_cons,List.getLast?_cons]
theorem zpL {ts:List T3}:∀ (S R:List St) (a:Int),zbb ts a (S++R)=match zbb ts a S with
   | none=>none
   | some g=>(zbb ts (fin a g) R).map (g++·)
 | [],R,a=>by simp [zbb]
 | s :: S,R,a=>by
   simp only [List.cons_append,zbb]
   cases z8 ts s with
   | none=>rfl
   | some t =>
     simp only
     by_cases ha:t.a=a
     . simp only [if_pos ha]
       rw [zpL S R t.b]
       cases zbb ts t.b S with
       | none=>rfl
       | some g=>simp [Function.comp_def]
     . simp [if_neg ha]
theorem zqb {ts:List T3}{S:List St}{a:Int}{g:List T3} (e:zbb ts a S=some g) {s:St}{t:T3} (hl:z8 ts s=some t) (ha:t.a=fin a g):zbb ts a (S++[s])=some (g++[t]):=by
 rw [zpL,e]
 simp [zbb,hl,ha]
theorem zi7 {ts:List T3}{S R:List St}{a:Int}{g:List T3} (e:zbb ts a S=some g) {s:St} (hl:∀ t,z8 ts s=some t->t.a≠fin a g):zbb ts a (S++s :: R)=none:=by
 rw [zpL,e]
 simp only [zbb]
 cases h:z8 ts s with
 | none=>rfl
 | some t=>simp [hl t h]
theorem zFV {P:Int}{a:Int} (h0:0<=a) (h1:a < P):∀ {g:List T3},(∀ t∈g,t.Ok P)->0<=fin a g∧fin a g < P:=by
 intro g hg
 unfold fin
 cases h:g.getLast? with
 | none=>exact ⟨h0,h1⟩
 | some t=>have:=hg t (List.mem_of_getLast? h);exact ⟨this.b0,this.b1⟩
theorem zfu {h:MH}{w t l:Nat}{P turn:Int}{ts:List T3} (W:zb7 h w t P turn ts) {S:List St} (hl:h[l]?=some (.lst (S.map sD))) (hS:S.length<=900000) {a:Int} (h0:0<=a) (h1:a < P) :
   app zfU [.obj w,.int a,.obj l] h=match zbb ts a S with
     | none=> .ok .non h
     | some g=> .ok (.obj h.length) (h++[.lst (g.map tD)]):=by
 unfold app zfU
 have loop:=zhT (t := .nm 6) (gs:=[(l,.lst (S.map sD))]) (body:=(zf (ifS (zO (tru (zj zfq (za (var 3) (za (var 6) ze))))) (zn (zb .non)) zp)
   (zf (z9 (zbg (var 4) (zj zc6 (za (var 3) (za (var 6) ze)))))
   (zf (ifS (tst (bin neV (bin zi (bin zi (var 4) (un zcf (zb (.int (1))))) (zb (.int (0)))) (var 5))) (zn (zb .non)) zp)
   (zk (.nm 5) (bin zi (bin zi (var 4) (un zcf (zb (.int (1))))) (zb (.int (1))))))))) sD
   (fun d e h'=>∃ g x,e=[some (.obj w),some (.int a),some (.obj l),some (.obj h.length),some (.obj (h.length+1)),some (.int (fin a g)),x]∧h'=h++[.lst (ts.map tD),.lst (g.map tD)]∧zbb ts a d=some g)
   (fun v h'=>v = .non∧zbb ts a S=none∧∃ g,h'=h++g) S [] (by
   rintro d s r e h' eq ⟨g,x,rfl,rfl,hg⟩
   simp only [List.nil_append]at eq
   refine ⟨zct (zG hl _),_,rfl,?_⟩
   have hst:=zft (h:=h++[.lst (ts.map tD),.lst (g.map tD)]) (l:=h.length) (xs:=ts.map tD) (by simp) s
   by_cases hk:s.k < ts.length
   . simp only [List.length_map,hk,decide_true]at hst
     have hleg:z8 ts s=some (zbp s.f ts[s.k]):=by simp [z8,hk]
     generalize zbp s.f ts[s.k]=t at hleg
     have hlg:=zeH (h:=h++[.lst (ts.map tD),.lst (g.map tD)]) (l:=h.length) (by simp) hleg
     have hla:MI.atI (g.map tD++[tD t]) (-1)=some (tD t):=ziC _ _
     have hlt:g.length < 1000000:=by
       have:=zg6 _ _ _ hg
       have:=congrArg List.length eq
       simp at this;omega
     by_cases ha:t.a=fin a g
     . refine .inl ⟨_,h++[.lst (ts.map tD),.lst ((g++[t]).map tD)],?_,g++[t],some (sD s),rfl,rfl,zqb hg hleg ha⟩
       simp [hst,hlg,zdc,hlt,zbn,hla,ha]
     . refine .inr ⟨.non,h++[.lst (ts.map tD),.lst ((g++[t]).map tD)],?_,rfl,?_,_,rfl⟩
       . simp [hst,hlg,zdc,hlt,zbn,hla,ha]
       . rw [<- eq]
         exact zi7 hg (fun t' e=>by rw [hleg]at e;cases e;exact ha)
   . simp only [List.length_map,hk,decide_false]at hst
     refine .inr ⟨.non,h++[.lst (ts.map tD),.lst (g.map tD)],?_,rfl,?_,_,rfl⟩
     . simp [hst]
     . rw [<- eq]
       exact zi7 hg (fun t' e=>by simp [z8,List.getElem?_eq_none (Nat.not_lt.1 hk)]at e))
   (by rintro e h' ⟨g,x,rfl,rfl,hg⟩;exact zct (zG hl _)) [some (.obj w),some (.int a),some (.obj l),some (.obj h.length),some (.obj (h.length+1)),some (.int a),none] (h++[.lst (ts.map tD),.lst []]) ⟨[],none,rfl,rfl,rfl⟩
 rcases loop with ⟨e2,h2,hr,g,x,rfl,rfl,hg⟩ | ⟨v,h2,hr,rfl,hg,g,rfl⟩
 . simp at hg
   simp [W.w,h0,h1,zcg,hl,zcb,zcR W,zG hl,hr,hg]
   exact zjh h _ (k:=1) rfl (zg9 _)
 . simp [W.w,h0,h1,zcg,hl,zcb,zcR W,zG hl,hr,hg]
   exact ztZ _ _
end Mx
end
section
open PySem MI
namespace Mx
open My
open Classical in
noncomputable def dcd (p:Prop):Bool:=decide p
theorem zgk {p:Prop} (h:p):dcd p=true:=by simp [dcd,h]
theorem zdu {p:Prop} (h:¬ p):dcd p=false:=by simp [dcd,h]
noncomputable def hAt (hs:List Int) (i:Int):Int:=hs.getD i.toNat 0
theorem zfc {hs:List Int}{i:Int} (h0:0<=i) (h1:i < hs.length):MI.atI (hs.map D.int) i=some (.int (hAt hs i)):=by
 obtain ⟨k,rfl⟩:∃ k:Nat,i=k:=⟨i.toNat,by omega⟩
 have hl:k < hs.length:=by omega
 rw [zgA (by simpa using hl)]
 simp [hAt,hl]
theorem ziK (l:List Int):nrs (l.map D.int)=true:=zhp _ (fun _=>rfl) l
end Mx
end
section
open PySem MI
namespace Mx
open My
theorem zud (h g:MH) {k:Nat}{o:O} (i:Int) (e:g[k]?=some o) (f:o.flat=true):gc h (.ok (.tup [.obj (h.length+k),.int i]) (h++g)) = .ok (.tup [.obj h.length,.int i]) (h++[o]):=by
 have hlt:¬ h.length+k < h.length:=by omega
 simp [gc,zen,gcV,zcz,hlt,e,f,D.nr]
theorem zAy (f:Bool) (e:zx) (h:MH):zb2 (.int (wy f)) (.tup [.int 1,.int (-1)]) e h = .ok (.bl false) h:=by
 unfold zb2
 rw [zL,zsb];rfl
@[simp] theorem zHE (x y z:D):MI.cut [x,y,z] none (some 2)=[x,y]:=rfl
theorem zEA {h:MH}{n l:Nat}{ts:List T3} (hn:h[n]?=some (.lst (ts.map tD))) {S:List St} (hl:h[l]?=some (.lst (S.map sD))) (hS:S.length<=900000) (hts:∀ t∈ts,-1000000<=t.n∧t.n<=1000000) (a:Int) :
   app zf4 [.obj n,.int a,.obj l] h=match zbb ts a S with
     | none=> .ok (.tup [.obj h.length,.int 0]) (h++[.lst []])
     | some g=> .ok (.tup [.obj h.length,.int (g.map (·.n)).sum]) (h++[.lst ((a :: g.map (·.b)).map .int)]):=by
 unfold app zf4
 have loop:=zhT (t := .nm 5) (gs:=[(l,.lst (S.map sD))]) (body:=(zf (ifS (orT (zO (tru (zcj .tuple (var 5)))) (tst (bin neV (zbU (zbW (var 5))) (zb (.int (2)))))) (zn (zM (za (zN (zbq ze)) (za (zb (.int (0))) ze)))) zp)
   (zf (zk (.tp [6,7]) (var 5))
   (zf (ifS (orT (tru (zcj .bool (var 6))) (orT (zO (tru (zcj .int (var 6)))) (orT (zO (tst (zex leV ltV (zb (.int (0))) (var 6) (zbU (zbW (var 0)))))) (tst (bin zb2 (var 7) (zM (za (zb (.int (1))) (za (un zcf (zb (.int (1)))) ze)))))))) (zn (zM (za (zN (zbq ze)) (za (zb (.int (0))) ze)))) zp)
   (zf (zk (.nm 8) (ifE (tst (bin eqV (var 7) (zb (.int (1))))) (zh3 (bin zi (var 0) (var 6)) noP (zfR (zb (.int (2))))) (zhC (bin zi (var 0) (var 6)))))
   (zf (ifS (tst (bin neV (bin zi (var 3) (un zcf (zb (.int (1))))) (bin zi (var 8) (zb (.int (0)))))) (zn (zM (za (zN (zbq ze)) (za (zb (.int (0))) ze)))) zp)
   (zf (z9 (zbg (var 3) (bin zi (var 8) (zb (.int (1))))))
   (zk (.nm 4) (bin zE (var 4) (bin zb1 (var 7) (bin zi (bin zi (var 0) (var 6)) (zb (.int (2)))))))))))))) sD
   (fun d e h'=>∃ g x y z u,e=[some (.obj n),some (.int a),some (.obj l),some (.obj h.length),some (.int (g.map (·.n)).sum),x,y,z,u]∧h'=h++[.lst ((a :: g.map (·.b)).map .int)]∧zbb ts a d=some g)
   (fun v h'=>zbb ts a S=none∧∃ o,v = .tup [.obj (h.length+1),.int 0]∧h'=h++[o,.lst []]) S [] (by
   rintro d s r e h' eq ⟨g,x,y,z,u,rfl,rfl,hg⟩
   simp only [List.nil_append]at eq
   refine ⟨zct (zG hl _),_,rfl,?_⟩
   have hkk:((s.k:Int) < (ts.length:Int))↔s.k < ts.length:=by omega
   have hk0:(0:Int)<=s.k:=by omega
   have hlast:∃ p,(a :: g.map (·.b)).map D.int=p++[.int (fin a g)]:=by
     rcases List.eq_nil_or_concat g with rfl | ⟨g0,t,rfl⟩
     . exact ⟨[],rfl⟩
     . exact ⟨(a :: g0.map (·.b)).map D.int,by simp⟩
   obtain ⟨p,hp⟩:=hlast
   have hla:MI.atI ((a :: g.map (·.b)).map D.int) (-1)=some (.int (fin a g)):=by rw [hp];exact ziC _ _
   have hpl:(a :: g.map (·.b)).map D.int = .int a :: (g.map (·.b)).map .int:=rfl
   generalize hpp:(a :: g.map (·.b)).map D.int=pp at *
   have hplen:pp.length < 1000000:=by
     have h1:=zg6 _ _ _ hg
     have h2:=congrArg List.length eq
     rw [hpl];simp at h2 ⊢;omega
   have hin:=zAy s.f
   by_cases hk:s.k < ts.length
   . have hleg:z8 ts s=some (zbp s.f ts[s.k]):=by simp [z8,hk]
     have hat:MI.atI (ts.map tD) (s.k:Int)=some (tD ts[s.k]):=by rw [zgA (by simpa using hk)];simp
     have hsm:=hts ts[s.k] (List.getElem_mem hk)
     generalize ts[s.k]=t0 at hleg hat hsm
     have hsmall:zcF t0.n=true:=by simp [zcF];omega
     by_cases ha:(zbp s.f t0).a=fin a g
     . refine .inl ⟨_,h++[.lst ((a :: (g++[zbp s.f t0]).map (·.b)).map .int)],?_,g++[zbp s.f t0],some (sD s),some (.int s.k),some (.int (wy s.f)),some (.tup [.int (zbp s.f t0).a,.int (zbp s.f t0).b]),rfl,rfl,zqb hg hleg ha⟩
       have e1:(a :: (g++[zbp s.f t0]).map (·.b)).map D.int=pp++[.int (zbp s.f t0).b]:=by rw [<- hpp];simp
       rw [e1]
       cases hf:s.f
       . simp [hf,zbp,tn]at ha
         simp [sD,zcg,hk0,hkk,hk,hf,wy,inV,zbV,inB,zgF,zbn,zG hn,hat,tD,hla,zb2,zbp,tn,ha,zdc,hplen,zi,hsmall]
       . simp [hf,zbp]at ha
         simp [sD,zcg,hk0,hkk,hk,hf,wy,inV,zbV,inB,zgF,zbn,zG hn,hat,tD,hla,zb2,zbp,tn,ha,zdc,hplen,zi,hsmall]
     . refine .inr ⟨_,h++[.lst pp,.lst []],?_,?_,_,rfl,rfl⟩
       . cases hf:s.f
         . simp [hf,zbp,tn]at ha
           simp [sD,zcg,hk0,hkk,hk,hf,wy,inV,zbV,inB,zgF,zbn,zG hn,hat,tD,hla,zb2,zbp,tn,ha,Ne.symm ha,zi]
         . simp [hf,zbp]at ha
           simp [sD,zcg,hk0,hkk,hk,hf,wy,inV,zbV,inB,zgF,zbn,zG hn,hat,tD,hla,zb2,zbp,tn,ha,Ne.symm ha,zi]
       . rw [<- eq]
         exact zi7 hg (fun t' e=>by rw [hleg]at e;cases e;exact ha)
   . refine .inr ⟨_,h++[.lst pp,.lst []],?_,?_,_,rfl,rfl⟩
     . simp [sD,zcg,hk0,hkk,hk,zbn,zG hn]
     . rw [<- eq]
       exact zi7 hg (fun t' e=>by simp [z8,List.getElem?_eq_none (Nat.not_lt.1 hk)]at e))
   (by rintro e h' ⟨g,x,y,z,u,rfl,rfl,hg⟩;exact zct (zG hl _)) [some (.obj n),some (.int a),some (.obj l),some (.obj h.length),some (.int 0),none,none,none,none] (h++[.lst [.int a]]) ⟨[],none,none,none,none,rfl,rfl,rfl⟩
 rcases loop with ⟨e2,h2,hr,g,x,y,z,u,rfl,rfl,hg⟩ | ⟨v,h2,hr,hg,o,rfl,rfl⟩
 . simp at hg
   simp [zG hl,hr,hg]
   have hf:=ziK (a :: g.map (·.b))
   rw [List.map_cons,List.map_map]at hf
   exact zud h _ (k:=0) _ rfl hf
 . simp [zG hl,hr,hg]
   exact zud h _ (k:=1) (o := .lst []) _ rfl rfl
theorem zBW (l:List Int):(l.map D.int).all (D.pl 5)=true:=by simp [D.pl]
theorem zF4 {h:MH}{n m:Nat}{xs:List Int} (hn:h[n]?=some (.lst (xs.map .int))) (hm:h[m]?=some (.lst [])) (e:zx):eqV (.obj n) (.obj m) e h = .ok (.bl (decide (xs=[]))) h:=by
 unfold eqV zb8
 simp only [hn,hm,zBW,if_pos]
 cases xs with
 | nil=>simp [Cmp.eq,zb5]
 | cons x xs=>simp [Cmp.eq,zb5]
end Mx
end
section
open PySem MI
namespace Mx
open My
theorem zfv {h:MH}{w t:Nat}{P turn:Int}{ts:List T3} (W:zb7 h w t P turn ts) (hl:ts.length<=1000000):app zfX [.obj w] h = .ok (.obj h.length) (h++[.lst ((List.range ts.length).map fun k=> .int (k:Nat))]):=by
 unfold app zfX
 have q:(-1000000:Int)<=ts.length∧(ts.length:Int)<=1000000:=by omega
 simp [W.w,zcb,zcR W,q]
 exact zjh h _ (k:=1) rfl (zhp _ (fun _=>rfl) _)
theorem ztE {h:MH}{gs:List (Nat×O)} (hg:∀ g,guard gs (h++g)=true):∀ (xs:List Nat) (m:Nat) (acc:List D) (d:Option D),
   zcw (.nm 0) gs zco (zN (zbq ze)) (xs.map fun (k:Nat)=>D.int k) acc [d] (h++List.replicate m (.lst [])) =
     .ok (acc++(List.range xs.length).map fun k=> .obj (h.length+m+k)) (h++List.replicate (m+xs.length) (.lst []))
 | [],m,acc,d=>by simp [zcw,hg]
 | x :: xs,m,acc,d=>by
   have ih:=ztE hg xs (m+1) (acc++[.obj (h.length+m)]) (some (.int x))
   rw [List.map_cons,zcw,if_pos (hg _)]
   simp only [zCL]
   simp
   have e:List.replicate m (O.lst [])++[O.lst []]=List.replicate (m+1) (O.lst []):=by rw [List.replicate_succ']
   rw [e]
   rw [ih]
   simp only [List.append_assoc,List.length_cons]
   congr 1
   . congr 1
     rw [List.range_succ_eq_map]
     simp [Function.comp_def,Nat.add_assoc,Nat.add_comm,Nat.add_left_comm]
   . congr 2;omega
noncomputable def zeQ (L:List (List St)):MH:=L.map fun ss=> .lst (ss.map sD)
noncomputable def Onw (ts:List T3) (cs:List Nat) (p:Nat) (ss:List St):Prop:=∀ s:St,s∈ss↔s.k∈cs∧∃ t,z8 ts s=some t∧t.a=p
noncomputable def zey (n P:Nat):List D:=(List.range P).map fun k=> .obj (n+k)
structure Tbl (h:MH) (m n P:Nat) (L:List (List St)):Prop where
 tb:h[m]?=some (.lst (zey n P))
 len:L.length=P
 at':∀ p (hp:p < P),h[n+p]?=some (.lst ((L[p]'(by omega)).map sD))
noncomputable def stH (h:MH) (ts:List T3) (P:Nat) (L:List (List St)):MH:=h++(.lst (ts.map tD) :: (zeQ L++[.lst (zey (h.length+1) P)]))
theorem zpJ {h:MH}{ts:List T3}{P:Nat}{L:List (List St)}{p:Nat} (hp:p < L.length):(stH h ts P L)[h.length+1+p]?=some (.lst (L[p].map sD)):=by
 unfold stH
 rw [Nat.add_assoc,zcQ,Nat.add_comm 1 p,List.getElem?_cons_succ,List.getElem?_append_left (by simpa [zeQ] using hp)]
 simp [zeQ,hp]
theorem zr4 {h:MH}{ts:List T3}{P:Nat}{L:List (List St)}{p:Nat} (hp:p < L.length) (ss:List St):(stH h ts P L).set (h.length+1+p) (.lst (ss.map sD))=stH h ts P (L.set p ss):=by
 unfold stH
 rw [Nat.add_assoc,zto,Nat.add_comm 1 p,List.set_cons_succ,List.set_append_left _ _ (by simpa [zeQ] using hp)]
 simp [zeQ,List.map_set]
theorem ziB {h:MH}{ts:List T3}{P:Nat}{L:List (List St)} (hL:L.length=P):(stH h ts P L)[h.length+1+P]?=some (.lst (zey (h.length+1) P)):=by
 unfold stH
 rw [Nat.add_assoc,zcQ,Nat.add_comm 1 P,List.getElem?_cons_succ,List.getElem?_append_right (by simp [zeQ,hL])]
 simp [zeQ,hL]
theorem zDm {h:MH}{ts:List T3}{P:Nat}{L:List (List St)}:(stH h ts P L)[h.length]?=some (.lst (ts.map tD)):=by simp [stH]
theorem zpz {n P:Nat}{i:Int} (h0:0<=i) (h1:i < P):MI.atI (zey n P) i=some (.obj (n+i.toNat)):=by
 obtain ⟨k,rfl⟩:∃ k:Nat,i=k:=⟨i.toNat,by omega⟩
 have hk:k < P:=by omega
 rw [zgA (by simpa [zey] using hk)]
 simp [zey]
theorem zFa {ts:List T3}{d:List Nat}{k:Nat}{L:List (List St)}{t0:T3}{P:Nat} (ok:t0.Ok P) (hL:L.length=P) (hleg:∀ f,z8 ts ⟨k,f⟩=some (zbp f t0))
   (hO:∀ p (hp:p < L.length),Onw ts d p L[p]) {L2:List (List St)} (e:L2=(L.set t0.a.toNat (L[t0.a.toNat]'(by have:=ok.a0;have:=ok.a1;omega)++[⟨k,true⟩])).set t0.b.toNat (L[t0.b.toNat]'(by have:=ok.b0;have:=ok.b1;omega)++[⟨k,false⟩])) :
   ∀ p (hp:p < L2.length),Onw ts (d++[k]) p L2[p]:=by
 have hne:t0.a.toNat≠t0.b.toNat:=by have:=ok.a0;have:=ok.b0;have:=ok.ne;omega
 have ha0:=ok.a0
 have hb0:=ok.b0
 intro p hp s
 have hp':p < L.length:=by rw [e]at hp;simpa using hp
 have hOp:=hO p hp' s
 have leg_s:s.k=k->∃ f,s=⟨k,f⟩:=by rcases s with ⟨a,f⟩;rintro rfl;exact ⟨f,rfl⟩
 have e2:L2[p]=if t0.b.toNat=p then L[p]++[⟨k,false⟩] else if t0.a.toNat=p then L[p]++[⟨k,true⟩] else L[p]:=by
   subst e
   simp only [List.getElem_set]
   split
   . rename_i h1;subst h1;rfl
   . split
     . rename_i h1;subst h1;rfl
     . rfl
 rw [e2]
 constructor
 . intro hs
   split at hs
   . rename_i h1
     rcases List.mem_append.1 hs with hs | hs
     . have:=hOp.1 hs;exact ⟨by simp [this.1],this.2⟩
     . simp at hs;subst hs
       refine ⟨by simp,zbp false t0,hleg false,?_⟩
       clear hOp
       simp [zbp,tn];omega
   . split at hs
     . rename_i h1
       rcases List.mem_append.1 hs with hs | hs
       . have:=hOp.1 hs;exact ⟨by simp [this.1],this.2⟩
       . simp at hs;subst hs
         refine ⟨by simp,zbp true t0,hleg true,?_⟩
         clear hOp
         simp [zbp];omega
     . have:=hOp.1 hs;exact ⟨by simp [this.1],this.2⟩
 . rintro ⟨h1,t,h2,h3⟩
   by_cases hd:s.k∈d
   . have:=hOp.2 ⟨hd,t,h2,h3⟩
     split
     . simp [this]
     . split
       . simp [this]
       . exact this
   . have hk:s.k=k:=by simpa [hd] using h1
     obtain ⟨f,rfl⟩:=leg_s hk
     rw [hleg f]at h2
     cases h2
     clear hOp
     cases f
     . simp [zbp,tn]at h3
       rw [if_pos (by omega)];simp
     . simp [zbp]at h3
       rw [if_neg (by omega),if_pos (by omega)];simp
theorem ze5 {h:MH}{w t c:Nat}{P:Nat}{turn:Int}{ts:List T3} (W:zb7 h w t P turn ts) (hts:∀ t∈ts,t.Ok P) (hP0:1<=P) (hP:P<=1000000) {cs:List Nat} (hc:h[c]?=some (.lst (cs.map fun k=> .int (k:Nat)))) (hcs:∀ k∈cs,k < ts.length) (hcl:cs.length<=100000) :
   ∃ g L,app zfY [.obj w,.obj c] h = .ok (.obj (h.length+1+P)) (h++g)∧Tbl (h++g) (h.length+1+P) (h.length+1) P L∧∀ p (hp:p < L.length),Onw ts cs p L[p]:=by
 unfold app zfY
 have loop:=zg7 (t := .nm 4) (gs:=[(c,.lst (cs.map fun k=> .int (k:Nat)))]) (body:=(zf (z9 (zbg (bin zi (var 3) (bin zi (bin zi (var 2) (var 4)) (zb (.int (0))))) (zM (za (var 4) (za (zb (.int (1))) ze)))))
   (z9 (zbg (bin zi (var 3) (bin zi (bin zi (var 2) (var 4)) (zb (.int (1))))) (zM (za (var 4) (za (zb (.int (-1))) ze))))))) (fun k:Nat=>D.int k)
   (fun d e h'=>∃ L x,e=[some (.obj w),some (.obj c),some (.obj h.length),some (.obj (h.length+1+P)),x]∧h'=stH h ts P L∧L.length=P∧(∀ p (hp:p < L.length),Onw ts d p L[p])∧∀ p (hp:p < L.length),L[p].length<=2 * d.length) cs (by
   rintro d k r e h' eq ⟨L,x,rfl,rfl,hL,hO,hN⟩
   refine ⟨zct (zG hc _),_,rfl,?_⟩
   have hk:=hcs k (by rw [<- eq];simp)
   have hat:MI.atI (ts.map tD) (k:Int)=some (tD ts[k]):=by rw [zgA (by simpa using hk)];simp
   have ok:=hts ts[k] (List.getElem_mem hk)
   have hleg1:∀ f,z8 ts ⟨k,f⟩=some (zbp f ts[k]):=fun f=>by simp [z8,hk]
   generalize ts[k]=t0 at hat ok hleg1
   have hdl:d.length < 100000:=by have:=congrArg List.length eq;simp at this;omega
   have ha0:=ok.a0
   have ha1:=ok.a1
   have hb0:=ok.b0
   have hb1:=ok.b1
   have hne:t0.a.toNat≠t0.b.toNat:=by have:=ok.ne;omega
   have hA:t0.a.toNat < L.length:=by omega
   have hB:t0.b.toNat < L.length:=by omega
   have hB2:t0.b.toNat < (L.set t0.a.toNat (L[t0.a.toNat]++[⟨k,true⟩])).length:=by simpa using hB
   have r1:=zpz (n:=h.length+1) (P:=P) ha0 ha1
   have r2:=zpz (n:=h.length+1) (P:=P) hb0 hb1
   have l1:=hN _ hA
   have l2:=hN _ hB
   have s1:(L[t0.a.toNat].map sD)++[.tup [.int k,.int 1]]=(L[t0.a.toNat]++[(⟨k,true⟩:St)]).map sD:=by simp [sD,wy]
   have s2:(L[t0.b.toNat].map sD)++[.tup [.int k,.int (-1)]]=(L[t0.b.toNat]++[(⟨k,false⟩:St)]).map sD:=by simp [sD,wy]
   refine ⟨[some (.obj w),some (.obj c),some (.obj h.length),some (.obj (h.length+1+P)),some (.int k)],stH h ts P ((L.set t0.a.toNat (L[t0.a.toNat]++[⟨k,true⟩])).set t0.b.toNat (L[t0.b.toNat]++[⟨k,false⟩])),?_,_,_,rfl,rfl,by simpa using hL,zFa ok hL hleg1 hO rfl,?_⟩
   . have g1:=zpJ (h:=h) (ts:=ts) (P:=P) hA
     have g2:=zpJ (h:=h) (ts:=ts) (P:=P) hB2
     rw [List.getElem_set_ne hne]at g2
     have t1:=ziB (h:=h) (ts:=ts) hL
     have t2:=ziB (h:=h) (ts:=ts) (L:=L.set t0.a.toNat (L[t0.a.toNat]++[⟨k,true⟩])) (P:=P) (by simpa using hL)
     have u1:=zr4 (h:=h) (ts:=ts) (P:=P) hA (L[t0.a.toNat]++[⟨k,true⟩])
     have u2:=zr4 (h:=h) (ts:=ts) (P:=P) hB2 (L[t0.b.toNat]++[⟨k,false⟩])
     have m1:L[t0.a.toNat].length < 1000000:=by omega
     have m2:L[t0.b.toNat].length < 1000000:=by omega
     rw [<- s1]at u1
     rw [<- s2]at u2
     simp [zbn,zDm,hat,r1,r2,g1,g2,t1,t2,zdc,m1,m2,u1,u2]
   . intro p hp
     have hp':p < L.length:=by simpa using hp
     have:=hN p hp'
     simp only [List.getElem_set]
     split
     . rename_i e;subst e;simp;omega
     . split
       . rename_i e;subst e;simp;omega
       . simp;omega)
   (by rintro e h' ⟨L,x,rfl,rfl,_⟩;exact zct (zG hc _)) [some (.obj w),some (.obj c),some (.obj h.length),some (.obj (h.length+1+P)),none] (stH h ts P (List.replicate P [])) ⟨_,none,rfl,rfl,by simp,by
     intro p hp s
     simp [Onw],by simp⟩
 obtain ⟨e2,h2,hr,L,x,rfl,rfl,hL,hO,_⟩:=loop
 refine ⟨.lst (ts.map tD) :: (zeQ L++[.lst (zey (h.length+1) P)]),L,?_,⟨?_,hL,?_⟩,hO⟩
 . have cn:=ztE (h:=h++[.lst (ts.map tD)]) (gs:=[]) (fun _=>rfl) (List.range P) 0 [] none
   have q:(-1000000:Int)<=P∧(P:Int)<=1000000:=by omega
   simp at cn
   simp [W.w,zcb,zcR W,W.wA,q,zbS,hP]
   have eL:(h++O.lst (ts.map tD) :: List.replicate P (O.lst [])).length=h.length+1+P:=by simp;omega
   have eH:(h++O.lst (ts.map tD) :: List.replicate P (O.lst []))++[O.lst ((List.range P).map fun k=>D.obj (h.length+1+k))]=stH h ts P (List.replicate P []):=by simp [stH,zeQ,zey]
   have hc2:∀ L,(stH h ts P L)[c]?=some (.lst (cs.map fun k=> .int (k:Nat))):=fun L=>zG hc _
   rw [cn]
   simp only [zCB,ziV,zce,eL,eH]
   simp [hc2,hr]
   have hlt:¬ h.length+1+P < h.length:=by omega
   have hfl:(O.lst (zey (h.length+1) P)).flat=false:=by
     obtain ⟨m,rfl⟩:∃ m,P=m+1:=⟨P - 1,by omega⟩
     simp [O.flat,zey,List.range_succ_eq_map,nrs,D.nr]
   simp only [gc]
   rw [show stH h ts P L=h++(.lst (ts.map tD) :: (zeQ L++[.lst (zey (h.length+1) P)])) from rfl,if_pos (zen _ _)]
   have tb:=ziB (h:=h) (ts:=ts) hL
   unfold stH at tb
   simp [gcV,hlt,tb,hfl]
 . exact ziB hL
 . intro p hp
   exact zpJ (by omega)
end Mx
end
section
open PySem MI
namespace Mx
open My
abbrev En:=Int×Option St
noncomputable def oD:Option St->D
 | none=> .non
 | some s=>sD s
noncomputable def eD (e:En):Int×D:=(e.1,oD e.2)
noncomputable def keys (A:List En):List Int:=A.map (·.1)
@[simp] theorem zhe (A B:List En):keys (A++B)=keys A++keys B:=by simp [keys]
@[simp] theorem ziz (e:En):keys [e]=[e.1]:=rfl
@[simp] theorem zA3 (e:En) (A:List En):keys (e :: A)=e.1 :: keys A:=rfl
@[simp] theorem zFU:keys []=[]:=rfl
theorem zhX:∀ (A:List En) (k:Int),(look k (A.map eD)).isSome=decide (k∈keys A)
 | [],k=>rfl
 | e :: A,k=>by
   simp only [List.map_cons,look]
   by_cases h:e.1=k
   . simp [eD,h]
   . have h':¬ k=e.1:=fun c=>h c.symm
     have:=zhX A k
     have hh:¬ (eD e).1=k:=h
     rw [if_neg hh,this]
     simp [h']
theorem zrX:∀ (A:List En) (k:Int),((A.map eD).any fun p=>decide (p.1=k))=decide (k∈keys A)
 | [],k=>rfl
 | e :: A,k=>by
   have:=zrX A k
   simp only [List.map_cons,List.any_cons,this]
   by_cases h:e.1=k
   . simp [eD,h]
   . have h':¬ k=e.1:=fun c=>h c.symm
     simp [eD,h,h']
theorem ztN {A:List En}{k:Int} (h:k∉keys A) (o:Option St):zcV k (oD o) (A.map eD)=(A++[(k,o)]).map eD:=by
 unfold zcV
 rw [if_neg (by rw [zrX];simp [h])]
 simp [eD]
theorem zDT (o:Option St):(oD o).nr=true:=by cases o <;> rfl
theorem zs1 (A:List En):(O.dic (A.map eD)).flat=true:=by
 simp only [O.flat,List.map_map]
 exact zhp _ (fun e=>zDT e.2) A
inductive zbR (ts:List T3) (cs:List Nat) (A:List En) (start:Int):List En->Prop
 | root:zbR ts cs A start [(start,none)]
 | step {N:List En} {s:St} {t:T3}:zbR ts cs A start N->z8 ts s=some t->s.k∈cs->t.a∈keys N->t.b∉keys (A++N)->zbR ts cs A start (N++[(t.b,some s)])
theorem zbR.nodup {ts:List T3}{cs:List Nat}{A N:List En}{start:Int} (G:zbR ts cs A start N):(keys N).Nodup:=by
 induction G with
 | root=>simp
 | step G hl hk ha hb ih =>
   simp only [zhe,ziz]
   rw [List.nodup_append]
   refine ⟨ih,by simp,?_⟩
   intro x hx y hy e
   simp at hy
   subst hy;subst e
   exact hb (by simp [hx])
theorem zbR.range {ts:List T3}{cs:List Nat}{A N:List En}{start:Int}{P:Nat} (hts:∀ t∈ts,t.Ok P) (h0:0<=start) (h1:start < P) (G:zbR ts cs A start N):∀ x∈keys N,0<=x∧x < (P:Int):=by
 induction G with
 | root=>simp;exact ⟨h0,h1⟩
 | step G hl hk ha hb ih =>
   intro x hx
   simp at hx
   rcases hx with hx | rfl
   . exact ih x hx
   . have:=zsu hts hl;exact ⟨this.b0,this.b1⟩
theorem zrY {l:List Int}{P:Nat} (hn:l.Nodup) (hr:∀ x∈l,0<=x∧x < (P:Int)):l.length<=P:=by
 have:=zfl l ((List.range P).map fun (k:Nat)=>(k:Int)) hn (fun x hx=>by
   have:=hr x hx
   exact List.mem_map.2 ⟨x.toNat,List.mem_range.2 (by omega),by omega⟩)
 simpa using this
noncomputable def spH (h:MH) (q:Nat) (A:List En) (W:List Int):MH:=h.set q (.dic (A.map eD))++[.lst (W.map .int)]
section
variable {h:MH}{q:Nat}{A:List En}{W:List Int}
theorem zug (hq:q < h.length):(spH h q A W)[q]?=some (.dic (A.map eD)):=by
 unfold spH
 rw [List.getElem?_append_left (by simpa using hq),List.getElem?_set_self hq]
theorem zhG {n:Nat}{o:O} (hn:h[n]?=some o) (hnq:n≠q):(spH h q A W)[n]?=some o:=by
 unfold spH
 rw [List.getElem?_append_left (by simpa using (List.getElem?_eq_some_iff.1 hn).1),List.getElem?_set_ne (fun e=>hnq e.symm)]
 exact hn
theorem zo0:(spH h q A W)[h.length]?=some (.lst (W.map .int)):=by
 unfold spH
 rw [List.getElem?_append_right (by simp)]
 simp
theorem zEJ (W2:List Int):(spH h q A W).set h.length (.lst (W2.map .int))=spH h q A W2:=by
 unfold spH
 rw [List.set_append_right _ _ (by simp)]
 simp
theorem zDx (hq:q < h.length) (A2:List En):(spH h q A W).set q (.dic (A2.map eD))=spH h q A2 W:=by
 unfold spH
 rw [List.set_append_left _ _ (by simpa using hq)]
 simp
end
theorem zEp {h:MH}{q:Nat}{o:O} (f:o.flat=true) (g:MH):gc h (.ok .non (h.set q o++g)) = .ok .non (h.set q o):=by
 have ok:zev h (h.set q o++g)=true:=by
   unfold zev
   rw [List.all_eq_true]
   intro i hi
   rw [List.mem_range]at hi
   rw [List.getElem?_append_left (by simpa using hi)]
   by_cases e:q=i
   . subst e
     rw [List.getElem?_set_self hi];simp [f]
   . rw [List.getElem?_set_ne e];simp
 simp [gc,ok,gcV]
noncomputable def Clo (ts:List T3) (cs:List Nat) (ps K:List Int):Prop:=∀ s t,s.k∈cs->z8 ts s=some t->t.a∈ps->t.b∈K
theorem zfw {h:MH}{n m b q P:Nat}{ts:List T3}{cs:List Nat} (hn:h[n]?=some (.lst (ts.map tD))) (hts:∀ t∈ts,t.Ok P) (hP:P<=900000) {L:List (List St)} (TB:Tbl h m b P L) (hO:∀ p (hp:p < L.length),Onw ts cs p L[p])
   {A:List En} (hA:h[q]?=some (.dic (A.map eD))) (hAl:A.length+P<=900000) {start:Int} (h0:0<=start) (h1:start < P) (hs:start∉keys A) :
   ∃ N,app zfZ [.obj n,.obj m,.int start,.obj q] h = .ok .non (h.set q (.dic ((A++N).map eD)))∧zbR ts cs A start N∧Clo ts cs (keys N) (keys (A++N)):=by
 have hq:q < h.length:=(List.getElem?_eq_some_iff.1 hA).1
 have hnq:n≠q:=fun e=>by rw [e,hA]at hn;cases hn
 have hmq:m≠q:=fun e=>by have:=TB.tb;rw [e,hA]at this;cases this
 have hbq:∀ p,p < P->b+p≠q:=fun p hp e=>by have:=TB.at' p hp;rw [e,hA]at this;cases this
 unfold app zfZ
 have loop:=zsz (t:=(tst (bin ltV (var 5) (zbU (zbW (var 4)))))) (body:=(zf (zk (.nm 6) (bin zi (var 4) (var 5)))
   (zf (zcD (.nm 7) (itL (bin zi (var 1) (var 6)))
   (zf (zk (.nm 8) (bin zi (zj zc6 (za (var 0) (za (var 7) ze))) (zb (.int (1)))))
   (ifS (tst (bin zb2 (var 8) (var 3))) (zf (zgG (var 3) (var 8) (var 7))
   (z9 (zbg (var 4) (var 8)))) zp)))
   (zhs zE 5 (zb (.int (1)))))))
   (fun k e h'=>∃ N x y z place,e=[some (.obj n),some (.obj m),some (.int start),some (.obj q),some (.obj h.length),some (.int (place:Nat)),x,y,z]∧h'=spH h q (A++N) (keys N)∧zbR ts cs A start N∧place<=N.length∧k=P - place∧Clo ts cs ((keys N).take place) (keys (A++N)))
   (fun e h'=>∃ N,h'=spH h q (A++N) (keys N)∧zbR ts cs A start N∧Clo ts cs (keys N) (keys (A++N))) (by
   rintro k e h' ⟨N,x,y,z,place,rfl,rfl,G,hpl,rfl,hC⟩
   have hNl:N.length<=P:=by have:=zrY G.nodup (G.range hts h0 h1);simpa [keys] using this
   have ltest:(((tst (bin ltV (var 5) (zbU (zbW (var 4)))))):ME Bool) [some (.obj n),some (.obj m),some (.int start),some (.obj q),some (.obj h.length),some (.int (place:Nat)),x,y,z] (spH h q (A++N) (keys N)) = .ok (decide (place < N.length)) (spH h q (A++N) (keys N)):=by
     simp [zo0,keys]
   by_cases hlt:place < N.length
   . right
     refine ⟨by rw [ltest];simp [hlt],?_⟩
     have hpk:place < (keys N).length:=by simpa [keys] using hlt
     have hhere:=G.range hts h0 h1 _ (List.getElem_mem hpk)
     have hat:MI.atI ((keys N).map D.int) (place:Int)=some (.int (keys N)[place]):=by rw [zgA (by simpa using hpk)];simp
     generalize hhp:(keys N)[place]=here at hhere hat
     have hhm:here∈keys N:=by rw [<- hhp];exact List.getElem_mem hpk
     have htk:(keys N).take (place+1)=(keys N).take place++[here]:=by rw [<- hhp,List.take_append_getElem hpk]
     have hpt:here.toNat < P:=by omega
     have hLl:here.toNat < L.length:=by rw [TB.len];exact hpt
     have hr:=zpz (n:=b) (P:=P) hhere.1 hhere.2
     have hss:=TB.at' here.toNat hpt
     have hon:=hO here.toNat hLl
     have hbq':=hbq here.toNat hpt
     generalize hsd:L[here.toNat]=ss at hss hon
     have hcast:((here.toNat:Nat):Int)=here:=by omega
     have inner:=zg7 (t := .nm 7) (gs:=[(b+here.toNat,.lst (ss.map sD))]) (body:=(zf (zk (.nm 8) (bin zi (zj zc6 (za (var 0) (za (var 7) ze))) (zb (.int (1)))))
   (ifS (tst (bin zb2 (var 8) (var 3))) (zf (zgG (var 3) (var 8) (var 7))
   (z9 (zbg (var 4) (var 8)))) zp))) sD
       (fun d e h'=>∃ M y z,e=[some (.obj n),some (.obj m),some (.int start),some (.obj q),some (.obj h.length),some (.int (place:Nat)),some (.int here),y,z]∧h'=spH h q (A++(N++M)) (keys (N++M))∧zbR ts cs A start (N++M)∧∀ s∈d,∀ t,z8 ts s=some t->t.b∈keys (A++(N++M))) ss (by
       rintro d s r e h' eq ⟨M,y,z,rfl,rfl,G2,hD⟩
       refine ⟨zct (zhG hss hbq'),_,rfl,?_⟩
       obtain ⟨hk,t,hl,ha⟩:=(hon s).1 (by rw [<- eq];simp)
       rw [hcast]at ha
       have hlg:=zeH (h:=spH h q (A++(N++M)) (keys (N++M))) (zhG hn hnq) hl
       have hNMl:(keys (N++M)).length<=P:=zrY G2.nodup (G2.range hts h0 h1)
       by_cases hb:t.b∈keys (A++(N++M))
       . refine ⟨_,_,?_,M,some (sD s),some (.int t.b),rfl,rfl,G2,?_⟩
         . have hl1:=zhX (A++(N++M)) t.b
           rw [decide_eq_true hb]at hl1
           simp only [List.map_append,zhe]at hl1 hlg
           simp [hlg,zb2,inV,zug hq,hl1]
         . intro s' hs' t' hl'
           rcases List.mem_append.1 hs' with h2 | h2
           . exact hD s' h2 t' hl'
           . simp at h2;subst h2;rw [hl]at hl';cases hl';exact hb
       . have G3:zbR ts cs A start (N++M++[(t.b,some s)]) := .step G2 hl hk (by rw [ha];simp [hhm]) hb
         rw [List.append_assoc]at G3
         have hkk:keys (N++(M++[(t.b,some s)]))=keys (N++M)++[t.b]:=by simp
         have haa:A++(N++(M++[(t.b,some s)]))=(A++(N++M))++[(t.b,some s)]:=by simp
         refine ⟨_,spH h q (A++(N++(M++[(t.b,some s)]))) (keys (N++(M++[(t.b,some s)]))),?_,M++[(t.b,some s)],some (sD s),some (.int t.b),rfl,rfl,G3,?_⟩
         . have hl1:=zhX (A++(N++M)) t.b
           rw [decide_eq_false hb]at hl1
           have hp1:=ztN hb (some s)
           rw [hkk,haa]
           have w1:=zEJ (h:=h) (q:=q) (A:=(A++(N++M))++[(t.b,some s)]) (W:=keys (N++M)) (keys (N++M)++[t.b])
           have q1:=zDx (h:=h) (q:=q) (A:=A++(N++M)) (W:=keys (N++M)) hq ((A++(N++M))++[(t.b,some s)])
           have hlen:(A++(N++M)).length < 1000000:=by
             have e1:(keys (N++M)).length=(N++M).length:=by simp [keys]
             rw [List.length_append];omega
           have hlen2:(keys (N++M)).length < 1000000:=by omega
           have hpe:zcV t.b (sD s) ((A++(N++M)).map eD)=((A++(N++M))++[(t.b,some s)]).map eD:=hp1
           rw [List.map_append]at w1
           generalize keys (N++M)=KN at *
           generalize A++(N++M)=AN at *
           simp only [List.map_cons,List.map_nil]at w1
           simp [hlg,zb2,inV,zug hq,hl1]
           rw [if_pos hlen,hpe,q1]
           simp [zo0,zdc,hlen2,w1]
         . intro s' hs' t' hl'
           rw [haa]
           rcases List.mem_append.1 hs' with h2 | h2
           . have:=hD s' h2 t' hl';rw [zhe];simp only [List.mem_append];exact .inl this
           . simp at h2;subst h2;rw [hl]at hl';cases hl';simp) (by
       rintro e h' ⟨M,y,z,rfl,rfl,G2,hD⟩;exact zct (zhG hss hbq')) [some (.obj n),some (.obj m),some (.int start),some (.obj q),some (.obj h.length),some (.int (place:Nat)),some (.int here),y,z] (spH h q (A++N) (keys N)) ⟨[],y,z,rfl,by simp,by simpa using G,by simp⟩
     obtain ⟨e2,h2,hr2,M,y2,z2,rfl,rfl,G2,hD⟩:=inner
     refine ⟨P - (place+1),[some (.obj n),some (.obj m),some (.int start),some (.obj q),some (.obj h.length),some (.int ((place+1:Nat):Int)),some (.int here),y2,z2],spH h q (A++(N++M)) (keys (N++M)),by omega,?_,N++M,_,_,_,place+1,rfl,rfl,G2,by simp;omega,rfl,?_⟩
     . simp [zbn,zo0,hat,zhG TB.tb hmq,hr,zhG hss hbq',hr2]
     . intro s t hk hl ha
       rw [zhe N M,List.take_append_of_le_length (by omega),htk]at ha
       rcases List.mem_append.1 ha with h2 | h2
       . have:=hC s t hk hl h2
         simp at this ⊢
         rcases this with h3 | h3
         . exact .inl h3
         . exact .inr (.inl h3)
       . simp at h2
         exact hD s ((hon s).2 ⟨hk,t,hl,by rw [hcast];exact h2⟩) t hl
   . left
     refine ⟨by rw [ltest];simp [hlt],N,rfl,G,?_⟩
     intro s t hk hl ha
     refine hC s t hk hl ?_
     rw [List.take_of_length_le (by simp [keys];omega)]
     exact ha) 1000000 P [some (.obj n),some (.obj m),some (.int start),some (.obj q),some (.obj h.length),some (.int ((0:Nat):Int)),none,none,none] (spH h q (A++[(start,none)]) [start]) (by omega)
   ⟨[(start,none)],none,none,none,0,rfl,rfl,.root,by simp,by omega,fun s t _ _ ha=>by simp at ha⟩
 obtain ⟨e2,h2,hr,N,rfl,G,hC⟩:=loop
 refine ⟨N,?_,G,hC⟩
 have hp1:=ztN hs none
 have hal:A.length < 1000000:=by omega
 have e1:(h.set q (.dic ((A++[(start,none)]).map eD))).length=h.length:=by simp
 simp only [oD]at hp1
 unfold spH at hr
 simp only [ziz,List.map_cons,List.map_nil]at hr
 simp [hA,hal,hp1]
 unfold zhB
 simp only [List.map_append,List.map_cons,List.map_nil,show ((0:Nat):Int)=0 from rfl]at hr
 rw [hr]
 have hf:=zs1 (A++N)
 rw [List.map_append]at hf
 exact zEp hf _
end Mx
end
section
open PySem MI
namespace Mx
open My
theorem Tbl.app {h:MH}{m n P:Nat}{L:List (List St)} (T:Tbl h m n P L) (g:MH):Tbl (h++g) m n P L:=⟨zG T.tb g,T.len,fun p hp=>zG (T.at' p hp) g⟩
theorem zfx {h:MH}{w t c P:Nat}{turn:Int}{ts:List T3} (W:zb7 h w t P turn ts) (hts:∀ t∈ts,t.Ok P) (hP0:1<=P) (hP:P<=900000) {cs:List Nat} (hc:h[c]?=some (.lst (cs.map fun k=> .int (k:Nat)))) (hcs:∀ k∈cs,k < ts.length) (hcl:cs.length<=100000)
   {start:Int} (h0:0<=start) (h1:start < P) :
   ∃ N,app zf0 [.obj w,.obj c,.int start] h = .ok (.obj h.length) (h++[.dic (N.map eD)])∧zbR ts cs [] start N∧Clo ts cs (keys N) (keys N):=by
 unfold app zf0
 obtain ⟨g,L,hsf,TB,hO⟩:=ze5 (W.app [.dic [],.lst (ts.map tD)]) hts hP0 (by omega) (zG hc _) hcs hcl
 have hti:=zcR (W.app [.dic []])
 obtain ⟨N,hsp,G,hC⟩:=zfw (h:=(h++[.dic [],.lst (ts.map tD)])++g) (n:=h.length+1) (q:=h.length) (A:=[]) (by simp) hts hP TB hO (by simp) (by simp;omega) h0 h1 (by simp)
 refine ⟨N,?_,G,by simpa using hC⟩
 simp at hti hsf hsp
 simp [W.wA,zcb,hti,hsf,hsp]
 exact ztg (o := .dic (N.map eD)) h _ (zs1 N)
inductive zc7 (ts:List T3) (cs:List Nat):List En->Prop
 | nil:zc7 ts cs []
 | root {A:List En} {p:Int}:zc7 ts cs A->p∉keys A->zc7 ts cs (A++[(p,none)])
 | step {A:List En} {s:St} {t:T3}:zc7 ts cs A->z8 ts s=some t->s.k∈cs->t.a∈keys A->t.b∉keys A->zc7 ts cs (A++[(t.b,some s)])
theorem zc7.grow {ts:List T3}{cs:List Nat}{A N:List En}{start:Int} (B:zc7 ts cs A) (hs:start∉keys A) (G:zbR ts cs A start N):zc7 ts cs (A++N):=by
 induction G with
 | root=>exact .root B hs
 | step G hl hk ha hb ih =>
   rw [<- List.append_assoc]
   exact .step ih hl hk (by simp [ha]) hb
theorem zc7.nodup {ts:List T3}{cs:List Nat}{A:List En} (G:zc7 ts cs A):(keys A).Nodup:=by
 induction G with
 | nil=>simp
 | root G hb ih =>
   simp only [zhe,ziz]
   rw [List.nodup_append]
   refine ⟨ih,by simp,?_⟩
   intro x hx y hy e
   simp at hy
   subst hy;subst e
   exact hb (by simp [hx])
 | step G hl hk ha hb ih =>
   simp only [zhe,ziz]
   rw [List.nodup_append]
   refine ⟨ih,by simp,?_⟩
   intro x hx y hy e
   simp at hy
   subst hy;subst e
   exact hb (by simp [hx])
noncomputable def rv (s:St):St:=⟨s.k,!s.f⟩
theorem zHZ {ts:List T3}{s:St}{t:T3} (h:z8 ts s=some t):z8 ts (rv s)=some (tn t):=by
 unfold z8 at *
 cases hk:ts[s.k]? with
 | none=>rw [hk]at h;cases h
 | some t0 =>
   rw [hk]at h
   simp at h
   subst h
   simp only [rv,hk]
   cases s.f <;> simp [zbp,tn]
noncomputable def ze0 (A:List En):List Int:=A.filterMap fun e=>match e.2 with
 | none=>some e.1
 | some _=>none
@[simp] theorem zCQ (A B:List En):ze0 (A++B)=ze0 A++ze0 B:=by simp [ze0]
@[simp] theorem zH2:ze0 []=[]:=rfl
theorem zHw {B:List En} (h:∀ e∈B,e.2≠none):ze0 B=[]:=by
 unfold ze0
 rw [List.filterMap_eq_nil_iff]
 intro e he
 have:=h e he
 cases h2:e.2 with
 | none=>exact absurd h2 this
 | some s=>simp [h2]
theorem zC7 {A:List En}{x:Int} (h:x∈ze0 A):x∈keys A:=by
 unfold ze0 at h
 obtain ⟨e,he,h2⟩:=List.mem_filterMap.1 h
 cases h3:e.2 with
 | none=>simp [h3]at h2;subst h2;exact List.mem_map.2 ⟨e,he,rfl⟩
 | some s=>simp [h3]at h2
theorem zDj:∀ {A:List En},(keys A).Nodup->(ze0 A).Nodup
 | [],_=>by simp
 | e :: A,h=>by
   rw [zA3,List.nodup_cons]at h
   have ih:=zDj h.2
   rw [show e :: A=[e]++A from rfl,zCQ]
   rcases e with ⟨p,o⟩
   cases o with
   | none=>exact List.nodup_cons.2 ⟨fun c=>h.1 (zC7 c),ih⟩
   | some s=>exact ih
theorem zbR.head {ts:List T3}{cs:List Nat}{A N:List En}{start:Int} (G:zbR ts cs A start N):∃ M,N=(start,none) :: M∧∀ e∈M,e.2≠none:=by
 induction G with
 | root=>exact ⟨[],rfl,by simp⟩
 | @step N s t G hl hk ha hb ih =>
   obtain ⟨M,rfl,h⟩:=ih
   refine ⟨M++[(t.b,some s)],rfl,?_⟩
   intro e he
   rcases List.mem_append.1 he with he | he
   . exact h e he
   . simp at he;subst he;simp
theorem zbR.disj {ts:List T3}{cs:List Nat}{A N:List En}{start:Int} (hs:start∉keys A) (G:zbR ts cs A start N):∀ x∈keys N,x∉keys A:=by
 induction G with
 | root=>simp;exact hs
 | step G hl hk ha hb ih =>
   intro x hx
   simp at hx
   rcases hx with hx | rfl
   . exact ih x hx
   . intro c;exact hb (by simp [c])
theorem zbR.roots {ts:List T3}{cs:List Nat}{A N:List En}{start:Int} (G:zbR ts cs A start N):∀ e∈N,e.2=none->e.1=start:=by
 induction G with
 | root=>simp
 | step G hl hk ha hb ih =>
   intro e he h2
   rcases List.mem_append.1 he with he | he
   . exact ih e he h2
   . simp at he;subst he;cases h2
theorem zbR.mem {ts:List T3}{cs:List Nat}{A N:List En}{start:Int} (G:zbR ts cs A start N):start∈keys N:=by
 induction G with
 | root=>simp
 | step G _ _ _ _ ih=>simp [ih]
end Mx
end
section
open PySem MI
namespace Mx
open My
inductive TrP (ts:List T3) (N:List En):Int->List St->Prop
 | root {p:Int}:look p (N.map eD)=some .non->TrP ts N p []
 | step {p:Int} {s:St} {t:T3} {S:List St}:look p (N.map eD)=some (sD s)->z8 ts s=some t->TrP ts N t.a S->TrP ts N p (S++[s])
theorem ztX {A B:List (Int×D)}{p:Int}{d:D} (h:look p A=some d):look p (A++B)=some d:=by
 induction A with
 | nil=>cases h
 | cons x A ih =>
   simp only [List.cons_append,look]at h ⊢
   split
   . rename_i e;rw [if_pos e]at h;exact h
   . rename_i e;rw [if_neg e]at h;exact ih h
theorem zB2 {A:List En}{p:Int}{o:Option St} (h:p∉keys A):look p ((A++[(p,o)]).map eD)=some (oD o):=by
 induction A with
 | nil=>simp [look,eD]
 | cons x A ih =>
   simp at h
   simp only [List.cons_append,List.map_cons,look]
   rw [if_neg (fun e=>h.1 e.symm)]
   exact ih h.2
theorem TrP.app {ts:List T3}{N M:List En}{p:Int}{S:List St} (T:TrP ts N p S):TrP ts (N++M) p S:=by
 induction T with
 | root h=>exact .root (by rw [List.map_append];exact ztX h)
 | step h hl T ih=>exact .step (by rw [List.map_append];exact ztX h) hl ih
theorem zbR.trace {ts:List T3}{cs:List Nat}{N:List En}{start:Int} (G:zbR ts cs [] start N):∀ p∈keys N,∃ S g,TrP ts N p S∧zbb ts start S=some g∧fin start g=p∧(start :: g.map (·.b)).Nodup∧(∀ x∈start :: g.map (·.b),x∈keys N)∧(∀ s∈S,s.k∈cs)∧S.length<=N.length:=by
 induction G with
 | root =>
   intro p hp
   simp at hp
   subst hp
   exact ⟨[],[],.root (by simp [look,eD,oD]),rfl,rfl,by simp,by simp,by simp,by simp⟩
 | @step N s t G hl hk ha hb ih =>
   intro p hp
   simp at hp hb
   rcases hp with hp | rfl
   . obtain ⟨S,g,h1,h2,h3,h4,h5,h6,h7⟩:=ih p hp
     exact ⟨S,g,h1.app,h2,h3,h4,fun x hx=>by simp [h5 x hx],h6,by simp;omega⟩
   . obtain ⟨S,g,h1,h2,h3,h4,h5,h6,h7⟩:=ih t.a ha
     refine ⟨S++[s],g++[t],.step (zB2 hb) hl h1.app,zqb h2 hl h3.symm,by simp,?_,?_,?_,by simp;omega⟩
     . have:start :: (g++[t]).map (·.b)=(start :: g.map (·.b))++[t.b]:=by simp
       rw [this,List.nodup_append]
       refine ⟨h4,by simp,?_⟩
       intro x hx y hy e
       simp at hy;subst hy;subst e
       exact hb (h5 _ hx)
     . intro x hx
       have:start :: (g++[t]).map (·.b)=(start :: g.map (·.b))++[t.b]:=by simp
       rw [this]at hx
       rcases List.mem_append.1 hx with hx | hx
       . simp [h5 x hx]
       . simp at hx;simp [hx]
     . intro x hx
       rcases List.mem_append.1 hx with hx | hx
       . exact h6 x hx
       . simp at hx;subst hx;exact hk
theorem zBs {h:MH}{ts:List T3}{N:List En}{w goal:D}{q:Nat} (hq:h[q]?=some (.dic (N.map eD))) {p:Int}{S:List St} (T:TrP ts N p S) :
   ∀ (acc:List St) (fuel:Nat),S.length < fuel->acc.length+S.length<=900000->∃ p',zfF (tst (bin zch (bin zi (var 1) (var 5)) (zb .non))) (zf (z9 (zbg (var 4) (bin zi (var 1) (var 5))))
   (zk (.nm 5) (bin zi (zj zc6 (za (var 3) (za (bin zi (var 1) (var 5)) ze))) (zb (.int (0)))))) fuel
     [some w,some (.obj q),some goal,some (.obj h.length),some (.obj (h.length+1)),some (.int p)] (h++[.lst (ts.map tD),.lst (acc.map sD)]) =
     .nx [some w,some (.obj q),some goal,some (.obj h.length),some (.obj (h.length+1)),some (.int p')] (h++[.lst (ts.map tD),.lst ((acc++S.reverse).map sD)]):=by
 induction T with
 | @root p hl =>
   intro acc fuel hf _
   obtain ⟨f,rfl⟩:∃ f,fuel=f+1:=⟨fuel - 1,by simp at hf;omega⟩
   refine ⟨p,?_⟩
   rw [zfF]
   simp [zbn,zG hq,hl]
 | @step p s t S hl hleg T ih =>
   intro acc fuel hf hal
   obtain ⟨f,rfl⟩:∃ f,fuel=f+1:=⟨fuel - 1,by omega⟩
   simp at hf hal
   obtain ⟨p',ih⟩:=ih (acc++[s]) f (by omega) (by simp;omega)
   refine ⟨p',?_⟩
   have hlg:=zeH (h:=h++[.lst (ts.map tD),.lst ((acc++[s]).map sD)]) (l:=h.length) (by simp) hleg
   have hac:acc.length < 1000000:=by omega
   have hne:¬ sD s = .non:=by simp [sD]
   simp at ih hlg
   rw [zfF]
   simp [zbn,zG hq,hl,hne,zdc,hac,hlg]
   exact ih
theorem zfy {h:MH}{w t q P:Nat}{turn:Int}{ts:List T3} (W:zb7 h w t P turn ts) {N:List En} (hq:h[q]?=some (.dic (N.map eD))) {p:Int}{S:List St} (T:TrP ts N p S) (hS:S.length<=900000) :
   app zf1 [.obj w,.obj q,.int p] h = .ok (.obj h.length) (h++[.lst (S.map sD)]):=by
 unfold app zf1
 obtain ⟨p',hl⟩:=zBs (w := .obj w) (goal := .int p) hq T [] 1000000 (by omega) (by simp;omega)
 simp at hl
 simp [W.w,zcb,zcR W,zhB,hl]
 exact zjh h _ (k:=1) rfl (zo9 S)
noncomputable def zeB (A:List En):List Nat:=A.filterMap fun e=>e.2.map (·.k)
theorem zuk {A:List En}{k:Nat}:k∈zeB A↔∃ e∈A,∃ s,e.2=some s∧s.k=k:=by
 unfold zeB
 simp only [List.mem_filterMap,Option.map_eq_some_iff]
theorem zc7.ends {ts:List T3}{cs:List Nat}{A:List En} (B:zc7 ts cs A):∀ e∈A,∀ s,e.2=some s->s.k∈cs∧∃ t,z8 ts s=some t∧t.a∈keys A∧t.b∈keys A:=by
 induction B with
 | nil=>simp
 | root B hb ih =>
   intro e he s hs
   rcases List.mem_append.1 he with he | he
   . obtain ⟨h1,t,h2,h3,h4⟩:=ih e he s hs
     exact ⟨h1,t,h2,by simp [h3],by simp [h4]⟩
   . simp at he;subst he;cases hs
 | step B hl hk ha hb ih =>
   intro e he s hs
   rcases List.mem_append.1 he with he | he
   . obtain ⟨h1,t,h2,h3,h4⟩:=ih e he s hs
     exact ⟨h1,t,h2,by simp [h3],by simp [h4]⟩
   . simp at he;subst he;cases hs
     exact ⟨hk,_,hl,by simp [ha],by simp⟩
theorem zBN {ts:List T3}{s s':St}{t t':T3} (h:z8 ts s=some t) (h':z8 ts s'=some t') (e:s.k=s'.k):t'=t∨t'=tn t:=by
 unfold z8 at *
 rw [<- e]at h'
 cases hk:ts[s.k]? with
 | none=>rw [hk]at h;cases h
 | some t0 =>
   rw [hk]at h h'
   simp at h h'
   subst h;subst h'
   cases s.f <;> cases s'.f <;> simp [zbp,tn]
theorem zc7.ks_nodup {ts:List T3}{cs:List Nat}{A:List En} (B:zc7 ts cs A):(zeB A).Nodup:=by
 induction B with
 | nil=>simp [zeB]
 | root B hb ih=>simpa [zeB] using ih
 | @step A s t B hl hk ha hb ih =>
   have e1:zeB (A++[(t.b,some s)])=zeB A++[s.k]:=by simp [zeB]
   rw [e1,List.nodup_append]
   refine ⟨ih,by simp,?_⟩
   intro x hx y hy e
   simp at hy
   obtain ⟨en,he,s',h1,h2⟩:=zuk.1 hx
   obtain ⟨_,t',h3,h4,h5⟩:=B.ends en he s' h1
   rcases zBN h3 hl (by omega) with h6 | h6
   . subst h6;exact hb h5
   . subst h6;exact hb h4
theorem zpb {x y:Int}:∀ {l:List Int},x∈zcv y l↔x=y∨x∈l
 | []=>by simp [zcv]
 | z :: l=>by
   unfold zcv
   split
   . simp
   . simp only [List.mem_cons,zpb (l:=l)]
     constructor
     . rintro (h | h | h)
       . exact .inr (.inl h)
       . exact .inl h
       . exact .inr (.inr h)
     . rintro (h | h | h)
       . exact .inr (.inl h)
       . exact .inl h
       . exact .inr (.inr h)
theorem zgt {x:Int}:∀ {l:List Int},x∈sortI l↔x∈l
 | []=>by simp [sortI]
 | z :: l=>by
   have:=zgt (x:=x) (l:=l)
   unfold sortI at *
   rw [List.foldr_cons,zpb,this,List.mem_cons]
theorem zsr {y:Int}:∀ {l:List Int},(zcv y l).length=l.length+1
 | []=>rfl
 | z :: l=>by
   unfold zcv
   split
   . simp
   . simp [zsr (l:=l)]
theorem zuh:∀ {l:List Int},(sortI l).length=l.length
 | []=>rfl
 | z :: l=>by
   have:=zuh (l:=l)
   unfold sortI at *
   rw [List.foldr_cons,zsr,this,List.length_cons]
end Mx
end
section
open PySem MI
namespace Mx
open My
noncomputable def zeS:List Int:=[1000003,1000033,1000037,1000039,1000081,1000099,1000117,1000121,1000133,1000151,1000159,1000171,1000183,1000187,1000193,1000199]
@[irreducible] noncomputable def zcO (a b m:Int):Int:=(a * 48271+b * 69621) % hAt zeS (b % 16) % m
theorem zeR (a b:Int) {m:Int} (hm:0 < m):0<=zcO a b m:=by unfold zcO;exact Int.emod_nonneg _ (by omega)
theorem zeU (a b:Int) {m:Int} (hm:0 < m):zcO a b m < m:=by unfold zcO;exact Int.emod_lt_of_pos _ hm
theorem zpQ {l:List Int}{i:Int} (h0:0<=i) (h1:i < l.length):hAt l i∈l:=by
 have:i.toNat < l.length:=by omega
 simp [hAt,this]
theorem zD3 {i:Int} (h0:0<=i) (h1:i < 16):0 < hAt zeS i:=by
 have h:=zpQ (l:=zeS) h0 (by simpa [zeS] using h1)
 revert h
 generalize hAt zeS i=x
 have:∀ x∈zeS,0 < x:=by decide
 exact this x
theorem zdq {a b m:Int} (hm:0 < m) (h:MH):app zD [.int a,.int b,.int m] h = .ok (.int (zcO a b m)) h:=by
 unfold app zD
 have h0:0<=b % 16:=Int.emod_nonneg _ (by omega)
 have h1:b % 16 < 16:=Int.emod_lt_of_pos _ (by omega)
 have at16:=zfc (hs:=zeS) h0 (by simpa [zeS] using h1)
 have hp:=zD3 h0 h1
 have s1:zcF 48271=true:=by decide
 have s2:zcF 69621=true:=by decide
 unfold zcO
 generalize hAt zeS (b % 16)=p at *
 simp only [zeS,List.map_cons,List.map_nil]at at16
 simp [s1,s2,zi,at16,hp,hm]
noncomputable def zgv (ns:List Int) (i:Int):Int:=if i < ns.length then hAt ns i else 0
theorem zs4 {ns:List Int}{n:Nat}{h:MH} (hn:h[n]?=some (.scr (ns.map .int))) {i:Int} (h0:0<=i):app zb9 [.obj n,.int i] h = .ok (.int (zgv ns i)) h:=by
 unfold app zb9 zgv
 by_cases hl:i < ns.length
 . simp [hn,hl,zbn,zfc h0 hl]
 . simp [hn,hl]
theorem zGk (l:List Int) {i:Int} (h0:0<=i) (h1:i < l.length):MI.atI (l.map D.int) i=some (.int (hAt l i)):=zfc h0 h1
theorem zHt (l:List Int) {i:Int} (h0:0<=i) (h1:i < l.length) (e:zx) (h:MH):zi (.tup (l.map D.int)) (.int i) e h = .ok (.int (hAt l i)) h:=by simp [zi,zfc h0 h1]
theorem zp6 {v c m:Int} (h0:0<=v) (h1:v < m) (c0:0 < c) (c1:c < m):0<=(v+c) % m∧(v+c) % m < m∧(v+c) % m≠v:=by
 refine ⟨Int.emod_nonneg _ (by omega),Int.emod_lt_of_pos _ (by omega),?_⟩
 by_cases h:v+c < m
 . rw [Int.emod_eq_of_lt (by omega) h];omega
 . have:(v+c) % m=v+c - m:=by
     rw [<- Int.sub_emod_right,Int.emod_eq_of_lt (by omega) (by omega)]
   omega
theorem zCY {ns:List Int}{n:Nat}{h:MH} (hn:h[n]?=some (.scr (ns.map .int))) {c P turn v4 v5:Int}{b6:Bool}{k:Nat} (hk:k < ns.length) {v9 v10 v14:Int}{x y z:Option D}{ts:List T3} (hl:ts.length<=1000) (ht:0<=turn) (hv:-400000<=v14∧v14<=400000) :
   ∃ n14,-1000000<=n14∧n14<=1000000∧(zf (ifS (zbT (tst (bin gtV (var 3) (zb (.int (0))))) (zbT (tst (bin eqV (zj zD (za (bin zi (var 0) (var 8)) (za (zb (.int (12))) (za (zb (.int (3))) ze)))) (zb (.int (0))))) (tst (bin ltV (bin zE (zeO (var 14)) (var 3)) (zb (.int (1000000))))))) (zk (.nm 14) (bin zbj (var 14) (var 3))) zp)
   (z9 (zbg (var 7) (zM (za (var 9) (za (var 10) (za (var 14) ze))))))) [some (.obj n),some (.int c),some (.int P),some (.int turn),some (.int v4),some (.int v5),some (.bl b6),some (.obj h.length),some (.int k),some (.int v9),some (.int v10),x,y,z,some (.int v14)] (h++[.lst (ts.map tD)]) =
     .nx [some (.obj n),some (.int c),some (.int P),some (.int turn),some (.int v4),some (.int v5),some (.bl b6),some (.obj h.length),some (.int k),some (.int v9),some (.int v10),x,y,z,some (.int n14)] (h++[.lst ((ts++[(⟨v9,v10,n14⟩:T3)]).map tD)]):=by
 have hat:=zfc (hs:=ns) (i:=(k:Int)) (by omega) (by omega)
 have hl':ts.length < 1000000:=by omega
 by_cases c1:0 < turn
 . by_cases c2:zcO (hAt ns k) 12 3=0
   . by_cases c3:(if v14 < 0 then -v14 else v14)+turn < 1000000
     . refine ⟨v14 - turn,by split at c3 <;> omega,by split at c3 <;> omega,?_⟩
       simp [c1,c2,c3,zbn,zG hn,hat,zdq,zdc,hl',tD]
     . refine ⟨v14,by omega,by omega,?_⟩
       simp [c1,c2,c3,zbn,zG hn,hat,zdq,zdc,hl',tD]
   . refine ⟨v14,by omega,by omega,?_⟩
     simp [c1,c2,zbn,zG hn,hat,zdq,zdc,hl',tD]
 . refine ⟨v14,by omega,by omega,?_⟩
   simp [c1,zbn,zG hn,hat,zdq,zdc,hl',tD]
theorem zAK {ns:List Int}{n:Nat}{h:MH} (hn:h[n]?=some (.scr (ns.map .int))) {c P turn v4 v5:Int}{b6:Bool}{k:Nat} (hk:k < ns.length) {v9 v10:Int}{x y z u:Option D}{ts:List T3} (hl:ts.length<=1000) (ht:0<=turn) (h4:0 < v4) (h4':v4<=400000) (h5:0<=v5) :
   ∃ n14,-1000000<=n14∧n14<=1000000∧(zf (zk (.nm 14) (bin zbj (zj zD (za (bin zb1 (var 10) (zb (.int (7919)))) (za (zb (.int (6))) (za (var 4) ze)))) (zj zD (za (bin zb1 (var 9) (zb (.int (7919)))) (za (zb (.int (6))) (za (var 4) ze))))))
   (zf (ifS (zbT (tst (bin gtV (var 5) (zb (.int (0))))) (tst (bin eqV (zj zD (za (bin zi (var 0) (var 8)) (za (bin zE (bin zbc (var 8) (zb (.int (3)))) (zb (.int (9)))) (za (var 5) ze)))) (zb (.int (0)))))) (zk (.nm 14) (bin zE (var 14) (zb (.int (1))))) zp)
   (zf (ifS (zbT (tst (bin gtV (var 3) (zb (.int (0))))) (zbT (tst (bin eqV (zj zD (za (bin zi (var 0) (var 8)) (za (zb (.int (12))) (za (zb (.int (3))) ze)))) (zb (.int (0))))) (tst (bin ltV (bin zE (zeO (var 14)) (var 3)) (zb (.int (1000000))))))) (zk (.nm 14) (bin zbj (var 14) (var 3))) zp)
   (z9 (zbg (var 7) (zM (za (var 9) (za (var 10) (za (var 14) ze))))))))) [some (.obj n),some (.int c),some (.int P),some (.int turn),some (.int v4),some (.int v5),some (.bl b6),some (.obj h.length),some (.int k),some (.int v9),some (.int v10),x,y,z,u] (h++[.lst (ts.map tD)]) =
     .nx [some (.obj n),some (.int c),some (.int P),some (.int turn),some (.int v4),some (.int v5),some (.bl b6),some (.obj h.length),some (.int k),some (.int v9),some (.int v10),x,y,z,some (.int n14)] (h++[.lst ((ts++[(⟨v9,v10,n14⟩:T3)]).map tD)]):=by
 have hat:=zfc (hs:=ns) (i:=(k:Int)) (by omega) (by omega)
 have s1:zcF 7919=true:=by decide
 have a0:=zeR (v10 * 7919) 6 h4
 have a1:=zeU (v10 * 7919) 6 h4
 have b0:=zeR (v9 * 7919) 6 h4
 have b1:=zeU (v9 * 7919) 6 h4
 have hdr:=zdq (a:=v10 * 7919) (b:=6) h4
 have hdr2:=zdq (a:=v9 * 7919) (b:=6) h4
 generalize zcO (v10 * 7919) 6 v4=d1 at *
 generalize zcO (v9 * 7919) 6 v4=d2 at *
 have key:∃ v14,-400000<=v14∧v14<=400000∧(ifS (zbT (tst (bin gtV (var 5) (zb (.int (0))))) (tst (bin eqV (zj zD (za (bin zi (var 0) (var 8)) (za (bin zE (bin zbc (var 8) (zb (.int (3)))) (zb (.int (9)))) (za (var 5) ze)))) (zb (.int (0)))))) (zk (.nm 14) (bin zE (var 14) (zb (.int (1))))) zp) [some (.obj n),some (.int c),some (.int P),some (.int turn),some (.int v4),some (.int v5),some (.bl b6),some (.obj h.length),some (.int k),some (.int v9),some (.int v10),x,y,z,some (.int (d1 - d2))] (h++[.lst (ts.map tD)]) =
     .nx [some (.obj n),some (.int c),some (.int P),some (.int turn),some (.int v4),some (.int v5),some (.bl b6),some (.obj h.length),some (.int k),some (.int v9),some (.int v10),x,y,z,some (.int v14)] (h++[.lst (ts.map tD)]):=by
   by_cases c1:0 < v5
   . by_cases c2:zcO (hAt ns k) ((k:Int) % 3+9) v5=0
     . exact ⟨d1 - d2+1,by omega,by omega,by simp [c1,c2,zbn,zG hn,hat,zdq]⟩
     . exact ⟨d1 - d2,by omega,by omega,by simp [c1,c2,zbn,zG hn,hat,zdq]⟩
   . exact ⟨d1 - d2,by omega,by omega,by simp [c1]⟩
 obtain ⟨v14,k0,k1,hkey⟩:=key
 obtain ⟨n14,m0,m1,htl⟩:=zCY hn (c:=c) (P:=P) (turn:=turn) (v4:=v4) (v5:=v5) (b6:=b6) hk (v9:=v9) (v10:=v10) (x:=x) (y:=y) (z:=z) hl ht ⟨k0,k1⟩
 refine ⟨n14,m0,m1,?_⟩
 have st:(zk (.nm 14) (bin zbj (zj zD (za (bin zb1 (var 10) (zb (.int (7919)))) (za (zb (.int (6))) (za (var 4) ze)))) (zj zD (za (bin zb1 (var 9) (zb (.int (7919)))) (za (zb (.int (6))) (za (var 4) ze)))))) [some (.obj n),some (.int c),some (.int P),some (.int turn),some (.int v4),some (.int v5),some (.bl b6),some (.obj h.length),some (.int k),some (.int v9),some (.int v10),x,y,z,u] (h++[.lst (ts.map tD)]) =
     .nx [some (.obj n),some (.int c),some (.int P),some (.int turn),some (.int v4),some (.int v5),some (.bl b6),some (.obj h.length),some (.int k),some (.int v9),some (.int v10),x,y,z,some (.int (d1 - d2))] (h++[.lst (ts.map tD)]):=by
   simp [s1,hdr,hdr2]
 rw [zcr,st,zce,zcr,hkey,zce]
 exact htl
theorem zAg {ns:List Int}{n:Nat}{h:MH} (hn:h[n]?=some (.scr (ns.map .int))) {c P turn v4 v5:Int}{b6:Bool} (h6:b6=true->3 < P) (hP:2<=P) (hP':P<=1000) {k:Nat} (hk:k < ns.length) {x9 x10 x y z u:Option D}{ts:List T3} (hl:ts.length<=1000) (ht:0<=turn) (h4:0 < v4) (h4':v4<=400000) (h5:0<=v5) :
   ∃ t3:T3,t3.Ok P∧∃ x9' x10' x' y' z' u',(zf (zk (.nm 9) (zj zD (za (bin zi (var 0) (var 8)) (za (bin zE (bin zbc (var 8) (zb (.int (5)))) (zb (.int (1)))) (za (var 2) ze)))))
   (zf (zk (.nm 10) (bin zbc (bin zE (bin zE (var 9) (zb (.int (1)))) (zj zD (za (bin zi (var 0) (var 8)) (za (bin zE (bin zbc (var 8) (zb (.int (7)))) (zb (.int (2)))) (za (bin zbj (var 2) (zb (.int (1)))) ze))))) (var 2)))
   (zf (ifS (tru (var 6)) (zf (zk (.nm 11) (ifE (tst (bin ltV (var 9) (bin zdr (var 2) (zb (.int (2)))))) (zb (.int (0))) (bin zdr (var 2) (zb (.int (2))))))
   (zf (zk (.nm 12) (ifE (tst (bin eqV (var 11) (zb (.int (0))))) (bin zdr (var 2) (zb (.int (2)))) (bin zbj (var 2) (var 11))))
   (zf (zk (.nm 13) (bin zE (zb (.int (1))) (zj zD (za (bin zi (var 0) (var 8)) (za (bin zE (bin zbc (var 8) (zb (.int (7)))) (zb (.int (2)))) (za (bin zbj (var 12) (zb (.int (1)))) ze))))))
   (zk (.nm 10) (bin zE (var 11) (bin zbc (bin zE (bin zbj (var 9) (var 11)) (var 13)) (var 12))))))) zp)
   (zf (zk (.nm 14) (bin zbj (zj zD (za (bin zb1 (var 10) (zb (.int (7919)))) (za (zb (.int (6))) (za (var 4) ze)))) (zj zD (za (bin zb1 (var 9) (zb (.int (7919)))) (za (zb (.int (6))) (za (var 4) ze))))))
   (zf (ifS (zbT (tst (bin gtV (var 5) (zb (.int (0))))) (tst (bin eqV (zj zD (za (bin zi (var 0) (var 8)) (za (bin zE (bin zbc (var 8) (zb (.int (3)))) (zb (.int (9)))) (za (var 5) ze)))) (zb (.int (0)))))) (zk (.nm 14) (bin zE (var 14) (zb (.int (1))))) zp)
   (zf (ifS (zbT (tst (bin gtV (var 3) (zb (.int (0))))) (zbT (tst (bin eqV (zj zD (za (bin zi (var 0) (var 8)) (za (zb (.int (12))) (za (zb (.int (3))) ze)))) (zb (.int (0))))) (tst (bin ltV (bin zE (zeO (var 14)) (var 3)) (zb (.int (1000000))))))) (zk (.nm 14) (bin zbj (var 14) (var 3))) zp)
   (z9 (zbg (var 7) (zM (za (var 9) (za (var 10) (za (var 14) ze)))))))))))) [some (.obj n),some (.int c),some (.int P),some (.int turn),some (.int v4),some (.int v5),some (.bl b6),some (.obj h.length),some (.int k),x9,x10,x,y,z,u] (h++[.lst (ts.map tD)]) =
     .nx [some (.obj n),some (.int c),some (.int P),some (.int turn),some (.int v4),some (.int v5),some (.bl b6),some (.obj h.length),some (.int k),x9',x10',x',y',z',u'] (h++[.lst ((ts++[t3]).map tD)]):=by
 have hat:=zfc (hs:=ns) (i:=(k:Int)) (by omega) (by omega)
 have hP1:0 < P:=by omega
 have hP2:0 < P - 1:=by omega
 have v90:=zeR (hAt ns k) ((k:Int) % 5+1) hP1
 have v91:=zeU (hAt ns k) ((k:Int) % 5+1) hP1
 have hd9:=zdq (a:=hAt ns k) (b:=(k:Int) % 5+1) hP1
 have e0:=zeR (hAt ns k) ((k:Int) % 7+2) hP2
 have e1:=zeU (hAt ns k) ((k:Int) % 7+2) hP2
 have hd10:=zdq (a:=hAt ns k) (b:=(k:Int) % 7+2) hP2
 generalize zcO (hAt ns k) ((k:Int) % 5+1) P=v9 at *
 generalize zcO (hAt ns k) ((k:Int) % 7+2) (P - 1)=d at *
 have first:∀ v10,0<=v10->v10 < P->v10≠v9->∀ x y z,(∃ t3:T3,t3.Ok P∧∃ x9' x10' x' y' z' u',(zf (zk (.nm 14) (bin zbj (zj zD (za (bin zb1 (var 10) (zb (.int (7919)))) (za (zb (.int (6))) (za (var 4) ze)))) (zj zD (za (bin zb1 (var 9) (zb (.int (7919)))) (za (zb (.int (6))) (za (var 4) ze))))))
   (zf (ifS (zbT (tst (bin gtV (var 5) (zb (.int (0))))) (tst (bin eqV (zj zD (za (bin zi (var 0) (var 8)) (za (bin zE (bin zbc (var 8) (zb (.int (3)))) (zb (.int (9)))) (za (var 5) ze)))) (zb (.int (0)))))) (zk (.nm 14) (bin zE (var 14) (zb (.int (1))))) zp)
   (zf (ifS (zbT (tst (bin gtV (var 3) (zb (.int (0))))) (zbT (tst (bin eqV (zj zD (za (bin zi (var 0) (var 8)) (za (zb (.int (12))) (za (zb (.int (3))) ze)))) (zb (.int (0))))) (tst (bin ltV (bin zE (zeO (var 14)) (var 3)) (zb (.int (1000000))))))) (zk (.nm 14) (bin zbj (var 14) (var 3))) zp)
   (z9 (zbg (var 7) (zM (za (var 9) (za (var 10) (za (var 14) ze))))))))) [some (.obj n),some (.int c),some (.int P),some (.int turn),some (.int v4),some (.int v5),some (.bl b6),some (.obj h.length),some (.int k),some (.int v9),some (.int v10),x,y,z,u] (h++[.lst (ts.map tD)]) =
     .nx [some (.obj n),some (.int c),some (.int P),some (.int turn),some (.int v4),some (.int v5),some (.bl b6),some (.obj h.length),some (.int k),x9',x10',x',y',z',u'] (h++[.lst ((ts++[t3]).map tD)])):=by
   intro v10 a0 a1 a2 x y z
   obtain ⟨n14,m0,m1,he⟩:=zAK hn (c:=c) (P:=P) (turn:=turn) (v4:=v4) (v5:=v5) (b6:=b6) hk (v9:=v9) (v10:=v10) (x:=x) (y:=y) (z:=z) (u:=u) hl ht h4 h4' h5
   exact ⟨⟨v9,v10,n14⟩,⟨v90,v91,a0,a1,fun e=>a2 e.symm,m0,m1⟩,_,_,_,_,_,_,he⟩
 generalize hT:(zf (zk (.nm 14) (bin zbj (zj zD (za (bin zb1 (var 10) (zb (.int (7919)))) (za (zb (.int (6))) (za (var 4) ze)))) (zj zD (za (bin zb1 (var 9) (zb (.int (7919)))) (za (zb (.int (6))) (za (var 4) ze))))))
   (zf (ifS (zbT (tst (bin gtV (var 5) (zb (.int (0))))) (tst (bin eqV (zj zD (za (bin zi (var 0) (var 8)) (za (bin zE (bin zbc (var 8) (zb (.int (3)))) (zb (.int (9)))) (za (var 5) ze)))) (zb (.int (0)))))) (zk (.nm 14) (bin zE (var 14) (zb (.int (1))))) zp)
   (zf (ifS (zbT (tst (bin gtV (var 3) (zb (.int (0))))) (zbT (tst (bin eqV (zj zD (za (bin zi (var 0) (var 8)) (za (zb (.int (12))) (za (zb (.int (3))) ze)))) (zb (.int (0))))) (tst (bin ltV (bin zE (zeO (var 14)) (var 3)) (zb (.int (1000000))))))) (zk (.nm 14) (bin zbj (var 14) (var 3))) zp)
   (z9 (zbg (var 7) (zM (za (var 9) (za (var 10) (za (var 14) ze)))))))))=tl at *
 cases b6 with
 | false =>
   have hm:=zp6 v90 v91 (c:=1+d) (by omega) (by omega)
   rw [<- Int.add_assoc]at hm
   obtain ⟨t3,ok,x9',x10',x',y',z',u',he⟩:=first ((v9+1+d) % P) hm.1 hm.2.1 hm.2.2 x y z
   refine ⟨t3,ok,x9',x10',x',y',z',u',?_⟩
   rw [<- he]
   simp [zbn,zG hn,hat,hd9,hd10,hP1]
 | true =>
   have hP3:=h6 rfl
   by_cases hh:v9 < P / 2
   . have q0:0 < P / 2 - 1:=by omega
     have q00:0 < P / 2:=by omega
     have f0:=zeR (hAt ns k) ((k:Int) % 7+2) q0
     have f1:=zeU (hAt ns k) ((k:Int) % 7+2) q0
     have hd11:=zdq (a:=hAt ns k) (b:=(k:Int) % 7+2) q0
     generalize zcO (hAt ns k) ((k:Int) % 7+2) (P / 2 - 1)=d2 at *
     have hm:=zp6 v90 hh (c:=1+d2) (by omega) (by omega)
     obtain ⟨t3,ok,x9',x10',x',y',z',u',he⟩:=first ((v9+(1+d2)) % (P / 2)) hm.1 (by omega) hm.2.2 (some (.int 0)) (some (.int (P / 2))) (some (.int (1+d2)))
     refine ⟨t3,ok,x9',x10',x',y',z',u',?_⟩
     rw [<- he]
     simp [zbn,zG hn,hat,hd9,hd10,hP1,hh,hd11,q00]
   . have q0:0 < P - P / 2 - 1:=by omega
     have q00:0 < P - P / 2:=by omega
     have q1:¬ P / 2=0:=by omega
     have q2:P / 2 < P:=by omega
     have f0:=zeR (hAt ns k) ((k:Int) % 7+2) q0
     have f1:=zeU (hAt ns k) ((k:Int) % 7+2) q0
     have hd11:=zdq (a:=hAt ns k) (b:=(k:Int) % 7+2) q0
     generalize zcO (hAt ns k) ((k:Int) % 7+2) (P - P / 2 - 1)=d2 at *
     have hm:=zp6 (v:=v9 - P / 2) (m:=P - P / 2) (by omega) (by omega) (c:=1+d2) (by omega) (by omega)
     obtain ⟨t3,ok,x9',x10',x',y',z',u',he⟩:=first (P / 2+(v9 - P / 2+(1+d2)) % (P - P / 2)) (by omega) (by omega) (by omega) (some (.int (P / 2))) (some (.int (P - P / 2))) (some (.int (1+d2)))
     refine ⟨t3,ok,x9',x10',x',y',z',u',?_⟩
     rw [<- he]
     simp [zbn,zG hn,hat,hd9,hd10,hP1,hh,hd11,q00,q1,q2]
theorem zGy (l:List Int) (a b:Int) {m:Int} (hm:(l.length:Int)=m) (h0:0 < m):∃ v,v∈l∧MI.atI (l.map D.int) (zcO a b m)=some (.int v) :=
 ⟨hAt l (zcO a b m),zpQ (zeR _ _ h0) (by rw [hm];exact zeU _ _ h0),zfc (zeR _ _ h0) (by rw [hm];exact zeU _ _ h0)⟩
theorem zrZ (ds:List D) (i:Int) (e:zx) (h:MH):zi (.tup ds) (.int i) e h=match MI.atI ds i with
   | some d=> .ok d h
   | none=> .bad:=rfl
theorem zsy {j:Int} (hj:zcF j=true) (i:Int) (e:zx) (h:MH):zb1 (.int i) (.int j) e h = .ok (.int (i * j)) h:=by simp [hj]
theorem zrP (h g:MH) {k:Nat}{o:O} (i j:Int) (e:g[k]?=some o) (f:o.flat=true):gc h (.ok (.tup [.int i,.obj (h.length+k),.int j]) (h++g)) = .ok (.tup [.int i,.obj h.length,.int j]) (h++[o]):=by
 have hlt:¬ h.length+k < h.length:=by omega
 simp [gc,zen,gcV,zcz,hlt,e,f,D.nr]
theorem zpY (a b:Int) {m:Int} (hm:0 < m):∃ v,(∀ h,app zD [.int a,.int b,.int m] h = .ok (.int v) h)∧0<=v∧v < m:=⟨_,zdq hm,zeR a b hm,zeU a b hm⟩
theorem zp4 {ns:List Int}{n:Nat}{h:MH} (hn:h[n]?=some (.scr (ns.map .int))) {i:Int} (h0:0<=i):∃ v,app zb9 [.obj n,.int i] h = .ok (.int v) h:=⟨_,zs4 hn h0⟩
theorem zi9 (l:List Int) (a b:Int) {m:Int} (hm:(l.length:Int)=m) (h0:0 < m):∃ x v,(∀ h,app zD [.int a,.int b,.int m] h = .ok (.int x) h)∧v∈l∧MI.atI (l.map D.int) x=some (.int v):=by
 obtain ⟨x,h1,h2,h3⟩:=zpY a b h0
 exact ⟨x,hAt l x,h1,zpQ h2 (by omega),zfc h2 (by omega)⟩
theorem zAJ {ns:List Int} (hns:ns.length<=63) {n:Nat}{h:MH} (hn:h[n]?=some (.scr (ns.map .int))) :
   ∃ (P:Nat) (turn:Int) (ts:List T3),app zfr [.obj n] h = .ok (.tup [.int P,.obj h.length,.int turn]) (h++[.lst (ts.map tD)])∧1<=P∧P<=100∧0<=turn∧turn<=1000000∧ts.length=ns.length∧∀ t∈ts,t.Ok P:=by
 obtain ⟨y0,c0⟩:=zp4 hn (i:=0) (by omega)
 obtain ⟨y1,c1⟩:=zp4 hn (i:=1) (by omega)
 obtain ⟨y2,c2⟩:=zp4 hn (i:=2) (by omega)
 obtain ⟨x1,a1,d1,p1,g1⟩:=zi9 [1,2,3] y1 2 (m:=3) (by simp) (by omega)
 obtain ⟨x3,turn,d3,p3,g3⟩:=zi9 [0,0,2,3,12,1,1000000] y2 3 (m:=7) (by simp) (by omega)
 obtain ⟨x4,v4,d4,p4,g4⟩:=zi9 [2,3,40,400000] y0 4 (m:=4) (by simp) (by omega)
 obtain ⟨x5,v5,d5,p5,g5⟩:=zi9 [0,0,5,30] y1 5 (m:=4) (by simp) (by omega)
 obtain ⟨x6,d6,_,_⟩:=zpY y2 8 (m:=4) (by omega)
 simp only [List.map_cons,List.map_nil]at g1 g3 g4 g5
 have a10:1<=a1∧a1<=3:=by simp at p1;omega
 have ht:0<=turn∧turn<=1000000:=by simp at p3;omega
 have h4:0 < v4∧v4<=400000:=by simp at p4;omega
 have h5:0<=v5:=by simp at p5;omega
 have sm:zcF a1=true:=by simp [zcF];omega
 obtain ⟨l,hl0⟩:∃ l:Int,l=(ns.length:Int):=⟨_,rfl⟩
 have hlen:∀ (e':zx) (h':MH),e'[0]?=some (some (.obj n))->h'[n]?=some (.scr (ns.map .int))->zbU (zbW (var 0)) e' h' = .ok (.int l) h':=by
   intro e' h' h1 h2
   rw [hl0]
   simp [h1,h2]
 have hlt:l.toNat=ns.length:=by omega
 obtain ⟨c,hc⟩:∃ c,l * a1 / 3=c:=⟨_,rfl⟩
 have hc0:0<=c∧c<=63:=by
   have e1:(0:Int)<=l * a1:=Int.mul_nonneg (by omega) (by omega)
   have e2:l * a1<=63 * 3:=Int.mul_le_mul (by omega) (by omega) (by omega) (by omega)
   omega
 obtain ⟨x2,d2,b0,b1⟩:=zpY y0 1 (m:=2+c) (by omega)
 obtain ⟨P,hP⟩:∃ P:Nat,2+x2=(P:Int):=⟨(2+x2).toNat,by omega⟩
 have hPb:2<=P∧P<=100:=by omega
 obtain ⟨b6,hb6⟩:∃ b6:Bool,b6=(decide (3 < (P:Int)) && decide (x6=0)):=⟨_,rfl⟩
 have h6:b6=true->3 < (P:Int):=by intro e;rw [e]at hb6;have:=hb6.symm;simp at this;omega
 have loop:=zg7 (t := .nm 8) (gs:=[]) (body:=(zf (zk (.nm 9) (zj zD (za (bin zi (var 0) (var 8)) (za (bin zE (bin zbc (var 8) (zb (.int (5)))) (zb (.int (1)))) (za (var 2) ze)))))
   (zf (zk (.nm 10) (bin zbc (bin zE (bin zE (var 9) (zb (.int (1)))) (zj zD (za (bin zi (var 0) (var 8)) (za (bin zE (bin zbc (var 8) (zb (.int (7)))) (zb (.int (2)))) (za (bin zbj (var 2) (zb (.int (1)))) ze))))) (var 2)))
   (zf (ifS (tru (var 6)) (zf (zk (.nm 11) (ifE (tst (bin ltV (var 9) (bin zdr (var 2) (zb (.int (2)))))) (zb (.int (0))) (bin zdr (var 2) (zb (.int (2))))))
   (zf (zk (.nm 12) (ifE (tst (bin eqV (var 11) (zb (.int (0))))) (bin zdr (var 2) (zb (.int (2)))) (bin zbj (var 2) (var 11))))
   (zf (zk (.nm 13) (bin zE (zb (.int (1))) (zj zD (za (bin zi (var 0) (var 8)) (za (bin zE (bin zbc (var 8) (zb (.int (7)))) (zb (.int (2)))) (za (bin zbj (var 12) (zb (.int (1)))) ze))))))
   (zk (.nm 10) (bin zE (var 11) (bin zbc (bin zE (bin zbj (var 9) (var 11)) (var 13)) (var 12))))))) zp)
   (zf (zk (.nm 14) (bin zbj (zj zD (za (bin zb1 (var 10) (zb (.int (7919)))) (za (zb (.int (6))) (za (var 4) ze)))) (zj zD (za (bin zb1 (var 9) (zb (.int (7919)))) (za (zb (.int (6))) (za (var 4) ze))))))
   (zf (ifS (zbT (tst (bin gtV (var 5) (zb (.int (0))))) (tst (bin eqV (zj zD (za (bin zi (var 0) (var 8)) (za (bin zE (bin zbc (var 8) (zb (.int (3)))) (zb (.int (9)))) (za (var 5) ze)))) (zb (.int (0)))))) (zk (.nm 14) (bin zE (var 14) (zb (.int (1))))) zp)
   (zf (ifS (zbT (tst (bin gtV (var 3) (zb (.int (0))))) (zbT (tst (bin eqV (zj zD (za (bin zi (var 0) (var 8)) (za (zb (.int (12))) (za (zb (.int (3))) ze)))) (zb (.int (0))))) (tst (bin ltV (bin zE (zeO (var 14)) (var 3)) (zb (.int (1000000))))))) (zk (.nm 14) (bin zbj (var 14) (var 3))) zp)
   (z9 (zbg (var 7) (zM (za (var 9) (za (var 10) (za (var 14) ze))))))))))))) (fun k:Nat=>D.int k)
   (fun d e h'=>∃ ts x8 x9 x10 x y z u,e=[some (.obj n),some (.int c),some (.int P),some (.int turn),some (.int v4),some (.int v5),some (.bl b6),some (.obj h.length),x8,x9,x10,x,y,z,u]∧h'=h++[.lst (ts.map tD)]∧ts.length=d.length∧∀ t∈ts,t.Ok P) (List.range ns.length) (by
   rintro d k r e h' eq ⟨ts,x8,x9,x10,x,y,z,u,rfl,rfl,hl,hok⟩
   refine ⟨rfl,_,rfl,?_⟩
   have hk:k < ns.length:=by
     have:k∈List.range ns.length:=by rw [<- eq];simp
     exact List.mem_range.1 this
   have hdl:d.length<=63:=by
     have:=congrArg List.length eq
     simp at this;omega
   obtain ⟨t3,ok,x9',x10',x',y',z',u',he⟩:=zAg hn (c:=c) (P:=(P:Int)) (turn:=turn) (v4:=v4) (v5:=v5) (b6:=b6) h6 (by omega) (by omega) hk (x9:=x9) (x10:=x10) (x:=x) (y:=y) (z:=z) (u:=u) (ts:=ts) (by omega) ht.1 h4.1 h4.2 h5
   refine ⟨_,_,he,ts++[t3],_,_,_,_,_,_,_,rfl,rfl,by simp [hl],?_⟩
   intro t htm
   rcases List.mem_append.1 htm with h1 | h1
   . exact hok t h1
   . simp at h1;subst h1;exact ok) (fun _ _ _=>rfl) [some (.obj n),some (.int c),some (.int P),some (.int turn),some (.int v4),some (.int v5),some (.bl b6),some (.obj h.length),none,none,none,none,none,none,none] (h++[.lst []])
     ⟨[],_,_,_,_,_,_,_,rfl,rfl,rfl,by simp⟩
 obtain ⟨e2,h2,hr,ts,x8,x9,x10,x,y,z,u,rfl,rfl,hl,hok⟩:=loop
 refine ⟨P,turn,ts,?_,by omega,by omega,ht.1,ht.2,by rw [hl];simp,hok⟩
 unfold app zfr
 have q:(-1000000:Int)<=ns.length∧(ns.length:Int)<=1000000:=by omega
 have q1:l<=1000000:=by omega
 have q2:(-1000000:Int)<=l:=by omega
 by_cases hb:3 < (P:Int)
 . simp [hb]at hb6
   subst hb6
   simp [-zsY,hlen,hlt,-zr5,zsy sm,c0,c1,c2,hn,d1,d3,d4,d5,d6,zrZ,g1,g3,g4,g5,hc,d2,hP,hb,q1,q2,zG hn,hr]
   exact zrP h _ (k:=0) _ _ rfl (zg9 ts)
 . simp [hb]at hb6
   subst hb6
   simp [-zsY,hlen,hlt,-zr5,zsy sm,c0,c1,c2,hn,d1,d3,d4,d5,d6,zrZ,g1,g3,g4,g5,hc,d2,hP,hb,q1,q2,zG hn,hr]
   exact zrP h _ (k:=0) _ _ rfl (zg9 ts)
end Mx
end
section
open PySem MI
namespace Mx
open My
theorem zE1 {h:MH}{n:Nat}{g:List T3} (hn:h[n]?=some (.lst (g.map tD))) (d:Option D):zcw (.nm 0) [(n,.lst (g.map tD))] zco (bin zi (var 0) (zb (.int (1)))) (g.map tD) [] [d] h = .ok ((g.map (·.b)).map .int) h:=by
 rw [List.map_map]
 exact zez (t := .nm 0) tD (fun t=> .int t.b) (fun e=>∃ d,e=[d]) (zct hn) g (by
   rintro x hx _ ⟨d,rfl⟩
   exact ⟨_,rfl,⟨_,rfl⟩,by simp⟩) [d] ⟨_,rfl⟩
theorem zeI {h:MH}{w t l:Nat}{P turn:Int}{ts:List T3} (W:zb7 h w t P turn ts) {S:List St} (hl:h[l]?=some (.lst (S.map sD))) (hS:S.length<=3000) {a:Int} (h0:0<=a) (h1:a < P) :
   app ze4 [.obj w,.int a,.obj l] h=match zbb ts a S with
     | none=> .ok .non h
     | some g=> .ok (.obj h.length) (h++[.lst ((a :: g.map (·.b)).map .int)]):=by
 unfold app ze4
 have hle:=zfu W hl (by omega) h0 h1
 cases hg:zbb ts a S with
 | none =>
   simp only [hg]at hle
   simp [hle]
 | some g =>
   simp only [hg]at hle
   have hgl:=zg6 _ _ _ hg
   have cb:=zE1 (h:=h++[.lst (g.map tD),.lst [.int a]]) (n:=h.length) (g:=g) (by simp) none
   have hgs:g.length<=1000000:=by omega
   have hgs2:1+g.length<=1000000:=by omega
   simp only [List.map_map]at cb
   simp [hle,zbS,hgs,cb,hgs2]
   have hf:=ziK (a :: g.map (·.b))
   rw [List.map_cons,List.map_map]at hf
   exact zjh h _ (k:=2) rfl hf
noncomputable def zfL (ts:List T3) (a b:Int) (S:List St):Prop:=∃ g,zbb ts a S=some g∧(a :: g.map (·.b)).Nodup∧fin a g=b
theorem zsO (a:Int) (g:List T3):∃ p,(a :: g.map (·.b)).map D.int=p++[.int (fin a g)]:=by
 rcases List.eq_nil_or_concat g with rfl | ⟨g0,t,rfl⟩
 . exact ⟨[],rfl⟩
 . exact ⟨(a :: g0.map (·.b)).map D.int,by simp⟩
theorem zfz {h:MH}{w t l:Nat}{P turn:Int}{ts:List T3} (W:zb7 h w t P turn ts) {S:List St} (hl:h[l]?=some (.lst (S.map sD))) (hS:S.length<=3000) {a:Int} (h0:0<=a) (h1:a < P) :
   app zfV [.obj w,.int a,.obj l] h = .ok (.bl (match zbb ts a S with
     | none=>false
     | some g=>decide (a :: g.map (·.b)).Nodup)) h:=by
 unfold app zfV
 have hst:=zeI W hl hS h0 h1
 cases hg:zbb ts a S with
 | none =>
   simp only [hg]at hst
   simp [hst]
 | some g =>
   simp only [hg]at hst
   have hgl:=zg6 _ _ _ hg
   have in1:=ziD (a :: g.map (·.b))
   have hc1:(a :: g.map (·.b)).length < 4000:=by simp [hgl];omega
   have hc2:((a :: g.map (·.b)).map D.int).length=(a :: g.map (·.b)).length:=by simp
   have cn:=zps (a :: g.map (·.b))
   unfold zdG at cn
   show _=R.ok (D.bl (decide (a :: g.map (·.b)).Nodup)) h
   generalize (a :: g.map (·.b)).map D.int=pp at *
   generalize a :: g.map (·.b)=pn at *
   simp [hst,in1,hc1,hc2]
   rw [zcm]
   congr 2
   rw [decide_eq_decide,<- cn]
   omega
theorem zfA {h:MH}{w t l:Nat}{P turn:Int}{ts:List T3} (W:zb7 h w t P turn ts) {S:List St} (hl:h[l]?=some (.lst (S.map sD))) (hS:S.length<=3000) {a:Int} (h0:0<=a) (h1:a < P) (b:Int) :
   app zfW [.obj w,.int a,.int b,.obj l] h = .ok (.bl (dcd (zfL ts a b S))) h:=by
 unfold app zfW
 have hst:=zeI W hl hS h0 h1
 have hsg:=zfz W hl hS h0 h1
 cases hg:zbb ts a S with
 | none =>
   rw [zdu (by rintro ⟨g,h2,_⟩;rw [hg]at h2;cases h2)]
   simp only [hg]at hst hsg
   simp [hsg]
 | some g =>
   simp only [hg]at hst hsg
   obtain ⟨p,hp⟩:=zsO a g
   have hla:MI.atI ((a :: g.map (·.b)).map D.int) (-1)=some (.int (fin a g)):=by rw [hp];exact ziC _ _
   by_cases hn:(a :: g.map (·.b)).Nodup
   . by_cases hf:fin a g=b
     . rw [zgk ⟨g,hg,hn,hf⟩]
       generalize (a :: g.map (·.b)).map D.int=pp at *
       generalize a :: g.map (·.b)=pn at *
       simp [hsg,hn,hst,zbn,hla,hf]
       exact zcm _ _ _
     . rw [zdu (by rintro ⟨g',h2,_,h4⟩;rw [hg]at h2;cases h2;exact hf h4)]
       generalize (a :: g.map (·.b)).map D.int=pp at *
       generalize a :: g.map (·.b)=pn at *
       simp [hsg,hn,hst,zbn,hla,hf]
       exact zcm _ _ _
   . rw [zdu (by rintro ⟨g',h2,h3,_⟩;rw [hg]at h2;cases h2;exact hn h3)]
     generalize a :: g.map (·.b)=pn at *
     simp [hsg,hn]
end Mx
end
section
open PySem MI
namespace Mx
open My
@[simp] theorem lkQ (a b:D):List.lookup 8 [(8,a),(4,b)]=some a:=rfl
@[simp] theorem zHU (a b:D):List.lookup 4 [(8,a),(4,b)]=some b:=rfl
theorem zEb {ts:List T3}:∀ (S:List St) (a:Int) (g:List T3),zbb ts a S=some g->∀ s∈S,s.k < ts.length
 | [],_,_,_=>by simp
 | s :: S,a,g,e=>by
   unfold zbb at e
   cases hl:z8 ts s with
   | none=>simp [hl]at e
   | some t =>
     simp only [hl]at e
     by_cases ha:t.a=a
     . rw [if_pos ha]at e
       cases hr:zbb ts t.b S with
       | none=>simp [hr]at e
       | some g' =>
         intro s' hs'
         rcases List.mem_cons.1 hs' with rfl | hs'
         . unfold z8 at hl
           cases hk:ts[s'.k]? with
           | none=>rw [hk]at hl;cases hl
           | some t0=>exact (List.getElem?_eq_some_iff.1 hk).1
         . exact zEb S t.b g' hr s' hs'
     . simp [ha]at e
theorem zhr {ts:List T3}{k:Nat}{t:T3} (h:ts[k]?=some t):MI.atI (ts.map tD) (k:Int)=some (tD t):=by
 have hk:=(List.getElem?_eq_some_iff.1 h).1
 rw [zgA (by simpa using hk)]
 have:=(List.getElem?_eq_some_iff.1 h).2
 simp [this]
theorem zr6 {h:MH}{n m:Nat}{xs:List Int} (hn:h[n]?=some (.lst (xs.map .int))) (hm:h[m]?=some (.lst [])) (e:zx):neV (.obj n) (.obj m) e h = .ok (.bl (!decide (xs=[]))) h:=by
 unfold neV zb8
 have pl:(xs.map D.int).all (D.pl 5)=true:=by simp [D.pl]
 simp only [hn,hm,pl,if_pos]
 cases xs with
 | nil=>simp [Cmp.eq,zb5]
 | cons x xs=>simp [Cmp.eq,zb5]
theorem zzU {h:MH}{n l:Nat}{ts:List T3} (hn:h[n]?=some (.lst (ts.map tD))) {S:List St} (hl:h[l]?=some (.lst (S.map sD))) (hS:S.length<=3000) (hts:∀ t∈ts,-1000000<=t.n∧t.n<=1000000) (a b:Int) :
   app zf5 [.obj n,.int a,.obj l,.int b] h = .ok (.bl (dcd (zfL ts a b S))) h:=by
 unfold app zf5
 have hw:=zEA hn hl (by omega) hts a
 cases hg:zbb ts a S with
 | none =>
   rw [zdu (by rintro ⟨g,h2,_⟩;rw [hg]at h2;cases h2)]
   simp only [hg]at hw
   have en:=zr6 (h:=h++[.lst [],.lst []]) (n:=h.length) (m:=h.length+1) (xs:=[]) (by simp) (by simp)
   simp at en
   simp [hw,zi,en]
   exact zcm _ _ _
 | some g =>
   simp only [hg]at hw
   have hgl:=zg6 _ _ _ hg
   obtain ⟨p,hp⟩:=zsO a g
   have hla:MI.atI ((a :: g.map (·.b)).map D.int) (-1)=some (.int (fin a g)):=by rw [hp];exact ziC _ _
   have en:=zr6 (h:=h++[.lst ((a :: g.map (·.b)).map D.int),.lst []]) (n:=h.length) (m:=h.length+1) (xs:=a :: g.map (·.b)) (by simp) (by simp)
   have in1:=ziD (a :: g.map (·.b))
   have hc1:(a :: g.map (·.b)).length < 4000:=by simp [hgl];omega
   have hc2:((a :: g.map (·.b)).map D.int).length=(a :: g.map (·.b)).length:=by simp
   have cn:=zps (a :: g.map (·.b))
   have hpn:a :: g.map (·.b)≠[]:=by simp
   have key:dcd (zfL ts a b S)=(decide (fin a g=b) && decide (a :: g.map (·.b)).Nodup):=by
     by_cases h1:fin a g=b
     . by_cases h2:(a :: g.map (·.b)).Nodup
       . rw [zgk ⟨g,hg,h2,h1⟩,decide_eq_true h1,decide_eq_true h2];rfl
       . rw [zdu (by rintro ⟨g',h3,h4,_⟩;rw [hg]at h3;cases h3;exact h2 h4),decide_eq_false h2,Bool.and_false]
     . rw [zdu (by rintro ⟨g',h3,_,h4⟩;rw [hg]at h3;cases h3;exact h1 h4),decide_eq_false h1,Bool.false_and]
   rw [key]
   unfold zdG at cn
   generalize (a :: g.map (·.b)).map D.int=pp at *
   generalize a :: g.map (·.b)=pn at *
   have cn':((zbv [] pn).length:Int)=(pn.length:Int)↔pn.Nodup:=by rw [<- cn];omega
   by_cases h1:fin a g=b
   . by_cases h2:pn.Nodup
     . have:=cn'.2 h2
       simp [hw,zi,en,hpn,hla,h1,in1,hc1,hc2,this,h2]
       exact zcm _ _ _
     . have:¬ ((zbv [] pn).length:Int)=(pn.length:Int):=fun c=>h2 (cn'.1 c)
       simp [hw,zi,en,hpn,hla,h1,in1,hc1,hc2,this,h2]
       exact zcm _ _ _
   . simp [hw,zi,en,hpn,hla,h1]
     exact zcm _ _ _
end Mx
end
section
namespace Mx
open MI My
theorem zo2:∀ (xs ys:List Int),zb5 (xs.map .int) (ys.map .int)=decide (xs=ys)
 | [],[]=>by simp [zb5]
 | [],_ :: _=>by simp [zb5]
 | _ :: _,[]=>by simp [zb5]
 | x :: xs,y :: ys=>by
   simp only [List.map_cons,zb5,zo2 xs ys,zgF]
   by_cases c:x=y
   . subst c;simp
   . simp [c]
theorem zin {h:MH}{n:Nat}{xs:List Int} (hn:h[n]?=some (.lst (xs.map .int))):zb8 h (.obj n)=some (.l (xs.map .int)):=by
 unfold zb8
 have pl:(xs.map D.int).all (D.pl 5)=true:=by simp [D.pl]
 simp only [hn,pl,if_pos]
theorem zCa {h:MH}{n m:Nat}{xs ys:List Int} (hn:h[n]?=some (.lst (xs.map .int))) (hm:h[m]?=some (.lst (ys.map .int))) (e:zx):neV (.obj n) (.obj m) e h = .ok (.bl (!decide (xs=ys))) h:=by
 unfold neV
 rw [zin hn,zin hm]
 simp [Cmp.eq,zo2]
theorem zHk {h:MH}{n m:Nat}{xs ys:List Int} (hn:h[n]?=some (.lst (xs.map .int))) (hm:h[m]?=some (.lst (ys.map .int))) (e:zx):eqV (.obj n) (.obj m) e h = .ok (.bl (decide (xs=ys))) h:=by
 unfold eqV
 rw [zin hn,zin hm]
 simp [Cmp.eq,zo2]
noncomputable def zeM (K:List Int):Bool:=(K.zip (K.drop 1)).all fun p=>decide (p.1 < p.2)
theorem zpv:∀ K:List Int,zeM K=true↔K.Pairwise (· < ·)
 | []=>by simp [zeM]
 | [x]=>by simp [zeM]
 | x :: y :: K=>by
   have ih:=zpv (y :: K)
   have e:zeM (x :: y :: K)=(decide (x < y) && zeM (y :: K)):=by simp [zeM]
   rw [e,Bool.and_eq_true,decide_eq_true_eq,ih]
   constructor
   . rintro ⟨h1,h2⟩
     refine List.pairwise_cons.2 ⟨fun z hz=>?_,h2⟩
     rcases List.mem_cons.1 hz with rfl | hz
     . exact h1
     . have:=(List.pairwise_cons.1 h2).1 z hz;omega
   . intro h
     exact ⟨(List.pairwise_cons.1 h).1 y (by simp),(List.pairwise_cons.1 h).2⟩
theorem zAY {x:Int}:∀ {l:List Int},(∀ y∈l,x<=y)->zcv x l=x :: l
 | [],_=>rfl
 | y :: l,h=>by unfold zcv;rw [if_pos (h y (by simp))]
theorem zrK:∀ {l:List Int},l.Pairwise (· < ·)->sortI l=l
 | [],_=>rfl
 | x :: l,h=>by
   obtain ⟨h1,h2⟩:=List.pairwise_cons.1 h
   have ih:=zrK h2
   unfold sortI at ih ⊢
   rw [List.foldr_cons,ih]
   exact zAY fun y hy=>by have:=h1 y hy;omega
theorem ztf {x:Int}:∀ {l:List Int},l.Pairwise (· < ·)->x∉l->(zcv x l).Pairwise (· < ·)
 | [],_,_=>by simp [zcv]
 | y :: l,h,hx=>by
   obtain ⟨h1,h2⟩:=List.pairwise_cons.1 h
   unfold zcv
   by_cases c:x<=y
   . rw [if_pos c]
     have:x≠y:=fun z=>hx (by simp [z])
     refine List.pairwise_cons.2 ⟨fun z hz=>?_,h⟩
     rcases List.mem_cons.1 hz with rfl | hz
     . omega
     . have:=h1 z hz;omega
   . rw [if_neg c]
     refine List.pairwise_cons.2 ⟨fun z hz=>?_,ztf h2 fun z=>hx (by simp [z])⟩
     rcases zpb.1 hz with rfl | hz
     . omega
     . exact h1 z hz
theorem zpd:∀ {l:List Int},l.Nodup->(sortI l).Pairwise (· < ·)
 | [],_=>by simp [sortI]
 | x :: l,h=>by
   obtain ⟨h1,h2⟩:=List.nodup_cons.1 h
   have ih:=zpd h2
   have e:sortI (x :: l)=zcv x (sortI l):=rfl
   rw [e]
   exact ztf ih fun z=>h1 (zgt.1 z)
theorem zty:∀ (l seen:List Int),l.Nodup->(∀ x∈l,x∉seen)->zbv seen l=l
 | [],_,_,_=>rfl
 | x :: l,seen,h,hs=>by
   obtain ⟨h1,h2⟩:=List.nodup_cons.1 h
   unfold zbv
   rw [if_neg (hs x (by simp)),zty l (x :: seen) h2 fun y hy z=>?_]
   rcases List.mem_cons.1 z with rfl | z
   . exact h1 hy
   . exact hs y (by simp [hy]) z
theorem zEf {l:List Int} (h:l.Pairwise (· < ·)):l.Nodup:=h.imp fun h=>by omega
theorem ztV (K:List Int):K=sortI (zbv [] K)↔K.Pairwise (· < ·):=by
 constructor
 . intro h;rw [h];exact zpd (zfG _ _)
 . intro h
   rw [zty K [] (zEf h) (by simp),zrK h]
theorem zHs (K:List Int):(K.map D.int).zip ((K.drop 1).map D.int)=(K.zip (K.drop 1)).map fun p=>(D.int p.1,D.int p.2):=by
 rw [List.zip_map];rfl
theorem zBl (l:List Int):MI.cut (l.map D.int) (some 1) none=(l.drop 1).map D.int:=by
 unfold MI.cut sIx
 simp
 cases l with
 | nil=>rfl
 | cons a l =>
   have e:min (1:Int) (↑l.length+1)=1:=by omega
   simp [e,List.take_of_length_le]
@[simp] theorem zH5 (a b:ME D) (e:zx) (h:MH):itZ a b e h=zB (a e h) fun x h1=>zB (b e h1) fun y h2=>match x,y with
 | .obj n,.obj m=>(match h2[n]?,h2[m]? with
   | some (.lst xs),some (.lst ys)=> .ok (zc4 xs ys,[(n,.lst xs),(m,.lst ys)]) h2
   | _,_=> .bad)
 | _,_=> .bad:=by
 unfold itZ;simp only [zL];congr 1;funext x h1;congr 1;funext y h2
 cases x <;> cases y <;> rfl
theorem zo5:∀ (xs ys:List Int),zc4 (xs.map .int) (ys.map .int)=(xs.zip ys).map fun p=> .tup [.int p.1,.int p.2]
 | [],ys=>by cases ys <;> rfl
 | _ :: _,[]=>rfl
 | x :: xs,y :: ys=>by simp [zc4,zo5 xs ys]
theorem zeJ {h:MH}{l:Nat}{K:List Int} (hl:h[l]?=some (.lst (K.map .int))) (hK:K.length<=1000) (c:Int):app zf2 [.obj l,.int c] h = .ok (.bl (K.all (fun x=>decide (0<=x) && decide (x<=c - 1)) && zeM K)) h:=by
 unfold app zf2
 have c1:=zez (t := .nm 0) (gs:=[(l,.lst (K.map .int))]) (elt:=(zj zcJ (za (var 0) (za (zb (.int (0))) (za (bin zbj (var 1) (zb (.int (1)))) ze))))) (h:=h) D.int (fun x:Int=>D.bl (decide (0<=x) && decide (x<=c - 1))) (fun e=>∃ d,e=[d,some (.int c)]) (zct hl) K (by
   rintro x _ _ ⟨d,rfl⟩
   exact ⟨_,rfl,⟨_,rfl⟩,by simp⟩) [none,some (.int c)] ⟨_,rfl⟩
 have c2:=zez (t := .tp [0,1]) (gs:=[(l,.lst (K.map .int)),(h.length,.lst ((K.drop 1).map .int))]) (elt:=(bin ltV (var 0) (var 1))) (h:=h++[.lst ((K.drop 1).map .int)]) (fun p:Int×Int=>D.tup [.int p.1,.int p.2]) (fun p:Int×Int=>D.bl (decide (p.1 < p.2))) (fun e=>∃ d d',e=[d,d']) (by simp [MI.guard,zG hl]) (K.zip (K.drop 1)) (by
   rintro ⟨x,y⟩ _ _ ⟨d,d',rfl⟩
   exact ⟨_,rfl,⟨_,_,rfl⟩,by simp⟩) [none,none] ⟨_,_,rfl⟩
 have b1:=zgq (K.map fun x=>decide (0<=x) && decide (x<=c - 1))
 have b2:=zgq ((K.zip (K.drop 1)).map fun p=>decide (p.1 < p.2))
 rw [List.map_map]at b1 b2
 have q:K.length<=1000000:=by omega
 have q2:(K.drop 1).length<=1000000:=by simp;omega
 have q3:(zc4 (K.map .int) ((K.drop 1).map .int)).length<=1000000:=by rw [zo5];simp;omega
 have f1:(fun x:Int=>D.bl (decide (0<=x) && decide (x<=c - 1)))=D.bl ∘ fun x=>decide (0<=x) && decide (x<=c - 1):=rfl
 have f2:(fun p:Int×Int=>D.bl (decide (p.1 < p.2)))=D.bl ∘ fun p=>decide (p.1 < p.2):=rfl
 rw [f1]at c1
 rw [f2,<- zo5]at c2
 have ea:(K.map fun x=>decide (0<=x) && decide (x<=c - 1)).all id=K.all fun x=>decide (0<=x) && decide (x<=c - 1):=by simp [List.all_map,Function.comp_def]
 have eb:((K.zip (K.drop 1)).map fun p=>decide (p.1 < p.2)).all id=zeM K:=by simp [zeM,List.all_map,Function.comp_def]
 rw [<- ea,<- eb]
 generalize hb1:(K.map fun x=>decide (0<=x) && decide (x<=c - 1))=B1 at *
 generalize hb2:((K.zip (K.drop 1)).map fun p=>decide (p.1 < p.2))=B2 at *
 have g1:(h++[O.lst ((K.drop 1).map .int)])[l]?=some (.lst (K.map .int)):=zG hl _
 have z:=zBl K
 cases hb:B1.all id with
 | false=>simp [hl,zcg,zbS,q,c1,b1,hb]
 | true =>
   have et:(K.drop 1).map D.int=(K.map D.int).tail:=by simp
   rw [et]at g1 q3 c2 z
   simp [hl,zcg,zbS,q,c1,b1,hb,zcc,z]
   rw [g1]
   have ed:K.drop 1=K.tail:=by simp
   rw [ed]at c2 b2
   simp [q3,c2,b2]
   exact zcm h _ _
end Mx
end
section
namespace Mx
open MI My
@[simp] theorem zGz (l:ME (List D)) (e:zx) (h:MH):zjf l e h=zB (l e h) fun xs h1=>match zeV xs with
 | some ps=>if ps.length<=1000000 then .ok (.obj h1.length) (h1++[.dic (ps.foldl (fun a p=>zcV p.1 p.2 a) [])]) else .bad
 | none=> .bad:=by
 unfold zjf;rw [zL];congr 1;funext x h1
 cases hh:zeV x <;> simp [hh]
 split <;> rfl
theorem zrQ (j k:Int) (v:D):∀ kvs:List (Int×D),(look j (kvs.map fun p=>if p.1=k then (p.1,v) else p)).isSome=(look j kvs).isSome
 | []=>rfl
 | p :: kvs=>by
   have ih:=zrQ j k v kvs
   rw [List.map_cons]
   unfold look
   by_cases c:p.1=k
   . rw [if_pos c]
     by_cases d:p.1=j
     . simp [d]
     . simp [d,ih]
   . rw [if_neg c]
     by_cases d:p.1=j
     . simp [d]
     . simp [d,ih]
theorem zrJ (j k:Int) (v:D):∀ kvs:List (Int×D),(look j (kvs++[(k,v)])).isSome=((look j kvs).isSome || decide (k=j))
 | []=>by
   by_cases c:k=j
   . simp [look,c]
   . simp [look,c]
 | p :: kvs=>by
   have ih:=zrJ j k v kvs
   rw [List.cons_append]
   unfold look
   by_cases d:p.1=j
   . simp [d]
   . simp [d,ih]
theorem ztT (k:Int):∀ kvs:List (Int×D),(kvs.any fun p=>decide (p.1=k))=(look k kvs).isSome
 | []=>rfl
 | p :: kvs=>by
   rw [List.any_cons,ztT k kvs]
   show (decide (p.1=k) || (look k kvs).isSome)=(if p.1=k then some p.2 else look k kvs).isSome
   by_cases d:p.1=k
   . simp [d]
   . simp [d]
theorem zFk (j k:Int) (v:D) (kvs:List (Int×D)):(look j (zcV k v kvs)).isSome=((look j kvs).isSome || decide (k=j)):=by
 unfold zcV
 by_cases c:(kvs.any fun p=>decide (p.1=k))=true
 . rw [if_pos c,zrQ]
   rw [ztT]at c
   by_cases d:k=j
   . subst d;simp [c]
   . simp [d]
 . rw [if_neg c,zrJ]
noncomputable def ptD (pts:List Int):List (Int×D):=(pts.map fun x=>(x,D.bl true)).foldl (fun a p=>zcV p.1 p.2 a) []
theorem zsS (j:Int):∀ (pts:List Int) (m:List (Int×D)),(look j ((pts.map fun x=>(x,D.bl true)).foldl (fun a p=>zcV p.1 p.2 a) m)).isSome=((look j m).isSome || decide (j∈pts))
 | [],m=>by simp
 | x :: pts,m=>by
   rw [List.map_cons,List.foldl_cons,zsS j pts,zFk]
   by_cases c:x=j
   . simp [c]
   . have:¬ j=x:=fun z=>c z.symm
     simp [c,this]
theorem zjg (j:Int) (pts:List Int):(look j (ptD pts)).isSome=decide (j∈pts):=by
 unfold ptD;rw [zsS];simp [look]
theorem zr1:∀ pts:List Int,zeV (pts.map fun x=>D.tup [.int x,.bl true])=some (pts.map fun x=>(x,D.bl true))
 | []=>rfl
 | x :: pts=>by simp [zeV,zr1 pts]
noncomputable def zdp (pts:List Int) (t:T3):Bool:=decide (t.a∈pts) == decide (t.b∈pts)
theorem zpG (a b:Bool) (e:zx) (h:MH):eqV (.bl a) (.bl b) e h = .ok (.bl (a == b)) h:=by simp [eqV,zb8,D.pl,Cmp.eq,peq]
theorem zeK {h:MH}{n m:Nat}{pts:List Int}{us:List T3} (hn:h[n]?=some (.lst (pts.map .int))) (hm:h[m]?=some (.lst (us.map tD))) (hp:pts.length<=1000) (hu:us.length<=1000) (a b:Int) :
   app zf3 [.obj n,.obj m,.int a,.int b] h = .ok (.bl (decide (a∈pts) && !decide (b∈pts) && us.all (zdp pts))) h:=by
 unfold app zf3
 have c1:=zez (t := .nm 0) (gs:=[(n,.lst (pts.map .int))]) (elt:=(zM (za (var 0) (za (zb (.bl true)) ze)))) (h:=h) D.int (fun x:Int=>D.tup [.int x,.bl true]) (fun e=>∃ d,e=[d]) (zct hn) pts (by
   rintro x _ _ ⟨d,rfl⟩
   exact ⟨_,rfl,⟨_,rfl⟩,by simp⟩) [none] ⟨_,rfl⟩
 have q1:pts.length<=1000000:=by omega
 have q2:us.length<=1000000:=by omega
 have pm:=zr1 pts
 have pe:(pts.map fun x=>(x,D.bl true)).foldl (fun a p=>zcV p.1 p.2 a) []=ptD pts:=rfl
 have hd:∀ g,(h ++ .dic (ptD pts) :: g)[h.length]?=some (.dic (ptD pts)):=fun g=>by simp
 have c2:=zez (t := .nm 0) (gs:=[(m,.lst (us.map tD))]) (elt:=(bin eqV (bin inV (bin zi (var 0) (zb (.int (0)))) (var 1)) (bin inV (bin zi (var 0) (zb (.int (1)))) (var 1)))) (h:=h++[.dic (ptD pts)]) tD (fun t=>D.bl (zdp pts t)) (fun e=>∃ d,e=[d,some (.obj h.length)]) (zct (zG hm _)) us (by
   rintro t _ _ ⟨d,rfl⟩
   refine ⟨_,rfl,⟨_,rfl⟩,?_⟩
   simp [inV,hd,zjg,zpG,zdp]) [none,some (.obj h.length)] ⟨_,rfl⟩
 have b2:zcI (us.map fun t=>D.bl (zdp pts t))=some (us.map (zdp pts)):=by have:=zgq (us.map (zdp pts));rwa [List.map_map]at this
 have ea:(us.map (zdp pts)).all id=us.all (zdp pts):=by simp [List.all_map,Function.comp_def]
 rw [<- ea]
 generalize hB:us.map (zdp pts)=B at b2
 by_cases ca:a∈pts
 . by_cases cb:b∈pts
   . simp [hn,zbS,q1,c1,pm,pe,zb2,inV,hd,zjg,ca,cb]
     exact zcm h _ _
   . simp [hn,zbS,q1,c1,pm,pe,zb2,inV,hd,zjg,ca,cb,zG hm,q2,c2,b2]
     exact zcm h _ _
 . simp [hn,zbS,q1,c1,pm,pe,zb2,inV,hd,zjg,ca]
   exact zcm h _ _
end Mx
end
section
namespace Mx
open MI My
theorem zqc {p:Prop}:dcd p=true↔p:=by
 constructor
 . intro h;exact Classical.byContradiction fun n=>by rw [zdu n]at h;cases h
 . exact zgk
theorem ziH {p:Prop}{b:Bool} (h:b=true↔p):dcd p=b:=by
 cases b with
 | true=>exact zgk (h.1 rfl)
 | false=>exact zdu fun z=>by have:=h.2 z;cases this
noncomputable def zeX (ts:List T3) (k:Nat) (S:List St):Prop:=∃ t,ts[k]?=some t∧zfL ts t.a t.b S∧∀ s∈S,s.k≠k
noncomputable def ClP (ts:List T3) (k:Nat) (pts:List Int):Prop:=∀ j u,j≠k->ts[j]?=some u->(u.a∈pts↔u.b∈pts)
noncomputable def zew (ts:List T3) (P k:Nat) (pts:List Int):Prop:=∃ t,ts[k]?=some t∧pts.Pairwise (· < ·)∧(∀ x∈pts,0<=x∧x < (P:Int))∧t.a∈pts∧t.b∉pts∧ClP ts k pts
theorem zz5 (l:List T3) (k:Nat) (hk:k < l.length):MI.cut (l.map tD) none (some (k:Int))=(l.take k).map tD:=by
 have e:((min (k:Int) (l.length:Int))).toNat=k:=by omega
 have e2:¬ (k:Int) < 0:=by omega
 simp [MI.cut,sIx,e2,e]
theorem zER (l:List T3) (k:Nat) (hk:k < l.length):MI.cut (l.map tD) (some ((k:Int)+1)) none=(l.drop (k+1)).map tD:=by
 have e:((min ((k:Int)+1) (l.length:Int))).toNat=k+1:=by omega
 have e2:¬ (k:Int)+1 < 0:=by omega
 simp [MI.cut,sIx,e2,e]
 exact List.take_of_length_le (by simp)
theorem zC8 {ts:List T3}{k:Nat} (hk:k < ts.length) {pts:List Int}:(ts.take k++ts.drop (k+1)).all (zdp pts)=true↔ClP ts k pts:=by
 rw [List.all_eq_true]
 have cb:∀ t:T3,zdp pts t=true↔(t.a∈pts↔t.b∈pts):=fun t=>by
   unfold zdp
   by_cases x:t.a∈pts <;> by_cases y:t.b∈pts <;> simp [x,y]
 constructor
 . intro h j u hj e
   rw [<- cb]
   apply h
   have hl:=(List.getElem?_eq_some_iff.1 e)
   obtain ⟨hlt,rfl⟩:=hl
   by_cases c:j < k
   . exact List.mem_append.2 (.inl (List.mem_iff_getElem.2 ⟨j,by simp;omega,by simp⟩))
   . refine List.mem_append.2 (.inr (List.mem_iff_getElem.2 ⟨j - (k+1),by simp;omega,?_⟩))
     rw [List.getElem_drop]
     congr 1
     omega
 . intro h t ht
   rw [cb]
   rcases List.mem_append.1 ht with ht | ht
   . obtain ⟨j,hj,e⟩:=List.mem_iff_getElem.1 ht
     simp at hj
     rw [List.getElem_take]at e
     exact h j t (by omega) (by rw [<- e];exact List.getElem?_eq_getElem _)
   . obtain ⟨j,hj,e⟩:=List.mem_iff_getElem.1 ht
     simp at hj
     rw [List.getElem_drop]at e
     exact h (k+1+j) t (by omega) (by rw [<- e];exact List.getElem?_eq_getElem _)
theorem zfB {h:MH}{w t r q P k:Nat}{turn:Int}{ts:List T3} (W:zb7 h w t P turn ts) (hts:∀ t∈ts,t.Ok P) (hl:ts.length<=100) {pts:List Int} (hr:h[r]?=some (.ins 10 [(0,.obj q)])) (hq:h[q]?=some (.lst (pts.map .int))) (hp:pts.length<=200) (hk:k < ts.length) :
   app zhx [.obj r,.obj w,.int k] h = .ok (.bl (dcd (zew ts P k pts))) h:=by
 unfold app zhx
 have hti:=zcR W
 have pl:=zdK (h:=h++[.lst (ts.map tD)]) (l:=h.length) (xs:=ts.map tD) (by simp) (k:Int)
 have ar:=zeJ (h:=h++[.lst (ts.map tD)]) (zG hq _) (by omega) (P:Int)
 have hkk:decide ((k:Int) < ((ts.map tD).length:Nat))=true:=by simp;omega
 rw [hkk,decide_eq_true (show (0:Int)<=k by omega)]at pl
 have et:ts[k]?=some ts[k]:=List.getElem?_eq_getElem hk
 have allr:(pts.all fun x=>decide (0<=x) && decide (x<=(P:Int) - 1))=true↔∀ x∈pts,0<=x∧x < (P:Int):=by
   simp only [List.all_eq_true,Bool.and_eq_true,decide_eq_true_eq]
   constructor
   . intro z x hx;have:=z x hx;omega
   . intro z x hx;have:=z x hx;omega
 have dv:=zeK (h:=h++[.lst (ts.map tD),.lst ((ts.take k).map tD),.lst ((ts.take k++ts.drop (k+1)).map tD)]) (n:=q) (m:=h.length+2) (pts:=pts) (us:=ts.take k++ts.drop (k+1)) (zG hq _) (by rw [zcQ];rfl) (by omega) (by simp;omega) ts[k].a ts[k].b
 have c1:=zz5 ts k hk
 have c2:=zER ts k hk
 have hat:=zhr et
 have hrA:∀ g,(h++g)[r]?=some (.ins 10 [(0,.obj q)]):=zG hr
 have lz:((ts.take k).map tD).length+((ts.drop (k+1)).map tD).length<=1000000:=by simp;omega
 by_cases c0:((pts.all fun x=>decide (0<=x) && decide (x<=(P:Int) - 1)) && zeM pts)=true
 . rw [c0]at ar
   rw [Bool.and_eq_true,allr,zpv]at c0
   have ef:dcd (zew ts P k pts)=(decide (ts[k].a∈pts) && !decide (ts[k].b∈pts) && (ts.take k++ts.drop (k+1)).all (zdp pts)):=by
     apply ziH
     rw [Bool.and_eq_true,Bool.and_eq_true,zC8 hk]
     simp only [decide_eq_true_eq,Bool.not_eq_true',decide_eq_false_iff_not]
     constructor
     . rintro ⟨⟨x,y⟩,z⟩;exact ⟨ts[k],et,c0.2,c0.1,x,y,z⟩
     . rintro ⟨t0,e,_,_,x,y,z⟩
       rw [et]at e;cases e
       exact ⟨⟨x,y⟩,z⟩
   rw [ef]
   generalize (decide (ts[k].a∈pts) && !decide (ts[k].b∈pts) && (ts.take k++ts.drop (k+1)).all (zdp pts))=V at dv
   generalize ts[k]=t0 at *
   have c3:(ts.take k++ts.drop (k+1)).map tD=(ts.take k).map tD++(ts.drop (k+1)).map tD:=by simp
   rw [c3]at dv
   generalize (ts.take k).map tD=Z1 at *
   generalize (ts.drop (k+1)).map tD=Z2 at *
   simp [hr,W.w,zcb,hti,pl,hrA,W.wA,ar,zbn,hat,zcc,c1,c2,lz]
   rw [dv]
   exact zcm h _ _
 . have nf:¬ zew ts P k pts:=fun ⟨_,_,x,y,_⟩=>c0 (by rw [Bool.and_eq_true,allr,zpv];exact ⟨y,x⟩)
   rw [Bool.not_eq_true]at c0
   rw [c0]at ar
   rw [zdu nf]
   simp [hr,W.w,zcb,hti,pl,hrA,W.wA,ar]
   exact zcm h _ _
theorem ze6 {h:MH}{w t r q P k:Nat}{turn:Int}{ts:List T3} (W:zb7 h w t P turn ts) (hts:∀ t∈ts,t.Ok P) (hl:ts.length<=100) {S:List St} (hr:h[r]?=some (.ins 9 [(4,.obj q)])) (hq:h[q]?=some (.lst (S.map sD))) (hS:S.length<=2000) (hk:k < ts.length) :
   app zhw [.obj r,.obj w,.int k] h = .ok (.bl (dcd (zeX ts k S))) h:=by
 unfold app zhw
 have hti:=zcR W
 have pl:=zdK (h:=h++[.lst (ts.map tD)]) (l:=h.length) (xs:=ts.map tD) (by simp) (k:Int)
 have hkk:decide ((k:Int) < ((ts.map tD).length:Nat))=true:=by simp;omega
 rw [hkk,decide_eq_true (show (0:Int)<=k by omega)]at pl
 have et:ts[k]?=some ts[k]:=List.getElem?_eq_getElem hk
 have hat:=zhr et
 have ok:=hts ts[k] (List.getElem_mem hk)
 have ld:=zfA (W.app [.lst (ts.map tD)]) (zG hq _) (by omega) (a:=ts[k].a) ok.a0 ok.a1 ts[k].b
 have hrA:∀ g,(h++g)[r]?=some (.ins 9 [(4,.obj q)]):=zG hr
 have hqA:∀ g,(h++g)[q]?=some (.lst (S.map sD)):=zG hq
 have c1:=zez (t := .nm 0) (gs:=[(q,.lst (S.map sD))]) (elt:=(bin neV (bin zi (var 0) (zb (.int (0)))) (var 1))) (h:=h++[.lst (ts.map tD)]) sD (D.bl ∘ fun s:St=>!decide (s.k=k)) (fun e=>∃ d,e=[d,some (.int k)]) (zct (hqA _)) S (by
   rintro s _ _ ⟨d,rfl⟩
   refine ⟨_,rfl,⟨_,rfl⟩,?_⟩
   simp
   constructor <;> intro h <;> omega) [none,some (.int k)] ⟨_,rfl⟩
 have b1:=zgq (S.map fun s:St=>!decide (s.k=k))
 rw [List.map_map]at b1
 have q1:S.length<=1000000:=by omega
 have ef:dcd (zeX ts k S)=(dcd (zfL ts ts[k].a ts[k].b S) && (S.map fun s:St=>!decide (s.k=k)).all id):=by
   apply ziH
   rw [Bool.and_eq_true,zqc]
   simp only [List.all_map,List.all_eq_true,Function.comp,id,Bool.not_eq_true',decide_eq_false_iff_not]
   constructor
   . rintro ⟨x,y⟩;exact ⟨_,et,x,y⟩
   . rintro ⟨t0,e,x,y⟩
     rw [et]at e;cases e
     exact ⟨x,y⟩
 rw [ef]
 generalize hB:(S.map fun s:St=>!decide (s.k=k))=B at b1
 generalize dcd (zfL ts ts[k].a ts[k].b S)=V at ld
 generalize ts[k]=t0 at *
 cases V with
 | false =>
   simp [hr,W.w,zcb,hti,pl,hrA,W.wA,zbn,hat,ld]
   exact zcm h _ _
 | true =>
   simp [hr,W.w,zcb,hti,pl,hrA,W.wA,zbn,hat,ld,hqA,zbS,q1,c1,b1]
   exact zcm h _ _
end Mx
end
section
namespace Mx
open MI My
@[simp] theorem zGH (l:ME (List D)) (e:zx) (h:MH):ziw l e h=zB (l e h) fun xs h1=>match zcl xs with
 | some ns=>if ns.length < 64 then .ok ((sortI (zbv [] ns)).map .int) h1 else .bad
 | none=> .bad:=by unfold ziw;rw [zL];congr 1;funext x h1;cases hh:zcl x <;> simp [hh];split <;> rfl
theorem zrN (a:Int):∀ pts:List Int,inB (.int a) (pts.map .int)=decide (a∈pts)
 | []=>rfl
 | x :: pts=>by
   have ih:=zrN a pts
   unfold inB at ih ⊢
   rw [List.map_cons,List.any_cons,ih,zgF]
   by_cases c:x=a
   . simp [c]
   . have:¬ a=x:=fun z=>c z.symm
     simp [c,this]
theorem zhl {h:MH}{q:Nat}{pts:List Int} (hq:h[q]?=some (.lst (pts.map .int))) (a:Int) (e:zx):inV (.int a) (.obj q) e h = .ok (.bl (decide (a∈pts))) h:=by
 have f:(pts.map D.int).all zbV=true:=by simp [zbV]
 simp only [inV,hq]
 rw [if_pos (by rw [f];rfl),zrN]
theorem zir {h:MH}{q:Nat}{pts:List Int} (hq:h[q]?=some (.lst (pts.map .int))) (a:Int) (e:zx):zb2 (.int a) (.obj q) e h = .ok (.bl (!decide (a∈pts))) h:=by
 unfold zb2;rw [zL,zhl hq];rfl
theorem zi3 (a b:Bool) (e:zx) (h:MH):neV (.bl a) (.bl b) e h = .ok (.bl (!(a == b))) h:=by simp [neV,zb8,D.pl,Cmp.eq,peq]
noncomputable def zfO (n x:Int):Bool:=!(decide (0<=x) && decide (x < n))
noncomputable def zgp (ts:List T3) (P k:Nat) (pts:List Int):Prop:=pts.Pairwise (· < ·)∧(∀ x∈pts,0<=x∧x < (P:Int))∧ClP ts k pts
theorem zzZ {h:MH}{n q P k:Nat}{ts:List T3} (hn:h[n]?=some (.lst (ts.map tD))) (hl:ts.length<=100) {pts:List Int} (hq:h[q]?=some (.lst (pts.map .int))) (hp:pts.length < 64) :
   app zf6 [.int P,.obj n,.obj q,.int k] h = .ok (.bl (dcd (zgp ts P k pts))) h:=by
 unfold app zf6
 have n2:=zCa (m:=h.length) (ys:=sortI (zbv [] pts)) (h:=h++[.lst ((sortI (zbv [] pts)).map .int)]) (zG hq _) (by simp)
 have iK:=ziD pts
 simp [hq,zG hq,zcc,iK,hp]
 by_cases d2:pts=sortI (zbv [] pts)
 . rw [decide_eq_true d2]at n2
   have hasc:=(ztV pts).1 d2
   generalize (sortI (zbv [] pts)).map D.int=Z at n2 ⊢
   rw [n2]
   have hqA:∀ g,(h++g)[q]?=some (.lst (pts.map .int)):=zG hq
   have hnA:∀ g,(h++g)[n]?=some (.lst (ts.map tD)):=zG hn
   have c1:=zez (t := .nm 0) (gs:=[(q,.lst (pts.map .int))]) (elt:=(un zfI (zex leV ltV (zb (.int (0))) (var 0) (var 1)))) (h:=h++[.lst Z]) D.int (D.bl ∘ zfO P) (fun e=>∃ d,e=[d,some (.int P)]) (zct (hqA _)) pts (by
     rintro x _ _ ⟨d,rfl⟩
     refine ⟨_,rfl,⟨_,rfl⟩,?_⟩
     by_cases q:0<=x
     . simp [q,zfO]
     . simp [q,zfO]) [none,some (.int P)] ⟨_,rfl⟩
   have b1:=zgq (pts.map (zfO P))
   rw [List.map_map]at b1
   have q1:pts.length<=1000000:=by omega
   generalize hB:pts.map (zfO P)=B at b1
   by_cases hin:∀ x∈pts,0<=x∧x < (P:Int)
   . have bf:B.any id=false:=by
       rw [<- hB]
       simp only [List.any_map,List.any_eq_false]
       intro x hx
       have:=hin x hx
       simp [zfO,this]
     have loop:=zhT (t := .nm 4) (gs:=[]) (body:=(ifS (zbT (tst (bin neV (var 4) (var 3))) (tst (bin neV (bin inV (bin zi (bin zi (var 1) (var 4)) (zb (.int (0)))) (var 2)) (bin inV (bin zi (bin zi (var 1) (var 4)) (zb (.int (1)))) (var 2))))) (zn (zb (.bl false))) zp)) (fun j:Nat=>D.int j)
       (fun d e h'=>∃ x,e=[some (.int P),some (.obj n),some (.obj q),some (.int k),x]∧h'=h++[.lst Z]∧∀ j∈d,j≠k->∀ u,ts[j]?=some u->(u.a∈pts↔u.b∈pts))
       (fun v h'=>v = .bl false∧h'=h++[.lst Z]∧¬ ClP ts k pts) (List.range ts.length) [] (by
       rintro d j r e h' eq ⟨x,rfl,rfl,ih⟩
       refine ⟨rfl,_,rfl,?_⟩
       have hj:j < ts.length:=List.mem_range.1 (by rw [List.nil_append]at eq;rw [<- eq];simp)
       have et:ts[j]?=some ts[j]:=List.getElem?_eq_getElem hj
       have hat:=zhr et
       by_cases ck:j=k
       . subst ck
         refine .inl ⟨[some (.int P),some (.obj n),some (.obj q),some (.int j),some (.int j)],_,by simp,_,rfl,rfl,?_⟩
         intro i hi hne u hu
         rcases List.mem_append.1 hi with hi | hi
         . exact ih i hi hne u hu
         . simp at hi;exact absurd hi hne
       . have ck':¬ ((j:Int)=(k:Int)):=by omega
         by_cases cc:(ts[j].a∈pts↔ts[j].b∈pts)
         . have eb:(decide (ts[j].a∈pts) == decide (ts[j].b∈pts))=true:=by
             by_cases z:ts[j].b∈pts
             . simp [z,cc]
             . simp [z,cc]
           refine .inl ⟨[some (.int P),some (.obj n),some (.obj q),some (.int k),some (.int j)],_,?_,_,rfl,rfl,?_⟩
           . generalize ts[j]=t0 at *
             simp [ck',zbn,hnA,hat,zhl (hqA _),zi3,cc]
           . intro i hi hne u hu
             rcases List.mem_append.1 hi with hi | hi
             . exact ih i hi hne u hu
             . simp at hi;subst hi;rw [et]at hu;cases hu;exact cc
         . have eb:(decide (ts[j].a∈pts) == decide (ts[j].b∈pts))=false:=by
             by_cases z:ts[j].b∈pts <;> by_cases y:ts[j].a∈pts <;> simp [z,y]at cc ⊢
           refine .inr ⟨.bl false,_,?_,rfl,rfl,fun z=>cc (z j _ ck et)⟩
           generalize ts[j]=t0 at *
           simp [ck',zbn,hnA,hat,zhl (hqA _),zi3,eb]) (fun _ _ _=>rfl) [some (.int P),some (.obj n),some (.obj q),some (.int k),none] (h++[.lst Z]) ⟨_,rfl,rfl,by simp⟩
     have r1:(-1000000:Int)<=ts.length:=by omega
     have r2:(ts.length:Int)<=1000000:=by omega
     rcases loop with ⟨e2,h2,hr,x,rfl,rfl,ih⟩ | ⟨v,h2,hr,rfl,rfl,nc⟩
     . have cp:ClP ts k pts:=fun j u hj e=>ih j (by simp;exact (List.getElem?_eq_some_iff.1 e).1) hj u e
       rw [zgk (show zgp ts P k pts from ⟨hasc,hin,cp⟩)]
       simp [hq,hqA,hnA,zcc,zbS,q1,c1,b1,bf,r1,r2,hr]
       exact zcm h _ _
     . rw [zdu (fun z:zgp ts P k pts=>nc z.2.2)]
       simp [hq,hqA,hnA,zcc,zbS,q1,c1,b1,bf,r1,r2,hr]
       exact zcm h _ _
   . rw [zdu (fun z:zgp ts P k pts=>hin z.2.1)]
     have bt:B.any id=true:=by
       rw [<- hB,List.any_map,List.any_eq_true]
       obtain ⟨x,hx⟩:∃ x,¬ (x∈pts->0<=x∧x < (P:Int)):=Classical.byContradiction fun z=>hin fun x=>Classical.byContradiction fun y=>z ⟨x,y⟩
       have hx1:x∈pts:=Classical.byContradiction fun y=>hx fun w=>absurd w y
       refine ⟨x,hx1,?_⟩
       have hx2:¬ (0<=x∧x < (P:Int)):=fun y=>hx fun _=>y
       show zfO P x=true
       unfold zfO
       rw [Bool.not_eq_true',Bool.and_eq_false_iff]
       by_cases y:0<=x
       . exact .inr (decide_eq_false fun w=>hx2 ⟨y,w⟩)
       . exact .inl (decide_eq_false y)
     simp [hq,hqA,zcc,zbS,q1,c1,b1,bt]
     exact zcm h _ _
 . rw [decide_eq_false d2]at n2
   rw [zdu (fun z:zgp ts P k pts=>d2 ((ztV pts).2 z.1))]
   rw [n2]
   simp
   exact zcm h _ _
theorem zCr {h:MH}{n r q P k:Nat}{ts:List T3} (hn:h[n]?=some (.lst (ts.map tD))) (hl:ts.length<=100) {pts:List Int} (hr:h[r]?=some (.ins 10 [(0,.obj q)])) (hq:h[q]?=some (.lst (pts.map .int))) (hp:pts.length < 64) (hk:k < ts.length) :
   app zbP [.int P,.obj n,.int k,.obj r] h = .ok (.bl (dcd (zew ts P k pts))) h:=by
 unfold app zbP
 have et:ts[k]?=some ts[k]:=List.getElem?_eq_getElem hk
 have hat:=zhr et
 have cl:=zzZ (P:=P) (k:=k) hn hl hq hp
 have ef:dcd (zew ts P k pts)=(decide (ts[k].a∈pts) && (!decide (ts[k].b∈pts) && dcd (zgp ts P k pts))):=by
   apply ziH
   rw [Bool.and_eq_true,Bool.and_eq_true,zqc]
   simp only [decide_eq_true_eq,Bool.not_eq_true',decide_eq_false_iff_not]
   constructor
   . rintro ⟨x,y,z⟩;exact ⟨ts[k],et,z.1,z.2.1,x,y,z.2.2⟩
   . rintro ⟨t0,e,u,v,x,y,z⟩
     rw [et]at e;cases e
     exact ⟨x,y,u,v,z⟩
 rw [ef]
 generalize dcd (zgp ts P k pts)=V at cl
 generalize ts[k]=t0 at *
 by_cases ca:t0.a∈pts
 . by_cases cb:t0.b∈pts
   . simp [hn,zbn,hat,tD,hr,zo,zhl hq,zir hq,ca,cb]
   . simp [hn,zbn,hat,tD,hr,zo,zhl hq,zir hq,ca,cb,cl]
 . simp [hn,zbn,hat,tD,hr,zo,zhl hq,zir hq,ca]
theorem zDi {h:MH}{n r q P k:Nat}{ts:List T3} (hn:h[n]?=some (.lst (ts.map tD))) (hts:∀ t∈ts,t.Ok P) {S:List St} (hr:h[r]?=some (.ins 9 [(4,.obj q)])) (hq:h[q]?=some (.lst (S.map sD))) (hS:S.length<=2000) (hk:k < ts.length) :
   app zbP [.int P,.obj n,.int k,.obj r] h = .ok (.bl (dcd (zeX ts k S))) h:=by
 unfold app zbP
 have et:ts[k]?=some ts[k]:=List.getElem?_eq_getElem hk
 have hat:=zhr et
 have ld:=zzU hn hq (by omega) (fun t ht=>⟨(hts t ht).n0,(hts t ht).n1⟩) ts[k].a ts[k].b
 have c1:=zez (t := .nm 0) (gs:=[(q,.lst (S.map sD))]) (elt:=(bin zi (var 0) (zb (.int (0))))) (h:=h) sD (fun s:St=>D.int (s.k:Nat)) (fun e=>∃ d,e=[d]) (zct hq) S (by
   rintro s _ _ ⟨d,rfl⟩
   exact ⟨_,rfl,⟨_,rfl⟩,by simp⟩) [none] ⟨_,rfl⟩
 have e1:S.map (fun s:St=>D.int (s.k:Nat))=(S.map fun s:St=>((s.k:Nat):Int)).map .int:=by simp
 rw [e1]at c1
 have nv:=zir (h:=h++[.lst ((S.map fun s:St=>((s.k:Nat):Int)).map .int)]) (q:=h.length) (pts:=S.map fun s:St=>((s.k:Nat):Int)) (by simp) (k:Int)
 have q1:S.length<=1000000:=by omega
 have ef:dcd (zeX ts k S)=(dcd (zfL ts ts[k].a ts[k].b S) && !decide ((k:Int)∈S.map fun s:St=>((s.k:Nat):Int))):=by
   apply ziH
   rw [Bool.and_eq_true,zqc]
   simp only [Bool.not_eq_true',decide_eq_false_iff_not,List.mem_map]
   constructor
   . rintro ⟨x,y⟩;exact ⟨_,et,x,fun s hs z=>y ⟨s,hs,by rw [z]⟩⟩
   . rintro ⟨t0,e,x,y⟩
     rw [et]at e;cases e
     exact ⟨x,fun ⟨s,hs,z⟩=>y s hs (by omega)⟩
 rw [ef]
 generalize dcd (zfL ts ts[k].a ts[k].b S)=V at ld
 generalize ts[k]=t0 at *
 generalize (S.map fun s:St=>((s.k:Nat):Int))=Z at *
 cases V with
 | false =>
   simp [hn,zbn,hat,tD,hr,zo,ld]
 | true =>
   simp [hn,zbn,hat,tD,hr,zo,ld,hq,zbS,q1,c1,nv]
   exact zcm h _ _
end Mx
end
section
namespace Mx
open MI My
theorem ziu (h g:MH) {c a j:Nat}{xs:List D} (e:g[j]?=some (.ins c [(a,.obj (h.length+j+1))])) (e1:g[j+1]?=some (.lst xs)) (f:nrs xs=true):gc h (.ok (.obj (h.length+j)) (h++g)) = .ok (.obj h.length) (h++[.ins c [(a,.obj (h.length+1))],.lst xs]):=by
 simp only [gc]
 rw [if_pos (zen _ _)]
 have q:¬ h.length+j < h.length:=by omega
 have q1:¬ h.length+j+1 < h.length:=by omega
 have e2:(h++g)[h.length+j+1]?=some (.lst xs):=by rw [Nat.add_assoc,zcQ];exact e1
 simp [gcV,q,e,zcz,q1,e2,D.nr,O.flat,f]
@[simp] theorem zGK (a:ME D) (e:zx) (h:MH):ziP a e h=zB (a e h) fun x h1=>match x with
 | .obj n=>(match h1[n]? with
   | some (.dic kvs)=>if kvs.length < 64 then .ok ((sortI (kvs.map (·.1))).map .int) h1 else .bad
   | _=> .bad)
 | _=> .bad:=by unfold ziP;rw [zL]<;>rfl
theorem zFH {h:MH}{n:Nat}{xs:List D} (hn:h[n]?=some (.lst xs)) (f:nrs xs=true):app (mkF 9 zh5) [.obj n] h = .ok (.obj h.length) (h++[.ins 9 [(4,.obj (h.length+1))],.lst xs]):=by
 unfold app mkF zh5
 simp [zG hn,zfi,zfh]
 exact ziu h _ (j:=0) rfl rfl f
theorem zCw {h:MH}{n:Nat}{xs:List D} (hn:h[n]?=some (.lst xs)) (f:nrs xs=true):app (mkF 10 zh6) [.obj n] h = .ok (.obj h.length) (h++[.ins 10 [(0,.obj (h.length+1))],.lst xs]):=by
 unfold app mkF zh6
 simp [zG hn,zfi,zfh]
 exact ziu h _ (j:=0) rfl rfl f
theorem zbR.len {ts:List T3}{cs:List Nat}{A N:List En}{start:Int} (G:zbR ts cs A start N):N.length=(zeB N).length+1:=by
 induction G with
 | root=>rfl
 | step G hl hk ha hb ih=>simp [zeB]at ih ⊢;omega
theorem zFv (N:List En):(N.map eD).map (·.1)=keys N:=by simp [keys,eD]
noncomputable def oth (n k:Nat):List Nat:=(List.range n).filter fun j=>!decide (j=k)
theorem zha {n k j:Nat}:j∈oth n k↔j < n∧j≠k:=by simp [oth]
theorem zts {n k:Nat} (hk:k < n):(oth n k).length+1<=n:=by
 have nd:(oth n k).Nodup:=List.nodup_range.filter _
 have:=zfl (k :: oth n k) (List.range n) (List.nodup_cons.2 ⟨fun z=>(zha.1 z).2 rfl,nd⟩) (fun x hx=>by
   rcases List.mem_cons.1 hx with rfl | hx
   . exact List.mem_range.2 hk
   . exact List.mem_range.2 (zha.1 hx).1)
 simpa using this
theorem ze7 {h:MH}{w t P k:Nat}{turn:Int}{ts:List T3} (W:zb7 h w t P turn ts) (hts:∀ t∈ts,t.Ok P) (hP0:1<=P) (hP:P<=1000) (hl:ts.length<=63) (hk:k < ts.length) :
   (∃ S,app zcX [.obj w,.int k] h = .ok (.obj h.length) (h++[.ins 9 [(4,.obj (h.length+1))],.lst (S.map sD)])∧zeX ts k S∧S.length<=63)
   ∨ (∃ pts,app zcX [.obj w,.int k] h = .ok (.obj h.length) (h++[.ins 10 [(0,.obj (h.length+1))],.lst (pts.map .int)])∧zew ts P k pts∧pts.length<=63):=by
 unfold app zcX
 have hti:=zcR W
 have pl:=zdK (h:=h++[.lst (ts.map tD)]) (l:=h.length) (xs:=ts.map tD) (by simp) (k:Int)
 have hkk:decide ((k:Int) < ((ts.map tD).length:Nat))=true:=by simp;omega
 rw [hkk,decide_eq_true (show (0:Int)<=k by omega)]at pl
 have et:ts[k]?=some ts[k]:=List.getElem?_eq_getElem hk
 have hat:=zhr et
 have ok:=hts ts[k] (List.getElem_mem hk)
 have hev:=zfv (W.app [.lst (ts.map tD)]) (by omega)
 have c1:=zpw (t := .nm 0) (gs:=[(h.length+1,.lst ((List.range ts.length).map fun k=> .int (k:Nat)))]) (cond:=(tst (bin neV (var 0) (var 1)))) (elt:=(var 0)) (h:=h++[.lst (ts.map tD),.lst ((List.range ts.length).map fun k=> .int (k:Nat))]) (fun j:Nat=>D.int j) (fun j:Nat=>D.int j) (fun j=>!decide (j=k)) (fun e=>∃ d,e=[d,some (.int k)]) (zct (by rw [zcQ];rfl)) (List.range ts.length) (by
   rintro j _ _ ⟨d,rfl⟩
   refine ⟨_,rfl,⟨_,rfl⟩,?_,fun _=>by simp⟩
   have:decide ((j:Int)=(k:Int))=decide (j=k):=by
     by_cases c:j=k
     . simp [c]
     . rw [decide_eq_false c,decide_eq_false (by omega)]
   simp [this]
   try (constructor <;> intro z <;> omega)) [] [none,some (.int k)] ⟨_,rfl⟩
 rw [List.nil_append]at c1
 have eo:((List.range ts.length).filter fun j=>!decide (j=k))=oth ts.length k:=rfl
 rw [eo]at c1
 obtain ⟨N,hre,G,C⟩:=zfx (h:=h++[.lst (ts.map tD),.lst ((List.range ts.length).map fun k=> .int (k:Nat)),.lst ((oth ts.length k).map fun j:Nat=>D.int j)]) (c:=h.length+2) (cs:=oth ts.length k) (W.app _) hts hP0 (by omega) (by rw [zcQ];rfl) (fun j hj=>(zha.1 hj).1) (by have:=zts hk;omega) (start:=ts[k].a) ok.a0 ok.a1
 have hNl:N.length<=63:=by
   have B:=zc7.grow (ts:=ts) (cs:=oth ts.length k) .nil (by simp) G
   rw [List.nil_append]at B
   have:=zfl (zeB N) (oth ts.length k) B.ks_nodup (fun x hx=>by
     obtain ⟨e,he,s,es,rfl⟩:=zuk.1 hx
     exact (B.ends e he s es).1)
   have:=zts hk
   have:=G.len
   omega
 by_cases cb:ts[k].b∈keys N
 . obtain ⟨S,g,T,hg,hf,hnd,_,hks,hSl⟩:=G.trace ts[k].b cb
   refine .inl ⟨S,?_,⟨ts[k],et,⟨g,hg,hnd,hf⟩,fun s hs=>(zha.1 (hks s hs)).2⟩,by omega⟩
   have htr:=zfy (h:=h++[.lst (ts.map tD),.lst ((List.range ts.length).map fun k=> .int (k:Nat)),.lst ((oth ts.length k).map fun j:Nat=>D.int j),.dic (N.map eD)]) (q:=h.length+3) (W.app _) (by rw [zcQ];rfl) T (by omega)
   have hin:=zFH (h:=h++[.lst (ts.map tD),.lst ((List.range ts.length).map fun k=> .int (k:Nat)),.lst ((oth ts.length k).map fun j:Nat=>D.int j),.dic (N.map eD),.lst (S.map sD)]) (n:=h.length+4) (by rw [zcQ];rfl) (zo9 S)
   have hd:∀ g,(h ++ .lst (ts.map tD) :: .lst ((List.range ts.length).map fun k=> .int (k:Nat)) :: .lst ((oth ts.length k).map fun j:Nat=>D.int j) :: .dic (N.map eD) :: g)[h.length+3]?=some (.dic (N.map eD)):=fun g=>by rw [zcQ];rfl
   have hev1:∀ g,(h ++ .lst (ts.map tD) :: .lst ((List.range ts.length).map fun k=> .int (k:Nat)) :: g)[h.length+1]?=some (.lst ((List.range ts.length).map fun k=> .int (k:Nat))):=fun g=>by rw [zcQ];rfl
   have lr:((List.range ts.length).map fun k:Nat=>D.int k).length<=1000000:=by simp;omega
   generalize ts[k]=t0 at *
   generalize (List.range ts.length).map (fun k:Nat=>D.int k)=Z1 at *
   generalize (oth ts.length k).map (fun j:Nat=>D.int j)=Z2 at *
   simp at hre htr hin hev
   simp [W.w,W.wA,zcb,hti,pl,hev,hev1,zbS,lr,c1,zbn,hat,hre,inV,hd,zhX,cb,htr,hin]
   exact ziu h _ (j:=5) rfl rfl (zo9 S)
 . refine .inr ⟨sortI (keys N),?_,⟨ts[k],et,zpd G.nodup,fun x hx=>G.range hts ok.a0 ok.a1 x (zgt.1 hx),zgt.2 G.mem,fun z=>cb (zgt.1 z),?_⟩,?_⟩
   . have hin:=zCw (h:=h++[.lst (ts.map tD),.lst ((List.range ts.length).map fun k=> .int (k:Nat)),.lst ((oth ts.length k).map fun j:Nat=>D.int j),.dic (N.map eD),.lst ((sortI (keys N)).map .int)]) (n:=h.length+4) (by rw [zcQ];rfl) (ziK _)
     have hd:∀ g,(h ++ .lst (ts.map tD) :: .lst ((List.range ts.length).map fun k=> .int (k:Nat)) :: .lst ((oth ts.length k).map fun j:Nat=>D.int j) :: .dic (N.map eD) :: g)[h.length+3]?=some (.dic (N.map eD)):=fun g=>by rw [zcQ];rfl
     have hev1:∀ g,(h ++ .lst (ts.map tD) :: .lst ((List.range ts.length).map fun k=> .int (k:Nat)) :: g)[h.length+1]?=some (.lst ((List.range ts.length).map fun k=> .int (k:Nat))):=fun g=>by rw [zcQ];rfl
     have lr:((List.range ts.length).map fun k:Nat=>D.int k).length<=1000000:=by simp;omega
     have ke:=zFv N
     have kl:(N.map eD).length < 64:=by simp;omega
     have ls:=zhX N ts[k].b
     rw [decide_eq_false cb]at ls
     generalize ts[k]=t0 at *
     generalize (List.range ts.length).map (fun k:Nat=>D.int k)=Z1 at *
     generalize (oth ts.length k).map (fun j:Nat=>D.int j)=Z2 at *
     generalize N.map eD=Z3 at *
     simp at hre hin hev
     simp [W.w,W.wA,zcb,hti,pl,hev,hev1,zbS,lr,c1,zbn,hat,hre,inV,hd,ls,kl,ke,hin]
     exact ziu h _ (j:=5) rfl rfl (ziK _)
   . intro j u hj e
     have hjl:=(List.getElem?_eq_some_iff.1 e).1
     have l1:z8 ts ⟨j,true⟩=some u:=by simp [z8,e,zbp]
     have l2:z8 ts ⟨j,false⟩=some (tn u):=by simp [z8,e,zbp]
     rw [zgt,zgt]
     exact ⟨fun z=>C ⟨j,true⟩ u (zha.2 ⟨hjl,hj⟩) l1 z,fun z=>C ⟨j,false⟩ (tn u) (zha.2 ⟨hjl,hj⟩) l2 z⟩
   . rw [zuh];simp [keys];omega
end Mx
end
section
namespace Mx
open MI My
theorem zCp {h:MH}{l:Nat}{hs:List Int} (hl:h[l]?=some (.lst (hs.map .int))) (hn:hs.length<=1000000):app zdB [.obj l] h = .ok (.bl true) h:=by
 unfold app zdB
 have c:=zez (t := .nm 0) (gs:=[(l,.lst (hs.map D.int))]) (elt:=(orV (zcj .bool (var 0)) (un zfI (zcj .int (var 0))))) (h:=h) D.int (fun _=>D.bl false) (fun e=>∃ d,e=[d]) (zct hl) hs (by
   rintro x hx _ ⟨d,rfl⟩
   exact ⟨_,rfl,⟨_,rfl⟩,by simp [zcg]⟩) [none] ⟨_,rfl⟩
 have b:zcI (hs.map fun _=>D.bl false)=some (hs.map fun _=>false):=by have:=zgq (hs.map fun _=>false);rwa [List.map_map]at this
 simp [hl,zcg,zbS,hn,c,b]
@[simp] theorem lkS (a b:MF):List.lookup 10 [(9,a),(10,b)]=some b:=rfl
noncomputable def FX (h:MH) (c f:Nat) (xs:List D) (rest:MH):MH:=h++(.ins c [(f,.obj (h.length+1))] :: .lst xs :: rest)
section
variable {h:MH}{c f:Nat}{xs:List D}{rest:MH}
theorem zhc:(FX h c f xs rest)[h.length]?=some (.ins c [(f,.obj (h.length+1))]):=by simp [FX]
theorem zgu:(FX h c f xs rest)[h.length+1]?=some (.lst xs):=by unfold FX;rw [zcQ];rfl
theorem ztM (X:List D):(FX h c f xs rest).set (h.length+1) (.lst X)=FX h c f X rest:=by unfold FX;rw [zto];rfl
end
theorem zEh {H:MH}{P k:Nat}{turn:Int}{ts:List T3} (W:zb7 H 2 3 P turn ts) (hn:H[1]?=some (.lst (ts.map tD))) (hts:∀ t∈ts,t.Ok P) (hl:ts.length<=63) (hk:k < ts.length) {S:List St}
   (hf:app zcX [.obj 2,.int k] H = .ok (.obj H.length) (H++[.ins 9 [(4,.obj (H.length+1))],.lst (S.map sD)])) (F:zeX ts k S) (hS:S.length<=63) {x0 x6 x8 x9 x10:Option D} :
   ∃ g' y8 y9 y10,(zf (zk (.nm 8) (zj zcX (za (var 4) (za (var 7) ze))))
   (zf (ifS (orT (zO (tru (zw zo 1 (var 8)))) (tst (bin eqV (zw zo 9 (var 8)) (zw zo 10 (var 8))))) (zn (zb (.bl false))) zp)
   (zf (zk (.nm 9) (zN (zbq (za (zw zo 2 (var 8)) (za (zw zo 3 (var 8)) (za (zw zo 7 (var 8)) (za (zw zo 8 (var 8)) ze)))))))
   (zf (ifS (orT (tru (zeq (zc0 (var 9)))) (orT (tru (zw zo 5 (var 8))) (orT (tru (zw zo 4 (var 8))) (tru (zw zo 6 (var 8)))))) (zn (zb (.bl false))) zp)
   (zf (ifS (orT (zO (tru (zj zbP (za (var 1) (za (var 2) (za (var 7) (za (var 8) ze))))))) (tst (bin zch (zR zbK (var 8) (za (var 4) (za (var 7) ze))) (zb (.bl true))))) (zn (zb (.bl false))) zp)
   (zf (zcD (.nm 10) (itT (zM (za (zb (.int (0))) (za (bin zbc (bin zE (var 7) (zb (.int (1)))) (var 5)) ze))))
   (ifS (tst (bin neV (zR zbK (var 8) (za (var 4) (za (var 10) ze))) (zj zbP (za (var 1) (za (var 2) (za (var 10) (za (var 8) ze))))))) (zn (zb (.bl false))) zp))
   (zf (ifS (tru (zw zo 10 (var 8))) (zf (ifS (zO (tru (zj zdB (za (fld 0 (var 8)) ze)))) (zn (zb (.bl false))) zp)
   (z9 (zbg (fld 0 (var 8)) (un zcf (zb (.int (1))))))) (z9 (zbg (fld 4 (var 8)) (zM (za (var 7) (za (zb (.int (1))) ze))))))
   (ifS (tst (bin zch (zR zbK (var 8) (za (var 4) (za (var 7) ze))) (zb (.bl false)))) (zn (zb (.bl false))) zp)))))))) [x0,some (.int P),some (.obj 1),some (.int turn),some (.obj 2),some (.int ts.length),x6,some (.int k),x8,x9,x10] H = .nx [x0,some (.int P),some (.obj 1),some (.int turn),some (.obj 2),some (.int ts.length),x6,some (.int k),y8,y9,y10] (H++g'):=by
 let l4:O := .lst [.bl false,.bl false,.bl false,.bl false]
 have f0:∀ xs g,(FX H 9 4 xs g)[H.length]?=some (.ins 9 [(4,.obj (H.length+1))]):=fun xs g=>zhc
 have f1:∀ xs g,(FX H 9 4 xs g)[H.length+1]?=some (.lst xs):=fun xs g=>zgu
 have sh:∀ (j:Nat) (S':List St) g,j < ts.length->S'.length<=100->app zhw [.obj H.length,.obj 2,.int j] (FX H 9 4 (S'.map sD) g) = .ok (.bl (dcd (zeX ts j S'))) (FX H 9 4 (S'.map sD) g):=fun j S' g hj hS'=>ze6 (t:=3) (W.app _) hts (by omega) zhc zgu (by omega) hj
 have du:∀ (j:Nat) g,j < ts.length->app zbP [.int P,.obj 1,.int j,.obj H.length] (FX H 9 4 (S.map sD) g) = .ok (.bl (dcd (zeX ts j S))) (FX H 9 4 (S.map sD) g):=fun j g hj=>zDi (zG hn _) hts zhc zgu (by omega) hj
 have w2:∀ xs g,(FX H 9 4 xs g)[2]?=some (.ins 0 [(0,.int P),(1,.int turn),(2,.obj 3)]):=fun xs g=>zG W.w _
 have a1:(zk (.nm 8) (zj zcX (za (var 4) (za (var 7) ze)))) [x0,some (.int P),some (.obj 1),some (.int turn),some (.obj 2),some (.int ts.length),x6,some (.int k),x8,x9,x10] H = .nx [x0,some (.int P),some (.obj 1),some (.int turn),some (.obj 2),some (.int ts.length),x6,some (.int k),some (.obj H.length),x9,x10] (FX H 9 4 (S.map sD) []):=by
   simp [hf];rfl
 have a2:(ifS (orT (zO (tru (zw zo 1 (var 8)))) (tst (bin eqV (zw zo 9 (var 8)) (zw zo 10 (var 8))))) (zn (zb (.bl false))) zp) [x0,some (.int P),some (.obj 1),some (.int turn),some (.obj 2),some (.int ts.length),x6,some (.int k),some (.obj H.length),x9,x10] (FX H 9 4 (S.map sD) []) = .nx [x0,some (.int P),some (.obj 1),some (.int turn),some (.obj 2),some (.int ts.length),x6,some (.int k),some (.obj H.length),x9,x10] (FX H 9 4 (S.map sD) []):=by
   simp [f0,zo,zpG]
 have a3:(zk (.nm 9) (zN (zbq (za (zw zo 2 (var 8)) (za (zw zo 3 (var 8)) (za (zw zo 7 (var 8)) (za (zw zo 8 (var 8)) ze))))))) [x0,some (.int P),some (.obj 1),some (.int turn),some (.obj 2),some (.int ts.length),x6,some (.int k),some (.obj H.length),x9,x10] (FX H 9 4 (S.map sD) []) = .nx [x0,some (.int P),some (.obj 1),some (.int turn),some (.obj 2),some (.int ts.length),x6,some (.int k),some (.obj H.length),some (.obj (H.length+2)),x10] (FX H 9 4 (S.map sD) [l4]):=by
   have e1:(FX H 9 4 (S.map sD) []).length=H.length+2:=by simp [FX]
   have e2:FX H 9 4 (S.map sD) []++[l4]=FX H 9 4 (S.map sD) [l4]:=by simp [FX]
   simp [l4]at e2 ⊢
   simp [f0,zo]
   exact ⟨e1,e2⟩
 have e3:(FX H 9 4 (S.map sD) [l4])[H.length+2]?=some l4:=by unfold FX;rw [zcQ];rfl
 have a4:(ifS (orT (tru (zeq (zc0 (var 9)))) (orT (tru (zw zo 5 (var 8))) (orT (tru (zw zo 4 (var 8))) (tru (zw zo 6 (var 8)))))) (zn (zb (.bl false))) zp) [x0,some (.int P),some (.obj 1),some (.int turn),some (.obj 2),some (.int ts.length),x6,some (.int k),some (.obj H.length),some (.obj (H.length+2)),x10] (FX H 9 4 (S.map sD) [l4]) = .nx [x0,some (.int P),some (.obj 1),some (.int turn),some (.obj 2),some (.int ts.length),x6,some (.int k),some (.obj H.length),some (.obj (H.length+2)),x10] (FX H 9 4 (S.map sD) [l4]):=by
   have b4:zcI [D.bl false,.bl false,.bl false,.bl false]=some [false,false,false,false]:=rfl
   have e3':(FX H 9 4 (S.map sD) [l4])[H.length+2]?=some (.lst [.bl false,.bl false,.bl false,.bl false]):=e3
   clear_value l4
   simp [f0,e3',zcc,b4,zo]
 clear_value l4
 have a5:(ifS (orT (zO (tru (zj zbP (za (var 1) (za (var 2) (za (var 7) (za (var 8) ze))))))) (tst (bin zch (zR zbK (var 8) (za (var 4) (za (var 7) ze))) (zb (.bl true))))) (zn (zb (.bl false))) zp) [x0,some (.int P),some (.obj 1),some (.int turn),some (.obj 2),some (.int ts.length),x6,some (.int k),some (.obj H.length),some (.obj (H.length+2)),x10] (FX H 9 4 (S.map sD) [l4]) = .nx [x0,some (.int P),some (.obj 1),some (.int turn),some (.obj 2),some (.int ts.length),x6,some (.int k),some (.obj H.length),some (.obj (H.length+2)),x10] (FX H 9 4 (S.map sD) [l4]):=by
   have d1:=du k [l4] hk
   have s1:=sh k S [l4] hk (by omega)
   rw [zgk F]at d1 s1
   simp [d1,f0,zbK,s1]
 have a6:∃ y10,(zcD (.nm 10) (itT (zM (za (zb (.int (0))) (za (bin zbc (bin zE (var 7) (zb (.int (1)))) (var 5)) ze))))
   (ifS (tst (bin neV (zR zbK (var 8) (za (var 4) (za (var 10) ze))) (zj zbP (za (var 1) (za (var 2) (za (var 10) (za (var 8) ze))))))) (zn (zb (.bl false))) zp)) [x0,some (.int P),some (.obj 1),some (.int turn),some (.obj 2),some (.int ts.length),x6,some (.int k),some (.obj H.length),some (.obj (H.length+2)),x10] (FX H 9 4 (S.map sD) [l4]) = .nx [x0,some (.int P),some (.obj 1),some (.int turn),some (.obj 2),some (.int ts.length),x6,some (.int k),some (.obj H.length),some (.obj (H.length+2)),y10] (FX H 9 4 (S.map sD) [l4]):=by
   have hm:(0:Int) < (ts.length:Int):=by omega
   have hm2:0 < ts.length:=by omega
   have em:((k:Int)+1) % (ts.length:Int)=(((k+1) % ts.length:Nat):Int):=by simp
   have hj:(k+1) % ts.length < ts.length:=Nat.mod_lt _ (by omega)
   generalize (k+1) % ts.length=j at *
   have loop:=zg7 (t := .nm 10) (gs:=[]) (body:=(ifS (tst (bin neV (zR zbK (var 8) (za (var 4) (za (var 10) ze))) (zj zbP (za (var 1) (za (var 2) (za (var 10) (za (var 8) ze))))))) (zn (zb (.bl false))) zp)) (fun i:Nat=>D.int i)
     (fun d e h'=>∃ y,e=[x0,some (.int P),some (.obj 1),some (.int turn),some (.obj 2),some (.int ts.length),x6,some (.int k),some (.obj H.length),some (.obj (H.length+2)),y]∧h'=FX H 9 4 (S.map sD) [l4]) [0,j] (by
     rintro d i r e h' eq ⟨y,rfl,rfl⟩
     have hi:i < ts.length:=by
       have:i∈[0,j]:=by rw [<- eq];simp
       simp at this;omega
     refine ⟨rfl,_,rfl,?_⟩
     refine ⟨[x0,some (.int P),some (.obj 1),some (.int turn),some (.obj 2),some (.int ts.length),x6,some (.int k),some (.obj H.length),some (.obj (H.length+2)),some (.int i)],_,?_,_,rfl,rfl⟩
     have d1:=du i [l4] hi
     have s1:=sh i S [l4] hi (by omega)
     generalize dcd (zeX ts i S)=V at d1 s1
     simp [d1,f0,zbK,s1,zi3]) (fun _ _ _=>rfl) [x0,some (.int P),some (.obj 1),some (.int turn),some (.obj 2),some (.int ts.length),x6,some (.int k),some (.obj H.length),some (.obj (H.length+2)),x10] (FX H 9 4 (S.map sD) [l4]) ⟨_,rfl,rfl⟩
   obtain ⟨e4,h4,hr,y,rfl,rfl⟩:=loop
   refine ⟨y,?_⟩
   rw [zpM]
   have hit:(itT (zM (za (zb (.int (0))) (za (bin zbc (bin zE (var 7) (zb (.int (1)))) (var 5)) ze)))) [x0,some (.int P),some (.obj 1),some (.int turn),some (.obj 2),some (.int ts.length),x6,some (.int k),some (.obj H.length),some (.obj (H.length+2)),x10] (FX H 9 4 (S.map sD) [l4]) = .ok ([0,j].map fun i:Nat=>D.int i,[]) (FX H 9 4 (S.map sD) [l4]):=by
     simp [hm,hm2,em]
   rw [hit,ziV]
   exact hr
 obtain ⟨y10,a6⟩:=a6
 have a7:(ifS (tru (zw zo 10 (var 8))) (zf (ifS (zO (tru (zj zdB (za (fld 0 (var 8)) ze)))) (zn (zb (.bl false))) zp)
   (z9 (zbg (fld 0 (var 8)) (un zcf (zb (.int (1))))))) (z9 (zbg (fld 4 (var 8)) (zM (za (var 7) (za (zb (.int (1))) ze)))))) [x0,some (.int P),some (.obj 1),some (.int turn),some (.obj 2),some (.int ts.length),x6,some (.int k),some (.obj H.length),some (.obj (H.length+2)),y10] (FX H 9 4 (S.map sD) [l4]) = .nx [x0,some (.int P),some (.obj 1),some (.int turn),some (.obj 2),some (.int ts.length),x6,some (.int k),some (.obj H.length),some (.obj (H.length+2)),y10] (FX H 9 4 ((S++[(⟨k,true⟩:St)]).map sD) [l4]):=by
   have lt:S.length < 1000000:=by omega
   have u:=ztM (h:=H) (c:=9) (f:=4) (xs:=S.map sD) (rest:=[l4]) ((S++[(⟨k,true⟩:St)]).map sD)
   have ek:(S++[(⟨k,true⟩:St)]).map sD=S.map sD++[sD ⟨k,true⟩]:=by simp
   rw [ek]at u ⊢
   have en:sD ⟨k,true⟩ = .tup [.int k,.int 1]:=rfl
   rw [en]at u ⊢
   simp [f0,f1,zo,zdc,lt,u]
 have a8:(ifS (tst (bin zch (zR zbK (var 8) (za (var 4) (za (var 7) ze))) (zb (.bl false)))) (zn (zb (.bl false))) zp) [x0,some (.int P),some (.obj 1),some (.int turn),some (.obj 2),some (.int ts.length),x6,some (.int k),some (.obj H.length),some (.obj (H.length+2)),y10] (FX H 9 4 ((S++[(⟨k,true⟩:St)]).map sD) [l4]) = .nx [x0,some (.int P),some (.obj 1),some (.int turn),some (.obj 2),some (.int ts.length),x6,some (.int k),some (.obj H.length),some (.obj (H.length+2)),y10] (FX H 9 4 ((S++[(⟨k,true⟩:St)]).map sD) [l4]):=by
   have s1:=sh k (S++[(⟨k,true⟩:St)]) [l4] hk (by simp;omega)
   have nf:¬ zeX ts k (S++[(⟨k,true⟩:St)]):=fun ⟨_,_,_,z⟩=>z ⟨k,true⟩ (by simp) rfl
   rw [zdu nf]at s1
   generalize (S++[(⟨k,true⟩:St)]).map sD=Z at *
   simp [f0,zbK,s1]
 refine ⟨.ins 9 [(4,.obj (H.length+1))] :: .lst ((S++[(⟨k,true⟩:St)]).map sD) :: [l4],some (.obj H.length),some (.obj (H.length+2)),y10,?_⟩
 rw [zcr,a1,zce,zcr,a2,zce,zcr,a3,zce,zcr,a4,zce,zcr,a5,zce,zcr,a6,zce,zcr,a7,zce,a8]
 rfl
theorem zCi {H:MH}{P k:Nat}{turn:Int}{ts:List T3} (W:zb7 H 2 3 P turn ts) (hn:H[1]?=some (.lst (ts.map tD))) (hts:∀ t∈ts,t.Ok P) (hl:ts.length<=63) (hk:k < ts.length) {S:List Int}
   (hf:app zcX [.obj 2,.int k] H = .ok (.obj H.length) (H++[.ins 10 [(0,.obj (H.length+1))],.lst (S.map D.int)])) (F:zew ts P k S) (hS:S.length<=63) {x0 x6 x8 x9 x10:Option D} :
   ∃ g' y8 y9 y10,(zf (zk (.nm 8) (zj zcX (za (var 4) (za (var 7) ze))))
   (zf (ifS (orT (zO (tru (zw zo 1 (var 8)))) (tst (bin eqV (zw zo 9 (var 8)) (zw zo 10 (var 8))))) (zn (zb (.bl false))) zp)
   (zf (zk (.nm 9) (zN (zbq (za (zw zo 2 (var 8)) (za (zw zo 3 (var 8)) (za (zw zo 7 (var 8)) (za (zw zo 8 (var 8)) ze)))))))
   (zf (ifS (orT (tru (zeq (zc0 (var 9)))) (orT (tru (zw zo 5 (var 8))) (orT (tru (zw zo 4 (var 8))) (tru (zw zo 6 (var 8)))))) (zn (zb (.bl false))) zp)
   (zf (ifS (orT (zO (tru (zj zbP (za (var 1) (za (var 2) (za (var 7) (za (var 8) ze))))))) (tst (bin zch (zR zbK (var 8) (za (var 4) (za (var 7) ze))) (zb (.bl true))))) (zn (zb (.bl false))) zp)
   (zf (zcD (.nm 10) (itT (zM (za (zb (.int (0))) (za (bin zbc (bin zE (var 7) (zb (.int (1)))) (var 5)) ze))))
   (ifS (tst (bin neV (zR zbK (var 8) (za (var 4) (za (var 10) ze))) (zj zbP (za (var 1) (za (var 2) (za (var 10) (za (var 8) ze))))))) (zn (zb (.bl false))) zp))
   (zf (ifS (tru (zw zo 10 (var 8))) (zf (ifS (zO (tru (zj zdB (za (fld 0 (var 8)) ze)))) (zn (zb (.bl false))) zp)
   (z9 (zbg (fld 0 (var 8)) (un zcf (zb (.int (1))))))) (z9 (zbg (fld 4 (var 8)) (zM (za (var 7) (za (zb (.int (1))) ze))))))
   (ifS (tst (bin zch (zR zbK (var 8) (za (var 4) (za (var 7) ze))) (zb (.bl false)))) (zn (zb (.bl false))) zp)))))))) [x0,some (.int P),some (.obj 1),some (.int turn),some (.obj 2),some (.int ts.length),x6,some (.int k),x8,x9,x10] H = .nx [x0,some (.int P),some (.obj 1),some (.int turn),some (.obj 2),some (.int ts.length),x6,some (.int k),y8,y9,y10] (H++g'):=by
 let l4:O := .lst [.bl false,.bl false,.bl false,.bl false]
 have f0:∀ xs g,(FX H 10 0 xs g)[H.length]?=some (.ins 10 [(0,.obj (H.length+1))]):=fun xs g=>zhc
 have f1:∀ xs g,(FX H 10 0 xs g)[H.length+1]?=some (.lst xs):=fun xs g=>zgu
 have sh:∀ (j:Nat) (S':List Int) g,j < ts.length->S'.length<=100->app zhx [.obj H.length,.obj 2,.int j] (FX H 10 0 (S'.map D.int) g) = .ok (.bl (dcd (zew ts P j S'))) (FX H 10 0 (S'.map D.int) g):=fun j S' g hj hS'=>zfB (t:=3) (W.app _) hts (by omega) zhc zgu (by omega) hj
 have du:∀ (j:Nat) g,j < ts.length->app zbP [.int P,.obj 1,.int j,.obj H.length] (FX H 10 0 (S.map D.int) g) = .ok (.bl (dcd (zew ts P j S))) (FX H 10 0 (S.map D.int) g):=fun j g hj=>zCr (zG hn _) (by omega) zhc zgu (by omega) hj
 have w2:∀ xs g,(FX H 10 0 xs g)[2]?=some (.ins 0 [(0,.int P),(1,.int turn),(2,.obj 3)]):=fun xs g=>zG W.w _
 have a1:(zk (.nm 8) (zj zcX (za (var 4) (za (var 7) ze)))) [x0,some (.int P),some (.obj 1),some (.int turn),some (.obj 2),some (.int ts.length),x6,some (.int k),x8,x9,x10] H = .nx [x0,some (.int P),some (.obj 1),some (.int turn),some (.obj 2),some (.int ts.length),x6,some (.int k),some (.obj H.length),x9,x10] (FX H 10 0 (S.map D.int) []):=by
   simp [hf];rfl
 have a2:(ifS (orT (zO (tru (zw zo 1 (var 8)))) (tst (bin eqV (zw zo 9 (var 8)) (zw zo 10 (var 8))))) (zn (zb (.bl false))) zp) [x0,some (.int P),some (.obj 1),some (.int turn),some (.obj 2),some (.int ts.length),x6,some (.int k),some (.obj H.length),x9,x10] (FX H 10 0 (S.map D.int) []) = .nx [x0,some (.int P),some (.obj 1),some (.int turn),some (.obj 2),some (.int ts.length),x6,some (.int k),some (.obj H.length),x9,x10] (FX H 10 0 (S.map D.int) []):=by
   simp [f0,zo,zpG]
 have a3:(zk (.nm 9) (zN (zbq (za (zw zo 2 (var 8)) (za (zw zo 3 (var 8)) (za (zw zo 7 (var 8)) (za (zw zo 8 (var 8)) ze))))))) [x0,some (.int P),some (.obj 1),some (.int turn),some (.obj 2),some (.int ts.length),x6,some (.int k),some (.obj H.length),x9,x10] (FX H 10 0 (S.map D.int) []) = .nx [x0,some (.int P),some (.obj 1),some (.int turn),some (.obj 2),some (.int ts.length),x6,some (.int k),some (.obj H.length),some (.obj (H.length+2)),x10] (FX H 10 0 (S.map D.int) [l4]):=by
   have e1:(FX H 10 0 (S.map D.int) []).length=H.length+2:=by simp [FX]
   have e2:FX H 10 0 (S.map D.int) []++[l4]=FX H 10 0 (S.map D.int) [l4]:=by simp [FX]
   simp [l4]at e2 ⊢
   simp [f0,zo]
   exact ⟨e1,e2⟩
 have e3:(FX H 10 0 (S.map D.int) [l4])[H.length+2]?=some l4:=by unfold FX;rw [zcQ];rfl
 have a4:(ifS (orT (tru (zeq (zc0 (var 9)))) (orT (tru (zw zo 5 (var 8))) (orT (tru (zw zo 4 (var 8))) (tru (zw zo 6 (var 8)))))) (zn (zb (.bl false))) zp) [x0,some (.int P),some (.obj 1),some (.int turn),some (.obj 2),some (.int ts.length),x6,some (.int k),some (.obj H.length),some (.obj (H.length+2)),x10] (FX H 10 0 (S.map D.int) [l4]) = .nx [x0,some (.int P),some (.obj 1),some (.int turn),some (.obj 2),some (.int ts.length),x6,some (.int k),some (.obj H.length),some (.obj (H.length+2)),x10] (FX H 10 0 (S.map D.int) [l4]):=by
   have b4:zcI [D.bl false,.bl false,.bl false,.bl false]=some [false,false,false,false]:=rfl
   have e3':(FX H 10 0 (S.map D.int) [l4])[H.length+2]?=some (.lst [.bl false,.bl false,.bl false,.bl false]):=e3
   clear_value l4
   simp [f0,e3',zcc,b4,zo]
 clear_value l4
 have a5:(ifS (orT (zO (tru (zj zbP (za (var 1) (za (var 2) (za (var 7) (za (var 8) ze))))))) (tst (bin zch (zR zbK (var 8) (za (var 4) (za (var 7) ze))) (zb (.bl true))))) (zn (zb (.bl false))) zp) [x0,some (.int P),some (.obj 1),some (.int turn),some (.obj 2),some (.int ts.length),x6,some (.int k),some (.obj H.length),some (.obj (H.length+2)),x10] (FX H 10 0 (S.map D.int) [l4]) = .nx [x0,some (.int P),some (.obj 1),some (.int turn),some (.obj 2),some (.int ts.length),x6,some (.int k),some (.obj H.length),some (.obj (H.length+2)),x10] (FX H 10 0 (S.map D.int) [l4]):=by
   have d1:=du k [l4] hk
   have s1:=sh k S [l4] hk (by omega)
   rw [zgk F]at d1 s1
   simp [d1,f0,zbK,s1]
 have a6:∃ y10,(zcD (.nm 10) (itT (zM (za (zb (.int (0))) (za (bin zbc (bin zE (var 7) (zb (.int (1)))) (var 5)) ze))))
   (ifS (tst (bin neV (zR zbK (var 8) (za (var 4) (za (var 10) ze))) (zj zbP (za (var 1) (za (var 2) (za (var 10) (za (var 8) ze))))))) (zn (zb (.bl false))) zp)) [x0,some (.int P),some (.obj 1),some (.int turn),some (.obj 2),some (.int ts.length),x6,some (.int k),some (.obj H.length),some (.obj (H.length+2)),x10] (FX H 10 0 (S.map D.int) [l4]) = .nx [x0,some (.int P),some (.obj 1),some (.int turn),some (.obj 2),some (.int ts.length),x6,some (.int k),some (.obj H.length),some (.obj (H.length+2)),y10] (FX H 10 0 (S.map D.int) [l4]):=by
   have hm:(0:Int) < (ts.length:Int):=by omega
   have hm2:0 < ts.length:=by omega
   have em:((k:Int)+1) % (ts.length:Int)=(((k+1) % ts.length:Nat):Int):=by simp
   have hj:(k+1) % ts.length < ts.length:=Nat.mod_lt _ (by omega)
   generalize (k+1) % ts.length=j at *
   have loop:=zg7 (t := .nm 10) (gs:=[]) (body:=(ifS (tst (bin neV (zR zbK (var 8) (za (var 4) (za (var 10) ze))) (zj zbP (za (var 1) (za (var 2) (za (var 10) (za (var 8) ze))))))) (zn (zb (.bl false))) zp)) (fun i:Nat=>D.int i)
     (fun d e h'=>∃ y,e=[x0,some (.int P),some (.obj 1),some (.int turn),some (.obj 2),some (.int ts.length),x6,some (.int k),some (.obj H.length),some (.obj (H.length+2)),y]∧h'=FX H 10 0 (S.map D.int) [l4]) [0,j] (by
     rintro d i r e h' eq ⟨y,rfl,rfl⟩
     have hi:i < ts.length:=by
       have:i∈[0,j]:=by rw [<- eq];simp
       simp at this;omega
     refine ⟨rfl,_,rfl,?_⟩
     refine ⟨[x0,some (.int P),some (.obj 1),some (.int turn),some (.obj 2),some (.int ts.length),x6,some (.int k),some (.obj H.length),some (.obj (H.length+2)),some (.int i)],_,?_,_,rfl,rfl⟩
     have d1:=du i [l4] hi
     have s1:=sh i S [l4] hi (by omega)
     generalize dcd (zew ts P i S)=V at d1 s1
     simp [d1,f0,zbK,s1,zi3]) (fun _ _ _=>rfl) [x0,some (.int P),some (.obj 1),some (.int turn),some (.obj 2),some (.int ts.length),x6,some (.int k),some (.obj H.length),some (.obj (H.length+2)),x10] (FX H 10 0 (S.map D.int) [l4]) ⟨_,rfl,rfl⟩
   obtain ⟨e4,h4,hr,y,rfl,rfl⟩:=loop
   refine ⟨y,?_⟩
   rw [zpM]
   have hit:(itT (zM (za (zb (.int (0))) (za (bin zbc (bin zE (var 7) (zb (.int (1)))) (var 5)) ze)))) [x0,some (.int P),some (.obj 1),some (.int turn),some (.obj 2),some (.int ts.length),x6,some (.int k),some (.obj H.length),some (.obj (H.length+2)),x10] (FX H 10 0 (S.map D.int) [l4]) = .ok ([0,j].map fun i:Nat=>D.int i,[]) (FX H 10 0 (S.map D.int) [l4]):=by
     simp [hm,hm2,em]
   rw [hit,ziV]
   exact hr
 obtain ⟨y10,a6⟩:=a6
 have a7:(ifS (tru (zw zo 10 (var 8))) (zf (ifS (zO (tru (zj zdB (za (fld 0 (var 8)) ze)))) (zn (zb (.bl false))) zp)
   (z9 (zbg (fld 0 (var 8)) (un zcf (zb (.int (1))))))) (z9 (zbg (fld 4 (var 8)) (zM (za (var 7) (za (zb (.int (1))) ze)))))) [x0,some (.int P),some (.obj 1),some (.int turn),some (.obj 2),some (.int ts.length),x6,some (.int k),some (.obj H.length),some (.obj (H.length+2)),y10] (FX H 10 0 (S.map D.int) [l4]) = .nx [x0,some (.int P),some (.obj 1),some (.int turn),some (.obj 2),some (.int ts.length),x6,some (.int k),some (.obj H.length),some (.obj (H.length+2)),y10] (FX H 10 0 ((S++[(-1:Int)]).map D.int) [l4]):=by
   have lt:S.length < 1000000:=by omega
   have u:=ztM (h:=H) (c:=10) (f:=0) (xs:=S.map D.int) (rest:=[l4]) ((S++[(-1:Int)]).map D.int)
   have ek:(S++[(-1:Int)]).map D.int=S.map D.int++[D.int (-1)]:=by simp
   rw [ek]at u ⊢
   have sn:=zCp (h:=FX H 10 0 (S.map D.int) [l4]) (l:=H.length+1) (hs:=S) zgu (by omega)
   simp [f0,f1,zo,zdc,lt,u,sn]
 have a8:(ifS (tst (bin zch (zR zbK (var 8) (za (var 4) (za (var 7) ze))) (zb (.bl false)))) (zn (zb (.bl false))) zp) [x0,some (.int P),some (.obj 1),some (.int turn),some (.obj 2),some (.int ts.length),x6,some (.int k),some (.obj H.length),some (.obj (H.length+2)),y10] (FX H 10 0 ((S++[(-1:Int)]).map D.int) [l4]) = .nx [x0,some (.int P),some (.obj 1),some (.int turn),some (.obj 2),some (.int ts.length),x6,some (.int k),some (.obj H.length),some (.obj (H.length+2)),y10] (FX H 10 0 ((S++[(-1:Int)]).map D.int) [l4]):=by
   have s1:=sh k (S++[(-1:Int)]) [l4] hk (by simp;omega)
   have nf:¬ zew ts P k (S++[(-1:Int)]):=fun ⟨_,_,_,z,_⟩=>by have:=(z (-1) (by simp)).1;omega
   rw [zdu nf]at s1
   generalize (S++[(-1:Int)]).map D.int=Z at *
   simp [f0,zbK,s1]
 refine ⟨.ins 10 [(0,.obj (H.length+1))] :: .lst ((S++[(-1:Int)]).map D.int) :: [l4],some (.obj H.length),some (.obj (H.length+2)),y10,?_⟩
 rw [zcr,a1,zce,zcr,a2,zce,zcr,a3,zce,zcr,a4,zce,zcr,a5,zce,zcr,a6,zce,zcr,a7,zce,a8]
 rfl
end Mx
end
section
open PySem MI
namespace Mx
open My
theorem ztB:∀ l:List T3,zb5 (l.map tD) (l.map tD)=true
 | []=>rfl
 | t :: l=>by
   rw [List.map_cons,zb5,ztB l]
   simp [tD,peq,zb5]
theorem zDI (l:List T3):(l.map tD).all (D.pl 5)=true:=by simp [tD,D.pl]
theorem zDP {h:MH}{n m:Nat}{ts:List T3} (hn:h[n]?=some (.lst (ts.map tD))) (hm:h[m]?=some (.lst (ts.map tD))) (e:zx):eqV (.obj n) (.obj m) e h = .ok (.bl true) h:=by
 unfold eqV zb8
 simp only [hn,hm,zDI,if_pos,Cmp.eq,ztB]
theorem law_true (ns:List Int) (h63:ns.length<=63):∃ h',zhy [.obj 0] [.scr (ns.map .int)] = .ok (.bl true) h':=by
 obtain ⟨P,turn,ts,hw,hP0,hP,ht,ht',hl,hts⟩:=zAJ h63 (n:=0) (h:=[.scr (ns.map .int)]) rfl
 have hl63:ts.length<=63:=by omega
 let B0:MH:=[.scr (ns.map .int),.lst (ts.map tD),.ins 0 [(0,.int P),(1,.int turn),(2,.obj 3)],.lst (ts.map tD)]
 let e0:zx:=[some (.obj 0),none,none,none,none,none,none,none,none,none,none]
 let e1:zx:=[some (.obj 0),some (.int P),some (.obj 1),some (.int turn),none,none,none,none,none,none,none]
 let e2:zx:=[some (.obj 0),some (.int P),some (.obj 1),some (.int turn),some (.obj 2),some (.int ts.length),none,none,none,none,none]
 have st1:(zk (.tp [1,2,3]) (zj zfr (za (var 0) ze))) e0 [.scr (ns.map .int)] = .nx e1 [.scr (ns.map .int),.lst (ts.map tD)]:=by
   simp [e0,e1,hw]
 have st2:(zk (.tp [4,5]) (zM (za (zj (mkF 0 zhv) (za (var 1) (za (var 2) (za (var 3) ze)))) (za (zbU (zbW (var 2))) ze)))) e1 [.scr (ns.map .int),.lst (ts.map tD)] = .nx e2 B0:=by
   have hi:=zAo (h:=[.scr (ns.map .int),.lst (ts.map tD)]) (n:=1) (P:=P) (turn:=turn) (ts:=ts) rfl (by omega) (by omega) ht ht' (by omega) hts
   simp [e1,e2,hi,B0]
 have key:∃ (X:List D) (js:List Nat),(∀ j∈js,j < ts.length) ∧
     (zk (.nm 6) (ifE (tst (bin gtV (var 5) (zb (.int (0))))) (zN (zcx [none,some 5,some 0] (.nm 0) (itR (zb (.int (8)))) zco (zj zD (za (zj zb9 (za (var 2) (za (var 0) ze))) (za (zb (.int (3))) (za (var 1) ze)))))) (zN (zbq ze)))) e2 B0 = .nx [some (.obj 0),some (.int P),some (.obj 1),some (.int turn),some (.obj 2),some (.int ts.length),some (.obj 4),none,none,none,none] (B0++[.lst X]) ∧
     (itL (ifE (tst (bin gtV (var 5) (zb (.int (0))))) (zN (zfD (var 6) (zbq (za (bin zbj (var 5) (zb (.int (1)))) (za (zb (.int (0))) ze))))) (zN (zbq ze)))) [some (.obj 0),some (.int P),some (.obj 1),some (.int turn),some (.obj 2),some (.int ts.length),some (.obj 4),none,none,none,none] (B0++[.lst X]) = .ok (js.map (fun k:Nat=>D.int k),[(5,.lst (js.map fun k:Nat=>D.int k))]) (B0++[.lst X,.lst (js.map fun k:Nat=>D.int k)]):=by
   by_cases c:ts=[]
   . subst c
     refine ⟨[],[],by simp,?_,?_⟩
     . simp [e2,B0]
     . simp [B0]
   . have hm:(0:Int) < (ts.length:Int):=by have:=List.length_pos_iff.2 c;omega
     have hm2:0 < ts.length:=by omega
     let f6:Nat->Nat:=fun i=>(zcO (zgv ns i) 3 ts.length).toNat
     have f6e:∀ i:Nat,zcO (zgv ns i) 3 ts.length=(f6 i:Int):=fun i=>by have:=zeR (zgv ns i) 3 hm;simp only [f6];omega
     have f6l:∀ i,f6 i < ts.length:=fun i=>by have:=zeU (zgv ns i) 3 hm;rw [f6e]at this;omega
     let vs:List Nat:=(List.range 8).map f6
     have c6:zcw (.nm 0) [] zco (zj zD (za (zj zb9 (za (var 2) (za (var 0) ze))) (za (zb (.int (3))) (za (var 1) ze)))) ((List.range 8).map fun (k:Nat)=>D.int k) [] [none,some (.int ts.length),some (.obj 0)] B0 = .ok (vs.map fun k:Nat=>D.int k) B0:=by
       simp only [vs,List.map_map]
       refine zez (t := .nm 0) (fun (k:Nat)=>D.int k) _ (fun e=>∃ a,e=[a,some (.int ts.length),some (.obj 0)]) rfl (List.range 8) ?_ [none,some (.int ts.length),some (.obj 0)] ⟨_,rfl⟩
       rintro i hi _ ⟨a,rfl⟩
       refine ⟨_,rfl,⟨_,rfl⟩,?_⟩
       have hc:=zs4 (ns:=ns) (n:=0) (h:=B0) rfl (i:=(i:Int)) (by omega)
       have hd:=zdq (a:=zgv ns i) (b:=3) hm
       rw [f6e i]at hd
       clear_value B0 f6
       simp [hc,hd]
     have vsl:vs.length=8:=by simp [vs]
     have vsm:∀ j∈vs,j < ts.length:=fun j hj=>by obtain ⟨i,_,rfl⟩:=List.mem_map.1 hj;exact f6l i
     clear_value vs
     refine ⟨vs.map fun k:Nat=>D.int k,vs++[ts.length - 1,0],?_,?_,?_⟩
     . intro j hj
       simp at hj
       rcases hj with hj | rfl | rfl
       . exact vsm j hj
       . omega
       . omega
     . have hle:B0.length=4:=rfl
       have r8:((List.range 8).map fun k:Nat=>D.int k)=(List.range (Int.toNat 8)).map fun k:Nat=>D.int k:=rfl
       simp only [e2]
       clear_value B0
       simp [hm,hm2,zbS]
       rw [c6]
       simp [hle]
     . have hle:(B0++[O.lst (vs.map fun k:Nat=>D.int k)]).length=5:=rfl
       have h4:(B0++[.lst (vs.map fun k:Nat=>D.int k)])[4]?=some (.lst (vs.map fun k:Nat=>D.int k)):=rfl
       have ea:(vs++[ts.length - 1,0]).map (fun k:Nat=>D.int k)=vs.map (fun k:Nat=>D.int k)++[.int ((ts.length:Int) - 1),.int 0]:=by
         have:(((ts.length - 1:Nat)):Int)=(ts.length:Int) - 1:=by omega
         simp [this]
       have h5:(B0++[.lst (vs.map fun k:Nat=>D.int k),.lst ((vs++[ts.length - 1,0]).map fun k:Nat=>D.int k)])[5]?=some (.lst ((vs++[ts.length - 1,0]).map fun k:Nat=>D.int k)):=rfl
       have happ:B0++[.lst (vs.map fun k:Nat=>D.int k),.lst ((vs++[ts.length - 1,0]).map fun k:Nat=>D.int k)]=(B0++[.lst (vs.map fun k:Nat=>D.int k)])++[.lst ((vs++[ts.length - 1,0]).map fun k:Nat=>D.int k)]:=by simp
       rw [happ]at h5 ⊢
       rw [ea]at h5 ⊢
       have lv:(vs.map fun k:Nat=>D.int k).length<=999998:=by simp;omega
       generalize B0++[.lst (vs.map fun k:Nat=>D.int k)]=Q at *
       generalize (vs.map fun k:Nat=>D.int k)=Z at *
       clear h5
       simp [hm,hm2,h4,zcc,lv]
       first | done | exact hle | exact ⟨hle,rfl⟩
 obtain ⟨X,js,hjs,st3,hit⟩:=key
 generalize hL:(js.map fun k:Nat=>D.int k)=L at hit
 have WB:zb7 (B0++[.lst X,.lst L]) 2 3 P turn ts:=⟨rfl,rfl⟩
 have nB:(B0++[.lst X,.lst L])[1]?=some (.lst (ts.map tD)):=rfl
 have gB:(B0++[.lst X,.lst L])[5]?=some (.lst L):=rfl
 generalize B0++[.lst X,.lst L]=B at *
 have loop:=zg7 (t := .nm 7) (gs:=[(5,.lst L)]) (body:=(zf (zk (.nm 8) (zj zcX (za (var 4) (za (var 7) ze))))
   (zf (ifS (orT (zO (tru (zw zo 1 (var 8)))) (tst (bin eqV (zw zo 9 (var 8)) (zw zo 10 (var 8))))) (zn (zb (.bl false))) zp)
   (zf (zk (.nm 9) (zN (zbq (za (zw zo 2 (var 8)) (za (zw zo 3 (var 8)) (za (zw zo 7 (var 8)) (za (zw zo 8 (var 8)) ze)))))))
   (zf (ifS (orT (tru (zeq (zc0 (var 9)))) (orT (tru (zw zo 5 (var 8))) (orT (tru (zw zo 4 (var 8))) (tru (zw zo 6 (var 8)))))) (zn (zb (.bl false))) zp)
   (zf (ifS (orT (zO (tru (zj zbP (za (var 1) (za (var 2) (za (var 7) (za (var 8) ze))))))) (tst (bin zch (zR zbK (var 8) (za (var 4) (za (var 7) ze))) (zb (.bl true))))) (zn (zb (.bl false))) zp)
   (zf (zcD (.nm 10) (itT (zM (za (zb (.int (0))) (za (bin zbc (bin zE (var 7) (zb (.int (1)))) (var 5)) ze))))
   (ifS (tst (bin neV (zR zbK (var 8) (za (var 4) (za (var 10) ze))) (zj zbP (za (var 1) (za (var 2) (za (var 10) (za (var 8) ze))))))) (zn (zb (.bl false))) zp))
   (zf (ifS (tru (zw zo 10 (var 8))) (zf (ifS (zO (tru (zj zdB (za (fld 0 (var 8)) ze)))) (zn (zb (.bl false))) zp)
   (z9 (zbg (fld 0 (var 8)) (un zcf (zb (.int (1))))))) (z9 (zbg (fld 4 (var 8)) (zM (za (var 7) (za (zb (.int (1))) ze))))))
   (ifS (tst (bin zch (zR zbK (var 8) (za (var 4) (za (var 7) ze))) (zb (.bl false)))) (zn (zb (.bl false))) zp))))))))) (fun k:Nat=>D.int k)
   (fun d e h'=>∃ g x7 x8 x9 x10,e=[some (.obj 0),some (.int P),some (.obj 1),some (.int turn),some (.obj 2),some (.int ts.length),some (.obj 4),x7,x8,x9,x10]∧h'=B++g) js (by
   rintro d k r e h' eq ⟨g,x7,x8,x9,x10,rfl,rfl⟩
   refine ⟨zct (zG gB g),_,rfl,?_⟩
   have hk:k < ts.length:=hjs k (by rw [<- eq];simp)
   rcases ze7 (WB.app g) hts (by omega) (by omega) hl63 hk with ⟨S,hf,F,hS⟩ | ⟨S,hf,F,hS⟩
   . obtain ⟨g',y8,y9,y10,hb⟩:=zEh (x0:=some (.obj 0)) (x6:=some (.obj 4)) (x8:=x8) (x9:=x9) (x10:=x10) (WB.app g) (zG nB g) hts hl63 hk hf F hS
     refine ⟨_,_,?_,g++g',some (.int k),y8,y9,y10,rfl,rfl⟩
     rw [<- List.append_assoc]
     exact hb
   . obtain ⟨g',y8,y9,y10,hb⟩:=zCi (x0:=some (.obj 0)) (x6:=some (.obj 4)) (x8:=x8) (x9:=x9) (x10:=x10) (WB.app g) (zG nB g) hts hl63 hk hf F hS
     refine ⟨_,_,?_,g++g',some (.int k),y8,y9,y10,rfl,rfl⟩
     rw [<- List.append_assoc]
     exact hb) (by rintro e h' ⟨g,_,_,_,_,rfl,rfl⟩;exact zct (zG gB g)) [some (.obj 0),some (.int P),some (.obj 1),some (.int turn),some (.obj 2),some (.int ts.length),some (.obj 4),none,none,none,none] B ⟨[],none,none,none,none,rfl,by simp⟩
 obtain ⟨e4,h4,hr,g,x7,x8,x9,x10,rfl,rfl⟩:=loop
 rw [hL]at hr
 have st4:(zcD (.nm 7) (itL (ifE (tst (bin gtV (var 5) (zb (.int (0))))) (zN (zfD (var 6) (zbq (za (bin zbj (var 5) (zb (.int (1)))) (za (zb (.int (0))) ze))))) (zN (zbq ze))))
   (zf (zk (.nm 8) (zj zcX (za (var 4) (za (var 7) ze))))
   (zf (ifS (orT (zO (tru (zw zo 1 (var 8)))) (tst (bin eqV (zw zo 9 (var 8)) (zw zo 10 (var 8))))) (zn (zb (.bl false))) zp)
   (zf (zk (.nm 9) (zN (zbq (za (zw zo 2 (var 8)) (za (zw zo 3 (var 8)) (za (zw zo 7 (var 8)) (za (zw zo 8 (var 8)) ze)))))))
   (zf (ifS (orT (tru (zeq (zc0 (var 9)))) (orT (tru (zw zo 5 (var 8))) (orT (tru (zw zo 4 (var 8))) (tru (zw zo 6 (var 8)))))) (zn (zb (.bl false))) zp)
   (zf (ifS (orT (zO (tru (zj zbP (za (var 1) (za (var 2) (za (var 7) (za (var 8) ze))))))) (tst (bin zch (zR zbK (var 8) (za (var 4) (za (var 7) ze))) (zb (.bl true))))) (zn (zb (.bl false))) zp)
   (zf (zcD (.nm 10) (itT (zM (za (zb (.int (0))) (za (bin zbc (bin zE (var 7) (zb (.int (1)))) (var 5)) ze))))
   (ifS (tst (bin neV (zR zbK (var 8) (za (var 4) (za (var 10) ze))) (zj zbP (za (var 1) (za (var 2) (za (var 10) (za (var 8) ze))))))) (zn (zb (.bl false))) zp))
   (zf (ifS (tru (zw zo 10 (var 8))) (zf (ifS (zO (tru (zj zdB (za (fld 0 (var 8)) ze)))) (zn (zb (.bl false))) zp)
   (z9 (zbg (fld 0 (var 8)) (un zcf (zb (.int (1))))))) (z9 (zbg (fld 4 (var 8)) (zM (za (var 7) (za (zb (.int (1))) ze))))))
   (ifS (tst (bin zch (zR zbK (var 8) (za (var 4) (za (var 7) ze))) (zb (.bl false)))) (zn (zb (.bl false))) zp))))))))) [some (.obj 0),some (.int P),some (.obj 1),some (.int turn),some (.obj 2),some (.int ts.length),some (.obj 4),none,none,none,none] (B0++[.lst X]) = .nx [some (.obj 0),some (.int P),some (.obj 1),some (.int turn),some (.obj 2),some (.int ts.length),some (.obj 4),x7,x8,x9,x10] (B++g):=by
   rw [zpM,hit,ziV]
   exact hr
 have hti:=zcR (WB.app g)
 have eq1:=zDP (h:=(B++g)++[.lst (ts.map tD)]) (n:=(B++g).length) (m:=1) (ts:=ts) (by simp) (zG (zG nB g) _)
 have w2:(B++g)[2]?=some (.ins 0 [(0,.int P),(1,.int turn),(2,.obj 3)]):=(WB.app g).w
 refine ⟨(B++g)++[.lst (ts.map tD)],?_⟩
 unfold zhy
 have e00:([D.obj 0].map some++List.replicate (11 - 1) none:zx)=e0:=rfl
 rw [zFD,if_pos (show [D.obj 0].length=1 from rfl),e00,zcr,st1,zce,zcr,st2,zce,zcr,st3,zce,zcr,st4,zce]
 generalize B++g=Q at *
 simp [w2,zcb,hti,eq1]
end Mx
end
section
namespace L2
open PySem PySem.Spec PyProof.Rows
abbrev Key:=Sum Int Str
noncomputable def zhh:Key->Value->Bool
 | .inl k,v=>Value.isInt k v
 | .inr x,v=>Value.isStrOf x v
noncomputable def zCn (w:World):Key->Int
 | .inl k=>hashInt k
 | .inr x=>hashStr w x
theorem zeN:∀ {k:Key}{v:Value},zhh k v=true->(∃ i t,k=Sum.inl i∧v=Value.int i t)∨(∃ x t,k=Sum.inr x∧v=Value.str x t)
 | .inl i,v,h=>by
   obtain ⟨t,e⟩:=Value.isInt_shape (k:=i) (v:=v) h
   exact .inl ⟨i,t,rfl,e⟩
 | .inr x,v,h=>by
   obtain ⟨t,e⟩:=Value.isStrOf_shape (x:=x) (v:=v) h
   exact .inr ⟨x,t,rfl,e⟩
theorem zDf (i:Int) (t:Tok):zhh (.inl i) (.int i t)=true:=by simp [zhh,Value.isInt]
theorem zA8 (x:Str) (t:Tok):zhh (.inr x) (.str x t)=true:=by simp [zhh,Value.isStrOf]
theorem zDe (a b:Int):decide ((Sum.inl a:Key)=Sum.inl b)=(a == b):=by
 by_cases e:a=b
 . subst e;simp
 . have h:¬ (Sum.inl a:Key)=Sum.inl b:=fun q=>e (Sum.inl.inj q)
   rw [decide_eq_false h]
   exact (beq_eq_false_iff_ne.mpr e).symm
theorem zCP (a b:Str):decide ((Sum.inr a:Key)=Sum.inr b)=decide (a=b):=by
 by_cases e:a=b
 . subst e;simp
 . have h:¬ (Sum.inr a:Key)=Sum.inr b:=fun q=>e (Sum.inr.inj q)
   rw [decide_eq_false h,decide_eq_false e]
theorem zFz (a:Int) (b:Str):decide ((Sum.inl a:Key)=Sum.inr b)=false:=decide_eq_false (fun q=>nomatch q)
theorem zBJ (a:Str) (b:Int):decide ((Sum.inr a:Key)=Sum.inl b)=false:=decide_eq_false (fun q=>nomatch q)
noncomputable def zbM (prog:Program) (w:World):PySem.KeyKind prog w Key where
 is:=zhh
 hash:=zCn w
 inj:=fun v a b ha hb=>by
   rcases zeN ha with ⟨i,t,rfl,rfl⟩ | ⟨x,t,rfl,rfl⟩
   . rcases zeN hb with ⟨j,u,rfl,e⟩ | ⟨y,u,rfl,e⟩
     . injection e with e1 _;rw [e1]
     . exact nomatch e
   . rcases zeN hb with ⟨j,u,rfl,e⟩ | ⟨y,u,rfl,e⟩
     . exact nomatch e
     . injection e with e1 _;rw [e1]
 byValue:=fun k v h=>by
   rcases zeN h with ⟨i,t,rfl,rfl⟩ | ⟨x,t,rfl,rfl⟩ <;> rfl
 pyHash:=fun hv h=>by
   rcases zeN hv with ⟨i,t,rfl,rfl⟩ | ⟨x,t,rfl,rfl⟩
   . exact wpAny_pyHash_int h
   . exact wpAny_pyHash_str h
 eqBool:=fun hu hv h=>by
   rcases zeN hu with ⟨i,t,rfl,rfl⟩ | ⟨x,t,rfl,rfl⟩
   . rcases zeN hv with ⟨j,u,rfl,rfl⟩ | ⟨y,u,rfl,rfl⟩
     . rw [zDe]at h;exact wpAny_eqBool_int h
     . rw [zFz]at h;exact SeqAt.EqAt.int_str i t y u _ _ _ _ h
   . rcases zeN hv with ⟨j,u,rfl,rfl⟩ | ⟨y,u,rfl,rfl⟩
     . rw [zBJ]at h;exact SeqAt.EqAt.str_int x t j u _ _ _ _ h
     . rw [zCP]at h;exact wpAny_eqBool_str h
 «strs»:=fun k x t v h=>by
   rcases zeN h with ⟨i,u,rfl,e⟩ | ⟨y,u,rfl,e⟩
   . exact nomatch e
   . injection e with e1 _
     subst e1
     cases v <;> rfl
theorem zD7 (prog:Program) (w:World) (i:Int) (t:Tok):(zbM prog w).is (.inl i) (.int i t)=true:=zDf i t
theorem zDG (prog:Program) (w:World) (x:Str) (t:Tok):(zbM prog w).is (.inr x) (.str x t)=true:=zA8 x t
end L2
namespace L2
open PySem PySem.Spec PyProof.Rows
inductive V where
 | non | bl (b:Bool) | int (i:Int) | str (x:Str) | byt (b:Array UInt8) | flt (b:UInt64) | ref (a:Addr) | ty (n:String)
 deriving DecidableEq
noncomputable def zt:V->Value->Prop
 | .non,u=>u=Value.none
 | .bl b,u=>u=Value.bool b
 | .int i,u=>∃ t,u=Value.int i t
 | .str x,u=>∃ t,u=Value.str x t
 | .byt b,u=>∃ t,u=Value.bytes b t
 | .flt b,u=>∃ t,u=Value.float b t
 | .ref a,u=>u=Value.ref a
 | .ty n,u=>u=Value.type n
abbrev zA:List V->List Value->Prop:=Paired zt
theorem zA.length {xs:List V}{us:List Value} (r:zA xs us):xs.length=us.length:=Paired.length r
theorem zA.get:∀ {xs:List V}{us:List Value}{i:Nat}{x:V},zA xs us->xs[i]?=some x->∃ u,us[i]?=some u∧zt x u
 | _,_,_,_,.nil,e=>by simp at e
 | _,_,0,_,.cons r _,e=>by simp at e;subst e;exact ⟨_,rfl,r⟩
 | _,_,i+1,x,.cons _ t,e=>by
   obtain ⟨u,h1,h2⟩:=zA.get (i:=i) (x:=x) t (by simpa using e)
   exact ⟨u,by simpa using h1,h2⟩
theorem zA.set {x:V}{u:Value} (r:zt x u):∀ {xs:List V}{us:List Value} (i:Nat),zA xs us->zA (xs.set i x) (us.set i u)
 | _,_,_,.nil=> .nil
 | _,_,0,.cons _ t=> .cons r t
 | _,_,i+1,.cons q t=> .cons q (zA.set r i t)
theorem zA.append:∀ {xs ys:List V}{us ws:List Value},zA xs us->zA ys ws->zA (xs++ys) (us++ws)
 | _,_,_,_,.nil,s=>s
 | _,_,_,_,.cons r t,s=> .cons r (zA.append t s)
theorem zA.take:∀ {xs:List V}{us:List Value} (n:Nat),zA xs us->zA (xs.take n) (us.take n)
 | _,_,0,_=> .nil
 | _,_,_+1,.nil=> .nil
 | _,_,n+1,.cons r t=> .cons r (zA.take n t)
theorem zA.drop:∀ {xs:List V}{us:List Value} (n:Nat),zA xs us->zA (xs.drop n) (us.drop n)
 | _,_,0,r=>r
 | _,_,_+1,.nil=> .nil
 | _,_,n+1,.cons _ t=>zA.drop n t
noncomputable def zc1:Option V->Option Value->Prop
 | some v,some u=>zt v u
 | none,none=>True
 | _,_=>False
noncomputable def KV {κ:Type}:List (κ×V)->List (κ×Value)->Prop:=Paired fun (p:κ×V) (q:κ×Value)=>p.1=q.1∧zt p.2 q.2
noncomputable def kV:Key->V
 | .inl i=> .int i
 | .inr x=> .str x
inductive HO where
 | lst (xs:List V)
 | tup (xs:List V)
 | dK (kvs:List (Key×V)) | dT (kvs:List (List Key×V))
 | set (S:Int->Bool) (n:Nat)
 | ins (C dx:Addr) (fs:List (Str×V))
 | own (x:Addr)
 | xd (fs:List (Str×V))
 | met (f x:Addr)
 | rng (lo hi:Int)
 | frz (o:Obj) (u:HO)
 | tbl (ps:Array Value)
 | ext (φ:Heap->Prop)
abbrev Hp:=Addr->Option HO
noncomputable def upd (H:Hp) (a:Addr) (o:HO):Hp:=fun b=>if b=a then some o else H b
theorem zcy {H:Hp}{a:Addr}{o:HO}:upd H a o a=some o:=by unfold upd;rw [if_pos rfl]
theorem zV {H:Hp}{a b:Addr}{o:HO} (h:b≠a):upd H a o b=H b:=by unfold upd;rw [if_neg h]
theorem zEE {H:Hp}{a b:Addr}{o u:HO} (h:H a=some o) (h':H b=some u) (d:o≠u):a≠b:=by
 intro e;subst e;rw [h]at h';exact d (Option.some.inj h')
theorem zdI {H:Hp}{a b:Addr}{o:HO} (h:H a=some o) (h':H b=none):a≠b:=by
 intro e;subst e;rw [h]at h';cases h'
section
variable (P:Program) (w:World)
noncomputable def zbQ (H:Hp) (h:Heap) (a:Addr):HO->Prop
 | .lst xs=>xs.length<=sizeLine∧∃ (its:List Value) (n:Nat),zA xs its∧h.get? a=some { cls := .type "list",data := .seq its.toArray n }
 | .tup xs=>xs.length<=sizeLine∧∃ its:List Value,zA xs its∧IsTup h a its.toArray
 | .dK kvs=>kvs.length<=sizeLine∧(a == sysModules)=false∧∃ vs,KV kvs vs∧h.DictOf (zbM P w) a vs
 | .dT kvs=>kvs.length<=sizeLine∧(a == sysModules)=false∧∃ xs:List (List Key×Addr×Value),
     Paired (fun (p:List Key×V) (q:List Key×Addr×Value)=>p.1=q.1∧H q.2.1=some (.tup (p.1.map kV))∧zt p.2 q.2.2) kvs xs ∧
     ∃ o es ep,h.get? a=some o∧o.ExactDict∧o.data = .dict es ep∧es.toList=xs.map (entryOfKey (tupleKind (zbM P w)))∧(xs.map (·.1)).Nodup
 | .set S n=>h.SetOf (intKind P w) a S n
 | .ins C dx fs=>H dx=some (.own a)∧fs.length<=1000∧dx≠a∧h.get? a=some (PySem.W.instObj C dx) ∧
     ∃ mA,h.Ns1 dx mA∧(∀ f,zc1 (fs.lookup f) (mA f))∧PySem.Within mA (fs.map (·.1))
 | .own _=>∃ o,h.get? a=some o
 | .xd fs=>∃ mA,h.Ns1 a mA∧∀ f,zc1 (fs.lookup f) (mA f)
 | .rng lo hi=>∃ t u v,h.get? a=some { cls := .type "range",data := .fields #[.int lo t,.int hi u,.int 1 v] }
 | .frz o u=>h.get? a=some o∧zbQ H h a u
 | .tbl ps=>h.get? a=some { cls := .none,data := .fields ps }
 | .met f x=>h.get? a=some (PySem.W.methodObj (.ref f) (.ref x))
 | .ext φ=>φ h∧(∃ o,h.get? a=some o)∧∀ h1 h2:Heap,φ h1->(∀ o,h1.get? a=some o->h2.get? a=some o)->φ h2
noncomputable def HOk (H:Hp) (h:Heap):Prop:=∀ a o,H a=some o->zbQ P w H h a o
end
section
variable {P:Program}{w:World}{H H':Hp}{h h':Heap}{a:Addr}{o:HO}
theorem zbQ.lt (x:zbQ P w H h a o):a < h.objs.size:=by
 cases o with
 | lst xs=>obtain ⟨_,_,_,_,e⟩:=x;exact Heap.lt_size e
 | tup xs=>obtain ⟨_,_,_,p⟩:=x;exact p.lt
 | dK kvs=>obtain ⟨_,_,_,_,o,_,_,e,_⟩:=x;exact Heap.lt_size e
 | dT kvs=>obtain ⟨_,_,_,_,o,_,_,e,_⟩:=x;exact Heap.lt_size e
 | set S n=>obtain ⟨o,_,_,_,e,_⟩:=x;exact Heap.lt_size e
 | ins C dx fs=>obtain ⟨_,_,_,e,_⟩:=x;exact Heap.lt_size e
 | own y=>obtain ⟨_,e⟩:=x;exact Heap.lt_size e
 | xd fs=>obtain ⟨_,⟨_,_,_,e,_⟩,_⟩:=x;exact Heap.lt_size e
 | rng lo hi=>obtain ⟨_,_,_,e⟩:=x;exact Heap.lt_size e
 | frz ob u=>obtain ⟨e,_⟩:=x;exact Heap.lt_size e
 | tbl ps=>exact Heap.lt_size (show h.get? a=some _ from x)
 | met f y=>exact Heap.lt_size (show h.get? a=some _ from x)
 | ext φ=>obtain ⟨_,⟨_,e⟩,_⟩:=x;exact Heap.lt_size e
theorem Paired.mapP {α β:Type}{F G:α->β->Prop}:∀ {l₁:List α}{l₂:List β},Paired F l₁ l₂->(∀ a b,F a b->G a b)->Paired G l₁ l₂
 | _,_,.nil,_=> .nil
 | _,_,.cons r t,f=> .cons (f _ _ r) (Paired.mapP t f)
theorem zbQ.stay (x:zbQ P w H h a o) (k:∀ b u,(b=a∨H b=some (.own a))->h.get? b=some u->h'.get? b=some u)
   (ho:∀ b,H b=some (.own a)->H' b=some (.own a)) (ht:∀ b xs,H b=some (.tup xs)->H' b=some (.tup xs)):zbQ P w H' h' a o:=by
 induction o with
 | lst xs=>obtain ⟨z,its,n,r,e⟩:=x;exact ⟨z,its,n,r,k _ _ (.inl rfl) e⟩
 | tup xs=>obtain ⟨z,its,r,ob,e,c⟩:=x;exact ⟨z,its,r,ob,k _ _ (.inl rfl) e,c⟩
 | dK kvs=>obtain ⟨z,y,vs,r,ob,es,ep,e,c⟩:=x;exact ⟨z,y,vs,r,ob,es,ep,k _ _ (.inl rfl) e,c⟩
 | dT kvs =>
   obtain ⟨z,y,xs,r,ob,es,ep,e,c⟩:=x
   exact ⟨z,y,xs,Paired.mapP r fun p q z=>⟨z.1,ht _ _ z.2.1,z.2.2⟩,ob,es,ep,k _ _ (.inl rfl) e,c⟩
 | set S n=>obtain ⟨ob,es,ep,t,e,c⟩:=x;exact ⟨ob,es,ep,t,k _ _ (.inl rfl) e,c⟩
 | ins C dx fs =>
   obtain ⟨d,z,ne,e,mA,⟨od,es,ep,e2,c⟩,r⟩:=x
   exact ⟨ho _ d,z,ne,k _ _ (.inl rfl) e,mA,⟨od,es,ep,k _ _ (.inr d) e2,c⟩,r⟩
 | own y=>obtain ⟨ob,e⟩:=x;exact ⟨ob,k _ _ (.inl rfl) e⟩
 | xd fs=>obtain ⟨mA,⟨od,es,ep,e,c⟩,r⟩:=x;exact ⟨mA,⟨od,es,ep,k _ _ (.inl rfl) e,c⟩,r⟩
 | rng lo hi=>obtain ⟨t,u,v,e⟩:=x;exact ⟨t,u,v,k _ _ (.inl rfl) e⟩
 | frz ob u ih=>obtain ⟨e,q⟩:=x;exact ⟨k _ _ (.inl rfl) e,ih q⟩
 | tbl ps =>
   have e:h.get? a=some { cls := .none,data := .fields ps }:=x
   show h'.get? a=some { cls := .none,data := .fields ps }
   exact k a _ (.inl rfl) e
 | met f y =>
   have e:h.get? a=some (PySem.W.methodObj (.ref f) (.ref y)):=x
   show h'.get? a=some (PySem.W.methodObj (.ref f) (.ref y))
   exact k a _ (.inl rfl) e
 | ext φ=>obtain ⟨p,⟨o,e⟩,st⟩:=x;exact ⟨st _ _ p fun o q=>k _ _ (.inl rfl) q,⟨o,k _ _ (.inl rfl) e⟩,st⟩
theorem HOk.lt (x:HOk P w H h) (e:H a=some o):a < h.objs.size:=(x a o e).lt
theorem HOk.fresh (x:HOk P w H h) (e:h.objs.size<=a):H a=none:=by
 cases q:H a with
 | none=>rfl
 | some u=>exact absurd (Nat.lt_of_lt_of_le (x.lt q) e) (Nat.lt_irrefl _)
theorem HOk.kept (x:HOk P w H h) (k:∀ b u,h.get? b=some u->h'.get? b=some u):HOk P w H h':=fun a o e =>
 (x a o e).stay (fun b u _ q=>k b u q) (fun _ q=>q) fun _ _ q=>q
theorem HOk.laid (x:HOk P w H h) (k:∀ b u,h.get? b=some u->h'.get? b=some u) (hp:h.objs.size<=a) (new:zbQ P w (upd H a o) h' a o):HOk P w (upd H a o) h':=fun b u e=>by
 have hn:=x.fresh hp
 by_cases hb:b=a
 . subst hb;rw [zcy]at e;cases e;exact new
 . rw [zV hb]at e
   exact (x b u e).stay (fun c v _ q=>k c v q) (fun c q=>by rw [zV (zdI q hn)];exact q) fun c xs q=>by rw [zV (zdI q hn)];exact q
end
noncomputable def Rd (H:Hp) (a:Addr) (u:HO):Prop:=H a=some u∨∃ o,H a=some (.frz o u)
theorem Rd.ok {P:Program}{w:World}{H:Hp}{h:Heap}{a:Addr}{u:HO} (r:Rd H a u) (x:HOk P w H h):zbQ P w H h a u:=by
 rcases r with r | ⟨o,r⟩
 . exact x a u r
 . obtain ⟨_,q⟩:=x a _ r
   exact q
noncomputable def Mut:Option HO->Prop
 | some (.lst _)=>True
 | some (.dK _)=>True
 | some (.dT _)=>True
 | some (.set _ _)=>True
 | some (.ins _ _ _)=>True
 | some (.ext _)=>True
 | _=>False
section
variable {P:Program}{w:World}{H:Hp}{h h':Heap}{x e:Addr}{o':HO}
theorem HOk.write (ok:HOk P w H h) (mu:Mut (H x)) (he:e=x∨H e=some (.own x)) (k:∀ b u,b≠e->h.get? b=some u->h'.get? b=some u) (heo:∃ u,h'.get? e=some u)
   (new:zbQ P w (upd H x o') h' x o'):HOk P w (upd H x o') h':=fun b u q=>by
 have nown:∀ c y,H c=some (.own y)->c≠x:=fun c y r z=>by subst z;rw [r]at mu;exact mu
 have ntup:∀ c xs,H c=some (.tup xs)->c≠x:=fun c xs r z=>by subst z;rw [r]at mu;exact mu
 by_cases hb:b=x
 . subst hb;rw [zcy]at q;cases q;exact new
 . rw [zV hb]at q
   by_cases hbe:b=e
   . have q':H b=some (.own x):=by
       rcases he with z | z
       . exact absurd (hbe.trans z) hb
       . rw [hbe];exact z
     rw [q]at q';cases q'
     obtain ⟨v,hv⟩:=heo
     exact ⟨v,by rw [hbe];exact hv⟩
   . refine (ok b u q).stay (fun c v hc r=>k c v ?_ r) (fun c r=>by rw [zV (nown c b r)];exact r) fun c xs r=>by rw [zV (ntup c xs r)];exact r
     rcases hc with rfl | hc
     . exact hbe
     . rintro rfl
       rcases he with z | z
       . exact nown c b hc z
       . rw [hc]at z;cases z;exact hb rfl
end
structure Un (fs ex:List Addr) (H H':Hp) (h h':Heap):Prop where
 keep:∀ b o,h.get? b=some o->H b=none->b∉fs->b∉ex->h'.get? b=some o
 slot:∀ b o,h.get? b=some o->H b=none->b∈fs->b∉ex->∃ sl,h'.get? b=some { o with slots:=sl }
 free:∀ b o,h.get? b=some o->H b=none->b∉ex->H' b=none
 there:∀ b o,h.get? b=some o->b∉ex->∃ o',h'.get? b=some o'
 tups:∀ b xs,H b=some (.tup xs)->H' b=some (.tup xs)
 frzs:∀ b o u,H b=some (.frz o u)->H' b=some (.frz o u)
 tbls:∀ b ps,H b=some (.tbl ps)->∃ more,H' b=some (.tbl (ps++more))
section
variable {fs fs' ex ex':List Addr}{H H1 H2:Hp}{h h1 h2 h':Heap}{a x e:Addr}{o:HO}
theorem Un.any (u:Un fs ex H H1 h h1) {b:Addr}{ob:Obj} (q:h.get? b=some ob) (n:H b=none) (hx:b∉ex):∃ sl,h1.get? b=some { ob with slots:=sl }:=by
 by_cases hb:b∈fs
 . exact u.slot b ob q n hb hx
 . exact ⟨ob.slots,u.keep b ob q n hb hx⟩
theorem Un.kept (k:∀ b u,h.get? b=some u->h'.get? b=some u):Un fs ex H H h h' :=
 ⟨fun b ob q _ _ _=>k b ob q,fun b ob q _ _ _=>⟨ob.slots,k b ob q⟩,fun _ _ _ n _=>n,fun b ob q _=>⟨ob,k b ob q⟩,fun _ _ q=>q,fun _ _ _ q=>q,fun _ ps q=>⟨#[],by rw [q];simp⟩⟩
theorem Un.refl:Un fs ex H H h h:=Un.kept fun _ _ q=>q
theorem Un.laid (k:∀ b u,h.get? b=some u->h'.get? b=some u) (hp:h.objs.size<=a) (hn:H a=none):Un fs ex H (upd H a o) h h' where
 keep:=fun b u q _ _ _=>k b u q
 slot:=fun b u q _ _ _=>⟨u.slots,k b u q⟩
 free:=fun b u q n _=>by rw [zV (Nat.ne_of_lt (Nat.lt_of_lt_of_le (Heap.lt_size q) hp))];exact n
 there:=fun b u q _=>⟨u,k b u q⟩
 tups:=fun b xs q=>by rw [zV (zdI q hn)];exact q
 frzs:=fun b u xs q=>by rw [zV (zdI q hn)];exact q
 tbls:=fun b ps q=>⟨#[],by rw [zV (zdI q hn),q];simp⟩
theorem Un.write (mu:Mut (H x)) (he:e=x∨H e=some (.own x)) (k:∀ b u,b≠e->h.get? b=some u->h'.get? b=some u) (heo:∃ u,h'.get? e=some u):Un fs ex H (upd H x o) h h':=by
 have hx:∀ b,H b=none->b≠x:=fun b n z=>by subst z;rw [n]at mu;exact mu
 have hb:∀ b,H b=none->b≠e:=fun b n z=>by
   subst z
   rcases he with r | r
   . exact hx b n r
   . rw [n]at r;cases r
 have hm:∀ b u,H b=some u->¬ Mut (some u)->b≠x:=fun b u q nm z=>by subst z;rw [q]at mu;exact nm mu
 refine ⟨fun b u q n _ _=>k b u (hb b n) q,fun b u q n _ _=>⟨u.slots,k b u (hb b n) q⟩,fun b u q n _=>by rw [zV (hx b n)];exact n,fun b u q _=>?_,
   fun b xs q=>by rw [zV (hm b _ q fun z=>z)];exact q,fun b u xs q=>by rw [zV (hm b _ q fun z=>z)];exact q,fun b ps q=>⟨#[],by rw [zV (hm b _ q fun z=>z),q];simp⟩⟩
 by_cases hbe:b=e
 . subst hbe;exact heo
 . exact ⟨u,k b u hbe q⟩
end
noncomputable def trk (h:Heap) (H:Hp):List Addr:=(List.range h.objs.size).filter fun a=>(H a).isSome
noncomputable def zfd (h:Heap) (H:Hp):Heap:=PySem.W.hideAll h (trk h H)
theorem zBQ (h:Heap) (H:Hp):(zfd h H).objs.size=h.objs.size:=PySem.W.hideAll_size _ _
theorem zDR {h:Heap}{H:Hp}{b:Addr}{o:Obj} (e:h.get? b=some o) (n:H b=none):(zfd h H).get? b=some o :=
 PySem.W.hideAll_get _ e fun hm=>by
   have q:(H b).isSome=true:=(List.mem_filter.mp hm).2
   rw [n]at q;simp at q
theorem zBD {h:Heap}{H:Hp}{b:Addr}{o:Obj} (e:(zfd h H).get? b=some o):h.get? b=some o∧H b=none:=by
 have e':h.get? b=some o:=PySem.W.of_hideAll (trk h H) e
 refine ⟨e',?_⟩
 cases q:H b with
 | none=>rfl
 | some x =>
   have hm:b∈trk h H:=List.mem_filter.mpr ⟨List.mem_range.mpr (Heap.lt_size e'),by simp [q]⟩
   have z:(zfd h H).get? b=none:=PySem.W.hideAll_none (trk h H) hm
   rw [z]at e;cases e
end L2
namespace L2
open PySem PySem.Spec PyProof.Rows
structure Mod (K:PySem.W.Frag) (mg:Str->Option Value) (base:Heap):Prop where
 kin:K.In base
 glob:base.Ns mainGlobals mg
 blt:∃ mb,base.Ns builtinsNs mb∧∀ x:Str,x ≠ "__name__" -> mb x=bootBuiltins x
 nolimit:base.NoLimit
structure Cx where
 prog:Program
 w:World
 K:PySem.W.Frag
 mg:Str->Option Value
 base:Heap
 A:Around
 N:List Str
 s₀:Shared
 H₀:Hp
 env:Env
 outer:List Env
 stack:List Env
 ex:List Addr
 fn:Str->Bool
 calm:Bool
 pn:List (Addr×Obj)
 xe:Value->Shared->Prop
noncomputable def frs (l:List Env):List Addr:=l.filterMap (·.frame)
abbrev Cx.fs (X:Cx):List Addr:=frs X.outer
noncomputable def Vis (sc:Scope) (x:Str):Prop:=sc.names.lookup x=some .local∨sc.names.lookup x=some .cell∨sc.names.lookup x=some .free
noncomputable def Loc (sc:Scope) (x:Str):Prop:=sc.names.lookup x=some .local∨sc.names.lookup x=some .cell
noncomputable def zDZ (env:Env) (h:Heap) (m:Str->Option Value) (x:Str) (u:Value):Prop :=
 (env.kindOf x=some .local∧m x=some u)∨((env.kindOf x=some .cell∨env.kindOf x=some .free)∧∃ c,env.cells.lookup x=some c∧h.IsCell c (some u))
structure Cx.Ok (X:Cx):Prop where
 mod:Mod X.K X.mg X.base
 kind:X.env.scope.kind = .function
 glob:X.env.globals=mainGlobals
 blt:X.env.builtins=builtinsNs
 above:X.s₀.heap.objs.size<=X.env.locals
 inj:∀ x y c,X.env.cells.lookup x=some c->X.env.cells.lookup y=some c->x=y
 has:∀ x,(X.env.kindOf x=some .cell∨X.env.kindOf x=some .free)->∃ c,X.env.cells.lookup x=some c
 cab:∀ x c,X.fn x=true->X.env.cells.lookup x=some c->X.s₀.heap.objs.size<=c
 hd:X.calm=true->X.A.handled=none
 frames:X.A.frames=some X.stack
 stk:X.stack=X.outer∨(X.stack=X.env :: X.outer∧X.env.frame=some X.env.locals)
 exf:∀ b∈X.ex,b≠X.env.locals∧∀ x c,X.env.cells.lookup x=some c->c≠b
 bs:∀ b o,X.base.get? b=some o->X.s₀.heap.get? b=some o∧X.H₀ b=none
 bsz:X.base.objs.size<=X.s₀.heap.objs.size
 noex:∀ b o,X.base.get? b=some o->b∉X.ex
 exfs:∀ b∈X.ex,b∉X.fs
 funs:X.s₀.heap.FunFrames X.base X.outer
 frf:∀ b∈X.fs,X.H₀ b=none
structure Inv (X:Cx) (pins:List (Addr×Obj)) (σ:List (Option V)) (H:Hp) (s:Shared):Prop where
 ok:X.Ok
 os:s.os=X.s₀.os
 bare:AllBare s.gens
 base:Un X.fs X.ex X.H₀ H X.s₀.heap s.heap
 loc:∃ m,s.heap.Ns X.env.locals m∧∀ (i:Nat) (x:Str) (v:V),X.N[i]?=some x->σ[i]?=some (some v)->Vis X.env.scope x->∃ u,zt v u∧zDZ X.env s.heap m x u
 cell:∀ x c,X.env.cells.lookup x=some c->∃ v,s.heap.IsCell c v
 free:H X.env.locals=none
 freeC:∀ x c,X.env.cells.lookup x=some c->H c=none
 pin:∀ p∈X.pn++pins,s.heap.get? p.1=some p.2∧H p.1=none∧p.1≠X.env.locals∧p.1∉X.fs∧∀ v,p.2.data ≠ .cell v
 hok:HOk X.prog X.w H s.heap
 len:σ.length=X.N.length
section
variable {X:Cx}{pins:List (Addr×Obj)}{σ:List (Option V)}{H H':Hp}{s:Shared}{h':Heap}
theorem Cx.Ok.nofr (ok:X.Ok) {b:Addr}{o:Obj} (e:X.base.get? b=some o):b∉X.fs:=fun hb=>by
 have:=(ok.funs.mem hb).1
 rw [e]at this;cases this
theorem Inv.bs (I:Inv X pins σ H s):∀ b o,X.base.get? b=some o->s.heap.get? b=some o∧H b=none:=fun b o e =>
 ⟨I.base.keep b o (I.ok.bs b o e).1 (I.ok.bs b o e).2 (I.ok.nofr e) (I.ok.noex b o e),I.base.free b o (I.ok.bs b o e).1 (I.ok.bs b o e).2 (I.ok.noex b o e)⟩
theorem Inv.bk (I:Inv X pins σ H s):∀ b o,X.base.get? b=some o->s.heap.get? b=some o:=fun b o e=>(I.bs b o e).1
theorem Inv.mod (I:Inv X pins σ H s):Mod X.K X.mg X.base:=I.ok.mod
theorem Inv.kIn (I:Inv X pins σ H s):X.K.In s.heap:=I.ok.mod.kin.keeps I.bk
theorem Inv.lt (I:Inv X pins σ H s):X.env.locals < s.heap.objs.size:=let ⟨_,hn,_⟩:=I.loc;hn.lt
theorem Inv.sz (I:Inv X pins σ H s):X.s₀.heap.objs.size<=s.heap.objs.size:=Nat.le_trans I.ok.above (Nat.le_of_lt I.lt)
theorem Inv.nofs (I:Inv X pins σ H s) {a:Addr} (h:s.heap.objs.size<=a):a∉X.fs:=fun hb=>by
 obtain ⟨_,o,ho,_⟩:=I.ok.funs.mem hb
 exact absurd (Nat.lt_of_lt_of_le (Heap.lt_size ho) (Nat.le_trans I.sz h)) (Nat.lt_irrefl _)
theorem Inv.cne (I:Inv X pins σ H s):∀ x c,X.env.cells.lookup x=some c->c≠X.env.locals:=fun x c e z=>by
 obtain ⟨v,o,ho,hd⟩:=I.cell x c e
 obtain ⟨m,⟨o',es,ep,ho',hd',_⟩,_⟩:=I.loc
 rw [z,ho']at ho;cases ho;rw [hd']at hd;cases hd
theorem Inv.funs (I:Inv X pins σ H s):s.heap.FunFrames X.base X.outer:=by
 have all:∀ (l:List Env),(∀ b∈frs l,b∈X.fs)->X.s₀.heap.FunFrames X.base l->s.heap.FunFrames X.base l:=by
   intro l
   induction l with
   | nil=>intro _ _;trivial
   | cons env r ih =>
     intro hs hl
     obtain ⟨hk,⟨L,o,hf,hn,ho,hd⟩,hr⟩:=hl
     have hL:L∈X.fs:=hs L (by unfold frs;rw [List.filterMap_cons,hf];exact List.mem_cons_self)
     obtain ⟨sl,e⟩:=I.base.slot L o ho (I.ok.frf L hL) hL fun z=>I.ok.exfs L z hL
     exact ⟨hk,⟨L,_,hf,hn,e,hd⟩,ih (fun b hb=>hs b (by unfold frs;rw [List.filterMap_cons,hf];exact List.mem_cons_of_mem _ hb)) hr⟩
 exact all X.outer (fun _ hb=>hb) I.ok.funs
theorem Inv.stack (I:Inv X pins σ H s):s.heap.FunFrames X.base X.stack:=by
 rcases I.ok.stk with e | ⟨e,hf⟩
 . rw [e];exact I.funs
 . rw [e]
   obtain ⟨m,hn,_⟩:=I.loc
   refine .cons (by rw [I.ok.kind];decide) hf hn ?_ I.funs
   exact Heap.get?_none_of_le (Nat.le_trans I.ok.bsz I.ok.above)
theorem Inv.stkSub (I:Inv X pins σ H s):∀ b∈frs X.stack,b∈X.env.locals :: X.fs:=fun b hb=>by
 rcases I.ok.stk with e | ⟨e,hf⟩
 . rw [e]at hb;exact List.mem_cons_of_mem _ hb
 . rw [e]at hb
   unfold frs at hb
   rw [List.filterMap_cons,hf]at hb
   exact hb
theorem Inv.stkFree (I:Inv X pins σ H s):∀ b∈frs X.stack,H b=none:=fun b hb=>by
 rcases List.mem_cons.mp (I.stkSub b hb) with e | hb
 . rw [e];exact I.free
 . obtain ⟨_,o,ho,_⟩:=I.ok.funs.mem hb
   exact I.base.free b o ho (I.ok.frf b hb) fun z=>I.ok.exfs b z hb
theorem Inv.step {g':Array GenState}{t':Nat}{d':Drawn}{ch:List Addr} (I:Inv X pins σ H s)
   (hch:∀ b∈ch,(b∈X.ex∨X.s₀.heap.objs.size<=b)∧b≠X.env.locals∧(∀ x c,X.env.cells.lookup x=some c->c≠b)∧∀ p∈X.pn++pins,p.1≠b)
   (keep:∀ b o,b≠X.env.locals->b∉X.fs->b∉ch->s.heap.get? b=some o->H b=none->h'.get? b=some o)
   (slot:∀ b o,b≠X.env.locals->b∈X.fs->b∉ch->s.heap.get? b=some o->H b=none->∃ sl,h'.get? b=some { o with slots:=sl }) (free:∀ b o,b∉ch->s.heap.get? b=some o->H b=none->H' b=none)
   (there:∀ b o,b∉ch->s.heap.get? b=some o->∃ o',h'.get? b=some o')
   (tups:∀ b xs,H b=some (.tup xs)->H' b=some (.tup xs)) (frzs:∀ b o u,H b=some (.frz o u)->H' b=some (.frz o u)) (tbls:∀ b ps,H b=some (.tbl ps)->∃ more,H' b=some (.tbl (ps++more)))
   (ns:∀ m,s.heap.Ns X.env.locals m->h'.Ns X.env.locals m) (hok:HOk X.prog X.w H' h') (hg:AllBare g') :
   Inv X pins σ H' { s with heap:=h',gens:=g',drawn:=d',toks:=t' }:=by
 have neL:∀ b o,X.s₀.heap.get? b=some o->b≠X.env.locals:=fun b o e=>Nat.ne_of_lt (Nat.lt_of_lt_of_le (Heap.lt_size e) I.ok.above)
 have neC:∀ b o,X.s₀.heap.get? b=some o->b∉X.ex->b∉ch:=fun b o e hx hb=>by
   rcases (hch b hb).1 with z | z
   . exact hx z
   . exact absurd (Nat.lt_of_lt_of_le (Heap.lt_size e) z) (Nat.lt_irrefl _)
 have cellK:∀ x c,X.env.cells.lookup x=some c->∀ v,s.heap.IsCell c v->h'.IsCell c v:=fun x c e v ⟨o,ho,hd⟩=>by
   have nch:c∉ch:=fun z=>(hch c z).2.2.1 x c e rfl
   by_cases hc:c∈X.fs
   . obtain ⟨sl,q⟩:=slot c o (I.cne x c e) hc nch ho (I.freeC x c e)
     exact ⟨_,q,hd⟩
   . exact ⟨o,keep c o (I.cne x c e) hc nch ho (I.freeC x c e),hd⟩
 refine ⟨I.ok,I.os,hg,⟨fun b o e n hb hx=>?_,fun b o e n hb hx=>?_,fun b o e n hx=>?_,fun b o e hx=>?_,fun b xs e=>tups b xs (I.base.tups b xs e),fun b o xs e=>frzs b o xs (I.base.frzs b o xs e),fun b ps e=>?_⟩,?_,fun x c e=>?_,?_,fun x c e=>?_,fun p hp=>?_,hok,I.len⟩
 . exact keep b o (neL b o e) hb (neC b o e hx) (I.base.keep b o e n hb hx) (I.base.free b o e n hx)
 . obtain ⟨sl,e1⟩:=I.base.slot b o e n hb hx
   obtain ⟨sl',e2⟩:=slot b _ (neL b o e) hb (neC b o e hx) e1 (I.base.free b o e n hx)
   exact ⟨sl',e2⟩
 . obtain ⟨o',e1⟩:=I.base.there b o e hx
   exact free b o' (neC b o e hx) e1 (I.base.free b o e n hx)
 . obtain ⟨o',e1⟩:=I.base.there b o e hx
   exact there b o' (neC b o e hx) e1
 . obtain ⟨m1,e1⟩:=I.base.tbls b ps e
   obtain ⟨m2,e2⟩:=tbls b _ e1
   exact ⟨m1++m2,by rw [e2,Array.append_assoc]⟩
 . obtain ⟨m,hn,hl⟩:=I.loc
   refine ⟨m,ns m hn,fun i x v e1 e2 e3=>?_⟩
   obtain ⟨u,r,l⟩:=hl i x v e1 e2 e3
   refine ⟨u,r,?_⟩
   rcases l with l | ⟨k,c,e,z⟩
   . exact .inl l
   . exact .inr ⟨k,c,e,cellK x c e _ z⟩
 . obtain ⟨v,z⟩:=I.cell x c e
   exact ⟨v,cellK x c e v z⟩
 . obtain ⟨m,⟨o,_,_,ho,_⟩,_⟩:=I.loc
   exact free _ o (fun z=>(hch _ z).2.1 rfl) ho I.free
 . obtain ⟨v,o,ho,hd⟩:=I.cell x c e
   exact free c o (fun z=>(hch c z).2.2.1 x c e rfl) ho (I.freeC x c e)
 . obtain ⟨e,n,ne,nf,d⟩:=I.pin p hp
   have nch:p.1∉ch:=fun z=>(hch p.1 z).2.2.2 p hp rfl
   exact ⟨keep p.1 p.2 ne nf nch e n,free p.1 p.2 nch e n,ne,nf,d⟩
theorem Inv.un {t':Nat} (I:Inv X pins σ H s) (u:Un X.fs [] H H' s.heap h') (hok:HOk X.prog X.w H' h'):Inv X pins σ H' { s with heap:=h',toks:=t' }:=by
 obtain ⟨m,⟨o,es,ep,ho,r⟩,_⟩:=id I.loc
 obtain ⟨sl,hL⟩:=u.any ho I.free (by simp)
 exact I.step (g':=s.gens) (d':=s.drawn) (ch:=[]) (fun _ z=>nomatch z) (fun b o _ hb _ e n=>u.keep b o e n hb (by simp)) (fun b o _ hb _ e n=>u.slot b o e n hb (by simp)) (fun b o _ e n=>u.free b o e n (by simp)) (fun b o _ e=>u.there b o e (by simp)) u.tups u.frzs u.tbls (fun m' hm=>by
   obtain ⟨o',es',ep',ho',r'⟩:=hm
   rw [ho]at ho';cases ho'
   exact ⟨_,es',ep',hL,r'⟩) hok I.bare
theorem Inv.call {g':Array GenState}{t':Nat}{d':Drawn}{ch:List Addr} (I:Inv X pins σ H s) (u:Un (frs X.stack) ch H H' s.heap h') (hok:HOk X.prog X.w H' h') (hg:AllBare g')
   (hch:∀ b∈ch,(b∈X.ex∨X.s₀.heap.objs.size<=b)∧b≠X.env.locals∧(∀ x c,X.env.cells.lookup x=some c->c≠b)∧∀ p∈X.pn++pins,p.1≠b) :
   Inv X pins σ H' { s with heap:=h',gens:=g',drawn:=d',toks:=t' }:=by
 obtain ⟨m,⟨o,es,ep,ho,r⟩,_⟩:=id I.loc
 obtain ⟨sl,hL⟩:=u.any ho I.free fun z=>(hch _ z).2.1 rfl
 exact I.step (ch:=ch) hch (fun b o hL hb hc e n=>u.keep b o e n (fun z=>(List.mem_cons.mp (I.stkSub b z)).elim hL hb) hc) (fun b o _ _ hc e n=>u.any e n hc) (fun b o hc e n=>u.free b o e n hc) (fun b o hc e=>u.there b o e hc) u.tups u.frzs u.tbls (fun m' hm=>by
   obtain ⟨o',es',ep',ho',r'⟩:=hm
   rw [ho]at ho';cases ho'
   exact ⟨_,es',ep',hL,r'⟩) hok hg
theorem Inv.turned {t':Nat}{it:Addr} (I:Inv X pins σ H s) (k:∀ b o,b≠it->s.heap.get? b=some o->h'.get? b=some o) (hn:H it=none) (hL:it≠X.env.locals)
   (h1:it∈X.ex∨X.s₀.heap.objs.size<=it) (h2:∀ x c,X.env.cells.lookup x=some c->c≠it) (h3:∀ p∈X.pn++pins,p.1≠it):Inv X pins σ H { s with heap:=h',toks:=t' }:=by
 have nit:∀ b u,H b=some u->b≠it:=fun b u e z=>by rw [z,hn]at e;cases e
 refine I.step (g':=s.gens) (d':=s.drawn) (ch:=[it]) (fun b hb=>?_) (fun b o _ _ hc e _=>k b o (fun z=>hc (by simp [z])) e) (fun b o _ _ hc e _=>⟨o.slots,k b o (fun z=>hc (by simp [z])) e⟩) (fun _ _ _ _ n=>n)
   (fun b o hc e=>⟨o,k b o (fun z=>hc (by simp [z])) e⟩) (fun _ _ e=>e) (fun _ _ _ e=>e) (fun b ps e=>⟨#[],by rw [e];simp⟩) (fun m hm=>?_) (fun b u e=>?_) I.bare
 . have e:b=it:=by simpa using hb
   subst e
   exact ⟨h1,hL,h2,h3⟩
 . obtain ⟨o,es,ep,ho,r⟩:=hm
   exact ⟨o,es,ep,k _ o (Ne.symm hL) ho,r⟩
 . refine (I.hok b u e).stay (fun c v hc q=>k c v ?_ q) (fun _ q=>q) fun _ _ q=>q
   rcases hc with z | z
   . rw [z];exact nit b u e
   . exact nit c _ z
theorem Inv.tok (I:Inv X pins σ H s) (t:Nat):Inv X pins σ H { s with toks:=t }:=I.un (h':=s.heap) (t':=t) Un.refl I.hok
theorem Inv.kept {t':Nat} (I:Inv X pins σ H s) (k:∀ b u,s.heap.get? b=some u->h'.get? b=some u):Inv X pins σ H { s with heap:=h',toks:=t' }:=I.un (Un.kept k) (I.hok.kept k)
theorem Inv.laid {a:Addr}{o:HO}{t':Nat} (I:Inv X pins σ H s) (k:∀ b u,s.heap.get? b=some u->h'.get? b=some u) (hp:s.heap.objs.size<=a) (new:zbQ X.prog X.w (upd H a o) h' a o) :
   Inv X pins σ (upd H a o) { s with heap:=h',toks:=t' }:=I.un (Un.laid k hp (I.hok.fresh hp)) (I.hok.laid k hp new)
theorem Inv.write {x e:Addr}{o:HO}{t':Nat} (I:Inv X pins σ H s) (mu:Mut (H x)) (he:e=x∨H e=some (.own x)) (k:∀ b u,b≠e->s.heap.get? b=some u->h'.get? b=some u) (heo:∃ u,h'.get? e=some u)
   (new:zbQ X.prog X.w (upd H x o) h' x o):Inv X pins σ (upd H x o) { s with heap:=h',toks:=t' }:=I.un (Un.write mu he k heo) (I.hok.write mu he k heo new)
theorem Inv.pins_of {pins':List (Addr×Obj)} (I:Inv X pins σ H s) (h:∀ p∈pins',s.heap.get? p.1=some p.2∧H p.1=none∧p.1≠X.env.locals∧p.1∉X.fs∧∀ v,p.2.data ≠ .cell v):Inv X pins' σ H s :=
 ⟨I.ok,I.os,I.bare,I.base,I.loc,I.cell,I.free,I.freeC,fun p hp=>(List.mem_append.mp hp).elim (fun z=>I.pin p (List.mem_append_left _ z)) (h p),I.hok,I.len⟩
theorem zpk {N:List Str} (hN:N.Nodup) {i j:Nat}{x:Str} (a:N[i]?=some x) (b:N[j]?=some x):i=j:=by
 obtain ⟨h1,e1⟩:=List.getElem?_eq_some_iff.mp a
 obtain ⟨h2,e2⟩:=List.getElem?_eq_some_iff.mp b
 exact (List.getElem_inj hN).mp (e1.trans e2.symm)
theorem ztq {M:Model}{A:Around}{E:Value->Shared->Prop}{i:Nat}{x:Str}{v:V}{u:Value}{Q:Unit->Shared->Prop} (I:Inv X pins σ H s) (hN:X.N.Nodup) (hi:X.N[i]?=some x) (hx:Loc X.env.scope x) (r:zt v u)
   (h:∀ s',Inv X pins (σ.set i (some v)) H s'->(∃ a,Heap.SameBut a s.heap s'.heap∧(a=X.env.locals∨X.env.cells.lookup x=some a))->Q () s') (hf:X.fn x=true∨X.env.scope.names.lookup x=some .local:=by first | exact .inl rfl | exact .inr rfl | assumption):wpAny M A (storeName X.env x u) Q E s:=by
 obtain ⟨m,hn,hl⟩:=id I.loc
 have hcls:(X.env.scope.kind == .class || (X.env.scope.kind == .module && X.env.locals != X.env.globals))=false:=by rw [I.ok.kind];rfl
 have hiσ:i < σ.length:=by rw [I.len];exact (List.getElem?_eq_some_iff.mp hi).1
 have cne:=I.cne
 have tracked:∀ {a:Addr} {h':Heap},(∃ o,s.heap.get? a=some o∧H a=none)->Heap.SameBut a s.heap h'->HOk X.prog X.w H h':=fun {a h'} ha hs b ob e=>by
   obtain ⟨_,_,hfree⟩:=ha
   refine (I.hok b ob e).stay (fun c w' hc q=>(hs.2 c ?_).trans q) (fun _ q=>q) fun _ _ q=>q
   rintro rfl
   rcases hc with rfl | hc
   . rw [hfree]at e;cases e
   . rw [hfree]at hc;cases hc
 rcases hx with hk | hk
 . refine wpAny_storeName_local hk hn (fun h' hn' hs=>?_) hcls
   obtain ⟨oL,_,_,hoL,_⟩:=id hn
   refine h _ ⟨I.ok,I.os,I.bare,⟨fun b o e n hb hx=>?_,fun b o e n hb hx=>?_,I.base.free,fun b o e hx=>?_,I.base.tups,I.base.frzs,I.base.tbls⟩,⟨_,hn',fun j y v' e1 e2 e3=>?_⟩,fun y c e=>?_,I.free,I.freeC,fun p hp=>?_,tracked ⟨oL,hoL,I.free⟩ hs,by simpa using I.len⟩ ⟨_,hs,.inl rfl⟩
   . exact (hs.2 b (Nat.ne_of_lt (Nat.lt_of_lt_of_le (Heap.lt_size e) I.ok.above))).trans (I.base.keep b o e n hb hx)
   . obtain ⟨sl,e1⟩:=I.base.slot b o e n hb hx
     exact ⟨sl,(hs.2 b (Nat.ne_of_lt (Nat.lt_of_lt_of_le (Heap.lt_size e) I.ok.above))).trans e1⟩
   . obtain ⟨o',e1⟩:=I.base.there b o e hx
     exact ⟨o',(hs.2 b (Nat.ne_of_lt (Nat.lt_of_lt_of_le (Heap.lt_size e) I.ok.above))).trans e1⟩
   . by_cases hj:j=i
     . subst hj
       rw [hi]at e1;cases e1
       rw [List.getElem?_set_self hiσ]at e2
       cases e2
       exact ⟨u,r,.inl ⟨hk,by simp⟩⟩
     . rw [List.getElem?_set_ne (Ne.symm hj)]at e2
       obtain ⟨u',r',q⟩:=hl j y v' e1 e2 e3
       refine ⟨u',r',?_⟩
       rcases q with ⟨k,e⟩ | ⟨k,c,e,z⟩
       . refine .inl ⟨k,?_⟩
         have:y≠x:=fun e=>hj (zpk hN e1 (e ▸ hi))
         simp [this,e]
       . exact .inr ⟨k,c,e,z.sameBut hs (cne y c e)⟩
   . obtain ⟨w',z⟩:=I.cell y c e
     exact ⟨w',z.sameBut hs (cne y c e)⟩
   . obtain ⟨e,n,ne,nf,d⟩:=I.pin p hp
     exact ⟨(hs.2 p.1 ne).trans e,n,ne,nf,d⟩
 . have hfn:X.fn x=true:=by
     rcases hf with z | z
     . exact z
     . rw [z]at hk;cases hk
   obtain ⟨c,hc⟩:=I.ok.has x (.inl hk)
   obtain ⟨w',z⟩:=I.cell x c hc
   refine wpAny_storeName_cell I.ok.kind hk hc z (fun h' hc' hs=>?_)
   obtain ⟨oc,hoc,hocd⟩:=id z
   refine h { s with heap:=h' } ⟨I.ok,I.os,I.bare,⟨fun b o e n hb hx=>?_,fun b o e n hb hx=>?_,I.base.free,fun b o e hx=>?_,I.base.tups,I.base.frzs,I.base.tbls⟩,⟨m,hn.sameBut hs (Ne.symm (cne x c hc)),fun j y v' e1 e2 e3=>?_⟩,fun y c' e=>?_,I.free,I.freeC,fun p hp=>?_,tracked ⟨oc,hoc,I.freeC x c hc⟩ hs,by simpa using I.len⟩ ⟨c,hs,.inr hc⟩
   . exact (hs.2 b (Nat.ne_of_lt (Nat.lt_of_lt_of_le (Heap.lt_size e) (I.ok.cab x c hfn hc)))).trans (I.base.keep b o e n hb hx)
   . obtain ⟨sl,e1⟩:=I.base.slot b o e n hb hx
     exact ⟨sl,(hs.2 b (Nat.ne_of_lt (Nat.lt_of_lt_of_le (Heap.lt_size e) (I.ok.cab x c hfn hc)))).trans e1⟩
   . obtain ⟨o',e1⟩:=I.base.there b o e hx
     exact ⟨o',(hs.2 b (Nat.ne_of_lt (Nat.lt_of_lt_of_le (Heap.lt_size e) (I.ok.cab x c hfn hc)))).trans e1⟩
   . by_cases hj:j=i
     . subst hj
       rw [hi]at e1;cases e1
       rw [List.getElem?_set_self hiσ]at e2
       cases e2
       exact ⟨u,r,.inr ⟨.inl hk,c,hc,hc'⟩⟩
     . rw [List.getElem?_set_ne (Ne.symm hj)]at e2
       obtain ⟨u',r',q⟩:=hl j y v' e1 e2 e3
       refine ⟨u',r',?_⟩
       rcases q with q | ⟨k,c',e,z'⟩
       . exact .inl q
       . refine .inr ⟨k,c',e,z'.sameBut hs ?_⟩
         rintro rfl
         exact hj (zpk hN e1 (I.ok.inj _ _ _ e hc ▸ hi))
   . by_cases hcc:c'=c
     . subst hcc;exact ⟨_,hc'⟩
     . obtain ⟨w2,z2⟩:=I.cell y c' e
       exact ⟨w2,z2.sameBut hs hcc⟩
   . obtain ⟨e,n,ne,nf,d⟩:=I.pin p hp
     refine ⟨(hs.2 p.1 ?_).trans e,n,ne,nf,d⟩
     intro q
     rw [q,hoc]at e
     have q':oc=p.2:=Option.some.inj e
     exact d w' (by rw [<- q'];exact hocd)
theorem zhE {M:Model}{A:Around}{E:Value->Shared->Prop}{i:Nat}{x:Str}{v:V}{u:Value}{Q:Unit->Shared->Prop} (I:Inv X pins σ H s) (hN:X.N.Nodup) (hi:X.N[i]?=some x) (hx:Loc X.env.scope x) (r:zt v u)
   (h:∀ s',Inv X pins (σ.set i (some v)) H s'->Q () s') (hf:X.fn x=true∨X.env.scope.names.lookup x=some .local:=by first | exact .inl rfl | exact .inr rfl | assumption):wpAny M A (storeName X.env x u) Q E s :=
 ztq I hN hi hx r (fun s' I' _=>h s' I') hf
theorem Inv.call' {s':Shared}{ch:List Addr} (I:Inv X pins σ H s) (ho:s'.os=s.os) (u:Un (frs X.stack) ch H H' s.heap s'.heap) (hok:HOk X.prog X.w H' s'.heap) (hg:AllBare s'.gens)
   (hch:∀ b∈ch,(b∈X.ex∨X.s₀.heap.objs.size<=b)∧b≠X.env.locals∧(∀ x c,X.env.cells.lookup x=some c->c≠b)∧∀ p∈X.pn++pins,p.1≠b):Inv X pins σ H' s':=by
 obtain ⟨h',g',d',t',o'⟩:=s'
 have e:o'=s.os:=ho
 subst e
 exact I.call (g':=g') (t':=t') (d':=d') u hok hg hch
end
abbrev XK:=Value->Option Addr->Hp->Prop
abbrev St:=List (Option V)
abbrev VK:=V->Hp->Prop
abbrev TE:=St->Hp->VK->Prop
abbrev TT:=St->Hp->(Bool->Hp->Prop)->Prop
abbrev TA:=St->Hp->(List V->Hp->Prop)->Prop
structure zfQ where
 nx:St->Hp->Prop
 rt:VK
 bk:St->Hp->Prop:=fun _ _=>False
 ct:St->Hp->Prop:=fun _ _=>False
abbrev TS:=zfQ->St->Hp->Prop
noncomputable def EP (X:Cx) (pins:List (Addr×Obj)) (σ:St) (Q:VK) (u:Value) (s':Shared):Prop:=∃ v H',Inv X pins σ H' s'∧zt v u∧Q v H'
noncomputable def TP (X:Cx) (pins:List (Addr×Obj)) (σ:St) (Q:Bool->Hp->Prop) (b:Bool) (s':Shared):Prop:=∃ H',Inv X pins σ H' s'∧Q b H'
noncomputable def AP (X:Cx) (pins:List (Addr×Obj)) (σ:St) (Q:List V->Hp->Prop) (us:List Value) (s':Shared):Prop:=∃ vs H',Inv X pins σ H' s'∧zA vs us∧Q vs H'
noncomputable def SP (X:Cx) (pins:List (Addr×Obj)) (D:zfQ) (f:Flow) (s':Shared):Prop :=
 match f with
 | .next=>∃ σ' H',Inv X pins σ' H' s'∧D.nx σ' H'
 | .brk=>∃ σ' H',Inv X pins σ' H' s'∧D.bk σ' H'
 | .cont=>∃ σ' H',Inv X pins σ' H' s'∧D.ct σ' H'
 | .ret u=>∃ v σ' H',Inv X pins σ' H' s'∧zt v u∧D.rt v H'
noncomputable def PE (X:Cx) (e:Expr) (t:TE):Prop :=
 ∀ (pins:List (Addr×Obj)) (s:Shared) (σ:St) (H:Hp) (Q:VK),Inv X pins σ H s->t σ H Q->wpAny (model X.prog X.w) X.A (eval e X.env) (EP X pins σ Q) X.xe s
noncomputable def PT (X:Cx) (e:Expr) (t:TT):Prop :=
 ∀ (pins:List (Addr×Obj)) (s:Shared) (σ:St) (H:Hp) (Q:Bool->Hp->Prop),Inv X pins σ H s->t σ H Q->wpAny (model X.prog X.w) X.A (isTrue e X.env (eval e X.env)) (TP X pins σ Q) X.xe s
noncomputable def PW (X:Cx) (e:Expr) (t:TT):Prop :=
 ∀ (whole:Sem Value) (pins:List (Addr×Obj)) (s:Shared) (σ:St) (H:Hp) (Q:Bool->Hp->Prop),Inv X pins σ H s->t σ H Q->wpAny (model X.prog X.w) X.A (isTrue e X.env whole) (TP X pins σ Q) X.xe s
theorem PW.pt {X:Cx}{e:Expr}{t:TT} (h:PW X e t):PT X e t:=h _
noncomputable def PA (X:Cx) (es:List Expr) (t:TA):Prop :=
 ∀ (pos:Pos) (pins:List (Addr×Obj)) (s:Shared) (σ:St) (H:Hp) (Q:List V->Hp->Prop),Inv X pins σ H s->t σ H Q->wpAny (model X.prog X.w) X.A (spliced (backTo pos (starEach es X.env))) (AP X pins σ Q) X.xe s
noncomputable def PS (X:Cx) (st:Stmt) (t:TS):Prop :=
 ∀ (pins:List (Addr×Obj)) (s:Shared) (σ:St) (H:Hp) (D:zfQ),Inv X pins σ H s->t D σ H->wpAny (model X.prog X.w) X.A (exec st X.env) (SP X pins D) X.xe s
noncomputable def PSs (X:Cx) (st:List Stmt) (t:TS):Prop :=
 ∀ (pins:List (Addr×Obj)) (s:Shared) (σ:St) (H:Hp) (D:zfQ),Inv X pins σ H s->t D σ H->wpAny (model X.prog X.w) X.A (execs st X.env) (SP X pins D) X.xe s
theorem thn {α:Type}{t:Sem α}{Q Q':α->Shared->Prop}{M:Model}{A:Around}{E:Value->Shared->Prop}{s:Shared} (h:wpAny M A t Q E s) (hQ:∀ a s,Q a s->Q' a s):wpAny M A t Q' E s:=wpAny_mono h hQ fun _ _ x=>x
end L2
namespace L2
open PySem PySem.Spec PyProof.Rows
section
variable {X:Cx}
noncomputable def zAE (i:Nat):TE:=fun σ H Q=>∃ v,σ[i]?=some (some v)∧Q v H
noncomputable def tC (v:V):TE:=fun _ H Q=>Q v H
theorem zDy {i:Nat}{x:Str}{pos:Pos} (hN:X.N[i]?=some x) (hv:Vis X.env.scope x) (hd:(x == ("__debug__":Str))=false:=by decide) (hcd:(x == ("__classdict__":Str))=false:=by decide):PE X (.Name x pos) (zAE i):=by
 intro pins s σ H Q I h
 obtain ⟨v,e,h⟩:=h
 obtain ⟨m,hn,hl⟩:=I.loc
 obtain ⟨u,r,l⟩:=hl i x v hN e hv
 have fin:EP X pins σ Q u s:=⟨v,H,I,r,h⟩
 rcases l with ⟨hk,hm⟩ | ⟨hk,c,hc,hcell⟩
 . exact wpAny_Name (wpAny_loadName_local I.ok.kind hk hn hm fin) hd
 . rcases hk with hk | hk
   . exact wpAny_Name (wpAny_loadName_cell I.ok.kind hk hc hcell fin) hd
   . exact wpAny_Name (wpAny_loadName_free I.ok.kind hk hc hcell fin hcd) hd
theorem zpg {i j pos}:PE X (.Constant (.int i) j pos) (tC (.int i)):=fun _ _ _ H _ I h=>wpAny_Constant_int ⟨.int i,H,I.tok _,⟨_,rfl⟩,h⟩
theorem zAt {b j pos}:PE X (.Constant (.bool b) j pos) (tC (.bl b)):=fun _ _ _ H _ I h=>Constant_bool ⟨.bl b,H,I,rfl,h⟩
theorem zEx {j pos}:PE X (.Constant .none j pos) (tC .non):=fun _ _ _ H _ I h=>Constant_none ⟨.non,H,I,rfl,h⟩
noncomputable def Gl (X:Cx) (x:Str):Prop:=X.env.kindOf x=some .globalImplicit
theorem zo4 {E:Value->Shared->Prop}{pins:List (Addr×Obj)}{s:Shared}{σ:St}{H:Hp}{x:Str}{u:Value}{pos:Pos}{Q:Value->Shared->Prop} (I:Inv X pins σ H s) (hg:Gl X x) (hm:X.mg x=some u) (h:Q u s)
   (hd:(x == ("__debug__":Str))=false:=by decide):wpAny (model X.prog X.w) X.A (eval (.Name x pos) X.env) Q E s :=
 Calls.Name_function_global I.ok.kind hg (Calls.loadGlobal_global (by rw [I.ok.glob];exact I.mod.glob.keeps I.bk) hm h) hd
theorem zgC {E:Value->Shared->Prop}{pins:List (Addr×Obj)}{s:Shared}{σ:St}{H:Hp}{x:Str}{u:Value}{pos:Pos}{Q:Value->Shared->Prop} (I:Inv X pins σ H s) (hg:Gl X x) (hm:X.mg x=none) (hv:bootBuiltins x=some u) (h:Q u s)
   (hn:x ≠ "__name__":=by decide) (hd:(x == ("__debug__":Str))=false:=by decide):wpAny (model X.prog X.w) X.A (eval (.Name x pos) X.env) Q E s:=by
 obtain ⟨mb,h1,h2⟩:=I.mod.blt
 exact Calls.Name_function_global I.ok.kind hg (Calls.loadGlobal_builtin (by rw [I.ok.glob];exact I.mod.glob.keeps I.bk) hm (by rw [I.ok.blt];exact h1.keeps I.bk) ((h2 x hn).trans hv) h) hd
theorem zrU {x:Str}{v:V}{u:Value}{pos:Pos} (hg:Gl X x) (hm:X.mg x=some u) (r:zt v u) (hd:(x == ("__debug__":Str))=false:=by decide):PE X (.Name x pos) (tC v) :=
 fun _ _ _ H _ I h=>zo4 I hg hm ⟨v,H,I,r,h⟩ hd
theorem zC3 {x:Str}{v:V}{u:Value}{pos:Pos} (hg:Gl X x) (hm:X.mg x=none) (hv:bootBuiltins x=some u) (r:zt v u) (hn:x ≠ "__name__":=by decide) (hd:(x == ("__debug__":Str))=false:=by decide):PE X (.Name x pos) (tC v) :=
 fun _ _ _ H _ I h=>zgC I hg hm hv ⟨v,H,I,r,h⟩ hn hd
variable {a b:Expr}{ta tb:TE}{pos:Pos}
variable {tA tB':TT}{rest:List Expr}
noncomputable def zBt (t u:TT):TT:=fun σ H Q=>t σ H fun c H1=>if c=true then u σ H1 Q else Q false H1
noncomputable def tOr (t u:TT):TT:=fun σ H Q=>t σ H fun c H1=>if c=true then Q true H1 else u σ H1 Q
noncomputable def zFB (t:TT):TT:=fun σ H Q=>t σ H fun c H1=>Q (!c) H1
theorem zBH (ha:PT X a tA):PW X (.BoolOp .And [a] pos) tA:=by
 intro wh pins s σ H Q I h
 refine isTrue_and (thn (ha pins s σ H Q I h) fun c s1 e=>?_)
 cases c with
 | true=>exact isTrue_and_nil e
 | false=>exact e
theorem zzY (ha:PT X a tA):PW X (.BoolOp .Or [a] pos) tA:=by
 intro wh pins s σ H Q I h
 refine isTrue_or (thn (ha pins s σ H Q I h) fun c s1 e=>?_)
 cases c with
 | false=>exact isTrue_or_nil e
 | true=>exact e
theorem zEN (ha:PT X a tA) (hb:PW X (.BoolOp .And (b :: rest) pos) tB'):PW X (.BoolOp .And (a :: b :: rest) pos) (zBt tA tB'):=by
 intro wh pins s σ H Q I h
 refine isTrue_and (thn (ha pins s σ H _ I h) fun c s1 ⟨H1,I1,q1⟩=>?_)
 cases c with
 | true=>exact hb wh pins s1 σ H1 Q I1 q1
 | false=>exact ⟨H1,I1,q1⟩
theorem zAm (ha:PT X a tA) (hb:PW X (.BoolOp .Or (b :: rest) pos) tB'):PW X (.BoolOp .Or (a :: b :: rest) pos) (tOr tA tB'):=by
 intro wh pins s σ H Q I h
 refine isTrue_or (thn (ha pins s σ H _ I h) fun c s1 ⟨H1,I1,q1⟩=>?_)
 cases c with
 | true=>exact ⟨H1,I1,q1⟩
 | false=>exact hb wh pins s1 σ H1 Q I1 q1
theorem zEZ (ha:PT X a tA):PT X (.UnaryOp .Not a pos) (zFB tA):=by
 intro pins s σ H Q I h
 exact isTrue_not (ha pins s σ H (fun c H1=>Q (!c) H1) I h)
noncomputable def zBn (ta tb:TE):TE:=fun σ H Q=>ta σ H fun x H1=>∃ c,x = .bl c∧if c=true then tb σ H1 Q else Q (.bl false) H1
noncomputable def zBE (ta tb:TE):TE:=fun σ H Q=>ta σ H fun x H1=>∃ c,x = .bl c∧if c=true then Q (.bl true) H1 else tb σ H1 Q
noncomputable def zFC (ta:TE):TE:=fun σ H Q=>ta σ H fun x H1=>∃ c,x = .bl c∧Q (.bl (!c)) H1
theorem zCR {op}{t:TE} (h:PE X a t):PE X (.BoolOp op [a] pos) t:=fun pins s σ H Q I hw=>BoolOp_one (h pins s σ H Q I hw)
theorem zBK (ha:PE X a ta) (hb:PE X (.BoolOp .And (b :: rest) pos) tb):PE X (.BoolOp .And (a :: b :: rest) pos) (zBn ta tb):=by
 intro pins s σ H Q I h
 refine BoolOp_and (thn (ha pins s σ H _ I h) fun v s1 ⟨x,H1,I1,r1,q1⟩=>?_)
 obtain ⟨c,rfl,q1⟩:=q1
 cases r1
 refine wpAny_truthy_bool ?_
 cases c with
 | true=>exact hb pins s1 σ H1 Q I1 q1
 | false=>exact ⟨.bl false,H1,I1,rfl,q1⟩
theorem zBO (ha:PE X a ta) (hb:PE X (.BoolOp .Or (b :: rest) pos) tb):PE X (.BoolOp .Or (a :: b :: rest) pos) (zBE ta tb):=by
 intro pins s σ H Q I h
 refine BoolOp_or (thn (ha pins s σ H _ I h) fun v s1 ⟨x,H1,I1,r1,q1⟩=>?_)
 obtain ⟨c,rfl,q1⟩:=q1
 cases r1
 refine wpAny_truthy_bool ?_
 cases c with
 | false=>exact hb pins s1 σ H1 Q I1 q1
 | true=>exact ⟨.bl true,H1,I1,rfl,q1⟩
theorem zB5 (ha:PE X a ta):PE X (.UnaryOp .Not a pos) (zFC ta):=by
 intro pins s σ H Q I h
 refine UnaryOp_ (thn (ha pins s σ H _ I h) fun v s1 ⟨x,H1,I1,r1,q1⟩=>?_)
 obtain ⟨c,rfl,q1⟩:=q1
 cases r1
 exact not_of (wpAny_truthy_bool ⟨.bl (!c),H1,I1,rfl,q1⟩)
noncomputable def tIf (t:TT) (ta tb:TE):TE:=fun σ H Q=>t σ H fun c H1=>if c=true then ta σ H1 Q else tb σ H1 Q
theorem zz7 {c:Expr} (hc:PT X c tA) (ha:PE X a ta) (hb:PE X b tb):PE X (.IfExp c a b pos) (tIf tA ta tb):=by
 intro pins s σ H Q I h
 refine wpAny_IfExp (thn (hc pins s σ H _ I h) fun d s1 ⟨H1,I1,q1⟩=>?_)
 cases d with
 | true=>exact ha pins s1 σ H1 Q I1 q1
 | false=>exact hb pins s1 σ H1 Q I1 q1
end
end L2
namespace L2
open PySem PySem.Spec PyProof.Rows
noncomputable def SqL (K:PySem.W.Frag) (H:Hp) (a:Addr) (xs:List V):Prop :=
 Rd H a (.lst xs) ∨
   ∃ (o:Obj) (its:Array Value) (n:Nat),K.lookup a=some o∧o.cls = .type "list" ∧ o.dict=none∧o.data = .seq its n∧its.size<=sizeLine∧zA xs its.toList
noncomputable def SqT (K:PySem.W.Frag) (H:Hp) (a:Addr) (xs:List V):Prop :=
 Rd H a (.tup xs) ∨
   ∃ (o:Obj) (its:Array Value) (n:Nat),K.lookup a=some o∧o.cls = .type "tuple" ∧ o.data = .seq its n∧its.size<=sizeLine∧zA xs its.toList
noncomputable def zD4:Value->Option V
 | .none=>some .non
 | .bool b=>some (.bl b)
 | .int i _=>some (.int i)
 | .str x _=>some (.str x)
 | .bytes b _=>some (.byt b)
 | .float b _=>some (.flt b)
 | .ref a=>some (.ref a)
 | .type n=>some (.ty n)
 | _=>none
theorem zt.abs {x:V}{u:Value} (r:zt x u):zD4 u=some x:=by
 cases x with
 | non=>cases r;rfl
 | bl _=>cases r;rfl
 | int _=>obtain ⟨t,rfl⟩:=r;rfl
 | str _=>obtain ⟨t,rfl⟩:=r;rfl
 | byt _=>obtain ⟨t,rfl⟩:=r;rfl
 | flt _=>obtain ⟨t,rfl⟩:=r;rfl
 | ref _=>cases r;rfl
 | ty _=>cases r;rfl
theorem zt.inj {x y:V}{u:Value} (r:zt x u) (q:zt y u):x=y:=Option.some.inj (r.abs.symm.trans q.abs)
theorem zA.inj:∀ {xs ys:List V}{us:List Value},zA xs us->zA ys us->xs=ys
 | _,_,_,.nil,.nil=>rfl
 | _,_,_,.cons r t,.cons r' t'=>by rw [r.inj r',zA.inj t t']
section
variable {X:Cx}{pins:List (Addr×Obj)}{σ:St}{H:Hp}{s:Shared}{a:Addr}{xs ys:List V}
theorem SqL.of {K:PySem.W.Frag} (h:H a=some (.lst xs)):SqL K H a xs := .inl (.inl h)
theorem SqT.of {K:PySem.W.Frag} (h:H a=some (.tup xs)):SqT K H a xs := .inl (.inl h)
theorem Inv.list (I:Inv X pins σ H s) (h:SqL X.K H a xs):∃ its:List Value,zA xs its∧PlainL s.heap a its.toArray∧xs.length<=sizeLine:=by
 rcases h with h | ⟨o,its,n,hk,hc,hd,hs,hz,r⟩
 . obtain ⟨z,its,n,r,e⟩:=h.ok I.hok
   exact ⟨its,r,⟨_,n,e,rfl,rfl,rfl⟩,z⟩
 . refine ⟨its.toList,r,⟨o,n,I.kIn a o hk,hc,hd,by simpa using hs⟩,?_⟩
   have e:=r.length
   simp only [Array.length_toList]at e
   omega
theorem Inv.tuple (I:Inv X pins σ H s) (h:SqT X.K H a xs):∃ its:List Value,zA xs its∧IsTup s.heap a its.toArray∧xs.length<=sizeLine:=by
 rcases h with h | ⟨o,its,n,hk,hc,hs,hz,r⟩
 . obtain ⟨z,its,r,p⟩:=h.ok I.hok
   exact ⟨its,r,p,z⟩
 . refine ⟨its.toList,r,⟨o,I.kIn a o hk,hc,n,by simpa using hs⟩,?_⟩
   have e:=r.length
   simp only [Array.length_toList]at e
   omega
theorem Inv.list_inj (I:Inv X pins σ H s) (h:SqL X.K H a xs) (h':SqL X.K H a ys):xs=ys:=by
 obtain ⟨its,r,⟨o,n,e,_,_,d⟩,_⟩:=I.list h
 obtain ⟨its',r',⟨o',n',e',_,_,d'⟩,_⟩:=I.list h'
 rw [e]at e';cases e'
 rw [d]at d'
 injection d' with d1 _
 have:its=its':=by simpa using congrArg Array.toList d1
 subst this
 exact r.inj r'
theorem Inv.tuple_inj (I:Inv X pins σ H s) (h:SqT X.K H a xs) (h':SqT X.K H a ys):xs=ys:=by
 obtain ⟨its,r,⟨o,e,_,n,d⟩,_⟩:=I.tuple h
 obtain ⟨its',r',⟨o',e',_,n',d'⟩,_⟩:=I.tuple h'
 rw [e]at e';cases e'
 rw [d]at d'
 injection d' with d1 _
 have:its=its':=by simpa using congrArg Array.toList d1
 subst this
 exact r.inj r'
end
abbrev Cx.wish (X:Cx) (E:Value->Shared->Prop):Cx:={ X with xe:=E }
abbrev Cx.nox (X:Cx):Cx:=X.wish fun _ _=>False
theorem Cx.Ok.wish {X:Cx} (ok:X.Ok) (E:Value->Shared->Prop):(X.wish E).Ok :=
 ⟨ok.mod,ok.kind,ok.glob,ok.blt,ok.above,ok.inj,ok.has,ok.cab,ok.hd,ok.frames,ok.stk,ok.exf,ok.bs,ok.bsz,ok.noex,ok.exfs,ok.funs,ok.frf⟩
theorem Cx.Ok.unwish {X:Cx}{E:Value->Shared->Prop} (ok:(X.wish E).Ok):X.Ok :=
 ⟨ok.mod,ok.kind,ok.glob,ok.blt,ok.above,ok.inj,ok.has,ok.cab,ok.hd,ok.frames,ok.stk,ok.exf,ok.bs,ok.bsz,ok.noex,ok.exfs,ok.funs,ok.frf⟩
section
variable {X:Cx}{pins:List (Addr×Obj)}{σ:St}{H:Hp}{s:Shared}{E:Value->Shared->Prop}
theorem Inv.wish (I:Inv X pins σ H s) (E:Value->Shared->Prop):Inv (X.wish E) pins σ H s:=⟨I.ok.wish E,I.os,I.bare,I.base,I.loc,I.cell,I.free,I.freeC,I.pin,I.hok,I.len⟩
theorem Inv.unwish (I:Inv (X.wish E) pins σ H s):Inv X pins σ H s:=⟨I.ok.unwish,I.os,I.bare,I.base,I.loc,I.cell,I.free,I.freeC,I.pin,I.hok,I.len⟩
theorem SP.unwish {D:zfQ}{f:Flow}{s':Shared} (h:SP (X.wish E) pins D f s'):SP X pins D f s':=by
 cases f with
 | next=>obtain ⟨σ',H',I,q⟩:=h;exact ⟨σ',H',I.unwish,q⟩
 | brk=>obtain ⟨σ',H',I,q⟩:=h;exact ⟨σ',H',I.unwish,q⟩
 | cont=>obtain ⟨σ',H',I,q⟩:=h;exact ⟨σ',H',I.unwish,q⟩
 | ret u=>obtain ⟨v,σ',H',I,r,q⟩:=h;exact ⟨v,σ',H',I.unwish,r,q⟩
theorem PSs.nox {st:List Stmt}{t:TS} (h:PSs X.nox st t):PSs X st t:=fun pins s σ H D I hw =>
 wpAny_mono (h pins s σ H D (I.wish _) hw) (fun _ _ q=>q.unwish) fun _ _ z=>False.elim z
end
section
variable {X:Cx}{st:Stmt}{rest:List Stmt}{t u:TS}{e:Expr}{te:TE}{pos:Pos}
noncomputable def zFm:TS:=fun D σ H=>D.nx σ H
noncomputable def zDn (t u:TS):TS:=fun D σ H=>t { D with nx:=u D } σ H
theorem zB9:PSs X [] zFm:=fun _ _ σ H _ I h=>wpAny_execs_nil ⟨σ,H,I,h⟩
theorem zBS (h1:PS X st t) (h2:PSs X rest u):PSs X (st :: rest) (zDn t u):=by
 intro pins s σ H D I h
 refine wpAny_execs_cons (thn (h1 pins s σ H { D with nx:=u D } I h) fun f s1 q=>?_)
 cases f with
 | next =>
   obtain ⟨σ',H',I',q⟩:=q
   exact h2 pins s1 σ' H' D I' q
 | ret v=>exact q
 | brk=>exact q
 | cont=>exact q
theorem zCZ (h1:PS X st t):PSs X [st] t:=by
 intro pins s σ H D I h
 refine wpAny_execs_cons (thn (h1 pins s σ H D I h) fun f s1 q=>?_)
 cases f with
 | next=>exact wpAny_execs_nil q
 | ret v=>exact q
 | brk=>exact q
 | cont=>exact q
theorem Inv.quiet {pins:List (Addr×Obj)}{σ:St}{H:Hp}{s:Shared} (I:Inv X pins σ H s):interactive X.env=false:=by simp [interactive,I.ok.kind]
noncomputable def zD6 (te:TE):TS:=fun D σ H=>te σ H fun _ H1=>D.nx σ H1
theorem zDH (he:PE X e te) (hs:swapsWith e none pos.line X.env=pure false:=by rfl):PS X (.Expr e pos) (zD6 te):=by
 intro pins s σ H D I h
 exact wpAny_Expr_any (thn (he pins s σ H _ I h) fun v s1 ⟨x,H1,I1,r1,q1⟩=>⟨σ,H1,I1,q1⟩) I.quiet hs
noncomputable def zzV (te:TE):TS:=fun D σ H=>te σ H D.rt
theorem zFs (he:PE X e te):PS X (.Return (some e) pos) (zzV te):=by
 intro pins s σ H D I h
 exact wpAny_Return_some (thn (he pins s σ H _ I h) fun v s1 ⟨x,H1,I1,r1,q1⟩=>⟨x,σ,H1,I1,r1,q1⟩)
noncomputable def zB3 (c:TT) (t u:TS):TS:=fun D σ H=>c σ H fun b H1=>if b=true then t D σ H1 else u D σ H1
theorem zCT {c:Expr}{a b:List Stmt}{tc:TT} (hc:PT X c tc) (ha:PSs X a t) (hb:PSs X b u):PS X (.If c a b pos) (zB3 tc t u):=by
 intro pins s σ H D I h
 refine wpAny_If (thn (hc pins s σ H _ I h) fun d s1 ⟨H1,I1,q1⟩=>?_)
 cases d with
 | true=>exact ha pins s1 σ H1 D I1 q1
 | false=>exact hb pins s1 σ H1 D I1 q1
noncomputable def zCq:TS:=fun _ _ _=>False
theorem zE2:PS X st zCq:=fun _ _ _ _ _ _ h=>h.elim
end
abbrev TG:=V->St->Hp->(St->Hp->Prop)->Prop
abbrev TGs:=List V->St->Hp->(St->Hp->Prop)->Prop
noncomputable def PG (X:Cx) (target:Expr) (t:TG):Prop :=
 ∀ (pins:List (Addr×Obj)) (s:Shared) (σ:St) (H:Hp) (v:V) (u:Value) (Q:St->Hp->Prop),Inv X pins σ H s->zt v u->t v σ H Q ->
   wpAny (model X.prog X.w) X.A (assign target X.env u) (fun _ s'=>∃ σ' H',Inv X pins σ' H' s'∧Q σ' H') X.xe s
noncomputable def PGs (X:Cx) (ts:List Expr) (t:TGs):Prop :=
 ∀ (pins:List (Addr×Obj)) (s:Shared) (σ:St) (H:Hp) (vs:List V) (us:List Value) (Q:St->Hp->Prop),Inv X pins σ H s->zA vs us->t vs σ H Q ->
   wpAny (model X.prog X.w) X.A (assignInOrder ((assignEach ts X.env).map (·.2)) us) (fun _ s'=>∃ σ' H',Inv X pins σ' H' s'∧Q σ' H') X.xe s
abbrev zhJ:=V->V->V->Hp->(Hp->Prop)->Prop
noncomputable def zhi (X:Cx) (t:zhJ):Prop :=
 ∀ (pins:List (Addr×Obj)) (s:Shared) (σ:St) (H:Hp) (o i v:V) (ov iv u:Value) (Q:Hp->Prop),Inv X pins σ H s->zt o ov->zt i iv->zt v u->t o i v H Q ->
   wpAny (model X.prog X.w) X.A (setItem ov iv u) (fun _ s'=>∃ H',Inv X pins σ H' s'∧Q H') X.xe s
abbrev TIp:=V->V->Hp->VK->Prop
noncomputable def PIp (X:Cx) (op:Operator) (t:TIp):Prop :=
 ∀ (pins:List (Addr×Obj)) (s:Shared) (σ:St) (H:Hp) (x y:V) (v u:Value) (Q:VK),Inv X pins σ H s->zt x v->zt y u->t x y H Q ->
   wpAny (model X.prog X.w) X.A (inplaceOp op v u) (EP X pins σ Q) X.xe s
section
variable {X:Cx}{pos:Pos}
noncomputable def ziZ (i:Nat):TG:=fun v σ H Q=>Q (σ.set i (some v)) H
theorem zsW {i:Nat}{x:Str} (hN:X.N.Nodup) (hi:X.N[i]?=some x) (hx:Loc X.env.scope x) (hf:X.fn x=true∨X.env.scope.names.lookup x=some .local:=by first | exact .inl rfl | exact .inr rfl | assumption):PG X (.Name x pos) (ziZ i):=by
 intro pins s σ H v u Q I r h
 exact wpAny_assign_Name (zhE I hN hi hx r (fun s' I'=>⟨_,H,I',h⟩) hf)
noncomputable def zAs:TGs:=fun vs σ H Q=>vs=[]∧Q σ H
noncomputable def zC5 (t:TG) (u:TGs):TGs:=fun vs σ H Q=>∃ v r,vs=v :: r∧t v σ H fun σ' H'=>u r σ' H' Q
theorem zEC:PGs X [] zAs:=by
 intro pins s σ H vs us Q I r h
 obtain ⟨e,h⟩:=h
 subst e
 cases r
 exact assignInOrder_nil ⟨σ,H,I,h⟩
theorem zEQ {e:Expr}{es:List Expr}{t:TG}{u:TGs} (h1:PG X e t) (h2:PGs X es u)
   (hs:(assignEach (e :: es) X.env).map (·.2)=assign e X.env :: (assignEach es X.env).map (·.2):=by rfl):PGs X (e :: es) (zC5 t u):=by
 intro pins s σ H vs us Q I r h
 obtain ⟨v,vr,e1,h⟩:=h
 subst e1
 cases r with
 | cons r rr =>
   rw [hs]
   refine assignInOrder_cons (thn (h1 pins s σ H _ _ _ I r h) fun _ s1 ⟨σ1,H1,I1,q1⟩=>?_)
   exact h2 pins s1 σ1 H1 _ _ Q I1 rr q1
noncomputable def zEs (K:PySem.W.Frag) (n:Nat) (t:TGs):TG:=fun v σ H Q=>∃ a xs,v = .ref a∧SqT K H a xs∧xs.length=n∧t xs σ H Q
theorem zCx {es:List Expr}{k:Nat}{t:TGs}{n:Nat} (hc:X.calm=true) (h:PGs X es t)
   (hn:(assignEach es X.env).length=n:=by rfl) (hst:(assignEach es X.env).findIdx? (·.1)=none:=by rfl):PG X (.Tuple es k pos) (zEs X.K n t):=by
 intro pins s σ H v u Q I r hw
 obtain ⟨a,xs,e1,hq,hl,hw⟩:=hw
 subst e1
 cases r
 obtain ⟨its,rv,ht,hz⟩:=I.tuple hq
 refine assign_Tuple_tuple (I.ok.hd hc) ht (by simp [hn,<- hl,rv.length]) hst fun h' hx=>?_
 have I1:Inv X pins σ H { s with heap:=h' }:=I.kept (t':=s.toks) fun b o e=>hx b o (Nat.ne_of_lt (Heap.lt_size e)) e
 exact h pins _ σ H xs _ Q I1 (by simpa using rv) hw
noncomputable def zAU (to ti:TE) (t:zhJ):TG:=fun v σ H Q=>to σ H fun o H1=>ti σ H1 fun i H2=>t o i v H2 fun H3=>Q σ H3
theorem zBa {o i:Expr}{to ti:TE}{t:zhJ} (ho:PE X o to) (hi:PE X i ti) (hs:zhi X t)
   (ha:∀ v,assign (.Subscript o i pos) X.env v=(do
     let ov <- holding [v] (eval o X.env)
     let iv <- holding [v,ov] (eval i X.env)
     standAt pos
     holding [v,ov,iv] (setItem ov iv v)
     release [v,ov,iv] []):=by intro _;rfl):PG X (.Subscript o i pos) (zAU to ti t):=by
 intro pins s σ H v u Q I r h
 rw [ha]
 refine wpAny_bind (wpAny_holding (thn (ho pins s σ H _ I h) fun ov s1 ⟨x,H1,I1,r1,q1⟩=>?_))
 refine wpAny_bind (wpAny_holding (thn (hi pins s1 σ H1 _ I1 q1) fun iv s2 ⟨y,H2,I2,r2,q2⟩=>?_))
 refine wpAny_bind (wpAny_standAt (wpAny_bind (wpAny_holding (thn (hs pins s2 σ H2 x y v ov iv u _ I2 r1 r2 r q2) fun _ s3 ⟨H3,I3,q3⟩=>?_))))
 exact wpAny_release ⟨σ,H3,I3,q3⟩
noncomputable def zpN (te:TE) (g:TG):TS:=fun D σ H=>te σ H fun x H1=>g x σ H1 D.nx
theorem ztF {tg e:Expr}{te:TE}{g:TG} (he:PE X e te) (hg:PG X tg g) (hs:swapsWithSole [tg] e pos.line X.env=pure false:=by rfl) (hw:swappedStores [tg] e X.env=pure none:=by rfl)
   (h1:(assignEach [tg] X.env).map (·.2)=[assign tg X.env]:=by rfl):PS X (.Assign [tg] e pos) (zpN te g):=by
 intro pins s σ H D I h
 refine wpAny_Assign_stores (thn (he pins s σ H _ I h) fun v s1 ⟨x,H1,I1,r1,q1⟩=>?_) hs hw
 rw [h1]
 exact thn (hg pins s1 σ H1 x v _ I1 r1 q1) fun _ s2 q=>q
theorem zC4 {i:Nat}{x:Str}{e:Expr}{te:TE}{pos':Pos} (hN:X.N.Nodup) (hi:X.N[i]?=some x) (hx:Loc X.env.scope x) (he:PE X e te) (hs:swapsWith e (some (.Name x pos')) pos.line X.env=pure false:=by rfl) (hf:X.fn x=true∨X.env.scope.names.lookup x=some .local:=by first | exact .inl rfl | exact .inr rfl | assumption) :
   PS X (.Assign [.Name x pos'] e pos) (zpN te (ziZ i)):=by
 intro pins s σ H D I h
 refine wpAny_Assign_Name (thn (he pins s σ H _ I h) fun v s1 ⟨y,H1,I1,r1,q1⟩=>?_) hs
 exact zhE I1 hN hi hx r1 (fun s2 I2=>⟨_,H1,I2,q1⟩) hf
noncomputable def zCb (i j:Nat) (ta:TA):TS:=fun D σ H=>ta σ H fun vs H1=>∃ v w,vs=[v,w]∧D.nx ((σ.set i (some v)).set j (some w)) H1
theorem zBZ {i j:Nat}{x y:Str}{a b:Expr}{ta:TA}{px py pt:Pos}{kt k2 pt2} (hc:X.calm=true) (hN:X.N.Nodup) (hi:X.N[i]?=some x) (hj:X.N[j]?=some y) (hij:i≠j)
   (hx:X.env.scope.names.lookup x=some .local) (hy:X.env.scope.names.lookup y=some .local) (ha:PA X [a,b] ta)
   (hw:swappedStores [.Tuple [.Name x px,.Name y py] kt pt] (.Tuple [a,b] k2 pt2) X.env=pure (some [x,y]))
   (hs:swapsWithSole [.Tuple [.Name x px,.Name y py] kt pt] (.Tuple [a,b] k2 pt2) pos.line X.env=pure false:=by rfl) :
   PS X (.Assign [.Tuple [.Name x px,.Name y py] kt pt] (.Tuple [a,b] k2 pt2) pos) (zCb i j ta):=by
 intro pins s σ H D I h
 rw [exec_Assign_arm]
 refine wpAny_bind (wpAny_standAt ?_)
 rw [hs]
 refine wpAny_bind (wpAny_pure ?_)
 rw [if_neg (by decide)]
 refine wpAny_bind (Tuple_ (thn (ha _ pins s σ H _ I h) fun us s1 ⟨vs,H1,I1,r1,q1⟩=>?_))
 obtain ⟨v,w,e1,q1⟩:=q1
 subst e1
 obtain ⟨u1,u2,rfl,rv,rw'⟩:∃ u1 u2,us=[u1,u2]∧zt v u1∧zt w u2:=by
   cases r1 with
   | cons p q =>
     cases q with
     | cons p' q' =>
       cases q'
       exact ⟨_,_,rfl,p,p'⟩
 refine wpAny_newObj_type ?_ (by show 2<=sizeLine;decide)
 have I2:Inv X pins σ H1 { s1 with heap:=s1.heap.push { cls := .type "tuple",data := .seq [u1,u2].toArray } }:=I1.kept (t':=s1.toks) fun b o e=>Heap.get?_push_of_some _ e
 rw [hw]
 refine wpAny_bind (wpAny_pure ?_)
 show wpAny (model X.prog X.w) X.A (do rule "assign.swapped-stores";let items <- unpackItems (.ref s1.heap.objs.size) 2 none;assignInOrder [fun v=>bindName X.env y v,fun v=>bindName X.env x v] items.reverse;pure Flow.next) _ _ _
 refine wpAny_bind (wpAny_rule (wpAny_bind (unpackItems_tuple (items:=#[u1,u2]) (I.ok.hd hc) (IsTup.new s1.heap _) fun h' hx'=>?_)))
 have I3:=I2.kept (h':=h') (t':=s1.toks) fun b o e=>hx' b o (Nat.ne_of_lt (Heap.lt_size e)) e
 show wpAny _ _ (assignInOrder [fun v=>bindName X.env y v,fun v=>bindName X.env x v] [u2,u1] >>= fun _=>pure Flow.next) _ _ _
 refine wpAny_bind (assignInOrder_cons (wpAny_bindName (zhE I3 hN hj (.inl hy) rw' (fun s2 I4=>?_) (.inr hy))))
 refine assignInOrder_cons (wpAny_bindName (zhE I4 hN hi (.inl hx) rv (fun s3 I5=>assignInOrder_nil (wpAny_pure ?_)) (.inr hx)))
 rw [List.set_comm _ _ (Ne.symm hij)]at I5
 exact ⟨_,H1,I5,q1⟩
noncomputable def zEt (i:Nat) (te:TE) (ti:TIp):TS:=fun D σ H=>∃ x,σ[i]?=some (some x)∧te σ H fun y H1=>ti x y H1 fun z H2=>D.nx (σ.set i (some z)) H2
theorem zA0 {i:Nat}{x:Str}{e:Expr}{te:TE}{op:Operator}{ti:TIp}{pos':Pos} (hN:X.N.Nodup) (hi:X.N[i]?=some x) (hx:Loc X.env.scope x) (he:PE X e te) (ho:PIp X op ti) (hf:X.fn x=true∨X.env.scope.names.lookup x=some .local:=by first | exact .inl rfl | exact .inr rfl | assumption) :
   PS X (.AugAssign (.Name x pos') op e pos) (zEt i te ti):=by
 intro pins s σ H D I h
 obtain ⟨v,e1,h⟩:=h
 obtain ⟨m,hn,hl⟩:=I.loc
 have vis:Vis X.env.scope x:=by rcases hx with k | k;exact .inl k;exact .inr (.inl k)
 obtain ⟨u,r,l⟩:=hl i x v hi e1 vis
 refine wpAny_AugAssign_Name ?_
 have go:wpAny (model X.prog X.w) X.A (eval e X.env) (fun w s₂=>wpAny (model X.prog X.w) X.A (inplaceOp op u w) (fun r s₃=>wpAny (model X.prog X.w) X.A (storeName X.env x r) (fun _=>SP X pins D .next) X.xe s₃) X.xe s₂) X.xe s:=by
   refine thn (he pins s σ H _ I h) fun w s1 ⟨y,H1,I1,r1,q1⟩=>?_
   refine thn (ho pins s1 σ H1 v y u w _ I1 r r1 q1) fun z s2 ⟨zv,H2,I2,r2,q2⟩=>?_
   exact zhE I2 hN hi hx r2 (fun s3 I3=>⟨_,H2,I3,q2⟩) hf
 rcases l with ⟨hk,hm⟩ | ⟨hk,c,hc,hcell⟩
 . exact wpAny_loadName_local I.ok.kind hk hn hm go
 . rcases hk with hk | hk
   . exact wpAny_loadName_cell I.ok.kind hk hc hcell go
   . rcases hx with k | k
     . have:X.env.scope.names.lookup x=some .free:=hk
       rw [k]at this;cases this
     . have:X.env.scope.names.lookup x=some .free:=hk
       rw [k]at this;cases this
end
section
variable {X:Cx}{pos:Pos}
noncomputable def zBC (c:TT) (tb:TS):TS:=fun D σ H=>∃ W:Nat->St->Hp->Prop,(∃ m,W m σ H)∧∀ m σ H,W m σ H ->
 c σ H fun b H1=>if b=true then ∃ N:St->Hp->Prop,(∀ σ' H',N σ' H'->∃ m',m' < m∧W m' σ' H')∧tb { D with nx:=N,ct:=N,bk:=D.nx } σ H1 else D.nx σ H1
theorem zEK {c:Expr}{body:List Stmt}{tc:TT}{tb:TS} (hp:PassesOwn (model X.prog X.w) X.A X.env X.xe) (hc:PT X c tc) (hb:PSs X body tb):PS X (.While c body [] pos) (zBC tc tb):=by
 intro pins s σ H D I h
 obtain ⟨W,⟨m0,w0⟩,turn⟩:=h
 refine wpAny_While (codeAny_whileLoop (fun n s'=>∃ σ' H',Inv X pins σ' H' s'∧W n σ' H') ?_ m0 ⟨σ,H,I,w0⟩)
 rintro n s1 ⟨σ1,H1,I1,w1⟩
 refine wpAny_passesOwn hp (thn (hc pins s1 σ1 H1 _ I1 (turn n σ1 H1 w1)) fun b s2 ⟨H2,I2,q2⟩=>?_)
 cases b with
 | true =>
   obtain ⟨N,hN,q2⟩:=q2
   rw [if_pos rfl]
   refine wpAny_passesOwn hp (thn (hb pins s2 σ1 H2 _ I2 q2) fun f s3 q3=>?_)
   cases f with
   | next =>
     obtain ⟨σ3,H3,I3,n3⟩:=q3
     obtain ⟨m',hm,w3⟩:=hN σ3 H3 n3
     exact ⟨m',hm,σ3,H3,I3,w3⟩
   | cont =>
     obtain ⟨σ3,H3,I3,n3⟩:=q3
     obtain ⟨m',hm,w3⟩:=hN σ3 H3 n3
     exact ⟨m',hm,σ3,H3,I3,w3⟩
   | brk=>exact q3
   | ret v=>exact q3
 | false =>
   rw [if_neg Bool.false_ne_true]
   exact wpAny_execs_nil ⟨σ1,H2,I2,q2⟩
end
structure It where
 go:Nat->Hp->Prop
 yld:Nat->Hp->V->Hp->Prop
 stop:Nat->Hp->Prop
noncomputable def zdo (X:Cx) (pins:List (Addr×Obj)) (H:Hp) (b:Addr):Prop :=
 H b=none∧b≠X.env.locals∧b∉X.fs∧(b∈X.ex∨X.s₀.heap.objs.size<=b)∧(∀ x c,X.env.cells.lookup x=some c->c≠b)∧∀ p∈X.pn++pins,p.1≠b
theorem Inv.fpOk {X:Cx}{pins:List (Addr×Obj)}{σ:St}{H H':Hp}{s:Shared}{b:Addr} (I:Inv X pins σ H s) (hb:s.heap.objs.size<=b) (hn:H' b=none):zdo X pins H' b:=by
 refine ⟨hn,Nat.ne_of_gt (Nat.lt_of_lt_of_le I.lt hb),I.nofs hb,.inr (Nat.le_trans I.sz hb),fun x c e z=>?_,fun p hp z=>?_⟩
 . obtain ⟨v,q⟩:=I.cell x c e
   exact absurd (Nat.lt_of_lt_of_le q.lt (by rw [z];exact hb)) (Nat.lt_irrefl _)
 . exact absurd (Nat.lt_of_lt_of_le (Heap.lt_size (I.pin p hp).1) (by rw [z];exact hb)) (Nat.lt_irrefl _)
structure zhk (P:Program) (w:World) (K:PySem.W.Frag) (tg:Expr) (J:It) (fp:List Addr) (it:Addr) (tn:Nat->Heap->Prop):Prop where
 mem:it∈fp
 obj:∀ i h,tn i h->∀ b∈fp,∃ o,h.get? b=some o∧∀ v,o.data ≠ .cell v
 keep:∀ i h h',tn i h->(∀ b∈fp,∀ o,h.get? b=some o->h'.get? b=some o)->tn i h'
 item:∀ (X:Cx),X.prog=P->X.w=w->X.K=K->X.calm=true->∀ (i:Nat) (pins:List (Addr×Obj)) (s:Shared) (σ:St) (H:Hp) (E:Value->Shared->Prop),Inv X pins σ H s->(∀ b∈fp,zdo X pins H b)->tn i s.heap->J.go i H ->
   wpAny (model P w) X.A (pyNext (.ref it)) (fun r s1=>∃ u,r=some u ∧
     wpAny (model P w) X.A (letOwnedTupleGo tg (.ref it) u) (fun _ s2=>∃ x H',Inv X pins σ H' s2∧zt x u∧J.yld i H x H'∧tn (i+1) s2.heap∧∀ b∈fp,H' b=none) E s1) E s
 done:∀ (X:Cx),X.prog=P->X.w=w->X.K=K->X.calm=true->∀ (i:Nat) (pins:List (Addr×Obj)) (s:Shared) (σ:St) (H:Hp) (E:Value->Shared->Prop),Inv X pins σ H s->(∀ b∈fp,zdo X pins H b)->tn i s.heap->J.stop i H ->
   wpAny (model P w) X.A (pyNext (.ref it)) (fun r s1=>r=none∧Inv X pins σ H s1) E s
 self:∀ (A:Around) (i:Nat) (s:Shared) (Q:Value->Shared->Prop) (E:Value->Shared->Prop),tn i s.heap->Q (.ref it) s->wpAny (model P w) A (pyIter (.ref it)) Q E s
abbrev TI:=St->Hp->(It->Hp->Prop)->Prop
noncomputable def PIE (X:Cx) (pins:List (Addr×Obj)) (σ:St) (tg:Expr) (R:It->Hp->Prop) (itv:Value) (s2:Shared):Prop :=
 ∃ (it:Addr) (fp:List Addr) (tn:Nat->Heap->Prop) (J:It) (H':Hp),itv = .ref it∧Inv X pins σ H' s2∧zhk X.prog X.w X.K tg J fp it tn∧tn 0 s2.heap∧(∀ b∈fp,zdo X pins H' b)∧R J H'
noncomputable def PI (X:Cx) (tg iter:Expr) (wi:TI):Prop :=
 ∀ (pins:List (Addr×Obj)) (s:Shared) (σ:St) (H:Hp) (R:It->Hp->Prop),Inv X pins σ H s->wi σ H R ->
   wpAny (model X.prog X.w) X.A (eval iter X.env) (fun v s1=>wpAny (model X.prog X.w) X.A (pyIter v) (PIE X pins σ tg R) X.xe s1) X.xe s
theorem zpR {M:Model}{A:Around}{E:Value->Shared->Prop}{s:Shared}{tg:Expr}{it:Addr}{u:Value}{o:Obj}{n:String}{vs:Array Value}{Q:Unit->Shared->Prop} (ho:s.heap.get? it=some o) (hc:o.cls = .type n) (hd:o.data = .fields vs)
   (hn:["enumerate", "zip", "dict_itemiterator", "dict_reverseitemiterator", "odict_iterator", "itertools.zip_longest", "itertools.pairwise"].contains n=false) (hQ:Q () s):wpAny M A (letOwnedTupleGo tg (.ref it) u) Q E s:=by
 unfold letOwnedTupleGo
 cases tg <;> first
   | exact wpAny_pure hQ
   | (cases u <;> first
       | exact wpAny_pure hQ
       | (refine wpAny_bind (wpAny_load ho ?_)
          rw [hc,hd]
          show wpAny M A (if (["enumerate", "zip", "dict_itemiterator", "dict_reverseitemiterator", "odict_iterator", "itertools.zip_longest", "itertools.pairwise"].contains n && vs[0]? == some (rawInt _))=true then _ else _) Q E s
          rw [if_neg (by intro h;rw [hn,Bool.false_and]at h;cases h)]
          exact wpAny_pure hQ))
noncomputable def Itl (K:PySem.W.Frag) (a:Addr):It :=
 ⟨fun i H=>∃ xs x,SqL K H a xs∧xs[i]?=some x,fun i H x H'=>H'=H∧∀ xs,SqL K H a xs->xs[i]?=some x,fun i H=>∃ xs,SqL K H a xs∧xs.length<=i⟩
noncomputable def Itt (K:PySem.W.Frag) (a:Addr):It :=
 ⟨fun i H=>∃ xs x,SqT K H a xs∧xs[i]?=some x,fun i H x H'=>H'=H∧∀ xs,SqT K H a xs->xs[i]?=some x,fun i H=>∃ xs,SqT K H a xs∧xs.length<=i⟩
noncomputable def Itr (lo:Int) (n:Nat):It:=⟨fun i _=>i < n,fun i H x H'=>H'=H∧x = .int (lo+i),fun i _=>n<=i⟩
theorem zFu {P:Program}{w:World}{K:PySem.W.Frag}{tg:Expr} (a it:Addr):zhk P w K tg (Itl K a) [it] it (fun i h=>h.IsListIter it a i) where
 mem:=by simp
 obj:=fun i h st b hb=>by
   have e:b=it:=by simpa using hb
   subst e
   obtain ⟨o,e,c,d⟩:=st
   exact ⟨o,e,fun v z=>by rw [d]at z;cases z⟩
 keep:=fun i h h' st k=>st.at fun o e=>k it (by simp) o e
 item:=by
   intro X hP hw hK hc i pins s σ H E I hf st hg
   subst hP hw hK
   obtain ⟨xs,x,hq,hx⟩:=hg
   obtain ⟨its,rv,p,hz⟩:=I.list hq
   obtain ⟨u,hu,ru⟩:=rv.get hx
   obtain ⟨f0,f1,f2,f3,f4,f5⟩:=hf it (by simp)
   refine wpAny_pyNext_list_item st p.isList (x:=u) (by simpa using hu) fun h' st' sb=>?_
   have I1:Inv X pins σ H { s with heap:=h' }:=I.turned (t':=s.toks) (fun b o hb e=>(sb.2 b hb).trans e) f0 f1 f3 f4 f5
   obtain ⟨o,e,c,d⟩:=id st'
   exact ⟨u,rfl,zpR (s:={ s with heap:=h' }) e c d (by decide) ⟨x,H,I1,ru,⟨rfl,fun ys hy=>by rw [I.list_inj hy hq];exact hx⟩,st',fun b hb=>(hf b hb).1⟩⟩
 done:=by
   intro X hP hw hK hc i pins s σ H E I hf st hg
   subst hP hw hK
   obtain ⟨xs,hq,hx⟩:=hg
   obtain ⟨its,rv,p,hz⟩:=I.list hq
   obtain ⟨f0,f1,f2,f3,f4,f5⟩:=hf it (by simp)
   have hl:=rv.length
   exact wpAny_pyNext_list_end (I.ok.hd hc) st p.isList (by simp;omega) fun h' eb=>⟨rfl,I.turned (t':=s.toks) (fun b o hb e=>eb b o hb e) f0 f1 f3 f4 f5⟩
 self:=fun _ _ _ _ _ st h=>wpAny_pyIter_listiter st h
theorem zDV {P:Program}{w:World}{K:PySem.W.Frag}{tg:Expr} (a it:Addr):zhk P w K tg (Itt K a) [it] it (fun i h=>h.IsTupleIter it a i) where
 mem:=by simp
 obj:=fun i h st b hb=>by
   have e:b=it:=by simpa using hb
   subst e
   obtain ⟨o,e,c,d⟩:=st
   exact ⟨o,e,fun v z=>by rw [d]at z;cases z⟩
 keep:=fun i h h' st k=>st.at fun o e=>k it (by simp) o e
 item:=by
   intro X hP hw hK hc i pins s σ H E I hf st hg
   subst hP hw hK
   obtain ⟨xs,x,hq,hx⟩:=hg
   obtain ⟨its,rv,p,hz⟩:=I.tuple hq
   obtain ⟨u,hu,ru⟩:=rv.get hx
   obtain ⟨f0,f1,f2,f3,f4,f5⟩:=hf it (by simp)
   refine wpAny_pyNext_tuple_item st (show s.heap.IsTuple a its.toArray from p) (x:=u) (by simpa using hu) fun h' st' sb=>?_
   have I1:Inv X pins σ H { s with heap:=h' }:=I.turned (t':=s.toks) (fun b o hb e=>(sb.2 b hb).trans e) f0 f1 f3 f4 f5
   obtain ⟨o,e,c,d⟩:=id st'
   exact ⟨u,rfl,zpR (s:={ s with heap:=h' }) e c d (by decide) ⟨x,H,I1,ru,⟨rfl,fun ys hy=>by rw [I.tuple_inj hy hq];exact hx⟩,st',fun b hb=>(hf b hb).1⟩⟩
 done:=by
   intro X hP hw hK hc i pins s σ H E I hf st hg
   subst hP hw hK
   obtain ⟨xs,hq,hx⟩:=hg
   obtain ⟨its,rv,p,hz⟩:=I.tuple hq
   obtain ⟨f0,f1,f2,f3,f4,f5⟩:=hf it (by simp)
   have hl:=rv.length
   exact wpAny_pyNext_tuple_end (I.ok.hd hc) st (show s.heap.IsTuple a its.toArray from p) (by simp;omega) fun h' eb=>⟨rfl,I.turned (t':=s.toks) (fun b o hb e=>eb b o hb e) f0 f1 f3 f4 f5⟩
 self:=fun _ _ _ _ _ st h=>wpAny_pyIter_tupleiter st h
theorem zFq {P:Program}{w:World}{K:PySem.W.Frag}{tg:Expr} (it:Addr) (lo:Int) (n:Nat):zhk P w K tg (Itr lo n) [it] it (fun i h=>IsRangeIter h it (lo+(i:Nat) * 1) ((n:Int) - (i:Nat)) 1) where
 mem:=by simp
 obj:=fun i h st b hb=>by
   have e:b=it:=by simpa using hb
   subst e
   exact ⟨_,st,fun v z=>by
     have z':Data.fields _=Data.cell v:=z
     cases z'⟩
 keep:=fun i h h' st k=>k it (by simp) _ st
 item:=by
   intro X hP hw hK hc i pins s σ H E I hf st hg
   subst hP hw hK
   obtain ⟨f0,f1,f2,f3,f4,f5⟩:=hf it (by simp)
   have W:=Walks.range (prog:=X.prog) (w:=X.w) (I.ok.hd hc) it lo 1 n
   refine W.item i s _ _ hg st fun v h' tk hv st' kk=>?_
   obtain ⟨t,rfl⟩:=hv
   have I1:Inv X pins σ H { s with heap:=h',toks:=tk }:=I.turned (fun b o hb e=>kk b o (by simpa using hb) e) f0 f1 f3 f4 f5
   refine ⟨_,rfl,zpR (s:={ s with heap:=h',toks:=tk }) (n :="range_iterator") st' rfl rfl (by decide) ⟨.int (lo+i),H,I1,⟨t,?_⟩,⟨rfl,rfl⟩,st',fun b hb=>(hf b hb).1⟩⟩
   rw [Int.mul_one]
 done:=by
   intro X hP hw hK hc i pins s σ H E I hf st hg
   subst hP hw hK
   obtain ⟨f0,f1,f2,f3,f4,f5⟩:=hf it (by simp)
   exact wpAny_pyNext_range_end (I.ok.hd hc) st (by have:n<=i:=hg;omega) fun h' eb=>⟨rfl,I.turned (t':=s.toks) (fun b o hb e=>eb b o hb e) f0 f1 f3 f4 f5⟩
 self:=fun _ _ _ _ _ st h=>wpAny_pyIter_rangeiter st h
end L2
namespace L2
open PySem PySem.Spec PyProof.Rows
section
variable {X:Cx}{tg:Expr}
noncomputable def zDg (K:PySem.W.Frag) (tl:TE):TI:=fun σ H R=>tl σ H fun x H1=>∃ a,x = .ref a∧(∃ xs,SqL K H1 a xs)∧R (Itl K a) H1
noncomputable def zB4 (K:PySem.W.Frag) (tl:TE):TI:=fun σ H R=>tl σ H fun x H1=>∃ a,x = .ref a∧(∃ xs,SqT K H1 a xs)∧R (Itt K a) H1
theorem zEi {l:Expr}{tl:TE} (hl:PE X l tl):PI X tg l (zDg X.K tl):=by
 intro pins s σ H R I h
 refine thn (hl pins s σ H _ I h) fun v s1 ⟨x,H1,I1,r1,q1⟩=>?_
 obtain ⟨a,e,⟨xs,hq⟩,q⟩:=q1
 subst e
 cases r1
 obtain ⟨its,rv,p,hz⟩:=I1.list hq
 refine wpAny_pyIter_list p.isList ?_
 refine ⟨s1.heap.objs.size,[s1.heap.objs.size],_,_,H1,rfl,I1.kept (t':=s1.toks) fun b o e=>Heap.get?_push_of_some _ e,zFu a _,⟨_,Heap.get?_push_size _ rfl,rfl,rfl⟩,fun b hb=>?_,q⟩
 have e:b=s1.heap.objs.size:=by simpa using hb
 subst e
 exact I1.fpOk (Nat.le_refl _) (I1.hok.fresh (Nat.le_refl _))
theorem zCh {l:Expr}{tl:TE} (hl:PE X l tl):PI X tg l (zB4 X.K tl):=by
 intro pins s σ H R I h
 refine thn (hl pins s σ H _ I h) fun v s1 ⟨x,H1,I1,r1,q1⟩=>?_
 obtain ⟨a,e,⟨xs,hq⟩,q⟩:=q1
 subst e
 cases r1
 obtain ⟨its,rv,p,hz⟩:=I1.tuple hq
 refine wpAny_pyIter_tuple (show s1.heap.IsTuple a its.toArray from p) ?_
 refine ⟨s1.heap.objs.size,[s1.heap.objs.size],_,_,H1,rfl,I1.kept (t':=s1.toks) fun b o e=>Heap.get?_push_of_some _ e,zDV a _,⟨_,Heap.get?_push_size _ rfl,rfl,rfl⟩,fun b hb=>?_,q⟩
 have e:b=s1.heap.objs.size:=by simpa using hb
 subst e
 exact I1.fpOk (Nat.le_refl _) (I1.hok.fresh (Nat.le_refl _))
theorem zCD {pins:List (Addr×Obj)}{σ:St}{H:Hp}{s:Shared}{R:It->Hp->Prop}{E:Value->Shared->Prop}{lo hi:Int}{t u v:Tok}{tk:Nat} (I:Inv X pins σ H s) (h1:-(2 ^ 62)<=lo) (h2:lo < 2 ^ 62) (h3:-(2 ^ 62)<=hi) (h4:hi < 2 ^ 62)
   (q:R (Itr lo (hi - lo).toNat) H):wpAny (model X.prog X.w) X.A (pyIter (.ref s.heap.objs.size)) (PIE X pins σ tg R) E { s with heap:=s.heap.push { cls := .type "range",data := .fields #[.int lo t,.int hi u,.int 1 v] },toks:=tk }:=by
 refine wpAny_pyIter_range (IsRange.new ..) (small_one h1 h2 h3 h4) ?_
 have I1:Inv X pins σ H { s with heap:=s.heap.push { cls := .type "range",data := .fields #[.int lo t,.int hi u,.int 1 v] },toks:=tk }:=I.kept fun b o e=>Heap.get?_push_of_some _ e
 refine ⟨(s.heap.push { cls := .type "range",data := .fields #[.int lo t,.int hi u,.int 1 v] }).objs.size,[(s.heap.push { cls := .type "range",data := .fields #[.int lo t,.int hi u,.int 1 v] }).objs.size],_,_,H,rfl,
   I1.kept (t':=tk) fun b o e=>Heap.get?_push_of_some _ e,zFq _ lo (hi - lo).toNat,?_,fun b hb=>?_,q⟩
 . have e1:lo+((0:Nat):Int) * 1=lo:=by simp
   have e2:(((hi - lo).toNat:Nat):Int) - ((0:Nat):Int)=Builtin.Range.rangeSize lo hi 1:=by rw [rangeSize_one];split <;> omega
   show IsRangeIter _ _ (lo+((0:Nat):Int) * 1) ((((hi - lo).toNat:Nat):Int) - ((0:Nat):Int)) 1
   rw [e1,e2]
   exact Heap.get?_push_size _ rfl
 . have e:b=(s.heap.push { cls := .type "range",data := .fields #[.int lo t,.int hi u,.int 1 v] }).objs.size:=by simpa using hb
   subst e
   exact I1.fpOk (Nat.le_refl _) (I1.hok.fresh (Nat.le_refl _))
noncomputable def zCG (ta:TA):TI:=fun σ H R=>ta σ H fun vs H1=>∃ j:Int,vs=[.int j]∧-(2 ^ 62)<=j∧j < 2 ^ 62∧R (Itr 0 j.toNat) H1
theorem zED {a:Expr}{ta:TA}{p pos:Pos} (hg:Gl X "range") (hm:X.mg "range" = none) (ha:PA X [a] ta) (hs:starEach [a] X.env=[(false,eval a X.env)]:=by rfl):PI X tg (.Call (.Name "range" p) [a] [] pos) (zCG ta):=by
 intro pins s σ H R I h
 refine Call_ (zgC I hg hm boot_range (PyProof.Rows.callWith_type1 (thn (ha pos pins s σ H _ I h) fun us s1 ⟨vs,H1,I1,r1,q1⟩=>?_) hs rfl))
 obtain ⟨j,e,q1,q2,q⟩:=q1
 subst e
 cases r1 with
 | cons r rr =>
   cases rr
   obtain ⟨t,rfl⟩:=r
   exact call_range_1 (zCD I1 (by omega) (by omega) q1 q2 (by simpa using q))
noncomputable def zB8 (wi:TI) (g:TG) (tb:TS):TS:=fun D σ H=>wi σ H fun J H1=>∃ W:Nat->Nat->St->Hp->Prop,(∃ m,W 0 m σ H1)∧∀ i m σ H,W i m σ H ->
 (J.stop i H∧D.nx σ H)∨(J.go i H∧∃ N:St->Hp->Prop,(∀ σ' H',N σ' H'->∃ m',m' < m∧W (i+1) m' σ' H')∧∀ x H',J.yld i H x H'->g x σ H' fun σ2 H2=>tb { D with nx:=N,ct:=N,bk:=D.nx } σ2 H2)
noncomputable def zhP (fp:List Addr) (h:Heap):List (Addr×Obj):=fp.filterMap fun b=>(h.get? b).map fun o=>(b,o)
theorem zil {fp:List Addr}{h:Heap}{b:Addr}{o:Obj} (hb:b∈fp) (e:h.get? b=some o):(b,o)∈zhP fp h:=List.mem_filterMap.mpr ⟨b,hb,by rw [e];rfl⟩
theorem zCV {fp:List Addr}{h:Heap}{p:Addr×Obj} (hp:p∈zhP fp h):p.1∈fp∧h.get? p.1=some p.2:=by
 obtain ⟨b,hb,e⟩:=List.mem_filterMap.mp hp
 cases q:h.get? b with
 | none=>rw [q]at e;cases e
 | some o =>
   rw [q]at e
   have e':(b,o)=p:=Option.some.inj e
   subst e'
   exact ⟨hb,q⟩
theorem Inv.pinned {pins:List (Addr×Obj)}{σ:St}{H:Hp}{s:Shared}{fp:List Addr} (I:Inv X pins σ H s) (hf:∀ b∈fp,zdo X pins H b) (ho:∀ b∈fp,∃ o,s.heap.get? b=some o∧∀ v,o.data ≠ .cell v):Inv X (pins++zhP fp s.heap) σ H s :=
 I.pins_of fun p hp=>(List.mem_append.mp hp).elim (fun z=>I.pin p (List.mem_append_right _ z)) fun z=>by
   obtain ⟨hb,e⟩:=zCV z
   obtain ⟨f0,f1,f2,_⟩:=hf p.1 hb
   obtain ⟨o,e',d⟩:=ho p.1 hb
   rw [e]at e';cases e'
   exact ⟨e,f0,f1,f2,d⟩
theorem Inv.unpinned {pins pl:List (Addr×Obj)}{σ:St}{H:Hp}{s:Shared} (I:Inv X (pins++pl) σ H s):Inv X pins σ H s:=I.pins_of fun p hp=>I.pin p (List.mem_append_right _ (List.mem_append_left _ hp))
theorem zAc {iter:Expr}{body:List Stmt}{wi:TI}{g:TG}{tb:TS}{pos:Pos} (hp:PassesOwn (model X.prog X.w) X.A X.env X.xe) (hc:X.calm=true) (hi:PI X tg iter wi) (hg:PG X tg g) (hb:PSs X body tb)
   (hs:∀ x,foldedSetIterable iter X.env x=pure x:=by intro _;rfl):PS X (.For tg iter body [] pos) (zB8 wi g tb):=by
 intro pins s σ H D I h
 refine wpAny_For (thn (hi pins s σ H _ I h) fun v s1 h1=>thn h1 fun itv s2 h2=>?_) hs
 obtain ⟨it,fp,tn,J,H2,e,I2,T,st2,f2,W,⟨m0,w0⟩,turn⟩:=h2
 subst e
 have stat:∀ {H':Hp},(∀ b∈fp,H' b=none)->∀ b∈fp,zdo X pins H' b:=fun hn b hb=>⟨hn b hb,(f2 b hb).2⟩
 refine codeAny_forLoop_any (fun n s'=>∃ i σ' H',Inv X pins σ' H' s'∧tn i s'.heap∧(∀ b∈fp,H' b=none)∧W i n σ' H') ?_ m0 ⟨0,σ,H2,I2,st2,fun b hb=>(f2 b hb).1,w0⟩
 rintro n s3 ⟨i,σ3,H3,I3,st3,fr3,w3⟩
 rcases turn i n σ3 H3 w3 with ⟨stop,qn⟩ | ⟨go,N,hN,step⟩
 . refine wpAny_passesOwn hp (thn (T.done X rfl rfl rfl hc i pins s3 σ3 H3 X.xe I3 (stat fr3) st3 stop) fun r s4 ⟨hr,I4⟩=>?_)
   subst hr
   exact wpAny_execs_nil ⟨σ3,H3,I4,qn⟩
 . refine wpAny_passesOwn hp (thn (T.item X rfl rfl rfl hc i pins s3 σ3 H3 X.xe I3 (stat fr3) st3 go) fun r s4 ⟨u,hr,h4⟩=>?_)
   subst hr
   refine wpAny_passesOwn hp (thn h4 fun _ s5 ⟨x,H5,I5,r5,y5,st5,fr5⟩=>?_)
   have I5':=I5.pinned (stat fr5) (T.obj _ _ st5)
   refine wpAny_passesOwn hp (thn (hg _ s5 σ3 H5 x u _ I5' r5 (step x H5 y5)) fun _ s6 ⟨σ6,H6,I6,q6⟩=>?_)
   refine wpAny_passesOwn hp (thn (hb _ s6 σ6 H6 _ I6 q6) fun f s7 q7=>?_)
   have again:∀ {σ7:St} {H7:Hp},Inv X (pins++zhP fp s5.heap) σ7 H7 s7->N σ7 H7->∃ m,m < n∧∃ i σ' H',Inv X pins σ' H' s7∧tn i s7.heap∧(∀ b∈fp,H' b=none)∧W i m σ' H':=fun {σ7 H7} I7 n7=>by
     obtain ⟨m',hm,w7⟩:=hN σ7 H7 n7
     refine ⟨m',hm,i+1,σ7,H7,I7.unpinned,T.keep _ _ _ st5 fun b hb o e=>(I7.pin (b,o) (List.mem_append_right _ (List.mem_append_right _ (zil hb e)))).1,fun b hb=>?_,w7⟩
     obtain ⟨o,e,d⟩:=T.obj _ _ st5 b hb
     exact (I7.pin (b,o) (List.mem_append_right _ (List.mem_append_right _ (zil hb e)))).2.1
   cases f with
   | next=>obtain ⟨σ7,H7,I7,n7⟩:=q7;exact again I7 n7
   | cont=>obtain ⟨σ7,H7,I7,n7⟩:=q7;exact again I7 n7
   | brk=>obtain ⟨σ7,H7,I7,q7⟩:=q7;exact ⟨σ7,H7,I7.unpinned,q7⟩
   | ret v=>obtain ⟨x7,σ7,H7,I7,r7,q7⟩:=q7;exact ⟨x7,σ7,H7,I7.unpinned,r7,q7⟩
end
end L2
namespace L2
open PySem PySem.Spec PyProof.Rows
abbrev R2:=V->V->Hp->VK->Prop
noncomputable def OpR (X:Cx) (f:Value->Value->Sem Value) (r:R2):Prop :=
 ∀ (pins:List (Addr×Obj)) (s:Shared) (σ:St) (H:Hp) (x y:V) (v u:Value) (Q:VK),Inv X pins σ H s->zt x v->zt y u->r x y H Q ->
   wpAny (model X.prog X.w) X.A (f v u) (EP X pins σ Q) X.xe s
noncomputable def UnR (X:Cx) (f:Value->Sem Value) (r:V->Hp->VK->Prop):Prop :=
 ∀ (pins:List (Addr×Obj)) (s:Shared) (σ:St) (H:Hp) (x:V) (v:Value) (Q:VK),Inv X pins σ H s->zt x v->r x H Q ->
   wpAny (model X.prog X.w) X.A (f v) (EP X pins σ Q) X.xe s
noncomputable def zdn (X:Cx) (f:Value) (r:List V->Hp->VK->Prop):Prop :=
 ∀ (pins:List (Addr×Obj)) (s:Shared) (σ:St) (H:Hp) (xs:List V) (us:List Value) (Q:VK),Inv X pins σ H s->zA xs us->r xs H Q ->
   wpAny (model X.prog X.w) X.A (call f us) (EP X pins σ Q) X.xe s
noncomputable def zB6 (X:Cx) (r:V->Hp->(Bool->Hp->Prop)->Prop):Prop :=
 ∀ (pins:List (Addr×Obj)) (s:Shared) (σ:St) (H:Hp) (x:V) (v:Value) (Q:Bool->Hp->Prop),Inv X pins σ H s->zt x v->r x H Q ->
   wpAny (model X.prog X.w) X.A (truthy v) (TP X pins σ Q) X.xe s
noncomputable def tOp (r:R2) (ta tb:TE):TE:=fun σ H Q=>ta σ H fun x H1=>tb σ H1 fun y H2=>r x y H2 Q
noncomputable def tUn (r:V->Hp->VK->Prop) (ta:TE):TE:=fun σ H Q=>ta σ H fun x H1=>r x H1 Q
noncomputable def rI (C:Int->Int->Prop) (g:Int->Int->V):R2:=fun x y H Q=>∃ i j,x = .int i∧y = .int j∧C i j∧Q (g i j) H
noncomputable def rI0 (g:Int->Int->V):R2:=fun x y H Q=>∃ i j,x = .int i∧y = .int j∧Q (g i j) H
noncomputable def rU (g:Int->V):V->Hp->VK->Prop:=fun x H Q=>∃ i,x = .int i∧Q (g i) H
section
variable {X:Cx}{a b c:Expr}{ta tb tc:TE}{pos:Pos}
theorem zp8 (ha:PE X a ta) (hb:PE X b tb) {pins:List (Addr×Obj)}{s:Shared}{σ:St}{H:Hp}{R:V->V->Hp->Prop} (I:Inv X pins σ H s)
   (h:ta σ H fun x H1=>tb σ H1 fun y H2=>R x y H2) {Q:Value->Shared->Prop} {f:Value->Value->Sem Value}
   (hf:∀ v u s2 x y H2,Inv X pins σ H2 s2->zt x v->zt y u->R x y H2->wpAny (model X.prog X.w) X.A (f v u) Q X.xe s2) :
   wpAny (model X.prog X.w) X.A (eval a X.env) (fun v s₁=>wpAny (model X.prog X.w) X.A (eval b X.env) (fun u s₂=>wpAny (model X.prog X.w) X.A (f v u) Q X.xe s₂) X.xe s₁) X.xe s:=by
 refine thn (ha pins s σ H _ I h) fun v s1 ⟨x,H1,I1,r1,q1⟩=>?_
 refine thn (hb pins s1 σ H1 _ I1 q1) fun u s2 ⟨y,H2,I2,r2,q2⟩=>?_
 exact hf v u s2 x y H2 I2 r1 r2 q2
theorem zsx {op:Operator}{r:R2} (ho:OpR X (binaryOp op) r) (ha:PE X a ta) (hb:PE X b tb):PE X (.BinOp a op b pos) (tOp r ta tb):=by
 intro pins s σ H Q I h
 exact wpAny_BinOp (zp8 ha hb I h fun v u s2 x y H2 I2 rx ry q=>ho pins s2 σ H2 x y v u Q I2 rx ry q)
theorem zt5 {op:UnaryOp}{r:V->Hp->VK->Prop} (ho:UnR X (unaryOp op) r) (ha:PE X a ta):PE X (.UnaryOp op a pos) (tUn r ta):=by
 intro pins s σ H Q I h
 exact UnaryOp_ (thn (ha pins s σ H _ I h) fun v s1 ⟨x,H1,I1,r1,q1⟩=>ho pins s1 σ H1 x v Q I1 r1 q1)
theorem opI {f:Value->Value->Sem Value}{C:Int->Int->Prop}{g:Int->Int->Int}
   (rule:∀ (i j:Int) (t u:Tok) (s:Shared) (Q:Value->Shared->Prop) (E:Value->Shared->Prop),C i j->Q (.int (g i j) s.toks) { s with toks:=s.toks+1 }->wpAny (model X.prog X.w) X.A (f (.int i t) (.int j u)) Q E s) :
   OpR X f (rI C fun i j=> .int (g i j)):=by
 intro pins s σ H x y v u Q I rx ry h
 obtain ⟨i,j,rfl,rfl,hc,q⟩:=h
 obtain ⟨t,rfl⟩:=rx
 obtain ⟨t',rfl⟩:=ry
 exact rule i j t t' s _ _ hc ⟨.int (g i j),H,I.tok _,⟨_,rfl⟩,q⟩
theorem zo6 {f:Value->Value->Sem Value}{g:Int->Int->Int}
   (rule:∀ (i j:Int) (t u:Tok) (s:Shared) (Q:Value->Shared->Prop) (E:Value->Shared->Prop),Q (.int (g i j) s.toks) { s with toks:=s.toks+1 }->wpAny (model X.prog X.w) X.A (f (.int i t) (.int j u)) Q E s) :
   OpR X f (rI0 fun i j=> .int (g i j)):=by
 intro pins s σ H x y v u Q I rx ry h
 obtain ⟨i,j,rfl,rfl,q⟩:=h
 obtain ⟨t,rfl⟩:=rx
 obtain ⟨t',rfl⟩:=ry
 exact rule i j t t' s _ _ ⟨.int (g i j),H,I.tok _,⟨_,rfl⟩,q⟩
theorem zpS {f:Value->Value->Sem Value}{g:Int->Int->Bool}
   (rule:∀ (i j:Int) (t u:Tok) (s:Shared) (Q:Value->Shared->Prop) (E:Value->Shared->Prop),Q (.bool (g i j)) s->wpAny (model X.prog X.w) X.A (f (.int i t) (.int j u)) Q E s) :
   OpR X f (rI0 fun i j=> .bl (g i j)):=by
 intro pins s σ H x y v u Q I rx ry h
 obtain ⟨i,j,rfl,rfl,q⟩:=h
 obtain ⟨t,rfl⟩:=rx
 obtain ⟨t',rfl⟩:=ry
 exact rule i j t t' s _ _ ⟨.bl (g i j),H,I,rfl,q⟩
noncomputable def zsq (i j:Int):Prop:=0 < j∧j < 1073741824
noncomputable def zhF (i j:Int):Prop:=(-(2 ^ 64) < i∧i < 2 ^ 64)∨(-(2 ^ 64) < j∧j < 2 ^ 64)
theorem zhF.ok {i j:Int} (h:zhF i j):IntMulOk i j:=by
 rcases h with ⟨h1,h2⟩ | ⟨h1,h2⟩
 . exact .of_left (intBits_le_64 h1 h2)
 . exact .of_right (intBits_le_64 h1 h2)
theorem zA2:OpR X (binaryOp .Add) (rI0 fun i j=> .int (i+j)):=zo6 fun _ _ _ _ _ _ _ q=>add_int q
theorem zDw:OpR X (binaryOp .Sub) (rI0 fun i j=> .int (i - j)):=zo6 fun _ _ _ _ _ _ _ q=>sub_int q
theorem zCN:OpR X (binaryOp .Mult) (rI zhF fun i j=> .int (i * j)):=opI fun _ _ _ _ _ _ _ hc q=>mul_int q hc.ok
theorem zEM:OpR X (binaryOp .FloorDiv) (rI zsq fun i j=> .int (i / j)):=opI fun i j _ _ _ _ _ hc q=>by
 have h1:(0:Int) < j:=hc.1
 have h2:j < 1073741824:=hc.2
 exact floordiv_int (by omega) (by rw [Int.fdiv_eq_ediv_of_nonneg i (by omega)];exact q) (.inl (PyProof.noPylong_small (by omega)))
theorem zAj:OpR X (binaryOp .Mod) (rI (fun _ j=>0 < j) fun i j=> .int (i % j)):=opI fun i j _ _ _ _ _ hc q=>by
 have h1:(0:Int) < j:=hc
 exact mod_int' (by omega) (by rw [Int.fmod_eq_emod_of_nonneg i (by omega)];exact q)
theorem zCm:OpR X (inplaceOp .Add) (rI0 fun i j=> .int (i+j)):=zo6 fun _ _ _ _ _ _ _ q=>iadd_int q
theorem unI {f:Value->Sem Value}{g:Int->Int}
   (rule:∀ (i:Int) (t:Tok) (s:Shared) (Q:Value->Shared->Prop) (E:Value->Shared->Prop),Q (.int (g i) s.toks) { s with toks:=s.toks+1 }->wpAny (model X.prog X.w) X.A (f (.int i t)) Q E s) :
   UnR X f (rU fun i=> .int (g i)):=by
 intro pins s σ H x v Q I rx h
 obtain ⟨i,rfl,q⟩:=h
 obtain ⟨t,rfl⟩:=rx
 exact rule i t s _ _ ⟨.int (g i),H,I.tok _,⟨_,rfl⟩,q⟩
theorem zui:UnR X (unaryOp .USub) (rU fun i=> .int (-i)):=unI fun _ _ _ _ _ q=>neg_int q
end
section
variable {X:Cx}{a b c:Expr}{ta tb tc:TE}{pos:Pos}
theorem zr9 {pins:List (Addr×Obj)}{σ:St}{H:Hp}{s:Shared}{Q:VK}{k k':Bool} (I:Inv X pins σ H s) (q:Q (.bl k) H) (e:k=k'):EP X pins σ Q (.bool k') s:=by
 subst e
 exact ⟨.bl k,H,I,rfl,q⟩
theorem zDX:OpR X (compareOp .Lt) (rI0 fun i j=> .bl (decide (i < j))):=zpS fun _ _ _ _ _ _ _ q=>lt_int q
theorem zDo:OpR X (compareOp .LtE) (rI0 fun i j=> .bl (decide (i<=j))):=zpS fun _ _ _ _ _ _ _ q=>le_int q
theorem zFp:OpR X (compareOp .Gt) (rI0 fun i j=> .bl (decide (j < i))):=zpS fun _ _ _ _ _ _ _ q=>gt_int q
theorem zFl:OpR X (compareOp .Is) (fun x y H Q=>y = .non∧Q (.bl (decide (x = .non))) H):=by
 intro pins s σ H x y v u Q I rx ry h
 obtain ⟨rfl,q⟩:=h
 cases ry
 refine is_none_gen (zr9 I q ?_)
 cases x <;> first
   | (cases rx;rfl)
   | (obtain ⟨t,rfl⟩:=rx;rfl)
theorem zDL:OpR X (compareOp .IsNot) (fun x y H Q=>y = .non∧Q (.bl (!decide (x = .non))) H):=by
 intro pins s σ H x y v u Q I rx ry h
 obtain ⟨rfl,q⟩:=h
 cases ry
 refine isnot_none_gen (zr9 I q ?_)
 cases x <;> first
   | (cases rx;rfl)
   | (obtain ⟨t,rfl⟩:=rx;rfl)
noncomputable def zF0:HO->Bool
 | .lst _=>true
 | .ins _ _ _=>true
 | _=>false
theorem OpR.or {f:Value->Value->Sem Value}{r r':R2} (h:OpR X f r) (h':OpR X f r'):OpR X f (fun x y H Q=>r x y H Q∨r' x y H Q):=by
 intro pins s σ H x y v u Q I rx ry q
 rcases q with q | q
 . exact h pins s σ H x y v u Q I rx ry q
 . exact h' pins s σ H x y v u Q I rx ry q
theorem zY (b:Expr) {op:CmpOp} (h:op ≠ .In:=by decide) (h2:op ≠ .NotIn:=by decide):behindInMarks op b=false:=by
 have e1:(op == CmpOp.In)=false:=by cases op <;> first | rfl | exact absurd rfl h
 have e2:(op == CmpOp.NotIn)=false:=by cases op <;> first | rfl | exact absurd rfl h2
 cases b <;> simp [behindInMarks,e1,e2]
theorem zCk {op:CmpOp}{r:R2} (ho:OpR X (compareOp op) r) (ha:PE X a ta) (hb:PE X b tb) (hm:behindInMarks op b=false):PE X (.Compare a [op] [b] pos) (tOp r ta tb):=by
 intro pins s σ H Q I h
 exact wpAny_Compare1 (zp8 ha hb I h fun v u s2 x y H2 I2 rx ry q=>ho pins s2 σ H2 x y v u Q I2 rx ry q) hm
noncomputable def zr0 (t:TE):TT:=fun σ H Q=>t σ H fun x H'=>∃ k,x = .bl k∧Q k H'
theorem zEU {op:CmpOp}{r:R2} (ho:OpR X (compareOp op) r) (ha:PE X a ta) (hb:PE X b tb) (hm:behindInMarks op b=false):PT X (.Compare a [op] [b] pos) (zr0 (tOp r ta tb)):=by
 intro pins s σ H Q I h
 refine wpAny_isTrue_Compare1 (thn (ha pins s σ H _ I h) fun v s1 ⟨x,H1,I1,r1,q1⟩=>thn (hb pins s1 σ H1 _ I1 q1) fun u s2 ⟨y,H2,I2,r2,q2⟩ =>
   thn (ho pins s2 σ H2 x y v u _ I2 r1 r2 q2) fun c s3 ⟨z,H3,I3,r3,k,e,q3⟩=>?_) hm
 subst e
 cases r3
 exact wpAny_truthy_bool ⟨H3,I3,q3⟩
noncomputable def zpK (r r':R2) (ta tb tc:TE):TE:=fun σ H Q=>ta σ H fun x H1=>tb σ H1 fun y H2=>r x y H2 fun z H3=>∃ k,z = .bl k ∧
 (if k=true then tc σ H3 fun w' H4=>r' y w' H4 Q else Q (.bl false) H3)
theorem zEo {op op':CmpOp}{r r':R2} (ho:OpR X (compareOp op) r) (ho':OpR X (compareOp op') r') (ha:PE X a ta) (hb:PE X b tb) (hc:PE X c tc)
   (hm:lastMarks [op,op'] [b,c]=false:=by with_unfolding_all rfl):PE X (.Compare a [op,op'] [b,c] pos) (zpK r r' ta tb tc):=by
 intro pins s σ H Q I h
 refine Compare_chain (thn (ha pins s σ H _ I h) fun v s1 ⟨x,H1,I1,r1,q1⟩=>chain_link (thn (hb pins s1 σ H1 _ I1 q1) fun u s2 ⟨y,H2,I2,r2,q2⟩ =>
   thn (ho pins s2 σ H2 x y v u _ I2 r1 r2 q2) fun d s3 ⟨z,H3,I3,r3,k,e,q3⟩=>?_)) hm
 subst e
 cases r3
 refine wpAny_truthy_bool ?_
 cases k with
 | false=>exact ite_ff ⟨.bl false,H3,I3,rfl,q3⟩
 | true=>exact ite_tt (chain_last (thn (hc pins s3 σ H3 _ I3 q3) fun w' s4 ⟨z',H4,I4,r4,q4⟩=>ho' pins s4 σ H4 y z' u w' Q I4 r2 r4 q4))
theorem zAv {op op':CmpOp}{r r':R2} (ho:OpR X (compareOp op) r) (ho':OpR X (compareOp op') r') (ha:PE X a ta) (hb:PE X b tb) (hc:PE X c tc)
   (hm:lastMarks [op,op'] [b,c]=false:=by with_unfolding_all rfl):PT X (.Compare a [op,op'] [b,c] pos) (zr0 (zpK r r' ta tb tc)):=by
 intro pins s σ H Q I h
 refine isTrue_chain (thn (ha pins s σ H _ I h) fun v s1 ⟨x,H1,I1,r1,q1⟩=>test_link (thn (hb pins s1 σ H1 _ I1 q1) fun u s2 ⟨y,H2,I2,r2,q2⟩ =>
   thn (ho pins s2 σ H2 x y v u _ I2 r1 r2 q2) fun d s3 ⟨z,H3,I3,r3,k,e,q3⟩=>?_)) hm
 subst e
 cases r3
 refine wpAny_truthy_bool ?_
 cases k with
 | false =>
   obtain ⟨k',e',q'⟩:=q3
   cases e'
   exact ite_ff ⟨H3,I3,q'⟩
 | true =>
   refine ite_tt (test_last (thn (hc pins s3 σ H3 _ I3 q3) fun w' s4 ⟨z',H4,I4,r4,q4⟩=>thn (ho' pins s4 σ H4 y z' u w' _ I4 r2 r4 q4) fun d' s5 ⟨z2,H5,I5,r5,k2,e2,q5⟩=>?_))
   subst e2
   cases r5
   exact wpAny_truthy_bool ⟨H5,I5,q5⟩
noncomputable def zt4 (K:PySem.W.Frag) (x:V) (H:Hp) (k:Bool):Prop :=
 match x with
 | .non=>k=false
 | .bl b=>k=b
 | .int i=>k=(i != 0)
 | .str y=>y.length<=sizeLine∧k=((y.length:Int) != 0)
 | .byt y=>y.size<=sizeLine∧k=((y.size:Int) != 0)
 | .ref p=>(∃ xs,SqL K H p xs∧k=!xs.isEmpty)∨(∃ xs,SqT K H p xs∧k=!xs.isEmpty)∨∃ kvs,H p=some (.dK kvs)∧k=!kvs.isEmpty
 | _=>False
theorem zET {κ:Type}{kvs:List (κ×V)}{vs:List (κ×Value)} (r:KV kvs vs):(!vs.isEmpty)=!kvs.isEmpty:=by
 cases r <;> rfl
theorem zt7 {xs:List V}{its:List Value} (r:zA xs its):(!its.toArray.isEmpty)=!xs.isEmpty:=by
 cases r <;> simp
theorem zhL:(sizeLine:Nat) < 2 ^ 63:=by rw [sizeLine_eq];decide
theorem zAe:zB6 X (fun x H Q=>∃ k,zt4 X.K x H k∧Q k H):=by
 intro pins s σ H x v Q I rx h
 obtain ⟨k,e,q⟩:=h
 have hl:=zhL
 have hs:sizeLine=16777216:=sizeLine_eq
 cases x with
 | non =>
   cases rx
   have e':k=false:=e
   subst e'
   exact truthy_none ⟨H,I,q⟩
 | bl b =>
   cases rx
   have e':k=b:=e
   subst e'
   exact wpAny_truthy_bool ⟨H,I,q⟩
 | int i =>
   obtain ⟨t,rfl⟩:=rx
   have e':k=(i != 0):=e
   subst e'
   exact PySem.P.truthy_int ⟨H,I,q⟩
 | str y =>
   obtain ⟨t,rfl⟩:=rx
   obtain ⟨hy,e'⟩:y.length<=sizeLine∧k=((y.length:Int) != 0):=e
   subst e'
   exact PySem.P.truthy_str (by omega) ⟨H,I.tok _,q⟩
 | byt y =>
   obtain ⟨t,rfl⟩:=rx
   obtain ⟨hy,e'⟩:y.size<=sizeLine∧k=((y.size:Int) != 0):=e
   subst e'
   exact PySem.W.truthy_bytes (by omega) ⟨H,I.tok _,q⟩
 | ref p =>
   cases rx
   have e':(∃ xs,SqL X.K H p xs∧k=!xs.isEmpty)∨(∃ xs,SqT X.K H p xs∧k=!xs.isEmpty)∨∃ kvs,H p=some (.dK kvs)∧k=!kvs.isEmpty:=e
   rcases e' with ⟨xs,hx,e'⟩ | ⟨xs,hx,e'⟩ | ⟨kvs,hx,e'⟩
   . subst e'
     obtain ⟨its,r,pl,hz⟩:=I.list hx
     have hlen:=r.length
     exact wpAny_truthy_list pl.isList (by simp only [List.size_toArray];omega) ⟨H,I.tok _,by rw [zt7 r];exact q⟩
   . subst e'
     obtain ⟨its,r,pl,hz⟩:=I.tuple hx
     have hlen:=r.length
     exact truthy_tuple pl (by simp only [List.size_toArray];omega) ⟨H,I.tok _,by rw [zt7 r];exact q⟩
   . subst e'
     obtain ⟨hz,hS,vs,r,m⟩:kvs.length<=sizeLine∧(p == sysModules)=false∧∃ vs,KV kvs vs∧s.heap.DictOf (zbM X.prog X.w) p vs:=I.hok p _ hx
     have hlen:kvs.length=vs.length:=Paired.length r
     exact wpAny_truthy_dict hS m (by omega) ⟨H,I.tok _,by rw [zET r];exact q⟩
 | _=>exact (show False from e).elim
theorem zFh (ha:PE X a ta) (he:∀ whole,isTrue a X.env whole=(do let v <- whole;standAt a.pos;holding [v] (truthy v))) :
   PT X a (fun σ H Q=>ta σ H fun x H'=>∃ k,zt4 X.K x H' k∧Q k H'):=by
 intro pins s σ H Q I h
 exact isTrue_plain (thn (ha pins s σ H _ I h) fun v s1 ⟨x,H1,I1,r1,q1⟩=>zAe pins s1 σ H1 x v Q I1 r1 q1) (he _)
theorem zeG {x:V}{us:List Value} (r:zA [x] us):∃ u,us=[u]∧zt x u:=by
 cases r with
 | cons r1 r2=>cases r2;exact ⟨_,rfl,r1⟩
theorem zpp {x y:V}{us:List Value} (r:zA [x,y] us):∃ u w',us=[u,w']∧zt x u∧zt y w':=by
 cases r with
 | cons r1 r2 =>
   cases r2 with
   | cons r3 r4=>cases r4;exact ⟨_,_,rfl,r1,r3⟩
theorem zBP:zdn X (.builtin "abs") (fun xs H Q=>∃ i,xs=[.int i]∧Q (.int (if i < 0 then -i else i)) H):=by
 intro pins s σ H xs us Q I r h
 obtain ⟨i,rfl,q⟩:=h
 obtain ⟨u,rfl,t,rfl⟩:=zeG r
 exact call_abs_int fun u tk=>⟨.int (if i < 0 then -i else i),H,I.tok _,⟨_,rfl⟩,q⟩
end
end L2
namespace L2
open PySem PySem.Spec PyProof.Rows
structure zgx (h:Heap) (x dx C:Addr) (mA:Str->Option Value):Prop where
 obj:h.get? x=some (PySem.W.instObj C dx)
 ns:h.Ns1 dx mA
 ne:dx≠x
theorem zFd {h:Heap}{dx:Addr}{mA:Str->Option Value} (n:h.Ns1 dx mA):∃ od,h.get? dx=some od∧∀ name,PySem.W.lookIn name od=some (mA name):=by
 obtain ⟨o,es,ep,ho,hd,hk,_,hm⟩:=n
 refine ⟨o,ho,fun name=>?_⟩
 have e:=hm name
 unfold nsFind findBy at e
 rw [<- Array.find?_toList]at e
 unfold PySem.W.lookIn
 rw [hd]
 dsimp only
 split
 . rename_i y q
   rw [q]at e
   exact congrArg some e
 . rename_i q
   rw [q]at e
   have a:es.toList.any (·.refKey)=false:=by
     rw [List.any_eq_false]
     intro y hy
     obtain ⟨z,t,hkey⟩:=hk y (Array.mem_toList_iff.mp hy)
     simp [DictEntry.refKey,hkey]
   have a':¬ es.toList.any (·.refKey)=true:=by rw [a];exact Bool.false_ne_true
   rw [if_neg a']
   exact congrArg some e
theorem zgx.look {h:Heap}{x dx C:Addr}{mA:Str->Option Value} (I:zgx h x dx C mA):∃ od,PySem.W.InstAt h x (PySem.W.instObj C dx) C (some od)∧∀ name,PySem.W.lookIn name od=some (mA name) :=
 let ⟨od,ho,hl⟩:=zFd I.ns
 ⟨od,⟨I.obj,rfl,rfl,ho⟩,hl⟩
section
variable {prog:Program}{w:World}{A:Around}{E:Value->Shared->Prop}{s:Shared}{K:PySem.W.Frag}{x dx C f:Addr}{mA:Str->Option Value}{name:Str}{v:Value}
theorem zAf {expr:Bool}{Q:Value->Shared->Prop} (X:K.In s.heap) (I:zgx s.heap x dx C mA) (hg:PySem.W.plainGet K C name=true) (hh:PySem.W.hasDictIn K C=true)
   (ha:PySem.W.findIn K (.ref C) name=some none) (hv:mA name=some v) (hv':PySem.W.handedIn v=true) (h:Q v { s with toks:=s.toks+1 }) :
   wpAny (model prog w) A (getAttr (.ref x) name expr) Q E s:=by
 obtain ⟨od,J,hl⟩:=I.look
 exact PySem.W.get_value X J (PySem.W.plainGet_of hg).1 (PySem.W.findObj_own hh ha rfl (by rw [hl,hv])) hv' h
theorem zCu {pl:Sem Bool}{Q:Value×List Value->Shared->Prop} (X:K.In s.heap) (I:zgx s.heap x dx C mA) (hg:PySem.W.plainGet K C name=true)
   (hf:PySem.W.findIn K (.ref C) name=some (some (.ref f))) (ht:PySem.W.isFn K (.ref f)=true) (hv:mA name=none) (h:Q (.ref f,[.ref x]) s) :
   wpAny (model prog w) A (getMethod (.ref x) name pl) Q E s:=by
 obtain ⟨od,J,hl⟩:=I.look
 exact PySem.W.method_fn X J (PySem.W.plainGet_of hg).1 (PySem.W.plainGet_of hg).2 hf (beq_iff_eq.mp ht) (by show (PySem.W.lookIn name od).map (·.isSome)=some false;rw [hl,hv];rfl) h
theorem zCl {ns:List Str}{Q:Unit->Shared->Prop} (X:K.In s.heap) (I:zgx s.heap x dx C mA)
   (hs:PySem.W.findIn K (.ref C) "__setattr__" = some (some (.builtin "object.__setattr__"))) (hp:PySem.W.plainOver K C=true) (ht:PySem.W.takerIn K C name=some none) (hh:PySem.W.hasDictIn K C=true)
   (hw:PySem.Within mA ns) (hsz:ns.length<=sizeLine)
   (h:∀ h',zgx h' x dx C (fun y=>if y=name then some v else mA y)->Heap.SameBut dx s.heap h'->Q () { s with heap:=h',toks:=s.toks+2 }) :
   wpAny (model prog w) A (setAttr (.ref x) name v) Q E s:=by
 obtain ⟨od,J,hl⟩:=I.look
 refine PySem.W.set_plain X J hs (PySem.W.osa_open (s:={ s with toks:=s.toks+1 }) (r:=none) X J hp ht fun b=>?_)
 obtain ⟨cd,hc,hd'⟩:=PySem.W.any_some hh
 have hx:s.heap.get? x=some ⟨.ref C,some dx,.plain,#[]⟩:=I.obj
 refine wpAny_bind (wpAny_pure (wpAny_bind (wpAny_bind (wpAny_loadPart hx (wpAny_bind (PySem.W.Looks.here (s:={ s with toks:=s.toks+1 }) (PySem.W.looks_clsIn X hc) ?_))))))
 rw [hd']
 refine wpAny_pure (a:=some dx) (wpAny_bind (wpAny_pure (wpAny_bind ?_)))
 refine wpAny_nsSet1 (s:={ s with toks:=s.toks+1 }) I.ns fun h' hn2 hs2=>?_
 obtain ⟨oD,esD,epD,hoD,hdD,hcD⟩:=hn2.count (PySem.Within.cons name v hw)
 refine wpAny_bind (wpAny_lookBehind hoD (by rw [hdD];exact pastItsLine_dict (Nat.le_trans hcD (by rw [List.length_cons];omega))) ?_)
 exact wpAny_pure (h _ ⟨(hs2.2 _ (Ne.symm I.ne)).trans I.obj,hn2,I.ne⟩ hs2)
theorem zAw {R:Result->Shared->Prop}{vs:List Value}{kw:List (Str×Value)} (X:K.In s.heap) (hm:PySem.W.makesIn K C=true)
   (hi:PySem.W.findIn K (.ref C) "__init__" = some (some (.ref f))) (hf:PySem.W.typeIn K (.ref f)=some (.type "function"))
   (h:codeAny (model prog w) (A.under (.builtin "type.__call__" ⟨.ref C :: vs,kw⟩)) (.call (.ref f) ⟨.ref (s.heap.objs.size+1) :: vs,kw⟩) (PySem.W.InitBack (s.heap.objs.size+1) R)
     { s with heap:=(s.heap.push PySem.W.emptyDict).push (PySem.W.instObj C s.heap.objs.size) }) :
   codeAny (model prog w) A (.call (.ref C) ⟨vs,kw⟩) R s:=by
 obtain ⟨hh,g,d,t,os⟩:=s
 exact PySem.W.make_core (PySem.W.makes_of X hm) (PySem.W.looks_findIn X hi) (fun self=>PySem.W.bind_fn X self hf) (.inl rfl) h
end
noncomputable def zcp (f:Str) (v:V):List (Str×V)->List (Str×V)
 | []=>[(f,v)]
 | (g,x) :: r=>if g=f then (g,v) :: r else (g,x) :: zcp f v r
theorem zsB (f g:Str) (v:V):∀ fs:List (Str×V),(zcp f v fs).lookup g=if g=f then some v else fs.lookup g
 | []=>by
   show List.lookup g [(f,v)]=_
   by_cases h:g=f
   . have hb:(g == f)=true:=beq_iff_eq.mpr h
     simp only [List.lookup,hb,if_pos h]
   . have hb:(g == f)=false:=beq_eq_false_iff_ne.mpr h
     simp only [List.lookup,hb,if_neg h]
 | (k,x) :: r=>by
   have ih:=zsB f g v r
   rw [show zcp f v ((k,x) :: r)=(if k=f then (k,v) :: r else (k,x) :: zcp f v r) from rfl]
   by_cases hk:k=f
   . rw [if_pos hk]
     by_cases h:g=k
     . have hb:(g == k)=true:=beq_iff_eq.mpr h
       simp only [List.lookup,hb,if_pos (h.trans hk)]
     . have hb:(g == k)=false:=beq_eq_false_iff_ne.mpr h
       simp only [List.lookup,hb,if_neg (fun e:g=f=>h (e.trans hk.symm))]
   . rw [if_neg hk]
     by_cases h:g=k
     . have hb:(g == k)=true:=beq_iff_eq.mpr h
       simp only [List.lookup,hb,if_neg (fun e:g=f=>hk (h.symm.trans e))]
     . have hb:(g == k)=false:=beq_eq_false_iff_ne.mpr h
       simp only [List.lookup,hb]
       exact ih
theorem zpZ (f:Str) (v:V):∀ fs:List (Str×V),f∈(zcp f v fs).map (·.1)∧∀ g,g∈fs.map (·.1)->g∈(zcp f v fs).map (·.1)
 | []=>⟨by simp [zcp],fun g h=>by simp at h⟩
 | (k,x) :: r=>by
   obtain ⟨i1,i2⟩:=zpZ f v r
   rw [show zcp f v ((k,x) :: r)=(if k=f then (k,v) :: r else (k,x) :: zcp f v r) from rfl]
   by_cases hk:k=f
   . rw [if_pos hk]
     subst hk
     exact ⟨by simp,fun g h=>by simpa using h⟩
   . rw [if_neg hk]
     refine ⟨?_,fun g h=>?_⟩
     . rw [List.map_cons]
       exact List.mem_cons_of_mem _ i1
     . rw [List.map_cons]at h ⊢
       rcases List.mem_cons.mp h with e | e
       . exact List.mem_cons.mpr (.inl e)
       . exact List.mem_cons_of_mem _ (i2 g e)
theorem zr7 (f:Str) (v:V):∀ fs:List (Str×V),(zcp f v fs).length<=fs.length+1
 | []=>by simp [zcp]
 | (k,x) :: r=>by
   have ih:=zr7 f v r
   rw [show zcp f v ((k,x) :: r)=(if k=f then (k,v) :: r else (k,x) :: zcp f v r) from rfl]
   by_cases hk:k=f
   . rw [if_pos hk,List.length_cons,List.length_cons];omega
   . rw [if_neg hk,List.length_cons,List.length_cons];omega
theorem zc1.some_of {v:V}{o:Option Value} (r:zc1 (some v) o):∃ u,o=some u∧zt v u:=by
 cases o with
 | none=>exact (show False from r).elim
 | some u=>exact ⟨u,rfl,r⟩
theorem zc1.none_of {o:Option Value} (r:zc1 none o):o=none:=by
 cases o with
 | none=>rfl
 | some u=>exact (show False from r).elim
theorem zE9 {v:V}{u:Value} (r:zt v u):PySem.W.handedIn u=true:=by
 cases v with
 | non=>cases (show u=Value.none from r);rfl
 | bl b=>cases (show u=Value.bool b from r);rfl
 | int i=>obtain ⟨t,e⟩:=(show ∃ t,u=Value.int i t from r);cases e;rfl
 | str x=>obtain ⟨t,e⟩:=(show ∃ t,u=Value.str x t from r);cases e;rfl
 | byt b=>obtain ⟨t,e⟩:=(show ∃ t,u=Value.bytes b t from r);cases e;rfl
 | flt b=>obtain ⟨t,e⟩:=(show ∃ t,u=Value.float b t from r);cases e;rfl
 | ref a=>cases (show u=Value.ref a from r);rfl
 | ty n=>cases (show u=Value.type n from r);rfl
section
variable {P:Program}{w:World}{H H':Hp}{h h':Heap}{a C dx:Addr}{fs fs':List (Str×V)}
theorem ziJ (hok:HOk P w H h) (e:H a=some (.ins C dx fs)):∃ mA,zgx h a dx C mA∧(∀ f,zc1 (fs.lookup f) (mA f))∧PySem.Within mA (fs.map (·.1))∧fs.length<=1000∧H dx=some (.own a):=by
 obtain ⟨d,z,ne,ob,mA,n,r,q⟩:=(show zbQ P w H h a (.ins C dx fs) from hok a _ e)
 exact ⟨mA,⟨ob,n,ne⟩,r,q,z,d⟩
end
structure Cls (K:PySem.W.Frag) (C:Addr):Prop where
 pg:PySem.W.plainGet K C Str.empty=true
 hd:PySem.W.hasDictIn K C=true
 po:PySem.W.plainOver K C=true
 sa:PySem.W.findIn K (.ref C) "__setattr__" = some (some (.builtin "object.__setattr__"))
theorem Cls.get {K:PySem.W.Frag}{C:Addr} (c:Cls K C) (f:Str):PySem.W.plainGet K C f=true:=c.pg
noncomputable def zb4 (K:PySem.W.Frag) (C:Addr) (f:Str):Prop:=PySem.W.findIn K (.ref C) f=some none
theorem zb4.taker {K:PySem.W.Frag}{C:Addr}{f:Str} (n:zb4 K C f):PySem.W.takerIn K C f=some none:=by
 unfold PySem.W.takerIn
 rw [show PySem.W.findIn K (.ref C) f=some none from n]
 rfl
structure zfb (K:PySem.W.Frag) (C:Addr) (m:Str) (f:Addr):Prop where
 at_:PySem.W.findIn K (.ref C) m=some (some (.ref f))
 fn:PySem.W.isFn K (.ref f)=true
 kp:PySem.W.keepIn K (.ref f)=true
section
variable {X:Cx}{pins:List (Addr×Obj)}{σ:St}{H:Hp}{s:Shared}{a C dx:Addr}{fs:List (Str×V)}{f:Str}{v:V}{A:Around}{E:Value->Shared->Prop}
theorem zC2 {b:Bool}{Q:Value->Shared->Prop} (I:Inv X pins σ H s) (e:H a=some (.ins C dx fs)) (c:Cls X.K C) (n:zb4 X.K C f) (l:fs.lookup f=some v)
   (h:∀ u s',Inv X pins σ H s'->zt v u->Q u s'):wpAny (model X.prog X.w) A (getAttr (.ref a) f b) Q E s:=by
 obtain ⟨mA,O,r,_,_,_⟩:=ziJ I.hok e
 obtain ⟨u,hu,ru⟩:=zc1.some_of (v:=v) (o:=mA f) (by rw [<- l];exact r f)
 exact zAf I.kIn O (c.get f) c.hd n hu (zE9 ru) (h u _ (I.tok _) ru)
theorem zqa {m:Str}{g:Addr}{pl:Sem Bool}{Q:Value×List Value->Shared->Prop} (I:Inv X pins σ H s) (e:H a=some (.ins C dx fs)) (c:Cls X.K C) (k:zfb X.K C m g) (l:fs.lookup m=none)
   (h:Q (.ref g,[.ref a]) s):wpAny (model X.prog X.w) A (getMethod (.ref a) m pl) Q E s:=by
 obtain ⟨mA,O,r,_,_,_⟩:=ziJ I.hok e
 have hn:mA m=none:=zc1.none_of (by rw [<- l];exact r m)
 exact zCu I.kIn O (c.get m) k.at_ k.fn hn h
theorem zCv {y:V}{u:Value}{Q:Unit->Shared->Prop} (I:Inv X pins σ H s) (e:H a=some (.ins C dx fs)) (c:Cls X.K C) (n:zb4 X.K C f) (hl:fs.length < 1000) (ry:zt y u)
   (h:∀ s',Inv X pins σ (upd H a (.ins C dx (zcp f y fs))) s'->Q () s'):wpAny (model X.prog X.w) A (setAttr (.ref a) f u) Q E s:=by
 obtain ⟨mA,O,r,wi,_,ho⟩:=ziJ I.hok e
 have hz:(fs.map (·.1)).length<=sizeLine:=by rw [List.length_map,sizeLine_eq];omega
 refine zCl I.kIn O c.sa c.po n.taker c.hd wi hz fun h' O' sb=>h _ ?_
 have hd:∃ o,h'.get? dx=some o:=let ⟨o,_,_,e',_⟩:=O'.ns;⟨o,e'⟩
 refine I.write (x:=a) (e:=dx) (by rw [e];exact True.intro) (.inr ho) (fun b q hb z=>(sb.2 b hb).trans z) hd ?_
 refine ⟨by rw [zV O.ne];exact ho,?_,O.ne,O'.obj,_,O'.ns,fun g=>?_,fun g hg=>?_⟩
 . have:=zr7 f y fs;omega
 . show zc1 ((zcp f y fs).lookup g) (if g=f then some u else mA g)
   rw [zsB]
   by_cases q:g=f
   . rw [if_pos q,if_pos q];exact ry
   . rw [if_neg q,if_neg q];exact r g
 . by_cases q:g=f
   . rw [q];exact (zpZ f y fs).1
   . refine (zpZ f y fs).2 g (wi g fun z=>hg ?_)
     show (if g=f then some u else mA g)=none
     rw [if_neg q];exact z
theorem Inv.made (I:Inv X pins σ H s):Inv X pins σ (upd (upd H s.heap.objs.size (.own (s.heap.objs.size+1))) (s.heap.objs.size+1) (.ins C s.heap.objs.size []))
   { s with heap:=(s.heap.push PySem.W.emptyDict).push (PySem.W.instObj C s.heap.objs.size) }:=by
 have e1:(s.heap.push PySem.W.emptyDict).get? s.heap.objs.size=some PySem.W.emptyDict:=Heap.get?_push_size s.heap rfl
 have e2:((s.heap.push PySem.W.emptyDict).push (PySem.W.instObj C s.heap.objs.size)).get? (s.heap.objs.size+1)=some (PySem.W.instObj C s.heap.objs.size):=by
   have:=Heap.get?_push_size (s.heap.push PySem.W.emptyDict) (o:=PySem.W.instObj C s.heap.objs.size) rfl
   rwa [Heap.size_push]at this
 have e3:(s.heap.push PySem.W.emptyDict).Ns s.heap.objs.size (fun _=>none):=⟨PySem.W.emptyDict,#[],_,e1,rfl,(fun e he=>absurd he (by simp)),fun _=>rfl⟩
 have I1:=I.laid (a:=s.heap.objs.size) (o := .own (s.heap.objs.size+1)) (h':=s.heap.push PySem.W.emptyDict) (t':=s.toks) (fun b u q=>Heap.get?_push_of_some _ q) (Nat.le_refl _) ⟨_,e1⟩
 refine I1.laid (a:=s.heap.objs.size+1) (o := .ins C s.heap.objs.size []) (t':=s.toks) (fun b u q=>Heap.get?_push_of_some _ q) (Nat.le_of_eq (Heap.size_push _ _)) ?_
 have ne:s.heap.objs.size≠s.heap.objs.size+1:=Nat.ne_of_lt (Nat.lt_succ_self _)
 refine ⟨by rw [zV ne,zcy],Nat.zero_le _,ne,e2,fun _=>none,(Heap.Ns1.of_empty e3).at fun o q=>Heap.get?_push_of_some _ q,fun _=>True.intro,fun y hy=>absurd rfl hy⟩
theorem zCc {prog:Program}{w:World}{env:Env}{e:Expr}{f:Str}{pos:Pos}{s:Shared}{Q:Value->Shared->Prop} (hb:attributeBase e f env (eval e env)=eval e env)
   (h:wpAny (model prog w) A (eval e env) (fun o s₁=>wpAny (model prog w) A (getAttr o f true) Q E s₁) E s):wpAny (model prog w) A (eval (.Attribute e f pos) env) Q E s :=
 Attribute_any_ h (by rw [arm_eval_Attribute,hb])
end
noncomputable def zBG (K:PySem.W.Frag) (ta:TE) (f:Str):TE:=fun σ H Q=>ta σ H fun x H1=>∃ a C dx fs v,x = .ref a∧H1 a=some (.ins C dx fs)∧Cls K C∧zb4 K C f∧fs.lookup f=some v∧Q v H1
noncomputable def zDk (K:PySem.W.Frag) (ta tv:TE) (f:Str):TS:=fun D σ H=>tv σ H fun y H1=>ta σ H1 fun x H2=>∃ a C dx fs,x = .ref a∧H2 a=some (.ins C dx fs)∧Cls K C∧zb4 K C f∧fs.length < 1000 ∧
 D.nx σ (upd H2 a (.ins C dx (zcp f y fs)))
section
variable {X:Cx}{o e value:Expr}{f:Str}{pos pos' tpos:Pos}{ta tv:TE}
theorem zEq (he:PE X e ta) (hb:attributeBase e f X.env (eval e X.env)=eval e X.env):PE X (.Attribute e f pos) (zBG X.K ta f):=by
 intro pins s σ H Q I h
 refine zCc hb (thn (he pins s σ H _ I h) fun u s1 ⟨x,H1,I1,rx,a,C,dx,fs,v,ex,ea,c,n,l,q⟩=>?_)
 subst ex
 obtain rfl:u=Value.ref a:=rx
 exact zC2 I1 ea c n l fun u' s2 I2 ru=>⟨v,H1,I2,ru,q⟩
theorem zAO (ha:PE X o ta) (hv:PE X value tv) (hs:swapsWith value (some (.Attribute o f pos')) pos.line X.env=pure false):PS X (.Assign [.Attribute o f pos'] value pos) (zDk X.K ta tv f):=by
 intro pins s σ H D I h
 refine plainObj_wpAny_Assign_Attribute (thn (hv pins s σ H _ I h) fun u s1 ⟨y,H1,I1,ry,q⟩=>thn (ha pins s1 σ H1 _ I1 q) fun ov s2 ⟨x,H2,I2,rx,a,C,dx,fs,ex,ea,c,n,l,q2⟩=>?_) hs
 subst ex
 obtain rfl:ov=Value.ref a:=rx
 exact zCv I2 ea c n l ry fun s3 I3=>⟨σ,_,I3,q2⟩
theorem zGo {pl:Sem Bool}{m:Str}{apos:Pos}{args:List Expr}{pins:List (Addr×Obj)}{s:Shared}{σ:St}{H:Hp}{Q:Value->Shared->Prop}{te:TE} (he:PE X e te) (I:Inv X pins σ H s)
   (h:te σ H fun x H1=>∃ a C dx fs g,x = .ref a∧H1 a=some (.ins C dx fs)∧Cls X.K C∧zfb X.K C m g∧fs.lookup m=none ∧
     ∀ s1,Inv X pins σ H1 s1->wpAny (model X.prog X.w) X.A (callWith pos (.ref g) [.ref a] (backTo pos (starEach args X.env)) (backToKw pos (keywordEach [] X.env))) Q X.xe s1)
   (ht:eval (.Call (.Attribute e m apos) args [] pos) X.env=(do
     let ov <- eval e X.env
     standAt apos.atName
     let (f,first) <- holding [ov] (getMethod ov m pl)
     callWith pos f first (backTo pos (starEach args X.env)) (backToKw pos (keywordEach [] X.env)))) :
   wpAny (model X.prog X.w) X.A (eval (.Call (.Attribute e m apos) args [] pos) X.env) Q X.xe s:=by
 refine PySem.W.methodCall_KW (pl:=pl) (thn (he pins s σ H _ I h) fun u s1 ⟨x,H1,I1,rx,a,C,dx,fs,g,ex,ea,c,k,l,q⟩=>?_) ht
 subst ex
 obtain rfl:u=Value.ref a:=rx
 exact zqa I1 ea c k l (q s1 I1)
end
section
variable {X:Cx}{pins:List (Addr×Obj)}{σ:St}{H:Hp}{s:Shared}{A:Around}{E:Value->Shared->Prop}{Q:Value->Shared->Prop}{c:Value}{b:Bool}
inductive zdv (K:PySem.W.Frag) (H:Hp):V->Value->Prop where
 | non:zdv K H .non (.type "NoneType")
 | bl (x:Bool):zdv K H (.bl x) (.type "bool")
 | int (i:Int):zdv K H (.int i) (.type "int")
 | str (x:Str):zdv K H (.str x) (.type "str")
 | flt (x:UInt64):zdv K H (.flt x) (.type "float")
 | lst {a:Addr} {xs:List V} (e:H a=some (.lst xs)):zdv K H (.ref a) (.type "list")
 | frz {a:Addr} {o:Obj} {xs:List V} (e:H a=some (.frz o (.lst xs))):zdv K H (.ref a) (.type "list")
 | tup {a:Addr} {xs:List V} (e:H a=some (.tup xs)):zdv K H (.ref a) (.type "tuple")
 | dK {a:Addr} {kvs:List (Key×V)} (e:H a=some (.dK kvs)):zdv K H (.ref a) (.type "dict")
 | dT {a:Addr} {kvs:List (List Key×V)} (e:H a=some (.dT kvs)):zdv K H (.ref a) (.type "dict")
 | ins {a C dx:Addr} {fs:List (Str×V)} (e:H a=some (.ins C dx fs)) (cl:Cls K C) (ha:PySem.W.findIn K (.ref C) "__class__" = some (some (.builtin "object.__class__")))
     (hn:PySem.W.specialIn K (.builtin "object.__class__") "__get__" = some (some (.builtin "getset_descriptor.__get__"))) (htk:PySem.W.takesIn K (.builtin "object.__class__")=some true)
     (hm:PySem.W.mroIn K C (.type "object")=some true):zdv K H (.ref a) (.ref C)
theorem ztJ {x:V}{u t:Value} (I:Inv X pins σ H s) (rx:zt x u) (ty:zdv X.K H x t) (e:PySem.W.kitOne X.K t c=some b) (h:∀ tk,Q (.bool b) { s with toks:=tk }) :
   wpAny (model X.prog X.w) A (call (.builtin "isinstance") [u,c]) Q E s:=by
 cases ty with
 | non=>cases (show u=Value.none from rx);exact PySem.W.kia_one PySem.W.kitx_none I.kIn True.intro e (fun z=>nomatch z) h
 | bl y=>cases (show u=Value.bool y from rx);exact PySem.W.kia_one PySem.W.kitx_bool I.kIn True.intro e (fun z=>nomatch z) h
 | int i=>obtain ⟨t,q⟩:=(show ∃ t,u=Value.int i t from rx);cases q;exact PySem.W.kia_one PySem.W.kitx_int I.kIn True.intro e (fun z=>nomatch z) h
 | str y=>obtain ⟨t,q⟩:=(show ∃ t,u=Value.str y t from rx);cases q;exact PySem.W.kia_one PySem.W.kitx_str I.kIn True.intro e (fun z=>nomatch z) h
 | flt y=>obtain ⟨t,q⟩:=(show ∃ t,u=Value.float y t from rx);cases q;exact PySem.W.kia_one PySem.W.kitx_float I.kIn True.intro e (fun z=>nomatch z) h
 | @lst a xs ea =>
   cases (show u=Value.ref a from rx)
   obtain ⟨_,_,n,_,h1⟩:=(show zbQ X.prog X.w H s.heap a (.lst xs) from I.hok a _ ea)
   exact PySem.W.kia_one PySem.W.kitx_list I.kIn ⟨_,h1,rfl⟩ e (fun z=>nomatch z) h
 | @frz a ob xs ea =>
   cases (show u=Value.ref a from rx)
   obtain ⟨_,_,_,n,_,h1⟩:=(show zbQ X.prog X.w H s.heap a (.frz ob (.lst xs)) from I.hok a _ ea)
   exact PySem.W.kia_one PySem.W.kitx_list I.kIn ⟨_,h1,rfl⟩ e (fun z=>nomatch z) h
 | @tup a xs ea =>
   cases (show u=Value.ref a from rx)
   obtain ⟨_,_,_,p⟩:=(show zbQ X.prog X.w H s.heap a (.tup xs) from I.hok a _ ea)
   obtain ⟨o,h1,h2,_⟩:=p
   exact PySem.W.kia_one PySem.W.kitx_tuple I.kIn ⟨o,h1,h2⟩ e (fun z=>nomatch z) h
 | @dK a kvs ea =>
   cases (show u=Value.ref a from rx)
   obtain ⟨_,_,vs,_,p⟩:=(show zbQ X.prog X.w H s.heap a (.dK kvs) from I.hok a _ ea)
   obtain ⟨o,es,ep,h1,h2,_⟩:=p
   exact PySem.W.kia_one PySem.W.kitx_dict I.kIn ⟨o,h1,h2.1⟩ e (fun z=>nomatch z) h
 | @dT a kvs ea =>
   cases (show u=Value.ref a from rx)
   obtain ⟨_,_,xs,_,o,es,ep,h1,h2,_⟩:=(show zbQ X.prog X.w H s.heap a (.dT kvs) from I.hok a _ ea)
   exact PySem.W.kia_one PySem.W.kitx_dict I.kIn ⟨o,h1,h2.1⟩ e (fun z=>nomatch z) h
 | @ins a C dx fs ea cl ha hn htk hm =>
   cases (show u=Value.ref a from rx)
   obtain ⟨mA,O,_⟩:=ziJ I.hok ea
   obtain ⟨od,J,_⟩:=O.look
   exact PySem.W.kia_one (PySem.W.kitx_own (cl.get _) cl.hd ha hn htk hm) I.kIn J e (fun z=>nomatch z) h
end
end L2
namespace L2
open PySem PySem.Spec PyProof.Rows
structure zP (k:Nat) (A:Around):Prop where
 hd:A.handled=none
 dp:A.depth+3 * k+5 < recursionLimit
 un:A.units+16 * k+200 < cLine
theorem zP.mono {j k:Nat}{A:Around} (r:zP k A) (h:j<=k):zP j A:=⟨r.hd,by have:=r.dp;omega,by have:=r.un;omega⟩
theorem zP.deeper {k:Nat}{A:Around} (r:zP (k+1) A) (env:Env):zP k (A.deeper env) :=
 ⟨r.hd,by have:=r.dp;show A.depth+1+3 * k+5 < _;omega,by have:=r.un;show A.units+3+16 * k+200 < _;omega⟩
theorem zz3 {A:Around}{C:Addr}{us:List Value}{kw:List (Str×Value)}:(A.under (.builtin "type.__call__" ⟨.ref C :: us,kw⟩)).depth=A.depth+1:=by
 first | rfl | simp [Around.under,Code.weight,Code.isCreation,Code.isGuard,Code.isCaller,Code.frames,Code.isFrame,guardIds]
theorem zAl {A:Around}{C:Addr}{us:List Value}{kw:List (Str×Value)}:(A.under (.builtin "type.__call__" ⟨.ref C :: us,kw⟩)).units=A.units+1:=by
 first | rfl | simp [Around.under,Code.cUnits,Code.frames,Code.isFrame]
theorem zP.make {k:Nat}{A:Around} (r:zP (k+1) A) (C:Addr) (us:List Value) (kw:List (Str×Value)):zP k (A.under (.builtin "type.__call__" ⟨.ref C :: us,kw⟩)) :=
 ⟨r.hd,by have:=r.dp;rw [zz3];omega,by have:=r.un;rw [zAl];omega⟩
theorem zP.depth {k:Nat}{A:Around} (r:zP k A):A.depth < recursionLimit:=by have:=r.dp;omega
theorem zP.units {k:Nat}{A:Around} (r:zP k A):A.units+64 < cLine:=by have:=r.un;omega
noncomputable def zpB:TA:=fun _ H Q=>Q [] H
noncomputable def zsg (ta:TE) (tr:TA):TA:=fun σ H Q=>ta σ H fun x H1=>tr σ H1 fun xs H2=>Q (x :: xs) H2
section
variable {X:Cx}{e:Expr}{es:List Expr}{te:TE}{t:TA}{pos:Pos}
theorem zc5:PA X [] zpB:=fun _ _ _ _ H Q I h=>Calls.spliced_nil ⟨[],H,I,.nil,h⟩
theorem zcP (ha:PE X e te) (hr:PA X es t) (hs:starEach (e :: es) X.env=(false,eval e X.env) :: starEach es X.env:=by rfl):PA X (e :: es) (zsg te t):=by
 intro pos pins s σ H Q I h
 rw [hs]
 show wpAny _ _ (spliced ((false,eval e X.env) :: backTo pos (starEach es X.env))) _ _ s
 refine Calls.spliced_cons (thn (ha pins s σ H _ I h) fun u s1 ⟨x,H1,I1,r1,q1⟩=>?_)
 exact thn (hr pos pins s1 σ H1 _ I1 q1) fun us s2 ⟨xs,H2,I2,r2,q2⟩=>⟨x :: xs,H2,I2,.cons r1 r2,q2⟩
noncomputable def zE3 (t:TA):TE:=fun σ H Q=>t σ H fun xs H1=>xs.length<=sizeLine∧∀ p,H1 p=none->Q (.ref p) (upd H1 p (.tup xs))
noncomputable def zz0 (t:TA):TE:=fun σ H Q=>t σ H fun xs H1=>xs.length<=sizeLine∧∀ p,H1 p=none->Q (.ref p) (upd H1 p (.lst xs))
theorem zBx {x1} (h:PA X es t):PE X (.Tuple es x1 pos) (zE3 t):=by
 intro pins s σ H Q I hq
 refine wpAny_Tuple_spliced (thn (h pos pins s σ H _ I hq) fun us s1 ⟨xs,H1,I1,r,z,q⟩=>⟨by rw [<- r.length];exact z,?_⟩)
 have hf:H1 s1.heap.objs.size=none:=I1.hok.fresh (Nat.le_refl _)
 refine ⟨.ref s1.heap.objs.size,upd H1 s1.heap.objs.size (.tup xs),I1.laid (t':=s1.toks) (fun b u e=>Heap.get?_push_of_some _ e) (Nat.le_refl _) ?_,rfl,q _ hf⟩
 exact ⟨z,us,r,⟨_,Heap.get?_push_size _ rfl,rfl,_,rfl⟩⟩
theorem zBq (h:PA X es t):PE X (.List es pos) (zz0 t):=by
 intro pins s σ H Q I hq
 refine wpAny_List_spliced (thn (h pos pins s σ H _ I hq) fun us s1 ⟨xs,H1,I1,r,z,q⟩=>⟨by rw [<- r.length];exact z,?_⟩)
 have hf:H1 s1.heap.objs.size=none:=I1.hok.fresh (Nat.le_refl _)
 refine ⟨.ref s1.heap.objs.size,upd H1 s1.heap.objs.size (.lst xs),I1.laid (t':=s1.toks) (fun b u e=>Heap.get?_push_of_some _ e) (Nat.le_refl _) ?_,rfl,q _ hf⟩
 exact ⟨z,us,0,r,Heap.get?_push_size _ rfl⟩
end
abbrev Sp:=List V->Hp->VK->XK->Prop
abbrev CXT:=List Env->Hp->Shared->XK->Value->Shared->Prop
structure zgo (P:Program) (w:World) (K:PySem.W.Frag) (mg:Str->Option Value) (base:Heap) (A:Around) (outer:List Env) (s:Shared) (H:Hp):Prop where
 frames:A.frames=some outer
 mod:Mod K mg base
 bs:∀ b o,base.get? b=some o->s.heap.get? b=some o∧H b=none
 bsz:base.objs.size<=s.heap.objs.size
 funs:s.heap.FunFrames base outer
 frf:∀ b∈frs outer,H b=none
 hok:HOk P w H s.heap
 bare:AllBare s.gens
noncomputable def CE (outer:List Env) (P:Program) (w:World) (H:Hp) (s:Shared) (Q:VK) (u:Value) (s':Shared):Prop :=
 ∃ v H',s'.os=s.os∧AllBare s'.gens∧Un (frs outer) [] H H' s.heap s'.heap∧HOk P w H' s'.heap∧zt v u∧Q v H'
noncomputable def CR (CX:CXT) (outer:List Env) (P:Program) (w:World) (H:Hp) (s:Shared) (Q:VK) (E:XK) (r:Result) (s':Shared):Prop :=
 match r with
 | .ok (.ret u)=>CE outer P w H s Q u s'
 | .ok _=>False
 | .error e=>CX outer H s E e s'
structure zK (P:Program) (w:World) (K:PySem.W.Frag) (mg:Str->Option Value) (base:Heap) (CX:CXT) (k:Nat) (f:Addr) (fd:FuncData) (ps:List Str) (sp:Sp):Prop where
 len:∀ vs H Q E,sp vs H Q E->vs.length=ps.length
 run:∀ (A:Around) (outer:List Env) (s:Shared) (H:Hp) (args:Args) (us:List Value) (vs:List V) (Q:VK) (E:XK),zP k A->zgo P w K mg base A outer s H->BindsTo s fd args (ps.zip us)->zA vs us->sp vs H Q E ->
   codeAny (model P w) A (.call (.ref f) args) (CR CX outer P w H s Q E) s
theorem zK.imp {P:Program}{w:World}{K:PySem.W.Frag}{mg:Str->Option Value}{base:Heap}{CX:CXT}{k:Nat}{f:Addr}{fd:FuncData}{ps:List Str}{sp sp':Sp} (F:zK P w K mg base CX k f fd ps sp)
   (h:∀ vs H Q E,sp' vs H Q E->sp vs H Q E):zK P w K mg base CX k f fd ps sp' :=
 ⟨fun vs H Q E q=>F.len vs H Q E (h _ _ _ _ q),fun A outer s H args us vs Q E hr he hb hv hs=>F.run A outer s H args us vs Q E hr he hb hv (h _ _ _ _ hs)⟩
theorem zgo.make {P:Program}{w:World}{K:PySem.W.Frag}{mg:Str->Option Value}{base:Heap}{A:Around}{outer:List Env}{s:Shared}{H:Hp} (e:zgo P w K mg base A outer s H) (C:Addr) (us:List Value) (kw:List (Str×Value)) :
   zgo P w K mg base (A.under (.builtin "type.__call__" ⟨.ref C :: us,kw⟩)) outer s H:=⟨by first | exact e.frames | (simpa [Around.under,Code.envs,Code.isFrame,pushEnvs] using e.frames),e.mod,e.bs,e.bsz,e.funs,e.frf,e.hok,e.bare⟩
section
variable {X:Cx}{pins:List (Addr×Obj)}{σ:St}{H:Hp}{s s':Shared}
theorem Inv.env0 (I:Inv X pins σ H s):zgo X.prog X.w X.K X.mg X.base X.A X.stack s H :=
 ⟨I.ok.frames,I.ok.mod,I.bs,Nat.le_trans I.ok.bsz I.sz,I.stack,I.stkFree,I.hok,I.bare⟩
theorem Inv.after {Q:VK}{u:Value} (I:Inv X pins σ H s) (h:CE X.stack X.prog X.w H s Q u s'):EP X pins σ Q u s':=by
 obtain ⟨v,H',os,bare,un,hok,r,q⟩:=h
 obtain ⟨hh,g,d,t,os'⟩:=s'
 obtain rfl:os'=s.os:=os
 exact ⟨v,H',I.call (h':=hh) (g':=g) (d':=d) (t':=t) (ch:=[]) un hok bare (fun b z=>absurd z (by simp)),r,q⟩
end
noncomputable def zCo (sp:Sp) (dvs:List V) (E:XK) (t:TA):TE:=fun σ H Q=>t σ H fun vs H1=>sp (vs++dvs) H1 Q E
noncomputable def zpX (C:Addr) (m:Str) (sp:Sp) (dvs:List V) (E:XK) (ta:TE) (t:TA):TE:=fun σ H Q=>ta σ H fun x H1=>∃ a dx fs,x = .ref a∧H1 a=some (.ins C dx fs)∧fs.lookup m=none ∧
 t σ H1 fun vs H2=>sp (x :: (vs++dvs)) H2 Q E
noncomputable def zFb (C:Addr) (sp:Sp) (dvs:List V) (E:XK) (t:TA):TE:=fun σ H Q=>t σ H fun vs H1=>∀ x dx,H1 x=none->H1 dx=none->dx≠x ->
 sp (.ref x :: (vs++dvs)) (upd (upd H1 dx (.own x)) x (.ins C dx [])) (fun v H2=>v = .non∧Q (.ref x) H2) E
noncomputable def zdw (K:PySem.W.Frag) (fd:FuncData) (ps:List Str) (ds:List Value):Prop :=
 ∀ (s:Shared) (us:List Value),K.In s.heap->(us++ds).length=ps.length->BindsTo s fd ⟨us,[]⟩ (ps.zip (us++ds))
theorem zdw.all {K:PySem.W.Frag}{fd:FuncData}{ps:List Str} (h:∀ us:List Value,us.length=ps.length->bindArgs fd ⟨us,[]⟩=pure (ps.zip us)):zdw K fd ps []:=fun s us _ hl=>by
 rw [List.append_nil]at hl ⊢
 exact .of_eq (h us hl)
noncomputable def zgn (CX:CXT) (X:Cx) (E:XK):Prop:=∀ (pins:List (Addr×Obj)) (σ:St) (H:Hp) (s:Shared) (e:Value) (s':Shared),Inv X pins σ H s->CX X.stack H s E e s'->X.xe e s'
section
variable {X:Cx}{CX:CXT}{k:Nat}{f C:Addr}{fd:FuncData}{ps:List Str}{sp:Sp}{dvs:List V}{ds:List Value}{E:XK}{x m:Str}{p pos apos:Pos}{e o:Expr}{es:List Expr}{ta:TE}{t:TA}
theorem zpf {pins:List (Addr×Obj)}{σ:St}{H:Hp}{s:Shared}{Q:VK}{us:List Value}{vs:List V} (F:zK X.prog X.w X.K X.mg X.base CX k f fd ps sp) (hr:zP k X.A) (hb:zdw X.K fd ps ds) (hd:zA dvs ds) (hx:zgn CX X E)
   (I:Inv X pins σ H s) (r:zA vs us) (h:sp (vs++dvs) H Q E):wpAny (model X.prog X.w) X.A (call (.ref f) us) (EP X pins σ Q) X.xe s:=by
 have r2:zA (vs++dvs) (us++ds):=r.append hd
 have hl:(us++ds).length=ps.length:=by rw [<- r2.length];exact F.len _ _ _ _ h
 refine wpAny_call (codeAny_mono (F.run X.A X.stack s H ⟨us,[]⟩ (us++ds) (vs++dvs) Q E hr I.env0 (hb s us I.kIn hl) r2 h) fun r s' hq=>?_)
 cases r with
 | error e=>exact hx pins σ H s e s' I hq
 | ok fl =>
   cases fl with
   | ret u=>exact I.after hq
   | next=>exact False.elim hq
   | brk=>exact False.elim hq
   | cont=>exact False.elim hq
theorem zAV (F:zK X.prog X.w X.K X.mg X.base CX k f fd ps sp) (hr:zP k X.A) (hg:Gl X x) (hm:X.mg x=some (.ref f)) (hk:PySem.W.keepIn X.K (.ref f)=true) (hb:zdw X.K fd ps ds) (hd:zA dvs ds) (hx:zgn CX X E)
   (ha:PA X (e :: es) t) (hdb:(x == ("__debug__":Str))=false:=by decide) (he:starEach (e :: es) X.env=(false,eval e X.env) :: starEach es X.env:=by rfl) (hpl:(backTo pos (starEach es X.env)).any (·.1)=false:=by rfl) :
   PE X (.Call (.Name x p) (e :: es) [] pos) (zCo sp dvs E t):=by
 intro pins s σ H Q I h
 refine wpAny_Call_Name_kw (zo4 I hg hm ?_ hdb)
 refine PySem.W.callWith_K (h₀:=X.base) I.ok.mod.kin hk (thn (ha pos pins s σ H _ I h) fun us s1 ⟨vs,H1,I1,r,q⟩=>⟨I1.kIn,?_⟩) he hpl
 exact zpf F hr hb hd hx I1 r q
theorem zzS {pl:Sem Bool} (he:PE X o ta) (c:Cls X.K C) (hm:zfb X.K C m f) (F:zK X.prog X.w X.K X.mg X.base CX k f fd ps sp) (hr:zP k X.A) (hb:zdw X.K fd ps ds) (hd:zA dvs ds) (hx:zgn CX X E) (ha:PA X (e :: es) t)
   (hst:starEach (e :: es) X.env=(false,eval e X.env) :: starEach es X.env:=by rfl) (hpl:(backTo pos (starEach es X.env)).any (·.1)=false:=by rfl)
   (ht:eval (.Call (.Attribute o m apos) (e :: es) [] pos) X.env=(do
     let ov <- eval o X.env
     standAt apos.atName
     let (f,first) <- holding [ov] (getMethod ov m pl)
     callWith pos f first (backTo pos (starEach (e :: es) X.env)) (backToKw pos (keywordEach [] X.env))):=by rfl) :
   PE X (.Call (.Attribute o m apos) (e :: es) [] pos) (zpX C m sp dvs E ta t):=by
 intro pins s σ H Q I h
 refine PySem.W.methodCall_KW (pl:=pl) (thn (he pins s σ H _ I h) fun u s1 ⟨x,H1,I1,rx,a,dx,fs,ex,ea,l,q⟩=>?_) ht
 subst ex
 obtain rfl:u=Value.ref a:=rx
 refine zqa I1 ea c hm l ?_
 refine PySem.W.callWith_K (first:=[.ref a]) (h₀:=X.base) I.ok.mod.kin hm.kp (thn (ha pos pins s1 σ H1 _ I1 q) fun us s2 ⟨vs,H2,I2,r,q2⟩=>⟨I2.kIn,?_⟩) hst hpl
 exact zpf (us := .ref a :: us) (vs := .ref a :: vs) F hr hb hd hx I2 (.cons rfl r) q2
theorem zCd {pl:Sem Bool} (he:PE X o ta) (c:Cls X.K C) (hm:zfb X.K C m f) (F:zK X.prog X.w X.K X.mg X.base CX k f fd ps sp) (hr:zP k X.A) (hb:zdw X.K fd ps ds) (hd:zA dvs ds) (hx:zgn CX X E)
   (ht:eval (.Call (.Attribute o m apos) [] [] pos) X.env=(do
     let ov <- eval o X.env
     standAt apos.atName
     let (f,first) <- holding [ov] (getMethod ov m pl)
     callWith pos f first (backTo pos (starEach [] X.env)) (backToKw pos (keywordEach [] X.env))):=by rfl) :
   PE X (.Call (.Attribute o m apos) [] [] pos) (zpX C m sp dvs E ta zpB):=by
 intro pins s σ H Q I h
 refine PySem.W.methodCall_KW (pl:=pl) (thn (he pins s σ H _ I h) fun u s1 ⟨x,H1,I1,rx,a,dx,fs,ex,ea,l,q⟩=>?_) ht
 subst ex
 obtain rfl:u=Value.ref a:=rx
 refine zqa I1 ea c hm l ?_
 exact PySem.W.callWith_K0 (first:=[.ref a]) I1.kIn hm.kp (zpf (us:=[.ref a]) (vs:=[.ref a]) F hr hb hd hx I1 (.cons rfl .nil) q)
structure Mk (K:PySem.W.Frag) (C f:Addr):Prop where
 makes:PySem.W.makesIn K C=true
 init:PySem.W.findIn K (.ref C) "__init__" = some (some (.ref f))
 fn:PySem.W.isFn K (.ref f)=true
 kp:PySem.W.keepIn K (.ref C)=true
theorem zBw {pins:List (Addr×Obj)}{σ:St}{H:Hp}{s:Shared}{Q:VK}{us:List Value}{vs:List V} (M:Mk X.K C f) (F:zK X.prog X.w X.K X.mg X.base CX k f fd ps sp) (hr:zP (k+1) X.A) (hb:zdw X.K fd ps ds) (hd:zA dvs ds)
   (hx:zgn CX X E) (I:Inv X pins σ H s) (r:zA vs us)
   (h:∀ x dx,H x=none->H dx=none->dx≠x->sp (.ref x :: (vs++dvs)) (upd (upd H dx (.own x)) x (.ins C dx [])) (fun v H2=>v = .non∧Q (.ref x) H2) E) :
   wpAny (model X.prog X.w) X.A (call (.ref C) us) (EP X pins σ Q) X.xe s:=by
 have hq:=h (s.heap.objs.size+1) s.heap.objs.size (I.hok.fresh (Nat.le_succ _)) (I.hok.fresh (Nat.le_refl _)) (Nat.ne_of_lt (Nat.lt_succ_self _))
 have I2:=Inv.made (C:=C) I
 have r2:zA (V.ref (s.heap.objs.size+1) :: (vs++dvs)) (Value.ref (s.heap.objs.size+1) :: (us++ds)) := .cons rfl (r.append hd)
 have hl:(Value.ref (s.heap.objs.size+1) :: us++ds).length=ps.length:=by
   have e:=r2.length
   rw [F.len _ _ _ _ hq]at e
   exact e.symm
 refine wpAny_call (zAw (f:=f) I.kIn M.makes M.init (beq_iff_eq.mp M.fn) (codeAny_mono (F.run _ X.stack _ _ ⟨Value.ref (s.heap.objs.size+1) :: us,[]⟩ (Value.ref (s.heap.objs.size+1) :: (us++ds)) _ _ E (hr.make C us [])
   (I2.env0.make C us []) (hb _ (Value.ref (s.heap.objs.size+1) :: us) I2.kIn hl) r2 hq) fun r s' hq'=>?_))
 cases r with
 | error e=>exact hx pins σ _ _ e s' I2 hq'
 | ok fl =>
   cases fl with
   | ret u =>
     obtain ⟨v,H',I3,rv,ev,q3⟩:=I2.after hq'
     subst ev
     exact ⟨rv,⟨V.ref (s.heap.objs.size+1),H',I3,rfl,q3⟩⟩
   | next=>exact False.elim hq'
   | brk=>exact False.elim hq'
   | cont=>exact False.elim hq'
theorem zE4 (M:Mk X.K C f) (F:zK X.prog X.w X.K X.mg X.base CX k f fd ps sp) (hr:zP (k+1) X.A) (hg:Gl X x) (hm:X.mg x=some (.ref C)) (hb:zdw X.K fd ps ds) (hd:zA dvs ds) (hx:zgn CX X E)
   (ha:PA X (e :: es) t) (hdb:(x == ("__debug__":Str))=false:=by decide) (he:starEach (e :: es) X.env=(false,eval e X.env) :: starEach es X.env:=by rfl) (hpl:(backTo pos (starEach es X.env)).any (·.1)=false:=by rfl) :
   PE X (.Call (.Name x p) (e :: es) [] pos) (zFb C sp dvs E t):=by
 intro pins s σ H Q I h
 refine wpAny_Call_Name_kw (zo4 I hg hm ?_ hdb)
 refine PySem.W.callWith_K (h₀:=X.base) I.ok.mod.kin M.kp (thn (ha pos pins s σ H _ I h) fun us s1 ⟨vs,H1,I1,r,q⟩=>⟨I1.kIn,?_⟩) he hpl
 exact zBw M F hr hb hd hx I1 r q
end
section
variable {X:Cx}{CX:CXT}{k:Nat}{f C:Addr}{fd:FuncData}{ps ks:List Str}{sp:Sp}{E:XK}{x m:Str}{p pos apos kpos:Pos}{e o:Expr}{es:List Expr}{kws:List Keyword}{te ta:TE}{t tk:TA}{nm:Option Str}
variable {g:List Value->List Value->List Value}{gV:List V->List V->List V}
end
structure z6 (N P:List Str) (sc:Scope):Prop where
 kind:sc.kind = .function
 co:sc.isCoroutine=false
 gen:sc.isGenerator=false
 nd:N.Nodup
 pre:N.take P.length=P
 par:∀ x∈P,sc.names.lookup x=some .local∨sc.names.lookup x=some .cell
 nofree:∀ y∈sc.names,y.2 ≠ .free
theorem zsl {kindOf:Str->Option NameKind}{x:Str}:∀ {binds:List (Str×Value)}{m:Str->Option Value},(∀ v,(x,v)∉binds)->bindL kindOf binds m x=m x
 | [],_,_=>rfl
 | (n,v) :: r,m,h=>by
   unfold bindL
   rw [zsl fun w hw=>h w (List.mem_cons_of_mem _ hw)]
   split
   . have:x≠n:=by rintro rfl;exact h v List.mem_cons_self
     simp [this]
   . rfl
theorem zsZ {kindOf:Str->Option NameKind}{x:Str}:∀ {binds:List (Str×Value)}{m:Str->Option Value},(∀ v,(x,v)∉binds)->bindC kindOf binds m x=m x
 | [],_,_=>rfl
 | (n,v) :: r,m,h=>by
   unfold bindC
   rw [zsZ fun w hw=>h w (List.mem_cons_of_mem _ hw)]
   split
   . rfl
   . have:x≠n:=by rintro rfl;exact h v List.mem_cons_self
     simp [this]
theorem zrL {kindOf:Str->Option NameKind}{x:Str}{v:Value}:∀ {P:List Str}{vs:List Value}{i:Nat}{m:Str->Option Value},P.Nodup->P[i]?=some x->vs[i]?=some v->kindOf x=some .local ->
   bindL kindOf (P.zip vs) m x=some v
 | [],_,_,_,_,h,_,_=>by simp at h
 | _ :: _,[],_,_,_,_,h,_=>by simp at h
 | p :: P,w :: vs,0,m,nd,h1,h2,hk=>by
   simp at h1 h2;subst h1;subst h2
   show bindL kindOf ((p,w) :: P.zip vs) m p=_
   unfold bindL
   rw [zsl fun v hv=>(List.nodup_cons.mp nd).1 (List.of_mem_zip hv).1,if_pos hk]
   simp
 | p :: P,w :: vs,i+1,m,nd,h1,h2,hk=>by
   show bindL kindOf ((p,w) :: P.zip vs) m x=_
   unfold bindL
   exact zrL (i:=i) (List.nodup_cons.mp nd).2 (by simpa using h1) (by simpa using h2) hk
theorem ztj {kindOf:Str->Option NameKind}{x:Str}{v:Value}:∀ {P:List Str}{vs:List Value}{i:Nat}{m:Str->Option Value},P.Nodup->P[i]?=some x->vs[i]?=some v->kindOf x≠some .local ->
   bindC kindOf (P.zip vs) m x=some v
 | [],_,_,_,_,h,_,_=>by simp at h
 | _ :: _,[],_,_,_,_,h,_=>by simp at h
 | p :: P,w :: vs,0,m,nd,h1,h2,hk=>by
   simp at h1 h2;subst h1;subst h2
   show bindC kindOf ((p,w) :: P.zip vs) m p=_
   unfold bindC
   rw [zsZ fun v hv=>(List.nodup_cons.mp nd).1 (List.of_mem_zip hv).1,if_neg hk]
   simp
 | p :: P,w :: vs,i+1,m,nd,h1,h2,hk=>by
   show bindC kindOf ((p,w) :: P.zip vs) m x=_
   unfold bindC
   exact ztj (i:=i) (List.nodup_cons.mp nd).2 (by simpa using h1) (by simpa using h2) hk
noncomputable def start (N:List Str) (vs:List V):St:=vs.map some++List.replicate (N.length - vs.length) none
noncomputable def zgr (CX:CXT) (P:Program) (w:World) (K:PySem.W.Frag) (mg:Str->Option Value) (base:Heap) (N:List Str) (qual:Str) (scope:Scope) (f:Addr) (cd:Value) (A:Around) (outer:List Env) (s:Shared) (H:Hp) (E:XK):Cx where
 prog:=P
 w:=w
 K:=K
 mg:=mg
 base:=base
 A:=A.deeper (envOfC qual scope s.heap.objs.size f cd)
 N:=N
 s₀:=s
 H₀:=H
 env:=envOfC qual scope s.heap.objs.size f cd
 outer:=outer
 stack:=envOfC qual scope s.heap.objs.size f cd :: outer
 ex:=[]
 calm:=true
 fn:=fun _=>true
 pn:=[]
 xe:=fun e s'=>wpAny (model P w) (A.deeper (envOfC qual scope s.heap.objs.size f cd)) (leaving (envOfC qual scope s.heap.objs.size f cd) e) (fun _ s''=>CX outer H s E e s'') (fun e' s''=>CX outer H s E e' s'') s'
theorem ztS {sc:Scope}{n:Nat}{x:Str} (h:sc.names.lookup x=some .cell):∃ c,(cellsFrom n sc.names []).lookup x=some c:=by
 have q:=PySem.W.cellsFrom_some sc.names n [] (.inl h)
 exact Option.isSome_iff_exists.mp q
theorem zz2 {CX:CXT}{P:Program}{w:World}{K:PySem.W.Frag}{mg:Str->Option Value}{base:Heap}{N ps:List Str}{qual:Str}{scope:Scope}{f:Addr}{cd:Value}{A:Around}{outer:List Env}{s s1:Shared}{H:Hp}{E:XK}{us:List Value}{vs:List V}
   (S:z6 N ps scope) (hd:A.handled=none) (e0:zgo P w K mg base A outer s H) (hl:vs.length=ps.length) (r:zA vs us)
   (x:InCallC s s.heap.objs.size (bindL (envOfC qual scope s.heap.objs.size f cd).kindOf (ps.zip us) fun _=>none) (cellsFrom (s.heap.objs.size+1) scope.names []) (bindC (envOfC qual scope s.heap.objs.size f cd).kindOf (ps.zip us) fun _=>none) s1) :
   Inv (zgr CX P w K mg base N qual scope f cd A outer s H E) [] (start N vs) H s1:=by
 have hpl:ps.length<=N.length:=by have:=congrArg List.length S.pre;rw [List.length_take]at this;omega
 obtain ⟨h1,tk,rfl,hk⟩:=x.done
 have noA:∀ b:Addr,b∉(zgr CX P w K mg base N qual scope f cd A outer s H E).ex:=fun b z=>absurd (show b∈([]:List Addr) from z) (by simp)
 refine ⟨⟨e0.mod,S.kind,rfl,rfl,Nat.le_refl _,fun y z c h1 h2=>?_,fun y hy=>?_,fun y c _ h=>?_,fun _=>hd,Around.frames_deeper e0.frames,.inr ⟨rfl,rfl⟩,fun b z=>absurd z (noA b),e0.bs,e0.bsz,fun b _ _=>noA b,fun b z=>absurd z (noA b),e0.funs,e0.frf⟩,
   rfl,e0.bare,Un.kept hk,⟨_,x.toInCall.ns,fun i y v h1 h2 h3=>?_⟩,fun y c h=>⟨_,x.cell y c h⟩,e0.hok.fresh (Nat.le_refl _),fun y c h=>?_,fun p hp=>absurd (show p∈([]:List (Addr×Obj)) from hp) (by simp),e0.hok.kept hk,?_⟩
 . exact name_of_addr x.apart (PySem.mem_of_lookup h1) (PySem.mem_of_lookup h2)
 . have hy:scope.names.lookup y=some .cell∨scope.names.lookup y=some .free:=hy
   rcases hy with hy | hy
   . exact ztS hy
   . exact absurd rfl (S.nofree _ (PySem.mem_of_lookup hy))
 . exact Nat.le_of_lt (x.above y c (PySem.mem_of_lookup h))
 . have hi:i < vs.length:=by
     unfold start at h2
     by_cases hi:i < vs.length
     . exact hi
     . rw [List.getElem?_append_right (by simpa using hi)]at h2
       rw [List.getElem?_replicate]at h2
       split at h2 <;> cases h2
   have ha:vs[i]?=some v:=by
     unfold start at h2
     rw [List.getElem?_append_left (by simpa using hi),List.getElem?_map]at h2
     cases e:vs[i]? with
     | none=>rw [e]at h2;cases h2
     | some a=>rw [e]at h2;cases h2;rfl
   obtain ⟨u,hu,rv⟩:=r.get ha
   have hp:ps[i]?=some y:=by
     rw [<- S.pre,List.getElem?_take_of_lt (by omega)];exact h1
   have ndP:ps.Nodup:=by rw [<- S.pre];exact S.nd.sublist (List.take_sublist _ _)
   refine ⟨u,rv,?_⟩
   rcases S.par y (List.mem_of_getElem? hp) with k | k
   . exact .inl ⟨k,zrL ndP hp hu k⟩
   . obtain ⟨c,e⟩:=ztS (n:=s.heap.objs.size+1) k
     refine .inr ⟨.inl k,c,e,?_⟩
     have q:=x.cell y c e
     rw [ztj ndP hp hu (by show scope.names.lookup y≠_;rw [k];decide)]at q
     exact q
 . exact e0.hok.fresh (Nat.le_of_lt (x.above y c (PySem.mem_of_lookup h)))
 . unfold start
   show _=N.length
   rw [List.length_append,List.length_map,List.length_replicate]
   omega
theorem zzR {CX:CXT}{P:Program}{w:World}{K:PySem.W.Frag}{mg:Str->Option Value}{base:Heap}{k:Nat}{f:Addr}{name qual:Str}{params:Arguments}{body:List Stmt}{scope:Scope}{dV kV doc pm cdv ct oc:Value}{an od:Option Addr}
   {osl:Array (Option Value)} {N ps:List Str} {sp:Sp} (lk:K.lookup f=some ⟨oc,od,.func (PySem.W.fnOf name qual params body scope dV kV doc pm an cdv ct),osl⟩) (hcd:PySem.W.codeIn K cdv qual=true) (S:z6 N ps scope)
   (len:∀ vs H Q E,sp vs H Q E->vs.length=ps.length)
   (hbody:∀ (A:Around) (outer:List Env) (s:Shared) (H:Hp) (vs:List V) (Q:VK) (E:XK),zP k (A.deeper (envOfC qual scope s.heap.objs.size f cdv))->sp vs H Q E ->
     ∃ t,PSs (zgr CX P w K mg base N qual scope f cdv A outer s H E) body t∧t { nx:=fun _ H'=>Q .non H',rt:=Q } (start N vs) H) :
   zK P w K mg base CX (k+1) f (PySem.W.fnOf name qual params body scope dV kV doc pm an cdv ct) ps sp:=by
 refine ⟨len,fun A outer s H args us vs Q E hr e0 hb r hsp=>?_⟩
 have hl:=len _ _ _ _ hsp
 have KX:K.In s.heap:=e0.mod.kin.keeps fun b o e=>(e0.bs b o e).1
 have lim:s.heap.NoLimit:=e0.mod.nolimit.keeps fun b o e=>(e0.bs b o e).1
 have hkind:∀ y∈ps.zip us,scope.names.lookup y.1=some .local∨(scope.names.lookup y.1=some .cell∧((cellsFrom (s.heap.objs.size+1) scope.names []).lookup y.1).isSome=true):=fun ⟨n,v⟩ hy=>by
   rcases S.par n (List.of_mem_zip hy).1 with q | q
   . exact .inl q
   . exact .inr ⟨q,PySem.W.cellsFrom_some _ _ _ (.inl q)⟩
 refine codeAny_call_function hr.depth (KX _ _ lk) rfl S.co S.gen rfl (PySem.W.codeRec_of KX hcd) (hb _ _ _ _ ?_)
 refine wpAny_newFunctionEnv_cells S.kind hkind fun env he s1 x=>?_
 subst he
 refine ⟨lim.keeps x.toInCall.keep,codeAny_func ?_⟩
 obtain ⟨t,ht,hq⟩:=hbody A outer s H vs Q E (hr.deeper _) hsp
 have I:Inv (zgr CX P w K mg base N qual scope f cdv A outer s H E) [] (start N vs) H s1:=zz2 S hr.hd e0 hl r x
 refine wpAny_mono (ht [] s1 (start N vs) H _ I hq) (fun fl s' hs=>?_) fun e s' hs=>hs
 have fin:∀ {σ':St} {H':Hp} {v:V} {u:Value},Inv (zgr CX P w K mg base N qual scope f cdv A outer s H E) [] σ' H' s'->zt v u->Q v H'->CE outer P w H s Q u s' :=
   fun {σ' H' v u} J rv q=>⟨v,H',J.os,J.bare,J.base,J.hok,rv,q⟩
 cases fl with
 | ret u =>
   obtain ⟨v,σ',H',J,rv,q⟩:=hs
   exact fin J rv q
 | next =>
   obtain ⟨σ',H',J,q⟩:=hs
   exact fin (v:=V.non) (u:=Value.none) J rfl q
 | brk =>
   obtain ⟨_,_,_,q⟩:=hs
   exact False.elim q
 | cont =>
   obtain ⟨_,_,_,q⟩:=hs
   exact False.elim q
end L2
namespace L2
open PySem PySem.Spec PyProof.Rows
section
variable {X:Cx}{x:Str}{p pos:Pos}{e:Expr}{es:List Expr}{t:TA}{id T:String}{r:List V->Hp->VK->Prop}
noncomputable def tCB (r:List V->Hp->VK->Prop) (t:TA):TE:=fun σ H Q=>t σ H fun vs H1=>r vs H1 Q
theorem ze9 (hc:zdn X (.builtin id) r) (hg:Gl X x) (hm:X.mg x=none) (hv:bootBuiltins x=some (.builtin id)) (ha:PA X (e :: es) t) (hn:x ≠ "__name__":=by decide) (hdb:(x == ("__debug__":Str))=false:=by decide)
   (he:starEach (e :: es) X.env=(false,eval e X.env) :: starEach es X.env:=by rfl) (hpl:(backTo pos (starEach es X.env)).any (·.1)=false:=by rfl):PE X (.Call (.Name x p) (e :: es) [] pos) (tCB r t):=by
 intro pins s σ H Q I h
 refine wpAny_Call_Name_kw (zgC I hg hm hv ?_ hn hdb)
 exact PyProof.Rows.callWith_builtin1 (thn (ha pos pins s σ H _ I h) fun us s1 ⟨vs,H1,I1,r1,q1⟩=>hc pins s1 σ H1 vs us Q I1 r1 q1) he hpl
theorem ziE (hc:zdn X (.type T) r) (hg:Gl X x) (hm:X.mg x=none) (hv:bootBuiltins x=some (.type T)) (ha:PA X (e :: es) t) (hn:x ≠ "__name__":=by decide) (hdb:(x == ("__debug__":Str))=false:=by decide)
   (he:starEach (e :: es) X.env=(false,eval e X.env) :: starEach es X.env:=by rfl) (hpl:(backTo pos (starEach es X.env)).any (·.1)=false:=by rfl):PE X (.Call (.Name x p) (e :: es) [] pos) (tCB r t):=by
 intro pins s σ H Q I h
 refine wpAny_Call_Name_kw (zgC I hg hm hv ?_ hn hdb)
 exact PyProof.Rows.callWith_type1 (thn (ha pos pins s σ H _ I h) fun us s1 ⟨vs,H1,I1,r1,q1⟩=>hc pins s1 σ H1 vs us Q I1 r1 q1) he hpl
end
end L2
namespace HT
open PySem PyProof.Rows
section
open PySem.SeqAt
open PySem.AutoSeq1 (wpAny_loadPart')
open PySem.MeetsSeq PySem.MeetsSeq2 PySem.MeetsSeq3
end
section
variable {prog:Program}{w:World}{A:Around}{E:Value->Shared->Prop}{s:Shared}
noncomputable def sIx (n d:Nat):Option Int->Nat
 | none=>d
 | some v=>if v < 0 then (v+(n:Int)).toNat else min v.toNat n
theorem zAp (n d:Nat) (hd:d<=n) (o:Option Int):sIx n d o<=n:=by
 cases o with
 | none=>exact hd
 | some v =>
   show (if v < 0 then (v+(n:Int)).toNat else min v.toNat n)<=n
   by_cases hv:v < 0
   . rw [if_pos hv];omega
   . rw [if_neg hv];exact Nat.min_le_right _ _
theorem clip_eq (v:Int) (n d:Nat):(if v < 0 then max (v+(n:Int)) 0 else min v (n:Int))=((sIx n d (some v):Nat):Int):=by
 show (if v < 0 then max (v+(n:Int)) 0 else min v (n:Int))=(((if v < 0 then (v+(n:Int)).toNat else min v.toNat n):Nat):Int)
 by_cases hv:v < 0
 . simp only [if_pos hv];omega
 . simp only [if_neg hv];omega
theorem zDQ (lo hi:Option Int) (n:Nat):Builtin.Slice.sliceAdjust lo hi 1 (n:Int)=(((sIx n 0 lo:Nat):Int),((sIx n n hi:Nat):Int)):=by
 have h1:¬ ((1:Int) < 0):=by omega
 unfold Builtin.Slice.sliceAdjust
 simp only [h1,if_false]
 refine Prod.ext ?_ ?_
 . cases lo with
   | none=>rfl
   | some v=>exact clip_eq v n 0
 . cases hi with
   | none=>rfl
   | some v=>exact clip_eq v n n
theorem zEn (i j:Nat):Builtin.Slice.slicePlaces (i:Int) (j:Int) 1=j - i:=by
 unfold Builtin.Slice.slicePlaces
 have h1:(1:Int) > 0:=by omega
 simp only [h1,if_true,Int.ediv_one]
 split <;> omega
theorem slicePart_ {v:Value}{o:Option Int}{Q:Option Int->Shared->Prop} (p:IsPart v o) (h:Q o s):wpAny (model prog w) A (Builtin.Slice.slicePartIndex v) Q E s:=by
 cases p with
 | none=>exact slicePart_none h
 | int i t=>exact slicePart_int h
theorem zEd {sl:Addr}{vl vu:Value}{lo hi:Option Int}{n:Nat}{Q:Int×Int×Nat->Shared->Prop} (hs:s.heap.IsSliceOf sl vl vu .none) (pl:IsPart vl lo) (pu:IsPart vu hi)
   (h:Q (((sIx n 0 lo:Nat):Int),1,sIx n n hi - sIx n 0 lo) s):wpAny (model prog w) A (Builtin.Slice.sliceApplied (.ref sl) (pure (n:Int))) Q E s:=by
 obtain ⟨os,hos,hcs,hds⟩:=id hs
 unfold Builtin.Slice.sliceApplied Builtin.Slice.sliceFields
 refine wpAny_bind (wpAny_bind (wpAny_field hos hds (x:=vl) rfl (wpAny_bind (wpAny_field hos hds (x:=vu) rfl (wpAny_bind (wpAny_field hos hds (x := .none) rfl (wpAny_pure ?_)))))))
 refine wpAny_bind (slicePart_none ?_)
 show wpAny _ _ (if ((1:Int) == 0)=true then _ else _) _ _ s
 rw [if_neg (by decide)]
 refine wpAny_bind (slicePart_ pl (wpAny_bind (slicePart_ pu (wpAny_bind (wpAny_pure ?_)))))
 show wpAny _ _ (match Builtin.Slice.sliceAdjust lo hi 1 (n:Int) with | (lo,hi)=>pure (lo,(1:Int),Builtin.Slice.slicePlaces lo hi 1)) _ _ s
 rw [zDQ lo hi n]
 show wpAny _ _ (pure (((sIx n 0 lo:Nat):Int),(1:Int),Builtin.Slice.slicePlaces ((sIx n 0 lo:Nat):Int) ((sIx n n hi:Nat):Int) 1)) _ _ s
 rw [zEn]
 exact wpAny_pure h
theorem zAd (xs:Array Value) (i k:Nat):((List.range k).filterMap fun (m:Nat)=>xs[((i:Int)+(m:Int) * 1).toNat]?).toArray=((xs.toList.drop i).take k).toArray:=by
 have e:(fun (m:Nat)=>xs[((i:Int)+(m:Int) * 1).toNat]?)=fun m=>xs[i+m]?:=by
   funext m
   have:((i:Int)+(m:Int) * 1).toNat=i+m:=by omega
   rw [this]
 rw [e]
 have:=pick_run xs i k
 rw [List.filterMap_map]at this
 have e2:((fun x=>xs[x]?) ∘ fun x=>i+x)=fun m=>xs[i+m]?:=rfl
 rw [e2]at this
 rw [this]
theorem getItem_tuple_cut {t sl:Addr}{items:Array Value}{vl vu:Value}{lo hi:Option Int}{Q:Value->Shared->Prop} (ht:IsTup s.heap t items) (hs:s.heap.IsSliceOf sl vl vu .none) (pl:IsPart vl lo) (pu:IsPart vu hi)
   (hw:¬ (sIx items.size 0 lo=0∧sIx items.size items.size hi=items.size))
   (h:Q (.ref s.heap.objs.size) { s with heap:=s.heap.push { cls := .type "tuple",data := .seq ((items.toList.drop (sIx items.size 0 lo)).take (sIx items.size items.size hi - sIx items.size 0 lo)).toArray } })
   (hsz:items.size<=sizeLine):wpAny (model prog w) A (getItem (.ref t) (.ref sl)) Q E s:=by
 have htake:sizeOk (.seq ((items.toList.drop (sIx items.size 0 lo)).take (sIx items.size items.size hi - sIx items.size 0 lo)).toArray):=by
   show ((items.toList.drop (sIx items.size 0 lo)).take (sIx items.size items.size hi - sIx items.size 0 lo)).toArray.size<=sizeLine
   rw [List.size_toArray,List.length_take,List.length_drop,Array.length_toList]
   omega
 have hj:sIx items.size items.size hi<=items.size:=zAp _ _ (Nat.le_refl _) hi
 obtain ⟨os,hos,hcs,hds⟩:=id hs
 have hTs:s.TypeIs (.ref sl) "slice":=⟨os,hos,hcs⟩
 unfold getItem
 try with_reducible refine wpAny_holding ?_
 first | refine wpAny_bind (wpAny_pure ?_) | skip
 refine wpAny_bind (wpAny_sequenceKey ht.typeIs (by decide) ?_)
 refine wpAny_bind (wpAny_callSpecial?_slot (name:=Str.ofString "__getitem__") ht.typeIs PyProof.Rows.slot_tuple_getitem
   (wpAny_call_entry PyProof.Rows.slot_tuple_getitem ht.typeIs entry_tuple_getitem ?_ (args_tuple_getitem _ _)))
 show wpAny _ _ (Builtin.Tuple.tupleItemsOf (.ref t) >>= _) _ _ s
 refine wpAny_bind (tupleItemsOf_ ht ?_)
 refine wpAny_bind (wpAny_typeOf hTs ?_)
 rw [if_pos (by decide)]
 refine wpAny_bind (zEd hs pl pu ?_)
 have hno:¬ ((((sIx items.size 0 lo:Nat):Int) == 0 && (1:Int) == 1 && (sIx items.size items.size hi - sIx items.size 0 lo) == items.size)=true):=by
   intro q
   rw [Bool.and_eq_true,Bool.and_eq_true]at q
   have q1:((sIx items.size 0 lo:Nat):Int)=0:=eq_of_beq q.1.1
   have q2:sIx items.size items.size hi - sIx items.size 0 lo=items.size:=eq_of_beq q.2
   exact hw ⟨by omega,by omega⟩
 show wpAny _ _ (if (((sIx items.size 0 lo:Nat):Int) == 0 && (1:Int) == 1 && (sIx items.size items.size hi - sIx items.size 0 lo) == items.size)=true then _ else _) _ _ s
 rw [if_neg hno,zAd]
 first
   | exact wpAny_bind (m:=Builtin.Tuple.tupleExact _) (wpAny_newObj_type (wpAny_pure ⟨_,rfl,wpAny_pure h⟩) htake)
   | exact wpAny_bind (m:=Builtin.Tuple.tupleExact _) (wpAny_newObj_type (wpAny_bind (wpAny_pure (wpAny_pure ⟨_,rfl,wpAny_pure h⟩))) htake)
   | exact wpAny_bind (wpAny_bind (m:=Builtin.Tuple.tupleExact _) (wpAny_newObj_type (wpAny_pure (wpAny_pure ⟨_,rfl,wpAny_pure h⟩)) htake))
   | exact wpAny_bind (wpAny_bind (m:=Builtin.Tuple.tupleExact _) (wpAny_newObj_type (wpAny_pure ⟨_,rfl,wpAny_pure h⟩) htake))
end
end HT
namespace L2
open PySem PySem.Spec PyProof.Rows
abbrev TO:=St->Hp->(Option Int->Hp->Prop)->Prop
noncomputable def PO (X:Cx) (e:Option Expr) (t:TO):Prop :=
 ∀ (pins:List (Addr×Obj)) (s:Shared) (σ:St) (H:Hp) (Q:Option Int->Hp->Prop),Inv X pins σ H s->t σ H Q ->
   wpAny (model X.prog X.w) X.A (evalPart e X.env) (fun u s'=>∃ o H',Inv X pins σ H' s'∧IsPart u o∧Q o H') X.xe s
noncomputable def zEg:TO:=fun _ H Q=>Q none H
noncomputable def zEH (t:TE):TO:=fun σ H Q=>t σ H fun x H1=>∃ i,x = .int i∧Q (some i) H1
theorem zsX {ns:List Int}:∀ {us:List Value},zA (ns.map V.int) us->IntsAre us ns:=by
 induction ns with
 | nil=>intro us r;rw [List.map_nil]at r;cases r;exact .nil
 | cons n ns ih =>
   intro us r
   rw [List.map_cons]at r
   cases r with
   | cons r1 r2 =>
     obtain ⟨t,e⟩:=r1
     subst e
     exact .cons n t (ih r2)
section
variable {X:Cx}{e:Expr}{te:TE}{lo hi:Option Expr}{tl th:TO}{pos p2:Pos}
theorem zsE:PO X none zEg:=by
 intro pins s σ H Q I h
 rw [evalPart_none]
 exact wpAny_pure ⟨none,H,I,.none,h⟩
theorem zpo (h:PE X e te):PO X (some e) (zEH te):=by
 intro pins s σ H Q I hw
 rw [evalPart_some]
 refine thn (h pins s σ H _ I hw) fun u s1 ⟨x,H1,I1,r1,q1⟩=>?_
 obtain ⟨i,rfl,q⟩:=q1
 obtain ⟨t,rfl⟩:=r1
 exact ⟨some i,H1,I1,.int i t,q⟩
noncomputable def SlR (X:Cx) (r:V->Option Int->Option Int->Hp->VK->Prop):Prop :=
 ∀ (pins:List (Addr×Obj)) (s:Shared) (σ:St) (H:Hp) (x:V) (v vl vu:Value) (lo hi:Option Int) (sl:Addr) (Q:VK),Inv X pins σ H s->zt x v->s.heap.IsSliceOf sl vl vu .none->IsPart vl lo->IsPart vu hi->r x lo hi H Q ->
   ∃ T id,typeLookup (.type T) "__getitem__" = pure (some (.builtin id))∧s.TypeIs v T∧wpAny (model X.prog X.w) X.A (getItem v (.ref sl)) (EP X pins σ Q) X.xe s
noncomputable def tSl (r:V->Option Int->Option Int->Hp->VK->Prop) (te:TE) (tl th:TO):TE:=fun σ H Q=>te σ H fun x H1=>tl σ H1 fun l H2=>th σ H2 fun u H3=>r x l u H3 Q
theorem zt8 {r:V->Option Int->Option Int->Hp->VK->Prop} (hr:SlR X r) (he:PE X e te) (hl:PO X lo tl) (hu:PO X hi th):PE X (.Subscript e (.Slice lo hi none p2) pos) (tSl r te tl th):=by
 intro pins s σ H Q I h
 refine Subscript_ (thn (he pins s σ H _ I h) fun v s1 ⟨x,H1,I1,r1,q1⟩=>?_)
 refine wpAny_Slice (thn (hl pins s1 σ H1 _ I1 q1) fun vl s2 ⟨l,H2,I2,pl,q2⟩=>thn (hu pins s2 σ H2 _ I2 q2) fun vu s3 ⟨u,H3,I3,pu,q3⟩=>?_)
 rw [evalPart_none]
 refine wpAny_pure ?_
 have I4:Inv X pins σ H3 { s3 with heap:=s3.heap.push { cls := .type "slice",data := .fields #[vl,vu,.none] } }:=I3.kept (t':=s3.toks) fun b ob q=>Heap.get?_push_of_some _ q
 obtain ⟨T,id,hT,ht,hg⟩:=hr pins { s3 with heap:=s3.heap.push { cls := .type "slice",data := .fields #[vl,vu,.none] } } σ H3 x v vl vu l u s3.heap.objs.size Q I4 r1 (Heap.IsSliceOf.new ..) pl pu q3
 show wpAny (model X.prog X.w) X.A (subscriptTail e (.Slice lo hi none p2) v (.ref s3.heap.objs.size)) (EP X pins σ Q) X.xe { s3 with heap:=s3.heap.push { cls := .type "slice",data := .fields #[vl,vu,.none] } }
 exact tail_any (ops:=[.ref s3.heap.objs.size,v]) ht hT hg (by with_unfolding_all rfl)
noncomputable def cutV (xs:List V) (lo hi:Option Int):List V:=(xs.drop (HT.sIx xs.length 0 lo)).take (HT.sIx xs.length xs.length hi - HT.sIx xs.length 0 lo)
theorem zrW (xs:List V) (lo hi:Option Int):(cutV xs lo hi).length<=xs.length:=by
 unfold cutV
 rw [List.length_take,List.length_drop]
 omega
noncomputable def zFi (K:PySem.W.Frag):V->Option Int->Option Int->Hp->VK->Prop:=fun x lo hi H Q=>∃ a xs,x = .ref a∧SqT K H a xs ∧
 ¬ (HT.sIx xs.length 0 lo=0∧HT.sIx xs.length xs.length hi=xs.length)∧∀ p,H p=none->Q (.ref p) (upd H p (.tup (cutV xs lo hi)))
theorem zBp:SlR X (zFi X.K):=by
 intro pins s σ H x v vl vu lo hi sl Q I rx hs pl pu h
 obtain ⟨a,xs,rfl,hx,hw,q⟩:=h
 cases rx
 obtain ⟨its,r,ht,hz⟩:=I.tuple hx
 have hlen:its.toArray.size=xs.length:=by rw [List.size_toArray];exact r.length.symm
 refine ⟨"tuple",_,PyProof.Rows.slot_tuple_getitem.lookup,ht.typeIs,?_⟩
 refine HT.getItem_tuple_cut ht hs pl pu (by rw [hlen];exact hw) ?_ (by rw [hlen];exact hz)
 rw [hlen]
 refine ⟨.ref s.heap.objs.size,_,I.laid (t':=s.toks) (o := .tup (cutV xs lo hi)) (fun b ob q=>Heap.get?_push_of_some _ q) (Nat.le_refl _) ?_,rfl,q _ (I.hok.fresh (Nat.le_refl _))⟩
 exact ⟨Nat.le_trans (zrW xs lo hi) hz,_,(r.drop (HT.sIx xs.length 0 lo)).take (HT.sIx xs.length xs.length hi - HT.sIx xs.length 0 lo),IsTup.new _ _⟩
end
end L2
namespace L2
open PySem PySem.Spec PyProof.Rows
noncomputable def ixN (n:Nat) (i:Int):Option Nat:=if 0<=i then (if i < n then some i.toNat else none) else if -(n:Int)<=i then some (i+n).toNat else none
noncomputable def atI {α:Type} (xs:List α) (i:Int):Option α:=(ixN xs.length i).bind fun j=>xs[j]?
theorem ztO {n:Nat}{i:Int}{j:Nat} (h:ixN n i=some j):seqIndex? i n=some j∧j < n∧-(n:Int)<=i∧i < n:=by
 unfold ixN at h
 by_cases h0:0<=i
 . rw [if_pos h0]at h
   by_cases h1:i < n
   . rw [if_pos h1]at h
     have e:i.toNat=j:=Option.some.inj h
     exact ⟨by rw [seqIndex_of h0 h1,e],by omega,by omega,h1⟩
   . rw [if_neg h1]at h;cases h
 . rw [if_neg h0]at h
   by_cases h1:-(n:Int)<=i
   . rw [if_pos h1]at h
     have e:(i+n).toNat=j:=Option.some.inj h
     exact ⟨by rw [seqIndex_neg (by omega) h1,e],by omega,h1,by omega⟩
   . rw [if_neg h1]at h;cases h
theorem zsU {α:Type}{xs:List α}{i:Int}{v:α} (h:atI xs i=some v):∃ j,seqIndex? i xs.length=some j∧xs[j]?=some v∧j < xs.length∧-(xs.length:Int)<=i∧i < xs.length:=by
 unfold atI at h
 cases e:ixN xs.length i with
 | none=>rw [e]at h;cases h
 | some j =>
   rw [e]at h
   obtain ⟨h1,h2,h3,h4⟩:=ztO e
   exact ⟨j,h1,h,h2,h3,h4⟩
noncomputable def zsk (b:Expr):Prop:=∀ o i,subscripted b false o i=operate [o,i] (getItem o i)
noncomputable def IxR (X:Cx) (r:R2):Prop :=
 ∀ (value slice:Expr) (pins:List (Addr×Obj)) (s:Shared) (σ:St) (H:Hp) (x y:V) (v u:Value) (Q:VK),Inv X pins σ H s->zt x v->zt y u->r x y H Q ->
   subscripted slice false v u=operate [v,u] (getItem v u)->wpAny (model X.prog X.w) X.A (subscriptTail value slice v u) (EP X pins σ Q) X.xe s
noncomputable def MtR (X:Cx) (id:String) (r:V->List V->Hp->VK->Prop):Prop :=
 ∀ (pins:List (Addr×Obj)) (s:Shared) (σ:St) (H:Hp) (x:V) (xs:List V) (v:Value) (us:List Value) (Q:VK),Inv X pins σ H s->zt x v->zA xs us->r x xs H Q ->
   wpAny (model X.prog X.w) X.A (call (.builtin id) (v :: us)) (EP X pins σ Q) X.xe s
section
variable {X:Cx}{a b:Expr}{ta tb:TE}{pos:Pos}
theorem IxR.or {r r':R2} (h:IxR X r) (h':IxR X r'):IxR X (fun x y H Q=>r x y H Q∨r' x y H Q):=by
 intro value slice pins s σ H x y v u Q I rx ry q hs
 rcases q with q | q
 . exact h value slice pins s σ H x y v u Q I rx ry q hs
 . exact h' value slice pins s σ H x y v u Q I rx ry q hs
theorem zCE {r:R2} (hr:IxR X r) (ha:PE X a ta) (hb:PE X b tb) (hs:zsk b):PE X (.Subscript a b pos) (tOp r ta tb):=by
 intro pins s σ H Q I h
 exact Subscript_ (zp8 ha hb I h fun v u s2 x y H2 I2 rx ry q=>hr a b pins s2 σ H2 x y v u Q I2 rx ry q (hs _ _))
noncomputable def zBz (K:PySem.W.Frag):R2:=fun x y H Q=>∃ p xs i v,x = .ref p∧y = .int i∧SqL K H p xs∧atI xs i=some v∧Q v H
noncomputable def zFg (K:PySem.W.Frag):R2:=fun x y H Q=>∃ p xs i v,x = .ref p∧y = .int i∧SqT K H p xs∧atI xs i=some v∧Q v H
theorem zFf:IxR X (zBz X.K):=by
 intro value slice pins s σ H x y v u Q I rx ry h hs
 obtain ⟨p,xs,i,z,rfl,rfl,hq,he,q⟩:=h
 cases rx
 obtain ⟨t,rfl⟩:=ry
 obtain ⟨its,r,pl,hz⟩:=I.list hq
 obtain ⟨j,h1,h2,h3,h4,h5⟩:=zsU he
 obtain ⟨w,ew,rw'⟩:=r.get h2
 have hl:=r.length
 have hn:=zhL
 have fin:EP X pins σ Q w s:=⟨z,H,I,rw',q⟩
 by_cases h0:0<=i
 . have hj:i.toNat=j:=by
     rw [seqIndex_of h0 h5]at h1
     exact Option.some.inj h1
   exact item_listR pl.isList h0 (by omega) (by rw [hj];simpa using ew) fin hs
 . have hj:(i+(its.toArray.size:Int)).toNat=j:=by
     rw [seqIndex_neg (by omega) h4]at h1
     rw [List.size_toArray,<- hl]
     exact Option.some.inj h1
   exact subscriptTail_builtinR (x:=w) pl.isList.typeIs slot_list_getitem.lookup
     (wpAny_getItem_list_neg (Q:=fun r s'=>r=w∧EP X pins σ Q r s') pl.isList (by omega) (by rw [List.size_toArray] <;> omega) (by omega) (by rw [hj];simpa using ew) ⟨rfl,fin⟩) hs
theorem zE7:IxR X (zFg X.K):=by
 intro value slice pins s σ H x y v u Q I rx ry h hs
 obtain ⟨p,xs,i,z,rfl,rfl,hq,he,q⟩:=h
 cases rx
 obtain ⟨t,rfl⟩:=ry
 obtain ⟨its,r,pl,hz⟩:=I.tuple hq
 obtain ⟨j,h1,h2,h3,h4,h5⟩:=zsU he
 obtain ⟨w,ew,rw'⟩:=r.get h2
 have hl:=r.length
 have hn:=zhL
 have fin:EP X pins σ Q w s:=⟨z,H,I,rw',q⟩
 exact subscriptTail_builtinR (x:=w) pl.typeIs slot_tuple_getitem.lookup
   (getItem_tuple (j:=j) (Q:=fun r s'=>r=w∧EP X pins σ Q r s') pl (by omega) (by omega) (by rw [List.size_toArray,<- hl];exact h1) (by simpa using ew) ⟨rfl,fin⟩) hs
theorem zCz (its:List Value) (n j:Nat) (u:Value):Obj.mapSeq (·.setIfInBounds j u) { cls := .type "list",data := .seq its.toArray n }={ cls := .type "list",data := .seq (its.set j u).toArray n }:=by
 simp [Obj.mapSeq]
theorem Inv.lst {pins:List (Addr×Obj)}{σ:St}{H:Hp}{s:Shared}{p:Addr}{xs:List V} (I:Inv X pins σ H s) (h:H p=some (.lst xs)) :
   ∃ (its:List Value) (n:Nat),zA xs its∧s.heap.get? p=some { cls := .type "list",data := .seq its.toArray n }∧xs.length<=sizeLine:=by
 obtain ⟨z,its,n,r,e⟩:=I.hok p _ h
 exact ⟨its,n,r,e,z⟩
theorem Inv.lstUpd {pins:List (Addr×Obj)}{σ:St}{H:Hp}{s:Shared}{p:Addr}{xs ys:List V}{its its':List Value}{n n':Nat}{f:Obj->Obj} (I:Inv X pins σ H s) (h:H p=some (.lst xs))
   (ho:s.heap.get? p=some { cls := .type "list",data := .seq its.toArray n }) (hf:f { cls := .type "list",data := .seq its.toArray n }={ cls := .type "list",data := .seq its'.toArray n' }) (r:zA ys its') (hz:ys.length<=sizeLine) (t:Nat) :
   Inv X pins σ (upd H p (.lst ys)) { s with heap:=s.heap.update p f,toks:=t }:=by
 have e:(s.heap.update p f).get? p=some { cls := .type "list",data := .seq its'.toArray n' }:=by
   rw [Heap.get?_update_self f ho (by rw [hf] <;> rfl),hf]
 refine I.write (x:=p) (e:=p) (by rw [h];trivial) (.inl rfl) (fun b u hb q=>(Heap.get?_update_other _ _ (Ne.symm hb)).trans q) ⟨_,e⟩ ?_
 exact ⟨hz,its',n',r,e⟩
noncomputable def zAP:V->V->V->Hp->(Hp->Prop)->Prop:=fun o i v H Q=>∃ p xs k j,o = .ref p∧i = .int k∧H p=some (.lst xs)∧ixN xs.length k=some j∧Q (upd H p (.lst (xs.set j v)))
theorem zAx:zhi X zAP:=by
 intro pins s σ H o i v ov iv u Q I ro ri rv h
 obtain ⟨p,xs,k,j,rfl,rfl,hp,hj,q⟩:=h
 cases ro
 obtain ⟨t,rfl⟩:=ri
 obtain ⟨its,n,r,ho,hz⟩:=I.lst hp
 obtain ⟨h1,h2,h3,h4⟩:=ztO hj
 have hl:=r.length
 have hn:=zhL
 have I':Inv X pins σ (upd H p (.lst (xs.set j v))) { s with heap:=s.heap.update p (Obj.mapSeq (·.setIfInBounds j u)) } :=
   I.lstUpd hp ho (zCz its n j u) (r.set rv j) (by rw [List.length_set];exact hz) s.toks
 by_cases h0:0<=k
 . have hk:k.toNat=j:=by
     rw [seqIndex_of h0 h4]at h1
     exact Option.some.inj h1
   exact PySem.W.ki_setAt ho h0 (by omega) (by rw [List.size_toArray,<- hl];exact h4) (by rw [hk];exact ⟨_,I',q⟩)
 . have hk:(k+(its.toArray.size:Int)).toNat=j:=by
     rw [seqIndex_neg (by omega) h3]at h1
     rw [List.size_toArray,<- hl]
     exact Option.some.inj h1
   exact PySem.W.ki_setBack ho (by omega) (by rw [List.size_toArray,<- hl];exact h3) (by omega) (by rw [hk];exact ⟨_,I',q⟩)
theorem zE8 (lo hi:Option Int) (n:Nat):(sliceBounds lo hi none n).1=((HT.sIx n 0 lo:Nat):Int)∧(sliceBounds lo hi none n).2.1=((HT.sIx n n hi:Nat):Int)∧(sliceBounds lo hi none n).2.2=1:=by
 refine ⟨?_,?_,rfl⟩
 . cases lo with
   | none=>simp [sliceBounds,HT.sIx]
   | some i =>
     simp only [sliceBounds,HT.sIx,Option.getD_none,show (1:Int) > 0 by decide,if_true]
     by_cases h:i < 0
     . simp only [h,if_true] <;> omega
     . simp only [h,if_false] <;> omega
 . cases hi with
   | none=>simp [sliceBounds,HT.sIx]
   | some i =>
     simp only [sliceBounds,HT.sIx,Option.getD_none,show (1:Int) > 0 by decide,if_true]
     by_cases h:i < 0
     . simp only [h,if_true] <;> omega
     . simp only [h,if_false] <;> omega
theorem zDu (its:List Value) (lo hi:Option Int):slicePick its.toArray lo hi none=((its.drop (HT.sIx its.length 0 lo)).take (HT.sIx its.length its.length hi - HT.sIx its.length 0 lo)).toArray:=by
 obtain ⟨h1,h2,h3⟩:=zE8 lo hi its.toArray.size
 unfold slicePick
 rw [h1,h2,h3]
 simp only [sliceRange_one,pick_run,List.size_toArray] <;> rfl
noncomputable def zAI (K:PySem.W.Frag):V->Option Int->Option Int->Hp->VK->Prop:=fun x lo hi H Q=>∃ a xs,x = .ref a∧SqL K H a xs∧∀ p,H p=none->Q (.ref p) (upd H p (.lst (cutV xs lo hi)))
theorem zAD:SlR X (zAI X.K):=by
 intro pins s σ H x v vl vu lo hi sl Q I rx hs pl pu h
 obtain ⟨a,xs,rfl,hx,q⟩:=h
 cases rx
 obtain ⟨its,r,ht,hz⟩:=I.list hx
 have hlen:=r.length
 refine ⟨"list",_,slot_list_getitem.lookup,ht.isList.typeIs,?_⟩
 refine wpAny_getItem_list_slice ht.isList hs pl pu .none (by simp) ?_ (by rw [List.size_toArray] <;> omega)
 rw [zDu,<- hlen]
 refine ⟨.ref s.heap.objs.size,_,I.laid (t':=s.toks) (o := .lst (cutV xs lo hi)) (fun b ob q=>Heap.get?_push_of_some _ q) (Nat.le_refl _) ?_,rfl,q _ (I.hok.fresh (Nat.le_refl _))⟩
 exact ⟨Nat.le_trans (zrW xs lo hi) hz,_,0,(r.drop (HT.sIx xs.length 0 lo)).take (HT.sIx xs.length xs.length hi - HT.sIx xs.length 0 lo),Heap.get?_push_size _ rfl⟩
noncomputable def zb6:V->Bool
 | .non=>true
 | .bl _=>true
 | .int _=>true
 | .str _=>true
 | _=>false
noncomputable def eqV:V->V->Bool
 | .non,.non=>true
 | .bl a,.bl b=>a == b
 | .bl a,.int b=>(if a then 1 else 0) == b
 | .int a,.bl b=>a == (if b then 1 else 0)
 | .int a,.int b=>a == b
 | .str a,.str b=>a == b
 | _,_=>false
theorem zpe {A:Around}{s:Shared}{y x:V}{u v:Value} (ry:zt y u) (rx:zt x v) (fy:zb6 y=true) (fx:zb6 x=true):SeqAt.EqAt A s u v (eqV y x):=by
 cases y with
 | non =>
   cases ry
   cases x with
   | non=>cases rx;exact SeqAt.EqAt.same _
   | bl b=>cases rx;exact SeqAt.EqAt.none_bool b
   | int b=>obtain ⟨t,rfl⟩:=rx;exact SeqAt.EqAt.none_int b t
   | str b=>obtain ⟨t,rfl⟩:=rx;exact SeqAt.EqAt.none_str b t
   | _=>exact absurd (show false=true from fx) Bool.false_ne_true
 | bl a =>
   cases ry
   cases x with
   | non=>cases rx;exact SeqAt.EqAt.bool_none a
   | bl b=>cases rx;exact SeqAt.EqAt.bool_bool a b
   | int b=>obtain ⟨t,rfl⟩:=rx;exact SeqAt.EqAt.bool_int a b t
   | str b=>obtain ⟨t,rfl⟩:=rx;exact SeqAt.EqAt.bool_str a b t
   | _=>exact absurd (show false=true from fx) Bool.false_ne_true
 | int a =>
   obtain ⟨t',rfl⟩:=ry
   cases x with
   | non=>cases rx;exact SeqAt.EqAt.int_none a t'
   | bl b=>cases rx;exact SeqAt.EqAt.int_bool a t' b
   | int b=>obtain ⟨t,rfl⟩:=rx;exact SeqAt.EqAt.int_int a t' b t
   | str b=>obtain ⟨t,rfl⟩:=rx;exact SeqAt.EqAt.int_str a t' b t
   | _=>exact absurd (show false=true from fx) Bool.false_ne_true
 | str a =>
   obtain ⟨t',rfl⟩:=ry
   cases x with
   | non=>cases rx;exact SeqAt.EqAt.str_none a t'
   | bl b=>cases rx;exact SeqAt.EqAt.str_bool a t' b
   | int b=>obtain ⟨t,rfl⟩:=rx;exact SeqAt.EqAt.str_int a t' b t
   | str b=>obtain ⟨t,rfl⟩:=rx;exact SeqAt.EqAt.str_str a t' b t
   | _=>exact absurd (show false=true from fx) Bool.false_ne_true
 | _=>exact absurd (show false=true from fy) Bool.false_ne_true
noncomputable def eqU (x:V) (u:Value):Bool:=match u with
 | .none=>eqV .non x
 | .bool b=>eqV (.bl b) x
 | .int i _=>eqV (.int i) x
 | .str z _=>eqV (.str z) x
 | _=>false
theorem ztK {x y:V}{u:Value} (r:zt y u) (f:zb6 y=true):eqU x u=eqV y x:=by
 cases y with
 | non=>cases r;rfl
 | bl b=>cases r;rfl
 | int i=>obtain ⟨t,rfl⟩:=r;rfl
 | str z=>obtain ⟨t,rfl⟩:=r;rfl
 | _=>exact absurd (show false=true from f) Bool.false_ne_true
theorem zhW {x:V}:∀ {xs:List V}{us:List Value},zA xs us->xs.all zb6=true->us.any (eqU x)=xs.any fun y=>eqV y x
 | _,_,.nil,_=>rfl
 | y :: xs,u :: us,.cons r t,f=>by
   rw [List.all_cons,Bool.and_eq_true]at f
   rw [List.any_cons,List.any_cons,ztK r f.1,zhW t f.2]
theorem zhO {A:Around}{s:Shared}{x:V}{v:Value} (rx:zt x v) (fx:zb6 x=true):∀ {xs:List V}{us:List Value},zA xs us->xs.all zb6=true->∀ u∈us,SeqAt.EqAt A s u v (eqU x u)
 | _,_,.nil,_=>fun u hu=>by cases hu
 | y :: xs,u :: us,.cons r t,f=>fun u' hu=>by
   rw [List.all_cons,Bool.and_eq_true]at f
   rcases List.mem_cons.mp hu with rfl | hu
   . rw [ztK r f.1];exact zpe r rx f.1 fx
   . exact zhO rx fx t f.2 u' hu
noncomputable def inV (x:V) (xs:List V):Bool:=xs.any fun y=>eqV y x
noncomputable def rIn (K:PySem.W.Frag) (neg:Bool):R2:=fun x y H Q=>∃ p xs,y = .ref p∧(SqL K H p xs∨SqT K H p xs)∧zb6 x=true∧xs.all zb6=true∧Q (.bl (if neg then !inV x xs else inV x xs)) H
theorem zCI:OpR X (compareOp .In) (rIn X.K false):=by
 intro pins s σ H x y v u Q I rx ry h
 obtain ⟨p,xs,rfl,hq,fx,fs,q⟩:=h
 cases ry
 rcases hq with hq | hq
 . obtain ⟨its,r,pl,hz⟩:=I.list hq
   refine SeqAt.in_listAt (eqU x) pl.isList (fun w hw=>zhO rx fx r fs w (by simpa using hw)) ⟨.bl _,H,I,rfl,?_⟩
   rw [show its.toArray.any (eqU x)=its.any (eqU x) by simp,zhW r fs]
   exact q
 . obtain ⟨its,r,pl,hz⟩:=I.tuple hq
   refine SeqAt.in_tupleAt (eqU x) pl (fun w hw=>zhO rx fx r fs w (by simpa using hw)) ⟨.bl _,H,I,rfl,?_⟩
   rw [show its.toArray.any (eqU x)=its.any (eqU x) by simp,zhW r fs]
   exact q
theorem zDz:OpR X (compareOp .NotIn) (rIn X.K true):=by
 intro pins s σ H x y v u Q I rx ry h
 obtain ⟨p,xs,rfl,hq,fx,fs,q⟩:=h
 cases ry
 rcases hq with hq | hq
 . obtain ⟨its,r,pl,hz⟩:=I.list hq
   refine SeqAt.notIn_listAt (eqU x) pl.isList (fun w hw=>zhO rx fx r fs w (by simpa using hw)) ⟨.bl _,H,I,rfl,?_⟩
   rw [show its.toArray.any (eqU x)=its.any (eqU x) by simp,zhW r fs]
   exact q
 . obtain ⟨its,r,pl,hz⟩:=I.tuple hq
   refine SeqAt.notIn_tupleAt (eqU x) pl (fun w hw=>zhO rx fx r fs w (by simpa using hw)) ⟨.bl _,H,I,rfl,?_⟩
   rw [show its.toArray.any (eqU x)=its.any (eqU x) by simp,zhW r fs]
   exact q
theorem zCs:zdn X (.builtin "len") (fun xs H Q=>∃ p ys,xs=[.ref p]∧(SqL X.K H p ys∨SqT X.K H p ys)∧Q (.int ys.length) H):=by
 intro pins s σ H xs us Q I r h
 obtain ⟨p,ys,rfl,hq,q⟩:=h
 obtain ⟨u,rfl,rx⟩:=zeG r
 cases rx
 have hn:=zhL
 rcases hq with hq | hq
 . obtain ⟨its,r',pl,hz⟩:=I.list hq
   have hlen:=r'.length
   exact Calls.call_len_list pl.isList (by simp only [List.size_toArray] <;> omega) ⟨.int ys.length,H,I.tok _,⟨s.toks+1,by rw [List.size_toArray,hlen]⟩,q⟩
 . obtain ⟨its,r',pl,hz⟩:=I.tuple hq
   have hlen:=r'.length
   exact len_tuple pl (by simp only [List.size_toArray] <;> omega) ⟨.int ys.length,H,I.tok _,⟨s.toks+1,by rw [List.size_toArray,hlen]⟩,q⟩
theorem zBb:zdn X (.type "list") (fun xs H Q=>∃ p ys,xs=[.ref p]∧(SqL X.K H p ys∨SqT X.K H p ys)∧∀ l,H l=none->Q (.ref l) (upd H l (.lst ys))):=by
 intro pins s σ H xs us Q I r h
 obtain ⟨p,ys,rfl,hq,q⟩:=h
 obtain ⟨u,rfl,rx⟩:=zeG r
 cases rx
 have fin:∀ (its:List Value),zA ys its->ys.length<=sizeLine->∀ (h':Heap) (c':Nat),(∀ b o',s.heap.get? b=some o'->h'.get? b=some o') ->
     h'.get? s.heap.objs.size=some { cls := .type "list",dict:=none,data := .seq its.toArray c',slots:=#[] }->EP X pins σ Q (.ref s.heap.objs.size) { s with heap:=h' }:=fun its r' hz h' c' kp e =>
   ⟨.ref s.heap.objs.size,_,I.laid (t':=s.toks) kp (Nat.le_refl _) (show zbQ X.prog X.w _ h' _ (.lst ys) from ⟨hz,its,c',r',e⟩),rfl,q _ (I.hok.fresh (Nat.le_refl _))⟩
 rcases hq with hq | hq
 . obtain ⟨its,r',pl,hz⟩:=I.list hq
   have hlen:=r'.length
   obtain ⟨o,ho,hc,n,hd⟩:=pl.isList
   exact call_list_seq p (.inl rfl) ho hc hd (fun h' c' kp e=>fin its r' hz h' c' kp e) (by simp only [List.size_toArray] <;> omega)
 . obtain ⟨its,r',pl,hz⟩:=I.tuple hq
   have hlen:=r'.length
   obtain ⟨o,ho,hc,n,hd⟩:=pl
   exact call_list_seq p (.inr rfl) ho hc hd (fun h' c' kp e=>fin its r' hz h' c' kp e) (by simp only [List.size_toArray] <;> omega)
noncomputable def tyV (K:PySem.W.Frag) (T:String) (x:V) (H:Hp):Prop:=match x with
 | .str _=>T = "str"
 | .int _=>T = "int"
 | .ref p=>(T = "list" ∧ ∃ xs,SqL K H p xs)∨(T = "tuple" ∧ ∃ o,K.lookup p=some o∧o.cls = .type "tuple" ∧ o.dict=none) ∨
     (T = "dict" ∧ ((∃ kvs,H p=some (.dK kvs))∨∃ kvs,H p=some (.dT kvs)))∨(T = "set" ∧ ∃ S n,H p=some (.set S n))
 | _=>False
theorem ztC {pins:List (Addr×Obj)}{σ:St}{H:Hp}{s:Shared}{T:String}{x:V}{v:Value} (I:Inv X pins σ H s) (r:zt x v) (ty:tyV X.K T x H) :
   s.TypeIs v T∧∀ a,v = .ref a->∃ ob,s.heap.get? a=some ob∧ob.dict=none:=by
 cases x with
 | str z =>
   obtain ⟨t,rfl⟩:=r
   cases (show T = "str" from ty)
   exact ⟨typeIs_str s z t,fun _ e=>nomatch e⟩
 | int i =>
   obtain ⟨t,rfl⟩:=r
   cases (show T = "int" from ty)
   exact ⟨typeIs_int s i t,fun _ e=>nomatch e⟩
 | ref p =>
   cases r
   rcases ty with ⟨rfl,xs,hq⟩ | ⟨rfl,o,hk,hc,hd⟩ | ⟨rfl,hk⟩ | ⟨rfl,S,n,hk⟩
   . obtain ⟨its,_,pl,_⟩:=I.list hq
     refine ⟨pl.isList.typeIs,fun a e=>?_⟩
     cases e
     obtain ⟨o,n,e,c,hd,_⟩:=pl
     exact ⟨o,e,hd⟩
   . refine ⟨⟨o,I.kIn p o hk,hc⟩,fun a e=>?_⟩
     cases e
     exact ⟨o,I.kIn _ o hk,hd⟩
   . have z:∃ o,s.heap.get? p=some o∧o.ExactDict:=by
       rcases hk with ⟨kvs,hk⟩ | ⟨kvs,hk⟩
       . obtain ⟨_,_,_,_,o,_,_,e,ex,_⟩:=I.hok p _ hk
         exact ⟨o,e,ex⟩
       . obtain ⟨_,_,_,_,o,_,_,e,ex,_⟩:=I.hok p _ hk
         exact ⟨o,e,ex⟩
     obtain ⟨o,e,ex⟩:=z
     refine ⟨⟨o,e,ex.1⟩,fun a e2=>?_⟩
     cases e2
     exact ⟨o,e,ex.2.1⟩
   . obtain ⟨o,_,_,_,e,ex,_⟩:=I.hok p _ hk
     refine ⟨⟨o,e,ex.1⟩,fun a e2=>?_⟩
     cases e2
     exact ⟨o,e,ex.2.1⟩
 | _=>exact False.elim ty
noncomputable def zzT (K:PySem.W.Frag) (T:String) (r:V->List V->Hp->VK->Prop) (to:TE):TE:=fun σ H Q=>to σ H fun x H1=>tyV K T x H1∧r x [] H1 Q
noncomputable def tBM (K:PySem.W.Frag) (T:String) (r:V->List V->Hp->VK->Prop) (to:TE) (t:TA):TE:=fun σ H Q=>to σ H fun x H1=>tyV K T x H1∧t σ H1 fun xs H2=>r x xs H2 Q
variable {o e:Expr}{es:List Expr}{to:TE}{t:TA}{name:Str}{apos cpos:Pos}{T id:String}{r:V->List V->Hp->VK->Prop}
theorem zDl (pa:PlainAttrs T) (slot:Slot T name id) (hty:typeOf (.builtin id)=pure (.type "method_descriptor")) (hm:MtR X id r) (ho:PE X o to)
   (hbase:attributeBase o name X.env (eval o X.env)=eval o X.env:=by rfl) (hline:(apos.endLine == cpos.line)=true:=by rfl):PE X (.Call (.Attribute o name apos) [] [] cpos) (zzT X.K T r to):=by
 intro pins s σ H Q I h
 refine wpAny_Call_method0_late hbase hline (thn (ho pins s σ H _ I h) fun v s1 ⟨x,H1,I1,r1,ty,q1⟩=>?_)
 obtain ⟨h1,h2⟩:=ztC I1 r1 ty
 exact ⟨T,id,pa,slot,hty,h1,h2,Calls.callWith_builtin rfl (PySem.evalArgs_none (hm pins s1 σ H1 x [] v [] Q I1 r1 .nil q1))⟩
theorem zEW (pa:PlainAttrs T) (slot:Slot T name id) (hty:typeOf (.builtin id)=pure (.type "method_descriptor")) (hm:MtR X id r) (ho:PE X o to) (ha:PA X (e :: es) t)
   (hbase:attributeBase o name X.env (eval o X.env)=eval o X.env:=by rfl)
   (hfew:((backTo cpos (starEach (e :: es) X.env)).all (fun x=>!x.1) && (backToKw cpos (keywordEach [] X.env)).all (fun x=>x.1.isSome)
     && decide ((e :: es).length+([]:List Keyword).length+(if ([]:List Keyword).isEmpty then 0 else 1) < 30))=true:=by rfl)
   (hline:(apos.endLine == cpos.line)=true:=by rfl) (hs:starEach (e :: es) X.env=(false,eval e X.env) :: starEach es X.env:=by rfl) (hplain:(backTo cpos (starEach es X.env)).any (·.1)=false:=by rfl) :
   PE X (.Call (.Attribute o name apos) (e :: es) [] cpos) (tBM X.K T r to t):=by
 intro pins s σ H Q I h
 refine wpAny_Call_method_late hbase hfew hline rfl (thn (ho pins s σ H _ I h) fun v s1 ⟨x,H1,I1,r1,ty,q1⟩=>?_)
 obtain ⟨h1,h2⟩:=ztC I1 r1 ty
 refine ⟨T,id,pa,slot,hty,h1,h2,?_⟩
 have hA:=ha cpos pins s1 σ H1 _ I1 q1
 rw [hs]at hA ⊢
 refine Calls.callWith_builtin (by show (false || (backTo cpos (starEach es X.env)).any (·.1))=false;rw [hplain] <;> rfl) (Calls.evalArgs_plain ?_)
 exact thn hA fun us s2 ⟨vs,H2,I2,r2,q2⟩=>hm pins s2 σ H2 x vs v us Q I2 r1 r2 q2
end
end L2
namespace L2
open PySem PySem.Spec PyProof.Rows
noncomputable def MtM (X:Cx) (id:String) (r:V->List V->Hp->VK->Prop):Prop :=
 ∀ (pins:List (Addr×Obj)) (s:Shared) (σ:St) (H:Hp) (x:V) (xs:List V) (v:Value) (us:List Value) (Q:VK),Inv X pins σ H s->zt x v->zA xs us->r x xs H Q ->
   wpAny (model X.prog X.w) X.A (call (.builtin id) (v :: us)) (EP X pins σ Q) X.xe s
theorem zA.one:∀ {x:V}{us:List Value},zA [x] us->∃ u,us=[u]∧zt x u
 | _,_,.cons r .nil=>⟨_,rfl,r⟩
theorem zA.zero:∀ {us:List Value},zA [] us->us=[]
 | _,.nil=>rfl
theorem zA.reverse {xs:List V}{us:List Value} (h:zA xs us):zA xs.reverse us.reverse:=by
 induction h with
 | nil=>exact .nil
 | cons r t ih=>rw [List.reverse_cons,List.reverse_cons];exact zA.append ih (.cons r .nil)
section
variable {X:Cx}{pins:List (Addr×Obj)}{σ:St}{H:Hp}{s:Shared}{l b:Addr}{xs ys zs:List V}
theorem Inv.lset {its its':List Value}{n:Nat}{f:Array Value->Array Value}{t':Nat} (I:Inv X pins σ H s) (hH:H l=some (.lst xs))
   (e:s.heap.get? l=some { cls := .type "list",data := .seq its.toArray n }) (hf:f its.toArray=its'.toArray) (hv:zA ys its') (hz:ys.length<=sizeLine) :
   Inv X pins σ (upd H l (.lst ys)) { s with heap:=s.heap.update l (Obj.mapSeq f),toks:=t' }:=by
 have q:=PySem.IsL.update e f
 rw [hf]at q
 refine I.write (x:=l) (e:=l) (by rw [hH];exact trivial) (.inl rfl) (fun b' u hb hu=>(Heap.get?_update_other s.heap (Obj.mapSeq f) (Ne.symm hb)).trans hu) ⟨_,q⟩ ?_
 exact ⟨hz,its',_,hv,q⟩
theorem Inv.lnew {its:List Value}{t':Nat} (I:Inv X pins σ H s) (hv:zA ys its) (hz:ys.length<=sizeLine) :
   Inv X pins σ (upd H s.heap.objs.size (.lst ys)) { s with heap:=s.heap.push { cls := .type "list",data := .seq its.toArray },toks:=t' } :=
 I.laid (fun _ _ q=>Heap.get?_push_of_some _ q) (Nat.le_refl _) ⟨hz,its,0,hv,Heap.get?_push_size _ rfl⟩
theorem Inv.fresh (I:Inv X pins σ H s):H s.heap.objs.size=none:=I.hok.fresh (Nat.le_refl _)
theorem Inv.lstM (I:Inv X pins σ H s) (hH:H l=some (.lst xs)):xs.length<=sizeLine∧∃ (its:List Value) (n:Nat),zA xs its∧xs.length=its.length∧s.heap.get? l=some { cls := .type "list",data := .seq its.toArray n }:=by
 obtain ⟨z,its,n,r,e⟩:=I.hok l _ hH
 exact ⟨z,its,n,r,r.length,e⟩
end
section
variable {X:Cx}
noncomputable def zAn:V->List V->Hp->VK->Prop:=fun x vs H Q=>∃ l xs y,x = .ref l∧vs=[y]∧H l=some (.lst xs)∧xs.length < sizeLine∧Q .non (upd H l (.lst (xs++[y])))
theorem ztI:MtM X "list.append" zAn:=by
 intro pins s σ H x vs v us Q I rx rv h
 obtain ⟨l,xs,y,rfl,rfl,hH,hz,q⟩:=h
 cases rx
 obtain ⟨u,rfl,ru⟩:=rv.one
 obtain ⟨z,its,n,r,hl,e⟩:=I.lstM hH
 refine call_meets F.slot_list_append ⟨_,e,rfl⟩ F.entry_list_append (F.args_list_append_2 _ _) (PySem.list_append l its.toArray n u (by rw [List.size_toArray];omega)) ⟨e,?_⟩
 refine ⟨.non,_,I.lset (its':=its++[u]) hH e (by simp) (r.append (.cons ru .nil)) ?_,rfl,q⟩
 rw [List.length_append,List.length_singleton]
 omega
noncomputable def zz6:V->List V->Hp->VK->Prop:=fun x vs H Q=>∃ l xs,x = .ref l∧vs=[]∧H l=some (.lst xs)∧Q .non (upd H l (.lst xs.reverse))
theorem zFt:MtM X "list.reverse" zz6:=by
 intro pins s σ H x vs v us Q I rx rv h
 obtain ⟨l,xs,rfl,rfl,hH,q⟩:=h
 cases rx
 have hus:=rv.zero
 subst hus
 obtain ⟨z,its,n,r,hl,e⟩:=I.lstM hH
 refine call_meets F.slot_list_reverse ⟨_,e,rfl⟩ F.entry_list_reverse (F.args_list_reverse_1 _) (AutoSeq1.list_reverse_list_0 l its.toArray n (by rw [List.size_toArray];omega)) ⟨e,?_⟩
 refine ⟨.non,_,I.lset (its':=its.reverse) hH e (by simp) r.reverse ?_,rfl,q⟩
 rw [List.length_reverse]
 omega
noncomputable def zAW:R2:=fun x y H Q=>∃ l b xs zs,x = .ref l∧y = .ref b∧H l=some (.lst xs)∧H b=some (.lst zs)∧xs.length+zs.length<=sizeLine∧∀ p,H p=none->Q (.ref p) (upd H p (.lst (xs++zs)))
theorem zD2:OpR X (binaryOp .Add) zAW:=by
 intro pins s σ H x y v u Q I rx ry h
 obtain ⟨l,b,xs,zs,rfl,rfl,hH,hB,hz,q⟩:=h
 cases rx
 cases ry
 obtain ⟨z,its,n,r,hl,e⟩:=I.lstM hH
 obtain ⟨z2,its2,n2,r2,hl2,e2⟩:=I.lstM hB
 refine PySem.P.add_list e e2 ?_ (by rw [List.size_toArray,List.size_toArray];omega)
 have ea:its.toArray++its2.toArray=(its++its2).toArray:=by simp
 rw [ea]
 exact ⟨.ref _,_,I.lnew (t':=s.toks) (r.append r2) (by rw [List.length_append];omega),rfl,q _ I.fresh⟩
end
section
variable {prog:Program}{w:World}{A:Around}{E:Value->Shared->Prop}{s:Shared}
end
section
variable {X:Cx}
end
end L2
namespace Att
open PySem PySem.W PySem.Calls PyProof.Rows
theorem zAb {P:Params}{h:Heap}:∀ (ns:List Int) (vs:List Value),WellAll P h vs (ns.map WData.int)->IntsAre vs ns:=by
 intro ns
 induction ns with
 | nil =>
   intro vs w
   rw [List.map_nil]at w
   cases w
   exact .nil
 | cons n ns ih =>
   intro vs w
   rw [List.map_cons]at w
   cases w with
   | cons a b =>
     cases a
     exact .cons _ _ (ih _ b)
theorem zAR {l:OpenLaw}{n:Nat} (hn:l.most=some n) {P:Params}{h:Heap}{args:List WData}{vals:List Value}
   (hpre:l.row.toRowW.claim.pre args=true) (hwl:WellAll P h vals args) :
   ∃ a vs ns,vals=[Value.ref a]∧args=[WData.list (ns.map WData.int)]∧h.get? a=some { cls := .type "list",data := .seq vs.toArray }∧IntsAre vs ns∧ns.length<=n:=by
 have hsh:WShape.hasAll [] args [.list .int]=true:=(pre_splitW hpre).1
 have hc:l.pre.holds [] { args:=args }=true:=(pre_splitW hpre).2
 obtain ⟨d,r,rfl,h1,h2⟩:=hasAllW_cons hsh
 obtain rfl:=hasAllW_nil h2
 obtain ⟨xs,rfl,h3⟩:=hasW_list h1
 obtain ⟨ns,rfl⟩:=items_int h3
 have hlen:ns.length<=n:=by
   unfold OpenLaw.pre at hc
   have h4:(WTm.not (.lt (.lit (.int (n:Int))) (.len (.arg 0)))).holds [] { args:=[.list (ns.map .int)] }=true:=by
     have h4:=(holds_andW hc).1
     rw [hn]at h4
     exact h4
   have h5:=condW_of h4 (w_not (w_lt w_lit (w_len_list (w_arg rfl))))
   rw [List.length_map]at h5
   refine Nat.le_of_not_lt fun q=>?_
   have q':(n:Int) < ((ns.length:Nat):Int):=by omega
   first
     | (rw [decide_eq_true q']at h5;exact absurd h5 (by decide))
     | (simp at h5;omega)
 cases hwl with
 | cons w1 w2 =>
   cases w2
   cases w1 with
   | list ho hall=>exact ⟨_,_,ns,rfl,rfl,ho,zAb ns _ hall,hlen⟩
theorem zCe (l:OpenLaw) (args:List WData):l.row.toRowW.claim.post args (.bool true) args=true :=
 postW_of (r:=l.row.toRowW) (X:=(true == true))
   (show WShape.has [] (.bool true) .bool=true by first | rfl | decide | simp [WShape.has,WShape.arms,WShape.armsAll])
   (show (WTm.eq .res (.lit (.bool true))).value [] { args:=args,res:=some (.bool true),after:=args }=some (.bool (true == true)) from w_eq_bool (w_res rfl) w_lit) rfl
theorem attach_call {l:OpenLaw}{n:Nat}{q:Program}{loose:List Str}{XP:(Str->Option Value)->Heap->Prop}{YP:World->Heap->Prop}{d:DefRec}
   (hn:l.most=some n) (hdf:d.params.defaults=[])
   (call:∀ (w:World) (s₀ s₁:Shared) (mg mb:Str->Option Value) (fa:Addr) (o:Obj) (pm cd doc:Value) (a:Addr) (vs:List Value) (ns:List Int),
     Ground q loose [] XP w s₀ mg mb s₁.heap->YP w s₁.heap ->
     s₁.heap.get? fa=some o->o.data = .func (docDef d.name d.params d.body d.scope pm cd doc)->s₁.heap.CodeRec cd d.name->mg d.name=some (.ref fa) ->
     s₁.heap.get? a=some { cls := .type "list",data := .seq vs.toArray }->IntsAre vs ns->ns.length<=n->s₁.gens=#[] ->
     codeAny (model l.prog w) callerA (.call (.ref fa) ⟨[.ref a],[]⟩) (fun r s'=>r = .ok (.ret (.bool true))∧OldK s₁.heap s'.heap∧s'.os=s₁.os∧AllBare s'.gens) s₁) :
   WalkO q loose XP YP l.row.toRowW d [] (fun f vs=>PySem.call f vs):=by
 intro w s₀ s₁ mg mb G Y fa o pm cd doc dV kV ho hd hcd hD hmg hg args vals as hpre hlay hrd hwl hlo
 obtain rfl:dV = .none:=Dflts.none hD hdf
 obtain rfl:kV = .none:=Dflts.noKw hD
 obtain ⟨a,vs,ns,rfl,rfl,hobj,hints,hlen⟩:=zAR hn hpre hwl
 refine enter_call (codeAny_mono (call w s₀ s₁ mg mb fa o pm cd doc a vs ns G Y ho (fd_plain hd) hcd hmg hobj hints hlen hg) fun r s' hq=>?_)
 obtain ⟨rfl,h2,h3,h4⟩:=hq
 exact ⟨.inl ⟨.bool true,.bool true,[],rfl,fun _=>rfl,.bool true,zCe l _,fun _=>⟨List.Pairwise.nil,fun _ hm=>(nomatch hm)⟩⟩,h2,h3,h4⟩
section
variable {prog:Program}{w:World}{A:Around}{E:Value->Shared->Prop}{s:Shared}{K:Frag}
theorem zFT {R:Result->Shared->Prop}{C fI:Addr}{rest:List Value}{kw:List (Str×Value)}
   (X:K.In s.heap) (hm:makesIn K C=true) (hi:findIn K (.ref C) "__init__" = some (some (.ref fI))) (hf:isFn K (.ref fI)=true)
   (h:codeAny (model prog w) (A.under (.builtin "type.__call__" ⟨.ref C :: rest,kw⟩)) (.call (.ref fI) ⟨.ref (s.heap.objs.size+1) :: rest,kw⟩) (InitBack (s.heap.objs.size+1) R)
     { s with heap:=(s.heap.push emptyDict).push (instObj C s.heap.objs.size) }):codeAny (model prog w) A (.call (.ref C) ⟨rest,kw⟩) R s:=by
 obtain ⟨hh,g,d,t,os⟩:=s
 exact make_core (makes_of X hm) (looks_findIn X hi) (fun self=>bind_fn X self (beq_iff_eq.mp hf)) (.inl rfl) h
theorem zG7 {x C:Addr}{ox:Obj}{es:List DictEntry}{n:Nat}{name:Str}{expr:Bool}{v:Value}{Q:Value->Shared->Prop}
   (X:K.In s.heap) (I:PySem.W.InstAt s.heap x ox C (some (dictOf es n))) (hg:plainGet K C name=true) (hh:hasDictIn K C=true) (ha:findIn K (.ref C) name=some none)
   (hl:getL name es=some (some v)) (hv:handedIn v=true) (h:Q v { s with toks:=s.toks+1 }):wpAny (model prog w) A (getAttr (.ref x) name expr) Q E s :=
 get_value X I (plainGet_of hg).1 (findObj_own hh ha rfl hl) hv h
end
end Att
namespace L2
open PySem PySem.Spec PyProof.Rows
theorem ziA:∀ {vs:List Value}{ns:List Int},IntsAre vs ns->zA (ns.map V.int) vs
 | _,_,.nil=> .nil
 | _,_,.cons n t h=> .cons ⟨t,rfl⟩ (ziA h)
noncomputable def zhZ (H:Hp):Prop:=∀ b,H b=none∨∃ o xs,H b=some (.frz o (.lst xs))
theorem zBo {P:Program}{w:World}{K:PySem.W.Frag}{mg mb:Str->Option Value}{CX:CXT}{k:Nat}{fa a:Addr}{fd:FuncData}{x:Str}{sp:Sp}{s₁:Shared}{vs:List Value}{ns:List Int}
   (KX:K.In s₁.heap) (hns:s₁.heap.Ns mainGlobals mg) (hb:s₁.heap.Ns builtinsNs mb) (hbb:∀ x:Str,x ≠ "__name__" -> mb x=bootBuiltins x) (hlim:s₁.heap.NoLimit) (hg:s₁.gens=#[])
   (ha:s₁.heap.get? a=some { cls := .type "list",data := .seq vs.toArray }) (hi:IntsAre vs ns) (hl:ns.length<=sizeLine) (hr:zP k callerA)
   (F:∀ base:Heap,K.In base->base.Ns mainGlobals mg->zK P w K mg base CX k fa fd [x] sp) (hbind:∀ (s:Shared) (u:Value),BindsTo s fd ⟨[u],[]⟩ [(x,u)])
   (hsp:∀ H:Hp,zhZ H->SqL K H a (ns.map V.int)->sp [.ref a] H (fun v _=>v = .bl true) fun _ _ _=>False)
   (hCX:∀ H e s',CX [] H s₁ (fun _ _ _=>False) e s'->False) :
   codeAny (model P w) callerA (.call (.ref fa) ⟨[.ref a],[]⟩) (fun r s'=>r = .ok (.ret (.bool true))∧OldK s₁.heap s'.heap∧s'.os=s₁.os∧AllBare s'.gens) s₁:=by
 have rv:=ziA hi
 have lenV:=hi.length
 have core:∀ H:Hp,zhZ H->SqL K H a (ns.map V.int)->HOk P w H s₁.heap->(∀ b,H b≠none->b=a)->(H a≠none->K.lookup a=none) ->
     codeAny (model P w) callerA (.call (.ref fa) ⟨[.ref a],[]⟩) (fun r s'=>r = .ok (.ret (.bool true))∧OldK s₁.heap s'.heap∧s'.os=s₁.os∧AllBare s'.gens) s₁:=by
   intro H hO hS hok hA hK
   have base_of:∀ {b:Addr} {o:Obj},s₁.heap.get? b=some o->H b=none->(zfd s₁.heap H).get? b=some o:=fun e n=>zDR e n
   have noA:∀ {b:Addr} {o:Obj} {es:Array DictEntry} {ep:Nat},s₁.heap.get? b=some o->o.data = .dict es ep->H b=none:=fun {b o es ep} e d=>by
     cases q:H b with
     | none=>rfl
     | some u =>
       have e':b=a:=hA b (by rw [q];simp)
       subst e'
       rw [ha]at e;cases e
       have d':Data.seq vs.toArray _=Data.dict es ep:=d
       cases d'
   have nsK:∀ {b:Addr} {m:Str->Option Value},s₁.heap.Ns b m->(zfd s₁.heap H).Ns b m:=fun {b m} ⟨o,es,ep,e,d,r⟩=>⟨o,es,ep,base_of e (noA e d),d,r⟩
   have hKb:K.In (zfd s₁.heap H):=fun b o e=>base_of (KX b o e) (by
     cases q:H b with
     | none=>rfl
     | some u =>
       have e':b=a:=hA b (by rw [q];simp)
       subst e'
       rw [hK (by rw [q];simp)]at e;cases e)
   have hM:Mod K mg (zfd s₁.heap H):=⟨hKb,nsK hns,⟨mb,nsK hb,hbb⟩,let ⟨mc,h1,h2⟩:=hlim;⟨mc,nsK h1,h2⟩⟩
   have e0:zgo P w K mg (zfd s₁.heap H) callerA [] s₁ H:=⟨rfl,hM,fun b o e=>zBD e,Nat.le_of_eq (zBQ _ _),trivial,fun b hb=>absurd (show b∈([]:List Addr) from hb) (by simp),hok,.of_eq hg⟩
   refine codeAny_mono ((F _ hKb (nsK hns)).run callerA [] s₁ H ⟨[.ref a],[]⟩ [.ref a] [.ref a] _ _ hr e0 (hbind s₁ (.ref a)) (.cons rfl .nil) (hsp H hO hS)) fun r s' h=>?_
   cases r with
   | error e=>exact (hCX H e s' h).elim
   | ok fl =>
     cases fl with
     | next=>exact False.elim h
     | brk=>exact False.elim h
     | cont=>exact False.elim h
     | ret u =>
       obtain ⟨v,H',os,bare,un,hok',r',q⟩:=h
       have q':v = .bl true:=q
       subst q'
       obtain rfl:u=Value.bool true:=r'
       refine ⟨rfl,OldK.of_keep fun b o e=>?_,os,bare⟩
       cases q:H b with
       | none=>exact un.keep b o e q (by intro z;exact absurd (show b∈([]:List Addr) from z) (by simp)) (by simp)
       | some u =>
         rcases hO b with z | ⟨ob,xs,z⟩
         . rw [q]at z;cases z
         . have z2:=un.frzs b ob _ z
           obtain ⟨e1,_⟩:=hok b _ z
           obtain ⟨e2,_⟩:=hok' b _ z2
           rw [e]at e1;cases e1
           exact e2
 cases hk:K.lookup a with
 | some o =>
   have e:=KX a o hk
   rw [ha]at e
   cases e
   refine core (fun _=>none) (fun _=> .inl rfl) (.inr ⟨_,vs.toArray,_,hk,rfl,rfl,rfl,by rw [List.size_toArray,lenV];exact hl,by simpa using rv⟩) (fun b u z=>by have z':(none:Option HO)=some u:=z;cases z') (fun b z=>absurd rfl z) fun z=>absurd rfl z
 | none =>
   refine core (fun b=>if b=a then some (.frz { cls := .type "list",data := .seq vs.toArray } (.lst (ns.map V.int))) else none) (fun b=>?_) (.inl (.inr ⟨{ cls := .type "list",data := .seq vs.toArray },if_pos rfl⟩)) (fun b u z=>?_) (fun b z=>?_) fun _=>hk
   . by_cases hb:b=a
     . exact .inr ⟨_,_,if_pos hb⟩
     . exact .inl (if_neg hb)
   . by_cases hb:b=a
     . have z':=(if_pos hb).symm.trans z
       cases z'
       subst hb
       exact ⟨ha,by rw [List.length_map];exact hl,vs,_,rv,ha⟩
     . have z':=(if_neg hb).symm.trans z
       cases z'
   . by_cases hb:b=a
     . exact hb
     . exact absurd (if_neg hb) z
end L2
namespace L2
open PySem PySem.Spec PyProof.Rows
theorem walk_of {l:PySem.W.OpenLaw}{n k:Nat}{q:Program}{loose:List Str}{XP:(Str->Option Value)->Heap->Prop}{YP:World->Heap->Prop}{d:DefRec}{K:Params->PySem.W.Frag}{CX:World->CXT}{sp:World->Sp}{x:Str}
   (hn:l.most=some n) (hn2:n<=sizeLine) (hdf:d.params.defaults=[]) (hr:zP k callerA)
   (hY:∀ (w:World) (h:Heap),YP w h->(K w.params).In h)
   (F:∀ (w:World) (mg:Str->Option Value) (fa:Addr) (h:Heap),(K w.params).In h->h.Ns mainGlobals mg->mg d.name=some (.ref fa) ->
     ∃ fd:FuncData,(∀ (s:Shared) (u:Value),BindsTo s fd ⟨[u],[]⟩ [(x,u)]) ∧
       ∀ base:Heap,(K w.params).In base->base.Ns mainGlobals mg->zK l.prog w (K w.params) mg base (CX w) k fa fd [x] (sp w))
   (hsp:∀ (w:World) (H:Hp) (a:Addr) (ns:List Int),ns.length<=n->zhZ H->SqL (K w.params) H a (ns.map V.int)->sp w [.ref a] H (fun v _=>v = .bl true) fun _ _ _=>False)
   (hCX:∀ (w:World) (H:Hp) (s:Shared) (e:Value) (s':Shared),CX w [] H s (fun _ _ _=>False) e s'->False) :
   PySem.W.WalkO q loose XP YP l.row.toRowW d [] (fun f vs=>PySem.call f vs):=by
 refine Att.attach_call hn hdf fun w s₀ s₁ mg mb fa o pm cd doc a vs ns G Y ho hd hcd hmg hobj hints hlen hg=>?_
 have KX:=hY w _ Y
 obtain ⟨fd,hb,hF⟩:=F w mg fa _ KX G.T.g hmg
 exact zBo KX G.T.g G.T.b G.T.builtins G.T.nolimit hg hobj hints (Nat.le_trans hlen hn2) hr hF hb (fun H hO hS=>hsp w H a ns hlen hO hS) fun H e s'=>hCX w H s₁ e s'
end L2
namespace L2
open PySem PySem.Spec PyProof.Rows
noncomputable def zhb (s:Stmt) (j:Nat):Stmt:=match s with
 | .ClassDef _ _ _ body _ _ _ _ _ _ _=>body.getD j (.Pass ⟨0,0,0,0⟩)
 | _=> .Pass ⟨0,0,0,0⟩
noncomputable def z7 (s:Stmt):Arguments:=match s with
 | .FunctionDef _ a _ _ _ _ _ _ _ _=>a
 | _=>{ posonlyargs:=[],args:=[],vararg:=none,kwonlyargs:=[],kw_defaults:=[],kwarg:=none,defaults:=[] }
noncomputable def zT (s:Stmt):List Stmt:=match s with
 | .FunctionDef _ _ b _ _ _ _ _ _ _=>b
 | _=>[]
noncomputable def zr (s:Stmt):Scope:=match s with
 | .FunctionDef _ _ _ _ _ _ sc _ _ _=>sc
 | _=>{ kind := .function,names:=[],isGenerator:=false,isCoroutine:=false }
abbrev CX0:CXT:=fun _ _ _ _ _ _=>False
abbrev E0:XK:=fun _ _ _=>False
theorem zjb {X:Cx}:zgn CX0 X E0:=fun _ _ _ _ _ _ _ h=>h.elim
structure Fun (K:PySem.W.Frag) (x qual:Str) (st:Stmt) (f:Addr) (fd:FuncData):Prop where
 ex:∃ (oc:Value) (od:Option Addr) (kV doc pm:Value) (an:Option Addr) (cdv ct:Value) (osl:Array (Option Value)),
   fd=PySem.W.fnOf x qual (z7 st) (zT st) (zr st) .none kV doc pm an cdv ct∧K.lookup f=some ⟨oc,od,.func fd,osl⟩∧PySem.W.codeIn K cdv qual=true
 kp:PySem.W.keepIn K (.ref f)=true
section
variable {P:Program}{w:World}{K:PySem.W.Frag}{mg:Str->Option Value}{base:Heap}
theorem Fun.ok {x qual:Str}{st:Stmt}{f:Addr}{fd:FuncData}{N ps:List Str}{k:Nat}{sp:Sp} (F:Fun K x qual st f fd) (S:z6 N ps (zr st)) (len:∀ vs H Q E,sp vs H Q E->vs.length=ps.length)
   (hbody:∀ (cdv:Value) (A:Around) (outer:List Env) (s:Shared) (H:Hp) (vs:List V) (Q:VK) (E:XK),zP k (A.deeper (envOfC qual (zr st) s.heap.objs.size f cdv))->sp vs H Q E ->
     ∃ t,PSs (zgr CX0 P w K mg base N qual (zr st) f cdv A outer s H E).nox (zT st) t∧t { nx:=fun _ H'=>Q .non H',rt:=Q } (start N vs) H):zK P w K mg base CX0 (k+1) f fd ps sp:=by
 obtain ⟨oc,od,kV,doc,pm,an,cdv,ct,osl,rfl,lk,hcd⟩:=F.ex
 refine zzR lk hcd S len fun A outer s H vs Q E hr hsp=>?_
 obtain ⟨t,h,q⟩:=hbody cdv A outer s H vs Q E hr hsp
 exact ⟨t,h.nox,q⟩
theorem Fun.binds {x qual:Str}{st:Stmt}{f:Addr}{fd:FuncData}{ps:List Str} (F:Fun K x qual st f fd)
   (h:∀ (kV doc pm:Value) (an:Option Addr) (cdv ct:Value) (us:List Value),us.length=ps.length->bindArgs (PySem.W.fnOf x qual (z7 st) (zT st) (zr st) .none kV doc pm an cdv ct) ⟨us,[]⟩=pure (ps.zip us)):zdw K fd ps []:=by
 obtain ⟨oc,od,kV,doc,pm,an,cdv,ct,osl,rfl,lk,hcd⟩:=F.ex
 exact .all (h kV doc pm an cdv ct)
theorem zbi {x qual:Str}{st:Stmt}{f:Addr}{oc:Value}{od an:Option Addr}{osl:Array (Option Value)}{kV doc pm cdv ct:Value} (l:K.lookup f=some ⟨oc,od,.func (PySem.W.fnOf x qual (z7 st) (zT st) (zr st) .none kV doc pm an cdv ct),osl⟩)
   (c:PySem.W.codeIn K cdv qual=true) (k:PySem.W.keepIn K (.ref f)=true):Fun K x qual st f (PySem.W.fnOf x qual (z7 st) (zT st) (zr st) .none kV doc pm an cdv ct):=⟨⟨oc,od,kV,doc,pm,an,cdv,ct,osl,rfl,l,c⟩,k⟩
end
theorem zi1 {A:Around}{k:Nat} (hr:zP k A):A.units+1 < cLine:=Nat.lt_of_le_of_lt (Nat.add_le_add_left (by decide:1<=64) _) hr.units
section
variable {X:Cx}
end
end L2
end
section
namespace L2
open PySem PySem.Spec PyProof.Rows
section
variable {κ:Type} [DecidableEq κ]
noncomputable def zds (kvs:List (κ×V)) (k:κ):Option V:=(kvs.find? fun kv=>decide (kv.1=k)).map (·.2)
noncomputable def zcC (kvs:List (κ×V)) (k:κ) (v:V):List (κ×V) :=
 if (kvs.any fun kv=>decide (kv.1=k))=true then kvs.map (fun kv=>if kv.1=k then (kv.1,v) else kv) else kvs++[(k,v)]
theorem ziF {p:κ×V}{r:List (κ×V)}{k:κ} (e:p.1=k):zds (p :: r) k=some p.2:=by simp [zds,List.find?_cons,e]
theorem zja {p:κ×V}{r:List (κ×V)}{k:κ} (e:¬ p.1=k):zds (p :: r) k=zds r k:=by simp [zds,List.find?_cons,e]
theorem ztn (k:κ):∀ kvs:List (κ×V),(kvs.any fun kv=>decide (kv.1=k))=(zds kvs k).isSome
 | []=>rfl
 | p :: r=>by
   rw [List.any_cons]
   by_cases e:p.1=k
   . simp only [ziF e,decide_eq_true e,Bool.true_or,Option.isSome_some]
   . rw [zja e,decide_eq_false e,Bool.false_or];exact ztn k r
theorem zpF (kvs:List (κ×V)) (k:κ) (v:V):(zcC kvs k v).length<=kvs.length+1:=by
 unfold zcC
 split
 . rw [List.length_map];omega
 . rw [List.length_append,List.length_cons,List.length_nil];omega
theorem zc1.isSome_eq {o:Option V}{u:Option Value} (r:zc1 o u):o.isSome=u.isSome:=by
 cases o with
 | none=>cases u with
   | none=>rfl
   | some _=>exact (show False from r).elim
 | some _=>cases u with
   | none=>exact (show False from r).elim
   | some _=>rfl
theorem KV.val {kvs:List (κ×V)}{vs:List (κ×Value)} (r:KV kvs vs) (k:κ):zc1 (zds kvs k) (valueAt vs k):=by
 unfold KV at r
 induction r with
 | nil=>exact True.intro
 | @cons p q ps qs h t ih =>
   obtain ⟨h1,h2⟩:=h
   by_cases e:p.1=k
   . have e':q.1=k:=h1.symm.trans e
     have b:valueAt (q :: qs) k=some q.2:=by simp [valueAt,List.find?_cons,e']
     rw [ziF e,b];exact h2
   . have e':¬ q.1=k:=fun z=>e (h1.trans z)
     have b:valueAt (q :: qs) k=valueAt qs k:=by simp [valueAt,List.find?_cons,e']
     rw [zja e,b];exact ih
theorem KV.any {kvs:List (κ×V)}{vs:List (κ×Value)} (r:KV kvs vs) (k:κ):(kvs.any fun kv=>decide (kv.1=k))=vs.any fun kv=>decide (kv.1=k):=by
 unfold KV at r
 induction r with
 | nil=>rfl
 | cons h t ih=>rw [List.any_cons,List.any_cons,ih,h.1]
theorem KV.repl {kvs:List (κ×V)}{vs:List (κ×Value)} (r:KV kvs vs) (k:κ) {y:V}{u:Value} (ry:zt y u) :
   KV (kvs.map fun kv=>if kv.1=k then (kv.1,y) else kv) (vs.map fun kv=>if kv.1=k then (kv.1,u) else kv):=by
 unfold KV at r ⊢
 induction r with
 | nil=>exact .nil
 | @cons p q ps qs h t ih =>
   rw [List.map_cons,List.map_cons]
   refine .cons ?_ ih
   obtain ⟨h1,h2⟩:=h
   by_cases e:p.1=k
   . rw [if_pos e,if_pos (h1.symm.trans e)];exact ⟨h1,ry⟩
   . rw [if_neg e,if_neg (fun z=>e (h1.trans z))];exact ⟨h1,h2⟩
theorem KV.put {kvs:List (κ×V)}{vs:List (κ×Value)} (r:KV kvs vs) (k:κ) {y:V}{u:Value} (ry:zt y u):KV (zcC kvs k y) (stored vs k u):=by
 unfold zcC stored
 rw [r.any k]
 by_cases e:(vs.any fun kv=>decide (kv.1=k))=true
 . rw [if_pos e,if_pos e];exact r.repl k ry
 . rw [if_neg e,if_neg e];exact Paired.snoc r ⟨rfl,ry⟩
theorem KV.keys {kvs:List (κ×V)}{vs:List (κ×Value)} (r:KV kvs vs):kvs.map (·.1)=vs.map (·.1):=by
 unfold KV at r
 induction r with
 | nil=>rfl
 | cons h t ih=>rw [List.map_cons,List.map_cons,ih,h.1]
theorem KV.length {kvs:List (κ×V)}{vs:List (κ×Value)} (r:KV kvs vs):kvs.length=vs.length:=Paired.length r
end
theorem zhg {P:Program}{w:World}{k:Key}{u:Value} (r:zt (kV k) u):(zbM P w).is k u=true:=by
 cases k with
 | inl i=>obtain ⟨t,e⟩:=(show ∃ t,u=Value.int i t from r);subst e;exact zD7 P w i t
 | inr x=>obtain ⟨t,e⟩:=(show ∃ t,u=Value.str x t from r);subst e;exact zDG P w x t
theorem ztk {P:Program}{w:World}:∀ {ks:List Key}{us:List Value},zA (ks.map kV) us->ItemsAre (zbM P w) ks us
 | [],_,r=>by rw [List.map_nil]at r;cases r;exact .nil
 | k :: ks,_,r=>by
   rw [List.map_cons]at r
   cases r with
   | cons h t=>exact .cons (zhg h) (ztk t)
abbrev KT (H:Hp):List (List Key×V)->List (List Key×Addr×Value)->Prop:=Paired fun p q=>p.1=q.1∧H q.2.1=some (.tup (p.1.map kV))∧zt p.2 q.2.2
theorem KT.val {H:Hp}{kvs:List (List Key×V)}{xs:List (List Key×Addr×Value)} (r:KT H kvs xs) (k:List Key):zc1 (zds kvs k) ((atKey xs k).map (·.2)):=by
 induction r with
 | nil=>exact True.intro
 | @cons p q ps qs h t ih =>
   obtain ⟨h1,_,h2⟩:=h
   by_cases e:p.1=k
   . have e':q.1=k:=h1.symm.trans e
     have b:atKey (q :: qs) k=some q.2:=by simp [atKey,List.find?_cons,e']
     rw [ziF e,b];exact h2
   . have e':¬ q.1=k:=fun z=>e (h1.trans z)
     have b:atKey (q :: qs) k=atKey qs k:=by simp [atKey,List.find?_cons,e']
     rw [zja e,b];exact ih
theorem KT.repl {H:Hp}{kvs:List (List Key×V)}{xs:List (List Key×Addr×Value)} (r:KT H kvs xs) (k:List Key) {y:V}{u:Value} (ry:zt y u) :
   KT H (kvs.map fun kv=>if kv.1=k then (kv.1,y) else kv) (xs.map (putAt k u)):=by
 induction r with
 | nil=>exact .nil
 | @cons p q ps qs h t ih =>
   rw [List.map_cons,List.map_cons]
   refine .cons ?_ ih
   obtain ⟨h1,h2,h3⟩:=h
   unfold putAt
   by_cases e:p.1=k
   . rw [if_pos e,if_pos (h1.symm.trans e)];exact ⟨h1,h2,ry⟩
   . rw [if_neg e,if_neg (fun z=>e (h1.trans z))];exact ⟨h1,h2,h3⟩
theorem KT.put {H:Hp}{kvs:List (List Key×V)}{xs:List (List Key×Addr×Value)} (r:KT H kvs xs) (k:List Key) {b:Addr}{y:V}{u:Value} (hb:H b=some (.tup (k.map kV))) (ry:zt y u) :
   KT H (zcC kvs k y) (storedH xs k b u):=by
 have e:(kvs.any fun kv=>decide (kv.1=k))=(atKey xs k).isSome:=by
   rw [ztn,(r.val k).isSome_eq,Option.isSome_map]
 unfold zcC storedH
 rw [e]
 by_cases q:(atKey xs k).isSome=true
 . rw [if_pos q,if_pos q];exact r.repl k ry
 . rw [if_neg q,if_neg q];exact Paired.snoc r ⟨rfl,hb,ry⟩
theorem KT.keeps {H H':Hp}{kvs:List (List Key×V)}{xs:List (List Key×Addr×Value)} (r:KT H kvs xs) (ht:∀ b ys,H b=some (.tup ys)->H' b=some (.tup ys)):KT H' kvs xs :=
 Paired.mapP r fun _ _ z=>⟨z.1,ht _ _ z.2.1,z.2.2⟩
section
variable {P:Program}{w:World}{H:Hp}{h:Heap}{a:Addr}
theorem zs2 {u:HO} (ok:HOk P w H h) (e:Rd H a u):zbQ P w H h a u:=e.ok ok
theorem zhN {kvs:List (Key×V)} (ok:HOk P w H h) (e:Rd H a (.dK kvs)):kvs.length<=sizeLine∧(a == sysModules)=false∧∃ vs,KV kvs vs∧h.DictOf (zbM P w) a vs :=
 show zbQ P w H h a (.dK kvs) from zs2 ok e
theorem zrD {kvs:List (Key×V)} (ok:HOk P w H h) (e:H a=some (.dK kvs)):kvs.length<=sizeLine∧(a == sysModules)=false∧∃ vs,KV kvs vs∧h.DictOf (zbM P w) a vs:=zhN ok (.inl e)
theorem zhV {ks:List Key} (ok:HOk P w H h) (e:H a=some (.tup (ks.map kV))):(tupleKind (zbM P w)).is h ks a:=by
 obtain ⟨_,its,r,o,h1,h2,n,h3⟩:=(show zbQ P w H h a (.tup (ks.map kV)) from ok a _ e)
 exact ⟨o,its.toArray,n,h1,h2,h3,by simpa using ztk r⟩
theorem zhQ {kvs:List (List Key×V)} (ok:HOk P w H h) (e:Rd H a (.dT kvs)):kvs.length<=sizeLine∧(a == sysModules)=false ∧
   ∃ xs,KT H kvs xs∧h.DictOfH (tupleKind (zbM P w)) a xs:=by
 obtain ⟨z,y,xs,r,o,es,ep,h1,h2,h3,h4,h5⟩:=(show zbQ P w H h a (.dT kvs) from zs2 ok e)
 refine ⟨z,y,xs,r,o,es,ep,h1,h2,h3,h4,fun x hx=>?_,h5⟩
 have all:∀ {l:List (List Key×V)} {m:List (List Key×Addr×Value)},KT H l m->∀ x∈m,(tupleKind (zbM P w)).is h x.1 x.2.1:=by
   intro l m q
   induction q with
   | nil=>intro x hx;exact nomatch hx
   | @cons p q ps qs hq t ih =>
     intro x hx
     rcases List.mem_cons.mp hx with e | hx
     . subst e
       exact zhV ok (by rw [<- hq.1];exact hq.2.1)
     . exact ih x hx
 exact all r x hx
theorem zBh {kvs:List (List Key×V)} (ok:HOk P w H h) (e:H a=some (.dT kvs)):kvs.length<=sizeLine∧(a == sysModules)=false ∧
   ∃ xs,KT H kvs xs∧h.DictOfH (tupleKind (zbM P w)) a xs:=zhQ ok (.inl e)
end
noncomputable def zeP (H:Hp) (a:Addr) (y:V) (r:Option V):Prop :=
 (∃ kvs k,Rd H a (.dK kvs)∧y=kV k∧r=zds kvs k)∨∃ kvs k b,Rd H a (.dT kvs)∧y = .ref b∧H b=some (.tup (k.map kV))∧r=zds kvs k
noncomputable def zhK (H:Hp) (a:Addr) (y v:V) (H':Hp):Prop :=
 (∃ kvs k,H a=some (.dK kvs)∧y=kV k∧kvs.length < sizeLine∧H'=upd H a (.dK (zcC kvs k v))) ∨
 ∃ kvs k b,H a=some (.dT kvs)∧y = .ref b∧H b=some (.tup (k.map kV))∧kvs.length < sizeLine∧H'=upd H a (.dT (zcC kvs k v))
theorem zeP.k {H:Hp}{a:Addr}{kvs:List (Key×V)}{k:Key} (e:H a=some (.dK kvs)):zeP H a (kV k) (zds kvs k) := .inl ⟨kvs,k,.inl e,rfl,rfl⟩
theorem zhK.k {H:Hp}{a:Addr}{kvs:List (Key×V)}{k:Key}{v:V} (e:H a=some (.dK kvs)) (hl:kvs.length < sizeLine):zhK H a (kV k) v (upd H a (.dK (zcC kvs k v))) := .inl ⟨kvs,k,e,rfl,hl,rfl⟩
section
variable {X:Cx}{pins:List (Addr×Obj)}{σ:St}{H:Hp}{s:Shared}{a:Addr}{y v:V}{u r:Value}{o:Option V}{A:Around}{E:Value->Shared->Prop}
theorem Inv.big (I:Inv X pins σ H s):sysModules < s.heap.objs.size:=by
 have h:mainGlobals < s.heap.objs.size:=(I.mod.glob.keeps I.bk).lt
 exact Nat.lt_trans (by decide) h
theorem zE5 {Q:Value->Shared->Prop} (hu:A.units+1 < cLine) (I:Inv X pins σ H s) (g:zeP H a y (some v)) (ry:zt y u) (h:∀ w' s',Inv X pins σ H s'->zt v w'->Q w' s') :
   wpAny (model X.prog X.w) A (getItem (.ref a) u) Q E s:=by
 rcases g with ⟨kvs,k,e,ey,l⟩ | ⟨kvs,k,b,e,ey,eb,l⟩
 . subst ey
   obtain ⟨z,hd,vs,rel,dd⟩:=zhN I.hok e
   obtain ⟨w',hw,rw'⟩:=zc1.some_of (v:=v) (o:=valueAt vs k) (by rw [l];exact rel.val k)
   exact wpAny_getItem_of (zhg ry) dd.mapOf hw (h w' _ (I.tok _) rw')
 . subst ey
   cases (show u=Value.ref b from ry)
   obtain ⟨z,hd,xs,rel,dd⟩:=zhQ I.hok e
   obtain ⟨w',hw,rw'⟩:=zc1.some_of (v:=v) (o:=(atKey xs k).map (·.2)) (by rw [l];exact rel.val k)
   obtain ⟨p,hp,hp2⟩:=Option.map_eq_some_iff.mp hw
   refine wpAny_getItem_heap (tupleKind_room_in1 hu) (zhV I.hok eb) dd hp ?_
   rw [hp2]
   exact h w' _ (I.tok _) rw'
theorem zDB {Q:Value->Shared->Prop} (hu:A.units+1 < cLine) (I:Inv X pins σ H s) (g:zeP H a y o) (ry:zt y u) (h:∀ s',Inv X pins σ H s'->Q (.bool o.isSome) s') :
   wpAny (model X.prog X.w) A (compareOp .In u (.ref a)) Q E s:=by
 rcases g with ⟨kvs,k,e,ey,l⟩ | ⟨kvs,k,b,e,ey,eb,l⟩
 . subst ey
   obtain ⟨z,hd,vs,rel,dd⟩:=zhN I.hok e
   refine wpAny_in_of (zhg ry) hd dd.mapOf ?_
   rw [<- (rel.val k).isSome_eq,<- l]
   exact h _ (I.tok _)
 . subst ey
   cases (show u=Value.ref b from ry)
   obtain ⟨z,hd,xs,rel,dd⟩:=zhQ I.hok e
   refine wpAny_in_heap (tupleKind_room_in1 hu) (zhV I.hok eb) hd dd ?_
   have q:=(rel.val k).isSome_eq
   rw [Option.isSome_map]at q
   rw [<- q,<- l]
   exact h _ (I.tok _)
theorem zDU {Q:Value->Shared->Prop} (hu:A.units+1 < cLine) (I:Inv X pins σ H s) (g:zeP H a y o) (ry:zt y u) (h:∀ s',Inv X pins σ H s'->Q (.bool (!o.isSome)) s') :
   wpAny (model X.prog X.w) A (compareOp .NotIn u (.ref a)) Q E s:=by
 rcases g with ⟨kvs,k,e,ey,l⟩ | ⟨kvs,k,b,e,ey,eb,l⟩
 . subst ey
   obtain ⟨z,hd,vs,rel,dd⟩:=zhN I.hok e
   refine wpAny_notIn_of (zhg ry) hd dd.mapOf ?_
   rw [<- (rel.val k).isSome_eq,<- l]
   exact h _ (I.tok _)
 . subst ey
   cases (show u=Value.ref b from ry)
   obtain ⟨z,hd,xs,rel,dd⟩:=zhQ I.hok e
   refine wpAny_notIn_heap (tupleKind_room_in1 hu) (zhV I.hok eb) hd dd ?_
   have q:=(rel.val k).isSome_eq
   rw [Option.isSome_map]at q
   rw [<- q,<- l]
   exact h _ (I.tok _)
theorem zsJ {h':Heap}{t':Nat}{ob:HO} (I:Inv X pins σ H s) (mu:Mut (H a)) (hs:Heap.SameBut a s.heap h') (he:∃ q,h'.get? a=some q) (new:zbQ X.prog X.w (upd H a ob) h' a ob) :
   Inv X pins σ (upd H a ob) { s with heap:=h',toks:=t' } :=
 I.write (x:=a) (e:=a) mu (.inl rfl) (fun b q hb z=>(hs.2 b hb).trans z) he new
theorem zsp {P:Program}{w:World}{H':Hp}{h':Heap}{kvs:List (Key×V)}{vs:List (Key×Value)} (z:kvs.length<=sizeLine) (hd:(a == sysModules)=false) (rel:KV kvs vs) (dd:h'.DictOf (zbM P w) a vs) :
   zbQ P w H' h' a (.dK kvs):=⟨z,hd,vs,rel,dd⟩
theorem zBc {H':Hp}{Q:Unit->Shared->Prop} (hu:A.units+1 < cLine) (I:Inv X pins σ H s) (g:zhK H a y v H') (ry:zt y u) (rv:zt v r) (h:∀ s',Inv X pins σ H' s'->Q () s') :
   wpAny (model X.prog X.w) A (setItem (.ref a) u r) Q E s:=by
 rcases g with ⟨kvs,k,e,ey,l,eH⟩ | ⟨kvs,k,b,e,ey,eb,l,eH⟩
 . subst ey eH
   obtain ⟨z,hd,vs,rel,dd⟩:=zrD I.hok e
   have hz:vs.length<=sizeLine:=by rw [<- rel.length];exact z
   have hl:(zcC kvs k v).length<=sizeLine:=by have:=zpF kvs k v;omega
   refine wpAny_setItem_pairs (hsz:=hz) (zhg ry) dd fun h' dd' hs=>h _ ?_
   have he:∃ q,h'.get? a=some q:=let ⟨q,_,_,hq,_⟩:=dd';⟨q,hq⟩
   exact zsJ I (by rw [e];exact True.intro) hs he (zsp hl hd (rel.put k rv) dd')
 . subst ey eH
   cases (show u=Value.ref b from ry)
   obtain ⟨z,hd,xs,rel,dd⟩:=zBh I.hok e
   have hz:xs.length<=sizeLine:=by rw [<- Paired.length rel];exact z
   have hl:(zcC kvs k v).length<=sizeLine:=by have:=zpF kvs k v;omega
   refine wpAny_setItem_heap (hsz:=hz) (tupleKind_room_in1 hu) (zhV I.hok eb) dd fun h' dd' hs=>h _ ?_
   obtain ⟨q,es,ep,hq,h2,h3,h4,_,h5⟩:=dd'
   refine zsJ I (by rw [e];exact True.intro) hs ⟨q,hq⟩ ⟨hl,hd,_,(rel.put k eb rv).keeps fun c ys ec=>?_,q,es,ep,hq,h2,h3,h4,h5⟩
   rw [zV (zEE ec e (fun z=>nomatch z))]
   exact ec
end
section
variable {X:Cx}{pins:List (Addr×Obj)}{σ:St}{H:Hp}{s:Shared}{a:Addr}{kvs:List (Key×V)}{k:Key}{u:Value}{A:Around}{E:Value->Shared->Prop}
end
theorem zB7 {X:Cx}{pins:List (Addr×Obj)}{σ:St}{H:Hp}{s:Shared}{a:Addr}{y:V}{o:Option V} (I:Inv X pins σ H s) (g:zeP H a y o):s.TypeIs (.ref a) "dict":=by
 rcases g with ⟨kvs,k,e,_,_⟩ | ⟨kvs,k,b,e,_,_,_⟩
 . obtain ⟨_,_,vs,_,dd⟩:=zhN I.hok e
   exact dd.typeIs
 . obtain ⟨_,_,xs,_,dd⟩:=zhQ I.hok e
   exact dd.typeIs
section
variable {X:Cx}{o i e value:Expr}{pos pos' tpos:Pos}{td ty tv:TE}
end
theorem zEu {P:Program}{w:World}{H:Hp} (h:Heap) (hb:sysModules < h.objs.size):zbQ P w H (h.push { cls := .type "dict",data := .dict #[] }) h.objs.size (.dK []) :=
 ⟨Nat.zero_le _,beq_eq_false_iff_ne.mpr (Ne.symm (Nat.ne_of_lt hb)),[],.nil,Heap.DictOf.new h⟩
noncomputable def zCX:TE:=fun _ H Q=>∀ p,H p=none->Q (.ref p) (upd H p (.dK []))
section
variable {X:Cx}{pos:Pos}
theorem zBy:PE X (.Dict [] [] pos) zCX:=fun pins s σ H Q I h =>
 wpAny_Dict_empty ⟨.ref s.heap.objs.size,_,I.laid (a:=s.heap.objs.size) (o := .dK []) (t':=s.toks) (fun _ _ q=>Heap.get?_push_of_some _ q) (Nat.le_refl _) (zEu s.heap I.big),rfl,h _ (I.hok.fresh (Nat.le_refl _))⟩
end
section
variable {X:Cx}{pins:List (Addr×Obj)}{σ:St}{H:Hp}{s:Shared}{a:Addr}{y d:V}{u r:Value}{o:Option V}{A:Around}{E:Value->Shared->Prop}
end
section
variable {X:Cx}{o e f:Expr}{apos cpos:Pos}{td ty tx:TE}
end
section
variable {X:Cx}{pins:List (Addr×Obj)}{σ:St}{H:Hp}{s:Shared}{a:Addr}{kvs:List (Key×V)}{A:Around}{E:Value->Shared->Prop}
end
section
variable {X:Cx}{pins:List (Addr×Obj)}{σ:St}{H:Hp}{s:Shared}{a:Addr}{y:V}{u:Value}{A:Around}{E:Value->Shared->Prop}
end
end L2
end
section
namespace L2
open PySem PySem.Spec PyProof.Rows
theorem zpj {env:Env}:∀ (names:List (Str×NameKind)) (acc:List (Str×Addr)),(∀ x∈names,x.2 = .free->∃ c,env.cells.lookup x.1=some c) ->
   ∃ cl:List (Str×Addr),(forIn names acc fun (x:Str×NameKind) (cs:List (Str×Addr))=>if (x.2 == NameKind.free)=true then (do let a <- cellOf env x.1;pure (ForInStep.yield ((x.1,a) :: cs)):Sem _) else pure (ForInStep.yield cs))=pure cl ∧
     (∀ x c,(x,c)∈cl->(x,c)∈acc∨((x,NameKind.free)∈names∧env.cells.lookup x=some c)) ∧
     (∀ x c,(x,c)∈acc∨((x,NameKind.free)∈names∧env.cells.lookup x=some c)->(x,c)∈cl)
 | [],acc,_=>⟨acc,rfl,fun x c h=> .inl h,fun x c h=>h.elim id fun z=>nomatch z.1⟩
 | (n,k) :: r,acc,h=>by
   have hr:∀ x∈r,x.2=NameKind.free->∃ c,env.cells.lookup x.1=some c:=fun x hx=>h x (List.mem_cons_of_mem _ hx)
   by_cases hk:k=NameKind.free
   . subst hk
     obtain ⟨c,hc⟩:=h (n,NameKind.free) List.mem_cons_self rfl
     obtain ⟨cl,e,h1,h2⟩:=zpj r ((n,c) :: acc) hr
     refine ⟨cl,?_,fun x d hx=>?_,fun x d hx=>?_⟩
     . rw [List.forIn_cons]
       have e1:cellOf env n=(pure c:Sem Addr):=by unfold cellOf;rw [hc]
       simp only [beq_self_eq_true,if_true,e1]
       exact e
     . rcases h1 x d hx with z | ⟨z,z'⟩
       . rcases List.mem_cons.mp z with z | z
         . cases z;exact .inr ⟨List.mem_cons_self,hc⟩
         . exact .inl z
       . exact .inr ⟨List.mem_cons_of_mem _ z,z'⟩
     . apply h2
       rcases hx with z | ⟨z,z'⟩
       . exact .inl (List.mem_cons_of_mem _ z)
       . rcases List.mem_cons.mp z with z | z
         . cases z
           rw [hc]at z';cases z'
           exact .inl List.mem_cons_self
         . exact .inr ⟨z,z'⟩
   . obtain ⟨cl,e,h1,h2⟩:=zpj r acc hr
     have hb:(k == NameKind.free)=false:=by simpa using hk
     refine ⟨cl,?_,fun x d hx=>?_,fun x d hx=>?_⟩
     . rw [List.forIn_cons]
       simp only [hb,Bool.false_eq_true,if_false]
       exact e
     . rcases h1 x d hx with z | ⟨z,z'⟩
       . exact .inl z
       . exact .inr ⟨List.mem_cons_of_mem _ z,z'⟩
     . apply h2
       rcases hx with z | ⟨z,z'⟩
       . exact .inl z
       . rcases List.mem_cons.mp z with z | z
         . cases z;exact absurd rfl hk
         . exact .inr ⟨z,z'⟩
theorem zr8 {α:Type}:∀ {l:List (Str×α)}{x:Str}{c:α},(x,c)∈l->∃ d,l.lookup x=some d∧(x,d)∈l
 | (n,k) :: r,x,c,h=>by
   cases e:x == n with
   | true =>
     have e':x=n:=by simpa using e
     subst e'
     exact ⟨k,by simp [List.lookup_cons],List.mem_cons_self⟩
   | false =>
     rcases List.mem_cons.mp h with z | z
     . cases z;simp at e
     . obtain ⟨d,h1,h2⟩:=zr8 z
       exact ⟨d,by rw [List.lookup_cons,e];exact h1,List.mem_cons_of_mem _ h2⟩
theorem mem_of_lookup {α:Type}:∀ {l:List (Str×α)}{x:Str}{c:α},l.lookup x=some c->(x,c)∈l
 | (n,k) :: r,x,c,h=>by
   rw [List.lookup_cons]at h
   cases e:x == n with
   | true =>
     have e':x=n:=by simpa using e
     subst e'
     rw [e]at h;cases h
     exact List.mem_cons_self
   | false =>
     rw [e]at h
     exact List.mem_cons_of_mem _ (mem_of_lookup h)
theorem zBk {scope:Scope}{env:Env} (h:∀ x∈scope.names,x.2 = .free->∃ c,env.cells.lookup x.1=some c) :
   ∃ cl:List (Str×Addr),closureFor scope env=pure cl∧(∀ x c,cl.lookup x=some c->(x,NameKind.free)∈scope.names∧env.cells.lookup x=some c) ∧
     (∀ x c,(x,NameKind.free)∈scope.names->env.cells.lookup x=some c->cl.lookup x=some c):=by
 obtain ⟨cl,e,h1,h2⟩:=zpj (env:=env) scope.names [] h
 have g1:∀ x c,cl.lookup x=some c->(x,NameKind.free)∈scope.names∧env.cells.lookup x=some c:=fun x c z=>by
   rcases h1 x c (mem_of_lookup z) with q | q
   . exact nomatch q
   . exact q
 refine ⟨cl,?_,g1,fun x c z z'=>?_⟩
 . unfold closureFor
   show (forIn scope.names [] _ >>= _)=_
   have e2:=congrArg (fun m:Sem (List (Str×Addr))=>m >>= fun cs=>pure cs) e
   refine Eq.trans ?_ (Eq.trans e2 ?_)
   . congr 1
   . rfl
 . obtain ⟨d,e1,_⟩:=zr8 (h2 x c (.inr ⟨z,z'⟩))
   have:=(g1 x d e1).2
   rw [z']at this;cases this
   exact e1
theorem zsI {env:Env}:∀ {names:List (Str×NameKind)}{x:Str},names.lookup x=some .free ->
   (names.map fun (n,k)=>if (k == NameKind.free && env.scope.kind == .function && env.kindOf n == some .cell) then (n,NameKind.cell) else (n,k)).lookup x=some .cell ∨
   (names.map fun (n,k)=>if (k == NameKind.free && env.scope.kind == .function && env.kindOf n == some .cell) then (n,NameKind.cell) else (n,k)).lookup x=some .free
 | [],_,h=>by simp at h
 | (n,k) :: r,x,h=>by
   have ih:=@zsI env r x
   rw [List.map_cons]
   by_cases hc:(k == NameKind.free && env.scope.kind == .function && env.kindOf n == some .cell)=true
   . simp only [hc,if_true]
     cases hx:x == n with
     | true=>left;simp [List.lookup_cons,hx]
     | false =>
       simp only [List.lookup_cons,hx]at h ⊢
       exact ih h
   . simp only [hc,if_false,Bool.false_eq_true]
     cases hx:x == n with
     | true =>
       simp only [List.lookup_cons,hx]at h ⊢
       cases h
       right;rfl
     | false =>
       simp only [List.lookup_cons,hx]at h ⊢
       exact ih h
theorem zsP {env:Env}:∀ {names:List (Str×NameKind)}{x:Str},(∀ y∈names,y.2 ≠ .cell) ->
   ((names.map fun (n,k)=>if (k == NameKind.free && env.scope.kind == .function && env.kindOf n == some .cell) then (n,NameKind.cell) else (n,k)).lookup x=some .cell ∨
   (names.map fun (n,k)=>if (k == NameKind.free && env.scope.kind == .function && env.kindOf n == some .cell) then (n,NameKind.cell) else (n,k)).lookup x=some .free)->names.lookup x=some .free
 | [],_,_,h=>by simp at h
 | (n,k) :: r,x,hn,h=>by
   have ih:=@zsP env r x fun y hy=>hn y (List.mem_cons_of_mem _ hy)
   have hk:=hn (n,k) List.mem_cons_self
   rw [List.map_cons]at h
   by_cases hc:(k == NameKind.free && env.scope.kind == .function && env.kindOf n == some .cell)=true
   . simp only [hc,if_true]at h
     have hf:k = .free:=by
       simp only [Bool.and_eq_true,beq_iff_eq]at hc
       exact hc.1.1
     cases hx:x == n with
     | true=>simp [List.lookup_cons,hx,hf]
     | false =>
       simp only [List.lookup_cons,hx]at h ⊢
       exact ih h
   . simp only [hc,if_false,Bool.false_eq_true]at h
     cases hx:x == n with
     | true =>
       simp only [List.lookup_cons,hx]at h ⊢
       rcases h with h | h
       . cases h;exact absurd rfl hk
       . exact h
     | false =>
       simp only [List.lookup_cons,hx]at h ⊢
       exact ih h
noncomputable def zcE (X:Cx) (scope:Scope) (N:List Str) (cl:List (Str×Addr)) (s₀:Shared) (H₀:Hp) (fp:List Addr):Cx :=
 { X with N:=N,s₀:=s₀,H₀:=H₀,env:=compEnvC scope cl s₀.heap.objs.size X.env,outer:=X.stack,ex:=fp,fn:=fun x=>scope.names.lookup x == some .local,pn:=[],xe:=fun _ _=>False }
noncomputable def zgD (js:List (Option Nat)) (σ:St):St:=js.map fun j=>j.bind fun k=>(σ[k]?).join
structure zb0 (X:Cx) (scope:Scope) (N:List Str) (js:List (Option Nat)):Prop where
 kind:scope.kind = .function
 cell:∀ y∈scope.names,y.2 ≠ .cell
 names:∀ y∈scope.names,scope.names.lookup y.1=some y.2
 free:∀ y∈scope.names,y.2 = .free->X.env.kindOf y.1=some .cell∨X.env.kindOf y.1=some .free
 len:js.length=N.length
 slot:∀ (i k:Nat),js[i]?=some (some k)->∃ x,N[i]?=some x∧X.N[k]?=some x∧scope.names.lookup x=some .free
section
variable {X:Cx}{pins:List (Addr×Obj)}{σ:St}{H:Hp}{s:Shared}{scope:Scope}{N:List Str}{js:List (Option Nat)}{cl:List (Str×Addr)}{fp:List Addr}
theorem zBA (S:zb0 X scope N js) (I:Inv X pins σ H s) (hf:∀ b∈fp,zdo X pins H b) (hlt:∀ b∈fp,b < s.heap.objs.size)
   (h1:∀ x c,cl.lookup x=some c->(x,NameKind.free)∈scope.names∧X.env.cells.lookup x=some c)
   (h2:∀ x c,(x,NameKind.free)∈scope.names->X.env.cells.lookup x=some c->cl.lookup x=some c):(zcE X scope N cl s H fp).Ok where
 mod:=I.ok.mod
 kind:=S.kind
 glob:=I.ok.glob
 blt:=I.ok.blt
 above:=Nat.le_refl _
 inj:=fun x y c hx hy=>I.ok.inj x y c (h1 x c hx).2 (h1 y c hy).2
 has:=fun x hx=>by
   have e:scope.names.lookup x=some .free:=zsP S.cell hx
   have hm:=mem_of_lookup e
   obtain ⟨c,hc⟩:=I.ok.has x (S.free (x,.free) hm rfl)
   exact ⟨c,h2 x c hm hc⟩
 cab:=fun x c hx hc=>by
   have hm:=(h1 x c hc).1
   have e:=S.names (x,.free) hm
   have hx':(scope.names.lookup x == some NameKind.local)=true:=hx
   rw [e]at hx'
   have hx2:(some NameKind.free == some NameKind.local)=true:=hx'
   exact absurd hx2 (by decide)
 hd:=I.ok.hd
 frames:=I.ok.frames
 stk := .inl rfl
 exf:=fun b hb=>⟨Nat.ne_of_lt (hlt b hb),fun x c hc=>(hf b hb).2.2.2.2.1 x c (h1 x c hc).2⟩
 bs:=I.bs
 bsz:=Nat.le_trans I.ok.bsz I.sz
 noex:=fun b o e hb=>by
   rcases (hf b hb).2.2.2.1 with z | z
   . exact I.ok.noex b o e z
   . exact absurd (Nat.lt_of_lt_of_le (Heap.lt_size e) (Nat.le_trans I.ok.bsz z)) (Nat.lt_irrefl _)
 exfs:=fun b hb z=>by
   rcases List.mem_cons.mp (I.stkSub b z) with e | e
   . exact (hf b hb).2.1 e
   . exact (hf b hb).2.2.1 e
 funs:=I.stack
 frf:=I.stkFree
theorem zEF {h':Heap}{t':Nat}{m':Str->Option Value} (S:zb0 X scope N js) (I:Inv X pins σ H s) (hf:∀ b∈fp,zdo X pins H b) (hlt:∀ b∈fp,b < s.heap.objs.size)
   (h1:∀ x c,cl.lookup x=some c->(x,NameKind.free)∈scope.names∧X.env.cells.lookup x=some c)
   (h2:∀ x c,(x,NameKind.free)∈scope.names->X.env.cells.lookup x=some c->cl.lookup x=some c)
   (hn:h'.Ns s.heap.objs.size m') (hk:∀ b o,s.heap.get? b=some o->h'.get? b=some o) :
   Inv (zcE X scope N cl s H fp) [] (zgD js σ) H { s with heap:=h',toks:=t' }:=by
 refine ⟨zBA S I hf hlt h1 h2,rfl,I.bare,Un.kept hk,⟨m',hn,fun i x v e1 e2 e3=>?_⟩,fun x c e=>?_,I.hok.fresh (Nat.le_refl _),fun x c e=>I.freeC x c (h1 x c e).2,fun p hp=>(List.not_mem_nil (show p∈([]:List (Addr×Obj)) from hp)).elim,I.hok.kept hk,?_⟩
 . have e2':(js.map fun j=>j.bind fun k=>(σ[k]?).join)[i]?=some (some v):=e2
   rw [List.getElem?_map]at e2'
   cases ej:js[i]? with
   | none=>rw [ej]at e2';cases e2'
   | some j =>
     rw [ej]at e2'
     cases j with
     | none=>cases e2'
     | some k =>
       have e4:(σ[k]?).join=some v:=Option.some.inj e2'
       have e5:σ[k]?=some (some v):=by
         cases eσ:σ[k]? with
         | none=>rw [eσ]at e4;cases e4
         | some o=>rw [eσ]at e4;exact congrArg some e4
       obtain ⟨x',hx1,hx2,hx3⟩:=S.slot i k ej
       have e1':N[i]?=some x:=e1
       rw [hx1]at e1';cases e1'
       have hm:=mem_of_lookup hx3
       have hfr:=S.free (x,.free) hm rfl
       obtain ⟨m,hns,hl⟩:=I.loc
       obtain ⟨u,r,l⟩:=hl k x v hx2 e5 (hfr.elim (fun z=> .inr (.inl z)) fun z=> .inr (.inr z))
       refine ⟨u,r,.inr ⟨zsI hx3,?_⟩⟩
       rcases l with ⟨z,_⟩ | ⟨_,c,hc,o,ho,hd⟩
       . rcases hfr with y | y
         . have y':X.env.kindOf x=some .cell:=y
           rw [z]at y';cases y'
         . have y':X.env.kindOf x=some .free:=y
           rw [z]at y';cases y'
       . exact ⟨c,h2 x c hm hc,o,hk c o ho,hd⟩
 . obtain ⟨v,o,ho,hd⟩:=I.cell x c (h1 x c e).2
   exact ⟨v,o,hk c o ho,hd⟩
 . show (js.map _).length=N.length
   rw [List.length_map,S.len]
theorem zDb {H':Hp}{s':Shared}{σ':St} (I:Inv X pins σ H s) (hf:∀ b∈fp,zdo X pins H b) (J:Inv (zcE X scope N cl s H fp) [] σ' H' s'):Inv X pins σ H' s' :=
 I.call' (ch:=fp) J.os J.base J.hok J.bare fun b hb=>by
   obtain ⟨f0,f1,f2,f3,f4,f5⟩:=hf b hb
   exact ⟨f3,f1,f4,f5⟩
theorem zt2 {C:Addr}{H':Hp}{s':Shared}{σ':St}{h'':Heap} (I:Inv X pins σ H s) (hC:C=s.heap.objs.size) (hn:H' C=none) (J:Inv X pins σ' H' s') (hs:Heap.SameBut C s'.heap h''):Inv X pins σ' H' { s' with heap:=h'' }:=by
 have J1:=J.turned (h':=h'') (t':=s'.toks) (it:=C) (fun b o hb e=>(hs.2 b hb).trans e) hn (by rw [hC];exact Nat.ne_of_gt I.lt) (.inr (by rw [hC];exact I.sz))
   (fun x c e z=>by
     obtain ⟨v,o,ho,_⟩:=I.cell x c e
     have:=Heap.lt_size ho
     rw [z,hC]at this
     exact absurd this (Nat.lt_irrefl _))
   (fun p hp z=>by
     have:=Heap.lt_size (I.pin p hp).1
     rw [z,hC]at this
     exact absurd this (Nat.lt_irrefl _))
 exact J1
end
noncomputable def zg8 (Y:Cx) (ifs:List Expr) (t:TT):Prop :=
 ∀ (pins:List (Addr×Obj)) (s:Shared) (σ:St) (H:Hp) (Q:Bool->Hp->Prop) ,Inv Y pins σ H s->t σ H Q ->
   wpAny (model Y.prog Y.w) Y.A (forIn ifs true fun c r=>if r=true then do let ok <- isTrue c Y.env (eval c Y.env);pure (ForInStep.yield ok) else pure (ForInStep.yield r)) (TP Y pins σ Q) Y.xe s
noncomputable def zCg:TT:=fun _ H Q=>Q true H
theorem zDr {Y:Cx}:zg8 Y [] zCg:=fun pins s σ H Q I h=>wpAny_tests_nil ⟨H,I,h⟩
theorem zEY {Y:Cx}{c:Expr}{t:TT} (hc:PT Y c t):zg8 Y [c] t:=fun pins s σ H Q I h=>wpAny_tests_one (hc pins s σ H Q I h)
noncomputable def zp5 (J:It) (g:TG) (tc:TT) (te:TE) (D:Addr) (σ:St) (H1:Hp) (js:List (Option Nat)) (Q:VK):Prop :=
 ∃ W:Nat->Nat->St->Hp->Prop,(∃ m,W 0 m (zgD js σ) (upd H1 D (.lst [])))∧∀ i m σ' H',W i m σ' H' ->
   (J.stop i H'∧Q (.ref D) H')∨(J.go i H'∧∀ x H2,J.yld i H' x H2->g x σ' H2 fun σ2 H3=>tc σ2 H3 fun b H4 =>
     if b=true then te σ2 H4 fun y H5=>∃ xs,H5 D=some (.lst xs)∧xs.length < sizeLine∧∃ m',m' < m∧W (i+1) m' σ2 (upd H5 D (.lst (xs++[y])))
     else ∃ m',m' < m∧W (i+1) m' σ2 H4)
noncomputable def zp2 (js:List (Option Nat)) (wi:TI) (g:TG) (tc:TT) (te:TE):TE:=fun σ H Q=>wi σ H fun J H1=>∀ D,H1 D=none->zp5 J g tc te D σ H1 js Q
section
variable {X:Cx}{scope:Scope}{N:List Str}{js:List (Option Nat)}{tg iter elt:Expr}{ifs:List Expr}{wi:TI}{g:TG}{tc:TT}{te:TE}{pos:Pos}
structure zph (X:Cx) (scope:Scope) (N:List Str) (tg elt:Expr) (ifs:List Expr) (g:TG) (tc:TT) (te:TE):Prop where
 run:∀ (cl:List (Str×Addr)) (s₀:Shared) (H₀:Hp) (fp:List Addr),PG (zcE X scope N cl s₀ H₀ fp) tg g∧zg8 (zcE X scope N cl s₀ H₀ fp) ifs tc∧PE (zcE X scope N cl s₀ H₀ fp) elt te
theorem zs9 {E:Value->Shared->Prop}{RR:Value->Addr->Result->Shared->Prop}{Q:VK}{pins:List (Addr×Obj)}{σ:St}{H1:Hp}{s2:Shared}{J:It}{it:Addr}{fp:List Addr}{tn:Nat->Heap->Prop}
   {cl:List (Str×Addr)} (hc:X.calm=true) (S:zb0 X scope N js) (Pt:zph X scope N tg elt ifs g tc te) (hcl:closureFor scope X.env=pure cl)
   (h1:∀ x c,cl.lookup x=some c->(x,NameKind.free)∈scope.names∧X.env.cells.lookup x=some c)
   (h2:∀ x c,(x,NameKind.free)∈scope.names->X.env.cells.lookup x=some c->cl.lookup x=some c)
   (I2:Inv X pins σ H1 s2) (T:zhk X.prog X.w X.K tg J fp it tn) (st2:tn 0 s2.heap) (f2:∀ b∈fp,zdo X pins H1 b)
   (h:∀ D,H1 D=none->zp5 J g tc te D σ H1 js Q)
   (hRR:∀ (D C:Addr) (s0 s':Shared) (H0 H':Hp) (m:Str->Option Value),Inv X pins σ H0 s0->C=s0.heap.objs.size->H' C=none->s'.heap.Ns C m->Inv X pins σ H' s'->Q (.ref D) H'->RR (.ref D) C (.ok .next) s') :
   wpAny (model X.prog X.w) X.A (newList []) (fun acc s₃=>wpAny (model X.prog X.w) X.A (newFunctionEnv scope X.env.globals cl [] X.env.qual none .none (some X.env)) (fun cenv s₄ =>
     codeAny (model X.prog X.w) X.A (.compStart (.ListComp elt [⟨tg,iter,ifs,0⟩] scope pos) 0 (.ref it) acc { cenv with scope:=relabel scope X.env }) (RR acc cenv.locals) s₄) E s₃) E s2:=by
 obtain ⟨W,⟨m0,w0⟩,turn⟩:=h s2.heap.objs.size (I2.hok.fresh (Nat.le_refl _))
 refine wpAny_newObj_type (wpAny_newFunctionEnv S.cell (by intro y hy;simp at hy) (fun h₁ hns₁ hsb₁=>?_) S.kind)
 dsimp only at hns₁ hsb₁ ⊢
 have I3:Inv X pins σ (upd H1 s2.heap.objs.size (.lst [])) { s2 with heap:=s2.heap.push { cls := .type "list",dict:=none,data := .seq ([]:List Value).toArray } } :=
   I2.lnew (its:=[]) (t':=s2.toks) .nil (Nat.zero_le _)
 generalize hH3:(upd H1 s2.heap.objs.size (.lst []))=H3 at I3 w0
 generalize hs3:({ s2 with heap:=s2.heap.push { cls := .type "list",dict:=none,data := .seq ([]:List Value).toArray } }:Shared)=s3 at I3
 have e3:s2.heap.push { cls := .type "list",dict:=none,data := .seq ([]:List Value).toArray }=s3.heap:=by rw [<- hs3]
 rw [e3]at hns₁ hsb₁ ⊢
 have hsz:s3.heap.objs.size=s2.heap.objs.size+1:=by rw [<- e3,Heap.size_push]
 have hlt2:∀ b∈fp,b < s2.heap.objs.size:=fun b hb=>by
   obtain ⟨o,ho,_⟩:=T.obj 0 _ st2 b hb
   exact Heap.lt_size ho
 have hlt3:∀ b∈fp,b < s3.heap.objs.size:=fun b hb=>by rw [hsz];exact Nat.lt_succ_of_lt (hlt2 b hb)
 have f3:∀ b∈fp,zdo X pins H3 b:=fun b hb=>⟨by rw [<- hH3,zV (Nat.ne_of_lt (hlt2 b hb))];exact (f2 b hb).1,(f2 b hb).2⟩
 have old:∀ b o,s3.heap.get? b=some o->h₁.get? b=some o:=fun b o e=>hsb₁.extBut b o (Nat.ne_of_lt (Heap.lt_size e)) (Heap.get?_push_of_some _ e)
 have old2:∀ b o,s2.heap.get? b=some o->h₁.get? b=some o:=fun b o e=>old b o (by rw [<- e3];exact Heap.get?_push_of_some _ e)
 have st4:tn 0 h₁:=T.keep 0 _ _ st2 fun b _ o e=>old2 b o e
 have I4:∀ t',Inv (zcE X scope N cl s3 H3 fp) [] (zgD js σ) H3 { s3 with heap:=h₁,toks:=t' }:=fun t'=>zEF S I3 f3 hlt3 h1 h2 hns₁ old
 obtain ⟨pg,pif,pe⟩:=Pt.run cl s3 H3 fp
 have stat:∀ {H':Hp} {pl:List (Addr×Obj)},(∀ b∈fp,H' b=none)->pl=[]->∀ b∈fp,zdo (zcE X scope N cl s3 H3 fp) pl H' b:=fun hn e b hb=>by
   subst e
   refine ⟨hn b hb,Nat.ne_of_lt (hlt3 b hb),fun z=>?_,.inl hb,fun x c hc=>(f3 b hb).2.2.2.2.1 x c (h1 x c hc).2,fun p hp=>(List.not_mem_nil (show p∈([]:List (Addr×Obj)) from hp)).elim⟩
   rcases List.mem_cons.mp (I3.stkSub b z) with e | e
   . exact (f3 b hb).2.1 e
   . exact (f3 b hb).2.2.1 e
 have loop:∀ s₄:Shared,s₄={ s3 with heap:=h₁,toks:=s2.toks+([]:List (Str×Value)).length } ->
     codeAny (model X.prog X.w) X.A (.compLoop (.ListComp elt [⟨tg,iter,ifs,0⟩] scope pos) 0 (.ref it) (.ref s2.heap.objs.size) (compEnvC scope cl s3.heap.objs.size X.env)) (RR (.ref s2.heap.objs.size) s3.heap.objs.size) s₄:=by
   rintro s₄ rfl
   refine codeAny_loop rfl (fun n s'=>∃ i σ' H',Inv (zcE X scope N cl s3 H3 fp) [] σ' H' s'∧tn i s'.heap∧(∀ b∈fp,H' b=none)∧W i n σ' H') ?_ m0 ⟨0,zgD js σ,H3,I4 _,st4,fun b hb=>(f3 b hb).1,w0⟩
   rintro n s5 ⟨i,σ5,H5,I5,st5,fr5,w5⟩
   show wpAny _ X.A ((compTurn (.ListComp elt [⟨tg,iter,ifs,0⟩] scope pos) 0 (.ref it) (.ref s2.heap.objs.size) (compEnvC scope cl s3.heap.objs.size X.env)).onRaise (fun x=>do noteFrame x (compEnvC scope cl s3.heap.objs.size X.env);theTreesLotGoes x)) _ _ s5
   refine wpAny_noted ?_
   rw [compTurn_list]
   have nox:∀ {α:Type} {t:Sem α} {Q:α->Shared->Prop} {E':Value->Shared->Prop} {s':Shared},wpAny (model X.prog X.w) X.A t Q (fun _ _=>False) s'->wpAny (model X.prog X.w) X.A t Q E' s':=fun h=>wpAny_mono h (fun _ _ x=>x) fun _ _ x=>x.elim
   refine wpAny_bind (wpAny_standAt (wpAny_bind ?_))
   rcases turn i n σ5 H5 w5 with ⟨stop,qn⟩ | ⟨go,step⟩
   . refine nox (thn (T.done (zcE X scope N cl s3 H3 fp) rfl rfl rfl hc i [] s5 σ5 H5 _ I5 (stat fr5 rfl) st5 stop) fun r s6 ⟨hr,I6⟩=>?_)
     subst hr
     obtain ⟨m6,hn6,_⟩:=id I6.loc
     exact wpAny_pure (hRR _ _ s3 s6 H3 H5 m6 I3 rfl I6.free hn6 (zDb I3 f3 I6) qn)
   . refine nox (thn (T.item (zcE X scope N cl s3 H3 fp) rfl rfl rfl hc i [] s5 σ5 H5 _ I5 (stat fr5 rfl) st5 go) fun r s6 ⟨u,hr,h6⟩=>?_)
     subst hr
     refine wpAny_bind (nox (thn h6 fun _ s7 ⟨x,H7,I7,r7,y7,st7,fr7⟩=>?_))
     have I7':=I7.pinned (stat fr7 rfl) (T.obj _ _ st7)
     refine wpAny_bind (nox (thn (pg _ s7 σ5 H7 x u _ I7' r7 (step x H7 y7)) fun _ s8 ⟨σ8,H8,I8,q8⟩=>?_))
     refine wpAny_bind (nox (thn (pif _ s8 σ8 H8 _ I8 q8) fun ok s9 ⟨H9,I9,q9⟩=>?_))
     have again:∀ {σa:St} {Ha:Hp} {sa:Shared} {m':Nat},Inv (zcE X scope N cl s3 H3 fp) ([]++zhP fp s7.heap) σa Ha sa->m' < n->W (i+1) m' σa Ha->∃ m,m < n∧∃ i σ' H',Inv (zcE X scope N cl s3 H3 fp) [] σ' H' sa∧tn i sa.heap∧(∀ b∈fp,H' b=none)∧W i m σ' H':=fun {σa Ha sa m'} Ia hm wa=>by
       refine ⟨m',hm,i+1,σa,Ha,Ia.unpinned,T.keep _ _ _ st7 fun b hb o e=>(Ia.pin (b,o) (List.mem_append_right _ (List.mem_append_right _ (zil hb e)))).1,fun b hb=>?_,wa⟩
       obtain ⟨o,e,d⟩:=T.obj _ _ st7 b hb
       exact (Ia.pin (b,o) (List.mem_append_right _ (List.mem_append_right _ (zil hb e)))).2.1
     cases ok with
     | false =>
       obtain ⟨m',hm,wa⟩:=q9
       exact wpAny_pure ⟨rfl,again I9 hm wa⟩
     | true =>
       refine wpAny_bind (wpAny_bind (nox (thn (pe _ s9 σ8 H9 _ I9 q9) fun y sa ⟨vy,Ha,Ia,ra,xs,hD,hz,m',hm,wa⟩=>?_)))
       refine wpAny_bind (nox (thn (ztI _ sa σ8 Ha (.ref s2.heap.objs.size) [vy] (.ref s2.heap.objs.size) [y] (fun _ H'=>H'=upd Ha s2.heap.objs.size (.lst (xs++[vy]))) Ia rfl (.cons ra .nil) ⟨_,_,_,rfl,rfl,hD,hz,rfl⟩) fun z sb ⟨vz,Hb,Ib,rb,eb⟩=>?_))
       subst eb
       exact wpAny_pure (wpAny_pure ⟨rfl,again Ib hm wa⟩)
 exact codeAny_compStart_list (loop _ (by rw [<- hs3])) (T.self _ 0 _ _ _ st4 (loop _ (by rw [<- hs3])))
end
end L2
end
section
namespace L2
open PySem PySem.Spec PyProof.Rows
section
variable {X:Cx}{scope:Scope}{N:List Str}{js:List (Option Nat)}{tg iter elt:Expr}{ifs:List Expr}{wi:TI}{g:TG}{tc:TT}{te:TE}{pos:Pos}
theorem zb0.clos (S:zb0 X scope N js) {pins:List (Addr×Obj)}{σ:St}{H:Hp}{s:Shared} (I:Inv X pins σ H s) :
   ∃ cl:List (Str×Addr),closureFor scope X.env=pure cl∧(∀ x c,cl.lookup x=some c->(x,NameKind.free)∈scope.names∧X.env.cells.lookup x=some c) ∧
     (∀ x c,(x,NameKind.free)∈scope.names->X.env.cells.lookup x=some c->cl.lookup x=some c) :=
 zBk fun x hx hf=>I.ok.has x.1 (S.free x hx hf)
theorem zEe (hc:X.calm=true) (S:zb0 X scope N js) (hi:PI X tg iter wi) (Pt:zph X scope N tg elt ifs g tc te) (hs:∀ x,foldedSetIterable iter X.env x=pure x:=by intro _;rfl) :
   PE X (.ListComp elt [⟨tg,iter,ifs,0⟩] scope pos) (zp2 js wi g tc te):=by
 intro pins s σ H Q I h
 obtain ⟨cl,hcl,h1,h2⟩:=S.clos I
 rw [eval_ListComp]
 refine wpAny_comprehension_free (use:=none) (cl:=cl) rfl hs hcl S.kind (fun x hx hl=>by rw [S.names x hx,hl]) ?_
 refine wpAny_mono (hi pins s σ H _ I h) (fun v s1 p1=>wpAny_mono p1 (fun itv s2 p2=>?_) fun _ _ e=>e) fun _ _ e=>e
 obtain ⟨it,fp,tn,J,H2,e,I2,T,st2,f2,r2⟩:=p2
 subst e
 refine zs9 (RR:=fun acc C=>compPost (model X.prog X.w) X.A X.xe none (EP X pins σ Q) acc C) hc S Pt hcl h1 h2 I2 T st2 f2 r2 ?_
 intro D C s0 s' H0 H' m I0 hC hn hns I' q
 exact ⟨m,hns,fun h' hs'=>⟨.ref D,H',zt2 I0 hC hn I' hs',rfl,q⟩⟩
theorem zFo {j:Nat}{y:Str}{py spos:Pos} (hc:X.calm=true) (hN:X.N.Nodup) (hj:X.N[j]?=some y) (hy:X.env.scope.names.lookup y=some .local) (S:zb0 X scope N js) (hi:PI X tg iter wi) (Pt:zph X scope N tg elt ifs g tc te)
   (hsw:swapsWith (.ListComp elt [⟨tg,iter,ifs,0⟩] scope pos) (some (.Name y py)) spos.line X.env=pure true:=by rfl) (hs:∀ x,foldedSetIterable iter X.env x=pure x:=by intro _;rfl) :
   PS X (.Assign [.Name y py] (.ListComp elt [⟨tg,iter,ifs,0⟩] scope pos) spos) (zpN (zp2 js wi g tc te) (ziZ j)):=by
 intro pins s σ H D I h
 obtain ⟨cl,hcl,h1,h2⟩:=S.clos I
 rw [exec_Assign_Name_used _ _ _ _ hsw]
 refine wpAny_bind (wpAny_standAt (wpAny_bind ?_))
 show wpAny _ X.A (do let _ <- comprehension (.ListComp elt [⟨tg,iter,ifs,0⟩] scope pos) scope X.env _ (newList []) false (eval iter X.env) (some (assign (.Name y py) X.env))) _ _ s
 refine wpAny_bind (wpAny_mono (wpAny_comprehension_free (use:=some (assign (.Name y py) X.env)) (Q:=fun _ s'=>SP X pins D .next s') (cl:=cl) rfl hs hcl S.kind (fun x hx hl=>by rw [S.names x hx,hl]) ?_) (fun _ s' hq=>wpAny_pure (wpAny_pure hq)) fun _ _ e=>e)
 refine wpAny_mono (hi pins s σ H _ I h) (fun v s1 p1=>wpAny_mono p1 (fun itv s2 p2=>?_) fun _ _ e=>e) fun _ _ e=>e
 obtain ⟨it,fp,tn,J,H2,e,I2,T,st2,f2,r2⟩:=p2
 subst e
 refine zs9 (Q:=fun x H1=>ziZ j x σ H1 D.nx) (RR:=fun acc C=>compPost (model X.prog X.w) X.A X.xe (some (assign (.Name y py) X.env)) (fun _ s'=>SP X pins D .next s') acc C) hc S Pt hcl h1 h2 I2 T st2 f2 r2 ?_
 intro D' C s0 s' H0 H' m I0 hC hn hns I' q
 show wpAny _ X.A (assign (.Name y py) X.env (.ref D')) _ _ _
 refine wpAny_assign_Name (ztq I' hN hj (.inl hy) (v := .ref D') rfl (fun s'' I'' ⟨a,sb,ha⟩=>?_) (.inr hy))
 have hCa:C≠a:=by
   rcases ha with ha | ha
   . rw [ha,hC];exact Nat.ne_of_gt I0.lt
   . obtain ⟨v,o,ho,_⟩:=I0.cell y a ha
     rw [hC];exact Nat.ne_of_gt (Heap.lt_size ho)
 exact ⟨m,hns.sameBut sb hCa,fun h' hs'=>⟨_,_,zt2 I0 hC hn I'' hs',q⟩⟩
end
end L2
end
section
namespace L2
open PySem PySem.Spec PyProof.Rows
inductive D where
 | non | bl (b:Bool) | int (i:Int) | str (x:Str) | lst (ds:List D) | tup (ds:List D)
mutual
noncomputable def Dat (H:Hp):D->V->Prop
 | .non,v=>v = .non
 | .bl b,v=>v = .bl b
 | .int i,v=>v = .int i
 | .str x,v=>v = .str x
 | .lst ds,v=>∃ a xs,v = .ref a∧Rd H a (.lst xs)∧zbL H ds xs
 | .tup ds,v=>∃ a xs,v = .ref a∧H a=some (.tup xs)∧zbL H ds xs
noncomputable def zbL (H:Hp):List D->List V->Prop
 | [],xs=>xs=[]
 | d :: ds,xs=>∃ x r,xs=x :: r∧Dat H d x∧zbL H ds r
end
mutual
noncomputable def dpt:D->Nat
 | .lst ds=>zcs ds+1
 | .tup ds=>zcs ds+1
 | _=>0
noncomputable def zcs:List D->Nat
 | []=>0
 | d :: r=>max (dpt d) (zcs r)
end
mutual
noncomputable def eqD:D->D->Bool
 | .lst a,.lst b=>zcd a b
 | .tup a,.tup b=>zcd a b
 | .non,.non=>true
 | .bl a,.bl b=>a == b
 | .bl a,.int b=>(if a then 1 else 0) == b
 | .int a,.bl b=>a == (if b then 1 else 0)
 | .int a,.int b=>a == b
 | .str a,.str b=>a == b
 | _,_=>false
noncomputable def zcd:List D->List D->Bool
 | [],[]=>true
 | a :: r,b :: q=>eqD a b && zcd r q
 | _,_=>false
end
theorem zbL.length {H:Hp}:∀ {ds:List D}{xs:List V},zbL H ds xs->ds.length=xs.length
 | [],xs,h=>by unfold zbL at h;subst h;rfl
 | d :: ds,xs,h=>by
   unfold zbL at h
   obtain ⟨x,r,h1,h2,h3⟩:=h
   subst h1
   simp [zbL.length h3]
theorem zbL.get {H:Hp}:∀ {ds:List D}{xs:List V}{i:Nat}{x:V},zbL H ds xs->xs[i]?=some x->∃ d,ds[i]?=some d∧Dat H d x
 | [],xs,i,x,h,e=>by unfold zbL at h;subst h;simp at e
 | d :: ds,xs,i,x,h,e=>by
   unfold zbL at h
   obtain ⟨y,r,h1,h2,h3⟩:=h
   subst h1
   cases i with
   | zero=>simp at e;subst e;exact ⟨d,rfl,h2⟩
   | succ i =>
     obtain ⟨d',e1,e2⟩:=zbL.get (i:=i) h3 (by simpa using e)
     exact ⟨d',by simpa using e1,e2⟩
theorem ztQ:∀ {ds:List D}{i:Nat}{d:D},ds[i]?=some d->dpt d<=zcs ds
 | [],_,_,e=>by simp at e
 | d' :: ds,0,d,e=>by simp at e;subst e;unfold zcs;omega
 | d' :: ds,i+1,d,e=>by
   have:=ztQ (ds:=ds) (i:=i) (d:=d) (by simpa using e)
   unfold zcs;omega
theorem zgE:∀ (a b:List D),a.length=b.length->((List.range a.length).all fun j=>eqD (a.getD j .non) (b.getD j .non))=zcd a b
 | [],[],_=>by simp [zcd]
 | x :: a,y :: b,h=>by
   have ih:=zgE a b (by simpa using h)
   rw [List.length_cons,List.range_succ_eq_map,List.all_cons,List.all_map]
   show (eqD x y && (List.range a.length).all fun j=>eqD (a.getD j .non) (b.getD j .non))=zcd (x :: a) (y :: b)
   rw [ih,zcd]
theorem zgm:∀ (a b:List D),a.length≠b.length->zcd a b=false
 | [],[],h=>absurd rfl h
 | [],_ :: _,_=>by unfold zcd;rfl
 | _ :: _,[],_=>by unfold zcd;rfl
 | x :: a,y :: b,h=>by
   rw [zcd,zgm a b (by simpa using h),Bool.and_false]
end L2
end
section
namespace L2
open PySem PySem.Spec PyProof.Rows
section
variable {X:Cx}{pins:List (Addr×Obj)}{σ:St}{H:Hp}{s:Shared}
theorem Inv.noboth (I:Inv X pins σ H s) {a:Addr}{xs ys:List V} (h:Rd H a (.lst xs)) (h':H a=some (.tup ys)):False:=by
 rcases h with h | ⟨o,h⟩
 . rw [h]at h';cases h'
 . rw [h]at h';cases h'
mutual
theorem zpO (I:Inv X pins σ H s):∀ (d d':D) (v:V),Dat H d v->Dat H d' v->eqD d d'=true
 | .non,d',v,h,h'=>by
   unfold Dat at h;subst h
   cases d' <;> simp [Dat]at h' <;> simp [eqD]
 | .bl b,d',v,h,h'=>by
   unfold Dat at h;subst h
   cases d' <;> simp [Dat]at h' <;> simp [eqD,h']
 | .int b,d',v,h,h'=>by
   unfold Dat at h;subst h
   cases d' <;> simp [Dat]at h' <;> simp [eqD,h']
 | .str b,d',v,h,h'=>by
   unfold Dat at h;subst h
   cases d' <;> simp [Dat]at h' <;> simp [eqD,h']
 | .lst ds,d',v,h,h'=>by
   unfold Dat at h
   obtain ⟨a,xs,rfl,h1,h2⟩:=h
   cases d' with
   | lst ds' =>
     unfold Dat at h'
     obtain ⟨b,ys,e,h3,h4⟩:=h'
     cases e
     have e:=I.list_inj (.inl h1) (.inl h3)
     subst e
     unfold eqD
     exact zpy I ds ds' xs h2 h4
   | tup ds' =>
     unfold Dat at h'
     obtain ⟨b,ys,e,h3,h4⟩:=h'
     cases e
     exact (I.noboth h1 h3).elim
   | _=>simp [Dat]at h'
 | .tup ds,d',v,h,h'=>by
   unfold Dat at h
   obtain ⟨a,xs,rfl,h1,h2⟩:=h
   cases d' with
   | tup ds' =>
     unfold Dat at h'
     obtain ⟨b,ys,e,h3,h4⟩:=h'
     cases e
     have e:=I.tuple_inj (SqT.of h1) (SqT.of h3)
     subst e
     unfold eqD
     exact zpy I ds ds' xs h2 h4
   | lst ds' =>
     unfold Dat at h'
     obtain ⟨b,ys,e,h3,h4⟩:=h'
     cases e
     exact (I.noboth h3 h1).elim
   | _=>simp [Dat]at h'
theorem zpy (I:Inv X pins σ H s):∀ (ds ds':List D) (vs:List V),zbL H ds vs->zbL H ds' vs->zcd ds ds'=true
 | [],ds',vs,h,h'=>by
   unfold zbL at h;subst h
   cases ds' with
   | nil=>simp [zcd]
   | cons d r=>simp [zbL]at h'
 | d :: ds,ds',vs,h,h'=>by
   unfold zbL at h
   obtain ⟨x,r,rfl,h1,h2⟩:=h
   cases ds' with
   | nil=>simp [zbL]at h'
   | cons d' r' =>
     unfold zbL at h'
     obtain ⟨y,q,e,h3,h4⟩:=h'
     cases e
     unfold zcd
     rw [zpO I d d' x h1 h3,zpy I ds r' r h2 h4]
     rfl
end
theorem Dat.flat {d:D}{v:V} (h:Dat H d v):(zb6 v=true∧∀ d' v',Dat H d' v'->zb6 v'=true->eqD d d'=eqV v v')∨(∃ ds a xs,d = .lst ds∧v = .ref a∧Rd H a (.lst xs)∧zbL H ds xs)∨(∃ ds a xs,d = .tup ds∧v = .ref a∧H a=some (.tup xs)∧zbL H ds xs):=by
 cases d with
 | lst ds=>unfold Dat at h;obtain ⟨a,xs,e,h1,h2⟩:=h;exact .inr (.inl ⟨ds,a,xs,rfl,e,h1,h2⟩)
 | tup ds=>unfold Dat at h;obtain ⟨a,xs,e,h1,h2⟩:=h;exact .inr (.inr ⟨ds,a,xs,rfl,e,h1,h2⟩)
 | _ =>
   unfold Dat at h;subst h
   refine .inl ⟨rfl,fun d' v' h' f=>?_⟩
   cases d' with
   | lst ds=>unfold Dat at h';obtain ⟨a,xs,rfl,_⟩:=h';cases f
   | tup ds=>unfold Dat at h';obtain ⟨a,xs,rfl,_⟩:=h';cases f
   | _=>unfold Dat at h';subst h';simp [eqD,eqV]
theorem zhq {A:Around}{ds ds':List D}{xs ys:List V}{us ws:List Value}
   (ih:∀ (d d':D) (x y:V) (u v:Value),dpt d<=zcs ds->Dat H d x->Dat H d' y->zt x u->zt y v->SeqAt.EqAt A s u v (eqD d d'))
   (h:zbL H ds xs) (h':zbL H ds' ys) (r:zA xs us) (r':zA ys ws) (j:Nat) (h1:j < us.toArray.size) (h2:j < ws.toArray.size) :
   SeqAt.EqAt A s us.toArray[j] ws.toArray[j] (eqD (ds.getD j .non) (ds'.getD j .non)):=by
 have l1:=r.length
 have l2:=r'.length
 have k1:=h.length
 have k2:=h'.length
 have h1':j < us.length:=by simpa using h1
 have h2':j < ws.length:=by simpa using h2
 have e1:xs[j]?=some xs[j]:=List.getElem?_eq_getElem (by omega)
 have e2:ys[j]?=some ys[j]:=List.getElem?_eq_getElem (by omega)
 obtain ⟨d,ed,hd⟩:=h.get e1
 obtain ⟨d',ed',hd'⟩:=h'.get e2
 obtain ⟨u,eu,ru⟩:=r.get e1
 obtain ⟨w,ew,rw'⟩:=r'.get e2
 have g1:ds.getD j .non=d:=by rw [List.getD_eq_getElem?_getD,ed];rfl
 have g2:ds'.getD j .non=d':=by rw [List.getD_eq_getElem?_getD,ed'];rfl
 have g3:us.toArray[j]=u:=by
   have:us[j]?=some us[j]:=List.getElem?_eq_getElem h1'
   rw [eu]at this;simpa using (Option.some.inj this).symm
 have g4:ws.toArray[j]=w:=by
   have:ws[j]?=some ws[j]:=List.getElem?_eq_getElem h2'
   rw [ew]at this;simpa using (Option.some.inj this).symm
 rw [g1,g2,g3,g4]
 exact ih d d' _ _ u w (ztQ ed) hd hd' ru rw'
theorem zzQ {A:Around}{y x:V}{u v:Value} (ry:zt y u) (rx:zt x v) (fy:zb6 y=true) (fx:zb6 x=true):SeqAt.RcAt A s u v (eqV y x):=by
 cases y with
 | non =>
   cases ry
   cases x with
   | non =>
     cases rx
     exact SeqAt.RcAt.none_none
   | bl b =>
     cases rx
     exact SeqAt.RcAt.none_bool _
   | int b =>
     obtain ⟨_,rfl⟩:=rx
     exact SeqAt.RcAt.none_int _ _
   | str b =>
     obtain ⟨_,rfl⟩:=rx
     exact SeqAt.RcAt.none_str _ _
   | _=>exact absurd (show false=true from fx) Bool.false_ne_true
 | bl a =>
   cases ry
   cases x with
   | non =>
     cases rx
     exact SeqAt.RcAt.bool_none _
   | bl b =>
     cases rx
     exact SeqAt.RcAt.bool_bool _ _
   | int b =>
     obtain ⟨_,rfl⟩:=rx
     exact SeqAt.RcAt.bool_int _ _ _
   | str b =>
     obtain ⟨_,rfl⟩:=rx
     exact SeqAt.RcAt.bool_str _ _ _
   | _=>exact absurd (show false=true from fx) Bool.false_ne_true
 | int a =>
   obtain ⟨_,rfl⟩:=ry
   cases x with
   | non =>
     cases rx
     exact SeqAt.RcAt.int_none _ _
   | bl b =>
     cases rx
     exact SeqAt.RcAt.int_bool _ _ _
   | int b =>
     obtain ⟨_,rfl⟩:=rx
     exact SeqAt.RcAt.int_int _ _ _ _
   | str b =>
     obtain ⟨_,rfl⟩:=rx
     exact SeqAt.RcAt.int_str _ _ _ _
   | _=>exact absurd (show false=true from fx) Bool.false_ne_true
 | str a =>
   obtain ⟨_,rfl⟩:=ry
   cases x with
   | non =>
     cases rx
     exact SeqAt.RcAt.str_none _ _
   | bl b =>
     cases rx
     exact SeqAt.RcAt.str_bool _ _ _
   | int b =>
     obtain ⟨_,rfl⟩:=rx
     exact SeqAt.RcAt.str_int _ _ _ _
   | str b =>
     obtain ⟨_,rfl⟩:=rx
     exact SeqAt.RcAt.str_str _ _ _ _
   | _=>exact absurd (show false=true from fx) Bool.false_ne_true
 | _=>exact absurd (show false=true from fy) Bool.false_ne_true
theorem zFc {A:Around}{y x:V}{u v:Value} (ry:zt y u) (rx:zt x v) (fy:zb6 y=true) (fx:zb6 x=true):SeqAt.RcNeAt A s u v (!eqV y x):=by
 cases y with
 | non =>
   cases ry
   cases x with
   | non =>
     cases rx
     exact SeqAt.RcNeAt.none_none
   | bl b =>
     cases rx
     exact SeqAt.RcNeAt.none_bool _
   | int b =>
     obtain ⟨_,rfl⟩:=rx
     exact SeqAt.RcNeAt.none_int _ _
   | str b =>
     obtain ⟨_,rfl⟩:=rx
     exact SeqAt.RcNeAt.none_str _ _
   | _=>exact absurd (show false=true from fx) Bool.false_ne_true
 | bl a =>
   cases ry
   cases x with
   | non =>
     cases rx
     exact SeqAt.RcNeAt.bool_none _
   | bl b =>
     cases rx
     exact SeqAt.RcNeAt.bool_bool _ _
   | int b =>
     obtain ⟨_,rfl⟩:=rx
     exact SeqAt.RcNeAt.bool_int _ _ _
   | str b =>
     obtain ⟨_,rfl⟩:=rx
     exact SeqAt.RcNeAt.bool_str _ _ _
   | _=>exact absurd (show false=true from fx) Bool.false_ne_true
 | int a =>
   obtain ⟨_,rfl⟩:=ry
   cases x with
   | non =>
     cases rx
     exact SeqAt.RcNeAt.int_none _ _
   | bl b =>
     cases rx
     exact SeqAt.RcNeAt.int_bool _ _ _
   | int b =>
     obtain ⟨_,rfl⟩:=rx
     exact SeqAt.RcNeAt.int_int _ _ _ _
   | str b =>
     obtain ⟨_,rfl⟩:=rx
     exact SeqAt.RcNeAt.int_str _ _ _ _
   | _=>exact absurd (show false=true from fx) Bool.false_ne_true
 | str a =>
   obtain ⟨_,rfl⟩:=ry
   cases x with
   | non =>
     cases rx
     exact SeqAt.RcNeAt.str_none _ _
   | bl b =>
     cases rx
     exact SeqAt.RcNeAt.str_bool _ _ _
   | int b =>
     obtain ⟨_,rfl⟩:=rx
     exact SeqAt.RcNeAt.str_int _ _ _ _
   | str b =>
     obtain ⟨_,rfl⟩:=rx
     exact SeqAt.RcNeAt.str_str _ _ _ _
   | _=>exact absurd (show false=true from fx) Bool.false_ne_true
 | _=>exact absurd (show false=true from fy) Bool.false_ne_true
theorem zpu {A:Around}{y:V}{u:Value}{a:Addr}{its:Array Value} (hu:A.units < cLine) (ry:zt y u) (fy:zb6 y=true) (p:s.heap.IsList a its):SeqAt.EqAt A s u (.ref a) false∧SeqAt.EqAt A s (.ref a) u false:=by
 cases y with
 | non =>
   cases ry
   exact ⟨SeqAt.EqAt.none_list p hu,SeqAt.EqAt.list_none p hu⟩
 | bl a =>
   cases ry
   exact ⟨SeqAt.EqAt.bool_list _ p hu,SeqAt.EqAt.list_bool _ p hu⟩
 | int a =>
   obtain ⟨_,rfl⟩:=ry
   exact ⟨SeqAt.EqAt.int_list _ _ p hu,SeqAt.EqAt.list_int _ _ p hu⟩
 | str a =>
   obtain ⟨_,rfl⟩:=ry
   exact ⟨SeqAt.EqAt.str_list _ _ p hu,SeqAt.EqAt.list_str _ _ p hu⟩
 | _=>exact absurd (show false=true from fy) Bool.false_ne_true
theorem zpn {A:Around}{y:V}{u:Value}{a:Addr}{its:Array Value} (hu:A.units < cLine) (ry:zt y u) (fy:zb6 y=true) (p:s.heap.IsTuple a its):SeqAt.EqAt A s u (.ref a) false∧SeqAt.EqAt A s (.ref a) u false:=by
 cases y with
 | non =>
   cases ry
   exact ⟨SeqAt.EqAt.none_tuple p hu,SeqAt.EqAt.tuple_none p hu⟩
 | bl a =>
   cases ry
   exact ⟨SeqAt.EqAt.bool_tuple _ p hu,SeqAt.EqAt.tuple_bool _ p hu⟩
 | int a =>
   obtain ⟨_,rfl⟩:=ry
   exact ⟨SeqAt.EqAt.int_tuple _ _ p hu,SeqAt.EqAt.tuple_int _ _ p hu⟩
 | str a =>
   obtain ⟨_,rfl⟩:=ry
   exact ⟨SeqAt.EqAt.str_tuple _ _ p hu,SeqAt.EqAt.tuple_str _ _ p hu⟩
 | _=>exact absurd (show false=true from fy) Bool.false_ne_true
theorem ztR {A:Around}{y:V}{u:Value}{a:Addr}{its:Array Value} (hu:A.units < cLine) (ry:zt y u) (fy:zb6 y=true) (p:s.heap.IsList a its):SeqAt.RcAt A s u (.ref a) false∧SeqAt.RcAt A s (.ref a) u false:=by
 cases y with
 | non =>
   cases ry
   exact ⟨SeqAt.RcAt.none_list p hu,SeqAt.RcAt.list_none p hu⟩
 | bl a =>
   cases ry
   exact ⟨SeqAt.RcAt.bool_list _ p hu,SeqAt.RcAt.list_bool _ p hu⟩
 | int a =>
   obtain ⟨_,rfl⟩:=ry
   exact ⟨SeqAt.RcAt.int_list _ _ p hu,SeqAt.RcAt.list_int _ _ p hu⟩
 | str a =>
   obtain ⟨_,rfl⟩:=ry
   exact ⟨SeqAt.RcAt.str_list _ _ p hu,SeqAt.RcAt.list_str _ _ p hu⟩
 | _=>exact absurd (show false=true from fy) Bool.false_ne_true
theorem zsH {A:Around}{y:V}{u:Value}{a:Addr}{its:Array Value} (hu:A.units < cLine) (ry:zt y u) (fy:zb6 y=true) (p:s.heap.IsTuple a its):SeqAt.RcAt A s u (.ref a) false∧SeqAt.RcAt A s (.ref a) u false:=by
 cases y with
 | non =>
   cases ry
   exact ⟨SeqAt.RcAt.none_tuple p hu,SeqAt.RcAt.tuple_none p hu⟩
 | bl a =>
   cases ry
   exact ⟨SeqAt.RcAt.bool_tuple _ p hu,SeqAt.RcAt.tuple_bool _ p hu⟩
 | int a =>
   obtain ⟨_,rfl⟩:=ry
   exact ⟨SeqAt.RcAt.int_tuple _ _ p hu,SeqAt.RcAt.tuple_int _ _ p hu⟩
 | str a =>
   obtain ⟨_,rfl⟩:=ry
   exact ⟨SeqAt.RcAt.str_tuple _ _ p hu,SeqAt.RcAt.tuple_str _ _ p hu⟩
 | _=>exact absurd (show false=true from fy) Bool.false_ne_true
theorem zt6 {A:Around}{y:V}{u:Value}{a:Addr}{its:Array Value} (hu:A.units < cLine) (ry:zt y u) (fy:zb6 y=true) (p:s.heap.IsList a its):SeqAt.RcNeAt A s u (.ref a) true∧SeqAt.RcNeAt A s (.ref a) u true:=by
 cases y with
 | non =>
   cases ry
   exact ⟨SeqAt.RcNeAt.none_list p hu,SeqAt.RcNeAt.list_none p hu⟩
 | bl a =>
   cases ry
   exact ⟨SeqAt.RcNeAt.bool_list _ p hu,SeqAt.RcNeAt.list_bool _ p hu⟩
 | int a =>
   obtain ⟨_,rfl⟩:=ry
   exact ⟨SeqAt.RcNeAt.int_list _ _ p hu,SeqAt.RcNeAt.list_int _ _ p hu⟩
 | str a =>
   obtain ⟨_,rfl⟩:=ry
   exact ⟨SeqAt.RcNeAt.str_list _ _ p hu,SeqAt.RcNeAt.list_str _ _ p hu⟩
 | _=>exact absurd (show false=true from fy) Bool.false_ne_true
theorem zs8 {A:Around}{y:V}{u:Value}{a:Addr}{its:Array Value} (hu:A.units < cLine) (ry:zt y u) (fy:zb6 y=true) (p:s.heap.IsTuple a its):SeqAt.RcNeAt A s u (.ref a) true∧SeqAt.RcNeAt A s (.ref a) u true:=by
 cases y with
 | non =>
   cases ry
   exact ⟨SeqAt.RcNeAt.none_tuple p hu,SeqAt.RcNeAt.tuple_none p hu⟩
 | bl a =>
   cases ry
   exact ⟨SeqAt.RcNeAt.bool_tuple _ p hu,SeqAt.RcNeAt.tuple_bool _ p hu⟩
 | int a =>
   obtain ⟨_,rfl⟩:=ry
   exact ⟨SeqAt.RcNeAt.int_tuple _ _ p hu,SeqAt.RcNeAt.tuple_int _ _ p hu⟩
 | str a =>
   obtain ⟨_,rfl⟩:=ry
   exact ⟨SeqAt.RcNeAt.str_tuple _ _ p hu,SeqAt.RcNeAt.tuple_str _ _ p hu⟩
 | _=>exact absurd (show false=true from fy) Bool.false_ne_true
theorem zdm {d:D}{v:V} (h:Dat H d v) (f:zb6 v=true) (ds:List D):eqD d (.lst ds)=false∧eqD d (.tup ds)=false∧eqD (.lst ds) d=false∧eqD (.tup ds) d=false:=by
 cases d with
 | lst e=>unfold Dat at h;obtain ⟨_,_,rfl,_⟩:=h;cases f
 | tup e=>unfold Dat at h;obtain ⟨_,_,rfl,_⟩:=h;cases f
 | _=>simp [eqD]
theorem ziM (I:Inv X pins σ H s):∀ (n:Nat) (A:Around) (d d':D) (x y:V) (u v:Value),A.units+n < cLine->dpt d<=n->Dat H d x->Dat H d' y->zt x u->zt y v->SeqAt.EqAt A s u v (eqD d d'):=by
 intro n
 induction n with
 | zero =>
   intro A d d' x y u v hu hn h h' r r'
   rcases h.flat with ⟨f,q⟩ | ⟨ds,a,xs,rfl,rfl,h1,h2⟩ | ⟨ds,a,xs,rfl,rfl,h1,h2⟩
   . rcases h'.flat with ⟨f',q'⟩ | ⟨ds,a,xs,rfl,rfl,h1,h2⟩ | ⟨ds,a,xs,rfl,rfl,h1,h2⟩
     . rw [q d' y h' f'];exact zpe r r' f f'
     . cases r'
       obtain ⟨its,_,p,_⟩:=I.list (.inl h1)
       rw [(zdm h f ds).1];exact (zpu (by omega) r f p.isList).1
     . cases r'
       obtain ⟨its,_,p,_⟩:=I.tuple (SqT.of h1)
       rw [(zdm h f ds).2.1];exact (zpn (by omega) r f (show s.heap.IsTuple a its.toArray from p)).1
   . unfold dpt at hn;omega
   . unfold dpt at hn;omega
 | succ n ih =>
   intro A d d' x y u v hu hn h h' r r'
   rcases h.flat with ⟨f,q⟩ | ⟨ds,a,xs,rfl,rfl,h1,h2⟩ | ⟨ds,a,xs,rfl,rfl,h1,h2⟩
   . rcases h'.flat with ⟨f',q'⟩ | ⟨ds,a,xs,rfl,rfl,h1,h2⟩ | ⟨ds,a,xs,rfl,rfl,h1,h2⟩
     . rw [q d' y h' f'];exact zpe r r' f f'
     . cases r'
       obtain ⟨its,_,p,_⟩:=I.list (.inl h1)
       rw [(zdm h f ds).1];exact (zpu (by omega) r f p.isList).1
     . cases r'
       obtain ⟨its,_,p,_⟩:=I.tuple (SqT.of h1)
       rw [(zdm h f ds).2.1];exact (zpn (by omega) r f (show s.heap.IsTuple a its.toArray from p)).1
   . cases r
     obtain ⟨its,rv,p,_⟩:=I.list (.inl h1)
     rcases h'.flat with ⟨f',q'⟩ | ⟨ds',b,ys,rfl,rfl,h3,h4⟩ | ⟨ds',b,ys,rfl,rfl,h3,h4⟩
     . rw [(zdm h' f' ds).2.2.1];exact (zpu (by omega) r' f' p.isList).2
     . cases r'
       obtain ⟨its',rv',p',_⟩:=I.list (.inl h3)
       by_cases hab:a=b
       . subst hab
         rw [zpO I _ _ _ h h'];exact SeqAt.EqAt.same _
       . refine SeqAt.EqAt.of_refs hab ?_
         by_cases hl:ds.length=ds'.length
         . have e:=SeqAt.RcAt.lists (A:=A) p.isList p'.isList (by simp [<- rv.length,<- rv'.length,<- h2.length,<- h4.length,hl]) (by omega)
             (fun j j1 j2=>zhq (fun d d' x y u v hd a1 a2 a3 a4=>ih A.in1 d d' x y u v (by show A.units+1+n < cLine;omega) (by unfold dpt at hn;omega) a1 a2 a3 a4) h2 h4 rv rv' j j1 j2)
           have e2:its.toArray.size=ds.length:=by simp [<- rv.length,<- h2.length]
           rw [e2,zgE ds ds' hl]at e
           unfold eqD;exact e
         . unfold eqD
           rw [zgm _ _ hl]
           exact SeqAt.RcAt.lists_lengths p.isList p'.isList (by simpa [<- rv.length,<- rv'.length,<- h2.length,<- h4.length] using hl) (by omega)
     . cases r'
       obtain ⟨its',rv',p',_⟩:=I.tuple (SqT.of h3)
       unfold eqD
       exact SeqAt.EqAt.list_tuple p.isList (show s.heap.IsTuple b its'.toArray from p') (by omega)
   . cases r
     obtain ⟨its,rv,p0,_⟩:=I.tuple (SqT.of h1)
     have p:s.heap.IsTuple a its.toArray:=p0
     rcases h'.flat with ⟨f',q'⟩ | ⟨ds',b,ys,rfl,rfl,h3,h4⟩ | ⟨ds',b,ys,rfl,rfl,h3,h4⟩
     . rw [(zdm h' f' ds).2.2.2];exact (zpn (by omega) r' f' p).2
     . cases r'
       obtain ⟨its',rv',p',_⟩:=I.list (.inl h3)
       unfold eqD
       exact SeqAt.EqAt.tuple_list p p'.isList (by omega)
     . cases r'
       obtain ⟨its',rv',p0',_⟩:=I.tuple (SqT.of h3)
       have p':s.heap.IsTuple b its'.toArray:=p0'
       by_cases hab:a=b
       . subst hab
         rw [zpO I _ _ _ h h'];exact SeqAt.EqAt.same _
       . refine SeqAt.EqAt.of_refs hab ?_
         have e:=SeqAt.RcAt.tuples (A:=A) p p' (by omega)
           (fun j j1 j2=>zhq (fun d d' x y u v hd a1 a2 a3 a4=>ih A.in1 d d' x y u v (by show A.units+1+n < cLine;omega) (by unfold dpt at hn;omega) a1 a2 a3 a4) h2 h4 rv rv' j j1 j2)
         have e2:its.toArray.size=ds.length:=by simp [<- rv.length,<- h2.length]
         have e3:its'.toArray.size=ds'.length:=by simp [<- rv'.length,<- h4.length]
         rw [e2,e3]at e
         unfold eqD
         by_cases hl:ds.length=ds'.length
         . rw [show min ds.length ds'.length=ds.length by omega,zgE ds ds' hl,beq_iff_eq.mpr hl,Bool.and_true]at e
           exact e
         . rw [beq_eq_false_iff_ne.mpr hl,Bool.and_false]at e
           rw [zgm _ _ hl];exact e
theorem zA9 (I:Inv X pins σ H s) {A:Around}{d d':D}{x y:V}{u v:Value} (hu:A.units+dpt d < cLine) (h:Dat H d x) (h':Dat H d' y) (r:zt x u) (r':zt y v):SeqAt.RcAt A s u v (eqD d d'):=by
 rcases h.flat with ⟨f,q⟩ | ⟨ds,a,xs,rfl,rfl,h1,h2⟩ | ⟨ds,a,xs,rfl,rfl,h1,h2⟩
 . rcases h'.flat with ⟨f',q'⟩ | ⟨ds,a,xs,rfl,rfl,h1,h2⟩ | ⟨ds,a,xs,rfl,rfl,h1,h2⟩
   . rw [q d' y h' f'];exact zzQ r r' f f'
   . cases r'
     obtain ⟨its,_,p,_⟩:=I.list (.inl h1)
     rw [(zdm h f ds).1];exact (ztR (by omega) r f p.isList).1
   . cases r'
     obtain ⟨its,_,p,_⟩:=I.tuple (SqT.of h1)
     rw [(zdm h f ds).2.1];exact (zsH (by omega) r f (show s.heap.IsTuple a its.toArray from p)).1
 . cases r
   obtain ⟨its,rv,p,_⟩:=I.list (.inl h1)
   rcases h'.flat with ⟨f',q'⟩ | ⟨ds',b,ys,rfl,rfl,h3,h4⟩ | ⟨ds',b,ys,rfl,rfl,h3,h4⟩
   . rw [(zdm h' f' ds).2.2.1];exact (ztR (by omega) r' f' p.isList).2
   . cases r'
     obtain ⟨its',rv',p',_⟩:=I.list (.inl h3)
     by_cases hl:ds.length=ds'.length
     . have e:=SeqAt.RcAt.lists (A:=A) p.isList p'.isList (by simp [<- rv.length,<- rv'.length,<- h2.length,<- h4.length,hl]) (by omega)
         (fun j j1 j2=>zhq (fun d d' x y u v hd a1 a2 a3 a4=>ziM I (zcs ds) A.in1 d d' x y u v (by unfold dpt at hu;show A.units+1+zcs ds < cLine;omega) hd a1 a2 a3 a4) h2 h4 rv rv' j j1 j2)
       have e2:its.toArray.size=ds.length:=by simp [<- rv.length,<- h2.length]
       rw [e2,zgE ds ds' hl]at e
       unfold eqD;exact e
     . unfold eqD
       rw [zgm _ _ hl]
       exact SeqAt.RcAt.lists_lengths p.isList p'.isList (by simpa [<- rv.length,<- rv'.length,<- h2.length,<- h4.length] using hl) (by omega)
   . cases r'
     obtain ⟨its',rv',p',_⟩:=I.tuple (SqT.of h3)
     unfold eqD
     exact SeqAt.RcAt.list_tuple p.isList (show s.heap.IsTuple b its'.toArray from p') (by omega)
 . cases r
   obtain ⟨its,rv,p0,_⟩:=I.tuple (SqT.of h1)
   have p:s.heap.IsTuple a its.toArray:=p0
   rcases h'.flat with ⟨f',q'⟩ | ⟨ds',b,ys,rfl,rfl,h3,h4⟩ | ⟨ds',b,ys,rfl,rfl,h3,h4⟩
   . rw [(zdm h' f' ds).2.2.2];exact (zsH (by omega) r' f' p).2
   . cases r'
     obtain ⟨its',rv',p',_⟩:=I.list (.inl h3)
     unfold eqD
     exact SeqAt.RcAt.tuple_list p p'.isList (by omega)
   . cases r'
     obtain ⟨its',rv',p0',_⟩:=I.tuple (SqT.of h3)
     have p':s.heap.IsTuple b its'.toArray:=p0'
     have e:=SeqAt.RcAt.tuples (A:=A) p p' (by omega)
       (fun j j1 j2=>zhq (fun d d' x y u v hd a1 a2 a3 a4=>ziM I (zcs ds) A.in1 d d' x y u v (by unfold dpt at hu;show A.units+1+zcs ds < cLine;omega) hd a1 a2 a3 a4) h2 h4 rv rv' j j1 j2)
     have e2:its.toArray.size=ds.length:=by simp [<- rv.length,<- h2.length]
     have e3:its'.toArray.size=ds'.length:=by simp [<- rv'.length,<- h4.length]
     rw [e2,e3]at e
     unfold eqD
     by_cases hl:ds.length=ds'.length
     . rw [show min ds.length ds'.length=ds.length by omega,zgE ds ds' hl,beq_iff_eq.mpr hl,Bool.and_true]at e
       exact e
     . rw [beq_eq_false_iff_ne.mpr hl,Bool.and_false]at e
       rw [zgm _ _ hl];exact e
theorem zFr (I:Inv X pins σ H s) {A:Around}{d d':D}{x y:V}{u v:Value} (hu:A.units+dpt d < cLine) (h:Dat H d x) (h':Dat H d' y) (r:zt x u) (r':zt y v):SeqAt.RcNeAt A s u v (!eqD d d'):=by
 rcases h.flat with ⟨f,q⟩ | ⟨ds,a,xs,rfl,rfl,h1,h2⟩ | ⟨ds,a,xs,rfl,rfl,h1,h2⟩
 . rcases h'.flat with ⟨f',q'⟩ | ⟨ds,a,xs,rfl,rfl,h1,h2⟩ | ⟨ds,a,xs,rfl,rfl,h1,h2⟩
   . rw [q d' y h' f'];exact zFc r r' f f'
   . cases r'
     obtain ⟨its,_,p,_⟩:=I.list (.inl h1)
     rw [(zdm h f ds).1];exact (zt6 (by omega) r f p.isList).1
   . cases r'
     obtain ⟨its,_,p,_⟩:=I.tuple (SqT.of h1)
     rw [(zdm h f ds).2.1];exact (zs8 (by omega) r f (show s.heap.IsTuple a its.toArray from p)).1
 . cases r
   obtain ⟨its,rv,p,_⟩:=I.list (.inl h1)
   rcases h'.flat with ⟨f',q'⟩ | ⟨ds',b,ys,rfl,rfl,h3,h4⟩ | ⟨ds',b,ys,rfl,rfl,h3,h4⟩
   . rw [(zdm h' f' ds).2.2.1];exact (zt6 (by omega) r' f' p.isList).2
   . cases r'
     obtain ⟨its',rv',p',_⟩:=I.list (.inl h3)
     by_cases hl:ds.length=ds'.length
     . have e:=SeqAt.RcNeAt.lists (A:=A) p.isList p'.isList (by simp [<- rv.length,<- rv'.length,<- h2.length,<- h4.length,hl]) (by omega)
         (fun j j1 j2=>zhq (fun d d' x y u v hd a1 a2 a3 a4=>ziM I (zcs ds) A.in1 d d' x y u v (by unfold dpt at hu;show A.units+1+zcs ds < cLine;omega) hd a1 a2 a3 a4) h2 h4 rv rv' j j1 j2)
       have e2:its.toArray.size=ds.length:=by simp [<- rv.length,<- h2.length]
       rw [e2,zgE ds ds' hl]at e
       unfold eqD;exact e
     . unfold eqD
       rw [zgm _ _ hl]
       exact SeqAt.RcNeAt.lists_lengths p.isList p'.isList (by simpa [<- rv.length,<- rv'.length,<- h2.length,<- h4.length] using hl) (by omega)
   . cases r'
     obtain ⟨its',rv',p',_⟩:=I.tuple (SqT.of h3)
     unfold eqD
     exact SeqAt.RcNeAt.list_tuple p.isList (show s.heap.IsTuple b its'.toArray from p') (by omega)
 . cases r
   obtain ⟨its,rv,p0,_⟩:=I.tuple (SqT.of h1)
   have p:s.heap.IsTuple a its.toArray:=p0
   rcases h'.flat with ⟨f',q'⟩ | ⟨ds',b,ys,rfl,rfl,h3,h4⟩ | ⟨ds',b,ys,rfl,rfl,h3,h4⟩
   . rw [(zdm h' f' ds).2.2.2];exact (zs8 (by omega) r' f' p).2
   . cases r'
     obtain ⟨its',rv',p',_⟩:=I.list (.inl h3)
     unfold eqD
     exact SeqAt.RcNeAt.tuple_list p p'.isList (by omega)
   . cases r'
     obtain ⟨its',rv',p0',_⟩:=I.tuple (SqT.of h3)
     have p':s.heap.IsTuple b its'.toArray:=p0'
     have e:=SeqAt.RcNeAt.tuples (A:=A) p p' (by omega)
       (fun j j1 j2=>zhq (fun d d' x y u v hd a1 a2 a3 a4=>ziM I (zcs ds) A.in1 d d' x y u v (by unfold dpt at hu;show A.units+1+zcs ds < cLine;omega) hd a1 a2 a3 a4) h2 h4 rv rv' j j1 j2)
     have e2:its.toArray.size=ds.length:=by simp [<- rv.length,<- h2.length]
     have e3:its'.toArray.size=ds'.length:=by simp [<- rv'.length,<- h4.length]
     rw [e2,e3]at e
     unfold eqD
     by_cases hl:ds.length=ds'.length
     . rw [show min ds.length ds'.length=ds.length by omega,zgE ds ds' hl,beq_iff_eq.mpr hl,Bool.and_true]at e
       exact e
     . rw [beq_eq_false_iff_ne.mpr hl,Bool.and_false]at e
       rw [zgm _ _ hl];exact e
end
section
variable {X:Cx}
noncomputable def ziQ:R2:=fun x y H Q=>∃ d d',Dat H d x∧Dat H d' y∧dpt d<=100∧Q (.bl (eqD d d')) H
noncomputable def zjc:R2:=fun x y H Q=>∃ d d',Dat H d x∧Dat H d' y∧dpt d<=100∧Q (.bl (!eqD d d')) H
theorem zBI {k:Nat} (hr:zP k X.A):OpR X (compareOp .Eq) ziQ:=by
 intro pins s σ H x y v u Q I r r' h
 obtain ⟨d,d',h1,h2,h3,q⟩:=h
 exact zA9 I (by have:=hr.un;omega) h1 h2 r r' _ _ _ _ ⟨.bl _,H,I,rfl,q⟩
theorem zCA {k:Nat} (hr:zP k X.A):OpR X (compareOp .NotEq) zjc:=by
 intro pins s σ H x y v u Q I r r' h
 obtain ⟨d,d',h1,h2,h3,q⟩:=h
 exact zFr I (by have:=hr.un;omega) h1 h2 r r' _ _ _ _ ⟨.bl _,H,I,rfl,q⟩
end
end L2
end
section
namespace L2
open PySem PySem.Spec PyProof.Rows
section
variable {X:Cx}
noncomputable def zD1 (K:PySem.W.Frag):List V->Hp->VK->Prop:=fun xs H Q=>∃ x t b,zdv K H x t∧((∃ n,xs=[x,.ty n]∧PySem.W.kitOne K t (.type n)=some b)∨(∃ C,xs=[x,.ref C]∧PySem.W.kitOne K t (.ref C)=some b))∧Q (.bl b) H
theorem ztA:zdn X (.builtin "isinstance") (zD1 X.K):=by
 intro pins s σ H xs us Q I r h
 obtain ⟨x,t,b,ty,h | h,q⟩:=h
 . obtain ⟨n,rfl,hk⟩:=h
   obtain ⟨u,c,rfl,ru,rc⟩:=zpp r
   cases rc
   exact ztJ I ru ty hk fun tk=>⟨.bl b,H,I.tok _,rfl,q⟩
 . obtain ⟨C,rfl,hk⟩:=h
   obtain ⟨u,c,rfl,ru,rc⟩:=zpp r
   cases rc
   exact ztJ I ru ty hk fun tk=>⟨.bl b,H,I.tok _,rfl,q⟩
theorem zAF:OpR X (compareOp .Is) (fun x y H Q=>∃ b c,x = .bl b∧y = .bl c∧Q (.bl (b == c)) H):=by
 intro pins s σ H x y v u Q I r r' h
 obtain ⟨b,c,rfl,rfl,q⟩:=h
 cases r;cases r'
 refine wpAny_is_plain rfl ⟨.bl (b == c),H,I,?_,q⟩
 cases b <;> cases c <;> rfl
theorem zBr:OpR X (compareOp .IsNot) (fun x y H Q=>∃ b c,x = .bl b∧y = .bl c∧Q (.bl (!(b == c))) H):=by
 intro pins s σ H x y v u Q I r r' h
 obtain ⟨b,c,rfl,rfl,q⟩:=h
 cases r;cases r'
 refine wpAny_isNot_plain rfl ⟨.bl (!(b == c)),H,I,?_,q⟩
 cases b <;> cases c <;> rfl
theorem zEw {xs:List V}{us:List Value} (r:zA xs us) {i:Nat}{v:Value} (e:us.toArray[i]?=some v):∃ x,xs[i]?=some x∧zt x v:=by
 have e':us[i]?=some v:=by simpa using e
 have hi:i < us.length:=(List.getElem?_eq_some_iff.mp e').1
 have l:=r.length
 have ex:xs[i]?=some xs[i]:=List.getElem?_eq_getElem (by omega)
 obtain ⟨u,eu,ru⟩:=r.get ex
 rw [e']at eu;cases eu
 exact ⟨_,ex,ru⟩
theorem zCM (bs:List Bool):((List.range bs.length).all fun i=>bs.getD i false)=bs.all id:=by
 rw [Bool.eq_iff_iff,List.all_eq_true,List.all_eq_true]
 constructor
 . intro q b hb
   obtain ⟨i,hi,e⟩:=List.getElem_of_mem hb
   have:=q i (List.mem_range.mpr hi)
   rw [List.getD_eq_getElem?_getD,List.getElem?_eq_getElem hi,e]at this
   exact this
 . intro q i hi
   have hi':=List.mem_range.mp hi
   rw [List.getD_eq_getElem?_getD,List.getElem?_eq_getElem hi']
   exact q _ (List.getElem_mem hi')
theorem zAB (bs:List Bool):((List.range bs.length).any fun i=>bs.getD i false)=bs.any id:=by
 rw [Bool.eq_iff_iff,List.any_eq_true,List.any_eq_true]
 constructor
 . rintro ⟨i,hi,q⟩
   have hi':=List.mem_range.mp hi
   rw [List.getD_eq_getElem?_getD,List.getElem?_eq_getElem hi']at q
   exact ⟨_,List.getElem_mem hi',q⟩
 . rintro ⟨b,hb,q⟩
   obtain ⟨i,hi,e⟩:=List.getElem_of_mem hb
   refine ⟨i,List.mem_range.mpr hi,?_⟩
   rw [List.getD_eq_getElem?_getD,List.getElem?_eq_getElem hi,e]
   exact q
theorem zsT {pins:List (Addr×Obj)}{σ:St}{H:Hp}{s:Shared}{a:Addr}{its:Array Value} (I:Inv X pins σ H s) {h':Heap}{tk:Nat}
   (hk:∀ b o,b∉[s.heap.objs.size]->(s.heap.push { cls := .type "list_iterator",data := .fields #[.ref a,.int 0 0] }).get? b=some o->h'.get? b=some o):Inv X pins σ H { s with heap:=h',toks:=tk } :=
 I.kept fun b o e=>hk b o (by simpa using Nat.ne_of_lt (Heap.lt_size e)) (Heap.get?_push_of_some _ e)
theorem zse {A:Around}{bs:List Bool}{its:List Value} (rv:zA (bs.map V.bl) its):TruthOf X.prog X.w A (fun i v=>its.toArray[i]?=some v) (fun i=>bs.getD i false):=by
 intro i v s Q E hp hq
 obtain ⟨x,ex,rx⟩:=zEw rv hp
 rw [List.getElem?_map]at ex
 cases eb:bs[i]? with
 | none=>rw [eb]at ex;cases ex
 | some b =>
   rw [eb]at ex
   cases ex
   cases rx
   have hq':Q (bs.getD i false) s:=hq
   rw [List.getD_eq_getElem?_getD,eb]at hq'
   exact wpAny_truthy_bool hq'
theorem zCW (hc:X.calm=true):zdn X (.builtin "all") (fun xs H Q=>∃ (a:Addr) (bs:List Bool),xs=[.ref a]∧SqL X.K H a (bs.map V.bl)∧Q (.bl (bs.all id)) H):=by
 intro pins s σ H xs us Q I r h
 obtain ⟨a,bs,rfl,hq,q⟩:=h
 obtain ⟨u,rfl,ru⟩:=zeG r
 cases ru
 obtain ⟨its,rv,p,_⟩:=I.list hq
 refine call_all_walk (wpAny_pyIter_list p.isList ?_)
 obtain ⟨o,ho,_⟩:=id p.isList
 refine ⟨s.heap.objs.size,_,_,_,_,_,_,rfl,Walks.list (A:=X.A.in1) (I.ok.hd hc) _ a (Nat.ne_of_lt (Heap.lt_size ho)) its.toArray,⟨⟨_,Heap.get?_push_size _ rfl,rfl,rfl⟩,p.isList.at fun o e=>Heap.get?_push_of_some _ e⟩,zse (A:=X.A.in1) rv,fun h' tk hk=>?_⟩
 refine ⟨.bl (bs.all id),H,zsT (a:=a) (its:=its.toArray) I hk,?_,q⟩
 have e:its.toArray.size=bs.length:=by simp [<- rv.length]
 rw [e,zCM];rfl
theorem zAG (hc:X.calm=true):zdn X (.builtin "any") (fun xs H Q=>∃ (a:Addr) (bs:List Bool),xs=[.ref a]∧SqL X.K H a (bs.map V.bl)∧Q (.bl (bs.any id)) H):=by
 intro pins s σ H xs us Q I r h
 obtain ⟨a,bs,rfl,hq,q⟩:=h
 obtain ⟨u,rfl,ru⟩:=zeG r
 cases ru
 obtain ⟨its,rv,p,_⟩:=I.list hq
 refine call_any_walk (wpAny_pyIter_list p.isList ?_)
 obtain ⟨o,ho,_⟩:=id p.isList
 refine ⟨s.heap.objs.size,_,_,_,_,_,_,rfl,Walks.list (A:=X.A.in1) (I.ok.hd hc) _ a (Nat.ne_of_lt (Heap.lt_size ho)) its.toArray,⟨⟨_,Heap.get?_push_size _ rfl,rfl,rfl⟩,p.isList.at fun o e=>Heap.get?_push_of_some _ e⟩,zse (A:=X.A.in1) rv,fun h' tk hk=>?_⟩
 refine ⟨.bl (bs.any id),H,zsT (a:=a) (its:=its.toArray) I hk,?_,q⟩
 have e:its.toArray.size=bs.length:=by simp [<- rv.length]
 rw [e,zAB];rfl
noncomputable def zcG (ns:List Int):List Int:=firstMet (fun i=>ns.getD i 0) ns.length
theorem zDF (hc:X.calm=true):zdn X (.type "set") (fun xs H Q=>∃ (a:Addr) (ns:List Int),xs=[.ref a]∧SqL X.K H a (ns.map V.int)∧ns.length < 4000∧∀ p,H p=none->Q (.ref p) (upd H p (.set (fun k=>(zcG ns).any (· == k)) (zcG ns).length))):=by
 intro pins s σ H xs us Q I r h
 obtain ⟨a,ns,rfl,hq,hn,q⟩:=h
 obtain ⟨u,rfl,ru⟩:=zeG r
 cases ru
 obtain ⟨its,rv,p,_⟩:=I.list hq
 have e:its.toArray.size=ns.length:=by simp [<- rv.length]
 refine call_set_list (items:=its.toArray) (ns:=ns) (I.ok.hd hc) p.isList (by simpa using zsX rv) (by rw [e];unfold scanBound;omega) fun h' tk hS hk=>?_
 rw [e]at hS
 exact ⟨.ref s.heap.objs.size,_,I.laid (a:=s.heap.objs.size) (o := .set (fun k=>(zcG ns).any (· == k)) (zcG ns).length) (fun b o eb=>hk b o (Heap.lt_size eb) eb) (Nat.le_refl _) hS,rfl,q _ (I.hok.fresh (Nat.le_refl _))⟩
theorem zAq:zdn X (.builtin "len") (fun xs H Q=>∃ p S n,xs=[.ref p]∧H p=some (.set S n)∧Q (.int n) H):=by
 intro pins s σ H xs us Q I r h
 obtain ⟨p,S,n,rfl,hp,q⟩:=h
 obtain ⟨u,rfl,ru⟩:=zeG r
 cases ru
 obtain ⟨o,es,ep,t,ho,hex,hd,_,_,hb,hf,hn⟩:=I.hok p _ hp
 refine call_len_set ho hex hd hf (by unfold scanBound at hb;omega) ⟨.int n,H,I.tok _,⟨_,by rw [hn]⟩,q⟩
end
end L2
end
section
namespace L2
open PySem PySem.Spec PyProof.Rows
noncomputable def zub (osc scope:Scope) (N0 N:List Str) (js:List (Option Nat)):Bool :=
 decide (scope.kind = .function) && scope.names.all (fun y=>decide (y.2 ≠ .cell) && decide (scope.names.lookup y.1=some y.2) && (decide (y.2 ≠ .free) || decide (osc.names.lookup y.1=some .cell) || decide (osc.names.lookup y.1=some .free))) &&
   decide (js.length=N.length) && (List.range js.length).all fun i=>match js[i]? with
     | some (some k)=>match N[i]?,N0[k]? with
       | some x,some y=>decide (x=y) && decide (scope.names.lookup x=some .free)
       | _,_=>false
     | _=>true
theorem zb0.of {X:Cx}{osc scope:Scope}{N0 N:List Str}{js:List (Option Nat)} (hs:X.env.scope=osc) (hN:X.N=N0) (hc:zub osc scope N0 N js=true):zb0 X scope N js:=by
 unfold zub at hc
 rw [Bool.and_eq_true,Bool.and_eq_true,Bool.and_eq_true]at hc
 obtain ⟨⟨⟨h1,h2⟩,h3⟩,h4⟩:=hc
 rw [List.all_eq_true]at h2 h4
 have g:∀ y∈scope.names,y.2 ≠ .cell∧scope.names.lookup y.1=some y.2∧(y.2 ≠ .free∨osc.names.lookup y.1=some .cell∨osc.names.lookup y.1=some .free):=fun y hy=>by
   have:=h2 y hy
   simp only [Bool.and_eq_true,Bool.or_eq_true,decide_eq_true_eq]at this
   exact ⟨this.1.1,this.1.2,by rcases this.2 with (z | z) | z <;> simp [z]⟩
 refine ⟨of_decide_eq_true h1,fun y hy=>(g y hy).1,fun y hy=>(g y hy).2.1,fun y hy hf=>?_,of_decide_eq_true h3,fun i k e=>?_⟩
 . rcases (g y hy).2.2 with z | z | z
   . exact absurd hf z
   . left;show X.env.scope.names.lookup y.1=_;rw [hs];exact z
   . right;show X.env.scope.names.lookup y.1=_;rw [hs];exact z
 . have hi:i < js.length:=(List.getElem?_eq_some_iff.mp e).1
   have q:=h4 i (List.mem_range.mpr hi)
   rw [e]at q
   cases e1:N[i]? with
   | none=>rw [e1]at q;cases q
   | some x =>
     cases e2:N0[k]? with
     | none =>
       rw [e1]at q
       dsimp only at q
       rw [e2]at q
       cases q
     | some y =>
       rw [e1]at q
       dsimp only at q
       rw [e2]at q
       simp only [Bool.and_eq_true,decide_eq_true_eq]at q
       exact ⟨x,rfl,by rw [hN,e2,q.1],q.2⟩
section
variable {K:PySem.W.Frag}{a D:Addr}{xs:List V}{g:TG}{tc:TT}{te:TE}{σ:St}{H1:Hp}{js:List (Option Nat)}{Q:VK}
end
section
variable {prog:Program}{w:World}{A:Around}{E:Value->Shared->Prop}{s:Shared}
theorem zCJ {sl:Addr}{vu:Value}{t1 t2:Tok}{Q:Int×Int×Nat->Shared->Prop} (hs:s.heap.IsSliceOf sl (.int 1 t1) .none (.int (-1) t2))
   (h:Q (1,-1,2) s):wpAny (model prog w) A (Builtin.Slice.sliceApplied (.ref sl) (pure (3:Int))) Q E s:=by
 obtain ⟨os,hos,hcs,hds⟩:=id hs
 unfold Builtin.Slice.sliceApplied Builtin.Slice.sliceFields
 refine wpAny_bind (wpAny_bind (wpAny_field hos hds (x := .int 1 t1) rfl (wpAny_bind (wpAny_field hos hds (x := .none) rfl (wpAny_bind (wpAny_field hos hds (x := .int (-1) t2) rfl (wpAny_pure ?_)))))))
 refine wpAny_bind (HT.slicePart_ (.int (-1) t2) ?_)
 show wpAny _ _ (if ((-1:Int) == 0)=true then _ else _) _ _ s
 rw [if_neg (by decide)]
 exact wpAny_bind (HT.slicePart_ (.int 1 t1) (wpAny_bind (HT.slicePart_ .none (wpAny_bind (wpAny_pure (wpAny_pure h))))))
theorem zEO {t sl:Addr}{v0 v1 v2:Value}{t1 t2:Tok}{Q:Value->Shared->Prop} (ht:IsTup s.heap t #[v0,v1,v2]) (hs:s.heap.IsSliceOf sl (.int 1 t1) .none (.int (-1) t2))
   (h:Q (.ref s.heap.objs.size) { s with heap:=s.heap.push { cls := .type "tuple",data := .seq #[v1,v0] } }):wpAny (model prog w) A (getItem (.ref t) (.ref sl)) Q E s:=by
 obtain ⟨os,hos,hcs,hds⟩:=id hs
 have hTs:s.TypeIs (.ref sl) "slice":=⟨os,hos,hcs⟩
 unfold getItem
 try with_reducible refine wpAny_holding ?_
 first | refine wpAny_bind (wpAny_pure ?_) | skip
 refine wpAny_bind (wpAny_sequenceKey ht.typeIs (by decide) ?_)
 refine wpAny_bind (wpAny_callSpecial?_slot (name:=Str.ofString "__getitem__") ht.typeIs PyProof.Rows.slot_tuple_getitem
   (wpAny_call_entry PyProof.Rows.slot_tuple_getitem ht.typeIs entry_tuple_getitem ?_ (args_tuple_getitem _ _)))
 show wpAny _ _ (Builtin.Tuple.tupleItemsOf (.ref t) >>= _) _ _ s
 refine wpAny_bind (tupleItemsOf_ ht ?_)
 refine wpAny_bind (wpAny_typeOf hTs ?_)
 rw [if_pos (by decide)]
 refine wpAny_bind (zCJ (vu := .none) hs ?_)
 have hz:sizeOk (.seq #[v1,v0]):=by show 2<=sizeLine;decide
 first
   | exact wpAny_bind (m:=Builtin.Tuple.tupleExact _) (wpAny_newObj_type (wpAny_pure ⟨_,rfl,wpAny_pure h⟩) hz)
   | exact wpAny_bind (m:=Builtin.Tuple.tupleExact _) (wpAny_newObj_type (wpAny_bind (wpAny_pure (wpAny_pure ⟨_,rfl,wpAny_pure h⟩))) hz)
   | exact wpAny_bind (wpAny_bind (m:=Builtin.Tuple.tupleExact _) (wpAny_newObj_type (wpAny_pure (wpAny_pure ⟨_,rfl,wpAny_pure h⟩)) hz))
   | exact wpAny_bind (wpAny_bind (m:=Builtin.Tuple.tupleExact _) (wpAny_newObj_type (wpAny_pure ⟨_,rfl,wpAny_pure h⟩) hz))
end
section
variable {X:Cx}{e st:Expr}{te:TE}{lo hi:Option Expr}{tl th ts:TO}{pos p2:Pos}
noncomputable def zBR (te:TE) (tl th ts:TO):TE:=fun σ H Q=>te σ H fun x H1=>tl σ H1 fun l H2=>th σ H2 fun u H3=>ts σ H3 fun k H4=>l=some 1∧u=none∧k=some (-1)∧∃ a p q r,x = .ref a∧H4 a=some (.tup [p,q,r]) ∧
 ∀ b,H4 b=none->Q (.ref b) (upd H4 b (.tup [q,p]))
theorem zDK (he:PE X e te) (hl:PO X lo tl) (hu:PO X hi th) (hst:PO X (some st) ts):PE X (.Subscript e (.Slice lo hi (some st) p2) pos) (zBR te tl th ts):=by
 intro pins s σ H Q I h
 refine Subscript_ (thn (he pins s σ H _ I h) fun v s1 ⟨x,H1,I1,r1,q1⟩=>?_)
 refine wpAny_Slice (thn (hl pins s1 σ H1 _ I1 q1) fun vl s2 ⟨l,H2,I2,pl,q2⟩=>thn (hu pins s2 σ H2 _ I2 q2) fun vu s3 ⟨u,H3,I3,pu,q3⟩=>thn (hst pins s3 σ H3 _ I3 q3) fun vs s4 ⟨k,H4,I4,ps,q4⟩=>?_)
 obtain ⟨rfl,rfl,rfl,a,p,q,r,rfl,ha,q5⟩:=q4
 obtain ⟨t1,rfl⟩:∃ t,vl = .int 1 t:=by cases pl;exact ⟨_,rfl⟩
 obtain rfl:vu = .none:=by cases pu;rfl
 obtain ⟨t2,rfl⟩:∃ t,vs = .int (-1) t:=by cases ps;exact ⟨_,rfl⟩
 cases r1
 have I5:Inv X pins σ H4 { s4 with heap:=s4.heap.push { cls := .type "slice",data := .fields #[.int 1 t1,.none,.int (-1) t2] } }:=I4.kept (t':=s4.toks) fun b ob q=>Heap.get?_push_of_some _ q
 show wpAny (model X.prog X.w) X.A (subscriptTail e (.Slice lo hi (some st) p2) (.ref a) (.ref s4.heap.objs.size)) (EP X pins σ Q) X.xe { s4 with heap:=s4.heap.push { cls := .type "slice",data := .fields #[.int 1 t1,.none,.int (-1) t2] } }
 obtain ⟨its,rv,ht,hz⟩:=I5.tuple (SqT.of ha)
 obtain ⟨u0,r0,rfl,rv0,rv'⟩:∃ u r0,its=u :: r0∧zt p u∧zA [q,r] r0:=by cases rv with | cons a b=>exact ⟨_,_,rfl,a,b⟩
 obtain ⟨u1,u2,rfl,rv1,rv2⟩:=zpp rv'
 refine tail_any (ops:=[.ref a,.ref s4.heap.objs.size]) ht.typeIs slot_tuple_getitem.lookup (zEO ht (Heap.IsSliceOf.new ..) ?_) (by with_unfolding_all rfl)
 refine ⟨.ref _,_,I5.laid (t':=s4.toks) (o := .tup [q,p]) (fun b ob q=>Heap.get?_push_of_some _ q) (Nat.le_refl _) ?_,rfl,q5 _ (I5.hok.fresh (Nat.le_refl _))⟩
 exact ⟨by show 2<=sizeLine;decide,[u1,u0],.cons rv1 (.cons rv0 .nil),IsTup.new _ _⟩
end
end L2
namespace L2
open PySem PySem.Spec PyProof.Rows
structure ztr (K:PySem.W.Frag) (C:Addr):Prop where
 ha:PySem.W.findIn K (.ref C) "__class__" = some (some (.builtin "object.__class__"))
 hn:PySem.W.specialIn K (.builtin "object.__class__") "__get__" = some (some (.builtin "getset_descriptor.__get__"))
 htk:PySem.W.takesIn K (.builtin "object.__class__")=some true
 hm:PySem.W.mroIn K C (.type "object")=some true
structure DF (K:PySem.W.Frag) (x q:Str) (st:Stmt) (ps:List Str) where
 a:Addr
 d:FuncData
 F:Fun K x q st a d
 b:zdw K d ps []
structure CF (K:PySem.W.Frag) (mg:Str->Option Value) (x:Str) where
 c:Addr
 m:mg x=some (.ref c)
 cl:Cls K c
 ic:ztr K c
structure VF (mg:Str->Option Value) (x:Str) (v:V) where
 u:Value
 m:mg x=some u
 r:zt v u
noncomputable def Isa (K:PySem.W.Frag) (C C':Addr) (b:Bool):Prop:=PySem.W.kitOne K (.ref C) (.ref C')=some b
end L2
namespace L2
open PySem
section
variable {env:Env}{es:List Expr}
theorem zC {c j p}:starEach (.Constant c j p :: es) env=(false,eval (.Constant c j p) env) :: starEach es env:=rfl
theorem zg {x p}:starEach (.Name x p :: es) env=(false,eval (.Name x p) env) :: starEach es env:=rfl
theorem zda {a o b p}:starEach (.BinOp a o b p :: es) env=(false,eval (.BinOp a o b p) env) :: starEach es env:=rfl
theorem zi5 {o a p}:starEach (.UnaryOp o a p :: es) env=(false,eval (.UnaryOp o a p) env) :: starEach es env:=rfl
theorem zbN {f a k p}:starEach (.Call f a k p :: es) env=(false,eval (.Call f a k p) env) :: starEach es env:=rfl
theorem zeW {o a p}:starEach (.Attribute o a p :: es) env=(false,eval (.Attribute o a p) env) :: starEach es env:=rfl
theorem zbY {o a p}:starEach (.Subscript o a p :: es) env=(false,eval (.Subscript o a p) env) :: starEach es env:=rfl
theorem zi2 {a p}:starEach (.List a p :: es) env=(false,eval (.List a p) env) :: starEach es env:=rfl
theorem ziW {a k p}:starEach (.Tuple a k p :: es) env=(false,eval (.Tuple a k p) env) :: starEach es env:=rfl
theorem zgw {a g sc p}:starEach (.ListComp a g sc p :: es) env=(false,eval (.ListComp a g sc p) env) :: starEach es env:=rfl
end
end L2
namespace L2
open PySem
end L2
namespace L2
open PySem
end L2
namespace L2
open PySem
end L2
end
section
namespace L2
open PySem PySem.Spec PyProof.Rows
section
variable {X:Cx}{pins:List (Addr×Obj)}{σ:St}{H:Hp}{s:Shared}{h':Heap}
theorem Inv.turnedL {t':Nat}{fp:List Addr} (I:Inv X pins σ H s) (hf:∀ b∈fp,zdo X pins H b) (k:∀ b o,b∉fp->s.heap.get? b=some o->h'.get? b=some o):Inv X pins σ H { s with heap:=h',toks:=t' }:=by
 have nit:∀ b u,H b=some u->b∉fp:=fun b u e z=>by rw [(hf b z).1]at e;cases e
 refine I.step (g':=s.gens) (d':=s.drawn) (ch:=fp) (fun b hb=>?_) (fun b o _ _ hc e _=>k b o hc e) (fun b o _ _ hc e _=>⟨o.slots,k b o hc e⟩) (fun _ _ _ _ n=>n)
   (fun b o hc e=>⟨o,k b o hc e⟩) (fun _ _ e=>e) (fun _ _ _ e=>e) (fun b ps e=>⟨#[],by rw [e];simp⟩) (fun m hm=>?_) (fun b u e=>?_) I.bare
 . obtain ⟨f0,f1,f2,f3,f4,f5⟩:=hf b hb
   exact ⟨f3,f1,f4,f5⟩
 . obtain ⟨o,es,ep,ho,r⟩:=hm
   exact ⟨o,es,ep,k _ o (fun z=>(hf _ z).2.1 rfl) ho,r⟩
 . refine (I.hok b u e).stay (fun c v hc q=>k c v ?_ q) (fun _ q=>q) fun _ _ q=>q
   rcases hc with z | z
   . rw [z];exact nit b u e
   . exact nit c _ z
theorem Inv.turnNew {t':Nat}{fp:List Addr}{T:Addr}{u:HO} (I:Inv X pins σ H s) (hf:∀ b∈fp,zdo X pins H b) (k:∀ b o,b∉fp->s.heap.get? b=some o->h'.get? b=some o) (hT:s.heap.objs.size<=T)
   (new:zbQ X.prog X.w (upd H T u) h' T u):Inv X pins σ (upd H T u) { s with heap:=h',toks:=t' }:=by
 have nit:∀ b u,H b=some u->b∉fp:=fun b u e z=>by rw [(hf b z).1]at e;cases e
 have hn:H T=none:=I.hok.fresh hT
 refine I.step (g':=s.gens) (d':=s.drawn) (ch:=fp) (fun b hb=>?_) (fun b o _ _ hc e _=>k b o hc e) (fun b o _ _ hc e _=>⟨o.slots,k b o hc e⟩) (fun b o _ e n=>by rw [zV (Nat.ne_of_lt (Nat.lt_of_lt_of_le (Heap.lt_size e) hT))];exact n)
   (fun b o hc e=>⟨o,k b o hc e⟩) (fun b xs e=>by rw [zV (zdI e hn)];exact e) (fun b o xs e=>by rw [zV (zdI e hn)];exact e) (fun b ps e=>⟨#[],by rw [zV (zdI e hn),e];simp⟩) (fun m hm=>?_) (fun b v e=>?_) I.bare
 . obtain ⟨f0,f1,f2,f3,f4,f5⟩:=hf b hb
   exact ⟨f3,f1,f4,f5⟩
 . obtain ⟨o,es,ep,ho,r⟩:=hm
   exact ⟨o,es,ep,k _ o (fun z=>(hf _ z).2.1 rfl) ho,r⟩
 . by_cases hb:b=T
   . subst hb;rw [zcy]at e;cases e;exact new
   . rw [zV hb]at e
     refine (I.hok b v e).stay (fun c v hc q=>k c v ?_ q) (fun c q=>by rw [zV (zdI q hn)];exact q) fun c xs q=>by rw [zV (zdI q hn)];exact q
     rcases hc with z | z
     . rw [z];exact nit b _ e
     . exact nit c _ z
end
section
variable {X:Cx}{es:List Expr}{k:Nat}{tp p pos:Pos}{l l2 o:Expr}{tl tl2 to:TE}
end
noncomputable def Itz (K:PySem.W.Frag) (a b:Addr):It :=
 ⟨fun i H=>∃ xs ys x y,SqL K H a xs∧SqL K H b ys∧xs[i]?=some x∧ys[i]?=some y,
  fun i H x H'=>∃ T v u,x = .ref T∧H T=none∧H'=upd H T (.tup [v,u])∧(∀ xs,SqL K H a xs->xs[i]?=some v)∧∀ ys,SqL K H b ys->ys[i]?=some u,
  fun i H=>∃ xs ys,SqL K H a xs∧SqL K H b ys∧min xs.length ys.length<=i⟩
noncomputable def zDO (z TI TO i1 i2 l1 l2:Addr) (i:Nat) (h:Heap):Prop:=IsZip h z TI TO .none∧IsPair h TI (.ref i1) (.ref i2)∧(∃ a b,IsPair h TO a b)∧h.IsListIter i1 l1 i∧h.IsListIter i2 l2 i
theorem zz1 {P:Program}{w:World}{K:PySem.W.Frag}{es:List Expr}{k:Nat}{tp:Pos} (z TI TO i1 i2 l1 l2:Addr) (TIz:TI≠z) (TOz:TO≠z) (i1z:i1≠z) (i2z:i2≠z) (TITO:TI≠TO) (TIi1:TI≠i1) (TIi2:TI≠i2) (TOi1:TO≠i1) (TOi2:TO≠i2) (i12:i1≠i2) :
   zhk P w K (.Tuple es k tp) (Itz K l1 l2) [z,TI,TO,i1,i2] z (zDO z TI TO i1 i2 l1 l2) where
 mem:=by simp
 obj:=fun i h ⟨h1,h2,⟨a,b,h3⟩,h4,h5⟩ c hc=>by
   simp only [List.mem_cons,List.not_mem_nil,or_false]at hc
   rcases hc with rfl | rfl | rfl | rfl | rfl
   . exact ⟨_,h1,fun v z=>nomatch z⟩
   . exact ⟨_,h2,fun v z=>nomatch z⟩
   . exact ⟨_,h3,fun v z=>nomatch z⟩
   . obtain ⟨o,e,_,d⟩:=h4;exact ⟨o,e,fun v z=>by rw [d]at z;cases z⟩
   . obtain ⟨o,e,_,d⟩:=h5;exact ⟨o,e,fun v z=>by rw [d]at z;cases z⟩
 keep:=fun i h h' ⟨h1,h2,⟨a,b,h3⟩,h4,h5⟩ kk=>⟨kk z (by simp) _ h1,kk TI (by simp) _ h2,⟨a,b,kk TO (by simp) _ h3⟩,h4.at fun o x=>kk i1 (by simp) o x,h5.at fun o x=>kk i2 (by simp) o x⟩
 item:=by
   intro X hP hw hK hc i pins s σ H E I hf ⟨h1,h2,⟨a,b,h3⟩,h4,h5⟩ ⟨xs,ys,x,y,hq,hq2,hx,hy⟩
   subst hP hw hK
   obtain ⟨its,rv,p,hz⟩:=I.list hq
   obtain ⟨its2,rv2,p2,hz2⟩:=I.list hq2
   obtain ⟨u,hu,ru⟩:=rv.get hx
   obtain ⟨u2,hu2,ru2⟩:=rv2.get hy
   have nl:∀ {l:Addr} {xs:List V} {c:Addr},SqL X.K H l xs->c∈[z,TI,TO,i1,i2]->(∃ o,s.heap.get? c=some o∧o.cls ≠ .type "list")->l≠c:=fun {l xs c} hl hc hn e=>by
     subst e
     obtain ⟨_,_,pp,_⟩:=I.list hl
     obtain ⟨o,ho,hcl⟩:=hn
     obtain ⟨o2,_,e2,c2,_⟩:=pp
     rw [ho]at e2;cases e2
     exact hcl c2
   have cz:∃ o,s.heap.get? z=some o∧o.cls ≠ .type "list":=⟨_,h1,by show Value.type "zip" ≠ .type "list";decide +kernel⟩
   have cO:∃ o,s.heap.get? TO=some o∧o.cls ≠ .type "list":=⟨_,h3,by show Value.type "tuple" ≠ .type "list";decide +kernel⟩
   have c1:∃ o,s.heap.get? i1=some o∧o.cls ≠ .type "list":=by obtain ⟨o,e,c,_⟩:=h4;exact ⟨o,e,by rw [c];decide +kernel⟩
   have c2:∃ o,s.heap.get? i2=some o∧o.cls ≠ .type "list":=by obtain ⟨o,e,c,_⟩:=h5;exact ⟨o,e,by rw [c];decide +kernel⟩
   have D:ZipApart z TI TO i1 i2 l1 l2:=⟨TIz,TOz,i1z,i2z,TITO,TIi1,TIi2,TOi1,TOi2,i12,nl hq (by simp) cz,nl hq (by simp) cO,nl hq (by simp) c1,nl hq (by simp) c2,nl hq2 (by simp) cz,nl hq2 (by simp) cO,nl hq2 (by simp) c1,nl hq2 (by simp) c2⟩
   refine wpAny_pyNext_zip_item D h1 h2 h3 h4 h5 p.isList p2.isList (x:=u) (y:=u2) (by simpa using hu) (by simpa using hu2) fun h' a1 a2 a3 a4 a5 a6 hk=>⟨_,rfl,?_⟩
   refine wpAny_letOwnedTupleGo_zip a1 fun h2' hz' hs2=>?_
   have hlt:∀ {c o},s.heap.get? c=some o->c < s.heap.objs.size:=fun e=>Heap.lt_size e
   have kk:∀ b o,b∉[z,TI,TO,i1,i2]->s.heap.get? b=some o->h2'.get? b=some o:=fun b o hb eb=>(hs2.2 b (fun q=>hb (by simp [q]))).trans (hk b o (fun q=>hb (by simp [q])) (fun q=>hb (by simp [q])) (fun q=>hb (by simp [q])) (fun q=>hb (by simp [q])) eb)
   have hT2:h2'.get? s.heap.objs.size=some { cls := .type "tuple",data := .seq #[u,u2] }:=(hs2.2 _ (Nat.ne_of_gt (hlt h1))).trans a5
   have I2:Inv X pins σ (upd H s.heap.objs.size (.tup [x,y])) { s with heap:=h2',toks:=s.toks }:=I.turnNew hf kk (Nat.le_refl _) ⟨by show 2<=sizeLine;decide,[u,u2],.cons ru (.cons ru2 .nil),⟨_,hT2,rfl,_,rfl⟩⟩
   refine ⟨.ref s.heap.objs.size,_,I2,rfl,⟨s.heap.objs.size,x,y,rfl,I.hok.fresh (Nat.le_refl _),rfl,fun zs hzs=>by rw [I.list_inj hzs hq];exact hx,fun zs hzs=>by rw [I.list_inj hzs hq2];exact hy⟩,
     ⟨hz',hs2.extBut _ _ TIz (hk _ _ TIz TITO TIi1 TIi2 h2),⟨_,_,hs2.extBut _ _ TOz a2⟩,a3.extBut hs2.extBut i1z,a4.extBut hs2.extBut i2z⟩,fun b hb=>?_⟩
   rw [zV]
   . exact (hf b hb).1
   . simp only [List.mem_cons,List.not_mem_nil,or_false]at hb
     rcases hb with rfl | rfl | rfl | rfl | rfl
     . exact Nat.ne_of_lt (hlt h1)
     . exact Nat.ne_of_lt (hlt h2)
     . exact Nat.ne_of_lt (hlt h3)
     . obtain ⟨_,e,_⟩:=h4;exact Nat.ne_of_lt (hlt e)
     . obtain ⟨_,e,_⟩:=h5;exact Nat.ne_of_lt (hlt e)
 done:=by
   intro X hP hw hK hc i pins s σ H E I hf ⟨h1,h2,⟨a,b,h3⟩,h4,h5⟩ ⟨xs,ys,hq,hq2,hl⟩
   subst hP hw hK
   obtain ⟨its,rv,p,hz⟩:=I.list hq
   obtain ⟨its2,rv2,p2,hz2⟩:=I.list hq2
   have hlen:=rv.length
   have hlen2:=rv2.length
   have nl:∀ {l:Addr} {xs:List V} {c:Addr},SqL X.K H l xs->(∃ o,s.heap.get? c=some o∧o.cls ≠ .type "list")->l≠c:=fun {l xs c} hl hn e=>by
     subst e
     obtain ⟨_,_,pp,_⟩:=I.list hl
     obtain ⟨o,ho,hcl⟩:=hn
     obtain ⟨o2,_,e2,c2,_⟩:=pp
     rw [ho]at e2;cases e2
     exact hcl c2
   have cz:∃ o,s.heap.get? z=some o∧o.cls ≠ .type "list":=⟨_,h1,by show Value.type "zip" ≠ .type "list";decide +kernel⟩
   have cO:∃ o,s.heap.get? TO=some o∧o.cls ≠ .type "list":=⟨_,h3,by show Value.type "tuple" ≠ .type "list";decide +kernel⟩
   have c1:∃ o,s.heap.get? i1=some o∧o.cls ≠ .type "list":=by obtain ⟨o,e,c,_⟩:=h4;exact ⟨o,e,by rw [c];decide +kernel⟩
   have c2:∃ o,s.heap.get? i2=some o∧o.cls ≠ .type "list":=by obtain ⟨o,e,c,_⟩:=h5;exact ⟨o,e,by rw [c];decide +kernel⟩
   have D:ZipApart z TI TO i1 i2 l1 l2:=⟨TIz,TOz,i1z,i2z,TITO,TIi1,TIi2,TOi1,TOi2,i12,nl hq cz,nl hq cO,nl hq c1,nl hq c2,nl hq2 cz,nl hq2 cO,nl hq2 c1,nl hq2 c2⟩
   have hend:its.toArray[i]?=none∨its2.toArray[i]?=none:=by
     rcases Nat.le_total xs.length ys.length with q | q
     . exact .inl (Array.getElem?_eq_none (by simp;omega))
     . exact .inr (Array.getElem?_eq_none (by simp;omega))
   exact wpAny_pyNext_zip_end (I.ok.hd hc) D h1 h2 h3 h4 h5 p.isList p2.isList hend fun h' hk=>⟨rfl,I.turnedL (t':=s.toks) hf fun b o hb y=>hk b o (fun q=>hb (by simp [q])) (fun q=>hb (by simp [q])) (fun q=>hb (by simp [q])) (fun q=>hb (by simp [q])) y⟩
 self:=fun _ _ _ _ _ ⟨h1,_⟩ h=>wpAny_pyIter_zip h1 h
noncomputable def zCU (K:PySem.W.Frag) (tl tl2:TE):TI:=fun σ H R=>tl σ H fun x H1=>tl2 σ H1 fun y H2=>∃ a b,x = .ref a∧y = .ref b∧(∃ xs,SqL K H2 a xs)∧(∃ ys,SqL K H2 b ys)∧R (Itz K a b) H2
section
variable {X:Cx}{es:List Expr}{k:Nat}{tp p pos apos:Pos}{l l2 o:Expr}{tl tl2 to:TE}
theorem zAL (hg:Gl X "zip") (hm:X.mg "zip" = none) (hl:PE X l tl) (hl2:PE X l2 tl2) (hs:starEach [l,l2] X.env=(false,eval l X.env) :: starEach [l2] X.env) (hs2:starEach [l2] X.env=(false,eval l2 X.env) :: starEach [] X.env) :
   PI X (.Tuple es k tp) (.Call (.Name "zip" p) [l,l2] [] pos) (zCU X.K tl tl2):=by
 intro pins s σ H R I h
 have hb:bootBuiltins ("zip":Str)=some (.type "zip"):=by decide +kernel
 refine Call_ (zgC I hg hm hb (callWith_type1 ?_ hs (by rw [hs2];rfl)))
 rw [hs]
 show wpAny _ _ (spliced ((false,eval l X.env) :: backTo pos (starEach [l2] X.env))) _ _ s
 refine Calls.spliced_cons (thn (hl pins s σ H _ I h) fun u s1 ⟨x,H1,I1,r1,q1⟩=>?_)
 rw [hs2]
 show wpAny _ _ (spliced ((false,eval l2 X.env) :: backTo pos (starEach [] X.env))) _ _ s1
 refine Calls.spliced_cons (thn (hl2 pins s1 σ H1 _ I1 q1) fun u2 s2 ⟨y,H2,I2,r2,q2⟩=>Calls.spliced_nil ?_)
 obtain ⟨a,b,rfl,rfl,⟨xs,hq⟩,⟨ys,hq2⟩,q⟩:=q2
 cases r1;cases r2
 obtain ⟨its,rv,pl,hz⟩:=I2.list hq
 obtain ⟨its2,rv2,pl2,hz2⟩:=I2.list hq2
 refine call_zip_2 pl.isList pl2.isList fun h' g1 g2 g3 g4 g5 hsz hk=>?_
 refine wpAny_pyIter_zip g1 ?_
 refine ⟨s2.heap.objs.size+4,[s2.heap.objs.size+4,s2.heap.objs.size+2,s2.heap.objs.size+3,s2.heap.objs.size,s2.heap.objs.size+1],_,_,H2,rfl,I2.kept (t':=s2.toks) hk,
   zz1 (s2.heap.objs.size+4) (s2.heap.objs.size+2) (s2.heap.objs.size+3) s2.heap.objs.size (s2.heap.objs.size+1) a b (show (s2.heap.objs.size+2:Nat)≠(s2.heap.objs.size+4:Nat) by omega) (show (s2.heap.objs.size+3:Nat)≠(s2.heap.objs.size+4:Nat) by omega) (show (s2.heap.objs.size:Nat)≠(s2.heap.objs.size+4:Nat) by omega) (show (s2.heap.objs.size+1:Nat)≠(s2.heap.objs.size+4:Nat) by omega) (show (s2.heap.objs.size+2:Nat)≠(s2.heap.objs.size+3:Nat) by omega) (show (s2.heap.objs.size+2:Nat)≠(s2.heap.objs.size:Nat) by omega) (show (s2.heap.objs.size+2:Nat)≠(s2.heap.objs.size+1:Nat) by omega) (show (s2.heap.objs.size+3:Nat)≠(s2.heap.objs.size:Nat) by omega) (show (s2.heap.objs.size+3:Nat)≠(s2.heap.objs.size+1:Nat) by omega) (show (s2.heap.objs.size:Nat)≠(s2.heap.objs.size+1:Nat) by omega),⟨g1,g2,⟨_,_,g3⟩,g4,g5⟩,fun c hc=>?_,q⟩
 have hle:s2.heap.objs.size<=c:=by
   simp only [List.mem_cons,List.not_mem_nil,or_false]at hc
   rcases hc with rfl | rfl | rfl | rfl | rfl
   . exact Nat.le_add_right _ 4
   . exact Nat.le_add_right _ 2
   . exact Nat.le_add_right _ 3
   . exact Nat.le_refl _
   . exact Nat.le_add_right _ 1
 exact I2.fpOk hle (I2.hok.fresh hle)
theorem zAZ {P:Program}{w:World}{kk:Key}{u:Value} (h:(zbM P w).is kk u=true):zt (kV kk) u:=by
 rcases zeN (k:=kk) (v:=u) h with ⟨i,t,rfl,rfl⟩ | ⟨x,t,rfl,rfl⟩
 . exact ⟨t,rfl⟩
 . exact ⟨t,rfl⟩
end
end L2
end
section
namespace L2
open PySem PySem.Spec PyProof.Rows
noncomputable def zcA (xs:Array Nat):Prop:=xs.toList.Pairwise (· < ·)
theorem zcA.lt {xs:Array Nat} (h:zcA xs) {i j:Nat}{a b:Nat} (hi:xs[i]?=some a) (hj:xs[j]?=some b) (q:i < j):a < b:=by
 unfold zcA at h
 rw [List.pairwise_iff_getElem]at h
 rw [<- Array.getElem?_toList]at hi hj
 obtain ⟨h1,e1⟩:=List.getElem?_eq_some_iff.mp hi
 obtain ⟨h2,e2⟩:=List.getElem?_eq_some_iff.mp hj
 have:=h i j h1 h2 q
 rw [e1,e2]at this
 exact this
theorem zpC {xs:Array Nat}{j:Nat} (h:zcA xs):∀ (fuel lo hi:Nat),hi<=xs.size->lo<=hi->hi - lo<=fuel->(∀ i a,i < lo->xs[i]?=some a->a < j)->(∀ i a,hi<=i->xs[i]?=some a->j<=a) ->
   let r:=SetTable.below.go xs j fuel lo hi
   r<=xs.size∧(∀ i a,i < r->xs[i]?=some a->a < j)∧(∀ i a,r<=i->xs[i]?=some a->j<=a)
 | 0,lo,hi,h1,h2,h3,h4,h5=>by
   unfold SetTable.below.go
   have e:lo=hi:=by omega
   subst e
   exact ⟨h1,h4,h5⟩
 | fuel+1,lo,hi,h1,h2,h3,h4,h5=>by
   unfold SetTable.below.go
   dsimp only
   by_cases c:lo < hi
   . rw [if_pos c]
     have hm:(lo+hi) / 2 < xs.size:=by omega
     have em:xs[(lo+hi) / 2]?=some xs[(lo+hi) / 2]:=Array.getElem?_eq_getElem hm
     have ed:xs.getD ((lo+hi) / 2) j=xs[(lo+hi) / 2]:=by simp [Array.getD,hm]
     by_cases d:xs.getD ((lo+hi) / 2) j < j
     . rw [if_pos d]
       refine zpC h fuel _ _ h1 (by omega) (by omega) (fun i a q e=>?_) h5
       by_cases z:i=(lo+hi) / 2
       . subst z;rw [em]at e;cases e;rw [ed]at d;exact d
       . have:=h.lt e em (by omega)
         rw [ed]at d;omega
     . rw [if_neg d]
       refine zpC h fuel _ _ (by omega) (by omega) (by omega) h4 (fun i a q e=>?_)
       by_cases z:i=(lo+hi) / 2
       . subst z;rw [em]at e;cases e;rw [ed]at d;omega
       . have:=h.lt em e (by omega)
         rw [ed]at d;omega
   . rw [if_neg c]
     have e:lo=hi:=by omega
     subst e
     exact ⟨h1,h4,h5⟩
theorem zo3 {xs:Array Nat}{j:Nat} (h:zcA xs):SetTable.below xs j<=xs.size∧(∀ i a,i < SetTable.below xs j->xs[i]?=some a->a < j)∧(∀ i a,SetTable.below xs j<=i->xs[i]?=some a->j<=a) :=
 zpC h _ _ _ (Nat.le_refl _) (Nat.zero_le _) (by omega) (fun i a q=>by omega) (fun i a q e=>by have:=(Array.getElem?_eq_some_iff.mp e).1;omega)
theorem zz4 {xs:Array Nat}{j:Nat} (h:zcA xs) (n:xs[SetTable.below xs j]?≠some j):∀ i:Nat,xs[i]?≠some j:=fun i e=>by
 obtain ⟨h1,h2,h3⟩:=zo3 (j:=j) h
 by_cases c:i < SetTable.below xs j
 . have:=h2 i j c e;omega
 . by_cases d:i=SetTable.below xs j
   . subst d;exact n e
   . have hb:SetTable.below xs j < xs.size:=by have:=(Array.getElem?_eq_some_iff.mp e).1;omega
     have eb:xs[SetTable.below xs j]?=some xs[SetTable.below xs j]:=Array.getElem?_eq_getElem hb
     have q1:=h3 _ _ (Nat.le_refl _) eb
     have q2:=h.lt eb e (by omega)
     omega
theorem zcA.insert {xs:Array Nat}{j:Nat} (h:zcA xs) (n:∀ i:Nat,xs[i]?≠some j):zcA (SetTable.insertAt xs (SetTable.below xs j) j):=by
 obtain ⟨h1,h2,h3⟩:=zo3 (j:=j) h
 generalize SetTable.below xs j=b at h1 h2 h3
 have h':=h
 unfold zcA at h ⊢
 rw [SetTable.toList_insertAt]
 rw [<- List.take_append_drop b xs.toList,List.pairwise_append]at h
 obtain ⟨p1,p2,p3⟩:=h
 have lo:∀ a∈xs.toList.take b,a < j:=fun a ha=>by
   obtain ⟨i,hi,e⟩:=List.mem_iff_getElem.mp ha
   rw [List.length_take]at hi
   rw [List.getElem_take]at e
   exact h2 i a (by omega) (by rw [<- Array.getElem?_toList,<- e];exact List.getElem?_eq_getElem _)
 have hi:∀ a∈xs.toList.drop b,j < a:=fun a ha=>by
   obtain ⟨i,hi,e⟩:=List.mem_iff_getElem.mp ha
   rw [List.getElem_drop]at e
   rw [List.length_drop]at hi
   have e':xs[b+i]?=some a:=by rw [<- Array.getElem?_toList,<- e];exact List.getElem?_eq_getElem _
   have:=h3 (b+i) a (by omega) e'
   have:=n (b+i)
   have:a≠j:=fun z=>this (z ▸ e')
   omega
 rw [List.pairwise_append]
 refine ⟨p1,List.pairwise_cons.mpr ⟨hi,p2⟩,fun a ha c hc=>?_⟩
 rcases List.mem_cons.mp hc with rfl | hc
 . exact lo a ha
 . exact p3 a ha c hc
theorem zcA.range (n:Nat):zcA (Array.range n):=by
 unfold zcA
 simpa using List.pairwise_lt_range
theorem zsG {t:SetTable}{j:Nat} (h:zcA t.place) (e:∀ i,t.slot j ≠ .live i):∀ i:Nat,t.place[i]?≠some j:=by
 refine zz4 h fun q=>e (SetTable.below t.place j) ?_
 unfold SetTable.slot
 dsimp only
 rw [q]
 simp
theorem zpI {t:SetTable}{f:Nat->Int}{h:Int} (r:zcA t.place):∀ (fuel:Nat) (p:SetTable.Probe) (j:Nat) (d:Option Nat),(∀ x,p.dummy=some x->∀ i:Nat,t.place[i]?≠some x) ->
   SetTable.probe.go t f h fuel p=some (.empty j d)->(∀ i:Nat,t.place[i]?≠some j)∧∀ x,d=some x->∀ i:Nat,t.place[i]?≠some x
 | 0,p,j,d,hd,e=>by unfold SetTable.probe.go at e;cases e
 | fuel+1,p,j,d,hd,e=>by
   have adv:∀ q:SetTable.Probe,(t.advance q).dummy=q.dummy:=fun q=>by unfold SetTable.advance;split <;> rfl
   unfold SetTable.probe.go at e
   cases es:t.slot p.j with
   | empty =>
     rw [es]at e
     cases e
     exact ⟨zsG r fun i=>by rw [es];simp,hd⟩
   | dummy =>
     rw [es]at e
     refine zpI r fuel _ j d (fun x hx=>?_) e
     rw [adv]at hx
     cases hx
     exact zsG r fun i=>by rw [es];simp
   | live i =>
     rw [es]at e
     dsimp only at e
     split at e
     . cases e
     . exact zpI r fuel _ j d (fun x hx=>by rw [adv]at hx;exact hd x hx) e
theorem zA1 {t:SetTable}{h:Int}{j:Nat}{b:Bool} (r:zcA t.place) (e:t.freeSlot h=some (j,b)):∀ i:Nat,t.place[i]?≠some j:=by
 unfold SetTable.freeSlot at e
 cases ep:t.probe (fun _=>h+1) h (t.probeStart h) with
 | none=>rw [ep]at e;cases e
 | some m =>
   rw [ep]at e
   cases m with
   | candidate=>cases e
   | empty k d =>
     unfold SetTable.probe at ep
     have:=zpI r _ _ _ _ (fun x hx=>by cases hx) ep
     cases d with
     | none=>cases e;exact this.1
     | some x=>cases e;exact this.2 x rfl
structure zcH (L:Bool) (t:SetTable):Prop where
 led:L=true->t.led=true
 rise:zcA t.place
theorem zcH.stand {L:Bool}{t:SetTable} (h:zcH L t) (n:Nat):zcH L (t.standIn n):=⟨h.led,zcA.range n⟩
theorem zcH.orStand {L:Bool}{t:SetTable} (h:zcH L t) (n:Nat):zcH L (t.orStandIn n):=by unfold SetTable.orStandIn;split;exact h;exact h.stand n
theorem zcH.off {L:Bool}{t:SetTable} (h:zcH L t):zcH L { t with plain:=false }:=⟨h.led,h.rise⟩
theorem zcH.new {L:Bool}{t:SetTable} (k:zcH L t) (es:Array (Int×Value)) (h:Int) (x:Value):zcH L (layNew t es h x).2.1:=by
 unfold layNew
 split
 . rename_i j b e
   refine zcH.orStand (t:=(t.put j).1) ⟨k.led,?_⟩ _
   exact k.rise.insert (zA1 k.rise e)
 . exact k.stand _
theorem zr3 (f:Nat->Option Nat):∀ (l:List Nat),l.Pairwise (· < ·)->(((l.filterMap fun j=>(f j).map (j,·)).map (·.1)).Pairwise (· < ·))∧∀ a∈(l.filterMap fun j=>(f j).map (j,·)).map (·.1),a∈l
 | [],_=>by simp
 | x :: l,h=>by
   obtain ⟨h1,h2⟩:=List.pairwise_cons.mp h
   obtain ⟨i1,i2⟩:=zr3 f l h2
   cases e:f x with
   | none =>
     rw [List.filterMap_cons_none (by rw [e];rfl)]
     exact ⟨i1,fun a ha=>List.mem_cons_of_mem _ (i2 a ha)⟩
   | some y =>
     rw [List.filterMap_cons_some (b:=(x,y)) (by rw [e];rfl),List.map_cons]
     refine ⟨List.pairwise_cons.mpr ⟨fun a ha=>h1 a (i2 a ha),i1⟩,fun a ha=>?_⟩
     rcases List.mem_cons.mp ha with rfl | ha
     . exact List.mem_cons_self
     . exact List.mem_cons_of_mem _ (i2 a ha)
theorem zcH.relay {L:Bool}{t:SetTable} (k:zcH L t) (es:Array (Int×Value)) (n:Nat):zcH L (relayAll t es n).2.1:=by
 unfold relayAll
 split
 . rename_i t' order e
   dsimp only
   split
   . unfold SetTable.relaid SetTable.laid at e
     cases ec:SetTable.layClean (SetTable.sizeAbove n - 1) (es.map (·.1)) with
     | none=>rw [ec]at e;cases e
     | some ow =>
       rw [ec]at e
       cases e
       refine ⟨k.led,?_⟩
       unfold zcA
       exact (zr3 _ _ List.pairwise_lt_range).1
   . exact k.stand _
 . exact k.stand _
end L2
end
section
namespace L2
open PySem PySem.Spec PyProof.Rows
noncomputable def zcT (P:Program) (w:World) (L:Bool) (h:Heap) (a:Addr) (ns:List Int):Prop :=
 ∃ o es ep t,h.get? a=some o∧o.ExactSet∧o.data = .set es ep t∧ElemsOf (intKind P w) es.toList∧es.size < scanBound∧t.fits es.size=true∧zcH L t∧∃ ms,IntsAre (es.toList.map (·.2)) ms∧ms.Perm ns
section
variable {P:Program}{w:World}{A:Around}{E:Value->Shared->Prop}{s:Shared}{L:Bool}{a:Addr}{ns:List Int}
theorem zcT.keep {h h':Heap} (S:zcT P w L h a ns) (k:∀ o,h.get? a=some o->h'.get? a=some o):zcT P w L h' a ns:=by
 obtain ⟨o,es,ep,t,ho,r⟩:=S
 exact ⟨o,es,ep,t,k o ho,r⟩
theorem zpm {vs us:List Value} (p:vs.Perm us):∀ {ms:List Int},IntsAre us ms->∃ ks,IntsAre vs ks∧ks.Perm ms:=by
 induction p with
 | nil=>intro ms h;cases h;exact ⟨[],.nil,.nil⟩
 | cons x p ih =>
   intro ms h
   cases h with
   | cons n t hr=>obtain ⟨ks,h1,h2⟩:=ih hr;exact ⟨n :: ks,.cons n t h1,h2.cons n⟩
 | swap x y l =>
   intro ms h
   cases h with
   | cons n t hr=>cases hr with
     | cons m u hq=>exact ⟨m :: n :: _,.cons m u (.cons n t hq),.swap _ _ _⟩
 | trans p q ip iq =>
   intro ms h
   obtain ⟨ks,h1,h2⟩:=iq h
   obtain ⟨js,h3,h4⟩:=ip h1
   exact ⟨js,h3,h4.trans h2⟩
theorem zsD:∀ {vs:List Value}{ms:List Int}{k:Int}{t:Tok},IntsAre vs ms->IntsAre (vs++[.int k t]) (ms++[k])
 | _,_,k,t,.nil=> .cons k t .nil
 | _,_,k,t,.cons n u hr=> .cons n u (zsD hr)
theorem zsf {k m:Int}{t:Tok}:(intKind P w).is k (.int m t)=decide (k=m):=KeyKind.is_eq_decide (intKind_is _ _ _ _) k
theorem zsA {es:List (Int×Value)}{ms:List Int} (h:IntsAre (es.map (·.2)) ms) (k:Int):(∃ e∈es,(intKind P w).is k e.2=true)↔k∈ms:=by
 induction es generalizing ms with
 | nil=>cases h;simp
 | cons x es ih =>
   obtain ⟨hx,v⟩:=x
   cases h with
   | cons n t hr =>
     have:=ih hr
     constructor
     . rintro ⟨e,he,q⟩
       rcases List.mem_cons.mp he with rfl | he
       . rw [zsf]at q
         rw [of_decide_eq_true q];exact List.mem_cons_self
       . exact List.mem_cons_of_mem _ (this.mp ⟨e,he,q⟩)
     . intro q
       rcases List.mem_cons.mp q with rfl | q
       . exact ⟨_,List.mem_cons_self,by rw [zsf];simp⟩
       . obtain ⟨e,he,q⟩:=this.mpr q
         exact ⟨e,List.mem_cons_of_mem _ he,q⟩
theorem zpU (b:Bool) {s₁:Shared}{R:Unit->Shared->Prop} (hq:R () s₁):wpAny (model P w) A (match b with | true=>rule "set.scan.the-table-gave-way" | false=>pure ()) R E s₁:=by
 cases b
 . exact wpAny_pure hq
 . exact wpAny_rule hq
theorem ztm {h:Heap}{o:Obj}{es:Array (Int×Value)}{ep:Nat}{t:SetTable} (fs:Array (Int×Value)) (u:SetTable) (ho:h.get? a=some o) (hd:o.data = .set es ep t) :
   (h.update a (Obj.putSet fs u)).get? a=some { o with data := .set fs (ep+1) u }:=by
 have g:=Heap.get?_update_self (Obj.putSet fs u) ho (by rw [putSet_of fs u hd];rfl)
 rw [putSet_of fs u hd]at g
 exact g
theorem zt1 {g:Bool->Sem Unit} (hg:∀ (b:Bool) (s₁:Shared) (R:Unit->Shared->Prop),R () s₁->wpAny (model P w) A (g b) R E s₁) {o:Obj}{es fs:Array (Int×Value)}{ep:Nat}{t u:SetTable}{c:Bool}{R:Option Bool->Shared->Prop}{ms:List Int}
   (ho:s.heap.get? a=some o) (hex:o.ExactSet) (hd:o.data = .set es ep t) (hel:ElemsOf (intKind P w) fs.toList) (hb:fs.size < scanBound) (hf:u.fits fs.size=true) (hu:zcH L u) (hI:IntsAre (fs.toList.map (·.2)) ms) (hp:ms.Perm ns)
   (h:∀ h',Heap.SameBut a s.heap h'->zcT P w L h' a ns->R (some true) { s with heap:=h' }) :
   wpAny (model P w) A (do
       storeSet a fs u
       if (!c && u.tooFull)=true then do
           g (relayAll u fs (SetTable.grown fs.size)).2.2
           storeSet a (relayAll u fs (SetTable.grown fs.size)).1 (relayAll u fs (SetTable.grown fs.size)).2.1
           pure (some true)
         else pure (some true)) R E s:=by
 refine wpAny_bind (wpAny_storeSet_of ho hd ?_ (fits_of_scanBound hb))
 have h1:=ztm fs u ho hd
 have sb:=Heap.SameBut.update s.heap a (Obj.putSet fs u)
 split
 . have pm:=relayAll_perm u fs (SetTable.grown fs.size)
   have fr:=relayAll_fits u fs (SetTable.grown fs.size)
   have tk:=hu.relay fs (SetTable.grown fs.size)
   generalize relayAll u fs (SetTable.grown fs.size)=Z at pm fr tk ⊢
   obtain ⟨gs,v,b⟩:=Z
   dsimp only at pm fr tk ⊢
   have hz:gs.size=fs.size:=by rw [<- Array.length_toList,pm.length_eq,Array.length_toList]
   refine wpAny_bind (hg _ _ _ ?_)
   refine wpAny_bind (wpAny_storeSet_of h1 rfl ?_ (fits_of_scanBound (by rw [hz];exact hb)))
   have h2:=ztm gs v h1 rfl
   obtain ⟨ks,k1,k2⟩:=zpm (pm.map (·.2)) hI
   exact wpAny_pure (h _ (sb.trans (Heap.SameBut.update _ a _)) ⟨_,gs,_,v,h2,hex,rfl,hel.perm pm,by rw [hz];exact hb,fr,tk,ks,k1,k2.trans hp⟩)
 . exact wpAny_pure (h _ sb ⟨_,fs,_,u,h1,hex,rfl,hel,hb,hf,hu,ms,hI,hp⟩)
theorem zAu {k:Int}{tk:Tok}{Q:Bool->Shared->Prop} (S:zcT P w L s.heap a ns) (room:ns.length+1 < scanBound) (h:∀ b h',Heap.SameBut a s.heap h'->zcT P w L h' a (step_dedup ns k)->Q b { s with heap:=h' }) :
   wpAny (model P w) A (setAddHashed a (.int k tk) ((intKind P w).hash k)) Q E s:=by
 obtain ⟨o,es,ep,t,ho,hex,hd,hel,hb,hf,hT,ms,hI,hp⟩:=S
 have hsz:es.size=ns.length:=by rw [<- hp.length_eq,<- hI.length,List.length_map,Array.length_toList]
 have hk:(intKind P w).is k (Value.int k tk)=true:=intKind_is _ _ _ _
 have hs:(Value.int k tk).scannable=true:=rfl
 have hany:(ns.any (· == k))=decide (k∈ms):=by
   rw [Bool.eq_iff_iff,decide_eq_true_eq,hp.mem_iff];simp
 unfold setAddHashed setAddHashedIn
 refine wpAny_holding (wpAny_bind (wpAny_setState_of ho hd hf ?_))
 dsimp only
 rw [byScan_of hs hb hel]
 simp only [↓reduceIte]
 unfold setAddByScan
 refine wpAny_bind (wpAny_bind (wpAny_rule ?_))
 refine wpAny_bind (wpAny_setScan_of hk ho hd hf hel ?_)
 cases hr:List.findIdx? (fun e=>(intKind P w).is k e.2) es.toList with
 | some j =>
   dsimp only
   obtain ⟨hj,hpj,_⟩:=List.findIdx?_eq_some_iff_getElem.mp hr
   have hin:k∈ms:=(zsA (P:=P) (w:=w) hI k).mp ⟨es.toList[j],List.getElem_mem hj,hpj⟩
   refine wpAny_pure (wpAny_pure ?_)
   have e:s={ s with heap:=s.heap }:=by cases s;rfl
   rw [e]
   refine h _ _ (Heap.SameBut.refl a s.heap) ?_
   unfold step_dedup
   rw [hany,if_pos (by simpa using hin)]
   exact ⟨o,es,ep,t,ho,hex,hd,hel,hb,hf,hT,ms,hI,hp⟩
 | none =>
   dsimp only
   have hout:k∉ms:=fun q=>by
     obtain ⟨e,he,z⟩:=(zsA (P:=P) (w:=w) hI k).mpr q
     have:=List.findIdx?_eq_none_iff.mp hr e he
     rw [z]at this;cases this
   have pm:=layNew_perm t es ((intKind P w).hash k) (.int k tk)
   have fr:=layNew_fits t es ((intKind P w).hash k) (.int k tk)
   have hN:=hT.new es ((intKind P w).hash k) (.int k tk)
   generalize layNew t es ((intKind P w).hash k) (.int k tk)=Z at pm fr hN ⊢
   obtain ⟨fs,u,c,b⟩:=Z
   dsimp only at pm fr hN ⊢
   rw [Array.toList_push]at pm
   have hz:fs.size=es.size+1:=by rw [<- Array.length_toList,pm.length_eq,List.length_append,Array.length_toList];rfl
   have el:ElemsOf (intKind P w) fs.toList:=(hel.push hk hs).perm pm
   have hI1:IntsAre ((es.toList++[((intKind P w).hash k,Value.int k tk)]).map (·.2)) (ms++[k]):=by rw [List.map_append];exact zsD hI
   obtain ⟨ks,k1,k2⟩:=zpm (pm.map (·.2)) hI1
   have hperm:ks.Perm (step_dedup ns k):=by
     unfold step_dedup
     rw [hany,if_neg (by simpa using hout)]
     exact k2.trans (hp.append_right _)
   have hb1:fs.size < scanBound:=by omega
   refine wpAny_bind (zpU _ ?_)
   split
   . refine wpAny_bind ?_
     rw [hashByValue_scannable 8 hs]
     refine wpAny_pure ?_
     refine zt1 (L:=L) (ns:=step_dedup ns k) ?_ ho hex hd el hb1 ?_ ?_ k1 hperm ?_
     . intro b s₁ R hq;exact zpU b hq
     . split
       . exact fr
       . exact SetTable.fits_plain_off fr
     . split
       . exact hN
       . exact hN.off
     . intro h' hsb hS;dsimp only;exact wpAny_pure (h _ h' hsb hS)
   . refine wpAny_bind (wpAny_pure ?_)
     simp only [↓reduceIte]
     refine zt1 (L:=L) (ns:=step_dedup ns k) ?_ ho hex hd el hb1 fr hN k1 hperm ?_
     . intro b s₁ R hq;exact zpU b hq
     . intro h' hsb hS;dsimp only;exact wpAny_pure (h _ h' hsb hS)
end
end L2
end
section
namespace L2
open PySem PySem.Spec PyProof.Rows
section
variable {P:Program}{w:World}{A:Around}{R:Result->Shared->Prop}{I:Addr}{fp wr:List Addr}{G:Array GenState->Array GenState->Prop}{n:Nat}{V:Nat->Value->Prop}{St:Nat->Shared->Prop}{L:Bool}
theorem zD9 (W:WalksS P w A.in1 I fp wr G n V St) (a:Addr) (ha:a∉fp) (val:Nat->Int) (hval:∀ i v,V i v->∃ t,v = .int (val i) t) (hb:n+1 < scanBound) :
   ∀ (k i:Nat) (s:Shared),n - i=k->i<=n->St i s->zcT P w L s.heap a (firstMet val i) ->
     (∀ s',Moved (a :: wr) G s s'->zcT P w L s'.heap a (firstMet val n)->R (.ok (.ret .none)) s') ->
     codeAny (model P w) A (.builtin "set.update.loop" ⟨[.ref a,.ref I],[]⟩) R s:=by
 have haw:a∉wr:=fun z=>ha (W.sub _ z)
 have up:∀ b∈wr,b∈a :: wr:=fun b z=>List.mem_cons_of_mem _ z
 intro k
 induction k with
 | zero =>
   intro i s hk hi st S fin
   obtain rfl:i=n:=by omega
   refine codeAny_builtin PyProof.Rows.F.entry_set_update_loop ?_
   rw [Around.under_plainId PyProof.Rows.F.plain_set_update_loop _]
   refine wpAny_bind (m:=pyNext (.ref I)) (W.done s _ _ st fun s1 m=>?_)
   exact wpAny_pure (fin s1 (m.mono up) (S.keep fun o e=>m.heap a o haw e))
 | succ k ih =>
   intro i s hk hi st S fin
   have lt:i < n:=by omega
   refine codeAny_builtin PyProof.Rows.F.entry_set_update_loop ?_
   rw [Around.under_plainId PyProof.Rows.F.plain_set_update_loop _]
   refine wpAny_bind (m:=pyNext (.ref I)) (W.item i s _ _ lt st fun v s1 hv st1 m=>?_)
   obtain ⟨t,rfl⟩:=hval i v hv
   have S1:zcT P w L s1.heap a (firstMet val i):=S.keep fun o e=>m.heap a o haw e
   refine wpAny_bind (m:=holding [Value.int (val i) t] (setAdd a (.int (val i) t))) (wpAny_holding ?_)
   unfold setAdd
   refine wpAny_holding (wpAny_bind ((intKind P w).pyHash (k:=val i) (intKind_is _ _ _ _) ?_))
   have room:(firstMet val i).length+1 < scanBound:=by have:=firstMet_length_le val i;omega
   refine zAu (s:={ s1 with toks:=s1.toks+1 }) S1 room fun b h' sb S2=>?_
   rw [<- firstMet_succ]at S2
   refine wpAny_pure ⟨plainId_quiet PyProof.Rows.F.plain_set_update_loop _,ih (i+1) _ (by omega) lt (W.frame _ s1 _ _ st1 (Nat.le_succ _) fun c hc o e=>?_) S2 fun s2 m2 S3=>?_⟩
   . rw [sb.2 c (fun z:c=a=>ha (by rw [<- z];exact hc))];exact e
   . refine fin s2 (Moved.trans W.gtrans ((m.mono up).then_heap (Nat.le_succ _) fun c o hc e=>?_) m2) S3
     rw [sb.2 c (fun z:c=a=>hc (by rw [z];exact List.mem_cons_self))];exact e
end
section
variable {P:Program}{w:World}{A:Around}{E:Value->Shared->Prop}{s:Shared}
noncomputable def zcN (w:World):Bool:=!(w.params.followText "set-order")
theorem zAN (a:Value) {Q:Value->Shared->Prop} (h:Q (.ref s.heap.objs.size) { s with heap:=s.heap.push { cls := .type "set",dict:=none,data := .set #[] 0 (.fresh 0 0 (zcN w)) } }) :
   codeAny (model P w) A (.call (.builtin "set.__new__") ⟨[.type "set",a],[]⟩) (wants Q E) s:=by
 refine codeAny_of_tree ?_
 refine wpAny_bind (m:=checkBuiltinCall "set.__new__" ⟨[.type "set",a],[]⟩) (wpAny_of_eq (PySem.F.newCall_set_1 a) ?_)
 refine wpAny_pure ⟨plainId_quiet PySem.F.plain_set_new _,codeAny_builtin PySem.F.entry_set_new ?_⟩
 rw [Around.under_plainId PySem.F.plain_set_new _]
 unfold Builtin.«set.__new__» Builtin.Frozenset.newClass
 have hsub:=sub_set_self
 obtain ⟨hp,g,d,tk,os⟩:=s
 dsimp only
 wp_walk
 refine wpAny_askSetting (wpAny_pure ?_)
 dsimp only
 simp only [newObj]
 exact wpAny_bind (wpAny_alloc (wpAny_pure (wpAny_pure h)))
theorem zEL {h:Heap}{a:Addr}{L b:Bool} (hb:L=true->b=true) (e:h.get? a=some { cls := .type "set",dict:=none,data := .set #[] 0 (.fresh 0 0 b) }):zcT P w L h a [] :=
 ⟨_,#[],0,_,e,⟨rfl,rfl,rfl⟩,rfl,fun x hx=>by simp at hx,by decide,by rfl,⟨hb,.nil⟩,[],.nil,.nil⟩
set_option maxHeartbeats 3200000 in
theorem zEB {l:Addr}{items:Array Value}{ns:List Int}{Q:Value->Shared->Prop} (hh:A.handled=none) (hl:s.heap.IsList l items) (hi:IntsAre items.toList ns) (hb:items.size+1 < scanBound)
   (h:∀ (h':Heap) (tk:Nat),zcT P w (zcN w) h' s.heap.objs.size (firstMet (fun i=>ns.getD i 0) items.size)->(∀ b o,b < s.heap.objs.size->s.heap.get? b=some o->h'.get? b=some o)->Q (.ref s.heap.objs.size) { s with heap:=h',toks:=tk }) :
   wpAny (model P w) A (call (.type "set") [.ref l]) Q E s:=by
 obtain ⟨c,tl,hmro⟩:=PySem.F.called_set.mro
 have z1:=PySem.F.called_set.made
 have z2:=PySem.F.called_set.sub
 refine wpAny_call (codeAny_of_tree ?_)
 show wpAny (model P w) _ (callAny (.type "set") _) _ _ s
 refine wpAny_pure ⟨Code.quiet_builtin _ (by decide +kernel),codeAny_builtin PySem.F.entry_type_call ?_⟩
 rw [Around.under_plain (weight_type_call_type "set" [.ref l] []) rfl]
 have z3:=PySem.F.called_set.notType
 have z4:=PySem.F.called_set.canCreate
 have z5:=PySem.F.typeCall_set_1 (.ref l)
 repeat (any_goals (first | assumption | wp_step))
 refine codeAny_mono (zAN (.ref l) (E:=E) (Q:=fun v s1=>v = .ref s.heap.objs.size∧s1={ s with heap:=s.heap.push { cls := .type "set",dict:=none,data := .set #[] 0 (.fresh 0 0 (zcN w)) } }) ⟨rfl,rfl⟩) fun r s1 hr=>?_
 cases r with
 | error e=>exact hr
 | ok fl =>
   cases fl with
   | ret v =>
     obtain ⟨rfl,rfl⟩:=hr
     have hS:(s.heap.push { cls := .type "set",dict:=none,data := .set #[] 0 (.fresh 0 0 (zcN w)) }).get? s.heap.objs.size=some { cls := .type "set",dict:=none,data := .set #[] 0 (.fresh 0 0 (zcN w)) }:=Heap.get?_push_size _ rfl
     have hT:Shared.TypeIs { s with heap:=s.heap.push { cls := .type "set",dict:=none,data := .set #[] 0 (.fresh 0 0 (zcN w)) } } (.ref s.heap.objs.size) "set":=⟨_,hS,rfl⟩
     have y1:=PySem.F.called_set.init.lookup
     have y2:=PySem.F.called_set.init.bind (.ref s.heap.objs.size)
     repeat (any_goals (first | assumption | wp_step))
     refine codeAny_mono (codeAny_call_builtin (R:=wants (fun r s2=>r = .none∧∃ h' tk,s2={ s with heap:=h',toks:=tk }∧zcT P w (zcN w) h' s.heap.objs.size (firstMet (fun i=>ns.getD i 0) items.size) ∧
         (∀ b o,b < s.heap.objs.size->s.heap.get? b=some o->h'.get? b=some o)) E) PySem.F.called_set.init.plain PySem.F.entry_set_init (check_set_init_1 hT ?_)) fun r2 s2 hr2=>?_
     . obtain ⟨ol,hol,hcl,nl,hdl⟩:=hl
       obtain ⟨oc,od,oa,osl⟩:=ol
       simp only at hcl hdl
       subst hcl;subst hdl
       have x1:(s.heap.push { cls := .type "set",dict:=none,data := .set #[] 0 (.fresh 0 0 (zcN w)) }).get? l=some { cls := .type "list",dict:=od,data := .seq items nl,slots:=osl }:=Heap.get?_push_of_some _ hol
       have x2:=PySem.F.sub_list_set
       have x3:=PySem.F.sub_list_frozenset
       have x4:(Value.type "list" == Value.type "dict")=false:=by decide
       have x5:(s.heap.push { cls := .type "set",dict:=none,data := .set #[] 0 (.fresh 0 0 (zcN w)) }).IsList l items:=⟨_,x1,rfl,nl,rfl⟩
       unfold Builtin.«set.__init__» noKeywords Builtin.Frozenset.updateFrom
       generalize hPI:pyIter=PI
       wp_walk
       subst hPI
       refine wpAny_pyIter_list x5 (wpAny_bind (wpAny_runValue ?_))
       have x6:l < s.heap.objs.size:=Heap.lt_size hol
       have x7:A.in1.in1.in1.handled=none:=by simp [hh]
       have x8:l≠(s.heap.push { cls := .type "set",dict:=none,data := .set #[] 0 (.fresh 0 0 (zcN w)) }).objs.size:=by
         rw [Heap.size_push];exact Nat.ne_of_lt (Nat.lt_succ_of_lt x6)
       have x9:s.heap.objs.size∉[(s.heap.push { cls := .type "set",dict:=none,data := .set #[] 0 (.fresh 0 0 (zcN w)) }).objs.size,l]:=by
         rw [Heap.size_push]
         intro z
         rcases List.mem_cons.mp z with z | z
         . omega
         . exact Nat.ne_of_gt x6 (List.mem_singleton.mp z)
       refine zD9 (L:=zcN w) ((Walks.list x7 _ l x8 items).toS) s.heap.objs.size x9 (fun i=>ns.getD i 0) (fun i v hv=>IntsAre.int_at hi i v (by rw [Array.getElem?_toList];exact hv)) hb (items.size - 0) 0 _ (by omega) (Nat.zero_le _)
         ⟨⟨_,Heap.get?_push_size _ rfl,rfl,rfl⟩,(x5.push _)⟩ (zEL (fun q=>q) (Heap.get?_push_of_some _ hS)) ?_
       intro s3 m S3
       obtain ⟨h3,g3,d3,t3,o3⟩:=s3
       obtain rfl:g3=s.gens:=m.gens
       obtain rfl:d3=s.drawn:=m.drawn
       obtain rfl:o3=s.os:=m.os
       refine wpAny_pure (wpAny_pure ⟨rfl,h3,t3,rfl,S3,fun b o hb e=>?_⟩)
       refine m.heap b o (fun z=>?_) (Heap.get?_push_of_some _ (Heap.get?_push_of_some _ e))
       rw [Heap.size_push]at z
       rcases List.mem_cons.mp z with z | z
       . exact Nat.ne_of_lt hb z
       . exact Nat.ne_of_lt (Nat.lt_succ_of_lt hb) (List.mem_singleton.mp z)
     . cases r2 with
       | error e=>exact hr2
       | ok f2 =>
         cases f2 with
         | ret r =>
           obtain ⟨rfl,h',tk,rfl,S',k'⟩:=hr2
           repeat (any_goals (first | assumption | wp_step))
           exact h _ _ S' k'
         | _=>exact hr2.elim
   | _=>exact hr.elim
end
end L2
end
section
namespace L2
open PySem PySem.Spec PyProof.Rows
theorem zeE:Slot "set_iterator" "__next__" "set_iterator.__next__" :=
 .of (owner :="set_iterator") (n :="__next__") (by rw [typeLookup_type,builtinLookup_eq_fast];kernel_rfl) (by decide +kernel) (by decide +kernel) (by decide +kernel) (by first | exact .inl (by decide +kernel) | exact .inr (by decide +kernel)) (by rw [isSubtype_type];kernel_rfl)
theorem ziv:entryFor table "set_iterator.__next__" = some Builtin.«set_iterator.__next__»:=entryFor_of_tree (by kernel_rfl)
theorem ziT (a:Value):argsOk "set_iterator.__next__" ⟨[a],[]⟩:=by unfold argsOk;kernel_rfl
theorem zAa:entryFor table "set.__iter__" = some Builtin.«frozenset.__iter__» :=
 entryFor_alias (id' :="frozenset.__iter__") (by kernel_rfl) rfl (by decide +kernel) (by kernel_rfl)
theorem zth {α:Type} (l:List α) (i:Nat) (hi:i < l.length):(l[i] :: l.eraseIdx i).Perm l:=by
 rw [List.eraseIdx_eq_take_drop_succ]
 have e:l=l.take i++l[i] :: l.drop (i+1):=by rw [<- List.drop_eq_getElem_cons hi,List.take_append_drop]
 exact (List.perm_middle.symm).trans (by rw [<- e])
section
variable {M:Model}{A:Around}{E:Value->Shared->Prop}{s:Shared}
theorem zFw {src:Source}{n:Nat}{Q:Nat->Shared->Prop} (h0:0 < n) (h:∀ i,i < n->Q i { s with drawn:=s.drawn.bump src }):wpAny M A (choose src n) Q E s:=fun Γ p hΓ=>by
 unfold choose
 rw [Sem.wp_choose]
 exact ⟨by omega,h _ (Nat.mod_lt _ h0)⟩
theorem zsj {α:Type} (n:Nat):∀ (xs:List α) {s:Shared}{Q:List α->Shared->Prop},xs.length=n->(∀ ys d,ys.Perm xs->Q ys { s with drawn:=d })->wpAny M A (drawOrder n xs) Q E s:=by
 induction n with
 | zero=>
  intro xs s Q hl h
  cases xs with
  | nil=>unfold drawOrder;exact wpAny_pure (h [] s.drawn .nil)
  | cons x xs=>cases hl
 | succ n ih=>
  intro xs s Q hl h
  cases xs with
  | nil=>cases hl
  | cons x xs=>
   unfold drawOrder
   refine wpAny_bind (zFw (by simp) fun i hi=>?_)
   have ei:(x :: xs)[i]?=some ((x :: xs)[i]):=List.getElem?_eq_getElem hi
   rw [ei]
   dsimp only
   refine wpAny_bind (ih _ (by rw [List.length_eraseIdx_of_lt hi];omega) fun ys d hp=>?_)
   refine wpAny_pure (h _ d ?_)
   exact (hp.cons _).trans (zth _ i hi)
end
end L2
end
section
namespace L2
open PySem PySem.Spec PyProof.Rows
noncomputable def zdx (h:Heap) (it a:Addr) (first:Value) (i n ep:Nat):Prop:=∃ o,h.get? it=some o∧o.cls = .type "set_iterator" ∧ o.data = .fields #[first,.int i 0,.ref a,.int n 0,.int ep 0]
noncomputable def zb3 (h:Heap) (a:Addr) (es:Array (Int×Value)) (ep:Nat) (t:SetTable):Prop:=∃ o,h.get? a=some o∧o.cls = .type "set" ∧ o.data = .set es ep t∧t.fits es.size=true
theorem zdx.keep {h h':Heap}{it a:Addr}{first:Value}{i n ep:Nat} (x:zdx h it a first i n ep) (k:∀ o,h.get? it=some o->h'.get? it=some o):zdx h' it a first i n ep:=let ⟨o,e,r⟩:=x;⟨o,k o e,r⟩
theorem zb3.keep {h h':Heap}{a:Addr}{es:Array (Int×Value)}{ep:Nat}{t:SetTable} (x:zb3 h a es ep t) (k:∀ o,h.get? a=some o->h'.get? a=some o):zb3 h' a es ep t:=let ⟨o,e,r⟩:=x;⟨o,k o e,r⟩
section
variable {P:Program}{w:World}{A:Around}{E:Value->Shared->Prop}{s:Shared}{it a T:Addr}{es:Array (Int×Value)}{ep i slot nx:Nat}{t:SetTable}{x:Value}{Q:Option Value->Shared->Prop}
theorem zdx.typeIs {first:Value}{n:Nat} (h:zdx s.heap it a first i n ep):s.TypeIs (.ref it) "set_iterator":=let ⟨o,e,c,_⟩:=h;⟨o,e,c⟩
theorem zEy (hit:zdx s.heap it a (.int slot 0) i es.size ep) (hs:zb3 s.heap a es ep t) (hn:∀ (R:Option (Value×Nat)->Shared->Prop) E,R (some (x,nx)) s->wpAny (model P w) A.in1 (setNext a slot i ep) R E s)
   (hQ:∀ h',zdx h' it a (.int nx 0) (i+1) es.size ep->Heap.SameBut it s.heap h'->Q (some x) { s with heap:=h' }):wpAny (model P w) A (pyNext (.ref it)) Q E s:=by
 obtain ⟨o,ho,hc,hd⟩:=id hit
 obtain ⟨oa,hoa,hca,hda,hf⟩:=id hs
 unfold pyNext
 refine wpAny_bind (wpAny_attempt (wpAny_callSpecial?_slot (name:=Str.ofString "__next__") hit.typeIs zeE (wpAny_call_entry zeE hit.typeIs ziv ?_ (ziT _))))
 unfold Builtin.«set_iterator.__next__»
 refine wpAny_bind (m:=slotArgs "__next__" 0 _) (wpAny_pure ?_)
 refine wpAny_bind (wpAny_fieldsOf ho hd ?_)
 try dsimp only
 refine wpAny_bind (wpAny_setEntries_of hoa hda hf ?_)
 rw [if_neg (by simp)]
 try dsimp only
 refine wpAny_bind (hn _ _ ?_)
 try dsimp only
 refine wpAny_bind (wpAny_setField ho hd (by simp) ?_)
 have g1:=Heap.get?_update_self (Obj.mapFields (·.setIfInBounds 0 (rawInt nx))) ho (Obj.isFreed_of_fields (Obj.data_mapFields hd _))
 have d1:=Obj.data_mapFields hd (·.setIfInBounds 0 (rawInt nx))
 refine wpAny_bind (wpAny_setField g1 d1 (by simp) ?_)
 have g2:=Heap.get?_update_self (Obj.mapFields (·.setIfInBounds 1 (rawInt ((i:Int)+1)))) g1 (Obj.isFreed_of_fields (Obj.data_mapFields d1 _))
 have d2:=Obj.data_mapFields d1 (·.setIfInBounds 1 (rawInt ((i:Int)+1)))
 refine wpAny_pure ⟨x,rfl,wpAny_pure (hQ _ ⟨_,g2,?_,?_⟩ ((Heap.SameBut.update ..).trans (Heap.SameBut.update ..)))⟩
 . rw [Obj.cls_mapFields,Obj.cls_mapFields];exact hc
 . rw [d2];simp [rawInt]
theorem zt3 (hh:A.handled=none) {first:Value}{o:Obj}{vs:Array Value} (ho:s.heap.get? it=some o) (hd:o.data = .fields vs) (hv:vs.size=5) {R:Value->Shared->Prop}{h1:Heap} (h1e:Heap.ExtBut it s.heap h1)
   (hR:∀ e h',Shared.TypeIs { s with heap:=h' } e "StopIteration" -> Heap.ExtBut it s.heap h'->R e { s with heap:=h' }) :
   wpAny (model P w) A.in1 (do raiseNew (<- newExc (.type "StopIteration") []):Sem Fin) (fun _ _=>False) R { s with heap:=h1 }:=by
 refine wpAny_bind ?_
 simp only [newExc,newTuple]
 refine wpAny_bind (wpAny_newObj_type ?_ (by size_fits))
 refine wpAny_bind (m:=firstArgMember _ _) (wpAny_of_eq (a:=Value.none) (by first | rfl | (simp only [firstArgMember];rfl)) ?_)
 refine wpAny_newObj_type ?_ (by size_fits)
 simp only [raiseNew]
 refine wpAny_bind (wpAny_handled ?_)
 rw [show A.in1.handled=none by exact hh]
 refine wpAny_bind (wpAny_pure (wpAny_throw ?_))
 exact hR _ _ ⟨_,Heap.get?_push_size _ rfl,rfl⟩ ((h1e.push _).push _)
theorem zAA (hh:A.handled=none) (hit:zdx s.heap it a (.int slot 0) i es.size ep) (hs:zb3 s.heap a es ep t) (hn:∀ (R:Option (Value×Nat)->Shared->Prop) E,R none s->wpAny (model P w) A.in1 (setNext a slot i ep) R E s)
   (hQ:∀ h',Heap.ExtBut it s.heap h'->Q none { s with heap:=h' }):wpAny (model P w) A (pyNext (.ref it)) Q E s:=by
 obtain ⟨o,ho,hc,hd⟩:=id hit
 obtain ⟨oa,hoa,hca,hda,hf⟩:=id hs
 unfold pyNext
 refine wpAny_bind (wpAny_attempt (wpAny_callSpecial?_slot (name:=Str.ofString "__next__") hit.typeIs zeE (wpAny_call_entry zeE hit.typeIs ziv ?_ (ziT _))))
 unfold Builtin.«set_iterator.__next__»
 refine wpAny_bind (m:=slotArgs "__next__" 0 _) (wpAny_pure ?_)
 refine wpAny_bind (wpAny_fieldsOf ho hd ?_)
 try dsimp only
 refine wpAny_bind (wpAny_setEntries_of hoa hda hf ?_)
 rw [if_neg (by simp)]
 try dsimp only
 refine wpAny_bind (hn _ _ ?_)
 try dsimp only
 refine wpAny_bind (wpAny_setField ho hd (by simp) ?_)
 refine wpAny_mono (zt3 hh (first := .none) ho hd rfl (Heap.SameBut.update ..).extBut (R:=_) fun e h' te ex=>?_) (fun _ _ z=>z.elim) fun _ _ z=>z
 exact wpAny_bind (wpAny_isInstance te isSubtype_stop (wpAny_pure (hQ h' ex)))
end
end L2
end
section
namespace L2
open PySem PySem.Spec PyProof.Rows
theorem zrM {α:Type} (next:Nat->Nat):∀ (fuel k:Nat) (left:List α) (out:Array α),left.length=fuel->∃ l,l.Perm left∧(pickOrder.go next fuel k left out).toList=out.toList++l
 | 0,k,[],out,h=>⟨[],.nil,by unfold pickOrder.go;simp⟩
 | 0,k,_ :: _,out,h=>by cases h
 | fuel+1,k,left,out,h=>by
   unfold pickOrder.go
   have hi:next k % left.length < left.length:=Nat.mod_lt _ (by omega)
   rw [List.getElem?_eq_getElem hi]
   dsimp only
   obtain ⟨l,h1,h2⟩:=zrM next fuel (k+1) (left.eraseIdx (next k % left.length)) (out.push left[next k % left.length]) (by rw [List.length_eraseIdx_of_lt hi];omega)
   refine ⟨left[next k % left.length] :: l,(h1.cons _).trans (zth _ _ hi),?_⟩
   rw [h2,Array.toList_push,List.append_assoc]
   rfl
theorem zDh {α:Type} (next:Nat->Nat) (xs:Array α):(pickOrder next xs).toList.Perm xs.toList:=by
 obtain ⟨l,h1,h2⟩:=zrM next xs.size 0 xs.toList #[] (by simp)
 unfold pickOrder
 rw [h2]
 simpa using h1
section
variable {P:Program}{w:World}{A:Around}{s:Shared}{a:Addr}{es:Array (Int×Value)}{ep i slot:Nat}{t:SetTable}
theorem zih {E:Value->Shared->Prop}{R:Bool->Shared->Prop} (h:R (w.params.followText "set-order") s):wpAny (model P w) A setsByText R E s:=by
 unfold setsByText
 exact wpAny_bind (wpAny_askSetting (wpAny_pure h))
theorem zAh (ht:w.params.followText "set-order" = true) (hs:zb3 s.heap a es ep t):∀ (R:Option (Value×Nat)->Shared->Prop) E,R (((pickOrder (w.params.setOrder a ep) es)[i]?).map fun e=>(e.2,slot)) s->wpAny (model P w) A (setNext a slot i ep) R E s:=by
 intro R E h
 obtain ⟨oa,hoa,hca,hda,hf⟩:=hs
 unfold setNext
 refine wpAny_bind (wpAny_setState_of hoa hda hf ?_)
 dsimp only
 refine wpAny_bind (zih ?_)
 rw [ht,if_pos rfl,if_neg (by simp)]
 refine wpAny_bind ?_
 unfold setWalk
 refine wpAny_bind (wpAny_setState_of hoa hda hf ?_)
 dsimp only
 refine wpAny_bind (zih ?_)
 rw [ht,if_pos rfl]
 exact wpAny_bind (wpAny_askSetting (wpAny_pure (wpAny_pure h)))
theorem zzW (ht:w.params.followText "set-order" = false) (hp:t.plain=true∨es.size<=1) (hl:t.led=true) (hs:zb3 s.heap a es ep t):∀ (R:Option (Value×Nat)->Shared->Prop) E,
   R (match es[SetTable.below t.place slot]?,t.place[SetTable.below t.place slot]? with | some (_,x),some j=>some (x,j+1) | _,_=>none) s->wpAny (model P w) A (setNext a slot i ep) R E s:=by
 intro R E h
 obtain ⟨oa,hoa,hca,hda,hf⟩:=hs
 unfold setNext
 refine wpAny_bind (wpAny_setState_of hoa hda hf ?_)
 dsimp only
 refine wpAny_bind (zih ?_)
 rw [ht,if_neg (by simp)]
 split
 . rename_i hc
   have hc:(!t.plain && decide (es.size > 1))=true:=hc
   rcases hp with q | q
   . rw [q]at hc;cases hc
   . rw [decide_eq_false (by omega)]at hc;simp at hc
 . refine wpAny_bind ?_
   show wpAny _ _ (if (!t.led && !es.isEmpty)=true then unsupported "set:maker-not-led" else pure ()) _ _ _
   rw [hl,if_neg (by simp)]
   exact wpAny_pure (wpAny_pure h)
noncomputable def zfJ (t:SetTable) (i:Nat):Nat:=if i=0 then 0 else t.place.getD (i - 1) 0+1
theorem zEm (h:zcA t.place) (hi:i<=t.place.size):SetTable.below t.place (zfJ t i)=i:=by
 obtain ⟨h1,h2,h3⟩:=zo3 (j:=zfJ t i) h
 unfold zfJ at *
 by_cases c:i=0
 . subst c
   rw [if_pos rfl]at *
   by_cases d:SetTable.below t.place 0=0
   . exact d
   . have hz:0 < t.place.size:=by omega
     have:=h2 0 _ (by omega) (Array.getElem?_eq_getElem hz)
     omega
 . rw [if_neg c]at *
   have hz:i - 1 < t.place.size:=by omega
   have e1:t.place[i - 1]?=some t.place[i - 1]:=Array.getElem?_eq_getElem hz
   have e2:t.place.getD (i - 1) 0=t.place[i - 1]:=by simp [Array.getD,hz]
   rw [e2]at h1 h2 h3 ⊢
   rcases Nat.lt_trichotomy (SetTable.below t.place (t.place[i - 1]+1)) i with q | q | q
   . exfalso
     have hb:SetTable.below t.place (t.place[i - 1]+1) < t.place.size:=by omega
     have e3:=Array.getElem?_eq_getElem hb
     have z:=h3 _ _ (Nat.le_refl _) e3
     by_cases d:SetTable.below t.place (t.place[i - 1]+1)=i - 1
     . simp only [d]at z;omega
     . have:=h.lt e3 e1 (by omega)
       omega
   . exact q
   . exfalso
     have hb:i < t.place.size:=by omega
     have e3:t.place[i]?=some t.place[i]:=Array.getElem?_eq_getElem hb
     have z:=h2 _ _ q e3
     have:=h.lt e1 e3 (by omega)
     omega
theorem zAQ (ht:w.params.followText "set-order" = false) (hp:t.plain=true∨es.size<=1) (k:zcH (zcN w) t) (hs:zb3 s.heap a es ep t) (hi:i<=es.size):∀ (R:Option (Value×Nat)->Shared->Prop) E,
   R (es[i]?.map fun e=>(e.2,zfJ t (i+1))) s->wpAny (model P w) A (setNext a (zfJ t i) i ep) R E s:=by
 intro R E h
 have hl:t.led=true:=k.led (by unfold zcN;rw [ht];rfl)
 have hsz:t.place.size=es.size:=by
   obtain ⟨_,_,_,_,hf⟩:=hs
   simp only [SetTable.fits,Bool.and_eq_true,beq_iff_eq]at hf
   exact hf.1
 refine zzW ht hp hl hs R E ?_
 rw [zEm k.rise (by omega)]
 by_cases c:i < es.size
 . have c2:i < t.place.size:=by omega
   rw [Array.getElem?_eq_getElem c]at h ⊢
   rw [Array.getElem?_eq_getElem c2]
   have e:zfJ t (i+1)=t.place[i]+1:=by unfold zfJ;simp [Array.getD,c2]
   rw [e]at h
   exact h
 . rw [Array.getElem?_eq_none (by omega)]at h ⊢
   exact h
end
end L2
end
section
namespace L2
open PySem PySem.Spec PyProof.Rows
theorem ztP:Slot "set_iterator" "__iter__" "set_iterator.__iter__" :=
 .of (owner :="set_iterator") (n :="__iter__") (by rw [typeLookup_type,builtinLookup_eq_fast];kernel_rfl) (by decide +kernel) (by decide +kernel) (by decide +kernel) (by first | exact .inl (by decide +kernel) | exact .inr (by decide +kernel)) (by rw [isSubtype_type];kernel_rfl)
theorem zEc:entryFor table "set_iterator.__iter__" = some Builtin.«dict_keyiterator.__iter__» :=
 entryFor_alias (id' :="dict_keyiterator.__iter__") (by kernel_rfl) rfl (by decide +kernel) (by kernel_rfl)
theorem zAT (a:Value):argsOk "set_iterator.__iter__" ⟨[a],[]⟩:=by unfold argsOk;kernel_rfl
noncomputable def zo7 (h:Heap) (T:Addr) (ys:List Nat):Prop:=∃ o n,h.get? T=some o∧o.data = .seq (ys.map fun (k:Nat)=>Value.int k 0).toArray n
section
variable {P:Program}{w:World}{A:Around}{E:Value->Shared->Prop}{s:Shared}{it a T:Addr}{es:Array (Int×Value)}{ep i k:Nat}{t:SetTable}{x:Int×Value}{ys:List Nat}{Q:Option Value->Shared->Prop}
theorem zDD (hit:zdx s.heap it a (.ref T) i es.size ep) (hs:zb3 s.heap a es ep t) (hT:zo7 s.heap T ys) (hy:ys[i]?=some k) (hx:es[k]?=some x)
   (hQ:∀ h',zdx h' it a (.ref T) (i+1) es.size ep->Heap.SameBut it s.heap h'->Q (some x.2) { s with heap:=h' }):wpAny (model P w) A (pyNext (.ref it)) Q E s:=by
 obtain ⟨o,ho,hc,hd⟩:=id hit
 obtain ⟨oa,hoa,hca,hda,hf⟩:=id hs
 obtain ⟨oT,nT,hoT,hdT⟩:=hT
 unfold pyNext
 refine wpAny_bind (wpAny_attempt (wpAny_callSpecial?_slot (name:=Str.ofString "__next__") hit.typeIs zeE (wpAny_call_entry zeE hit.typeIs ziv ?_ (ziT _))))
 unfold Builtin.«set_iterator.__next__»
 refine wpAny_bind (m:=slotArgs "__next__" 0 _) (wpAny_pure ?_)
 refine wpAny_bind (wpAny_fieldsOf ho hd ?_)
 dsimp only
 refine wpAny_bind (wpAny_setEntries_of hoa hda hf ?_)
 rw [if_neg (by simp)]
 try dsimp only
 refine wpAny_bind (wpAny_seqItems hoT hdT ?_)
 dsimp only
 have e1:((ys.map fun (k:Nat)=>Value.int k 0).toArray)[(i:Int).toNat]?=some (.int k 0):=by simp [hy]
 rw [e1]
 dsimp only
 refine wpAny_bind ?_
 unfold setNextDrawn
 refine wpAny_bind (wpAny_setState_of hoa hda hf ?_)
 dsimp only
 rw [if_neg (by simp)]
 have e2:es[(k:Int).toNat]?=some x:=by simpa using hx
 rw [e2]
 refine wpAny_pure ?_
 refine wpAny_bind (wpAny_setField ho hd (by simp) ?_)
 have g1:=Heap.get?_update_self (Obj.mapFields (·.setIfInBounds 1 (rawInt ((i:Int)+1)))) ho (Obj.isFreed_of_fields (Obj.data_mapFields hd _))
 have d1:=Obj.data_mapFields hd (·.setIfInBounds 1 (rawInt ((i:Int)+1)))
 refine wpAny_pure ⟨x.2,rfl,wpAny_pure (hQ _ ⟨_,g1,?_,?_⟩ (Heap.SameBut.update ..))⟩
 . rw [Obj.cls_mapFields];exact hc
 . rw [d1];simp [rawInt]
theorem zEI (hh:A.handled=none) (hit:zdx s.heap it a (.ref T) i es.size ep) (hs:zb3 s.heap a es ep t) (hT:zo7 s.heap T ys) (hy:ys[i]?=none)
   (hQ:∀ h',Heap.ExtBut it s.heap h'->Q none { s with heap:=h' }):wpAny (model P w) A (pyNext (.ref it)) Q E s:=by
 obtain ⟨o,ho,hc,hd⟩:=id hit
 obtain ⟨oa,hoa,hca,hda,hf⟩:=id hs
 obtain ⟨oT,nT,hoT,hdT⟩:=hT
 unfold pyNext
 refine wpAny_bind (wpAny_attempt (wpAny_callSpecial?_slot (name:=Str.ofString "__next__") hit.typeIs zeE (wpAny_call_entry zeE hit.typeIs ziv ?_ (ziT _))))
 unfold Builtin.«set_iterator.__next__»
 refine wpAny_bind (m:=slotArgs "__next__" 0 _) (wpAny_pure ?_)
 refine wpAny_bind (wpAny_fieldsOf ho hd ?_)
 dsimp only
 refine wpAny_bind (wpAny_setEntries_of hoa hda hf ?_)
 rw [if_neg (by simp)]
 try dsimp only
 refine wpAny_bind (wpAny_seqItems hoT hdT ?_)
 dsimp only
 have e1:((ys.map fun (k:Nat)=>Value.int k 0).toArray)[(i:Int).toNat]?=none:=by simpa using hy
 rw [e1]
 dsimp only
 refine wpAny_bind (wpAny_setField ho hd (by simp) ?_)
 have g1:=Heap.get?_update_self (Obj.mapFields (·.setIfInBounds 0 (rawInt 0))) ho (Obj.isFreed_of_fields (Obj.data_mapFields hd _))
 have d1:=Obj.data_mapFields hd (·.setIfInBounds 0 (rawInt 0))
 refine wpAny_bind (wpAny_setField g1 d1 (by simp) ?_)
 refine wpAny_mono (zt3 hh (first := .none) ho hd rfl ((Heap.SameBut.update ..).trans (Heap.SameBut.update ..)).extBut (R:=_) fun e h' te ex=>?_) (fun _ _ z=>z.elim) fun _ _ z=>z
 exact wpAny_bind (wpAny_isInstance te isSubtype_stop (wpAny_pure (hQ h' ex)))
end
theorem zsa {P:Program}{w:World}{A:Around}{E:Value->Shared->Prop}{s:Shared}{it a:Addr}{first:Value}{i n ep:Nat}{Q:Value->Shared->Prop} (hit:zdx s.heap it a first i n ep) (h:Q (.ref it) s):wpAny (model P w) A (pyIter (.ref it)) Q E s:=by
 refine wpAny_pyIter_slot hit.typeIs ztP (wpAny_call_entry ztP hit.typeIs zEc ?_ (zAT _))
 show wpAny (model P w) _ (ret (.ref it)) _ _ s
 exact wpAny_pure ⟨_,rfl, "set_iterator",_,hit.typeIs,zeE.lookup,h⟩
abbrev Gq:Array GenState->Array GenState->Prop:=fun g g'=>g'=g
theorem ziL {it:Addr}{s:Shared}{h':Heap} (k:Heap.ExtBut it s.heap h'):Moved [it] Gq s { s with heap:=h' } :=
 ⟨fun b o hb e=>k b o (fun z=>hb (by simp [z])) e,rfl,rfl,rfl,Nat.le_refl _⟩
theorem zB0 {P:Program}{w:World}{A:Around} (hh:A.handled=none) {it a:Addr} (ne:a≠it) {es:Array (Int×Value)}{ep:Nat}{t:SetTable}{ord:List (Int×Value)} (hl:ord.length=es.size) (sl:Nat->Nat)
   (hn:∀ (B:Around) (s:Shared) (i:Nat),i<=es.size->zb3 s.heap a es ep t->∀ (R:Option (Value×Nat)->Shared->Prop) E,R (ord[i]?.map fun e=>(e.2,sl (i+1))) s->wpAny (model P w) B (setNext a (sl i) i ep) R E s) :
   WalksS P w A it [it,a] [it] Gq es.size (fun i v=>∃ e,ord[i]?=some e∧v=e.2) (fun i s=>zdx s.heap it a (.int (sl i) 0) i es.size ep∧zb3 s.heap a es ep t) where
 sub:=fun b hb=>by simp at hb;simp [hb]
 grefl:=fun _=>rfl
 gtrans:=fun _ _ _ x y=>y.trans x
 frame:=fun i s h' tk st _ hk=>⟨st.1.keep fun o e=>hk it (by simp) o e,st.2.keep fun o e=>hk a (by simp) o e⟩
 item:=fun i s Q E hi st hQ=>by
   have e:ord[i]?=some ord[i]:=List.getElem?_eq_getElem (by omega)
   refine zEy (x:=ord[i].2) (nx:=sl (i+1)) st.1 st.2 (fun R E h=>hn _ s i (by omega) st.2 R E (by rw [e];exact h)) fun h' k1 k2=>?_
   exact hQ _ _ ⟨_,e,rfl⟩ ⟨k1,st.2.keep fun o z=>k2.extBut a o ne z⟩ (ziL k2.extBut)
 done:=fun s Q E st hQ=>zAA hh st.1 st.2 (fun R E h=>hn _ s _ (Nat.le_refl _) st.2 R E (by rw [List.getElem?_eq_none (by omega)];exact h)) fun h' k=>hQ _ (ziL k)
 self:=fun i s Q E st h=>zsa st.1 h
theorem ztL {es:Array (Int×Value)}:∀ (ys:List Nat) (i:Nat),(∀ k∈ys,k < es.size)->(ys.filterMap (es[·]?))[i]?=(ys[i]?).bind (es[·]?)
 | [],i,_=>by simp
 | y :: ys,i,h=>by
   have hy:=h y List.mem_cons_self
   rw [List.filterMap_cons_some (b:=es[y]) (Array.getElem?_eq_getElem hy)]
   cases i with
   | zero=>simp [hy]
   | succ i=>simpa using ztL ys i fun k hk=>h k (List.mem_cons_of_mem _ hk)
theorem zAz {P:Program}{w:World}{A:Around} (hh:A.handled=none) {it a T:Addr} (ne:a≠it) (nT:T≠it) {es:Array (Int×Value)}{ep:Nat}{t:SetTable}{ys:List Nat} (hp:ys.Perm (List.range es.size)) :
   WalksS P w A it [it,a,T] [it] Gq es.size (fun i v=>∃ e,(ys.filterMap (es[·]?))[i]?=some e∧v=e.2) (fun i s=>zdx s.heap it a (.ref T) i es.size ep∧zb3 s.heap a es ep t∧zo7 s.heap T ys) where
 sub:=fun b hb=>by simp at hb;simp [hb]
 grefl:=fun _=>rfl
 gtrans:=fun _ _ _ x y=>y.trans x
 frame:=fun i s h' tk st _ hk=>⟨st.1.keep fun o e=>hk it (by simp) o e,st.2.1.keep fun o e=>hk a (by simp) o e,by
   obtain ⟨o,n,e,d⟩:=st.2.2
   exact ⟨o,n,hk T (by simp) o e,d⟩⟩
 item:=fun i s Q E hi st hQ=>by
   have hl:ys.length=es.size:=by rw [hp.length_eq,List.length_range]
   have e:ys[i]?=some ys[i]:=List.getElem?_eq_getElem (by omega)
   have hm:ys[i] < es.size:=List.mem_range.mp (hp.mem_iff.mp (List.getElem_mem _))
   have e2:es[ys[i]]?=some es[ys[i]]:=Array.getElem?_eq_getElem hm
   have e3:(ys.filterMap (es[·]?))[i]?=some es[ys[i]]:=by
     rw [ztL ys i fun k hk=>List.mem_range.mp (hp.mem_iff.mp hk),e]
     exact e2
   refine zDD st.1 st.2.1 st.2.2 e e2 fun h' k1 k2=>?_
   refine hQ _ _ ⟨_,e3,rfl⟩ ⟨k1,st.2.1.keep fun o z=>k2.extBut a o ne z,?_⟩ (ziL k2.extBut)
   obtain ⟨o,n,q,d⟩:=st.2.2
   exact ⟨o,n,k2.extBut T o nT q,d⟩
 done:=fun s Q E st hQ=>zEI hh st.1 st.2.1 st.2.2 (List.getElem?_eq_none (by rw [hp.length_eq,List.length_range];exact Nat.le_refl _)) fun h' k=>hQ _ (ziL k)
 self:=fun i s Q E st h=>zsa st.1 h
end L2
end
section
namespace L2
open PySem PySem.Spec PyProof.Rows
section
variable {P:Program}{w:World}{A:Around}{E:Value->Shared->Prop}{s:Shared}{a:Addr}{es:Array (Int×Value)}{ep:Nat}{t:SetTable}
theorem zb3.typeIs (hs:zb3 s.heap a es ep t):s.TypeIs (.ref a) "set":=let ⟨o,e,c,_⟩:=hs;⟨o,e,c⟩
noncomputable def zfM (first:Value) (a:Addr) (n ep:Nat):Obj:={ cls := .type "set_iterator",data := .fields #[first,.int 0 0,.ref a,.int n 0,.int ep 0] }
noncomputable def zfm (ys:List Nat):Obj:={ cls := .type "tuple",data := .seq (ys.map fun (k:Nat)=>Value.int k 0).toArray }
theorem zBe {Q:Value->Shared->Prop} (hs:zb3 s.heap a es ep t) (hz:es.size<=sizeLine)
   (hP:(w.params.followText "set-order" = true∨(w.params.followText "set-order" = false∧(t.plain=true∨es.size<=1)))->Q (.ref s.heap.objs.size) { s with heap:=s.heap.push (zfM (.int 0 0) a es.size ep) })
   (hD:∀ ys d,ys.Perm (List.range es.size)->Q (.ref (s.heap.objs.size+1)) { s with heap:=(s.heap.push (zfm ys)).push (zfM (.ref s.heap.objs.size) a es.size ep),drawn:=d }) :
   wpAny (model P w) A (pyIter (.ref a)) Q E s:=by
 obtain ⟨o,ho,hc,hd,hf⟩:=id hs
 refine wpAny_pyIter_slot hs.typeIs PySem.F.slot_set_iter (wpAny_call_entry PySem.F.slot_set_iter hs.typeIs zAa ?_ (PySem.F.args_set_iter_1 _))
 unfold Builtin.«frozenset.__iter__»
 refine wpAny_bind (m:=Builtin.Frozenset.slot0 "__iter__" _) (wpAny_pure ?_)
 unfold Builtin.Frozenset.sizeOf
 refine wpAny_bind (wpAny_bind (wpAny_setEntries_of ho hd hf (wpAny_pure ?_)))
 unfold setDrawn
 refine wpAny_bind (wpAny_bind (wpAny_setState_of ho hd hf ?_))
 dsimp only
 refine wpAny_bind (zih (wpAny_pure ?_))
 split
 . refine wpAny_bind (zsj es.size _ (by simp) fun ys d hp=>?_)
   have hl:ys.length=es.size:=by rw [hp.length_eq,List.length_range]
   refine wpAny_bind (wpAny_newObj_type (T :="tuple") ?_ (by show (ys.map fun (k:Nat)=>rawInt k).toArray.size<=sizeLine;simp [hl];exact hz))
   have ho1:(s.heap.push (zfm ys)).get? a=some o:=Heap.get?_push_of_some _ ho
   refine wpAny_bind (wpAny_setEpoch_of (s:={ s with heap:=s.heap.push (zfm ys),drawn:=d }) ho1 hd hf ?_)
   refine wpAny_bind (wpAny_newObj_type (T :="set_iterator") (wpAny_pure ⟨_,rfl, "set_iterator",_,⟨_,Heap.get?_push_size _ rfl,rfl⟩,zeE.lookup,?_⟩))
   have:=hD ys d hp
   have e:(s.heap.push (zfm ys)).objs.size=s.heap.objs.size+1:=size_push' _ _
   rw [<- e]at this
   exact this
 . rename_i hc
   have hc:¬ ((!(w.params.followText "set-order") && (!t.plain && decide (es.size > 1)))=true):=hc
   refine wpAny_bind (wpAny_pure ?_)
   refine wpAny_bind (wpAny_setEpoch_of ho hd hf ?_)
   refine wpAny_bind (wpAny_newObj_type (T :="set_iterator") (wpAny_pure ⟨_,rfl, "set_iterator",_,⟨_,Heap.get?_push_size _ rfl,rfl⟩,zeE.lookup,?_⟩))
   refine hP ?_
   cases hw:w.params.followText "set-order" with
   | true=>exact .inl rfl
   | false =>
     rw [hw]at hc
     refine .inr ⟨rfl,?_⟩
     cases hp:t.plain with
     | true=>exact .inl rfl
     | false =>
       rw [hp]at hc
       simp at hc
       exact .inr hc
end
end L2
end
section
namespace L2
open PySem PySem.Spec PyProof.Rows
section
variable {P:Program}{w:World}{A:Around}{E:Value->Shared->Prop}{s:Shared}{a:Addr}
theorem zuf {R:Bool->Shared->Prop} (hT:s.TypeIs (.ref a) "set") (h:R false s):wpAny (model P w) A (Builtin.List.listLengthHint (.ref a)) R E s:=by
 unfold Builtin.List.listLengthHint
 refine wpAny_bind (wpAny_specialOf hT PySem.F.slot_set_len.lookup ?_)
 have e1:splitId "set.__len__" = some ("set", "__len__"):=by decide +kernel
 dsimp only
 rw [e1]
 dsimp only
 refine wpAny_bind (wpAny_isInstance hT sub_set_self ?_)
 rw [if_neg (show ¬ ((!true)=true) by decide)]
 refine iteInduction (motive:=fun m=>wpAny (model P w) A m R E s) (fun _=>?_) (fun hc=>absurd (by decide +kernel) hc)
 refine wpAny_bind (wpAny_typeOf hT ?_)
 exact wpAny_pure h
noncomputable def zU (xs:Array Value) (c:Nat):Obj:={ cls := .type "list",dict:=none,data := .seq xs c,slots:=#[] }
theorem zpH {I L:Addr}{fp wr:List Addr}{n:Nat}{V:Nat->Value->Prop}{St:Nat->Shared->Prop}{R:Result->Shared->Prop} (W:WalksS P w A.in1 I fp wr Gq n V St) (hst:St 0 s) (hL:s.heap.get? L=some (zU #[] 0)) (hf:L∉fp) (hn:n<=sizeLine)
   (hR:∀ s' acc c,Moved (L :: wr) Gq s s'->s'.heap.get? L=some (zU acc c)->ItemsOf V acc n->R (.ok (.ret (.ref L))) s') (b:Bool) (hb:b=true) {Q:Fin->Shared->Prop}
   (hQ:∀ s',codeAny (model P w) A (.builtin "list.extend.loop" ⟨[.ref L,.ref I,.ref L],[]⟩) R s'->Q (.again (.builtin "list.extend.loop" ⟨[.ref L,.ref I,.ref L],[]⟩)) s') :
   wpAny (model P w) A.in1 (do
     if b=true then do rule "list.extend.makes-room";Builtin.List.listTouch (.ref L)
     again (.builtin "list.extend.loop" ⟨[.ref L,.ref I,.ref L],[]⟩)) Q E s:=by
 subst hb
 rw [if_pos rfl]
 refine wpAny_bind (wpAny_rule ?_)
 refine wpAny_bind ?_
 show wpAny _ A.in1 (updateSeq L (·.push .none) >>= fun _=>updateSeq L (·.pop)) _ _ _
 refine wpAny_bind (wpAny_updateSeq hL rfl ?_)
 have h2:=Heap.get?_update_self (Obj.mapSeq (·.push Value.none)) hL rfl
 refine wpAny_updateSeq h2 rfl ?_
 have h3:=Heap.get?_update_self (Obj.mapSeq (·.pop)) h2 rfl
 have oth:∀ b o,b≠L->s.heap.get? b=some o->((s.heap.update L (Obj.mapSeq (·.push Value.none))).update L (Obj.mapSeq (·.pop))).get? b=some o :=
   fun b o hb e=>(Heap.get?_update_other _ _ (Ne.symm hb)).trans ((Heap.get?_update_other _ _ (Ne.symm hb)).trans e)
 refine wpAny_pure (hQ _ ?_)
 refine codeAny_extend_loopS W hn L hf _ n 0 _ _ _ rfl (Nat.zero_le _) (W.frame 0 s _ s.toks hst (Nat.le_refl _) fun b hb o e=>oth b o (fun z=>hf (z ▸ hb)) e) h3 (ItemsOf.nil V) fun s' acc c m e i=>?_
 exact hR s' acc c (Moved.trans W.gtrans ((Moved.refl W.grefl).then_heap (Nat.le_refl _) fun b o hb e=>oth b o (fun z=>hb (z ▸ List.mem_cons_self)) e) m) e i
end
end L2
end
section
namespace L2
open PySem PySem.Spec PyProof.Rows
theorem zAr {ord:List (Int×Value)}{acc:Array Value}{n:Nat} (hl:ord.length=n) (h:ItemsOf (fun i v=>∃ e,ord[i]?=some e∧v=e.2) acc n):acc.toList=ord.map (·.2):=by
 apply List.ext_getElem?
 intro i
 rw [Array.getElem?_toList,List.getElem?_map]
 by_cases c:i < n
 . have hi:i < acc.size:=by rw [h.1];exact c
   have e:=Array.getElem?_eq_getElem hi
   obtain ⟨x,h1,h2⟩:=h.2 i _ e
   rw [e,h1,h2];rfl
 . rw [Array.getElem?_eq_none (by rw [h.1];omega),List.getElem?_eq_none (by omega)];rfl
section
variable {P:Program}{w:World}{A:Around}{E:Value->Shared->Prop}{s:Shared}{a:Addr}{ns:List Int}
theorem zEV {Q:List Value->Shared->Prop} (hh:A.handled=none) (S:zcT P w (zcN w) s.heap a ns) (hb:ns.length < 4000)
   (hQ:∀ s' vs ms,(∀ b o,s.heap.get? b=some o->s'.heap.get? b=some o)->s.heap.objs.size<=s'.heap.objs.size->s'.gens=s.gens->s'.os=s.os->IntsAre vs ms->ms.Perm ns->Q vs s') :
   wpAny (model P w) A (collect (.ref a)) Q E s:=by
 obtain ⟨o,es,ep,t,ho,hex,hd,hel,hsb,hf,hT,ms,hI,hp⟩:=S
 have hsz:es.size=ns.length:=by rw [<- hp.length_eq,<- hI.length,List.length_map,Array.length_toList]
 have hln:es.size<=sizeLine:=by rw [sizeLine_eq];omega
 have hs:zb3 s.heap a es ep t:=⟨o,ho,hex.1,hd,hf⟩
 have ha:a < s.heap.objs.size:=Heap.lt_size ho
 have hh1:A.in1.handled=none:=hh
 unfold collect
 refine wpAny_bind (wpAny_runValue (codeAny_builtin PySem.F.entry_proto_collect ?_))
 rw [Around.under_plainId PySem.F.plain_proto_collect _]
 show wpAny _ A.in1 (newList [] >>= fun l=>again (.builtin "list.__iadd__" ⟨[l,.ref a],[]⟩)) _ _ s
 refine wpAny_bind (wpAny_newObj_type ?_)
 refine wpAny_pure ⟨plainId_quiet PySem.F.plain_list_iadd _,codeAny_builtin PySem.F.entry_list_iadd ?_⟩
 rw [Around.under_plainId PySem.F.plain_list_iadd _]
 have hs1:zb3 (s.heap.push (zU #[] 0)) a es ep t:=hs.keep fun o e=>Heap.get?_push_of_some _ e
 have hz1:(s.heap.push (zU #[] 0)).objs.size=s.heap.objs.size+1:=size_push' _ _
 have hL1:(s.heap.push (zU #[] 0)).get? s.heap.objs.size=some (zU #[] 0):=Heap.get?_push_size _ rfl
 show wpAny _ A.in1 (Builtin.List.listExtendWith (.ref s.heap.objs.size) (.ref a) (.ref s.heap.objs.size)) _ _ { s with heap:=s.heap.push (zU #[] 0) }
 unfold Builtin.List.listExtendWith
 refine wpAny_bind (wpAny_typeOf (T :="set") (s:={ s with heap:=s.heap.push (zU #[] 0) }) (zb3.typeIs hs1) ?_)
 have q1:Builtin.List.listSameRef (.ref s.heap.objs.size) (.ref a)=false:=by simp [Builtin.List.listSameRef];exact Nat.ne_of_gt ha
 have q2:(Value.type "set" == Value.type "list")=false:=by decide
 have q3:(Value.type "set" == Value.type "tuple")=false:=by decide
 rw [q1,q2,q3,if_neg (by decide)]
 have tail:∀ (s':Shared) (acc:Array Value) (c:Nat) (ord:List (Int×Value)),ord.Perm es.toList->(∀ b o,s.heap.get? b=some o->s'.heap.get? b=some o)->s'.gens=s.gens->s'.os=s.os ->
     s'.heap.get? s.heap.objs.size=some (zU acc c)->ItemsOf (fun i v=>∃ e,ord[i]?=some e∧v=e.2) acc es.size->Q acc.toList s':=fun s' acc c ord pm k g os e i=>by
   have hlo:ord.length=es.size:=by rw [pm.length_eq,Array.length_toList]
   have em:=zAr hlo i
   obtain ⟨ks,k1,k2⟩:=zpm (pm.map (·.2)) hI
   rw [em]
   exact hQ s' _ ks k (Nat.le_of_lt (Heap.lt_size e)) g os k1 (k2.trans hp)
 have mvk:∀ {I:Addr} {s1 s2:Shared} (h1:Heap),s1.heap=h1->(∀ b o,s.heap.get? b=some o->h1.get? b=some o)->s.heap.objs.size < I->Moved [s.heap.objs.size,I] Gq s1 s2->∀ b o,s.heap.get? b=some o->s2.heap.get? b=some o:=fun {I s1 s2} h1 e k hI m b o eb=>by
   have hlt:b < s.heap.objs.size:=Heap.lt_size eb
   refine m.heap b o (fun z=>?_) (by rw [e];exact k b o eb)
   rcases List.mem_cons.mp z with z | z
   . exact Nat.ne_of_lt hlt z
   . exact Nat.ne_of_lt (Nat.lt_trans hlt hI) (List.mem_singleton.mp z)
 refine wpAny_bind (zBe (s:={ s with heap:=s.heap.push (zU #[] 0) }) hs1 hln (fun hm=>?_) (fun ys d hy=>?_))
 . obtain ⟨ord,sl,pm,h0,hn⟩:∃ (ord:List (Int×Value)) (sl:Nat->Nat),ord.Perm es.toList∧sl 0=0 ∧
       (∀ (B:Around) (s:Shared) (i:Nat),i<=es.size->zb3 s.heap a es ep t->∀ (R:Option (Value×Nat)->Shared->Prop) E,R (ord[i]?.map fun e=>(e.2,sl (i+1))) s->wpAny (model P w) B (setNext a (sl i) i ep) R E s):=by
     rcases hm with ht | ⟨ht,hpl⟩
     . exact ⟨_,(fun _=>0),zDh (w.params.setOrder a ep) es,rfl,fun B s i hi hs R E h=>zAh ht hs R E (by rw [<- Array.getElem?_toList];exact h)⟩
     . exact ⟨es.toList,zfJ t,.refl _,rfl,fun B s i hi hs R E h=>zAQ ht hpl hT hs hi R E (by rw [<- Array.getElem?_toList];exact h)⟩
   have hlo:ord.length=es.size:=by rw [pm.length_eq,Array.length_toList]
   have hI:a≠(s.heap.push (zU #[] 0)).objs.size:=by rw [hz1];exact Nat.ne_of_lt (Nat.lt_succ_of_lt ha)
   have hs2:zb3 ((s.heap.push (zU #[] 0)).push (zfM (.int 0 0) a es.size ep)) a es ep t:=hs1.keep fun o e=>Heap.get?_push_of_some _ e
   refine wpAny_bind (wpAny_holding (zuf (zb3.typeIs (s:={ s with heap:=(s.heap.push (zU #[] 0)).push (zfM (.int 0 0) a es.size ep) }) hs2) ?_))
   refine zpH (L:=s.heap.objs.size) (zB0 hh1 hI hlo sl hn) ⟨⟨_,Heap.get?_push_size _ rfl,rfl,by rw [h0];rfl⟩,hs2⟩ (Heap.get?_push_of_some _ hL1) ?_ hln (fun s' acc c m e i=>?_) _ (by decide +kernel) (fun s' h=>⟨plainId_quiet PySem.F.plain_extend_loop _,h⟩)
   . intro z
     rw [hz1]at z
     rcases List.mem_cons.mp z with z | z
     . exact absurd z (Nat.ne_of_lt (Nat.lt_succ_self _))
     . exact Nat.ne_of_gt ha (List.mem_singleton.mp z)
   . refine wpAny_bind (m:=load s.heap.objs.size) (wpAny_load e (wpAny_pure (tail s' acc c ord pm (mvk _ rfl (fun b o q=>Heap.get?_push_of_some _ (Heap.get?_push_of_some _ q)) (by rw [hz1];exact Nat.lt_succ_self _) m) ?_ ?_ e i)))
     . exact m.gens
     . exact m.os
 . have hz2:((s.heap.push (zU #[] 0)).push (zfm ys)).objs.size=s.heap.objs.size+1+1:=by rw [size_push',hz1]
   have n1:a≠(s.heap.push (zU #[] 0)).objs.size+1:=by rw [hz1];exact Nat.ne_of_lt (Nat.lt_succ_of_lt (Nat.lt_succ_of_lt ha))
   have n2:(s.heap.push (zU #[] 0)).objs.size≠(s.heap.push (zU #[] 0)).objs.size+1:=Nat.ne_of_lt (Nat.lt_succ_self _)
   have hs2:zb3 (((s.heap.push (zU #[] 0)).push (zfm ys)).push (zfM (.ref (s.heap.push (zU #[] 0)).objs.size) a es.size ep)) a es ep t:=hs1.keep fun o e=>Heap.get?_push_of_some _ (Heap.get?_push_of_some _ e)
   have hit:(((s.heap.push (zU #[] 0)).push (zfm ys)).push (zfM (.ref (s.heap.push (zU #[] 0)).objs.size) a es.size ep)).get? ((s.heap.push (zU #[] 0)).objs.size+1)=some (zfM (.ref (s.heap.push (zU #[] 0)).objs.size) a es.size ep):=by
     have e:(s.heap.push (zU #[] 0)).objs.size+1=((s.heap.push (zU #[] 0)).push (zfm ys)).objs.size:=by rw [hz2,hz1]
     rw [e];exact Heap.get?_push_size _ rfl
   refine wpAny_bind (wpAny_holding (zuf (zb3.typeIs (s:={ s with heap:=((s.heap.push (zU #[] 0)).push (zfm ys)).push (zfM (.ref (s.heap.push (zU #[] 0)).objs.size) a es.size ep),drawn:=d }) hs2) ?_))
   refine zpH (L:=s.heap.objs.size) (zAz hh1 n1 n2 hy) ⟨⟨_,hit,rfl,rfl⟩,hs2,_,_,Heap.get?_push_of_some _ (Heap.get?_push_size _ rfl),rfl⟩ (Heap.get?_push_of_some _ (Heap.get?_push_of_some _ hL1)) ?_ hln (fun s' acc c m e i=>?_) _ (by decide +kernel) (fun s' h=>⟨plainId_quiet PySem.F.plain_extend_loop _,h⟩)
   . intro z
     rw [hz1]at z
     rcases List.mem_cons.mp z with z | z
     . exact absurd z (Nat.ne_of_lt (Nat.lt_succ_of_lt (Nat.lt_succ_self _)))
     . rcases List.mem_cons.mp z with z | z
       . exact Nat.ne_of_gt ha z
       . exact absurd (List.mem_singleton.mp z) (Nat.ne_of_lt (Nat.lt_succ_self _))
   . have pm:(ys.filterMap (es[·]?)).Perm es.toList:=(hy.filterMap _).trans (by rw [filterMap_getElem?_range])
     refine wpAny_bind (m:=load s.heap.objs.size) (wpAny_load e (wpAny_pure (tail s' acc c _ pm (mvk _ rfl (fun b o q=>Heap.get?_push_of_some _ (Heap.get?_push_of_some _ (Heap.get?_push_of_some _ q))) (by rw [hz1];exact Nat.lt_succ_of_lt (Nat.lt_succ_self _)) m) ?_ ?_ e i)))
     . exact m.gens
     . exact m.os
end
end L2
end
section
namespace MI
open PySem PySem.Spec L2
structure GP where
 K:PySem.W.Frag
 cm:List Addr
 an:List Str
structure GP.Ok (G:GP) (sub att:Nat->Nat->Bool):Prop where
 cls:∀ (c:Nat) C,G.cm[c]?=some C->Cls G.K C∧ztr G.K C
 noat:∀ (c:Nat) C (k:Nat) f,G.cm[c]?=some C->att c k=true->G.an[k]?=some f->zb4 G.K C f
 nd:G.an.Nodup
 isa:∀ (c c':Nat) C C',G.cm[c]?=some C->G.cm[c']?=some C'->Isa G.K C C' (sub c c')
mutual
noncomputable def RD (ρ:List Addr) (H:Hp):D->V->Prop
 | .non,v=>v = .non
 | .bl b,v=>v = .bl b
 | .int i,v=>v = .int i
 | .str x,v=>v = .str x
 | .tup ds,v=>∃ a vs,v = .ref a∧H a=some (.tup vs)∧RDs ρ H ds vs
 | .obj n,v=>∃ a,v = .ref a∧ρ[n]?=some a
noncomputable def RDs (ρ:List Addr) (H:Hp):List D->List V->Prop
 | [],vs=>vs=[]
 | d :: ds,vs=>∃ x r,vs=x :: r∧RD ρ H d x∧RDs ρ H ds r
end
structure Ext (F:Addr->Prop) (ρ ρ1:List Addr) (H H1:Hp):Prop where
 pre:∃ t,ρ1=ρ++t
 tup:∀ b xs,H b=some (.tup xs)->H1 b=some (.tup xs)
 frm:∀ b,F b->H1 b=H b
theorem Ext.refl {F:Addr->Prop}{ρ:List Addr}{H:Hp}:Ext F ρ ρ H H:=⟨⟨[],by simp⟩,fun _ _ h=>h,fun _ _=>rfl⟩
theorem Ext.trans {F:Addr->Prop}{ρ ρ1 ρ2:List Addr}{H H1 H2:Hp} (a:Ext F ρ ρ1 H H1) (b:Ext F ρ1 ρ2 H1 H2):Ext F ρ ρ2 H H2:=by
 obtain ⟨t,rfl⟩:=a.pre
 obtain ⟨u,rfl⟩:=b.pre
 exact ⟨⟨t++u,by simp⟩,fun c xs h=>b.tup c xs (a.tup c xs h),fun c hc=>(b.frm c hc).trans (a.frm c hc)⟩
theorem Ext.get {F:Addr->Prop}{ρ ρ1:List Addr}{H H1:Hp} (e:Ext F ρ ρ1 H H1) {n:Nat}{a:Addr} (h:ρ[n]?=some a):ρ1[n]?=some a:=by
 obtain ⟨t,rfl⟩:=e.pre
 rw [List.getElem?_append_left (List.getElem?_eq_some_iff.mp h).1];exact h
mutual
theorem RD.ext {F:Addr->Prop}{ρ ρ1:List Addr}{H H1:Hp} (e:Ext F ρ ρ1 H H1):∀ (d:D) (v:V),RD ρ H d v->RD ρ1 H1 d v
 | .non,v,h=>by unfold RD at h ⊢;exact h
 | .bl b,v,h=>by unfold RD at h ⊢;exact h
 | .int i,v,h=>by unfold RD at h ⊢;exact h
 | .str x,v,h=>by unfold RD at h ⊢;exact h
 | .tup ds,v,h=>by
   unfold RD at h ⊢
   obtain ⟨a,vs,h1,h2,h3⟩:=h
   exact ⟨a,vs,h1,e.tup _ _ h2,RDs.ext e ds vs h3⟩
 | .obj n,v,h=>by
   unfold RD at h ⊢
   obtain ⟨a,h1,h2⟩:=h
   exact ⟨a,h1,e.get h2⟩
theorem RDs.ext {F:Addr->Prop}{ρ ρ1:List Addr}{H H1:Hp} (e:Ext F ρ ρ1 H H1):∀ (ds:List D) (vs:List V),RDs ρ H ds vs->RDs ρ1 H1 ds vs
 | [],vs,h=>by unfold RDs at h ⊢;exact h
 | d :: ds,vs,h=>by
   unfold RDs at h ⊢
   obtain ⟨x,r,h1,h2,h3⟩:=h
   exact ⟨x,r,h1,RD.ext e d x h2,RDs.ext e ds r h3⟩
end
mutual
noncomputable def D.bd (n:Nat):D->Prop
 | .obj m=>m < n
 | .tup ds=>bds n ds
 | _=>True
noncomputable def bds (n:Nat):List D->Prop
 | []=>True
 | d :: r=>d.bd n∧bds n r
end
mutual
theorem RD.bd {ρ:List Addr}{H:Hp}:∀ (d:D) (v:V),RD ρ H d v->d.bd ρ.length
 | .non,v,h=>by simp [D.bd]
 | .bl b,v,h=>by simp [D.bd]
 | .int i,v,h=>by simp [D.bd]
 | .str x,v,h=>by simp [D.bd]
 | .tup ds,v,h=>by
   unfold RD at h;unfold D.bd
   obtain ⟨a,vs,h1,h2,h3⟩:=h
   exact RDs.bd ds vs h3
 | .obj n,v,h=>by
   unfold RD at h;unfold D.bd
   obtain ⟨a,h1,h2⟩:=h
   exact (List.getElem?_eq_some_iff.mp h2).1
theorem RDs.bd {ρ:List Addr}{H:Hp}:∀ (ds:List D) (vs:List V),RDs ρ H ds vs->bds ρ.length ds
 | [],vs,h=>by simp [bds]
 | d :: ds,vs,h=>by
   unfold RDs at h;unfold bds
   obtain ⟨x,r,h1,h2,h3⟩:=h
   exact ⟨RD.bd d x h2,RDs.bd ds r h3⟩
end
mutual
theorem D.nr_bd {n:Nat}:∀ (d:D),d.nr=true->d.bd n
 | .non,h=>by simp [D.bd]
 | .bl b,h=>by simp [D.bd]
 | .int i,h=>by simp [D.bd]
 | .str x,h=>by simp [D.bd]
 | .tup ds,h=>by unfold D.nr at h;unfold D.bd;exact zp9 ds h
 | .obj n,h=>by simp [D.nr]at h
theorem zp9 {n:Nat}:∀ (ds:List D),nrs ds=true->bds n ds
 | [],h=>by simp [bds]
 | d :: ds,h=>by
   unfold nrs at h;unfold bds
   rw [Bool.and_eq_true]at h
   exact ⟨D.nr_bd d h.1,zp9 ds h.2⟩
end
mutual
theorem RD.cut {ρ ρ1:List Addr}{H:Hp}{n:Nat} (e:∀ m,m < n->ρ1[m]?=ρ[m]?):∀ (d:D) (v:V),d.bd n->RD ρ H d v->RD ρ1 H d v
 | .non,v,_,h=>by unfold RD at h ⊢;exact h
 | .bl b,v,_,h=>by unfold RD at h ⊢;exact h
 | .int i,v,_,h=>by unfold RD at h ⊢;exact h
 | .str x,v,_,h=>by unfold RD at h ⊢;exact h
 | .tup ds,v,b,h=>by
   unfold RD at h ⊢;unfold D.bd at b
   obtain ⟨a,vs,h1,h2,h3⟩:=h
   exact ⟨a,vs,h1,h2,RDs.cut e ds vs b h3⟩
 | .obj m,v,b,h=>by
   unfold RD at h ⊢;unfold D.bd at b
   obtain ⟨a,h1,h2⟩:=h
   exact ⟨a,h1,by rw [e m b];exact h2⟩
theorem RDs.cut {ρ ρ1:List Addr}{H:Hp}{n:Nat} (e:∀ m,m < n->ρ1[m]?=ρ[m]?):∀ (ds:List D) (vs:List V),bds n ds->RDs ρ H ds vs->RDs ρ1 H ds vs
 | [],vs,_,h=>by unfold RDs at h ⊢;exact h
 | d :: ds,vs,b,h=>by
   unfold RDs at h ⊢;unfold bds at b
   obtain ⟨x,r,h1,h2,h3⟩:=h
   exact ⟨x,r,h1,RD.cut e d x b.1 h2,RDs.cut e ds r b.2 h3⟩
end
section
variable {ρ:List Addr}{H:Hp}
theorem RDs.length:∀ {ds:List D}{vs:List V},RDs ρ H ds vs->ds.length=vs.length
 | [],vs,h=>by unfold RDs at h;subst h;rfl
 | d :: ds,vs,h=>by
   unfold RDs at h
   obtain ⟨x,r,h1,h2,h3⟩:=h
   subst h1;simp [RDs.length h3]
theorem RDs.get:∀ {ds:List D}{vs:List V}{i:Nat}{d:D},RDs ρ H ds vs->ds[i]?=some d->∃ v,vs[i]?=some v∧RD ρ H d v
 | [],vs,i,d,h,e=>by simp at e
 | x :: ds,vs,i,d,h,e=>by
   unfold RDs at h
   obtain ⟨y,r,h1,h2,h3⟩:=h
   subst h1
   cases i with
   | zero=>simp at e;subst e;exact ⟨y,rfl,h2⟩
   | succ i =>
     obtain ⟨v,e1,e2⟩:=RDs.get (i:=i) h3 (by simpa using e)
     exact ⟨v,by simpa using e1,e2⟩
theorem RDs.nil:RDs ρ H [] []:=by unfold RDs;rfl
theorem RDs.cons {d:D}{v:V}{ds:List D}{vs:List V} (h:RD ρ H d v) (hs:RDs ρ H ds vs):RDs ρ H (d :: ds) (v :: vs):=by
 unfold RDs;exact ⟨v,vs,rfl,h,hs⟩
theorem RDs.append {ds2:List D}{vs2:List V} (h:RDs ρ H ds2 vs2):∀ {ds:List D}{vs:List V},RDs ρ H ds vs->RDs ρ H (ds++ds2) (vs++vs2)
 | [],vs,hs=>by unfold RDs at hs;subst hs;exact h
 | d :: ds,vs,hs=>by
   unfold RDs at hs
   obtain ⟨y,r,h1,h2,h3⟩:=hs
   subst h1
   exact RDs.cons h2 (RDs.append h h3)
theorem RDs.snoc {d:D}{v:V}{ds:List D}{vs:List V} (hs:RDs ρ H ds vs) (h:RD ρ H d v):RDs ρ H (ds++[d]) (vs++[v]):=RDs.append (RDs.cons h RDs.nil) hs
theorem RDs.take:∀ (n:Nat) {ds:List D}{vs:List V},RDs ρ H ds vs->RDs ρ H (ds.take n) (vs.take n)
 | 0,_,_,h=>by simp;exact RDs.nil
 | n+1,[],vs,h=>by unfold RDs at h;subst h;simp;exact RDs.nil
 | n+1,d :: ds,vs,h=>by
   unfold RDs at h
   obtain ⟨y,r,h1,h2,h3⟩:=h
   subst h1
   exact RDs.cons h2 (RDs.take n h3)
theorem RDs.drop:∀ (n:Nat) {ds:List D}{vs:List V},RDs ρ H ds vs->RDs ρ H (ds.drop n) (vs.drop n)
 | 0,_,_,h=>h
 | n+1,[],vs,h=>by unfold RDs at h;subst h;simp;exact RDs.nil
 | n+1,d :: ds,vs,h=>by
   unfold RDs at h
   obtain ⟨y,r,h1,h2,h3⟩:=h
   subst h1
   exact RDs.drop n h3
theorem RDs.reverse:∀ {ds:List D}{vs:List V},RDs ρ H ds vs->RDs ρ H ds.reverse vs.reverse
 | [],vs,h=>by unfold RDs at h;subst h;simp;exact RDs.nil
 | d :: ds,vs,h=>by
   unfold RDs at h
   obtain ⟨y,r,h1,h2,h3⟩:=h
   subst h1
   rw [List.reverse_cons,List.reverse_cons]
   exact RDs.snoc (RDs.reverse h3) h2
theorem RDs.set {d:D}{v:V} (h:RD ρ H d v):∀ (i:Nat) {ds:List D}{vs:List V},RDs ρ H ds vs->RDs ρ H (ds.set i d) (vs.set i v)
 | _,[],vs,hs=>by unfold RDs at hs;subst hs;simp;exact RDs.nil
 | 0,x :: ds,vs,hs=>by
   unfold RDs at hs
   obtain ⟨y,r,h1,h2,h3⟩:=hs
   subst h1
   exact RDs.cons h h3
 | i+1,x :: ds,vs,hs=>by
   unfold RDs at hs
   obtain ⟨y,r,h1,h2,h3⟩:=hs
   subst h1
   exact RDs.cons h2 (RDs.set h i h3)
theorem RDs.ints:∀ ns:List Int,RDs ρ H (ns.map D.int) (ns.map V.int)
 | []=>by simp;exact RDs.nil
 | n :: r=>RDs.cons (by unfold RD;rfl) (RDs.ints r)
theorem RDs.of_ints:∀ {ds:List D}{ns:List Int}{vs:List V},zcl ds=some ns->RDs ρ H ds vs->vs=ns.map V.int
 | [],ns,vs,e,h=>by
   unfold RDs at h;subst h
   simp [zcl]at e;subst e;rfl
 | d :: ds,ns,vs,e,h=>by
   unfold RDs at h
   obtain ⟨y,r,h1,h2,h3⟩:=h
   cases d with
   | int i =>
     rw [zcl,Option.map_eq_some_iff]at e
     obtain ⟨ms,e1,rfl⟩:=e
     unfold RD at h2
     subst h1 h2
     rw [RDs.of_ints e1 h3];rfl
   | _=>simp [zcl]at e
theorem RDs.of_bools:∀ {ds:List D}{ns:List Bool}{vs:List V},zcI ds=some ns->RDs ρ H ds vs->vs=ns.map V.bl
 | [],ns,vs,e,h=>by
   unfold RDs at h;subst h
   simp [zcI]at e;subst e;rfl
 | d :: ds,ns,vs,e,h=>by
   unfold RDs at h
   obtain ⟨y,r,h1,h2,h3⟩:=h
   cases d with
   | bl i =>
     rw [zcI,Option.map_eq_some_iff]at e
     obtain ⟨ms,e1,rfl⟩:=e
     unfold RD at h2
     subst h1 h2
     rw [RDs.of_bools e1 h3];rfl
   | _=>simp [zcI]at e
end
noncomputable def KRs (ρ:List Addr) (H:Hp):List (Int×D)->List (Key×V)->Prop
 | [],vs=>vs=[]
 | p :: r,vs=>∃ v q,vs=(Sum.inl p.1,v) :: q∧RD ρ H p.2 v∧KRs ρ H r q
noncomputable def FRs (G:GP) (ρ:List Addr) (H:Hp) (C:Addr):List (Nat×D)->List (Str×V)->Prop
 | [],vs=>vs=[]
 | p :: r,vs=>∃ f v q,vs=(f,v) :: q∧G.an[p.1]?=some f∧zb4 G.K C f∧RD ρ H p.2 v∧FRs G ρ H C r q
noncomputable def KL (K:PySem.W.Frag) (a:Addr) (xs:List V):Prop :=
 ∃ (o:Obj) (its:Array Value) (n:Nat),K.lookup a=some o∧o.cls = .type "list" ∧ o.dict=none∧o.data = .seq its n∧its.size<=sizeLine∧zA xs its.toList
noncomputable def RO (G:GP) (ρ:List Addr) (H:Hp) (a:Addr):O->Prop
 | .lst xs=>∃ vs,H a=some (.lst vs)∧RDs ρ H xs vs
 | .scr xs=>∃ vs,((∃ o,H a=some (.frz o (.lst vs)))∨KL G.K a vs)∧RDs ρ H xs vs
 | .dic kvs=>∃ vs,H a=some (.dK vs)∧KRs ρ H kvs vs
 | .hole=>True
 | .set xs=>∃ S n,H a=some (.set S n)∧n=xs.length∧∀ x,S x=decide (x∈xs)
 | .ins c fs=>∃ C dx vs,G.cm[c]?=some C∧H a=some (.ins C dx vs)∧FRs G ρ H C fs vs
theorem KRs.map {ρ ρ1:List Addr}{H H1:Hp}:∀ {kvs:List (Int×D)}{vs:List (Key×V)},KRs ρ H kvs vs->(∀ p∈kvs,∀ v,RD ρ H p.2 v->RD ρ1 H1 p.2 v)->KRs ρ1 H1 kvs vs
 | [],vs,h,_=>h
 | p :: r,vs,h,f=>by
   unfold KRs at h ⊢
   obtain ⟨v,q,h1,h2,h3⟩:=h
   exact ⟨v,q,h1,f p List.mem_cons_self v h2,KRs.map h3 fun x hx=>f x (List.mem_cons_of_mem _ hx)⟩
theorem FRs.map {G:GP}{ρ ρ1:List Addr}{H H1:Hp}{C:Addr}:∀ {kvs:List (Nat×D)}{vs:List (Str×V)},FRs G ρ H C kvs vs->(∀ p∈kvs,∀ v,RD ρ H p.2 v->RD ρ1 H1 p.2 v)->FRs G ρ1 H1 C kvs vs
 | [],vs,h,_=>h
 | p :: r,vs,h,f=>by
   unfold FRs at h ⊢
   obtain ⟨g,v,q,h1,h2,h3,h4,h5⟩:=h
   exact ⟨g,v,q,h1,h2,h3,f p List.mem_cons_self v h4,FRs.map h5 fun x hx=>f x (List.mem_cons_of_mem _ hx)⟩
theorem RO.map {G:GP}{ρ ρ1:List Addr}{H H1:Hp}{a:Addr}{o:O} (h:RO G ρ H a o) (ha:∀ u,H a=some u->H1 a=some u) (f:∀ d v,RD ρ H d v->RD ρ1 H1 d v) (fs:∀ ds vs,RDs ρ H ds vs->RDs ρ1 H1 ds vs):RO G ρ1 H1 a o:=by
 cases o with
 | lst xs=>obtain ⟨vs,h1,h2⟩:=h;exact ⟨vs,ha _ h1,fs _ _ h2⟩
 | scr xs =>
   obtain ⟨vs,h1,h2⟩:=h
   refine ⟨vs,?_,fs _ _ h2⟩
   rcases h1 with ⟨o,h1⟩ | h1
   . exact .inl ⟨o,ha _ h1⟩
   . exact .inr h1
 | dic kvs=>obtain ⟨vs,h1,h2⟩:=h;exact ⟨vs,ha _ h1,h2.map fun p _ v=>f _ _⟩
 | hole=>trivial
 | set xs=>obtain ⟨S,n,h1,h2⟩:=h;exact ⟨S,n,ha _ h1,h2⟩
 | ins c fs=>obtain ⟨C,dx,vs,h1,h2,h3⟩:=h;exact ⟨C,dx,vs,h1,ha _ h2,h3.map fun p _ v=>f _ _⟩
noncomputable def O.isScr:O->Bool
 | .scr _=>true
 | .hole=>true
 | _=>false
structure HR (F:Addr->Prop) (G:GP) (ρ:List Addr) (h:MH) (H:Hp):Prop where
 pro:∀ b,F b->(∃ u,H b=some u)∧∀ (m:Nat) o,ρ[m]?=some b->h[m]?=some o->o.isScr=true
 nd:∀ (n m:Nat) a o o',n≠m->ρ[n]?=some a->ρ[m]?=some a->h[n]?=some o->h[m]?=some o'->o.isScr=true∨o'.isScr=true
 len:ρ.length=h.length
 all:∀ (n:Nat) o,h[n]?=some o->∃ a,ρ[n]?=some a∧RO G ρ H a o
theorem HR.at {F:Addr->Prop}{G:GP}{ρ:List Addr}{h:MH}{H:Hp} (r:HR F G ρ h H) {n:Nat}{o:O}{a:Addr} (e:h[n]?=some o) (ea:ρ[n]?=some a):RO G ρ H a o:=by
 obtain ⟨b,e1,e2⟩:=r.all n o e
 rw [ea]at e1;cases e1;exact e2
structure zX (ρ:List Addr) (H:Hp) (env:zx) (σ:St):Prop where
 len:env.length=σ.length
 all:∀ (i:Nat) d,env[i]?=some (some d)->∃ v,σ[i]?=some (some v)∧RD ρ H d v
theorem zX.ext {F:Addr->Prop}{ρ ρ1:List Addr}{H H1:Hp}{env:zx}{σ:St} (h:zX ρ H env σ) (e:Ext F ρ ρ1 H H1):zX ρ1 H1 env σ :=
 ⟨h.len,fun i d q=>let ⟨v,q1,q2⟩:=h.all i d q;⟨v,q1,RD.ext e _ _ q2⟩⟩
theorem zX.set {ρ:List Addr}{H:Hp}{env:zx}{σ:St} (h:zX ρ H env σ) {d:D}{v:V} (r:RD ρ H d v) (i:Nat):zX ρ H (env.set i (some d)) (σ.set i (some v)):=by
 refine ⟨by simp [h.len],fun j d' q=>?_⟩
 by_cases hj:i=j
 . subst hj
   have hi:i < env.length:=by
     have:=(List.getElem?_eq_some_iff.mp q).1
     simpa using this
   rw [List.getElem?_set_self hi]at q
   cases q
   exact ⟨v,by rw [List.getElem?_set_self (by rw [<- h.len];exact hi)],r⟩
 . rw [List.getElem?_set_ne hj]at q ⊢
   exact h.all j d' q
section
variable {F:Addr->Prop}{G:GP}{ρ:List Addr}{h:MH}{H:Hp}
theorem zcq (hr:HR F G ρ h H) {p:Addr}{u:HO} (hp:H p=none):Ext F ρ ρ H (upd H p u):=⟨⟨[],by simp⟩,fun b xs e=>by rw [zV (zdI e hp)];exact e,fun b hb=>by
 obtain ⟨⟨v,hv⟩,_⟩:=hr.pro b hb
 rw [zV (zdI hv hp)]⟩
theorem zEv {p:Addr}{u:HO} (hp:H p=none) {a:Addr}{o:HO} (e:H a=some o):upd H p u a=some o:=by rw [zV (zdI e hp)];exact e
theorem HR.grow {H1:Hp} (r:HR F G ρ h H) (k:∀ a o,H a=some o->H1 a=some o):HR F G ρ h H1:=by
 have e:Ext F ρ ρ H H1:=⟨⟨[],by simp⟩,fun b xs q=>k _ _ q,fun b hb=>by obtain ⟨⟨v,hv⟩,_⟩:=r.pro b hb;rw [hv];exact k _ _ hv⟩
 exact ⟨fun b hb=>let ⟨⟨v,hv⟩,z⟩:=r.pro b hb;⟨⟨v,k _ _ hv⟩,z⟩,r.nd,r.len,fun n o q=>let ⟨a,q1,q2⟩:=r.all n o q;⟨a,q1,q2.map (fun u=>k a u) (RD.ext e) (RDs.ext e)⟩⟩
theorem HR.new (r:HR F G ρ h H) {p:Addr}{u:HO} (hp:H p=none):HR F G ρ h (upd H p u):=r.grow fun a o e=>zEv hp e
noncomputable def zfH (F:Addr->Prop) (ρ:List Addr) (h:MH) (a:Addr):Prop:=¬ F a∧∀ (m:Nat) o,ρ[m]?=some a->h[m]?=some o->o.isScr=true
theorem RO.some_of {a:Addr}{o:O} (r:RO G ρ H a o):o.isScr=true∨∃ u,H a=some u:=by
 cases o with
 | lst xs=>obtain ⟨vs,z,_⟩:=r;exact .inr ⟨_,z⟩
 | scr xs=>exact .inl rfl
 | dic xs=>obtain ⟨vs,z,_⟩:=r;exact .inr ⟨_,z⟩
 | hole=>exact .inl rfl
 | set xs=>obtain ⟨S,n,z,_⟩:=r;exact .inr ⟨_,z⟩
 | ins c fs=>obtain ⟨C,dx,vs,_,z,_⟩:=r;exact .inr ⟨_,z⟩
theorem HR.fresh (r:HR F G ρ h H) {a:Addr} (ha:H a=none):zfH F ρ h a:=by
 refine ⟨fun z=>?_,fun m o e1 e2=>?_⟩
 . obtain ⟨⟨v,hv⟩,_⟩:=r.pro a z
   rw [ha]at hv;cases hv
 . rcases (r.at e2 e1).some_of with z | ⟨u,z⟩
   . exact z
   . rw [ha]at z;cases z
theorem getElem?_snoc {α:Type}{l:List α}{x y:α}{n:Nat} (h:(l++[x])[n]?=some y):(l[n]?=some y)∨(n=l.length∧x=y):=by
 by_cases hn:n < l.length
 . rw [List.getElem?_append_left hn]at h;exact .inl h
 . rw [List.getElem?_append_right (by omega)]at h
   have:n - l.length=0:=by
     by_cases z:n - l.length=0
     . exact z
     . rw [List.getElem?_eq_none (by simp;omega)]at h;cases h
   rw [this]at h
   simp at h
   exact .inr ⟨by omega,h⟩
theorem RD.snoc {b:Addr} (d:D) (v:V) (h:RD ρ H d v):RD (ρ++[b]) H d v:=RD.ext (F:=fun _=>False) ⟨⟨[b],rfl⟩,fun _ _ z=>z,fun _ z=>z.elim⟩ _ _ h
theorem RDs.snocρ {b:Addr} (d:List D) (v:List V) (h:RDs ρ H d v):RDs (ρ++[b]) H d v:=RDs.ext (F:=fun _=>False) ⟨⟨[b],rfl⟩,fun _ _ z=>z,fun _ z=>z.elim⟩ _ _ h
theorem HR.named (r:HR F G ρ h H) {a:Addr}{o:O} (fr:zfH F ρ h a) (ro:RO G (ρ++[a]) H a o):HR F G (ρ++[a]) (h++[o]) H:=by
 refine ⟨fun b hb=>⟨(r.pro b hb).1,fun m x z1 z2=>?_⟩,fun n m b x y hne h1 h2 h3 h4=>?_,by simp [r.len],fun n x hx=>?_⟩
 . rcases getElem?_snoc z1 with z1 | ⟨e1,f1⟩
   . have hm:m < h.length:=by rw [<- r.len];exact (List.getElem?_eq_some_iff.mp z1).1
     rw [List.getElem?_append_left hm]at z2
     exact (r.pro b hb).2 m x z1 z2
   . subst f1;exact absurd hb fr.1
 . rcases getElem?_snoc h1 with h1 | ⟨e1,f1⟩
   . rcases getElem?_snoc h2 with h2 | ⟨e2,f2⟩
     . have hn:n < h.length:=by rw [<- r.len];exact (List.getElem?_eq_some_iff.mp h1).1
       have hm:m < h.length:=by rw [<- r.len];exact (List.getElem?_eq_some_iff.mp h2).1
       rw [List.getElem?_append_left hn]at h3
       rw [List.getElem?_append_left hm]at h4
       exact r.nd n m b x y hne h1 h2 h3 h4
     . have hn:n < h.length:=by rw [<- r.len];exact (List.getElem?_eq_some_iff.mp h1).1
       rw [List.getElem?_append_left hn]at h3
       subst f2
       exact .inl (fr.2 n x h1 h3)
   . rcases getElem?_snoc h2 with h2 | ⟨e2,f2⟩
     . have hm:m < h.length:=by rw [<- r.len];exact (List.getElem?_eq_some_iff.mp h2).1
       rw [List.getElem?_append_left hm]at h4
       subst f1
       exact .inr (fr.2 m y h2 h4)
     . exact absurd (e1.trans e2.symm) hne
 . rcases getElem?_snoc hx with hx | ⟨e,f⟩
   . obtain ⟨b,e1,e2⟩:=r.all n x hx
     exact ⟨b,by rw [List.getElem?_append_left (List.getElem?_eq_some_iff.mp e1).1];exact e1,e2.map (fun _ z=>z) RD.snoc RDs.snocρ⟩
   . subst f
     exact ⟨a,by rw [e,<- r.len];simp,ro⟩
theorem HR.write (r:HR F G ρ h H) {n:Nat}{a:Addr}{o o1:O}{u0 u:HO} (e:h[n]?=some o) (ea:ρ[n]?=some a) (hs:o.isScr=false) (hs1:o1.isScr=false) (eu:H a=some u0) (mu:Mut (some u0))
   (ro:RO G ρ (upd H a u) a o1):Ext F ρ ρ H (upd H a u)∧HR F G ρ (h.set n o1) (upd H a u):=by
 have hn:n < h.length:=(List.getElem?_eq_some_iff.mp e).1
 have tp:∀ b xs,H b=some (.tup xs)->upd H a u b=some (.tup xs):=fun b xs q=>by
   rw [zV]
   . exact q
   . intro z;subst z;rw [eu]at q;cases q;exact mu
 have hb0:∀ b,F b->b≠a:=fun b hb z=>by have:=(r.pro b hb).2 n o (by rw [z];exact ea) e;rw [hs]at this;cases this
 have ex:Ext F ρ ρ H (upd H a u):=⟨⟨[],by simp⟩,tp,fun b hb=>zV (hb0 b hb)⟩
 refine ⟨ex,fun b hb=>⟨by rw [zV (hb0 b hb)];exact (r.pro b hb).1,fun m x z1 z2=>?_⟩,fun i j b x y hne h1 h2 h3 h4=>?_,by simp [r.len],fun m x hx=>?_⟩
 . by_cases hm:n=m
   . subst hm
     rw [ea]at z1;cases z1
     exact absurd rfl (hb0 _ hb)
   . rw [List.getElem?_set_ne hm]at z2
     exact (r.pro b hb).2 m x z1 z2
 . have sc:∀ (k:Nat) z,(h.set n o1)[k]?=some z->∃ z0,h[k]?=some z0∧z0.isScr=z.isScr:=fun k z hz=>by
     by_cases hk:n=k
     . subst hk
       rw [List.getElem?_set_self hn]at hz
       cases hz
       exact ⟨o,e,hs.trans hs1.symm⟩
     . rw [List.getElem?_set_ne hk]at hz
       exact ⟨z,hz,rfl⟩
   obtain ⟨x0,hx0,ex0⟩:=sc i x h3
   obtain ⟨y0,hy0,ey0⟩:=sc j y h4
   rw [<- ex0,<- ey0]
   exact r.nd i j b x0 y0 hne h1 h2 hx0 hy0
 . by_cases hm:n=m
   . subst hm
     rw [List.getElem?_set_self hn]at hx
     cases hx
     exact ⟨a,ea,ro⟩
   . rw [List.getElem?_set_ne hm]at hx
     obtain ⟨b,e1,e2⟩:=r.all m x hx
     refine ⟨b,e1,?_⟩
     by_cases hb:b=a
     . subst hb
       have hsc:x.isScr=true:=by
         rcases r.nd n m b o x hm ea e1 e hx with z | z
         . rw [hs]at z;cases z
         . exact z
       cases x with
       | scr xs =>
         obtain ⟨vs,z,w⟩:=e2
         refine ⟨vs,?_,RDs.ext ex _ _ w⟩
         rcases z with ⟨o',z⟩ | z
         . rw [eu]at z;cases z;exact mu.elim
         . exact .inr z
       | hole=>trivial
       | _=>cases hsc
     . exact e2.map (fun w z=>by rw [zV hb];exact z) (RD.ext ex) (RDs.ext ex)
theorem HR.sub {F':Addr->Prop} (r:HR F' G ρ h H) (hs:∀ b,F b->F' b):HR F G ρ h H:=⟨fun b hb=>r.pro b (hs b hb),r.nd,r.len,r.all⟩
theorem Ext.sub {F':Addr->Prop}{ρ1:List Addr}{H1:Hp} (r:Ext F' ρ ρ1 H H1) (hs:∀ b,F b->F' b):Ext F ρ ρ1 H H1:=⟨r.pre,r.tup,fun b hb=>r.frm b (hs b hb)⟩
theorem HR.upd_free (r:HR F G ρ h H) {a:Addr}{xs ys:List V} (fr:zfH F ρ h a) (ha:H a=some (.lst xs)):Ext F ρ ρ H (upd H a (.lst ys))∧HR F G ρ h (upd H a (.lst ys)):=by
 have hb0:∀ b,F b->b≠a:=fun b hb z=>fr.1 (z ▸ hb)
 have tp:∀ b xs,H b=some (.tup xs)->upd H a (.lst ys) b=some (.tup xs):=fun b xs q=>by
   rw [zV]
   . exact q
   . intro z;subst z;rw [ha]at q;cases q
 have ex:Ext F ρ ρ H (upd H a (.lst ys)):=⟨⟨[],by simp⟩,tp,fun b hb=>zV (hb0 b hb)⟩
 refine ⟨ex,fun b hb=>⟨by rw [zV (hb0 b hb)];exact (r.pro b hb).1,(r.pro b hb).2⟩,r.nd,r.len,fun n o q=>?_⟩
 obtain ⟨b,q1,q2⟩:=r.all n o q
 refine ⟨b,q1,?_⟩
 by_cases hb:b=a
 . subst hb
   have hsc:=fr.2 n o q1 q
   cases o with
   | scr xs =>
     obtain ⟨vs,z,w⟩:=q2
     refine ⟨vs,?_,RDs.ext ex _ _ w⟩
     rcases z with ⟨o',z⟩ | z
     . rw [ha]at z;cases z
     . exact .inr z
   | hole=>trivial
   | _=>cases hsc
 . exact q2.map (fun w z=>by rw [zV hb];exact z) (RD.ext ex) (RDs.ext ex)
end
end MI
end
section
namespace MI
open PySem PySem.Spec L2
section
variable {α β γ δ:Type}
abbrev RL (α β:Type):=(Addr->Prop)->List Addr->MH->Hp->α->β->Prop
noncomputable def wp (F:Addr->Prop) (W:Nat->Hp->Prop) (G:GP) (Rl:RL α β) (env:zx) (σ:L2.St) (ρ:List Addr) (H:Hp) (r:R α) (Q:β->Hp->Prop):Prop:=match r with
 | .ok v h1=>∀ ρ1 H1 v1,Ext F ρ ρ1 H H1->zX ρ1 H1 env σ->HR F G ρ1 h1 H1->Rl F ρ1 h1 H1 v v1->Q v1 H1
 | .ex c h1=>∀ ρ1 H1,Ext F ρ ρ1 H H1->HR F G ρ1 h1 H1->W c H1
 | .bad=>False
noncomputable def tG (W:Nat->Hp->Prop) (G:GP) (Rl:RL α β) (m:ME α):L2.St->Hp->(β->Hp->Prop)->Prop:=fun σ H Q =>
 ∃ F ρ env h,zX ρ H env σ∧HR F G ρ h H∧wp F W G Rl env σ ρ H (m env h) Q
variable {W:Nat->Hp->Prop}{F:Addr->Prop}{G:GP}{Rl:RL α β}{Rl':RL γ δ}{env:zx}{σ:L2.St}{ρ ρ1:List Addr}{H H1:Hp}{h h1:MH}
theorem wp.mono {r:R α}{Q:β->Hp->Prop} (w:wp F W G Rl env σ ρ H r Q) (e:Ext F ρ ρ1 H H1):wp F W G Rl env σ ρ1 H1 r Q:=by
 cases r with
 | ok v h1=>exact fun ρ2 H2 v1 e2=>w ρ2 H2 v1 (e.trans e2)
 | ex c h1=>exact fun ρ2 H2 e2=>w ρ2 H2 (e.trans e2)
 | bad=>exact w
theorem zF {m:ME α}{k:α->ME γ}{Q:δ->Hp->Prop}{P:β->Hp->Prop} (w:wp F W G Rl' env σ ρ H (zm m k env h) Q)
   (f:∀ x h1 ρ1 H1 y,Ext F ρ ρ1 H H1->zX ρ1 H1 env σ->HR F G ρ1 h1 H1->Rl F ρ1 h1 H1 x y->wp F W G Rl' env σ ρ1 H1 (k x env h1) Q->P y H1):wp F W G Rl env σ ρ H (m env h) P:=by
 unfold zm at w
 cases e:m env h with
 | ok v h1 =>
   rw [e]at w
   exact fun ρ1 H1 y ex er hr rl=>f v h1 ρ1 H1 y ex er hr rl (w.mono ex)
 | ex c h1=>rw [e]at w;exact w
 | bad=>rw [e]at w;exact w
end
theorem zW {X:Cx}{e:Expr}{t t':TE} (h:PE X e t) (i:∀ σ H Q,t' σ H Q->t σ H Q):PE X e t':=fun pins s σ H Q I hw=>h pins s σ H Q I (i _ _ _ hw)
theorem zjd {X:Cx}{e:Expr}{t t':TT} (h:PT X e t) (i:∀ σ H Q,t' σ H Q->t σ H Q):PT X e t':=fun pins s σ H Q I hw=>h pins s σ H Q I (i _ _ _ hw)
theorem zsV {X:Cx}{e:Expr}{t t':TT} (h:PW X e t) (i:∀ σ H Q,t' σ H Q->t σ H Q):PW X e t':=fun wh pins s σ H Q I hw=>h wh pins s σ H Q I (i _ _ _ hw)
theorem ztz {X:Cx}{e:List Expr}{t t':TA} (h:PA X e t) (i:∀ σ H Q,t' σ H Q->t σ H Q):PA X e t':=fun pos pins s σ H Q I hw=>h pos pins s σ H Q I (i _ _ _ hw)
theorem zsv {X:Cx}{e:Option Expr}{t t':TO} (h:PO X e t) (i:∀ σ H Q,t' σ H Q->t σ H Q):PO X e t':=fun pins s σ H Q I hw=>h pins s σ H Q I (i _ _ _ hw)
theorem ziY {X:Cx}{tg e:Expr}{t t':TI} (h:PI X tg e t) (i:∀ σ H Q,t' σ H Q->t σ H Q):PI X tg e t':=fun pins s σ H Q I hw=>h pins s σ H Q I (i _ _ _ hw)
abbrev rV:RL D V:=fun _ ρ _ H d v=>RD ρ H d v
abbrev rB:RL Bool Bool:=fun _ _ _ _ a b=>a=b
abbrev rO:RL (Option Int) (Option Int):=fun _ _ _ _ a b=>a=b
abbrev rA:RL (List D) (List V):=fun _ ρ _ H d v=>RDs ρ H d v
noncomputable def rL (K:PySem.W.Frag):RL (List D) V:=fun _ ρ _ H xs v=>∃ a vs,v = .ref a∧H a=some (.lst vs)∧RDs ρ H xs vs
noncomputable def rN (K:PySem.W.Frag):RL (List D) V:=fun F ρ h H xs v=>∃ a vs,v = .ref a∧H a=some (.lst vs)∧zfH F ρ h a∧RDs ρ H xs vs
abbrev tE (W:Nat->Hp->Prop) (G:GP) (m:ME D):TE:=tG W G rV m
abbrev tT (W:Nat->Hp->Prop) (G:GP) (m:ME Bool):TT:=tG W G rB m
abbrev tA (W:Nat->Hp->Prop) (G:GP) (m:ME (List D)):TA:=tG W G rA m
abbrev tO (W:Nat->Hp->Prop) (G:GP) (m:ME (Option Int)):TO:=tG W G rO m
abbrev tL (W:Nat->Hp->Prop) (G:GP) (m:ME (List D)):TE:=tG W G (rL G.K) m
abbrev tN (W:Nat->Hp->Prop) (G:GP) (m:ME (List D)):TE:=tG W G (rN G.K) m
@[irreducible] noncomputable def JE (X:Cx) (e:Expr) (t:TE):Prop:=PE X e t
@[irreducible] noncomputable def JT (X:Cx) (e:Expr) (t:TT):Prop:=PT X e t
@[irreducible] noncomputable def JW (X:Cx) (e:Expr) (t:TT):Prop:=PW X e t
@[irreducible] noncomputable def JA (X:Cx) (e:List Expr) (t:TA):Prop:=PA X e t
@[irreducible] noncomputable def JO (X:Cx) (e:Option Expr) (t:TO):Prop:=PO X e t
theorem JE.to {X:Cx}{e:Expr}{t:TE} (h:JE X e t):PE X e t:=by unfold JE at h;exact h
theorem JE.of {X:Cx}{e:Expr}{t:TE} (h:PE X e t):JE X e t:=by unfold JE;exact h
theorem JT.to {X:Cx}{e:Expr}{t:TT} (h:JT X e t):PT X e t:=by unfold JT at h;exact h
theorem JT.of {X:Cx}{e:Expr}{t:TT} (h:PT X e t):JT X e t:=by unfold JT;exact h
theorem JW.to {X:Cx}{e:Expr}{t:TT} (h:JW X e t):PW X e t:=by unfold JW at h;exact h
theorem JW.of {X:Cx}{e:Expr}{t:TT} (h:PW X e t):JW X e t:=by unfold JW;exact h
theorem JA.to {X:Cx}{e:List Expr}{t:TA} (h:JA X e t):PA X e t:=by unfold JA at h;exact h
theorem JA.of {X:Cx}{e:List Expr}{t:TA} (h:PA X e t):JA X e t:=by unfold JA;exact h
theorem JO.to {X:Cx}{e:Option Expr}{t:TO} (h:JO X e t):PO X e t:=by unfold JO at h;exact h
theorem JO.of {X:Cx}{e:Option Expr}{t:TO} (h:PO X e t):JO X e t:=by unfold JO;exact h
section
variable {W:Nat->Hp->Prop}{X:Cx}{F:Addr->Prop}{G:GP}{env:zx}{σ:L2.St}{ρ:List Addr}{H:Hp}{h:MH}{a b c:Expr}{ma mb mc:ME D}{pos:Pos}{Q:VK}
theorem wp.done {α β:Type}{Rl:RL α β}{x:α}{y:β}{Q:β->Hp->Prop} (w:wp F W G Rl env σ ρ H (.ok x h) Q) (er:zX ρ H env σ) (hr:HR F G ρ h H) (r:Rl F ρ h H x y):Q y H:=w ρ H y Ext.refl er hr r
theorem wp.made {α β:Type}{Rl:RL α β}{x:α}{y:β}{Q:β->Hp->Prop}{p:Addr}{u:HO} (w:wp F W G Rl env σ ρ H (.ok x h) Q) (er:zX ρ H env σ) (hr:HR F G ρ h H) (hp:H p=none) (r:Rl F ρ h (upd H p u) x y):Q y (upd H p u) :=
 w ρ _ y (zcq hr hp) (er.ext (zcq hr hp)) (hr.new hp) r
theorem zc (i:Nat) {x:Str}{pos:Pos} (hN:X.N[i]?=some x:=by rfl) (hv:Vis X.env.scope x:=by first | exact Or.inl rfl | exact Or.inr (Or.inl rfl) | exact Or.inr (Or.inr rfl)) (hd:(x == ("__debug__":Str))=false:=by decide)
   (hcd:(x == ("__classdict__":Str))=false:=by decide):JE X (.Name x pos) (tE W G (var i)) :=
 .of (zW (zDy hN hv hd hcd) fun σ H Q ⟨F,ρ,env,h,er,hr,w⟩=>by
   unfold var at w
   cases e:env[i]? with
   | none=>rw [e]at w;exact w.elim
   | some o =>
     cases o with
     | none=>rw [e]at w;exact w.elim
     | some d =>
       rw [e]at w
       obtain ⟨v,h1,h2⟩:=er.all i d e
       exact ⟨v,h1,w.done er hr h2⟩)
theorem q_c {e:Expr}{v:V}{d:D} (h:PE X e (tC v)) (r:∀ ρ H,RD ρ H d v):JE X e (tE W G (zb d)) :=
 .of (zW h fun σ H Q ⟨F,ρ,env,h,er,hr,w⟩=>wp.done (h:=h) w er hr (r ρ H))
theorem zh {i j pos}:JE X (.Constant (.int i) j pos) (tE W G (zb (.int i))):=q_c zpg fun _ _=>by unfold RD;rfl
theorem zcB {i j pos}:JE X (.Constant (.bool i) j pos) (tE W G (zb (.bl i))):=q_c zAt fun _ _=>by unfold RD;rfl
theorem zfE {j pos}:JE X (.Constant .none j pos) (tE W G (zb .non)):=q_c zEx fun _ _=>by unfold RD;rfl
theorem zfn {x:Str}{i:Int}{u:Value}{pos:Pos} (hg:Gl X x) (hm:X.mg x=some u) (r:zt (.int i) u) (hd:(x == ("__debug__":Str))=false:=by decide):JE X (.Name x pos) (tE W G (zb (.int i))) :=
 q_c (zrU hg hm r hd) fun _ _=>by unfold RD;rfl
noncomputable def OpM (W:Nat->Hp->Prop) (G:GP) (f:D->D->ME D) (r:R2):Prop:=∀ (F:Addr->Prop) (ρ:List Addr) (h:MH) (H:Hp) (env:zx) (σ:L2.St) (x y:D) (v u:V) (Q:VK),zX ρ H env σ->HR F G ρ h H->RD ρ H x v->RD ρ H y u ->
 wp F W G rV env σ ρ H (f x y env h) Q->r v u H Q
theorem zhD {op:Operator}{r:R2}{f:D->D->ME D} (ho:OpR X (binaryOp op) r) (hf:OpM W G f r) (ha:JE X a (tE W G ma)) (hb:JE X b (tE W G mb)):JE X (.BinOp a op b pos) (tE W G (bin f ma mb)) :=
 .of (zW (zsx ho ha.to hb.to) fun σ H Q ⟨F,ρ,env,h,er,hr,w⟩=>⟨F,ρ,env,h,er,hr,zF w fun x h1 ρ1 H1 y e1 er1 hr1 r1 w1=>⟨F,ρ1,env,h1,er1,hr1,zF w1 fun x2 h2 ρ2 H2 y2 e2 er2 hr2 r2 w2 =>
   hf F ρ2 h2 H2 env σ x x2 y y2 Q er2 hr2 (RD.ext e2 _ _ r1) r2 w2⟩⟩)
theorem zci {op:CmpOp}{r:R2}{f:D->D->ME D} (ho:OpR X (compareOp op) r∧OpM W G f r) (ha:JE X a (tE W G ma)) (hb:JE X b (tE W G mb)) (hm:behindInMarks op b=false):JE X (.Compare a [op] [b] pos) (tE W G (bin f ma mb)) :=
 .of (zW (zCk ho.1 ha.to hb.to hm) fun σ H Q ⟨F,ρ,env,h,er,hr,w⟩=>⟨F,ρ,env,h,er,hr,zF w fun x h1 ρ1 H1 y e1 er1 hr1 r1 w1=>⟨F,ρ1,env,h1,er1,hr1,zF w1 fun x2 h2 ρ2 H2 y2 e2 er2 hr2 r2 w2 =>
   ho.2 F ρ2 h2 H2 env σ x x2 y y2 Q er2 hr2 (RD.ext e2 _ _ r1) r2 w2⟩⟩)
theorem zuj {m:ME D}{Q:Bool->Hp->Prop} (w:wp F W G rB env σ ρ H (tst m env h) Q):wp F W G rV env σ ρ H (m env h) (fun v H1=>∃ k,v = .bl k∧Q k H1) :=
 zF w fun d h1 ρ1 H1 y e1 er1 hr1 r1 w1=>by
   cases d with
   | bl k =>
     have r1:RD ρ1 H1 (.bl k) y:=r1
     unfold RD at r1
     exact ⟨k,r1,wp.done (h:=h1) w1 er1 hr1 rfl⟩
   | _=>exact w1.elim
theorem zbs {op:CmpOp}{r:R2}{f:D->D->ME D} (ho:OpR X (compareOp op) r∧OpM W G f r) (ha:JE X a (tE W G ma)) (hb:JE X b (tE W G mb)) (hm:behindInMarks op b=false):JT X (.Compare a [op] [b] pos) (tT W G (tst (bin f ma mb))) :=
 .of (zjd (zEU ho.1 ha.to hb.to hm) fun σ H Q ⟨F,ρ,env,h,er,hr,w⟩=>⟨F,ρ,env,h,er,hr,zF (zuj (m:=bin f ma mb) w) fun x h1 ρ1 H1 y e1 er1 hr1 r1 w1=>⟨F,ρ1,env,h1,er1,hr1,zF w1 fun x2 h2 ρ2 H2 y2 e2 er2 hr2 r2 w2 =>
   ho.2 F ρ2 h2 H2 env σ x x2 y y2 _ er2 hr2 (RD.ext e2 _ _ r1) r2 w2⟩⟩)
theorem ztt {r r':R2}{f g:D->D->ME D}{Q:VK} (hf:OpM W G f r) (hg:OpM W G g r') (w:tE W G (zex f g ma mb mc) σ H Q):zpK r r' (tE W G ma) (tE W G mb) (tE W G mc) σ H Q:=by
 obtain ⟨F,ρ,env,h,er,hr,w⟩:=w
 refine ⟨F,ρ,env,h,er,hr,zF w fun x h1 ρ1 H1 y e1 er1 hr1 r1 w1=>⟨F,ρ1,env,h1,er1,hr1,zF w1 fun x2 h2 ρ2 H2 y2 e2 er2 hr2 r2 w2=>?_⟩⟩
 refine hf F ρ2 h2 H2 env σ x x2 y y2 _ er2 hr2 (RD.ext e2 _ _ r1) r2 ?_
 refine zF (Rl:=rV) w2 fun d h3 ρ3 H3 z e3 er3 hr3 r3 w3=>?_
 cases d with
 | bl k =>
   have r3:RD ρ3 H3 (.bl k) z:=r3
   unfold RD at r3
   refine ⟨k,r3,?_⟩
   cases k with
   | true =>
     rw [if_pos rfl]
     exact ⟨F,ρ3,env,h3,er3,hr3,zF w3 fun x4 h4 ρ4 H4 y4 e4 er4 hr4 r4 w4=>hg F ρ4 h4 H4 env σ x2 x4 y2 y4 Q er4 hr4 (RD.ext (e3.trans e4) _ _ r2) r4 w4⟩
   | false =>
     rw [if_neg (by decide)]
     exact wp.done (h:=h3) w3 er3 hr3 (by unfold RD;rfl)
 | _=>exact w3.elim
theorem zsc {op op':CmpOp}{r r':R2}{f g:D->D->ME D} (ho:OpR X (compareOp op) r∧OpM W G f r) (ho':OpR X (compareOp op') r'∧OpM W G g r') (ha:JE X a (tE W G ma)) (hb:JE X b (tE W G mb)) (hc:JE X c (tE W G mc))
   (hm:lastMarks [op,op'] [b,c]=false:=by with_unfolding_all rfl):JE X (.Compare a [op,op'] [b,c] pos) (tE W G (zex f g ma mb mc)) :=
 .of (zW (zEo ho.1 ho'.1 ha.to hb.to hc.to hm) fun σ H Q w=>ztt ho.2 ho'.2 w)
theorem zFE {op op':CmpOp}{r r':R2}{f g:D->D->ME D} (ho:OpR X (compareOp op) r∧OpM W G f r) (ho':OpR X (compareOp op') r'∧OpM W G g r') (ha:JE X a (tE W G ma)) (hb:JE X b (tE W G mb)) (hc:JE X c (tE W G mc))
   (hm:lastMarks [op,op'] [b,c]=false:=by with_unfolding_all rfl):JT X (.Compare a [op,op'] [b,c] pos) (tT W G (tst (zex f g ma mb mc))) :=
 .of (zjd (zAv ho.1 ho'.1 ha.to hb.to hc.to hm) fun σ H Q ⟨F,ρ,env,h,er,hr,w⟩=>ztt ho.2 ho'.2 ⟨F,ρ,env,h,er,hr,zuj (m:=zex f g ma mb mc) w⟩)
theorem zA4 {op:UnaryOp}{r:V->Hp->VK->Prop}{f:D->ME D} (ho:UnR X (unaryOp op) r)
   (hf:∀ (F:Addr->Prop) (ρ:List Addr) (h:MH) (H:Hp) (env:zx) (σ:L2.St) (x:D) (v:V) (Q:VK),zX ρ H env σ->HR F G ρ h H->RD ρ H x v->wp F W G rV env σ ρ H (f x env h) Q->r v H Q) (ha:JE X a (tE W G ma)):JE X (.UnaryOp op a pos) (tE W G (un f ma)) :=
 .of (zW (zt5 ho ha.to) fun σ H Q ⟨F,ρ,env,h,er,hr,w⟩=>⟨F,ρ,env,h,er,hr,zF w fun x h1 ρ1 H1 y e1 er1 hr1 r1 w1=>hf F ρ1 h1 H1 env σ x y Q er1 hr1 r1 w1⟩)
theorem zfj (ha:JE X a (tE W G ma)):JE X (.UnaryOp .USub a pos) (tE W G (un zcf ma)):=zA4 zui (fun F ρ h H env σ x v Q er hr r w=>by
 cases x with
 | int i=>unfold RD at r;exact ⟨i,r,wp.done (h:=h) w er hr (by unfold RD;rfl)⟩
 | _=>exact w.elim) ha
theorem zo1 {f:D->D->ME D}{C:Int->Int->Prop}{g:Int->Int->V}{k:Int->Int->D} (hk:∀ i j ρ H,RD ρ H (k i j) (g i j)) (hf:∀ x y env h,(∃ i j,x = .int i∧y = .int j∧((C i j∧f x y env h = .ok (k i j) h)∨f x y env h = .bad))∨f x y env h = .bad):OpM W G f (rI C g):=by
 intro F ρ h H env σ x y v u Q er hr r1 r2 w
 rcases hf x y env h with ⟨i,j,rfl,rfl,⟨hc,e⟩ | e⟩ | e
 . rw [e]at w
   unfold RD at r1 r2
   exact ⟨i,j,r1,r2,hc,w.done er hr (hk i j ρ H)⟩
 . rw [e]at w;exact w.elim
 . rw [e]at w;exact w.elim
theorem zpT {f:D->D->ME D}{g:Int->Int->V}{k:Int->Int->D} (hk:∀ i j ρ H,RD ρ H (k i j) (g i j)) (hf:∀ x y env h,(∃ i j,x = .int i∧y = .int j∧f x y env h = .ok (k i j) h)∨f x y env h = .bad):OpM W G f (rI0 g):=by
 intro F ρ h H env σ x y v u Q er hr r1 r2 w
 rcases hf x y env h with ⟨i,j,rfl,rfl,e⟩ | e
 . rw [e]at w
   unfold RD at r1 r2
   exact ⟨i,j,r1,r2,w.done er hr (hk i j ρ H)⟩
 . rw [e]at w;exact w.elim
theorem zst:OpM W G zE (rI0 fun i j=> .int (i+j)):=zpT (k:=fun i j=> .int (i+j)) (fun _ _ _ _=>by unfold RD;rfl) fun x y env h=>by cases x <;> cases y <;> first | exact .inr rfl | exact .inl ⟨_,_,rfl,rfl,rfl⟩
theorem zA5:OpM W G zbj (rI0 fun i j=> .int (i - j)):=zpT (k:=fun i j=> .int (i - j)) (fun _ _ _ _=>by unfold RD;rfl) fun x y env h=>by cases x <;> cases y <;> first | exact .inr rfl | exact .inl ⟨_,_,rfl,rfl,rfl⟩
theorem zAM:OpM W G zb1 (rI zhF fun i j=> .int (i * j)):=zo1 (k:=fun i j=> .int (i * j)) (fun _ _ _ _=>by unfold RD;rfl) fun x y env h=>by
 cases x <;> cases y <;> first | exact .inr rfl | skip
 rename_i i j
 refine .inl ⟨i,j,rfl,rfl,?_⟩
 show (_∧(if (zcF i || zcF j)=true then zb (.int (i * j)) else zI:ME D) env h=_)∨(if (zcF i || zcF j)=true then zb (.int (i * j)) else zI:ME D) env h=_
 by_cases e:(zcF i || zcF j)=true
 . left
   rw [if_pos e]
   refine ⟨?_,rfl⟩
   unfold zhF
   simp only [zcF,Bool.or_eq_true,Bool.and_eq_true,decide_eq_true_eq]at e
   exact e
 . right;rw [if_neg e];rfl
theorem zE0:OpM W G zdr (rI zsq fun i j=> .int (i / j)):=zo1 (k:=fun i j=> .int (i / j)) (fun _ _ _ _=>by unfold RD;rfl) fun x y env h=>by
 cases x <;> cases y <;> first | exact .inr rfl | skip
 rename_i i j
 refine .inl ⟨i,j,rfl,rfl,?_⟩
 show (_∧(if 0 < j∧j < 1073741824 then zb (.int (i / j)) else zI:ME D) env h=_)∨(if 0 < j∧j < 1073741824 then zb (.int (i / j)) else zI:ME D) env h=_
 by_cases e:0 < j∧j < 1073741824
 . left;rw [if_pos e];exact ⟨e,rfl⟩
 . right;rw [if_neg e];rfl
theorem zFG:OpM W G zbc (rI (fun _ j=>0 < j) fun i j=> .int (i % j)):=zo1 (k:=fun i j=> .int (i % j)) (fun _ _ _ _=>by unfold RD;rfl) fun x y env h=>by
 cases x <;> cases y <;> first | exact .inr rfl | skip
 rename_i i j
 refine .inl ⟨i,j,rfl,rfl,?_⟩
 show (_∧(if 0 < j then zb (.int (i % j)) else zI:ME D) env h=_)∨(if 0 < j then zb (.int (i % j)) else zI:ME D) env h=_
 by_cases e:0 < j
 . left;rw [if_pos e];exact ⟨e,rfl⟩
 . right;rw [if_neg e];rfl
theorem zpD (p:Int->Int->Bool):OpM W G (zhU p) (rI0 fun i j=> .bl (p i j)):=zpT (k:=fun i j=> .bl (p i j)) (fun _ _ _ _=>by unfold RD;rfl) fun x y env h=>by cases x <;> cases y <;> first | exact .inr rfl | exact .inl ⟨_,_,rfl,rfl,rfl⟩
theorem zcW (ha:JE X a (tE W G ma)) (hb:JE X b (tE W G mb)):JE X (.BinOp a .Add b pos) (tE W G (bin zE ma mb)):=zhD zA2 zst ha hb
theorem zeY (ha:JE X a (tE W G ma)) (hb:JE X b (tE W G mb)):JE X (.BinOp a .Sub b pos) (tE W G (bin zbj ma mb)):=zhD zDw zA5 ha hb
theorem zht (ha:JE X a (tE W G ma)) (hb:JE X b (tE W G mb)):JE X (.BinOp a .Mult b pos) (tE W G (bin zb1 ma mb)):=zhD zCN zAM ha hb
theorem zi0 (ha:JE X a (tE W G ma)) (hb:JE X b (tE W G mb)):JE X (.BinOp a .FloorDiv b pos) (tE W G (bin zdr ma mb)):=zhD zEM zE0 ha hb
theorem ze2 (ha:JE X a (tE W G ma)) (hb:JE X b (tE W G mb)):JE X (.BinOp a .Mod b pos) (tE W G (bin zbc ma mb)):=zhD zAj zFG ha hb
end
end MI
end
section
namespace MI
open PySem PySem.Spec L2
mutual
noncomputable def cv:D->L2.D
 | .non=> .non
 | .bl b=> .bl b
 | .int i=> .int i
 | .str x=> .str x
 | .tup ds=> .tup (cvs ds)
 | .obj _=> .non
noncomputable def cvs:List D->List L2.D
 | []=>[]
 | d :: r=>cv d :: cvs r
end
noncomputable def cvC:Cmp->L2.D
 | .d x=>cv x
 | .l xs=> .lst (cvs xs)
theorem zrO {ρ:List Addr}{H:Hp}:∀ (n:Nat),(∀ (d:D) (v:V),d.pl n=true->RD ρ H d v->Dat H (cv d) v∧dpt (cv d)<=n)∧(∀ (ds:List D) (vs:List V),ds.all (D.pl n)=true->RDs ρ H ds vs->zbL H (cvs ds) vs∧zcs (cvs ds)<=n):=by
 intro n
 induction n with
 | zero =>
   have one:∀ (d:D) (v:V),d.pl 0=true->RD ρ H d v->Dat H (cv d) v∧dpt (cv d)<=0:=fun d v p r=>by
     cases d <;> first
       | (simp [D.pl]at p;done)
       | (unfold RD at r;simp [cv,Dat,dpt,r])
   refine ⟨one,fun ds=>?_⟩
   induction ds with
   | nil=>intro vs _ r;unfold RDs at r;simp [cvs,zbL,zcs,r]
   | cons d ds ih =>
     intro vs p r
     rw [List.all_cons,Bool.and_eq_true]at p
     unfold RDs at r
     obtain ⟨x,q,rfl,r1,r2⟩:=r
     obtain ⟨h1,h2⟩:=one d x p.1 r1
     obtain ⟨h3,h4⟩:=ih q p.2 r2
     unfold cvs zbL zcs
     exact ⟨⟨x,q,rfl,h1,h3⟩,by omega⟩
 | succ n ihn =>
   have one:∀ (d:D) (v:V),d.pl (n+1)=true->RD ρ H d v->Dat H (cv d) v∧dpt (cv d)<=n+1:=fun d v p r=>by
     cases d with
     | tup ds =>
       unfold D.pl at p
       unfold RD at r
       obtain ⟨a,vs,rfl,h1,h2⟩:=r
       obtain ⟨h3,h4⟩:=ihn.2 ds vs p h2
       unfold cv Dat dpt
       exact ⟨⟨a,vs,rfl,h1,h3⟩,by omega⟩
     | obj m=>simp [D.pl]at p
     | _=>unfold RD at r;simp [cv,Dat,dpt,r]
   refine ⟨one,fun ds=>?_⟩
   induction ds with
   | nil=>intro vs _ r;unfold RDs at r;simp [cvs,zbL,zcs,r]
   | cons d ds ih =>
     intro vs p r
     rw [List.all_cons,Bool.and_eq_true]at p
     unfold RDs at r
     obtain ⟨x,q,rfl,r1,r2⟩:=r
     obtain ⟨h1,h2⟩:=one d x p.1 r1
     obtain ⟨h3,h4⟩:=ih q p.2 r2
     unfold cvs zbL zcs
     exact ⟨⟨x,q,rfl,h1,h3⟩,by omega⟩
theorem zrF:∀ (n:Nat),(∀ (a b:D),a.pl n=true->b.pl n=true->eqD (cv a) (cv b)=peq a b)∧(∀ (a b:List D),a.all (D.pl n)=true->b.all (D.pl n)=true->zcd (cvs a) (cvs b)=zb5 a b):=by
 intro n
 have many:(∀ (a b:D),a.pl n=true->b.pl n=true->eqD (cv a) (cv b)=peq a b)->(∀ (a b:List D),a.all (D.pl n)=true->b.all (D.pl n)=true->zcd (cvs a) (cvs b)=zb5 a b):=by
   intro one a
   induction a with
   | nil=>intro b _ _;cases b <;> simp [cvs,zcd,zb5]
   | cons x a ih =>
     intro b p q
     cases b with
     | nil=>simp [cvs,zcd,zb5]
     | cons y b =>
       rw [List.all_cons,Bool.and_eq_true]at p q
       unfold cvs zcd zb5
       rw [one x y p.1 q.1,ih b p.2 q.2]
 induction n with
 | zero =>
   have one:∀ (a b:D),a.pl 0=true->b.pl 0=true->eqD (cv a) (cv b)=peq a b:=fun a b p q=>by
     cases a <;> first
       | (simp [D.pl]at p;done)
       | (cases b <;> first
         | (simp [D.pl]at q;done)
         | simp [cv,eqD,peq])
   exact ⟨one,many one⟩
 | succ n ihn =>
   have one:∀ (a b:D),a.pl (n+1)=true->b.pl (n+1)=true->eqD (cv a) (cv b)=peq a b:=fun a b p q=>by
     cases a with
     | tup as =>
       cases b with
       | tup bs =>
         unfold D.pl at p q
         unfold cv eqD peq
         refine (ihn ?_).2 as bs p q
         intro one a
         induction a with
         | nil=>intro b _ _;cases b <;> simp [cvs,zcd,zb5]
         | cons x a ih =>
           intro b p q
           cases b with
           | nil=>simp [cvs,zcd,zb5]
           | cons y b =>
             rw [List.all_cons,Bool.and_eq_true]at p q
             unfold cvs zcd zb5
             rw [one x y p.1 q.1,ih b p.2 q.2]
       | obj m=>simp [D.pl]at q
       | _=>simp [cv,eqD,peq]
     | obj m=>simp [D.pl]at p
     | _ =>
       cases b with
       | obj m=>simp [D.pl]at q
       | _=>simp [cv,eqD,peq]
   exact ⟨one,many one⟩
section
variable {W:Nat->Hp->Prop}{X:Cx}{F:Addr->Prop}{G:GP}{env:zx}{σ:L2.St}{ρ:List Addr}{H:Hp}{h:MH}{a b c:Expr}{ma mb mc:ME D}{pos:Pos}{Q:VK}{k:Nat}
theorem HR.lst (hr:HR F G ρ h H) {n:Nat}{v:V}{xs:List D} (r:RD ρ H (.obj n) v) (e:h[n]?=some (.lst xs)):∃ a vs,v = .ref a∧ρ[n]?=some a∧H a=some (.lst vs)∧RDs ρ H xs vs:=by
 unfold RD at r
 obtain ⟨a,rfl,ea⟩:=r
 obtain ⟨vs,h1,h2⟩:=hr.at e ea
 exact ⟨a,vs,rfl,ea,h1,h2⟩
theorem HR.scr (hr:HR F G ρ h H) {n:Nat}{v:V}{xs:List D} (r:RD ρ H (.obj n) v) (e:h[n]?=some (.scr xs)):∃ a vs,v = .ref a∧ρ[n]?=some a∧SqL G.K H a vs∧RDs ρ H xs vs:=by
 unfold RD at r
 obtain ⟨a,rfl,ea⟩:=r
 obtain ⟨vs,h1,h2⟩:=hr.at e ea
 refine ⟨a,vs,rfl,ea,?_,h2⟩
 rcases h1 with ⟨o,h1⟩ | h1
 . exact .inl (.inr ⟨o,h1⟩)
 . exact .inr h1
theorem HR.dic (hr:HR F G ρ h H) {n:Nat}{v:V}{xs:List (Int×D)} (r:RD ρ H (.obj n) v) (e:h[n]?=some (.dic xs)):∃ a vs,v = .ref a∧ρ[n]?=some a∧H a=some (.dK vs)∧KRs ρ H xs vs:=by
 unfold RD at r
 obtain ⟨a,rfl,ea⟩:=r
 obtain ⟨vs,h1,h2⟩:=hr.at e ea
 exact ⟨a,vs,rfl,ea,h1,h2⟩
theorem HR.ins (hr:HR F G ρ h H) {n c:Nat}{v:V}{xs:List (Nat×D)} (r:RD ρ H (.obj n) v) (e:h[n]?=some (.ins c xs)):∃ a C dx vs,v = .ref a∧ρ[n]?=some a∧G.cm[c]?=some C∧H a=some (.ins C dx vs)∧FRs G ρ H C xs vs:=by
 unfold RD at r
 obtain ⟨a,rfl,ea⟩:=r
 obtain ⟨C,dx,vs,h1,h2,h3⟩:=hr.at e ea
 exact ⟨a,C,dx,vs,rfl,ea,h1,h2,h3⟩
theorem zsM {x:D}{k:Cmp} (e:zb8 h x=some k):(∃ n xs,x = .obj n∧h[n]?=some (.lst xs)∧xs.all (D.pl 5)=true∧k = .l xs)∨(x.pl 5=true∧k = .d x):=by
 have fin:∀ {y:D},(if y.pl 5=true then some (Cmp.d y) else none)=some k->y.pl 5=true∧k = .d y:=fun {y} e=>by
   by_cases p:y.pl 5=true
   . rw [if_pos p]at e;cases e;exact ⟨p,rfl⟩
   . rw [if_neg p]at e;cases e
 cases x with
 | obj n =>
   simp only [zb8]at e
   cases q:h[n]? with
   | none=>rw [q]at e;cases e
   | some o =>
     rw [q]at e
     cases o with
     | lst xs =>
       dsimp only at e
       by_cases p:xs.all (D.pl 5)=true
       . rw [if_pos p]at e;cases e;exact .inl ⟨n,xs,rfl,q,p,rfl⟩
       . rw [if_neg p]at e;cases e
     | _=>cases e
 | _=>exact .inr (fin e)
theorem zii (hr:HR F G ρ h H) {x:D}{v:V}{k:Cmp} (r:RD ρ H x v) (e:zb8 h x=some k):Dat H (cvC k) v∧dpt (cvC k)<=100:=by
 rcases zsM e with ⟨n,xs,rfl,q,p,rfl⟩ | ⟨p,rfl⟩
 . obtain ⟨a,vs,rfl,ea,h1,h2⟩:=hr.lst r q
   obtain ⟨h3,h4⟩:=(zrO 5).2 xs vs p h2
   unfold cvC Dat dpt
   exact ⟨⟨a,vs,rfl,.inl h1,h3⟩,by omega⟩
 . obtain ⟨h1,h2⟩:=(zrO 5).1 _ v p r
   exact ⟨h1,Nat.le_trans h2 (by decide)⟩
theorem ztU {x:D}{k:Cmp} (e:zb8 h x=some k):match k with
   | .d y=>y.pl 5=true
   | .l ys=>ys.all (D.pl 5)=true:=by
 rcases zsM e with ⟨n,xs,rfl,q,p,rfl⟩ | ⟨p,rfl⟩
 . exact p
 . exact p
theorem zsQ (xs:List L2.D) (y:D):eqD (.lst xs) (cv y)=false∧eqD (cv y) (.lst xs)=false:=by
 cases y <;> simp [cv,eqD]
theorem ztG {x y:D}{k l:Cmp} (e:zb8 h x=some k) (e':zb8 h y=some l):eqD (cvC k) (cvC l)=k.eq l:=by
 have p:=ztU e
 have q:=ztU e'
 cases k with
 | d x =>
   cases l with
   | d y=>exact (zrF 5).1 x y p q
   | l ys=>exact (zsQ _ _).2
 | l xs =>
   cases l with
   | d y=>exact (zsQ _ _).1
   | l ys =>
     show eqD (.lst (cvs xs)) (.lst (cvs ys))=zb5 xs ys
     unfold eqD
     exact (zrF 5).2 xs ys p q
theorem zAH:OpM W G eqV ziQ:=fun F ρ h H env σ x y v u Q er hr r1 r2 w=>by
 unfold eqV at w
 cases e1:zb8 h x with
 | none=>rw [e1]at w;exact w.elim
 | some k =>
   cases e2:zb8 h y with
   | none=>rw [e1,e2]at w;exact w.elim
   | some l =>
     rw [e1,e2]at w
     obtain ⟨h1,h2⟩:=zii hr r1 e1
     obtain ⟨h3,h4⟩:=zii hr r2 e2
     exact ⟨_,_,h1,h3,h2,w.done er hr (by rw [ztG e1 e2];unfold RD;rfl)⟩
theorem zES:OpM W G neV zjc:=fun F ρ h H env σ x y v u Q er hr r1 r2 w=>by
 unfold neV at w
 cases e1:zb8 h x with
 | none=>rw [e1]at w;exact w.elim
 | some k =>
   cases e2:zb8 h y with
   | none=>rw [e1,e2]at w;exact w.elim
   | some l =>
     rw [e1,e2]at w
     obtain ⟨h1,h2⟩:=zii hr r1 e1
     obtain ⟨h3,h4⟩:=zii hr r2 e2
     exact ⟨_,_,h1,h3,h2,w.done er hr (by rw [ztG e1 e2];unfold RD;rfl)⟩
theorem zgz (hr:zP k X.A):OpR X (compareOp .Lt) (rI0 fun i j=> .bl (decide (i < j)))∧OpM W G ltV (rI0 fun i j=> .bl (decide (i < j))):=⟨zDX,zpD _⟩
theorem zis (hr:zP k X.A):OpR X (compareOp .LtE) (rI0 fun i j=> .bl (decide (i<=j)))∧OpM W G leV (rI0 fun i j=> .bl (decide (i<=j))):=⟨zDo,zpD _⟩
theorem zh1 (hr:zP k X.A):OpR X (compareOp .Gt) (rI0 fun i j=> .bl (decide (j < i)))∧OpM W G gtV (rI0 fun i j=> .bl (decide (j < i))):=⟨zFp,zpD _⟩
theorem zdF (hr:zP k X.A):OpR X (compareOp .Eq) ziQ∧OpM W G eqV ziQ:=⟨zBI hr,zAH⟩
theorem zdJ (hr:zP k X.A):OpR X (compareOp .NotEq) zjc∧OpM W G neV zjc:=⟨zCA hr,zES⟩
theorem ztl {d:D}{v:V} (r:RD ρ H d v) (f:zbV d=true):zb6 v=true:=by
 cases d <;> first | (simp [zbV]at f;done) | (unfold RD at r;subst r;rfl)
theorem zsF:∀ {ds:List D}{vs:List V},RDs ρ H ds vs->ds.all zbV=true->vs.all zb6=true
 | [],vs,r,_=>by unfold RDs at r;subst r;rfl
 | d :: ds,vs,r,f=>by
   unfold RDs at r
   obtain ⟨x,q,rfl,r1,r2⟩:=r
   rw [List.all_cons,Bool.and_eq_true]at f
   rw [List.all_cons,ztl r1 f.1,zsF r2 f.2];rfl
theorem zBU {d e:D}{v u:V} (r:RD ρ H d v) (r':RD ρ H e u) (f:zbV d=true) (f':zbV e=true):L2.eqV v u=peq d e:=by
 cases d <;> first
   | (simp [zbV]at f;done)
   | (cases e <;> first
     | (simp [zbV]at f';done)
     | (unfold RD at r r';subst r r';simp [L2.eqV,peq]))
theorem zrS {d:D}{v:V} (r:RD ρ H d v) (f:zbV d=true):∀ {ds:List D}{vs:List V},RDs ρ H ds vs->ds.all zbV=true->L2.inV v vs=inB d ds
 | [],vs,r',_=>by unfold RDs at r';subst r';rfl
 | e :: ds,vs,r',f'=>by
   unfold RDs at r'
   obtain ⟨x,q,rfl,r1,r2⟩:=r'
   rw [List.all_cons,Bool.and_eq_true]at f'
   have ih:=zrS r f r2 f'.2
   unfold L2.inV inB at ih ⊢
   rw [List.any_cons,List.any_cons,ih,zBU r1 r f'.1 f]
theorem zpr:∀ {kvs:List (Int×D)}{vs:List (Key×V)}{k:Int},KRs ρ H kvs vs->match look k kvs with
   | some d=>∃ v,zds vs (Sum.inl k)=some v∧RD ρ H d v
   | none=>zds vs (Sum.inl k)=none
 | [],vs,k,r=>by unfold KRs at r;subst r;rfl
 | p :: kvs,vs,k,r=>by
   unfold KRs at r
   obtain ⟨v,q,rfl,r1,r2⟩:=r
   unfold look
   by_cases e:p.1=k
   . rw [if_pos e]
     exact ⟨v,ziF (by rw [e]),r1⟩
   . rw [if_neg e,zja (fun z=>e (Sum.inl.inj z))]
     exact zpr r2
noncomputable def zfa (neg:Bool):R2:=fun x y H Q=>∃ a o,y = .ref a∧zeP H a x o∧Q (.bl (if neg then !o.isSome else o.isSome)) H
theorem zDE (hr:zP k X.A):OpR X (compareOp .In) (zfa false):=fun pins s σ H x y v u Q I rx ry ⟨a,o,e,g,q⟩=>by
 subst e;cases ry
 exact zDB (zi1 hr) I g rx fun s' I'=>⟨.bl o.isSome,H,I',rfl,q⟩
theorem zAi (hr:zP k X.A):OpR X (compareOp .NotIn) (zfa true):=fun pins s σ H x y v u Q I rx ry ⟨a,o,e,g,q⟩=>by
 subst e;cases ry
 exact zDU (zi1 hr) I g rx fun s' I'=>⟨.bl (!o.isSome),H,I',rfl,q⟩
theorem zsN {x y:D}:(∃ b,inV x y env h = .ok (.bl b) h)∨inV x y env h = .bad:=by
 cases y with
 | tup ds =>
   simp only [inV]
   split
   . exact .inl ⟨_,rfl⟩
   . exact .inr rfl
 | obj n =>
   simp only [inV]
   cases q:h[n]? with
   | none=>exact .inr rfl
   | some o =>
     cases o with
     | lst xs =>
       dsimp only
       split
       . exact .inl ⟨_,rfl⟩
       . exact .inr rfl
     | scr xs =>
       dsimp only
       split
       . exact .inl ⟨_,rfl⟩
       . exact .inr rfl
     | dic kvs=>cases x <;> first | exact .inl ⟨_,rfl⟩ | exact .inr rfl
     | _=>exact .inr rfl
 | _=>exact .inr rfl
theorem ztb {x y:D}{v u:V}{neg b:Bool}{Q:VK} (hK:X.K=G.K) (hr:HR F G ρ h H) (r1:RD ρ H x v) (r2:RD ρ H y u) (w:inV x y env h = .ok (.bl b) h) (q0:Q (.bl (if neg then !b else b)) H) :
   rIn X.K neg v u H Q∨zfa neg v u H Q:=by
 have seq:∀ {p:Addr} {vs:List V} {ds:List D},u = .ref p->(SqL X.K H p vs∨SqT X.K H p vs)->RDs ρ H ds vs->(if (zbV x && ds.all zbV)=true then R.ok (.bl (inB x ds)) h else .bad:R D) = .ok (.bl b) h->rIn X.K neg v u H Q:=fun {p vs ds} e sq rs w=>by
   by_cases f:(zbV x && ds.all zbV)=true
   . rw [if_pos f]at w
     cases w
     rw [Bool.and_eq_true]at f
     refine ⟨p,vs,e,sq,ztl r1 f.1,zsF rs f.2,?_⟩
     rw [zrS r1 f.1 rs f.2]
     exact q0
   . rw [if_neg f]at w;cases w
 cases y with
 | tup ds =>
   simp only [inV]at w
   unfold RD at r2
   obtain ⟨p,vs,e,hp,rs⟩:=r2
   exact .inl (seq e (.inr (.inl (.inl hp))) rs w)
 | obj n =>
   simp only [inV]at w
   cases q:h[n]? with
   | none=>rw [q]at w;cases w
   | some o =>
     rw [q]at w
     cases o with
     | lst xs =>
       obtain ⟨a,vs,e,ea,h1,h2⟩:=hr.lst r2 q
       exact .inl (seq e (.inl (SqL.of h1)) h2 w)
     | scr xs =>
       obtain ⟨a,vs,e,ea,h1,h2⟩:=hr.scr r2 q
       exact .inl (seq e (.inl (by rw [hK];exact h1)) h2 w)
     | dic kvs =>
       obtain ⟨a,vs,e,ea,h1,h2⟩:=hr.dic r2 q
       cases x with
       | int i =>
         dsimp only at w
         unfold RD at r1
         subst r1
         refine .inr ⟨a,zds vs (Sum.inl i),e,zeP.k (k:=Sum.inl i) h1,?_⟩
         have lv:=zpr (k:=i) h2
         cases el:look i kvs with
         | none=>rw [el]at lv w;cases w;rw [lv];exact q0
         | some d =>
           rw [el]at lv w
           obtain ⟨v',e',_⟩:=lv
           cases w
           rw [e'];exact q0
       | _=>cases w
     | _=>cases w
 | _=>cases w
noncomputable def ROr (r r':R2):R2:=fun x y H Q=>r x y H Q∨r' x y H Q
theorem zFy (hK:X.K=G.K):OpM W G inV (ROr (rIn X.K false) (zfa false)):=fun F ρ h H env σ x y v u Q er hr r1 r2 w=>by
 rcases zsN (x:=x) (y:=y) (env:=env) (h:=h) with ⟨b,e⟩ | e
 . rw [e]at w
   exact ztb (neg:=false) hK hr r1 r2 e (w.done er hr (by unfold RD;rfl))
 . rw [e]at w;exact w.elim
theorem zFj (hK:X.K=G.K):OpM W G zb2 (ROr (rIn X.K true) (zfa true)):=fun F ρ h H env σ x y v u Q er hr r1 r2 w=>by
 unfold zb2 zm at w
 rcases zsN (x:=x) (y:=y) (env:=env) (h:=h) with ⟨b,e⟩ | e
 . rw [e]at w
   exact ztb (neg:=true) hK hr r1 r2 e (wp.done (h:=h) w er hr (by unfold RD;rfl))
 . rw [e]at w;exact w.elim
theorem zfC (hr:zP k X.A) (hK:X.K=G.K:=by rfl):OpR X (compareOp .In) (ROr (rIn X.K false) (zfa false))∧OpM W G inV (ROr (rIn X.K false) (zfa false)):=⟨zCI.or (zDE hr),zFy hK⟩
theorem zhS (hr:zP k X.A) (hK:X.K=G.K:=by rfl):OpR X (compareOp .NotIn) (ROr (rIn X.K true) (zfa true))∧OpM W G zb2 (ROr (rIn X.K true) (zfa true)):=⟨zDz.or (zAi hr),zFj hK⟩
theorem RD.non_iff {d:D}{v:V} (r:RD ρ H d v):(v = .non)↔(d = .non):=by
 cases d <;> unfold RD at r <;> first
   | (subst r;simp;done)
   | (obtain ⟨a,vs,rfl,_⟩:=r;simp;done)
   | (obtain ⟨a,rfl,_⟩:=r;simp;done)
noncomputable def rIs (neg:Bool):R2:=ROr (fun x y H Q=>y = .non∧Q (.bl (if neg then !decide (x = .non) else decide (x = .non))) H) (fun x y H Q=>∃ b c,x = .bl b∧y = .bl c∧Q (.bl (if neg then !(b == c) else (b == c))) H)
theorem zCH:OpM W G isN (rIs false):=fun F ρ h H env σ x y v u Q er hr r1 r2 w=>by
 cases y with
 | non =>
   unfold RD at r2
   refine .inl ⟨r2,?_⟩
   have e:decide (v = .non)=decide (x = .non):=decide_eq_decide.mpr r1.non_iff
   have w':wp F W G rV env σ ρ H (.ok (.bl (decide (x = .non))) h) Q:=by cases x <;> exact w
   exact w'.done er hr (by rw [e];unfold RD;rfl)
 | bl c =>
   cases x with
   | bl b=>unfold RD at r1 r2;exact .inr ⟨b,c,r1,r2,wp.done (h:=h) w er hr (by unfold RD;rfl)⟩
   | _=>exact w.elim
 | _=>cases x <;> exact w.elim
theorem zzP:OpM W G zch (rIs true):=fun F ρ h H env σ x y v u Q er hr r1 r2 w=>by
 cases y with
 | non =>
   unfold RD at r2
   refine .inl ⟨r2,?_⟩
   have e:decide (v = .non)=decide (x = .non):=decide_eq_decide.mpr r1.non_iff
   have w':wp F W G rV env σ ρ H (.ok (.bl (!decide (x = .non))) h) Q:=by cases x <;> exact w
   exact w'.done er hr (by rw [e];unfold RD;rfl)
 | bl c =>
   cases x with
   | bl b=>unfold RD at r1 r2;exact .inr ⟨b,c,r1,r2,wp.done (h:=h) w er hr (by unfold RD;rfl)⟩
   | _=>exact w.elim
 | _=>cases x <;> exact w.elim
theorem zC0 (hr:zP k X.A):OpR X (compareOp .Is) (rIs false)∧OpM W G isN (rIs false):=⟨zFl.or zAF,zCH⟩
theorem zik (hr:zP k X.A):OpR X (compareOp .IsNot) (rIs true)∧OpM W G zch (rIs true):=⟨zDL.or zBr,zzP⟩
theorem zix (ha:JE X a (tE W G ma)):JE X (.UnaryOp .Not a pos) (tE W G (un zfI ma)) :=
 .of (zW (zB5 ha.to) fun σ H Q ⟨F,ρ,env,h,er,hr,w⟩=>⟨F,ρ,env,h,er,hr,zF w fun x h1 ρ1 H1 y e1 er1 hr1 r1 w1=>by
   cases x with
   | bl b=>have r1:RD ρ1 H1 (.bl b) y:=r1;unfold RD at r1;exact ⟨b,r1,wp.done (h:=h1) w1 er1 hr1 (by unfold RD;rfl)⟩
   | _=>exact w1.elim⟩)
variable {rest:List Expr}
theorem zeF {op} (ha:JE X a (tE W G ma)):JE X (.BoolOp op [a] pos) (tE W G ma) := .of (zCR ha.to)
theorem zdD (ha:JE X a (tE W G ma)) (hb:JE X (.BoolOp .And (b :: rest) pos) (tE W G mb)):JE X (.BoolOp .And (a :: b :: rest) pos) (tE W G (zc3 ma mb)) :=
 .of (zW (zBK ha.to hb.to) fun σ H Q ⟨F,ρ,env,h,er,hr,w⟩=>⟨F,ρ,env,h,er,hr,zF w fun x h1 ρ1 H1 y e1 er1 hr1 r1 w1=>by
   cases x with
   | bl b =>
     have r1:RD ρ1 H1 (.bl b) y:=r1
     unfold RD at r1
     refine ⟨b,r1,?_⟩
     cases b with
     | true=>rw [if_pos rfl];exact ⟨F,ρ1,env,h1,er1,hr1,w1⟩
     | false=>rw [if_neg (by decide)];exact wp.done (h:=h1) w1 er1 hr1 (by unfold RD;rfl)
   | _=>exact w1.elim⟩)
theorem zEa (ha:JE X a (tE W G ma)) (hb:JE X (.BoolOp .Or (b :: rest) pos) (tE W G mb)):JE X (.BoolOp .Or (a :: b :: rest) pos) (tE W G (orV ma mb)) :=
 .of (zW (zBO ha.to hb.to) fun σ H Q ⟨F,ρ,env,h,er,hr,w⟩=>⟨F,ρ,env,h,er,hr,zF w fun x h1 ρ1 H1 y e1 er1 hr1 r1 w1=>by
   cases x with
   | bl b =>
     have r1:RD ρ1 H1 (.bl b) y:=r1
     unfold RD at r1
     refine ⟨b,r1,?_⟩
     cases b with
     | false=>rw [if_neg (by decide)];exact ⟨F,ρ1,env,h1,er1,hr1,w1⟩
     | true=>rw [if_pos rfl];exact wp.done (h:=h1) w1 er1 hr1 (by unfold RD;rfl)
   | _=>exact w1.elim⟩)
variable {ta tb:ME Bool}
theorem zhd (hc:JT X c (tT W G ta)) (ha:JE X a (tE W G ma)) (hb:JE X b (tE W G mb)):JE X (.IfExp c a b pos) (tE W G (ifE ta ma mb)) :=
 .of (zW (zz7 hc.to ha.to hb.to) fun σ H Q ⟨F,ρ,env,h,er,hr,w⟩=>⟨F,ρ,env,h,er,hr,zF w fun x h1 ρ1 H1 y e1 er1 hr1 r1 w1=>by
   obtain rfl:x=y:=r1
   cases x with
   | true=>rw [if_pos rfl]at w1 ⊢;exact ⟨F,ρ1,env,h1,er1,hr1,w1⟩
   | false=>rw [if_neg (by decide)]at w1 ⊢;exact ⟨F,ρ1,env,h1,er1,hr1,w1⟩⟩)
theorem zbX (ha:JT X a (tT W G ta)):JT X (.UnaryOp .Not a pos) (tT W G (zO ta)) :=
 .of (zjd (zEZ ha.to) fun σ H Q ⟨F,ρ,env,h,er,hr,w⟩=>⟨F,ρ,env,h,er,hr,zF w fun x h1 ρ1 H1 y e1 er1 hr1 r1 w1=>by
   obtain rfl:x=y:=r1
   exact wp.done (h:=h1) w1 er1 hr1 rfl⟩)
theorem zpq (ha:JT X a (tT W G ta)):JW X (.BoolOp .And [a] pos) (tT W G ta) := .of (zBH ha.to)
theorem zdz (ha:JT X a (tT W G ta)):JW X (.BoolOp .Or [a] pos) (tT W G ta) := .of (zzY ha.to)
theorem zi6 (ha:JT X a (tT W G ta)) (hb:JW X (.BoolOp .And (b :: rest) pos) (tT W G tb)):JW X (.BoolOp .And (a :: b :: rest) pos) (tT W G (zbT ta tb)) :=
 .of (zsV (zEN ha.to hb.to) fun σ H Q ⟨F,ρ,env,h,er,hr,w⟩=>⟨F,ρ,env,h,er,hr,zF w fun x h1 ρ1 H1 y e1 er1 hr1 r1 w1=>by
   obtain rfl:x=y:=r1
   cases x with
   | true=>rw [if_pos rfl]at w1 ⊢;exact ⟨F,ρ1,env,h1,er1,hr1,w1⟩
   | false=>rw [if_neg (by decide)]at w1 ⊢;exact wp.done (h:=h1) w1 er1 hr1 rfl⟩)
theorem zcM (ha:JT X a (tT W G ta)) (hb:JW X (.BoolOp .Or (b :: rest) pos) (tT W G tb)):JW X (.BoolOp .Or (a :: b :: rest) pos) (tT W G (orT ta tb)) :=
 .of (zsV (zAm ha.to hb.to) fun σ H Q ⟨F,ρ,env,h,er,hr,w⟩=>⟨F,ρ,env,h,er,hr,zF w fun x h1 ρ1 H1 y e1 er1 hr1 r1 w1=>by
   obtain rfl:x=y:=r1
   cases x with
   | false=>rw [if_neg (by decide)]at w1 ⊢;exact ⟨F,ρ1,env,h1,er1,hr1,w1⟩
   | true=>rw [if_pos rfl]at w1 ⊢;exact wp.done (h:=h1) w1 er1 hr1 rfl⟩)
theorem t_w (h:JW X a (tT W G ta)):JT X a (tT W G ta) := .of (PW.pt h.to)
theorem zbr (ha:JE X a (tE W G ma)) (he:∀ whole,isTrue a X.env whole=(do let v <- whole;standAt a.pos;holding [v] (truthy v))) (hK:X.K=G.K:=by rfl):JT X a (tT W G (tru ma)) :=
 .of (zjd (zFh ha.to he) fun σ H Q ⟨F,ρ,env,h,er,hr,w⟩=>⟨F,ρ,env,h,er,hr,zF w fun x h1 ρ1 H1 y e1 er1 hr1 r1 w1=>by
   unfold zhj at w1
   have r1:RD ρ1 H1 x y:=r1
   cases x with
   | non=>unfold RD at r1;subst r1;exact ⟨false,rfl,wp.done (h:=h1) w1 er1 hr1 rfl⟩
   | bl b=>unfold RD at r1;subst r1;exact ⟨b,rfl,wp.done (h:=h1) w1 er1 hr1 rfl⟩
   | int i=>unfold RD at r1;subst r1;exact ⟨i != 0,rfl,wp.done (h:=h1) w1 er1 hr1 rfl⟩
   | tup ds =>
     unfold RD at r1
     obtain ⟨p,vs,rfl,hp,rs⟩:=r1
     refine ⟨!ds.isEmpty,.inr (.inl ⟨vs,.inl (.inl hp),?_⟩),wp.done (h:=h1) w1 er1 hr1 rfl⟩
     have:=rs.length
     cases ds <;> cases vs <;> first | rfl | simp at this
   | obj n =>
     dsimp only at w1
     cases q:h1[n]? with
     | none=>rw [q]at w1;exact w1.elim
     | some o =>
       rw [q]at w1
       cases o with
       | lst xs =>
         obtain ⟨p,vs,rfl,ea,hp,rs⟩:=hr1.lst r1 q
         refine ⟨!xs.isEmpty,.inl ⟨vs,SqL.of hp,?_⟩,wp.done (h:=h1) w1 er1 hr1 rfl⟩
         have:=rs.length
         cases xs <;> cases vs <;> first | rfl | simp at this
       | scr xs =>
         obtain ⟨p,vs,rfl,ea,hp,rs⟩:=hr1.scr r1 q
         refine ⟨!xs.isEmpty,.inl ⟨vs,by rw [hK];exact hp,?_⟩,wp.done (h:=h1) w1 er1 hr1 rfl⟩
         have:=rs.length
         cases xs <;> cases vs <;> first | rfl | simp at this
       | dic kvs =>
         obtain ⟨p,vs,rfl,ea,hp,rs⟩:=hr1.dic r1 q
         refine ⟨!kvs.isEmpty,.inr (.inr ⟨vs,hp,?_⟩),wp.done (h:=h1) w1 er1 hr1 rfl⟩
         cases kvs with
         | nil=>unfold KRs at rs;subst rs;rfl
         | cons p r=>unfold KRs at rs;obtain ⟨v,q,rfl,_⟩:=rs;rfl
       | _=>exact w1.elim
   | _=>exact w1.elim⟩)
end
end MI
end
section
namespace MI
open PySem PySem.Spec L2
section
variable {α β γ δ:Type}{W:Nat->Hp->Prop}{F:Addr->Prop}{G:GP}{Rl:RL α β}{Rl':RL γ δ}{env:zx}{σ:L2.St}{ρ:List Addr}{H:Hp}{h:MH}
theorem zsw {r:R α}{Rl2:RL α δ}{Q:δ->Hp->Prop}{P:β->Hp->Prop} (w:wp F W G Rl2 env σ ρ H r Q)
   (f:∀ x h1 ρ1 H1 y,Ext F ρ ρ1 H H1->zX ρ1 H1 env σ->HR F G ρ1 h1 H1->Rl F ρ1 h1 H1 x y->wp F W G Rl2 env σ ρ1 H1 (.ok x h1) Q->P y H1):wp F W G Rl env σ ρ H r P:=by
 cases r with
 | ok v h1=>exact fun ρ1 H1 y ex er hr rl=>f v h1 ρ1 H1 y ex er hr rl (w.mono ex)
 | ex c h1=>exact w
 | bad=>exact w
end
section
variable {W:Nat->Hp->Prop}{X:Cx}{F:Addr->Prop}{G:GP}{env:zx}{σ:L2.St}{ρ:List Addr}{H:Hp}{h:MH}{a b c e:Expr}{es:List Expr}{ma mb mc:ME D}{ml ml':ME (List D)}{pos p p1 p2:Pos}{Q:VK}{k:Nat}
theorem zl:JA X [] (tA W G ze) := .of (ztz zc5 fun σ H Q ⟨F,ρ,env,h,er,hr,w⟩=>wp.done (h:=h) w er hr RDs.nil)
theorem zd (ha:JE X e (tE W G ma)) (hr:JA X es (tA W G ml)) (hs:starEach (e :: es) X.env=(false,eval e X.env) :: starEach es X.env):JA X (e :: es) (tA W G (za ma ml)) :=
 .of (ztz (zcP ha.to hr.to hs) fun σ H Q ⟨F,ρ,env,h,er,hr,w⟩=>⟨F,ρ,env,h,er,hr,zF w fun x h1 ρ1 H1 y e1 er1 hr1 r1 w1=>⟨F,ρ1,env,h1,er1,hr1,zF w1 fun xs h2 ρ2 H2 ys e2 er2 hr2 r2 w2 =>
   wp.done (h:=h2) w2 er2 hr2 (RDs.cons (RD.ext e2 _ _ r1) r2)⟩⟩)
theorem ziG {n:Nat} (h:n<=1000000):n<=sizeLine:=by rw [sizeLine_eq];omega
theorem zck {x1} (ha:JA X es (tA W G ml)):JE X (.Tuple es x1 pos) (tE W G (zM ml)) :=
 .of (zW (zBx ha.to) fun σ H Q ⟨F,ρ,env,h,er,hr,w⟩=>⟨F,ρ,env,h,er,hr,zF w fun xs h1 ρ1 H1 ys e1 er1 hr1 r1 w1=>by
   by_cases hl:xs.length<=1000
   . rw [if_pos hl]at w1
     have r1:RDs ρ1 H1 xs ys:=r1
     refine ⟨ziG (by rw [<- r1.length];omega),fun p hp=>?_⟩
     refine wp.made (h:=h1) w1 er1 hr1 hp ?_
     show RD ρ1 (upd H1 p (.tup ys)) (.tup xs) (.ref p)
     unfold RD
     exact ⟨p,ys,rfl,zcy,RDs.ext (zcq hr1 hp) _ _ r1⟩
   . rw [if_neg hl]at w1;exact w1.elim⟩)
theorem zgI {p:Addr}{xs:List D}{vs:List V} (hr:HR F G ρ h H) (hp:H p=none) (r:RDs ρ H xs vs):rN G.K F ρ h (upd H p (.lst vs)) xs (.ref p):=⟨p,vs,rfl,zcy,hr.fresh hp,RDs.ext (zcq hr hp) _ _ r⟩
theorem zc9 (ha:JA X es (tA W G ml)):JE X (.List es pos) (tN W G (zbq ml)) :=
 .of (zW (zBq ha.to) fun σ H Q ⟨F,ρ,env,h,er,hr,w⟩=>⟨F,ρ,env,h,er,hr,zF w fun xs h1 ρ1 H1 ys e1 er1 hr1 r1 w1=>by
   by_cases hl:xs.length<=1000
   . rw [if_pos hl]at w1
     have r1:RDs ρ1 H1 xs ys:=r1
     exact ⟨ziG (by rw [<- r1.length];omega),fun p hp=>wp.made (h:=h1) w1 er1 hr1 hp (zgI hr1 hp r1)⟩
   . rw [if_neg hl]at w1;exact w1.elim⟩)
theorem zsn {a:Addr}{vs:List V}{xs:List D}{Q:VK} (w:wp F W G rV env σ ρ H (zhf (.lst xs) env h) Q) (er:zX ρ H env σ) (hr:HR F G ρ h H) (ha:H a=some (.lst vs)) (fr:zfH F ρ h a) (r:RDs ρ H xs vs):Q (.ref a) H:=by
 have ex:Ext F ρ (ρ++[a]) H H:=⟨⟨[a],rfl⟩,fun _ _ z=>z,fun _ _=>rfl⟩
 refine w (ρ++[a]) H (.ref a) ex (er.ext ex) (hr.named fr ⟨vs,ha,RDs.snocρ _ _ r⟩) ?_
 show RD _ _ (.obj h.length) (.ref a)
 unfold RD
 exact ⟨a,rfl,by rw [<- hr.len];simp⟩
theorem zbO (ha:JE X e (tN W G ml)):JE X e (tE W G (zN ml)) :=
 .of (zW ha.to fun σ H Q ⟨F,ρ,env,h,er,hr,w⟩=>⟨F,ρ,env,h,er,hr,zF w fun xs h1 ρ1 H1 y e1 er1 hr1 ⟨a,vs,ey,ha,fr,r1⟩ w1=>by
   subst ey;exact zsn w1 er1 hr1 ha fr r1⟩)
theorem ze1 (ha:JE X e (tN W G ml)):JE X e (tL W G ml) :=
 .of (zW ha.to fun σ H Q ⟨F,ρ,env,h,er,hr,w⟩=>⟨F,ρ,env,h,er,hr,zsw w fun x h1 ρ1 H1 y e1 er1 hr1 ⟨a,vs,ey,ha,fr,r1⟩ w1=>by
   subst ey;exact w1.done er1 hr1 ⟨a,vs,rfl,ha,r1⟩⟩)
theorem zEr {n:Nat}{y:V}{P:Prop}{β:Type}{Rl:RL (List D) β}{Q:β->Hp->Prop} (w:wp F W G Rl env σ ρ H (zcc n env h) Q) (hr:HR F G ρ h H) (r:RD ρ H (.obj n) y)
   (f:∀ a vs xs,y = .ref a->ρ[n]?=some a->H a=some (.lst vs)->RDs ρ H xs vs->h[n]?=some (.lst xs)->wp F W G Rl env σ ρ H (.ok xs h) Q->P):P:=by
 simp only [zcc]at w
 cases q:h[n]? with
 | none=>rw [q]at w;exact w.elim
 | some o =>
   rw [q]at w
   cases o with
   | lst xs=>obtain ⟨a,vs,ea,e1,h1,h2⟩:=hr.lst r q;exact f a vs xs ea e1 h1 h2 q w
   | _=>exact w.elim
theorem zs6 {γ δ:Type}{Rl':RL γ δ}{n:Nat}{y:V}{P:Prop}{Q:δ->Hp->Prop}{kk:List D->ME γ} (w:wp F W G Rl' env σ ρ H (zm (zcc n) kk env h) Q) (hr:HR F G ρ h H) (r:RD ρ H (.obj n) y)
   (f:∀ a vs xs,y = .ref a->ρ[n]?=some a->H a=some (.lst vs)->RDs ρ H xs vs->h[n]?=some (.lst xs)->wp F W G Rl' env σ ρ H (kk xs env h) Q->P):P:=by
 simp only [zm,zcc]at w
 cases q:h[n]? with
 | none=>rw [q]at w;exact w.elim
 | some o =>
   rw [q]at w
   cases o with
   | lst xs=>obtain ⟨a,vs,ea,e1,h1,h2⟩:=hr.lst r q;exact f a vs xs ea e1 h1 h2 q w
   | _=>exact w.elim
theorem zgH (ha:JE X e (tE W G ma)):JE X e (tL W G (zc0 ma)) :=
 .of (zW ha.to fun σ H Q ⟨F,ρ,env,h,er,hr,w⟩=>⟨F,ρ,env,h,er,hr,zF w fun x h1 ρ1 H1 y e1 er1 hr1 r1 w1=>by
   cases x with
   | obj n=>exact zEr w1 hr1 r1 fun a vs xs ey _ ha rs _ w2=>by subst ey;exact w2.done er1 hr1 ⟨a,vs,rfl,ha,rs⟩
   | _=>exact w1.elim⟩)
theorem RDs.atI {xs:List D}{vs:List V}{i:Int}{d:D} (r:RDs ρ H xs vs) (e:MI.atI xs i=some d):∃ v,L2.atI vs i=some v∧RD ρ H d v:=by
 unfold MI.atI at e
 unfold L2.atI
 rw [Option.bind_eq_some_iff]at e
 obtain ⟨j,e1,e2⟩:=e
 obtain ⟨v,e3,e4⟩:=r.get e2
 exact ⟨v,by rw [<- r.length];show (MI.ixN xs.length i).bind _=_;rw [e1];exact e3,e4⟩
noncomputable def zE6:R2:=fun x y H Q=>∃ a v,x = .ref a∧zeP H a y (some v)∧Q v H
theorem zC9 (hr:zP k X.A):IxR X zE6:=by
 intro value slice pins s σ H x y v u Q I rx ry h hs
 obtain ⟨a,z,rfl,g,q⟩:=h
 cases rx
 have hT:=zB7 I g
 unfold PyProof.Rows.subscriptTail
 refine wpAny_bind ?_
 rw [getitemInPython_of_ne hT.not_modules]
 refine wpAny_bind (wpAny_specialOf hT PySem.F.slot_dict_getitem.lookup ?_)
 have fin:wpAny (model X.prog X.w) X.A (subscripted slice false (.ref a) u) (fun r s₃=>wpAny (model X.prog X.w) X.A (letTemporaryGo value (.ref a) r >>= fun _=>pure r) (EP X pins σ Q) X.xe s₃) X.xe s:=by
   rw [hs]
   exact wpAny_operating (zE5 (zi1 hr) I g ry fun w' s3 I3 rw'=>wpAny_bind (wpAny_letTemporaryGo (wpAny_pure ⟨z,H,I3,rw',q⟩)))
 first
   | exact wpAny_pure (wpAny_bind fin)
   | exact wpAny_bind (wpAny_pure (wpAny_bind fin))
   | exact wpAny_bind fin
theorem zy (rm:zP k X.A) (ha:JE X a (tE W G ma)) (hb:JE X b (tE W G mb)) (hs:zsk b) (hK:X.K=G.K:=by rfl):JE X (.Subscript a b pos) (tE W G (bin zi ma mb)) :=
 .of (zW (zCE (zFf.or (zE7.or (zC9 rm))) ha.to hb.to hs) fun σ H Q ⟨F,ρ,env,h,er,hr,w⟩=>⟨F,ρ,env,h,er,hr,zF w fun x h1 ρ1 H1 y e1 er1 hr1 r1 w1=>⟨F,ρ1,env,h1,er1,hr1,zF w1 fun x2 h2 ρ2 H2 y2 e2 er2 hr2 r2 w2=>by
   have r1:RD ρ2 H2 x y:=RD.ext e2 _ _ r1
   have r2:RD ρ2 H2 x2 y2:=r2
   cases x with
   | tup ds =>
     cases x2 with
     | int i =>
       simp only [zi]at w2
       unfold RD at r1 r2
       obtain ⟨p,vs,rfl,hp,rs⟩:=r1
       cases q:MI.atI ds i with
       | none=>rw [q]at w2;exact w2.elim
       | some d =>
         rw [q]at w2
         obtain ⟨v,e3,e4⟩:=rs.atI q
         exact .inr (.inl ⟨p,vs,i,v,rfl,r2,SqT.of hp,e3,w2.done er2 hr2 e4⟩)
     | _=>exact w2.elim
   | obj n =>
     cases x2 with
     | int i =>
       simp only [zi]at w2
       have r2':=r2
       unfold RD at r2'
       cases qo:h2[n]? with
       | none=>rw [qo]at w2;exact w2.elim
       | some o =>
         rw [qo]at w2
         cases o with
         | lst xs =>
           obtain ⟨p,vs,rfl,ea,hp,rs⟩:=hr2.lst r1 qo
           dsimp only at w2
           cases q:MI.atI xs i with
           | none=>rw [q]at w2;exact w2.elim
           | some d =>
             rw [q]at w2
             obtain ⟨v,e3,e4⟩:=rs.atI q
             exact .inl ⟨p,vs,i,v,rfl,r2',SqL.of hp,e3,w2.done er2 hr2 e4⟩
         | scr xs =>
           obtain ⟨p,vs,rfl,ea,hp,rs⟩:=hr2.scr r1 qo
           dsimp only at w2
           cases q:MI.atI xs i with
           | none=>rw [q]at w2;exact w2.elim
           | some d =>
             rw [q]at w2
             obtain ⟨v,e3,e4⟩:=rs.atI q
             exact .inl ⟨p,vs,i,v,rfl,r2',by rw [hK];exact hp,e3,w2.done er2 hr2 e4⟩
         | dic kvs =>
           obtain ⟨p,vs,rfl,ea,hp,rs⟩:=hr2.dic r1 qo
           dsimp only at w2
           have lv:=zpr (k:=i) rs
           cases q:look i kvs with
           | none=>rw [q]at w2;exact w2.elim
           | some d =>
             rw [q]at w2 lv
             obtain ⟨v,e3,e4⟩:=lv
             subst r2'
             exact .inr (.inr ⟨p,v,rfl,by rw [<- e3];exact zeP.k (k:=Sum.inl i) hp,w2.done er2 hr2 e4⟩)
         | _=>exact w2.elim
     | _=>exact w2.elim
   | _=>cases x2 <;> exact w2.elim⟩⟩)
theorem ziU:JO X none (tO W G noP) := .of (zsv zsE fun σ H Q ⟨F,ρ,env,h,er,hr,w⟩=>wp.done (h:=h) w er hr rfl)
theorem ziy (ha:JE X a (tE W G ma)):JO X (some a) (tO W G (zfR ma)) :=
 .of (zsv (zpo ha.to) fun σ H Q ⟨F,ρ,env,h,er,hr,w⟩=>⟨F,ρ,env,h,er,hr,zF w fun x h1 ρ1 H1 y e1 er1 hr1 r1 w1=>by
   cases x with
   | int i=>have r1:RD ρ1 H1 (.int i) y:=r1;unfold RD at r1;exact ⟨i,r1,wp.done (h:=h1) w1 er1 hr1 rfl⟩
   | _=>exact w1.elim⟩)
variable {lo hi:Option Expr}{ol oh:ME (Option Int)}
theorem zje (n d:Nat) (o:Option Int):MI.sIx n d o=HT.sIx n d o:=by
 cases o with
 | none=>rfl
 | some v =>
   show (if v < 0 then max (v+(n:Int)) 0 else min v (n:Int)).toNat=_
   rw [HT.clip_eq v n d]
   simp
theorem RDs.cutV {xs:List D}{vs:List V} (r:RDs ρ H xs vs) (l u:Option Int):RDs ρ H (MI.cut xs l u) (L2.cutV vs l u):=by
 unfold MI.cut L2.cutV
 rw [zje,zje,r.length]
 exact (r.drop _).take _
theorem zpW (ha:JE X a (tE W G ma)) (hl:JO X lo (tO W G ol)) (hh:JO X hi (tO W G oh)):JE X (.Subscript a (.Slice lo hi none p2) pos) (tN W G (zhm ma ol oh)) :=
 .of (zW (zt8 zAD ha.to hl.to hh.to) fun σ H Q ⟨F,ρ,env,h,er,hr,w⟩=>⟨F,ρ,env,h,er,hr,zF w fun x h1 ρ1 H1 y e1 er1 hr1 r1 w1=>⟨F,ρ1,env,h1,er1,hr1,zF w1 fun l h2 ρ2 H2 l' e2 er2 hr2 r2 w2 =>
   ⟨F,ρ2,env,h2,er2,hr2,zF w2 fun u h3 ρ3 H3 u' e3 er3 hr3 r3 w3=>by
     have r1:RD ρ3 H3 x y:=RD.ext (e2.trans e3) _ _ r1
     obtain rfl:l=l':=r2
     obtain rfl:u=u':=r3
     cases x with
     | obj n =>
       exact zs6 w3 hr3 r1 fun p vs xs ey _ hp rs eq w4=>⟨p,vs,ey,SqL.of hp,fun q hq=>wp.made (h:=h3) w4 er3 hr3 hq (zgI hr3 hq (rs.cutV l u))⟩
     | _=>exact w3.elim⟩⟩⟩)
theorem zCy (ha:JE X a (tE W G ma)) (hl:JO X lo (tO W G ol)) (hh:JO X hi (tO W G oh)):JE X (.Subscript a (.Slice lo hi none p2) pos) (tE W G (zh3 ma ol oh)) :=
 .of (zW (zt8 zBp ha.to hl.to hh.to) fun σ H Q ⟨F,ρ,env,h,er,hr,w⟩=>⟨F,ρ,env,h,er,hr,zF w fun x h1 ρ1 H1 y e1 er1 hr1 r1 w1=>⟨F,ρ1,env,h1,er1,hr1,zF w1 fun l h2 ρ2 H2 l' e2 er2 hr2 r2 w2 =>
   ⟨F,ρ2,env,h2,er2,hr2,zF w2 fun u h3 ρ3 H3 u' e3 er3 hr3 r3 w3=>by
     have r1:RD ρ3 H3 x y:=RD.ext (e2.trans e3) _ _ r1
     obtain rfl:l=l':=r2
     obtain rfl:u=u':=r3
     cases x with
     | tup ds =>
       by_cases hc:(MI.cut ds l u).length < ds.length
       . dsimp only at w3
         rw [if_pos hc]at w3
         unfold RD at r1
         obtain ⟨p,vs,rfl,hp,rs⟩:=r1
         refine ⟨p,vs,rfl,SqT.of hp,fun z=>?_,fun q hq=>wp.made (h:=h3) w3 er3 hr3 hq ?_⟩
         . rw [<- rs.length,<- zje,<- zje]at z
           unfold MI.cut at hc
           rw [z.1,z.2]at hc
           simp at hc
         . show RD ρ3 _ (.tup (MI.cut ds l u)) _
           unfold RD
           exact ⟨q,_,rfl,zcy,RDs.ext (zcq hr3 hq) _ _ (rs.cutV l u)⟩
       . dsimp only at w3
         rw [if_neg hc]at w3;exact w3.elim
     | _=>exact w3.elim⟩⟩⟩)
theorem zEl {p3 p4 p5:Pos}{k1 k2:Nat} (ha:JE X a (tE W G ma)):JE X (.Subscript a (.Slice (some (.Constant (.int 1) k1 p3)) none (some (.UnaryOp .USub (.Constant (.int 1) k2 p5) p4)) p2) pos) (tE W G (zhC ma)) :=
 .of (zW (zDK ha.to (zpo zpg) zsE (zpo (zt5 zui zpg))) fun σ H Q ⟨F,ρ,env,h,er,hr,w⟩=>⟨F,ρ,env,h,er,hr,zF w fun x h1 ρ1 H1 y e1 er1 hr1 r1 w1=>by
   have r1:RD ρ1 H1 x y:=r1
   refine ⟨1,rfl,1,rfl,-1,rfl,rfl,rfl,rfl,?_⟩
   cases x with
   | tup ds =>
     unfold RD at r1
     obtain ⟨q,vs,rfl,hp,rs⟩:=r1
     match ds,w1 with
     | [d1,d2,d3],w1 =>
       unfold RDs at rs
       obtain ⟨v1,r',rfl,rd1,rs⟩:=rs
       unfold RDs at rs
       obtain ⟨v2,r',rfl,rd2,rs⟩:=rs
       unfold RDs at rs
       obtain ⟨v3,r',rfl,rd3,rs⟩:=rs
       unfold RDs at rs
       subst rs
       refine ⟨q,v1,v2,v3,rfl,hp,fun b hb=>wp.made (h:=h1) w1 er1 hr1 hb ?_⟩
       show RD ρ1 _ (.tup [d2,d1]) _
       unfold RD
       exact ⟨b,_,rfl,zcy,RDs.ext (zcq hr1 hb) _ _ (RDs.cons rd2 (RDs.cons rd1 RDs.nil))⟩
     | [],w1=>exact w1.elim
     | [_],w1=>exact w1.elim
     | [_,_],w1=>exact w1.elim
     | _ :: _ :: _ :: _ :: _,w1=>exact w1.elim
   | _=>exact w1.elim⟩)
end
end MI
end
section
namespace MI
open PySem PySem.Spec L2
section
variable {W:Nat->Hp->Prop}{X:Cx}{F:Addr->Prop}{G:GP}{env:zx}{σ:L2.St}{ρ:List Addr}{H:Hp}{h:MH}{a b c e o:Expr}{es:List Expr}{ma mb mc:ME D}{ml ml':ME (List D)}{pos p p1 p2 apos:Pos}{Q:VK}{k:Nat}
theorem zpP (ha:JE X a (tE W G ma)) (hb:JE X b (tL W G ml)):JE X (.BinOp a .Add b pos) (tN W G (zfD ma ml)) :=
 .of (zW (zsx zD2 ha.to hb.to) fun σ H Q ⟨F,ρ,env,h,er,hr,w⟩=>⟨F,ρ,env,h,er,hr,zF w fun x h1 ρ1 H1 y e1 er1 hr1 r1 w1=>⟨F,ρ1,env,h1,er1,hr1,zF w1 fun ys h2 ρ2 H2 y2 e2 er2 hr2 ⟨q,us,ey,hq,rs2⟩ w2=>by
   subst ey
   have r1:RD ρ2 H2 x y:=RD.ext e2 _ _ r1
   cases x with
   | obj n =>
     refine zs6 w2 hr2 r1 fun p vs xs ey _ hp rs eq w3=>?_
     by_cases hl:xs.length+ys.length<=1000000
     . rw [if_pos hl]at w3
       exact ⟨p,q,vs,us,ey,rfl,hp,hq,ziG (by rw [<- rs.length,<- rs2.length];exact hl),fun d hd=>wp.made (h:=h2) w3 er2 hr2 hd (zgI hr2 hd (RDs.append rs2 rs))⟩
     . rw [if_neg hl]at w3;exact w3.elim
   | _=>exact w2.elim⟩⟩)
theorem zeA {α:Type}{Rl:RL α V}{m:ME α}{P:List V->Hp->Prop} (hw:tG W G Rl m σ H (fun y H1=>P [y] H1)):zsg (tG W G Rl m) zpB σ H P:=hw
theorem ziR (hg:Gl X "all") (hm:X.mg "all" = none) (ha:JE X e (tL W G ml)) (hs:starEach [e] X.env=(false,eval e X.env) :: starEach [] X.env) (hc:X.calm=true:=by rfl):JE X (.Call (.Name "all" p) [e] [] pos) (tE W G (zgs ml)) :=
 .of (zW (ze9 (zCW hc) hg hm (by decide +kernel) (zcP ha.to zc5 hs) (he:=hs)) fun σ H Q ⟨F,ρ,env,h,er,hr,w⟩=>zeA ⟨F,ρ,env,h,er,hr,zF w fun xs h1 ρ1 H1 y e1 er1 hr1 ⟨q,us,ey,hq,rs⟩ w1=>by
   subst ey
   cases eb:zcI xs with
   | none=>rw [eb]at w1;exact w1.elim
   | some bs =>
     rw [eb]at w1
     have e2:=RDs.of_bools eb rs
     subst e2
     exact ⟨q,bs,rfl,SqL.of hq,wp.done (h:=h1) w1 er1 hr1 (by unfold RD;rfl)⟩⟩)
theorem zp0 (hg:Gl X "any") (hm:X.mg "any" = none) (ha:JE X e (tL W G ml)) (hs:starEach [e] X.env=(false,eval e X.env) :: starEach [] X.env) (hc:X.calm=true:=by rfl):JE X (.Call (.Name "any" p) [e] [] pos) (tE W G (zeq ml)) :=
 .of (zW (ze9 (zAG hc) hg hm (by decide +kernel) (zcP ha.to zc5 hs) (he:=hs)) fun σ H Q ⟨F,ρ,env,h,er,hr,w⟩=>zeA ⟨F,ρ,env,h,er,hr,zF w fun xs h1 ρ1 H1 y e1 er1 hr1 ⟨q,us,ey,hq,rs⟩ w1=>by
   subst ey
   cases eb:zcI xs with
   | none=>rw [eb]at w1;exact w1.elim
   | some bs =>
     rw [eb]at w1
     have e2:=RDs.of_bools eb rs
     subst e2
     exact ⟨q,bs,rfl,SqL.of hq,wp.done (h:=h1) w1 er1 hr1 (by unfold RD;rfl)⟩⟩)
theorem zdy (hg:Gl X "len") (hm:X.mg "len" = none) (ha:JE X e (tE W G ma)) (hs:starEach [e] X.env=(false,eval e X.env) :: starEach [] X.env) (hK:X.K=G.K:=by rfl):JE X (.Call (.Name "len" p) [e] [] pos) (tE W G (zbU (zbW ma))) :=
 .of (zW (ze9 zCs hg hm PySem.boot_len (zcP ha.to zc5 hs) (he:=hs)) fun σ H Q ⟨F,ρ,env,h,er,hr,w⟩=>zeA ⟨F,ρ,env,h,er,hr,by
   have w':wp F W G rV env σ ρ H (zm ma (fun x=>zm (fun _ h=>match x with
     | .obj n=>(match h[n]? with
       | some (.lst xs)=>R.ok xs h
       | some (.scr xs)=> .ok xs h
       | _=> .bad)
     | .tup ds=> .ok ds h
     | _=> .bad) fun xs=>zb (.int xs.length)) env h) Q:=by
     have e:zbU (zbW ma) env h=(zm ma (fun x=>zm (fun _ h=>match x with
       | .obj n=>(match h[n]? with
         | some (.lst xs)=>R.ok xs h
         | some (.scr xs)=> .ok xs h
         | _=> .bad)
       | .tup ds=> .ok ds h
       | _=> .bad) fun xs=>zb (.int xs.length)) env h):=by
       unfold zbU zbW zm
       cases ma env h <;> rfl
     rw [<- e];exact w
   refine zF w' fun x h1 ρ1 H1 y e1 er1 hr1 r1 w1=>?_
   have r1:RD ρ1 H1 x y:=r1
   cases x with
   | tup ds =>
     unfold RD at r1
     obtain ⟨q,vs,rfl,hp,rs⟩:=r1
     exact ⟨q,vs,rfl,.inr (SqT.of hp),wp.done (h:=h1) w1 er1 hr1 (by rw [rs.length];unfold RD;rfl)⟩
   | obj n =>
     simp only [zm]at w1
     cases qo:h1[n]? with
     | none=>rw [qo]at w1;exact w1.elim
     | some o =>
       rw [qo]at w1
       cases o with
       | lst xs =>
         obtain ⟨q,vs,rfl,ea,hp,rs⟩:=hr1.lst r1 qo
         exact ⟨q,vs,rfl,.inl (SqL.of hp),wp.done (h:=h1) w1 er1 hr1 (by rw [rs.length];unfold RD;rfl)⟩
       | scr xs =>
         obtain ⟨q,vs,rfl,ea,hp,rs⟩:=hr1.scr r1 qo
         exact ⟨q,vs,rfl,.inl (by rw [hK];exact hp),wp.done (h:=h1) w1 er1 hr1 (by rw [rs.length];unfold RD;rfl)⟩
       | _=>exact w1.elim
   | _=>exact w1.elim⟩)
theorem zp1 (hg:Gl X "list") (hm:X.mg "list" = none) (ha:JE X e (tL W G ml)) (hs:starEach [e] X.env=(false,eval e X.env) :: starEach [] X.env):JE X (.Call (.Name "list" p) [e] [] pos) (tN W G ml) :=
 .of (zW (ziE zBb hg hm (by decide +kernel) (zcP ha.to zc5 hs) (he:=hs)) fun σ H Q ⟨F,ρ,env,h,er,hr,w⟩=>zeA ⟨F,ρ,env,h,er,hr,zsw w fun xs h1 ρ1 H1 y e1 er1 hr1 ⟨q,us,ey,hq,rs⟩ w1=>by
   subst ey
   exact ⟨q,us,rfl,.inl (SqL.of hq),fun d hd=>w1.made er1 hr1 hd (zgI hr1 hd rs)⟩⟩)
theorem zzX (hg:Gl X "abs") (hm:X.mg "abs" = none) (ha:JE X e (tE W G ma)) (hs:starEach [e] X.env=(false,eval e X.env) :: starEach [] X.env):JE X (.Call (.Name "abs" p) [e] [] pos) (tE W G (zeO ma)) :=
 .of (zW (ze9 zBP hg hm (by decide +kernel) (zcP ha.to zc5 hs) (he:=hs)) fun σ H Q ⟨F,ρ,env,h,er,hr,w⟩=>zeA ⟨F,ρ,env,h,er,hr,zF w fun x h1 ρ1 H1 y e1 er1 hr1 r1 w1=>by
   cases x with
   | int i=>have r1:RD ρ1 H1 (.int i) y:=r1;unfold RD at r1;subst r1;exact ⟨i,rfl,wp.done (h:=h1) w1 er1 hr1 (by unfold RD;rfl)⟩
   | _=>exact w1.elim⟩)
end
end MI
end
section
namespace MI
open PySem PySem.Spec L2
theorem zp3:∀ (ns acc seen:List Int),(∀ x,x∈seen↔x∈acc)->ns.foldl PyProof.Rows.step_dedup acc=acc++zbv seen ns
 | [],acc,seen,_=>by simp [zbv]
 | n :: ns,acc,seen,hs=>by
   rw [List.foldl_cons]
   unfold zbv
   by_cases hn:n∈acc
   . rw [if_pos ((hs n).mpr hn)]
     have e:PyProof.Rows.step_dedup acc n=acc:=by
       unfold PyProof.Rows.step_dedup
       rw [if_pos (by simpa using hn)]
     rw [e]
     exact zp3 ns acc seen hs
   . rw [if_neg (fun z=>hn ((hs n).mp z))]
     have e:PyProof.Rows.step_dedup acc n=acc++[n]:=by
       unfold PyProof.Rows.step_dedup
       rw [if_neg (by simpa using hn)]
     rw [e,zp3 ns (acc++[n]) (n :: seen) (fun x=>by simp [hs x,or_comm])]
     simp
theorem zr2 (ns:List Int):zcG ns=zbv [] ns:=by
 unfold zcG PyProof.Rows.firstMet
 have e:(List.range ns.length).map (fun i=>ns.getD i 0)=ns:=by
   apply List.ext_getElem?
   intro i
   rw [List.getElem?_map]
   by_cases hi:i < ns.length
   . simp [hi]
   . simp [hi]
 rw [e,zp3 ns [] [] (fun _=>Iff.rfl)]
 simp
theorem zpa (x:Int):∀ l:List Int,(zcv x l).Perm (x :: l)
 | []=>by simp [zcv]
 | y :: r=>by
   unfold zcv
   by_cases h:x<=y
   . rw [if_pos h]
   . rw [if_neg h]
     exact ((zpa x r).cons y).trans (List.Perm.swap x y r)
theorem sortI_perm:∀ l:List Int,(sortI l).Perm l
 | []=>by simp [sortI]
 | y :: r=>by
   show (zcv y (sortI r)).Perm _
   exact (zpa y _).trans ((sortI_perm r).cons y)
theorem zsR (x:Int):∀ l:List Int,l.Pairwise (· <= ·)->(zcv x l).Pairwise (· <= ·)
 | [],_=>by simp [zcv]
 | y :: r,h=>by
   unfold zcv
   rw [List.pairwise_cons]at h
   by_cases hx:x<=y
   . rw [if_pos hx]
     refine List.pairwise_cons.mpr ⟨fun z hz=>?_,List.pairwise_cons.mpr h⟩
     rcases List.mem_cons.mp hz with e | hz
     . rw [e];exact hx
     . exact Int.le_trans hx (h.1 z hz)
   . rw [if_neg hx]
     refine List.pairwise_cons.mpr ⟨fun z hz=>?_,zsR x r h.2⟩
     rcases List.mem_cons.mp ((zpa x r).mem_iff.mp hz) with e | hz
     . rw [e];omega
     . exact h.1 z hz
theorem sortI_sorted:∀ l:List Int,(sortI l).Pairwise (· <= ·)
 | []=>by simp [sortI]
 | y :: r=>zsR y _ (sortI_sorted r)
theorem sorted_unique:∀ {l m:List Int},l.Perm m->l.Pairwise (· <= ·)->m.Pairwise (· <= ·)->l=m
 | [],m,p,_,_=>by simpa using p
 | x :: l,m,p,hl,hm=>by
   cases m with
   | nil=>simp at p
   | cons y m =>
     rw [List.pairwise_cons]at hl hm
     have h1:x∈y :: m:=p.mem_iff.mp List.mem_cons_self
     have h2:y∈x :: l:=p.mem_iff.mpr List.mem_cons_self
     have e:x=y:=by
       rcases List.mem_cons.mp h1 with e | h1
       . exact e
       . rcases List.mem_cons.mp h2 with e | h2
         . exact e.symm
         . have a:=hl.1 y h2
           have b:=hm.1 x h1
           omega
     subst e
     rw [sorted_unique (List.perm_cons x |>.mp p) hl.2 hm.2]
section
variable {W:Nat->Hp->Prop}{X:Cx}{F:Addr->Prop}{G:GP}{env:zx}{σ:L2.St}{ρ:List Addr}{H:Hp}{h:MH}{a b c e o:Expr}{es:List Expr}{ma mb mc:ME D}{ml ml':ME (List D)}{pos p p1 p2 apos:Pos}{Q:VK}{k:Nat}
theorem ztv (hg:Gl X "len") (hm:X.mg "len" = none) (hg':Gl X "set") (hm':X.mg "set" = none) (ha:JE X e (tL W G ml)) (hs:starEach [e] X.env=(false,eval e X.env) :: starEach [] X.env) (hc:X.calm=true:=by rfl) :
   JE X (.Call (.Name "len" p) [.Call (.Name "set" p1) [e] [] p2] [] pos) (tE W G (zhI ml)) :=
 .of (zW (ze9 zAq hg hm PySem.boot_len (zcP (ziE (zDF hc) hg' hm' (by decide +kernel) (zcP ha.to zc5 hs) (he:=hs)) zc5 zbN) (he:=zbN)) fun σ H Q ⟨F,ρ,env,h,er,hr,w⟩=>by
   refine zeA (Rl:=rL G.K) (m:=ml) (P:=fun vs H1=>∃ (a:Addr) (ns:List Int),vs=[.ref a]∧SqL X.K H1 a (ns.map V.int)∧ns.length < 4000∧∀ p,H1 p=none->(∃ p' S n,[V.ref p]=[.ref p']∧(upd H1 p (.set (fun k=>(zcG ns).any (· == k)) (zcG ns).length)) p'=some (.set S n)∧Q (.int n) (upd H1 p (.set (fun k=>(zcG ns).any (· == k)) (zcG ns).length)))) ⟨F,ρ,env,h,er,hr,?_⟩
   refine zF w fun xs h1 ρ1 H1 y e1 er1 hr1 ⟨q,us,ey,hq,rs⟩ w1=>?_
   subst ey
   cases eb:zcl xs with
   | none=>rw [eb]at w1;exact w1.elim
   | some ns =>
     rw [eb]at w1
     have e2:=RDs.of_ints eb rs
     subst e2
     by_cases hl:ns.length < 4000
     . dsimp only at w1
       rw [if_pos hl]at w1
       refine ⟨q,ns,rfl,SqL.of hq,hl,fun d hd=>⟨d,_,_,rfl,zcy,?_⟩⟩
       exact wp.made (h:=h1) w1 er1 hr1 hd (by rw [zr2];unfold RD;rfl)
     . dsimp only at w1
       rw [if_neg hl]at w1;exact w1.elim)
theorem zDd {a:Expr}{ta:TE} (hc:X.calm=true) (hg:Gl X "list") (hm:X.mg "list" = none) (hg':Gl X "range") (hm':X.mg "range" = none) (ha:PE X a ta) (hs:starEach [a] X.env=(false,eval a X.env) :: starEach [] X.env) :
   PE X (.Call (.Name "list" p) [.Call (.Name "range" p1) [a] [] p2] [] pos) (fun σ H Q=>ta σ H fun x H1=>∃ j:Int,x = .int j∧-1000000<=j∧j<=1000000∧∀ q,H1 q=none->Q (.ref q) (upd H1 q (.lst ((List.range j.toNat).map fun (k:Nat)=>V.int k)))):=by
 intro pins s σ H Q I h
 have hbl:bootBuiltins ("list":Str)=some (.type "list"):=by decide +kernel
 have hbr:bootBuiltins ("range":Str)=some (.type "range"):=by decide +kernel
 refine wpAny_Call_Name_kw (zgC I hg hm hbl ?_ (by decide) (by decide))
 refine PyProof.Rows.callWith_type1 (pos:=pos) ?_ zbN rfl
 rw [zbN]
 refine Calls.spliced_cons (wpAny_Call_Name_kw (zgC I hg' hm' hbr ?_ (by decide) (by decide)))
 refine PyProof.Rows.callWith_type1 (pos:=p2) ?_ hs rfl
 rw [hs]
 refine Calls.spliced_cons (thn (ha pins s σ H _ I h) fun v s1 ⟨x,H1,I1,r1,q1⟩=>Calls.spliced_nil ?_)
 obtain ⟨j,e,j1,j2,q⟩:=q1
 subst e
 obtain ⟨t,rfl⟩:=r1
 refine call_range_1 (Calls.spliced_nil ?_)
 have hsz:Builtin.Range.rangeSize 0 j 1=(j.toNat:Nat):=by rw [rangeSize_one];split <;> omega
 have I2:Inv X pins σ H1 { s1 with heap:=s1.heap.push { cls := .type "range",data := .fields #[.int 0 s1.toks,.int j t,.int 1 (s1.toks+1)] },toks:=s1.toks+1+1 }:=I1.kept fun b o e=>Heap.get?_push_of_some _ e
 refine call_list_range (n:=j.toNat) (I.ok.hd hc) (IsRange.new ..) (small_one (by omega) (by omega) (by omega) (by omega)) hsz (by omega) fun h' tk acc' c' hk hat hit=>?_
 refine ⟨.ref _,_,I2.laid (h':=h') (t':=tk) (o := .lst ((List.range j.toNat).map fun (k:Nat)=>V.int k)) hk (Nat.le_refl _) ?_,rfl,q _ (I2.hok.fresh (Nat.le_refl _))⟩
 refine ⟨?_,acc'.toList,c',?_,by rw [Array.toArray_toList];exact hat⟩
 . rw [List.length_map,List.length_range];exact ziG (by omega)
 . obtain ⟨hs1,hs2⟩:=hit
   have key:∀ (n:Nat) (l:List Value),l.length=n->(∀ (i:Nat) v,l[i]?=some v->∃ t,v=Value.int (i:Int) t)->zA ((List.range n).map fun (k:Nat)=>V.int k) l:=by
     intro n
     induction n with
     | zero=>intro l hl _;cases l <;> simp at hl;exact .nil
     | succ n ih =>
       intro l hl hv
       have e:l=l.dropLast++[l.getLast (by intro z;rw [z]at hl;cases hl)]:=(List.dropLast_concat_getLast _).symm
       rw [List.range_succ,List.map_append,e]
       refine zA.append (ih _ (by rw [List.length_dropLast];omega) fun i v hi=>hv i v ?_) ?_
       . rw [e,List.getElem?_append_left (List.getElem?_eq_some_iff.mp hi).1];exact hi
       . have hne:l≠[]:=by intro z;rw [z]at hl;cases hl
         obtain ⟨t',ht'⟩:=hv n (l.getLast hne) (by rw [List.getLast_eq_getElem];simp [hl])
         exact .cons ⟨t',ht'⟩ .nil
   refine key _ _ (by rw [Array.length_toList];exact hs1) fun i v hi=>?_
   obtain ⟨t',ht'⟩:=hs2 i v (by simpa using hi)
   exact ⟨t',by rw [ht'];simp⟩
theorem zEk (hg:Gl X "list") (hm:X.mg "list" = none) (hg':Gl X "range") (hm':X.mg "range" = none) (ha:JE X e (tE W G ma)) (hs:starEach [e] X.env=(false,eval e X.env) :: starEach [] X.env) (hc:X.calm=true:=by rfl) :
   JE X (.Call (.Name "list" p) [.Call (.Name "range" p1) [e] [] p2] [] pos) (tN W G (ziI ma)) :=
 .of (zW (zDd hc hg hm hg' hm' ha.to hs) fun σ H Q ⟨F,ρ,env,h,er,hr,w⟩=>⟨F,ρ,env,h,er,hr,zF w fun x h1 ρ1 H1 y e1 er1 hr1 r1 w1=>by
   cases x with
   | int i =>
     have r1:RD ρ1 H1 (.int i) y:=r1
     unfold RD at r1
     by_cases hl:-1000000<=i∧i<=1000000
     . dsimp only at w1
       rw [if_pos hl]at w1
       refine ⟨i,r1,hl.1,hl.2,fun d hd=>wp.made (h:=h1) w1 er1 hr1 hd (zgI hr1 hd ?_)⟩
       have:=RDs.ints (ρ:=ρ1) (H:=H1) ((List.range i.toNat).map fun (k:Nat)=>(k:Int))
       rw [List.map_map,List.map_map]at this
       exact this
     . dsimp only at w1
       rw [if_neg hl]at w1;exact w1.elim
   | _=>exact w1.elim⟩)
end
end MI
end
section
namespace MI
open PySem PySem.Spec L2
noncomputable def tyN:Ty->String
 | .int => "int"
 | .bool => "bool"
 | .str => "str"
 | .list => "list"
 | .tuple => "tuple"
 | .dict => "dict"
section
variable {W:Nat->Hp->Prop}{X:Cx}{F:Addr->Prop}{G:GP}{env:zx}{σ:L2.St}{ρ:List Addr}{H:Hp}{h:MH}{a b c e o:Expr}{es:List Expr}{ma mb mc mo:ME D}{ml ml':ME (List D)}{pos p p1 p2 apos cpos:Pos}{Q:VK}{k:Nat}
theorem zCS {t:Ty}{x:D}{v:V}{b:Bool} (hr:HR F G ρ h H) (r:RD ρ H x v) (e:zcg h t x=some b):∃ u,zdv X.K H v u∧PySem.W.kitOne X.K u (.type (tyN t))=some b:=by
 cases x with
 | non=>unfold RD at r;subst r;cases e;exact ⟨_,.non,by cases t <;> rfl⟩
 | bl x=>unfold RD at r;subst r;cases e;exact ⟨_,.bl x,by cases t <;> rfl⟩
 | int x=>unfold RD at r;subst r;cases e;exact ⟨_,.int x,by cases t <;> rfl⟩
 | str x=>unfold RD at r;subst r;cases e;exact ⟨_,.str x,by cases t <;> rfl⟩
 | tup ds =>
   unfold RD at r
   obtain ⟨q,vs,rfl,hq,_⟩:=r
   cases e;exact ⟨_,.tup hq,by cases t <;> rfl⟩
 | obj n =>
   simp only [zcg]at e
   cases qo:h[n]? with
   | none=>rw [qo]at e;cases e
   | some o =>
     rw [qo]at e
     cases o with
     | lst xs =>
       obtain ⟨q,vs,rfl,_,hq,_⟩:=hr.lst r qo
       cases e;exact ⟨_,.lst hq,by cases t <;> rfl⟩
     | dic xs =>
       obtain ⟨q,vs,rfl,_,hq,_⟩:=hr.dic r qo
       cases e;exact ⟨_,.dK hq,by cases t <;> rfl⟩
     | _=>cases e
theorem zdH {t:Ty}{x:Str} (hg:Gl X "isinstance") (hm:X.mg "isinstance" = none) (hg':Gl X x) (hm':X.mg x=none) (ha:JE X e (tE W G ma)) (hs:starEach [e,.Name x p1] X.env=(false,eval e X.env) :: starEach [.Name x p1] X.env)
   (hv:bootBuiltins x=some (.type (tyN t)):=by decide +kernel) (hn:x ≠ "__name__":=by decide) (hd:(x == ("__debug__":Str))=false:=by decide):JE X (.Call (.Name "isinstance" p) [e,.Name x p1] [] pos) (tE W G (zcj t ma)) :=
 .of (zW (ze9 ztA hg hm (by decide +kernel) (zcP ha.to (zcP (zC3 (v := .ty (tyN t)) hg' hm' hv rfl hn hd) zc5 zg) hs) (he:=hs) (hpl:=by rw [zg];rfl)) fun σ H Q ⟨F,ρ,env,h,er,hr,w⟩=>by
   refine ⟨F,ρ,env,h,er,hr,zF w fun x' h1 ρ1 H1 y e1 er1 hr1 r1 w1=>?_⟩
   cases eb:zcg h1 t x' with
   | none=>rw [eb]at w1;exact w1.elim
   | some b =>
     rw [eb]at w1
     obtain ⟨u,h2,h3⟩:=zCS (X:=X) hr1 r1 eb
     exact ⟨y,u,b,h2,.inl ⟨_,rfl,h3⟩,wp.done (h:=h1) w1 er1 hr1 (by unfold RD;rfl)⟩)
theorem zek {sub att:Nat->Nat->Bool}{ci:Nat}{C:Addr}{x:Str} (ok:G.Ok sub att) (hC:G.cm[ci]?=some C) (hg:Gl X "isinstance") (hm:X.mg "isinstance" = none) (hg':Gl X x) (hm':X.mg x=some (.ref C)) (ha:JE X e (tE W G ma))
   (hs:starEach [e,.Name x p1] X.env=(false,eval e X.env) :: starEach [.Name x p1] X.env) (hK:X.K=G.K:=by rfl) (hd:(x == ("__debug__":Str))=false:=by decide):JE X (.Call (.Name "isinstance" p) [e,.Name x p1] [] pos) (tE W G (zw sub ci ma)) :=
 .of (zW (ze9 ztA hg hm (by decide +kernel) (zcP ha.to (zcP (zrU (v := .ref C) hg' hm' rfl hd) zc5 zg) hs) (he:=hs) (hpl:=by rw [zg];rfl)) fun σ H Q ⟨F,ρ,env,h,er,hr,w⟩=>by
   refine ⟨F,ρ,env,h,er,hr,zF w fun x' h1 ρ1 H1 y e1 er1 hr1 r1 w1=>?_⟩
   have r1:RD ρ1 H1 x' y:=r1
   cases x' with
   | obj n =>
     dsimp only at w1
     cases qo:h1[n]? with
     | none=>rw [qo]at w1;exact w1.elim
     | some o =>
       rw [qo]at w1
       cases o with
       | ins c fs =>
         obtain ⟨q,C',dx,vs,rfl,_,hC',hq,_⟩:=hr1.ins r1 qo
         obtain ⟨h2,h3⟩:=ok.cls c C' hC'
         refine ⟨.ref q,.ref C',sub c ci,.ins hq (by rw [hK];exact h2) (by rw [hK];exact h3.ha) (by rw [hK];exact h3.hn) (by rw [hK];exact h3.htk) (by rw [hK];exact h3.hm),.inr ⟨C,rfl,?_⟩,wp.done (h:=h1) w1 er1 hr1 (by unfold RD;rfl)⟩
         rw [hK];exact ok.isa c ci C' C hC' hC
       | _=>exact w1.elim
   | _=>exact w1.elim)
theorem zsK {l:List Str} (hl:l.Nodup) {i j:Nat}{x:Str} (h1:l[i]?=some x) (h2:l[j]?=some x):i=j:=zpk hl h1 h2
theorem FRs.lookup {C:Addr} (nd:G.an.Nodup) {f:Str}{kk:Nat} (hf:G.an[kk]?=some f):∀ {fs:List (Nat×D)}{vs:List (Str×V)}{d:D},FRs G ρ H C fs vs->fs.lookup kk=some d->∃ v,vs.lookup f=some v∧RD ρ H d v∧zb4 G.K C f
 | [],vs,d,r,e=>by simp at e
 | p :: fs,vs,d,r,e=>by
   unfold FRs at r
   obtain ⟨g,v,q,rfl,h1,h2,h3,h4⟩:=r
   obtain ⟨i,d'⟩:=p
   rw [List.lookup_cons]at e
   by_cases hi:kk=i
   . subst hi
     simp at e
     subst e
     rw [hf]at h1;cases h1
     exact ⟨v,by rw [List.lookup_cons];simp,h3,h2⟩
   . have b:(kk == i)=false:=by simpa using hi
     rw [b]at e
     obtain ⟨v',e1,e2,e3⟩:=FRs.lookup nd hf h4 e
     refine ⟨v',?_,e2,e3⟩
     have hne:¬ f=g:=fun z=>hi (zsK nd (z ▸ hf) h1)
     have b':(f == g)=false:=by simpa using hne
     rw [List.lookup_cons,b']
     exact e1
theorem FRs.none {C:Addr}{f:Str} (hf:∀ kk:Nat,G.an[kk]?≠some f):∀ {fs:List (Nat×D)}{vs:List (Str×V)},FRs G ρ H C fs vs->vs.lookup f=none
 | [],vs,r=>by unfold FRs at r;subst r;rfl
 | p :: fs,vs,r=>by
   unfold FRs at r
   obtain ⟨g,v,q,rfl,h1,h2,h3,h4⟩:=r
   have hne:¬ f=g:=fun z=>hf p.1 (z ▸ h1)
   have b':(f == g)=false:=by simpa using hne
   rw [List.lookup_cons,b']
   exact FRs.none hf h4
theorem FRs.put {C:Addr} (nd:G.an.Nodup) {f:Str}{kk:Nat}{d:D}{v:V} (hf:G.an[kk]?=some f) (hn:zb4 G.K C f) (rd:RD ρ H d v):∀ {fs:List (Nat×D)}{vs:List (Str×V)},FRs G ρ H C fs vs->FRs G ρ H C (zfh kk d fs) (zcp f v vs)
 | [],vs,r=>by
   unfold FRs at r;subst r
   show FRs G ρ H C [(kk,d)] [(f,v)]
   unfold FRs
   exact ⟨f,v,[],rfl,hf,hn,rd,by unfold FRs;rfl⟩
 | p :: fs,vs,r=>by
   unfold FRs at r
   obtain ⟨g,u,q,rfl,h1,h2,h3,h4⟩:=r
   unfold zfh zcp
   by_cases hi:p.1=kk
   . rw [if_pos hi]
     rw [hi,hf]at h1;cases h1
     rw [if_pos rfl]
     unfold FRs
     exact ⟨f,v,q,rfl,hf,hn,rd,h4⟩
   . rw [if_neg hi]
     have hne:¬ g=f:=fun z=>hi (zsK nd (z ▸ h1) hf)
     rw [if_neg hne]
     unfold FRs
     exact ⟨g,u,_,rfl,h1,h2,h3,FRs.put nd hf hn rd h4⟩
theorem zc2 {sub att:Nat->Nat->Bool}{kk:Nat}{f:Str} (ok:G.Ok sub att) (hf:G.an[kk]?=some f) (ha:JE X e (tE W G ma)) (hb:attributeBase e f X.env (eval e X.env)=eval e X.env) (hK:X.K=G.K:=by rfl):JE X (.Attribute e f pos) (tE W G (fld kk ma)) :=
 .of (zW (zEq ha.to hb) fun σ H Q ⟨F,ρ,env,h,er,hr,w⟩=>⟨F,ρ,env,h,er,hr,zF w fun x h1 ρ1 H1 y e1 er1 hr1 r1 w1=>by
   have r1:RD ρ1 H1 x y:=r1
   cases x with
   | obj n =>
     dsimp only at w1
     cases qo:h1[n]? with
     | none=>rw [qo]at w1;exact w1.elim
     | some o =>
       rw [qo]at w1
       cases o with
       | ins c fs =>
         dsimp only at w1
         obtain ⟨q,C,dx,vs,rfl,_,hC,hq,rs⟩:=hr1.ins r1 qo
         cases ql:fs.lookup kk with
         | none=>rw [ql]at w1;exact w1.elim
         | some d =>
           rw [ql]at w1
           obtain ⟨v,h2,h3,h4⟩:=rs.lookup ok.nd hf ql
           exact ⟨q,C,dx,vs,v,rfl,hq,by rw [hK];exact (ok.cls c C hC).1,by rw [hK];exact h4,h2,wp.done (h:=h1) w1 er1 hr1 h3⟩
       | _=>exact w1.elim
   | _=>exact w1.elim⟩)
theorem zsh {q:Addr}{u:HO}{ob:O}{Q:VK} (w:wp F W G rV env σ ρ H (zhf ob env h) Q) (er:zX ρ H env σ) (hr:HR F G ρ h H) (hq:H q=none) (ro:RO G (ρ++[q]) (upd H q u) q ob):Q (.ref q) (upd H q u):=by
 have ex:Ext F ρ (ρ++[q]) H (upd H q u):=⟨⟨[q],rfl⟩,(zcq hr hq).tup,(zcq hr hq).frm⟩
 refine w (ρ++[q]) _ (.ref q) ex (er.ext ex) ((hr.new hq).named (hr.fresh hq) ro) ?_
 show RD _ _ (.obj h.length) (.ref q)
 unfold RD
 exact ⟨q,rfl,by rw [<- hr.len];simp⟩
theorem zDa:JE X (.Dict [] [] pos) (tE W G zpV) :=
 .of (zW zBy fun σ H Q ⟨F,ρ,env,h,er,hr,w⟩=>fun q hq=>zsh w er hr hq ⟨[],zcy,by unfold KRs;rfl⟩)
theorem zss {n:Nat}{q:Addr}{xs ys:List D}{us vs:List V}{Q:VK}{d:D}{v:V} (w:wp F W G rV env σ ρ H (.ok d (h.set n (.lst ys))) Q) (er:zX ρ H env σ) (hr:HR F G ρ h H) (e:h[n]?=some (.lst xs)) (eq:ρ[n]?=some q) (hq:H q=some (.lst us))
   (rs:RDs ρ H ys vs) (rd:RD ρ H d v):Q v (upd H q (.lst vs)):=by
 have tp:Ext (fun _=>False) ρ ρ H (upd H q (.lst vs)):=by
   refine ⟨⟨[],by simp⟩,fun b xs z=>?_,fun _ z=>z.elim⟩
   rw [zV]
   . exact z
   . intro zz;subst zz;rw [hq]at z;cases z
 obtain ⟨ex,hr'⟩:=hr.write (o1 := .lst ys) (u := .lst vs) e eq rfl rfl hq trivial ⟨vs,zcy,RDs.ext tp _ _ rs⟩
 exact w ρ _ v ex (er.ext ex) hr' (RD.ext ex _ _ rd)
theorem zBL {x:D}{kk:Unit->ME D}{Q:VK} (w:wp F W G rV env σ ρ H (zm (isL x) kk env h) Q):∃ n xs,x = .obj n∧h[n]?=some (.lst xs)∧wp F W G rV env σ ρ H (kk () env h) Q:=by
 cases x with
 | obj n =>
   simp only [zm,isL]at w
   cases qo:h[n]? with
   | none=>rw [qo]at w;exact w.elim
   | some o =>
     rw [qo]at w
     cases o with
     | lst xs=>exact ⟨n,xs,rfl,qo,w⟩
     | _=>exact w.elim
 | _=>exact w.elim
theorem zff (ho:JE X o (tE W G mo)) (ha:JE X e (tE W G ma)) (hs:starEach [e] X.env=(false,eval e X.env) :: starEach [] X.env) (hbase:attributeBase o "append" X.env (eval o X.env)=eval o X.env:=by rfl)
   (hfew:((backTo cpos (starEach [e] X.env)).all (fun x=>!x.1) && (backToKw cpos (keywordEach [] X.env)).all (fun x=>x.1.isSome) && decide (([e]:List Expr).length+([]:List Keyword).length+(if ([]:List Keyword).isEmpty then 0 else 1) < 30))=true:=by rfl)
   (hline:(apos.endLine == cpos.line)=true:=by rfl):JE X (.Call (.Attribute o "append" apos) [e] [] cpos) (tE W G (zbg mo ma)) :=
 .of (zW (zEW PySem.F.plainAttrs_list PySem.F.slot_list_append PySem.F.type_list_append ztI ho.to (zcP ha.to zc5 hs) hbase hfew hline hs) fun σ H Q ⟨F,ρ,env,h,er,hr,w⟩=>⟨F,ρ,env,h,er,hr,zF w fun x h1 ρ1 H1 y e1 er1 hr1 r1 w1=>by
   obtain ⟨n,xs,rfl,qo,w2⟩:=zBL w1
   obtain ⟨q,vs,rfl,_,hq,_⟩:=hr1.lst r1 qo
   refine ⟨.inl ⟨rfl,_,SqL.of hq⟩,zeA ⟨F,ρ1,env,h1,er1,hr1,zF w2 fun z h2 ρ2 H2 yz e2 er2 hr2 r2 w3=>?_⟩⟩
   dsimp only at w3
   cases qo2:h2[n]? with
   | none=>rw [qo2]at w3;exact w3.elim
   | some o2 =>
     rw [qo2]at w3
     cases o2 with
     | lst xs2 =>
       dsimp only at w3
       by_cases hl:xs2.length < 1000000
       . rw [if_pos hl]at w3
         obtain ⟨q2,vs2,ev,eq2,hq2,rs2⟩:=hr2.lst (RD.ext e2 _ _ r1) qo2
         cases ev
         exact ⟨q,vs2,yz,rfl,rfl,hq2,by rw [<- rs2.length,sizeLine_eq];omega,zss w3 er2 hr2 qo2 eq2 hq2 (rs2.snoc r2) (by unfold RD;rfl)⟩
       . rw [if_neg hl]at w3;exact w3.elim
     | _=>exact w3.elim⟩)
theorem zEP (ho:JE X o (tE W G mo)) (hbase:attributeBase o "reverse" X.env (eval o X.env)=eval o X.env:=by rfl) (hline:(apos.endLine == cpos.line)=true:=by rfl):JE X (.Call (.Attribute o "reverse" apos) [] [] cpos) (tE W G (zio mo)) :=
 .of (zW (zDl PySem.F.plainAttrs_list PySem.F.slot_list_reverse PySem.F.type_list_reverse zFt ho.to hbase hline) fun σ H Q ⟨F,ρ,env,h,er,hr,w⟩=>⟨F,ρ,env,h,er,hr,zF w fun x h1 ρ1 H1 y e1 er1 hr1 r1 w1=>by
   cases x with
   | obj n =>
     dsimp only at w1
     cases qo:h1[n]? with
     | none=>rw [qo]at w1;exact w1.elim
     | some o =>
       rw [qo]at w1
       cases o with
       | lst xs =>
         obtain ⟨q,vs,rfl,eq,hq,rs⟩:=hr1.lst r1 qo
         exact ⟨.inl ⟨rfl,_,SqL.of hq⟩,q,vs,rfl,rfl,hq,zss w1 er1 hr1 qo eq hq rs.reverse (by unfold RD;rfl)⟩
       | _=>exact w1.elim
   | _=>exact w1.elim⟩)
end
end MI
end
section
namespace MI
open PySem PySem.Spec L2
noncomputable def wpS (F:Addr->Prop) (W:Nat->Hp->Prop) (G:GP) (ρ:List Addr) (H:Hp) (r:RS) (E:zfQ):Prop:=match r with
 | .nx e h1=>∀ ρ1 H1 σ1,Ext F ρ ρ1 H H1->zX ρ1 H1 e σ1->HR F G ρ1 h1 H1->E.nx σ1 H1
 | .bk e h1=>∀ ρ1 H1 σ1,Ext F ρ ρ1 H H1->zX ρ1 H1 e σ1->HR F G ρ1 h1 H1->E.bk σ1 H1
 | .ct e h1=>∀ ρ1 H1 σ1,Ext F ρ ρ1 H H1->zX ρ1 H1 e σ1->HR F G ρ1 h1 H1->E.ct σ1 H1
 | .rt v h1=>∀ ρ1 H1 v1,Ext F ρ ρ1 H H1->HR F G ρ1 h1 H1->RD ρ1 H1 v v1->E.rt v1 H1
 | .ex c h1=>∀ ρ1 H1,Ext F ρ ρ1 H H1->HR F G ρ1 h1 H1->W c H1
 | .bad=>False
noncomputable def tS (W:Nat->Hp->Prop) (G:GP) (m:MS):TS:=fun E σ H=>∃ F ρ env h,zX ρ H env σ∧HR F G ρ h H∧wpS F W G ρ H (m env h) E
section
variable {F:Addr->Prop}{W:Nat->Hp->Prop}{G:GP}{env:zx}{σ:L2.St}{ρ ρ1:List Addr}{H H1:Hp}{h h1:MH}{E:zfQ}
theorem wpS.mono {r:RS} (w:wpS F W G ρ H r E) (e:Ext F ρ ρ1 H H1):wpS F W G ρ1 H1 r E:=by
 cases r with
 | nx v h1=>exact fun ρ2 H2 v1 e2=>w ρ2 H2 v1 (e.trans e2)
 | bk v h1=>exact fun ρ2 H2 v1 e2=>w ρ2 H2 v1 (e.trans e2)
 | ct v h1=>exact fun ρ2 H2 v1 e2=>w ρ2 H2 v1 (e.trans e2)
 | rt v h1=>exact fun ρ2 H2 v1 e2=>w ρ2 H2 v1 (e.trans e2)
 | ex c h1=>exact fun ρ2 H2 e2=>w ρ2 H2 (e.trans e2)
 | bad=>exact w
theorem zdd {α β:Type}{Rl:RL α β}{m:ME α}{k:α->MS}{P:β->Hp->Prop} (w:wpS F W G ρ H (zcU m k env h) E)
   (f:∀ x h1 ρ1 H1 y,Ext F ρ ρ1 H H1->zX ρ1 H1 env σ->HR F G ρ1 h1 H1->Rl F ρ1 h1 H1 x y->wpS F W G ρ1 H1 (k x env h1) E->P y H1):wp F W G Rl env σ ρ H (m env h) P:=by
 unfold zcU at w
 cases e:m env h with
 | ok v h1 =>
   rw [e]at w
   exact fun ρ1 H1 y ex er hr rl=>f v h1 ρ1 H1 y ex er hr rl (w.mono ex)
 | ex c h1=>rw [e]at w;exact w
 | bad=>rw [e]at w;exact w
theorem wpS.done {e:zx}{σ1:L2.St} (w:wpS F W G ρ H (.nx e h) E) (er:zX ρ H e σ1) (hr:HR F G ρ h H):E.nx σ1 H:=w ρ H σ1 Ext.refl er hr
end
@[irreducible] noncomputable def JS (X:Cx) (e:Stmt) (t:TS):Prop:=PS X e t
@[irreducible] noncomputable def JSs (X:Cx) (e:List Stmt) (t:TS):Prop:=PSs X e t
@[irreducible] noncomputable def JG (X:Cx) (e:Expr) (t:TG):Prop:=PG X e t
@[irreducible] noncomputable def JGs (X:Cx) (e:List Expr) (t:TGs):Prop:=PGs X e t
@[irreducible] noncomputable def JI (X:Cx) (tg e:Expr) (t:TI):Prop:=PI X tg e t
@[irreducible] noncomputable def zeT (X:Cx) (e:List Expr) (t:TT):Prop:=zg8 X e t
theorem JS.to {X:Cx}{e:Stmt}{t:TS} (h:JS X e t):PS X e t:=by unfold JS at h;exact h
theorem JS.of {X:Cx}{e:Stmt}{t:TS} (h:PS X e t):JS X e t:=by unfold JS;exact h
theorem JSs.to {X:Cx}{e:List Stmt}{t:TS} (h:JSs X e t):PSs X e t:=by unfold JSs at h;exact h
theorem JSs.of {X:Cx}{e:List Stmt}{t:TS} (h:PSs X e t):JSs X e t:=by unfold JSs;exact h
theorem JG.to {X:Cx}{e:Expr}{t:TG} (h:JG X e t):PG X e t:=by unfold JG at h;exact h
theorem JG.of {X:Cx}{e:Expr}{t:TG} (h:PG X e t):JG X e t:=by unfold JG;exact h
theorem JGs.to {X:Cx}{e:List Expr}{t:TGs} (h:JGs X e t):PGs X e t:=by unfold JGs at h;exact h
theorem JGs.of {X:Cx}{e:List Expr}{t:TGs} (h:PGs X e t):JGs X e t:=by unfold JGs;exact h
theorem JI.to {X:Cx}{tg e:Expr}{t:TI} (h:JI X tg e t):PI X tg e t:=by unfold JI at h;exact h
theorem JI.of {X:Cx}{tg e:Expr}{t:TI} (h:PI X tg e t):JI X tg e t:=by unfold JI;exact h
theorem zeT.to {X:Cx}{e:List Expr}{t:TT} (h:zeT X e t):zg8 X e t:=by unfold zeT at h;exact h
theorem zeT.of {X:Cx}{e:List Expr}{t:TT} (h:zg8 X e t):zeT X e t:=by unfold zeT;exact h
theorem zdE {X:Cx}{e:Stmt}{t t':TS} (h:PS X e t) (i:∀ E σ H,t' E σ H->t E σ H):PS X e t':=fun pins s σ H E I hw=>h pins s σ H E I (i _ _ _ hw)
theorem zte {X:Cx}{e:List Stmt}{t t':TS} (h:PSs X e t) (i:∀ E σ H,t' E σ H->t E σ H):PSs X e t':=fun pins s σ H E I hw=>h pins s σ H E I (i _ _ _ hw)
theorem zta {X:Cx}{e:Expr}{t t':TG} (h:PG X e t) (i:∀ v σ H Q,t' v σ H Q->t v σ H Q):PG X e t':=fun pins s σ H v u Q I r hw=>h pins s σ H v u Q I r (i _ _ _ _ hw)
theorem ztw {X:Cx}{e:List Expr}{t t':TGs} (h:PGs X e t) (i:∀ v σ H Q,t' v σ H Q->t v σ H Q):PGs X e t':=fun pins s σ H v u Q I r hw=>h pins s σ H v u Q I r (i _ _ _ _ hw)
section
variable {W:Nat->Hp->Prop}{X:Cx}{F:Addr->Prop}{G:GP}{env:zx}{σ:L2.St}{ρ:List Addr}{H:Hp}{h:MH}{a b c e o:Expr}{es:List Expr}{st:Stmt}{rest bd bd2:List Stmt}{ma mb mc mo:ME D}{ml ml':ME (List D)}{mt:ME Bool}{m1 m2:MS}{pos p p1 p2 tpos:Pos}{k i:Nat}{x:Str}
theorem zbo:JSs X [] (tS W G zp) := .of (zte zB9 fun E σ H ⟨F,ρ,env,h,er,hr,w⟩=>wpS.done (h:=h) w er hr)
theorem zu (h1:JS X st (tS W G m1)):JSs X [st] (tS W G m1) := .of (zCZ h1.to)
theorem zq (h1:JS X st (tS W G m1)) (h2:JSs X rest (tS W G m2)):JSs X (st :: rest) (tS W G (zf m1 m2)) :=
 .of (zte (zBS h1.to h2.to) fun E σ H ⟨F,ρ,env,h,er,hr,w⟩=>⟨F,ρ,env,h,er,hr,by
   unfold zf at w
   cases e:m1 env h with
   | nx e1 h1 =>
     rw [e]at w
     exact fun ρ1 H1 σ1 ex er1 hr1=>⟨F,ρ1,e1,h1,er1,hr1,w.mono ex⟩
   | bk e1 h1=>rw [e]at w;exact w
   | ct e1 h1=>rw [e]at w;exact w
   | rt v h1=>rw [e]at w;exact w
   | ex c h1=>rw [e]at w;exact w
   | bad=>rw [e]at w;exact w⟩)
theorem zh2:JS X st (tS W G zgB) := .of (zdE zE2 fun E σ H ⟨F,ρ,env,h,er,hr,w⟩=>w)
theorem zeu (ha:JE X e (tE W G ma)) (hs:swapsWith e none pos.line X.env=pure false:=by rfl):JS X (.Expr e pos) (tS W G (z9 ma)) :=
 .of (zdE (zDH ha.to hs) fun E σ H ⟨F,ρ,env,h,er,hr,w⟩=>⟨F,ρ,env,h,er,hr,zdd w fun x h1 ρ1 H1 y e1 er1 hr1 r1 w1=>wpS.done (h:=h1) w1 er1 hr1⟩)
theorem zJ (ha:JE X e (tE W G ma)):JS X (.Return (some e) pos) (tS W G (zn ma)) :=
 .of (zdE (zFs ha.to) fun E σ H ⟨F,ρ,env,h,er,hr,w⟩=>⟨F,ρ,env,h,er,hr,zdd w fun x h1 ρ1 H1 y e1 er1 hr1 r1 w1=>w1 ρ1 H1 y Ext.refl hr1 r1⟩)
theorem zbk (hc:JT X c (tT W G mt)) (ha:JSs X bd (tS W G m1)) (hb:JSs X bd2 (tS W G m2)):JS X (.If c bd bd2 pos) (tS W G (ifS mt m1 m2)) :=
 .of (zdE (zCT hc.to ha.to hb.to) fun E σ H ⟨F,ρ,env,h,er,hr,w⟩=>⟨F,ρ,env,h,er,hr,zdd w fun x h1 ρ1 H1 y e1 er1 hr1 r1 w1=>by
   obtain rfl:x=y:=r1
   cases x with
   | true=>rw [if_pos rfl]at w1 ⊢;exact ⟨F,ρ1,env,h1,er1,hr1,w1⟩
   | false=>rw [if_neg (by decide)]at w1 ⊢;exact ⟨F,ρ1,env,h1,er1,hr1,w1⟩⟩)
noncomputable def tTg (G:GP) (t:Tg):TG:=fun v σ H Q=>∃ F ρ env h d env1,zX ρ H env σ∧HR F G ρ h H∧RD ρ H d v∧zdC t d env=some env1∧∀ σ1,zX ρ H env1 σ1->Q σ1 H
noncomputable def ziX (l:List Nat):TGs:=fun vs σ H Q=>∃ ρ env ds env1,zX ρ H env σ∧RDs ρ H ds vs∧zet l ds env=some env1∧∀ σ1,zX ρ H env1 σ1->Q σ1 H
theorem zcu (hN:X.N.Nodup) (hi:X.N[i]?=some x) (hx:Loc X.env.scope x) (hf:X.fn x=true∨X.env.scope.names.lookup x=some .local:=by first | exact .inl rfl | exact .inr rfl | assumption):JG X (.Name x pos) (tTg G (.nm i)) :=
 .of (zta (zsW hN hi hx hf) fun v σ H Q ⟨F,ρ,env,h,d,env1,er,hr,r,e,q⟩=>by
   cases e
   exact q _ (er.set r i))
theorem zhR:JGs X [] (ziX []) := .of (ztw zEC fun v σ H Q ⟨ρ,env,ds,env1,er,r,e,q⟩=>by
 cases ds with
 | nil=>unfold RDs at r;cases e;exact ⟨r,q σ er⟩
 | cons d ds=>cases e)
theorem zem {l:List Nat} (hN:X.N.Nodup) (hi:X.N[i]?=some x) (hx:Loc X.env.scope x) (h2:JGs X es (ziX l)) (hf:X.fn x=true∨X.env.scope.names.lookup x=some .local:=by first | exact .inl rfl | exact .inr rfl | assumption)
   (hs:(assignEach (.Name x pos :: es) X.env).map (·.2)=assign (.Name x pos) X.env :: (assignEach es X.env).map (·.2):=by rfl):JGs X (.Name x pos :: es) (ziX (i :: l)) :=
 .of (ztw (zEQ (zsW hN hi hx hf) h2.to hs) fun v σ H Q ⟨ρ,env,ds,env1,er,r,e,q⟩=>by
   cases ds with
   | nil=>cases e
   | cons d ds =>
     unfold RDs at r
     obtain ⟨y,vs,rfl,r1,r2⟩:=r
     exact ⟨y,vs,rfl,ρ,_,ds,env1,er.set r1 i,r2,e,q⟩)
theorem zBX:∀ (l:List Nat) {ds:List D}{e e1:zx},zet l ds e=some e1->ds.length=l.length:=by
 intro l
 induction l with
 | nil=>intro ds e e1 h;cases ds <;> first | rfl | cases h
 | cons i l ih =>
   intro ds e e1 h
   cases ds with
   | nil=>cases h
   | cons d ds=>simp [ih (ds:=ds) h]
theorem zhA {l:List Nat}{n k:Nat} (hc:X.calm=true) (h:JGs X es (ziX l)) (hl:n=l.length:=by rfl) (hn:(assignEach es X.env).length=n:=by rfl) (hst:(assignEach es X.env).findIdx? (·.1)=none:=by rfl):JG X (.Tuple es k pos) (tTg G (.tp l)) :=
 .of (zta (zCx hc h.to hn hst) fun v σ H Q ⟨F,ρ,env,hh,d,env1,er,hr,r,e,q⟩=>by
   cases d with
   | tup ds =>
     unfold RD at r
     obtain ⟨a,vs,rfl,ha,rs⟩:=r
     exact ⟨a,vs,rfl,SqT.of ha,by rw [<- rs.length,hl];exact zBX l e,ρ,env,ds,env1,er,rs,e,q⟩
   | _=>cases e)
theorem zQ (hN:X.N.Nodup) (hi:X.N[i]?=some x) (hx:Loc X.env.scope x) (ha:JE X e (tE W G ma)) (hs:swapsWith e (some (.Name x p)) pos.line X.env=pure false:=by rfl) (hf:X.fn x=true∨X.env.scope.names.lookup x=some .local:=by first | exact .inl rfl | exact .inr rfl | assumption) :
   JS X (.Assign [.Name x p] e pos) (tS W G (zk (.nm i) ma)) :=
 .of (zdE (zC4 hN hi hx ha.to hs hf) fun E σ H ⟨F,ρ,env,h,er,hr,w⟩=>⟨F,ρ,env,h,er,hr,zdd w fun x h1 ρ1 H1 y e1 er1 hr1 r1 w1=>wpS.done (h:=h1) w1 (er1.set r1 i) hr1⟩)
theorem zi4 {tg:Expr}{t:Tg} (ha:JE X e (tE W G ma)) (hg:JG X tg (tTg G t)) (hs:swapsWithSole [tg] e pos.line X.env=pure false:=by rfl) (hw:swappedStores [tg] e X.env=pure none:=by rfl)
   (h1:(assignEach [tg] X.env).map (·.2)=[assign tg X.env]:=by rfl):JS X (.Assign [tg] e pos) (tS W G (zk t ma)) :=
 .of (zdE (ztF ha.to hg.to hs hw h1) fun E σ H ⟨F,ρ,env,h,er,hr,w⟩=>⟨F,ρ,env,h,er,hr,zdd w fun x h1 ρ1 H1 y e1 er1 hr1 r1 w1=>by
   unfold zh0 at w1
   cases eb:zdC t x env with
   | none=>rw [eb]at w1;exact w1.elim
   | some env1 =>
     rw [eb]at w1
     exact ⟨F,ρ1,env,h1,x,env1,er1,hr1,r1,eb,fun σ1 er2=>w1.done er2 hr1⟩⟩)
theorem zBF {j:Nat}{y:Str}{px py pt:Pos}{kt k2 pt2} (hN:X.N.Nodup) (hi:X.N[i]?=some x) (hj:X.N[j]?=some y) (ha:JA X [a,b] (tA W G ml)) (hij:i≠j:=by decide)
   (hx:X.env.scope.names.lookup x=some .local:=by rfl) (hy:X.env.scope.names.lookup y=some .local:=by rfl) (hc:X.calm=true:=by rfl)
   (hw:swappedStores [.Tuple [.Name x px,.Name y py] kt pt] (.Tuple [a,b] k2 pt2) X.env=pure (some [x,y]):=by rfl)
   (hs:swapsWithSole [.Tuple [.Name x px,.Name y py] kt pt] (.Tuple [a,b] k2 pt2) pos.line X.env=pure false:=by rfl) :
   JS X (.Assign [.Tuple [.Name x px,.Name y py] kt pt] (.Tuple [a,b] k2 pt2) pos) (tS W G (zim [i,j] ml)) :=
 .of (zdE (zBZ hc hN hi hj hij hx hy ha.to hw hs) fun E σ H ⟨F,ρ,env,h,er,hr,w⟩=>⟨F,ρ,env,h,er,hr,zdd w fun xs h1 ρ1 H1 ys e1 er1 hr1 r1 w1=>by
   have r1:RDs ρ1 H1 xs ys:=r1
   match xs,w1 with
   | [u,v],w1 =>
     unfold RDs at r1
     obtain ⟨u',q,rfl,ru,r1⟩:=r1
     unfold RDs at r1
     obtain ⟨v',q,rfl,rv,r1⟩:=r1
     unfold RDs at r1
     subst r1
     exact ⟨u',v',rfl,wpS.done (h:=h1) w1 ((er1.set ru i).set rv j) hr1⟩
   | [],w1=>exact w1.elim
   | [_],w1=>exact w1.elim
   | _ :: _ :: _ :: _,w1=>exact w1.elim⟩)
theorem zC1 {op:Operator}{r:R2}{f:D->D->ME D} (hN:X.N.Nodup) (hi:X.N[i]?=some x) (hx:Loc X.env.scope x) (ho:OpR X (inplaceOp op) r) (hf:OpM W G f r) (ha:JE X e (tE W G ma))
   (hfn:X.fn x=true∨X.env.scope.names.lookup x=some .local):JS X (.AugAssign (.Name x p) op e pos) (tS W G (zhs f i ma)) :=
 .of (zdE (zA0 (ti:=r) hN hi hx ha.to ho hfn) fun E σ H ⟨F,ρ,env,h,er,hr,w⟩=>by
   have w':wp F W G rV env σ ρ H ((zm (var i) fun x=>zm ma fun y=>f x y) env h) (fun z H2=>E.nx (σ.set i (some z)) H2):=zdd w fun x h1 ρ1 H1 y e1 er1 hr1 r1 w1=>wpS.done (h:=h1) w1 (er1.set r1 i) hr1
   unfold zm var at w'
   cases ev:env[i]? with
   | none=>simp only [ev]at w';exact w'.elim
   | some od =>
     cases od with
     | none=>simp only [ev]at w';exact w'.elim
     | some d =>
       simp only [ev]at w'
       obtain ⟨v,h1,h2⟩:=er.all i d ev
       refine ⟨v,h1,F,ρ,env,h,er,hr,zF (k:=fun y=>f d y) w' fun y h1 ρ1 H1 u e1 er1 hr1 r1 w1=>?_⟩
       exact hf F ρ1 h1 H1 env σ d y v u _ er1 hr1 (RD.ext e1 _ _ h2) r1 w1)
theorem zDJ (hN:X.N.Nodup) (hi:X.N[i]?=some x) (hx:Loc X.env.scope x) (ha:JE X e (tE W G ma)) (hfn:X.fn x=true∨X.env.scope.names.lookup x=some .local:=by first | exact .inl rfl | exact .inr rfl | assumption) :
   JS X (.AugAssign (.Name x p) .Add e pos) (tS W G (zhs zE i ma)):=zC1 hN hi hx zCm zst ha hfn
theorem FRs.length {C:Addr}:∀ {fs:List (Nat×D)}{vs:List (Str×V)},FRs G ρ H C fs vs->vs.length=fs.length
 | [],vs,r=>by unfold FRs at r;subst r;rfl
 | p :: fs,vs,r=>by
   unfold FRs at r
   obtain ⟨g,v,q,rfl,h1,h2,h3,h4⟩:=r
   simp [FRs.length h4]
theorem zhY {sub att:Nat->Nat->Bool}{kk:Nat}{f:Str} (ok:G.Ok sub att) (hf:G.an[kk]?=some f) (ho:JE X o (tE W G mo)) (ha:JE X e (tE W G ma)) (hs:swapsWith e (some (.Attribute o f p)) pos.line X.env=pure false) (hK:X.K=G.K:=by rfl) :
   JS X (.Assign [.Attribute o f p] e pos) (tS W G (zfN att kk mo ma)) :=
 .of (zdE (zAO ho.to ha.to hs) fun E σ H ⟨F,ρ,env,h,er,hr,w⟩=>⟨F,ρ,env,h,er,hr,zdd w fun y h1 ρ1 H1 vy e1 er1 hr1 r1 w1=>⟨F,ρ1,env,h1,er1,hr1,zdd w1 fun x h2 ρ2 H2 vx e2 er2 hr2 r2 w2=>by
   have r1:RD ρ2 H2 y vy:=RD.ext e2 _ _ r1
   have r2:RD ρ2 H2 x vx:=r2
   cases x with
   | obj n =>
     dsimp only at w2
     cases qo:h2[n]? with
     | none=>rw [qo]at w2;exact w2.elim
     | some o =>
       rw [qo]at w2
       cases o with
       | ins c fs =>
         dsimp only at w2
         obtain ⟨q,C,dx,vs,rfl,eq,hC,hq,rs⟩:=hr2.ins r2 qo
         by_cases hl:(att c kk && decide (fs.length < 100))=true
         . rw [if_pos hl]at w2
           rw [Bool.and_eq_true,decide_eq_true_eq]at hl
           have hn:=ok.noat c C kk f hC hl.1 hf
           refine ⟨q,C,dx,vs,rfl,hq,by rw [hK];exact (ok.cls c C hC).1,by rw [hK];exact hn,by rw [rs.length];omega,?_⟩
           have tp:Ext (fun _=>False) ρ2 ρ2 H2 (upd H2 q (.ins C dx (zcp f vy vs))):=by
             refine ⟨⟨[],by simp⟩,fun b xs z=>?_,fun _ z=>z.elim⟩
             rw [zV]
             . exact z
             . intro zz;subst zz;rw [hq]at z;cases z
           obtain ⟨ex,hr'⟩:=hr2.write (o1 := .ins c (zfh kk y fs)) (u := .ins C dx (zcp f vy vs)) qo eq rfl rfl hq trivial ⟨C,dx,_,hC,zcy,FRs.put ok.nd hf hn (RD.ext tp _ _ r1) (rs.map fun p _ v=>RD.ext tp _ _)⟩
           exact w2 ρ2 _ σ ex (er2.ext ex) hr'
         . rw [if_neg hl]at w2;exact w2.elim
       | _=>exact w2.elim
   | _=>exact w2.elim⟩⟩)
noncomputable def zFF:zhJ:=fun o i v H Q=>∃ a H',o = .ref a∧zhK H a i v H'∧Q H'
theorem zEG (hr:zP k X.A):zhi X zFF:=fun pins s σ H o i v ov iv u Q I ro ri rv ⟨a,H',e,g,q⟩=>by
 subst e;cases ro
 exact zBc (zi1 hr) I g ri rv fun s' I'=>⟨H',I',q⟩
theorem zDA {t t':zhJ} (h:zhi X t) (h':zhi X t'):zhi X (fun o i v H Q=>t o i v H Q∨t' o i v H Q):=fun pins s σ H o i v ov iv u Q I ro ri rv q=>by
 rcases q with q | q
 . exact h pins s σ H o i v ov iv u Q I ro ri rv q
 . exact h' pins s σ H o i v ov iv u Q I ro ri rv q
theorem KRs.any {kk:Int}:∀ {kvs:List (Int×D)}{vs:List (Key×V)},KRs ρ H kvs vs->(kvs.any fun p=>decide (p.1=kk))=(vs.any fun kv=>decide (kv.1=(Sum.inl kk:Key)))
 | [],vs,r=>by unfold KRs at r;subst r;rfl
 | p :: kvs,vs,r=>by
   unfold KRs at r
   obtain ⟨u,q,rfl,r1,r2⟩:=r
   rw [List.any_cons,List.any_cons,KRs.any r2]
   congr 1
   exact decide_eq_decide.mpr ⟨fun z=>by rw [z],fun z=>Sum.inl.inj z⟩
theorem KRs.repl {kk:Int}{d:D}{v:V} (rd:RD ρ H d v):∀ {kvs:List (Int×D)}{vs:List (Key×V)},KRs ρ H kvs vs->KRs ρ H (kvs.map fun p=>if p.1=kk then (p.1,d) else p) (vs.map fun kv=>if kv.1=Sum.inl kk then (kv.1,v) else kv)
 | [],vs,r=>by unfold KRs at r;subst r;simp [KRs]
 | p :: kvs,vs,r=>by
   unfold KRs at r
   obtain ⟨u,q,rfl,r1,r2⟩:=r
   rw [List.map_cons,List.map_cons]
   unfold KRs
   by_cases e:p.1=kk
   . rw [if_pos e,if_pos (by rw [e])]
     exact ⟨v,_,rfl,rd,KRs.repl rd r2⟩
   . rw [if_neg e,if_neg (fun z=>e (Sum.inl.inj z))]
     exact ⟨u,_,rfl,r1,KRs.repl rd r2⟩
theorem KRs.snoc {kk:Int}{d:D}{v:V} (rd:RD ρ H d v):∀ {kvs:List (Int×D)}{vs:List (Key×V)},KRs ρ H kvs vs->KRs ρ H (kvs++[(kk,d)]) (vs++[(Sum.inl kk,v)])
 | [],vs,r=>by
   unfold KRs at r;subst r
   show KRs ρ H [(kk,d)] [(Sum.inl kk,v)]
   unfold KRs
   exact ⟨v,[],rfl,rd,by unfold KRs;rfl⟩
 | p :: kvs,vs,r=>by
   unfold KRs at r
   obtain ⟨u,q,rfl,r1,r2⟩:=r
   rw [List.cons_append,List.cons_append]
   unfold KRs
   exact ⟨u,_,rfl,r1,KRs.snoc rd r2⟩
theorem KRs.put {kk:Int}{d:D}{v:V} (rd:RD ρ H d v) {kvs:List (Int×D)}{vs:List (Key×V)} (r:KRs ρ H kvs vs):KRs ρ H (zcV kk d kvs) (zcC vs (Sum.inl kk) v):=by
 unfold zcV zcC
 rw [r.any]
 by_cases e:(vs.any fun kv=>decide (kv.1=(Sum.inl kk:Key)))=true
 . rw [if_pos e,if_pos e];exact r.repl rd
 . rw [if_neg e,if_neg e];exact r.snoc rd
theorem KRs.length:∀ {kvs:List (Int×D)}{vs:List (Key×V)},KRs ρ H kvs vs->kvs.length=vs.length
 | [],vs,r=>by unfold KRs at r;subst r;rfl
 | p :: kvs,vs,r=>by
   unfold KRs at r
   obtain ⟨u,q,rfl,r1,r2⟩:=r
   simp [KRs.length r2]
theorem zti (rm:zP k X.A) (ho:JE X o (tE W G mo)) (hb:JE X b (tE W G mb)) (ha:JE X e (tE W G ma)) (hs:swapsWithSole [.Subscript o b p] e pos.line X.env=pure false:=by rfl) (hw:swappedStores [.Subscript o b p] e X.env=pure none:=by rfl)
   (h1:(assignEach [.Subscript o b p] X.env).map (·.2)=[assign (.Subscript o b p) X.env]:=by rfl)
   (hq:∀ v,assign (.Subscript o b p) X.env v=(do
     let ov <- holding [v] (eval o X.env)
     let iv <- holding [v,ov] (eval b X.env)
     standAt p
     holding [v,ov,iv] (setItem ov iv v)
     release [v,ov,iv] []):=by intro _;rfl):JS X (.Assign [.Subscript o b p] e pos) (tS W G (zgG mo mb ma)) :=
 .of (zdE (ztF ha.to (zBa ho.to hb.to (zDA zAx (zEG rm)) hq) hs hw h1) fun E σ H ⟨F,ρ,env,h,er,hr,w⟩=>⟨F,ρ,env,h,er,hr,zdd w fun y h1 ρ1 H1 vy e1 er1 hr1 r1 w1=>⟨F,ρ1,env,h1,er1,hr1,zdd w1 fun x h2 ρ2 H2 vx e2 er2 hr2 r2 w2=>⟨F,ρ2,env,h2,er2,hr2,zdd w2 fun z h3 ρ3 H3 vz e3 er3 hr3 r3 w3=>by
   have r1:RD ρ3 H3 y vy:=RD.ext (e2.trans e3) _ _ r1
   have r2:RD ρ3 H3 x vx:=RD.ext e3 _ _ r2
   have r3:RD ρ3 H3 z vz:=r3
   cases x with
   | obj n =>
     cases z with
     | int j =>
       unfold RD at r3
       dsimp only at w3
       cases qo:h3[n]? with
       | none=>rw [qo]at w3;exact w3.elim
       | some o =>
         rw [qo]at w3
         cases o with
         | lst xs =>
           dsimp only at w3
           obtain ⟨q,vs,rfl,eq,hq,rs⟩:=hr3.lst r2 qo
           cases ej:ixN xs.length j with
           | none=>rw [ej]at w3;exact w3.elim
           | some jj =>
             rw [ej]at w3
             refine .inl ⟨q,vs,j,jj,rfl,r3,hq,by rw [<- rs.length];exact ej,?_⟩
             have tp:Ext (fun _=>False) ρ3 ρ3 H3 (upd H3 q (.lst (vs.set jj vy))):=by
               refine ⟨⟨[],by simp⟩,fun b xs z=>?_,fun _ z=>z.elim⟩
               rw [zV]
               . exact z
               . intro zz;subst zz;rw [hq]at z;cases z
             obtain ⟨ex,hr'⟩:=hr3.write (o1 := .lst (xs.set jj y)) (u := .lst (vs.set jj vy)) qo eq rfl rfl hq trivial ⟨_,zcy,RDs.ext tp _ _ (RDs.set r1 jj rs)⟩
             exact w3 ρ3 _ σ ex (er3.ext ex) hr'
         | dic kvs =>
           dsimp only at w3
           obtain ⟨q,vs,rfl,eq,hq,rs⟩:=hr3.dic r2 qo
           by_cases hl:kvs.length < 1000000
           . rw [if_pos hl]at w3
             subst r3
             refine .inr ⟨q,_,rfl,zhK.k (k:=Sum.inl j) hq (by rw [<- rs.length,sizeLine_eq];omega),?_⟩
             have tp:Ext (fun _=>False) ρ3 ρ3 H3 (upd H3 q (.dK (zcC vs (Sum.inl j) vy))):=by
               refine ⟨⟨[],by simp⟩,fun b xs z=>?_,fun _ z=>z.elim⟩
               rw [zV]
               . exact z
               . intro zz;subst zz;rw [hq]at z;cases z
             obtain ⟨ex,hr'⟩:=hr3.write (o1 := .dic (zcV j y kvs)) (u := .dK (zcC vs (Sum.inl j) vy)) qo eq rfl rfl hq trivial ⟨_,zcy,KRs.put (RD.ext tp _ _ r1) (rs.map fun p _ v=>RD.ext tp _ _)⟩
             exact w3 ρ3 _ σ ex (er3.ext ex) hr'
           . rw [if_neg hl]at w3;exact w3.elim
         | _=>exact w3.elim
     | _=>exact w3.elim
   | _=>cases z <;> exact w3.elim⟩⟩⟩)
end
end MI
end
section
namespace MI
open PySem PySem.Spec L2
noncomputable def ziS (G:GP) (F:Addr->Prop) (ρ:List Addr) (H:Hp) (J:It) (p:Src):Prop :=
 ∀ (F':Addr->Prop) (ρ':List Addr) (h':MH) (H':Hp) (i:Nat),Ext F ρ ρ' H H'->HR F' G ρ' h' H'->guard p.2 h'=true ->
   (∀ d,p.1[i]?=some d->J.go i H'∧∀ x H2,J.yld i H' x H2->Ext F' ρ' ρ' H' H2∧HR F' G ρ' h' H2∧RD ρ' H2 d x)∧(p.1.length<=i->J.stop i H')
noncomputable def rI (G:GP):RL Src It:=fun F ρ _ H p J=>ziS G F ρ H J p
abbrev tI (W:Nat->Hp->Prop) (G:GP) (m:ME Src):TI:=tG W G (rI G) m
section
variable {W:Nat->Hp->Prop}{X:Cx}{F:Addr->Prop}{G:GP}{env:zx}{σ:L2.St}{ρ:List Addr}{H:Hp}{h:MH}{a b c e o tg:Expr}{ma mb:ME D}{pos p p1:Pos}{k:Nat}
theorem zo8 {n:Nat}{ob:O}{gs:List (Nat×O)} (g:guard gs h=true) (hm:(n,ob)∈gs):h[n]?=some ob:=by
 unfold guard at g
 rw [List.all_eq_true]at g
 exact of_decide_eq_true (g (n,ob) hm)
theorem zA7 {n:Nat}{q:Addr}{xs:List D} (hK:X.K=G.K) (eq:ρ[n]?=some q):ziS G F ρ H (Itl X.K q) (xs,[(n,.lst xs)]):=by
 intro F' ρ' h' H' i ex hr g
 have e:=zo8 g (List.mem_singleton.mpr rfl)
 have eq':=ex.get eq
 obtain ⟨vs,hq,rs⟩:=hr.at e eq'
 refine ⟨fun d hd=>?_,fun hl=>⟨vs,SqL.of hq,by rw [<- rs.length];exact hl⟩⟩
 obtain ⟨v,e1,e2⟩:=rs.get hd
 refine ⟨⟨vs,v,SqL.of hq,e1⟩,fun x H2 ⟨y1,y2⟩=>?_⟩
 subst y1
 have:=y2 vs (SqL.of hq)
 rw [e1]at this;cases this
 exact ⟨Ext.refl,hr,e2⟩
theorem zdb (ha:JE X a (tE W G ma)) (hK:X.K=G.K:=by rfl):JI X tg a (tI W G (itL ma)) :=
 .of (ziY (zEi ha.to) fun σ H Q ⟨F,ρ,env,h,er,hr,w⟩=>⟨F,ρ,env,h,er,hr,zF w fun x h1 ρ1 H1 y e1 er1 hr1 r1 w1=>by
   cases x with
   | obj n =>
     simp only [zpE]at w1
     cases qo:h1[n]? with
     | none=>rw [qo]at w1;exact w1.elim
     | some o =>
       rw [qo]at w1
       cases o with
       | lst xs =>
         obtain ⟨q,vs,rfl,eq,hq,rs⟩:=hr1.lst r1 qo
         exact ⟨q,rfl,⟨vs,SqL.of hq⟩,w1.done er1 hr1 (zA7 hK eq)⟩
       | _=>exact w1.elim
   | _=>exact w1.elim⟩)
theorem zDC (ha:JE X a (tE W G ma)):JI X tg a (tI W G (itT ma)) :=
 .of (ziY (zCh ha.to) fun σ H Q ⟨F,ρ,env,h,er,hr,w⟩=>⟨F,ρ,env,h,er,hr,zF w fun x h1 ρ1 H1 y e1 er1 hr1 r1 w1=>by
   have r1:RD ρ1 H1 x y:=r1
   cases x with
   | tup ds =>
     unfold RD at r1
     obtain ⟨q,vs,rfl,hq,rs⟩:=r1
     refine ⟨q,rfl,⟨vs,SqT.of hq⟩,w1 ρ1 H1 (Itt X.K q) Ext.refl er1 hr1 ?_⟩
     intro F' ρ' h' H' i ex hr' _
     have hq':=ex.tup _ _ hq
     have rs':=RDs.ext ex _ _ rs
     refine ⟨fun d hd=>?_,fun hl=>⟨vs,SqT.of hq',by rw [<- rs'.length];exact hl⟩⟩
     obtain ⟨v,e3,e4⟩:=rs'.get hd
     refine ⟨⟨vs,v,SqT.of hq',e3⟩,fun x H2 ⟨y1,y2⟩=>?_⟩
     subst y1
     have:=y2 vs (SqT.of hq')
     rw [e3]at this;cases this
     exact ⟨Ext.refl,hr',e4⟩
   | _=>exact w1.elim⟩)
theorem zit (hg:Gl X "range") (hm:X.mg "range" = none) (ha:JE X a (tE W G ma)) (hs:starEach [a] X.env=(false,eval a X.env) :: starEach [] X.env):JI X tg (.Call (.Name "range" p) [a] [] pos) (tI W G (itR ma)) :=
 .of (ziY (zED hg hm (zcP ha.to zc5 hs) (hs.trans (by rfl))) fun σ H Q ⟨F,ρ,env,h,er,hr,w⟩=>zeA ⟨F,ρ,env,h,er,hr,zF w fun x h1 ρ1 H1 y e1 er1 hr1 r1 w1=>by
   have r1:RD ρ1 H1 x y:=r1
   cases x with
   | int i =>
     unfold RD at r1
     subst r1
     by_cases hl:-1000000<=i∧i<=1000000
     . dsimp only at w1
       rw [if_pos hl]at w1
       refine ⟨i,rfl,by omega,by omega,w1 ρ1 H1 (Itr 0 i.toNat) Ext.refl er1 hr1 ?_⟩
       intro F' ρ' h' H' j _ hr' _
       refine ⟨fun d hd=>?_,fun hj=>by rw [List.length_map,List.length_range]at hj;exact hj⟩
       have hj:j < i.toNat:=by
         have:=(List.getElem?_eq_some_iff.mp hd).1
         simpa using this
       refine ⟨hj,fun x H2 ⟨y1,y2⟩=>?_⟩
       subst y1 y2
       rw [List.getElem?_map,List.getElem?_range hj]at hd
       cases hd
       exact ⟨Ext.refl,hr',by unfold RD;simp⟩
     . dsimp only at w1
       rw [if_neg hl]at w1;exact w1.elim
   | _=>exact w1.elim⟩)
variable {mt:ME Bool}{m1:MS}{bd:List Stmt}{E:zfQ}{r:RS}{kk:MS}
theorem zsm {N:L2.St->Hp->Prop} (w:wpS F W G ρ H (zfK r kk) E) (f:∀ e1 h1 ρ1 H1 σ1,Ext F ρ ρ1 H H1->zX ρ1 H1 e1 σ1->HR F G ρ1 h1 H1->wpS F W G ρ1 H1 (kk e1 h1) E->N σ1 H1):wpS F W G ρ H r { E with nx:=N,ct:=N,bk:=E.nx }:=by
 cases r with
 | nx e1 h1=>exact fun ρ1 H1 σ1 ex er hr=>f e1 h1 ρ1 H1 σ1 ex er hr (wpS.mono (r:=kk e1 h1) w ex)
 | ct e1 h1=>exact fun ρ1 H1 σ1 ex er hr=>f e1 h1 ρ1 H1 σ1 ex er hr (wpS.mono (r:=kk e1 h1) w ex)
 | bk e1 h1=>exact w
 | rt v h1=>exact w
 | ex c h1=>exact w
 | bad=>exact w
theorem ztH (hp:PassesOwn (model X.prog X.w) X.A X.env X.xe) (hc:JT X c (tT W G mt)) (hb:JSs X bd (tS W G m1)):JS X (.While c bd [] pos) (tS W G (zhB mt m1)) :=
 .of (zdE (zEK hp hc.to hb.to) fun E σ H ⟨F,ρ,env,h,er,hr,w⟩=>by
   refine ⟨fun n σ H=>∃ ρ env h,zX ρ H env σ∧HR F G ρ h H∧wpS F W G ρ H (zfF mt m1 n env h) E,⟨1000000,ρ,env,h,er,hr,w⟩,?_⟩
   rintro n σ H ⟨ρ,env,h,er,hr,w⟩
   cases n with
   | zero=>exact w.elim
   | succ n =>
     refine ⟨F,ρ,env,h,er,hr,zdd w fun x h1 ρ1 H1 y e1 er1 hr1 r1 w1=>?_⟩
     obtain rfl:x=y:=r1
     cases x with
     | true =>
       rw [if_pos rfl]at w1 ⊢
       exact ⟨_,fun σ' H' z=>z,F,ρ1,env,h1,er1,hr1,zsm w1 fun e2 h2 ρ2 H2 σ2 ex2 er2 hr2 w2=>⟨n,Nat.lt_succ_self n,ρ2,e2,h2,er2,hr2,w2⟩⟩
     | false =>
       rw [if_neg (by decide)]at w1 ⊢
       exact wpS.done (h:=h1) w1 er1 hr1)
variable {ms:ME Src}{t:Tg}{iter:Expr}
theorem zDc {p:Src}{J:It}{ρ1:List Addr}{H1:Hp}{h1:MH} (src:ziS G F ρ1 H1 J p) (er1:zX ρ1 H1 env σ) (hr1:HR F G ρ1 h1 H1) (w1:wpS F W G ρ1 H1 (zc8 t p.2 m1 p.1 env h1) E) :
   ∃ Wv:Nat->Nat->L2.St->Hp->Prop,(∃ m,Wv 0 m σ H1)∧∀ i m σ H,Wv i m σ H ->
     (J.stop i H∧E.nx σ H)∨(J.go i H∧∃ N:L2.St->Hp->Prop,(∀ σ' H',N σ' H'->∃ m',m' < m∧Wv (i+1) m' σ' H')∧∀ x H',J.yld i H x H'->tTg G t x σ H' fun σ2 H2=>tS W G m1 { E with nx:=N,ct:=N,bk:=E.nx } σ2 H2):=by
 refine ⟨fun i m σ H=>∃ ρ env h,Ext F ρ1 ρ H1 H∧zX ρ H env σ∧HR F G ρ h H∧m=p.1.length - i∧i<=p.1.length∧wpS F W G ρ H (zc8 t p.2 m1 (p.1.drop i) env h) E,⟨p.1.length,ρ1,env,h1,Ext.refl,er1,hr1,by simp,Nat.zero_le _,by simpa using w1⟩,?_⟩
 rintro i m σ H ⟨ρ,env,h,ex,er,hr,rfl,hi,w⟩
 by_cases hlt:i < p.1.length
 . right
   have ed:p.1.drop i=p.1[i] :: p.1.drop (i+1):=List.drop_eq_getElem_cons hlt
   rw [ed]at w
   simp only [zc8]at w
   by_cases g:guard p.2 h=true
   . rw [if_pos g]at w
     obtain ⟨s1,_⟩:=src F ρ h H i ex hr g
     obtain ⟨go,yl⟩:=s1 p.1[i] (List.getElem?_eq_getElem hlt)
     refine ⟨go,_,fun σ' H' z=>z,fun x H' hy=>?_⟩
     obtain ⟨ex2,hr2,rd⟩:=yl x H' hy
     cases eb:zdC t p.1[i] env with
     | none=>rw [eb]at w;exact w.elim
     | some env1 =>
       rw [eb]at w
       refine ⟨F,ρ,env,h,p.1[i],env1,er.ext ex2,hr2,rd,eb,fun σ1 er3=>⟨F,ρ,env1,h,er3,hr2,zsm (wpS.mono (r:=zfK (m1 env1 h) (zc8 t p.2 m1 (p.1.drop (i+1)))) w ex2) fun e4 h4 ρ4 H4 σ4 ex4 er4 hr4 w4=>?_⟩⟩
       exact ⟨p.1.length - (i+1),by omega,ρ4,e4,h4,(ex.trans ex2).trans ex4,er4,hr4,rfl,hlt,w4⟩
   . rw [if_neg g]at w;exact w.elim
 . left
   have ei:i=p.1.length:=by omega
   rw [List.drop_eq_nil_of_le (by omega)]at w
   simp only [zc8]at w
   by_cases g:guard p.2 h=true
   . rw [if_pos g]at w
     exact ⟨(src F ρ h H i ex hr g).2 (by omega),w.done er hr⟩
   . rw [if_neg g]at w;exact w.elim
theorem zfP (hp:PassesOwn (model X.prog X.w) X.A X.env X.xe) (hi:JI X tg iter (tI W G ms)) (hg:JG X tg (tTg G t)) (hb:JSs X bd (tS W G m1)) (hc:X.calm=true:=by rfl) (hs:∀ x,foldedSetIterable iter X.env x=pure x:=by intro _;rfl) :
   JS X (.For tg iter bd [] pos) (tS W G (zcD t ms m1)) :=
 .of (zdE (zAc hp hc hi.to hg.to hb.to hs) fun E σ H ⟨F,ρ,env,h,er,hr,w⟩=>⟨F,ρ,env,h,er,hr,zdd w fun p h1 ρ1 H1 J e1 er1 hr1 src w1=>zDc src er1 hr1 w1⟩)
theorem zs5 {α β γ δ:Type}{Rl:RL α β}{Rl':RL γ δ}{F':Addr->Prop}{env1:zx}{σ1:L2.St} (sub:∀ b,F b->F' b) {m:ME α}{k:α->ME γ}{Q:δ->Hp->Prop}{P:β->Hp->Prop} (w:wp F W G Rl' env σ ρ H (zm m k env1 h) Q)
   (f:∀ x h1 ρ1 H1 y,Ext F' ρ ρ1 H H1->zX ρ1 H1 env1 σ1->HR F' G ρ1 h1 H1->Rl F' ρ1 h1 H1 x y->wp F W G Rl' env σ ρ1 H1 (k x env1 h1) Q->P y H1):wp F' W G Rl env1 σ1 ρ H (m env1 h) P:=by
 unfold zm at w
 cases e:m env1 h with
 | ok v h1 =>
   rw [e]at w
   exact fun ρ1 H1 y ex er hr rl=>f v h1 ρ1 H1 y ex er hr rl (w.mono (ex.sub sub))
 | ex c h1=>rw [e]at w;exact fun ρ1 H1 ex hr=>w ρ1 H1 (ex.sub sub) (hr.sub sub)
 | bad=>rw [e]at w;exact w
theorem zAC {js:List (Option Nat)} (er:zX ρ H env σ):zX ρ H (zbS js env) (zgD js σ):=by
 refine ⟨by simp [zbS,zgD],fun i d e=>?_⟩
 unfold zbS at e
 unfold zgD
 rw [List.getElem?_map]at e ⊢
 cases ej:js[i]? with
 | none=>rw [ej]at e;cases e
 | some j =>
   rw [ej]at e
   cases j with
   | none=>cases e
   | some kk =>
     have e2:(env[kk]?).join=some d:=Option.some.inj e
     cases ek:env[kk]? with
     | none=>rw [ek]at e2;cases e2
     | some od =>
       rw [ek]at e2
       have e3:od=some d:=e2
       subst e3
       obtain ⟨v,h1,h2⟩:=er.all kk d ek
       refine ⟨v,?_,h2⟩
       show some ((σ[kk]?).join)=_
       rw [h1];rfl
variable {N:List Str}{js:List (Option Nat)}{scope:Scope}{elt:Expr}{ifs:List Expr}{cond:ME Bool}{me:ME D}
theorem zBv {t:Tg}{Q:VK}{p:Src}{J:It}{ρ1:List Addr}{H1:Hp}{h1:MH} (hlen:p.1.length<=1000000) (src:ziS G F ρ1 H1 J p) (er1:zX ρ1 H1 env σ) (hr1:HR F G ρ1 h1 H1) (w1:wp F W G (rN G.K) env σ ρ1 H1 (zcw t p.2 cond me p.1 [] (zbS js env) h1) Q) (D:Addr) (hD:H1 D=none) :
   zp5 J (tTg G t) (tT W G cond) (tE W G me) D σ H1 js Q:=by
 have nF:¬ F D:=(hr1.fresh hD).1
 have hr1':HR F G ρ1 h1 (upd H1 D (.lst [])):=hr1.new hD
 have frD:=hr1.fresh hD
 refine ⟨fun i m σ' H'=>∃ ρ' env' h' acc vs,Ext F ρ1 ρ' H1 H'∧zX ρ' H' env' σ'∧HR F G ρ' h' H'∧H' D=some (.lst vs)∧zfH F ρ' h' D∧RDs ρ' H' acc vs∧acc.length<=i∧m=p.1.length - i∧i<=p.1.length ∧
   wp F W G (rN G.K) env σ ρ' H' (zcw t p.2 cond me (p.1.drop i) acc env' h') Q,⟨p.1.length,ρ1,zbS js env,h1,[],[],zcq hr1 hD,zAC (er1.ext (zcq hr1 hD)),hr1',zcy,frD,RDs.nil,Nat.le_refl _,by simp,Nat.zero_le _,by simpa using w1.mono (zcq hr1 hD)⟩,?_⟩
 rintro i m σ' H' ⟨ρ',env',h',acc,vs,ex,er',hr',hD',fr,rs,hal,rfl,hi,w⟩
 have sub:∀ b,F b->(F b∨b=D):=fun b hb=> .inl hb
 have hrF:HR (fun b=>F b∨b=D) G ρ' h' H':=⟨fun b hb=>by
   rcases hb with hb | rfl
   . exact hr'.pro b hb
   . exact ⟨⟨_,hD'⟩,fr.2⟩,hr'.nd,hr'.len,hr'.all⟩
 by_cases hlt:i < p.1.length
 . right
   have ed:p.1.drop i=p.1[i] :: p.1.drop (i+1):=List.drop_eq_getElem_cons hlt
   rw [ed]at w
   simp only [zcw]at w
   by_cases g:guard p.2 h'=true
   . rw [if_pos g]at w
     obtain ⟨s1,_⟩:=src _ ρ' h' H' i ex hrF g
     obtain ⟨go,yl⟩:=s1 p.1[i] (List.getElem?_eq_getElem hlt)
     refine ⟨go,fun x H2 hy=>?_⟩
     obtain ⟨ex2,hr2,rd⟩:=yl x H2 hy
     cases eb:zdC t p.1[i] env' with
     | none=>rw [eb]at w;exact w.elim
     | some env1 =>
       rw [eb]at w
       refine ⟨_,ρ',env',h',p.1[i],env1,er'.ext ex2,hr2,rd,eb,fun σ2 er3=>⟨_,ρ',env1,h',er3,hr2,zs5 sub (w.mono (ex2.sub sub)) fun b h3 ρ3 H3 b' ex3 er3' hr3 rb w3=>?_⟩⟩
       obtain rfl:b=b':=rb
       have hD3:H3 D=some (.lst vs):=by rw [ex3.frm D (.inr rfl),ex2.frm D (.inr rfl)];exact hD'
       cases b with
       | true =>
         rw [if_pos rfl]at w3 ⊢
         refine ⟨_,ρ3,env1,h3,er3',hr3,zs5 sub w3 fun y h4 ρ4 H4 vy ex4 er4 hr4 ry w4=>?_⟩
         have hD4:H4 D=some (.lst vs):=by rw [ex4.frm D (.inr rfl)];exact hD3
         have fr4:zfH F ρ4 h4 D:=⟨nF,(hr4.pro D (.inr rfl)).2⟩
         have exA:Ext F ρ' ρ4 H' H4:=((ex2.trans ex3).trans ex4).sub sub
         have rs4:RDs ρ4 H4 acc vs:=RDs.ext exA _ _ rs
         obtain ⟨ex5,hr5⟩:=(hr4.sub sub).upd_free (ys:=vs++[vy]) fr4 hD4
         refine ⟨vs,hD4,by have:=rs.length;rw [sizeLine_eq];omega,p.1.length - (i+1),by omega,ρ4,env1,h4,acc++[y],vs++[vy],(ex.trans exA).trans ex5,er4.ext ex5,hr5,zcy,fr4,RDs.ext ex5 _ _ (rs4.snoc ry),by simp;omega,rfl,hlt,w4.mono ex5⟩
       | false =>
         rw [if_neg (by decide)]at w3 ⊢
         have exA:Ext F ρ' ρ3 H' H3:=(ex2.trans ex3).sub sub
         exact ⟨p.1.length - (i+1),by omega,ρ3,env1,h3,acc,vs,ex.trans exA,er3',hr3.sub sub,hD3,⟨nF,(hr3.pro D (.inr rfl)).2⟩,RDs.ext exA _ _ rs,by omega,rfl,hlt,w3⟩
   . rw [if_neg g]at w;exact w.elim
 . left
   rw [List.drop_eq_nil_of_le (by omega)]at w
   simp only [zcw]at w
   by_cases g:guard p.2 h'=true
   . rw [if_pos g]at w
     exact ⟨(src F ρ' h' H' i ex hr' g).2 (by omega),w.done (er1.ext ex) hr' ⟨D,vs,rfl,hD',fr,rs⟩⟩
   . rw [if_neg g]at w;exact w.elim
theorem zue {t:Tg}{Q:VK} (w:tN W G (zcx js t ms cond me) σ H Q):zp2 js (tI W G ms) (tTg G t) (tT W G cond) (tE W G me) σ H Q:=by
 obtain ⟨F,ρ,env,h,er,hr,w⟩:=w
 refine ⟨F,ρ,env,h,er,hr,zF w fun p h1 ρ1 H1 J e1 er1 hr1 src w1=>fun D hD=>?_⟩
 by_cases hlen:p.1.length<=1000000
 . rw [if_pos hlen]at w1
   exact zBv hlen src er1 hr1 w1 D hD
 . rw [if_neg hlen]at w1;exact w1.elim
theorem zej:zeT X [] (tT W G zco) := .of (fun pins s σ H Q I ⟨F,ρ,env,h,er,hr,w⟩=>zDr pins s σ H Q I (wp.done (h:=h) w er hr rfl))
theorem zDq (hc:JT X c (tT W G cond)):zeT X [c] (tT W G cond) := .of (zEY hc.to)
theorem zeC {t:Tg} (hc:X.calm=true) (S:zb0 X scope N js) (hi:JI X tg iter (tI W G ms)) (hg:∀ cl s₀ H₀ fp,JG (zcE X scope N cl s₀ H₀ fp) tg (tTg G t)) (hf:∀ cl s₀ H₀ fp,zeT (zcE X scope N cl s₀ H₀ fp) ifs (tT W G cond))
   (he:∀ cl s₀ H₀ fp,JE (zcE X scope N cl s₀ H₀ fp) elt (tE W G me)) (hs:∀ x,foldedSetIterable iter X.env x=pure x:=by intro _;rfl):JE X (.ListComp elt [⟨tg,iter,ifs,0⟩] scope pos) (tN W G (zcx js t ms cond me)) :=
 .of (zW (zEe hc S hi.to ⟨fun cl s₀ H₀ fp=>⟨(hg cl s₀ H₀ fp).to,(hf cl s₀ H₀ fp).to,(he cl s₀ H₀ fp).to⟩⟩ hs) fun σ H Q w=>zue w)
theorem zrE {t:Tg}{j:Nat}{y:Str}{py spos:Pos} (hc:X.calm=true) (hN:X.N.Nodup) (hj:X.N[j]?=some y) (hy:X.env.scope.names.lookup y=some .local) (S:zb0 X scope N js) (hi:JI X tg iter (tI W G ms))
   (hg:∀ cl s₀ H₀ fp,JG (zcE X scope N cl s₀ H₀ fp) tg (tTg G t)) (hf:∀ cl s₀ H₀ fp,zeT (zcE X scope N cl s₀ H₀ fp) ifs (tT W G cond)) (he:∀ cl s₀ H₀ fp,JE (zcE X scope N cl s₀ H₀ fp) elt (tE W G me))
   (hsw:swapsWith (.ListComp elt [⟨tg,iter,ifs,0⟩] scope pos) (some (.Name y py)) spos.line X.env=pure true:=by rfl) (hs:∀ x,foldedSetIterable iter X.env x=pure x:=by intro _;rfl) :
   JS X (.Assign [.Name y py] (.ListComp elt [⟨tg,iter,ifs,0⟩] scope pos) spos) (tS W G (zk (.nm j) (zN (zcx js t ms cond me)))) :=
 .of (zdE (zFo hc hN hj hy S hi.to ⟨fun cl s₀ H₀ fp=>⟨(hg cl s₀ H₀ fp).to,(hf cl s₀ H₀ fp).to,(he cl s₀ H₀ fp).to⟩⟩ hsw hs) fun E σ H ⟨F,ρ,env,h,er,hr,w⟩=>zue ⟨F,ρ,env,h,er,hr,by
   have w':wp F W G rV env σ ρ H (zN (zcx js t ms cond me) env h) (fun z H2=>E.nx (σ.set j (some z)) H2):=zdd w fun x h1 ρ1 H1 y e1 er1 hr1 r1 w1=>wpS.done (h:=h1) w1 (er1.set r1 j) hr1
   exact zF w' fun xs h1 ρ1 H1 y e1 er1 hr1 ⟨q,vs,ey,hq,fr,rs⟩ w1=>by subst ey;exact zsn w1 er1 hr1 hq fr rs⟩)
end
end MI
end
section
namespace MI
open PySem PySem.Spec L2
noncomputable def O.bd (n:Nat):O->Prop
 | .lst xs=>bds n xs
 | .scr xs=>bds n xs
 | .dic kvs=>∀ p∈kvs,p.2.bd n
 | .hole=>True
 | .set _=>True
 | .ins _ fs=>∀ p∈fs,p.2.bd n
section
variable {F:Addr->Prop}{G:GP}{ρ ρ1 ρ2 ρ':List Addr}{H H1 H2:Hp}{h h1 h2:MH}{a:Addr}{o:O}{n:Nat}
theorem KRs.mem {kvs:List (Int×D)}:∀ {vs:List (Key×V)},KRs ρ H kvs vs->∀ p∈kvs,∃ v,RD ρ H p.2 v:=by
 induction kvs with
 | nil=>intro vs r p hp;cases hp
 | cons q kvs ih =>
   intro vs r p hp
   unfold KRs at r
   obtain ⟨v,w,rfl,r1,r2⟩:=r
   rcases List.mem_cons.mp hp with rfl | hp
   . exact ⟨v,r1⟩
   . exact ih r2 p hp
theorem FRs.mem {C:Addr}{kvs:List (Nat×D)}:∀ {vs:List (Str×V)},FRs G ρ H C kvs vs->∀ p∈kvs,∃ v,RD ρ H p.2 v:=by
 induction kvs with
 | nil=>intro vs r p hp;cases hp
 | cons q kvs ih =>
   intro vs r p hp
   unfold FRs at r
   obtain ⟨f,v,w,rfl,_,_,r1,r2⟩:=r
   rcases List.mem_cons.mp hp with rfl | hp
   . exact ⟨v,r1⟩
   . exact ih r2 p hp
theorem RO.bd (r:RO G ρ H a o):o.bd ρ.length:=by
 cases o with
 | lst xs=>obtain ⟨vs,_,r⟩:=r;exact RDs.bd _ _ r
 | scr xs=>obtain ⟨vs,_,r⟩:=r;exact RDs.bd _ _ r
 | dic kvs=>obtain ⟨vs,_,r⟩:=r;exact fun p hp=>let ⟨v,q⟩:=r.mem p hp;RD.bd _ _ q
 | hole=>trivial
 | set xs=>trivial
 | ins c fs=>obtain ⟨C,dx,vs,_,_,r⟩:=r;exact fun p hp=>let ⟨v,q⟩:=r.mem p hp;RD.bd _ _ q
theorem ztc:∀ {ds:List D},nrs ds=true->∀ d∈ds,d.nr=true
 | [],_,d,hd=>by cases hd
 | x :: ds,h,d,hd=>by
   unfold nrs at h
   rw [Bool.and_eq_true]at h
   rcases List.mem_cons.mp hd with rfl | hd
   . exact h.1
   . exact ztc h.2 d hd
theorem O.flat_bd (f:o.flat=true):o.bd n:=by
 cases o with
 | lst xs=>exact zp9 xs f
 | scr xs=>cases f
 | dic kvs=>exact fun p hp=>D.nr_bd _ (ztc f _ (List.mem_map_of_mem hp))
 | hole=>cases f
 | set xs=>trivial
 | ins c fs=>cases f
theorem KRs.cut {kvs:List (Int×D)} (e:∀ m,m < n->ρ1[m]?=ρ[m]?):∀ {vs:List (Key×V)},KRs ρ H kvs vs->(∀ p∈kvs,p.2.bd n)->KRs ρ1 H kvs vs:=by
 induction kvs with
 | nil=>intro vs r _;exact r
 | cons q kvs ih =>
   intro vs r b
   unfold KRs at r ⊢
   obtain ⟨v,w,e1,r1,r2⟩:=r
   exact ⟨v,w,e1,RD.cut e _ _ (b q List.mem_cons_self) r1,ih r2 fun p hp=>b p (List.mem_cons_of_mem _ hp)⟩
theorem FRs.cut {C:Addr}{kvs:List (Nat×D)} (e:∀ m,m < n->ρ1[m]?=ρ[m]?):∀ {vs:List (Str×V)},FRs G ρ H C kvs vs->(∀ p∈kvs,p.2.bd n)->FRs G ρ1 H C kvs vs:=by
 induction kvs with
 | nil=>intro vs r _;exact r
 | cons q kvs ih =>
   intro vs r b
   unfold FRs at r ⊢
   obtain ⟨f,v,w,e1,e2,e3,r1,r2⟩:=r
   exact ⟨f,v,w,e1,e2,e3,RD.cut e _ _ (b q List.mem_cons_self) r1,ih r2 fun p hp=>b p (List.mem_cons_of_mem _ hp)⟩
theorem RO.cut (r:RO G ρ H a o) (b:o.bd n) (e:∀ m,m < n->ρ1[m]?=ρ[m]?):RO G ρ1 H a o:=by
 cases o with
 | lst xs=>obtain ⟨vs,h1,r⟩:=r;exact ⟨vs,h1,RDs.cut e _ _ b r⟩
 | scr xs=>obtain ⟨vs,h1,r⟩:=r;exact ⟨vs,h1,RDs.cut e _ _ b r⟩
 | dic kvs=>obtain ⟨vs,h1,r⟩:=r;exact ⟨vs,h1,r.cut e b⟩
 | hole=>exact r
 | set xs=>exact r
 | ins c fs=>obtain ⟨C,dx,vs,h1,h2,r⟩:=r;exact ⟨C,dx,vs,h1,h2,r.cut e b⟩
theorem HR.select (hr:HR F G ρ2 h2 H2) {os:List Nat}{objs:MH}{ρ':List Addr} (nd:os.Nodup) (hl:objs.length=os.length) (hl':ρ'.length=os.length) (ha:∀ (j i:Nat),os[j]?=some i->ρ'[j]?=ρ2[i]?)
   (hA:∀ (j i:Nat) ob,os[j]?=some i->objs[j]?=some ob->∃ a ob2,ρ2[i]?=some a∧h2[i]?=some ob2∧ob.isScr=ob2.isScr∧RO G ρ' H2 a ob):HR F G ρ' objs H2:=by
 have org:∀ (j:Nat) b ob,ρ'[j]?=some b->objs[j]?=some ob->∃ i ob2,os[j]?=some i∧ρ2[i]?=some b∧h2[i]?=some ob2∧ob.isScr=ob2.isScr∧RO G ρ' H2 b ob:=fun j b ob e1 e2=>by
   have hj:j < os.length:=by rw [<- hl];exact (List.getElem?_eq_some_iff.mp e2).1
   have ei:=List.getElem?_eq_getElem hj
   obtain ⟨a,ob2,h3,h4,h5,h6⟩:=hA j _ ob ei e2
   have:=ha j _ ei
   rw [e1,h3]at this;cases this
   exact ⟨_,ob2,ei,h3,h4,h5,h6⟩
 refine ⟨fun b hb=>⟨(hr.pro b hb).1,fun m ob e1 e2=>?_⟩,fun m m' b ob ob' hne e1 e2 e3 e4=>?_,by rw [hl,hl'],fun m ob e=>?_⟩
 . obtain ⟨i,ob2,_,h3,h4,h5,_⟩:=org m b ob e1 e2
   rw [h5];exact (hr.pro b hb).2 i ob2 h3 h4
 . obtain ⟨i,ob2,f1,h3,h4,h5,_⟩:=org m b ob e1 e3
   obtain ⟨i',ob2',f1',h3',h4',h5',_⟩:=org m' b ob' e2 e4
   rw [h5,h5']
   refine hr.nd i i' b ob2 ob2' (fun z=>hne ?_) h3 h3' h4 h4'
   subst z
   obtain ⟨g1,g2⟩:=List.getElem?_eq_some_iff.mp f1
   obtain ⟨g1',g2'⟩:=List.getElem?_eq_some_iff.mp f1'
   exact (List.getElem_inj nd).mp (g2.trans g2'.symm)
 . have hm:m < os.length:=by rw [<- hl];exact (List.getElem?_eq_some_iff.mp e).1
   obtain ⟨a,ob2,h3,h4,h5,h6⟩:=hA m _ ob (List.getElem?_eq_getElem hm) e
   exact ⟨a,by rw [ha m _ (List.getElem?_eq_getElem hm)];exact h3,h6⟩
noncomputable def RlP (n b:Nat) (h2:MH) (ds:List D) (ms:List Nat) (ds':List D) (ms':List Nat):Prop:=(∃ t,ms'=ms++t)∧ms'.Nodup∧(∀ m∈ms',n<=m∧∃ o,h2[m]?=some o∧o.flat=true) ∧
   ∀ (ρ2 ρ':List Addr) (H:Hp) (vs:List V),(∀ i,i < n->ρ'[i]?=ρ2[i]?)->(∀ (j m:Nat),ms'[j]?=some m->ρ'[b+j]?=ρ2[m]?)->RDs ρ2 H ds vs->RDs ρ' H ds' vs
theorem zij {b:Nat}:∀ {ds:List D}{ms:List Nat}{ds':List D}{ms':List Nat},zcz n b h2 ds ms=some (ds',ms')->ms.Nodup->(∀ m∈ms,n<=m∧∃ o,h2[m]?=some o∧o.flat=true)->RlP n b h2 ds ms ds' ms'
 | [],ms,ds',ms',e,nd,hm=>by
   simp only [zcz]at e
   cases e
   exact ⟨⟨[],by simp⟩,nd,hm,fun ρ2 ρ' H vs _ _ r=>by unfold RDs at r ⊢;exact r⟩
 | d :: ds,ms,ds',ms',e,nd,hm=>by
   have plain:∀ {q:List D×List Nat},d.bd n->zcz n b h2 ds ms=some q->ds'=d :: q.1->ms'=q.2->RlP n b h2 (d :: ds) ms ds' ms':=fun {q} hd e' e1 e2=>by
     subst e1 e2
     obtain ⟨h3,h4,h5,h6⟩:=zij (ds':=q.1) (ms':=q.2) e' nd hm
     refine ⟨h3,h4,h5,fun ρ2 ρ' H vs g1 g2 r=>?_⟩
     unfold RDs at r ⊢
     obtain ⟨x,w,e3,r1,r2⟩:=r
     exact ⟨x,w,e3,RD.cut g1 _ _ hd r1,h6 ρ2 ρ' H w g1 g2 r2⟩
   have byNr:d.nr=true->(if d.nr=true then (zcz n b h2 ds ms).map fun p=>(d :: p.1,p.2) else none)=some (ds',ms')->RlP n b h2 (d :: ds) ms ds' ms':=fun hn e=>by
     rw [if_pos hn,Option.map_eq_some_iff]at e
     obtain ⟨q,e1,e2⟩:=e
     cases e2
     exact plain (D.nr_bd d hn) e1 rfl rfl
   cases d with
   | obj m =>
     simp only [zcz]at e
     by_cases h1:m < n
     . rw [if_pos h1,Option.map_eq_some_iff]at e
       obtain ⟨q,e1,e2⟩:=e
       cases e2
       exact plain (by unfold D.bd;exact h1) e1 rfl rfl
     . rw [if_neg h1]at e
       by_cases h3:m∈ms
       . rw [if_pos h3]at e;cases e
       . rw [if_neg h3]at e
         cases q:h2[m]? with
         | none=>rw [q]at e;cases e
         | some ob =>
           rw [q]at e
           dsimp only at e
           by_cases h4:ob.flat=true
           . rw [if_pos h4,Option.map_eq_some_iff]at e
             obtain ⟨w,e1,e2⟩:=e
             cases e2
             have nd':(ms++[m]).Nodup:=by
               rw [List.nodup_append]
               exact ⟨nd,by simp,fun x hx y hy=>by simp at hy;subst hy;exact fun z=>h3 (z ▸ hx)⟩
             obtain ⟨⟨t,et⟩,g4,g5,g6⟩:=zij (ds':=w.1) (ms':=w.2) e1 nd' (fun x hx=>by
               rcases List.mem_append.mp hx with hx | hx
               . exact hm x hx
               . simp at hx;subst hx;exact ⟨by omega,ob,q,h4⟩)
             refine ⟨⟨m :: t,by rw [et];simp⟩,g4,g5,fun ρ2 ρ' H vs g1 g2 r=>?_⟩
             unfold RDs at r ⊢
             obtain ⟨x,w',e3,r1,r2⟩:=r
             refine ⟨x,w',e3,?_,g6 ρ2 ρ' H w' g1 g2 r2⟩
             unfold RD at r1 ⊢
             obtain ⟨a,ea,eb⟩:=r1
             refine ⟨a,ea,?_⟩
             rw [g2 ms.length m (by rw [et];simp)]
             exact eb
           . rw [if_neg h4]at e;cases e
   | non=>exact byNr rfl e
   | bl x=>exact byNr rfl e
   | int x=>exact byNr rfl e
   | str x=>exact byNr rfl e
   | tup xs =>
     have e':(if (D.tup xs).nr=true then (zcz n b h2 ds ms).map fun p=>(D.tup xs :: p.1,p.2) else none)=some (ds',ms'):=e
     by_cases hn:(D.tup xs).nr=true
     . exact byNr hn e'
     . rw [if_neg hn]at e';cases e'
theorem zFe (hr1:HR F G ρ1 h1 H1) (ok:zev h1 h2=true) {i:Nat}{ob:O} (hi:i < h1.length) (e:h2[i]?=some ob):ob.bd ρ1.length:=by
 unfold zev at ok
 rw [List.all_eq_true]at ok
 have:=ok i (List.mem_range.mpr hi)
 rw [Bool.or_eq_true,decide_eq_true_eq]at this
 rcases this with z | z
 . obtain ⟨a,e1,e2⟩:=hr1.all i ob (by rw [<- z];exact e)
   exact e2.bd
 . rw [e]at z
   exact O.flat_bd z
theorem HR.keepSome {t:List Addr} (hr1:HR F G ρ1 h1 H1) (hr2:HR F G (ρ1++t) h2 H2) (ok:zev h1 h2=true) {os:List Nat}{obs:MH} (nd:os.Nodup) (hge:∀ m∈os,h1.length<=m) (hl:obs.length=os.length)
   (hA:∀ (j i:Nat) ob,os[j]?=some i->obs[j]?=some ob->∃ a ob2,(ρ1++t)[i]?=some a∧h2[i]?=some ob2∧ob.isScr=ob2.isScr∧RO G (ρ1++os.map fun i=>(ρ1++t).getD i 0) H2 a ob) :
   HR F G (ρ1++os.map fun i=>(ρ1++t).getD i 0) (h2.take h1.length++obs) H2:=by
 have hl2:h1.length<=h2.length:=by rw [<- hr1.len,<- hr2.len];simp
 have hpre:∀ m,m < ρ1.length->(ρ1++os.map fun i=>(ρ1++t).getD i 0)[m]?=(ρ1++t)[m]?:=fun m hm=>by rw [List.getElem?_append_left hm,List.getElem?_append_left hm]
 have hio:∀ (j i:Nat),(List.range h1.length++os)[j]?=some i->(j < h1.length∧i=j)∨(h1.length<=j∧os[j - h1.length]?=some i):=fun j i e=>by
   by_cases hj:j < h1.length
   . rw [List.getElem?_append_left (by simpa using hj),List.getElem?_range hj]at e
     cases e;exact .inl ⟨hj,rfl⟩
   . rw [List.getElem?_append_right (by simp;omega)]at e
     simp only [List.length_range]at e
     exact .inr ⟨by omega,e⟩
 refine hr2.select (os:=List.range h1.length++os) ?_ ?_ ?_ (fun j i e=>?_) (fun j i ob e1 e2=>?_)
 . rw [List.nodup_append]
   refine ⟨List.nodup_range,nd,fun x hx y hy z=>?_⟩
   have:=hge y hy
   rw [List.mem_range]at hx
   omega
 . rw [List.length_append,List.length_append,List.length_range,hl,List.length_take];omega
 . rw [List.length_append,List.length_append,List.length_range,List.length_map,hr1.len]
 . rcases hio j i e with ⟨hj,rfl⟩ | ⟨hj,e⟩
   . exact hpre i (by rw [hr1.len];exact hj)
   . rw [List.getElem?_append_right (by rw [hr1.len];exact hj),List.getElem?_map,hr1.len,e]
     have hi:i < (ρ1++t).length:=by
       have ho:j - h1.length < obs.length:=by rw [hl];exact (List.getElem?_eq_some_iff.mp e).1
       obtain ⟨a,_,h3,_⟩:=hA _ _ _ e (List.getElem?_eq_getElem ho)
       exact (List.getElem?_eq_some_iff.mp h3).1
     rw [List.getElem?_eq_getElem hi]
     simp [List.getD,List.getElem?_eq_getElem hi]
 . rcases hio j i e1 with ⟨hj,rfl⟩ | ⟨hj,e1⟩
   . have hlt:i < (h2.take h1.length).length:=by rw [List.length_take];omega
     rw [List.getElem?_append_left hlt,List.getElem?_take_of_lt hj]at e2
     obtain ⟨a,h3,h4⟩:=hr2.all i ob e2
     exact ⟨a,ob,h3,e2,rfl,h4.cut (zFe hr1 ok hj e2) hpre⟩
   . have hlt:(h2.take h1.length).length=h1.length:=by rw [List.length_take];omega
     rw [List.getElem?_append_right (by rw [hlt];exact hj),hlt]at e2
     exact hA _ _ _ e1 e2
theorem RO.flat (r:RO G ρ H a o) (f:o.flat=true):RO G ρ' H a o:=r.cut (n:=0) (O.flat_bd f) fun m hm=>absurd hm (Nat.not_lt_zero m)
theorem zrG:∀ {fs:List (Nat×D)}{ds:List D}{vs:List (Str×V)}{C:Addr}{us:List V},FRs G ρ H C fs vs->vs.map (·.2)=us->RDs ρ' H ds us->FRs G ρ' H C ((fs.map (·.1)).zip ds) vs
 | [],ds,vs,C,us,r,e,rs=>by unfold FRs at r;subst r;simp [FRs]
 | p :: fs,ds,vs,C,us,r,e,rs=>by
   unfold FRs at r
   obtain ⟨f,v,q,rfl,h1,h2,h3,h4⟩:=r
   subst e
   rw [List.map_cons]at rs
   cases ds with
   | nil=>unfold RDs at rs;cases rs
   | cons d ds =>
     unfold RDs at rs
     obtain ⟨x,w,e1,r1,r2⟩:=rs
     cases e1
     rw [List.map_cons,List.zip_cons_cons]
     unfold FRs
     exact ⟨f,v,q,rfl,h1,h2,r1,zrG h4 rfl r2⟩
theorem FRs.vals:∀ {fs:List (Nat×D)}{vs:List (Str×V)}{C:Addr},FRs G ρ H C fs vs->RDs ρ H (fs.map (·.2)) (vs.map (·.2))
 | [],vs,C,r=>by unfold FRs at r;subst r;simp;exact RDs.nil
 | p :: fs,vs,C,r=>by
   unfold FRs at r
   obtain ⟨f,v,q,rfl,h1,h2,h3,h4⟩:=r
   exact RDs.cons h3 (FRs.vals h4)
theorem zBT {v:D}{v2:V}{t:List Addr} (hr1:HR F G ρ1 h1 H1) (hr2:HR F G (ρ1++t) h2 H2) (rd:RD (ρ1++t) H2 v v2) (ok:zev h1 h2=true) :
   ∃ t',HR F G (ρ1++t') (gcV h1.length v h2).2 H2∧RD (ρ1++t') H2 (gcV h1.length v h2).1 v2:=by
 have none':HR F G ρ1 (h2.take h1.length) H2:=by
   have:=hr1.keepSome hr2 ok (os:=[]) (obs:=[]) (by simp) (by simp) rfl (fun j i ob e=>by simp at e)
   simpa using this
 have low:∀ {d:D} {u:V},d.bd h1.length->RD (ρ1++t) H2 d u->RD ρ1 H2 d u:=fun {d u} hb r=>RD.cut (n:=h1.length) (fun m hm=>by rw [List.getElem?_append_left (by rw [hr1.len];exact hm)]) d u hb r
 have flatOs:∀ {ms:List Nat},(∀ m∈ms,h1.length<=m∧∃ o,h2[m]?=some o∧o.flat=true)->∀ (ρ':List Addr) (j i:Nat) ob,ms[j]?=some i->(ms.map fun k=>h2.getD k (.lst []))[j]?=some ob->∃ a ob2,(ρ1++t)[i]?=some a∧h2[i]?=some ob2∧ob.isScr=ob2.isScr∧RO G ρ' H2 a ob:=fun {ms} hm ρ' j i ob e1 e2=>by
   obtain ⟨_,o,ho,hf⟩:=hm i (List.mem_of_getElem? e1)
   rw [List.getElem?_map,e1]at e2
   have e3:h2.getD i (.lst [])=ob:=Option.some.inj e2
   rw [List.getD_eq_getElem?_getD,ho]at e3
   have e4:o=ob:=e3
   subst e4
   obtain ⟨a,g1,g2⟩:=hr2.all i o ho
   exact ⟨a,o,g1,ho,rfl,g2.flat hf⟩
 cases v with
 | obj m =>
   simp only [gcV]
   by_cases hm:m < h1.length
   . rw [if_pos hm]
     exact ⟨[],by simpa using none',by simpa using low (by unfold D.bd;exact hm) rd⟩
   . rw [if_neg hm]
     cases q:h2[m]? with
     | none=>exact ⟨t,hr2,rd⟩
     | some ob =>
       have flatCase:ob.flat=true->∃ t',HR F G (ρ1++t') (h2.take h1.length++[ob]) H2∧RD (ρ1++t') H2 (.obj h1.length) v2:=fun hf=>by
         have hh:=hr1.keepSome hr2 ok (os:=[m]) (obs:=[ob]) (by simp) (by simp;omega) rfl (fun j i x e1 e2=>by
           refine flatOs (ms:=[m]) (fun k hk=>?_) _ j i x e1 ?_
           . have e:k=m:=by simpa using hk
             subst e;exact ⟨by omega,ob,q,hf⟩
           . simp only [List.map_cons,List.map_nil,List.getD_eq_getElem?_getD,q];exact e2)
         refine ⟨_,hh,?_⟩
         unfold RD at rd ⊢
         obtain ⟨a,e1,e2⟩:=rd
         refine ⟨a,e1,?_⟩
         rw [List.getElem?_append_right (by rw [hr1.len];exact Nat.le_refl _),hr1.len]
         simp [List.getD_eq_getElem?_getD,e2]
       cases ob with
       | ins c fs =>
         dsimp only
         cases qr:zcz h1.length (h1.length+1) h2 (fs.map (·.2)) [] with
         | none=>exact ⟨t,hr2,rd⟩
         | some pr =>
           obtain ⟨ds,ms⟩:=pr
           obtain ⟨_,nd,hms,rel⟩:=zij qr (by simp) (by simp)
           dsimp only
           have hge:∀ k∈m :: ms,h1.length<=k:=fun k hk=>by
             rcases List.mem_cons.mp hk with rfl | hk
             . omega
             . exact (hms k hk).1
           have ndm:(m :: ms).Nodup:=by
             rw [List.nodup_cons]
             refine ⟨fun z=>?_,nd⟩
             obtain ⟨_,o,ho,hf⟩:=hms m z
             rw [q]at ho;cases ho;cases hf
           have hlen:∀ k∈ms,k < (ρ1++t).length:=fun k hk=>by
             obtain ⟨_,o,ho,_⟩:=hms k hk
             rw [hr2.len];exact (List.getElem?_eq_some_iff.mp ho).1
           have hml:m < (ρ1++t).length:=by rw [hr2.len];exact (List.getElem?_eq_some_iff.mp q).1
           have hh:=hr1.keepSome hr2 ok (os:=m :: ms) (obs := .ins c ((fs.map (·.1)).zip ds) :: ms.map fun k=>h2.getD k (.lst [])) ndm hge (by simp) (fun j i x e1 e2=>by
             cases j with
             | zero =>
               cases e1;cases e2
               obtain ⟨a,g1,g2⟩:=hr2.all m _ q
               refine ⟨a,_,g1,q,rfl,?_⟩
               obtain ⟨C,dx,vs,k1,k2,k3⟩:=g2
               refine ⟨C,dx,vs,k1,k2,zrG k3 rfl (rel (ρ1++t) _ H2 _ (fun i hi=>?_) (fun j k ek=>?_) k3.vals)⟩
               . rw [List.getElem?_append_left (by rw [hr1.len];exact hi),List.getElem?_append_left (by rw [hr1.len];exact hi)]
               . rw [List.getElem?_append_right (by rw [hr1.len];omega),hr1.len]
                 have e5:h1.length+1+j - h1.length=j+1:=by omega
                 rw [e5,List.map_cons,List.getElem?_cons_succ,List.getElem?_map,ek]
                 have hk:=hlen k (List.mem_of_getElem? ek)
                 rw [List.getElem?_eq_getElem hk]
                 simp [List.getD_eq_getElem?_getD,List.getElem?_eq_getElem hk]
             | succ j=>exact flatOs hms _ j i x (by simpa using e1) (by simpa using e2))
           refine ⟨_,hh,?_⟩
           unfold RD at rd ⊢
           obtain ⟨a,e1,e2⟩:=rd
           refine ⟨a,e1,?_⟩
           rw [List.getElem?_append_right (by rw [hr1.len];exact Nat.le_refl _),hr1.len]
           simp [List.getD_eq_getElem?_getD,e2]
       | lst xs =>
         dsimp only
         by_cases hf:(O.lst xs).flat=true
         . rw [if_pos hf];exact flatCase hf
         . rw [if_neg hf];exact ⟨t,hr2,rd⟩
       | scr xs =>
         dsimp only
         by_cases hf:(O.scr xs).flat=true
         . rw [if_pos hf];exact flatCase hf
         . rw [if_neg hf];exact ⟨t,hr2,rd⟩
       | dic xs =>
         dsimp only
         by_cases hf:(O.dic xs).flat=true
         . rw [if_pos hf];exact flatCase hf
         . rw [if_neg hf];exact ⟨t,hr2,rd⟩
       | hole =>
         dsimp only
         by_cases hf:O.hole.flat=true
         . rw [if_pos hf];exact flatCase hf
         . rw [if_neg hf];exact ⟨t,hr2,rd⟩
       | set xs =>
         dsimp only
         by_cases hf:(O.set xs).flat=true
         . rw [if_pos hf];exact flatCase hf
         . rw [if_neg hf];exact ⟨t,hr2,rd⟩
 | tup ds =>
   simp only [gcV]
   cases qr:zcz h1.length h1.length h2 ds [] with
   | none=>exact ⟨t,hr2,rd⟩
   | some pr =>
     obtain ⟨ds',ms⟩:=pr
     obtain ⟨_,nd,hms,rel⟩:=zij qr (by simp) (by simp)
     dsimp only
     have hlen:∀ k∈ms,k < (ρ1++t).length:=fun k hk=>by
       obtain ⟨_,o,ho,_⟩:=hms k hk
       rw [hr2.len];exact (List.getElem?_eq_some_iff.mp ho).1
     have hh:=hr1.keepSome hr2 ok (os:=ms) (obs:=ms.map fun k=>h2.getD k (.lst [])) nd (fun k hk=>(hms k hk).1) (by simp) (fun j i x e1 e2=>flatOs hms _ j i x e1 e2)
     refine ⟨_,hh,?_⟩
     unfold RD at rd ⊢
     obtain ⟨a,vs,e1,e2,rs⟩:=rd
     refine ⟨a,vs,e1,e2,rel (ρ1++t) _ H2 vs (fun i hi=>?_) (fun j k ek=>?_) rs⟩
     . rw [List.getElem?_append_left (by rw [hr1.len];exact hi),List.getElem?_append_left (by rw [hr1.len];exact hi)]
     . rw [List.getElem?_append_right (by rw [hr1.len];omega),hr1.len]
       have e5:h1.length+j - h1.length=j:=by omega
       rw [e5,List.getElem?_map,ek]
       have hk:=hlen k (List.mem_of_getElem? ek)
       rw [List.getElem?_eq_getElem hk]
       simp [List.getD_eq_getElem?_getD,List.getElem?_eq_getElem hk]
 | non=>exact ⟨[],by simpa [gcV] using none',by simpa [gcV] using low (by simp [D.bd]) rd⟩
 | bl x=>exact ⟨[],by simpa [gcV] using none',by simpa [gcV] using low (by simp [D.bd]) rd⟩
 | int x=>exact ⟨[],by simpa [gcV] using none',by simpa [gcV] using low (by simp [D.bd]) rd⟩
 | str x=>exact ⟨[],by simpa [gcV] using none',by simpa [gcV] using low (by simp [D.bd]) rd⟩
end
end MI
end
section
namespace MI
open PySem PySem.Spec L2
abbrev W0:Nat->Hp->Prop:=fun _ _=>False
noncomputable def wpF (F:Addr->Prop) (G:GP) (ρ:List Addr) (H:Hp) (r:R D) (Q:VK):Prop:=match r with
 | .ok v h1=>∀ ρ1 H1 v1,Ext F ρ ρ1 H H1->HR F G ρ1 h1 H1->RD ρ1 H1 v v1->Q v1 H1
 | .ex c h1=>∀ ρ1 H1,Ext F ρ ρ1 H H1->HR F G ρ1 h1 H1->False
 | .bad=>False
noncomputable def spM (G:GP) (n:Nat) (f:MF):Sp:=fun vs H Q _=>∃ F ρ ds h,HR F G ρ h H∧RDs ρ H ds vs∧ds.length=n∧wpF F G ρ H (f ds h) Q
noncomputable def Ar (n:Nat) (f:MF):Prop:=∀ ds h,ds.length≠n->f ds h = .bad
theorem ziq {np nl:Nat}{m:MS}:Ar np (zZ np nl m):=fun ds h hn=>if_neg hn
section
variable {P:Program}{w:World}{K:PySem.W.Frag}{mg:Str->Option Value}{base:Heap}{G:GP}
theorem zBM {F:Addr->Prop}{ρ:List Addr}{H:Hp}{N:List Str}{ds:List D}{vs:List V}{nl np:Nat} (r:RDs ρ H ds vs) (h1:N.length=nl) (h2:ds.length=np) (h3:np<=nl):zX ρ H (ds.map some++List.replicate (nl - np) none) (L2.start N vs):=by
 have hl:=r.length
 unfold L2.start
 refine ⟨by simp;omega,fun i d e=>?_⟩
 by_cases hi:i < ds.length
 . rw [List.getElem?_append_left (by simpa using hi),List.getElem?_map]at e
   rw [List.getElem?_append_left (by simp;omega),List.getElem?_map]
   cases ei:ds[i]? with
   | none=>rw [ei]at e;cases e
   | some d' =>
     rw [ei]at e
     have e':d'=d:=by simpa using e
     subst e'
     obtain ⟨v,g1,g2⟩:=r.get ei
     exact ⟨v,by rw [g1];rfl,g2⟩
 . rw [List.getElem?_append_right (by simpa using hi)]at e
   have:=List.mem_of_getElem? e
   rw [List.mem_replicate]at this
   cases this.2
theorem zbh {x qual:Str}{st:Stmt}{f:Addr}{fd:FuncData}{N ps:List Str}{k np nl:Nat}{m:MS} (Fn:Fun K x qual st f fd) (S:z6 N ps (zr st)) (hnl:N.length=nl) (hnp:ps.length=np) (hle:np<=nl)
   (body:∀ (cdv:Value) (A:Around) (outer:List Env) (s:Shared) (H:Hp) (E:XK),zP k (A.deeper (PyProof.Rows.envOfC qual (zr st) s.heap.objs.size f cdv)) ->
     JSs (zgr CX0 P w K mg base N qual (zr st) f cdv A outer s H E).nox (zT st) (tS W0 G m)):zK P w K mg base CX0 (k+1) f fd ps (spM G np (zZ np nl m)):=by
 refine Fn.ok S (fun vs H Q E h=>?_) (fun cdv A outer s H vs Q E hr h=>?_)
 . obtain ⟨F,ρ,ds,h,_,r,hl,_⟩:=h
   rw [<- r.length,hl,hnp]
 . obtain ⟨F,ρ,ds,h,hrr,r,hl,w⟩:=h
   refine ⟨_,(body cdv A outer s H E hr).to,F,ρ,_,h,zBM (F:=F) r hnl hl hle,hrr,?_⟩
   unfold zZ at w
   rw [if_pos hl]at w
   cases e:m (ds.map some++List.replicate (nl - np) none) h with
   | nx e1 h1=>rw [e]at w;exact fun ρ1 H1 σ1 ex er hr'=>w ρ1 H1 .non ex hr' (by unfold RD;rfl)
   | rt v h1=>rw [e]at w;exact w
   | ex c h1=>rw [e]at w;exact w
   | bk e1 h1=>rw [e]at w;exact w.elim
   | ct e1 h1=>rw [e]at w;exact w.elim
   | bad=>rw [e]at w;exact w.elim
end
section
variable {X:Cx}{F:Addr->Prop}{G:GP}{env:zx}{σ:L2.St}{ρ:List Addr}{H:Hp}{h:MH}{e o:Expr}{es:List Expr}{mo:ME D}{ml:ME (List D)}{pos p apos:Pos}{k n:Nat}{x m:Str}{f C:Addr}{fd:FuncData}{ps:List Str}{mf:MF}
theorem zs7 {ds:List D}{Q:VK} (er:zX ρ H env σ) (hr:HR F G ρ h H) (w:wp F W0 G rV env σ ρ H (app mf ds h) Q):wpF F G ρ H (mf ds h) Q:=by
 unfold app gc at w
 cases e:mf ds h with
 | ok v h2 =>
   rw [e]at w
   intro ρ2 H2 v2 ex hr2 rd
   dsimp only at w
   by_cases ok:zev h h2=true
   . rw [if_pos ok]at w
     obtain ⟨t,rfl⟩:=ex.pre
     obtain ⟨t',g1,g2⟩:=zBT hr hr2 rd ok
     have ex':Ext F ρ (ρ++t') H H2:=⟨⟨t',rfl⟩,ex.tup,ex.frm⟩
     exact w (ρ++t') H2 v2 ex' (er.ext ex') g1 g2
   . rw [if_neg ok]at w
     exact w ρ2 H2 v2 ex (er.ext ex) hr2 rd
 | ex c h2=>rw [e]at w;exact w
 | bad=>rw [e]at w;exact w
theorem zpx {ds:List D}{vs:List V}{Q:VK}{E:XK} (ar:Ar n mf) (er:zX ρ H env σ) (hr:HR F G ρ h H) (rs:RDs ρ H ds vs) (w:wp F W0 G rV env σ ρ H (app mf ds h) Q):spM G n mf vs H Q E:=by
 by_cases hl:ds.length=n
 . exact ⟨F,ρ,ds,h,hr,rs,hl,zs7 er hr w⟩
 . unfold app gc at w
   rw [ar ds h hl]at w
   exact w.elim
theorem zH (Fo:zK X.prog X.w X.K X.mg X.base CX0 k f fd ps (spM G n mf)) (hr:zP k X.A) (hg:Gl X x) (hm:X.mg x=some (.ref f)) (hk:PySem.W.keepIn X.K (.ref f)=true) (hb:zdw X.K fd ps []) (ha:JA X (e :: es) (tA W0 G ml))
   (ar:Ar n mf:=by exact ziq) (he:starEach (e :: es) X.env=(false,eval e X.env) :: starEach es X.env:=by rfl) (hpl:(backTo pos (starEach es X.env)).any (·.1)=false:=by rfl) (hdb:(x == ("__debug__":Str))=false:=by decide) :
   JE X (.Call (.Name x p) (e :: es) [] pos) (tE W0 G (zj mf ml)) :=
 .of (zW (zAV (dvs:=[]) (E:=E0) Fo hr hg hm hk hb .nil zjb ha.to hdb he hpl) fun σ H Q ⟨F,ρ,env,h,er,hrr,w⟩=>⟨F,ρ,env,h,er,hrr,zF w fun ds h1 ρ1 H1 vs e1 er1 hr1 rs w1=>by
   rw [List.append_nil]
   exact zpx ar er1 hr1 rs w1⟩)
theorem zpi {c ni:Nat} (hC:G.cm[c]?=some C) (M:Mk X.K C f) (Fo:zK X.prog X.w X.K X.mg X.base CX0 k f fd ps (spM G ni mf)) (hr:zP (k+1) X.A) (hg:Gl X x) (hm:X.mg x=some (.ref C)) (hb:zdw X.K fd ps []) (ha:JA X (e :: es) (tA W0 G ml))
   (ar:Ar ni mf:=by exact ziq) (he:starEach (e :: es) X.env=(false,eval e X.env) :: starEach es X.env:=by rfl) (hpl:(backTo pos (starEach es X.env)).any (·.1)=false:=by rfl) (hdb:(x == ("__debug__":Str))=false:=by decide) :
   JE X (.Call (.Name x p) (e :: es) [] pos) (tE W0 G (zj (mkF c mf) ml)) :=
 .of (zW (zE4 (dvs:=[]) (E:=E0) M Fo hr hg hm hb .nil zjb ha.to hdb he hpl) fun σ H Q ⟨F,ρ,env,h,er,hrr,w⟩=>⟨F,ρ,env,h,er,hrr,zF w fun ds h1 ρ1 H1 vs e1 er1 hr1 rs w1=>fun q dx hq hdx hne=>by
   have w2:=zs7 er1 hr1 w1
   rw [List.append_nil]
   have hnq:upd H1 dx (.own q) q=none:=by rw [zV (Ne.symm hne)];exact hq
   have hra:HR F G ρ1 h1 (upd H1 dx (.own q)):=hr1.new hdx
   have hrb:HR F G ρ1 h1 (upd (upd H1 dx (.own q)) q (.ins C dx [])):=hra.new hnq
   have exa:Ext F ρ1 ρ1 H1 (upd (upd H1 dx (.own q)) q (.ins C dx [])):=(zcq hr1 hdx).trans (zcq hra hnq)
   have frq:zfH F ρ1 h1 q:=hr1.fresh hq
   have hrc:HR F G (ρ1++[q]) (h1++[.ins c []]) (upd (upd H1 dx (.own q)) q (.ins C dx [])):=hrb.named frq ⟨C,dx,[],hC,zcy,by unfold FRs;rfl⟩
   have exb:Ext F ρ1 (ρ1++[q]) H1 (upd (upd H1 dx (.own q)) q (.ins C dx [])):=⟨⟨[q],rfl⟩,exa.tup,exa.frm⟩
   have hql:(ρ1++[q])[h1.length]?=some q:=by rw [<- hr1.len];simp
   by_cases hl:(D.obj h1.length :: ds).length=ni
   . refine ⟨F,ρ1++[q],.obj h1.length :: ds,h1++[.ins c []],hrc,RDs.cons (by unfold RD;exact ⟨q,rfl,hql⟩) (RDs.ext exb _ _ rs),hl,?_⟩
     unfold mkF at w2
     cases em:mf (.obj h1.length :: ds) (h1++[.ins c []]) with
     | ok v h2 =>
       rw [em]at w2
       cases v with
       | non =>
         intro ρ3 H3 v3 ex3 hr3 r3
         unfold RD at r3
         exact ⟨r3,w2 ρ3 H3 (.ref q) (exb.trans ex3) hr3 (by unfold RD;exact ⟨q,rfl,ex3.get hql⟩)⟩
       | _=>exact w2.elim
     | ex c h2=>rw [em]at w2;exact fun ρ3 H3 ex3 hr3=>w2 ρ3 H3 (exb.trans ex3) hr3
     | bad=>rw [em]at w2;exact w2
   . unfold mkF at w2
     rw [ar _ _ hl]at w2
     exact w2.elim⟩)
noncomputable def JMs (X:Cx) (G:GP) (ex:Expr) (mo:ME D) (ml:ME (List D)) (tbl:List (Nat×MF)) (cs:List Nat):Prop :=
 ∀ (c:Nat) (mf:MF),c∈cs->tbl.lookup c=some mf->PE X ex (fun σ H Q=>∃ F ρ env h,zX ρ H env σ∧HR F G ρ h H∧(∀ v h1,mo env h = .ok v h1->∃ n fs,v = .obj n∧h1[n]?=some (.ins c fs))∧wp F W0 G rV env σ ρ H (zR tbl mo ml env h) Q)
theorem zep {ex:Expr}{tbl:List (Nat×MF)}:JMs X G ex mo ml tbl []:=fun _ _ hc=>nomatch hc
theorem zFx {c:Nat}{tbl:List (Nat×MF)}{Q:VK}{hn:∀ kk:Nat,G.an[kk]?≠some m} (hC:G.cm[c]?=some C) (ht:tbl.lookup c=some mf) (ar:Ar n mf) (w:∃ F ρ env h,zX ρ H env σ∧HR F G ρ h H∧(∀ v h1,mo env h = .ok v h1->∃ n fs,v = .obj n∧h1[n]?=some (.ins c fs))∧wp F W0 G rV env σ ρ H (zR tbl mo ml env h) Q) :
   zpX C m (spM G n mf) [] E0 (tE W0 G mo) (tA W0 G ml) σ H Q:=by
 obtain ⟨F,ρ,env,h,er,hr,hcl,w⟩:=w
 refine ⟨F,ρ,env,h,er,hr,?_⟩
 cases em:mo env h with
 | ex c h1=>unfold zR zm at w;simp only [em]at w;exact w
 | bad=>unfold zR zm at w;simp only [em]at w;exact w
 | ok v0 h1 =>
 obtain ⟨i,fs,rfl,ei⟩:=hcl v0 h1 em
 have w':wp F W0 G rV env σ ρ H (zm ml (fun ds=>fun _ h=>app mf (.obj i :: ds) h) env h1) Q:=by
   unfold zR zm at w
   simp only [em,ei,ht]at w
   exact w
 intro ρ1 H1 v1 ex1 er1 hr1 r1
 obtain ⟨q,C',dx,vs,rfl,eq,hC',hq,rs⟩:=hr1.ins r1 ei
 rw [hC]at hC';cases hC'
 refine ⟨q,dx,vs,rfl,hq,rs.none hn,F,ρ1,env,h1,er1,hr1,zF (w'.mono ex1) fun ds h2 ρ2 H2 us e2 er2 hr2 rs2 w2=>?_⟩
 rw [List.append_nil]
 exact zpx ar er2 hr2 (RDs.cons (RD.ext e2 _ _ r1) rs2) w2
theorem zho {c:Nat}{cs:List Nat}{tbl:List (Nat×MF)}{pl:Sem Bool} (hC:G.cm[c]?=some C) (cl:Cls X.K C) (hm:zfb X.K C m f) (Fo:zK X.prog X.w X.K X.mg X.base CX0 k f fd ps (spM G n mf)) (hr:zP k X.A) (hb:zdw X.K fd ps []) (ho:JE X o (tE W0 G mo)) (ha:JA X (e :: es) (tA W0 G ml))
   (rest:JMs X G (.Call (.Attribute o m apos) (e :: es) [] pos) mo ml tbl cs) (hn:∀ kk:Nat,G.an[kk]?≠some m) (ht:tbl.lookup c=some mf:=by rfl) (ar:Ar n mf:=by exact ziq)
   (hst:starEach (e :: es) X.env=(false,eval e X.env) :: starEach es X.env:=by rfl) (hpl:(backTo pos (starEach es X.env)).any (·.1)=false:=by rfl)
   (hev:eval (.Call (.Attribute o m apos) (e :: es) [] pos) X.env=(do
     let ov <- eval o X.env
     standAt apos.atName
     let (f,first) <- holding [ov] (getMethod ov m pl)
     callWith pos f first (backTo pos (starEach (e :: es) X.env)) (backToKw pos (keywordEach [] X.env))):=by rfl):JMs X G (.Call (.Attribute o m apos) (e :: es) [] pos) mo ml tbl (c :: cs):=fun c' mf' hc' ht'=>by
 rcases List.mem_cons.mp hc' with rfl | hc'
 . rw [ht]at ht';cases ht'
   exact zW (zzS (dvs:=[]) (E:=E0) ho.to cl hm Fo hr hb .nil zjb ha.to hst hpl hev) fun σ H Q w=>zFx (hn:=hn) hC ht ar w
 . exact rest c' mf' hc' ht'
theorem zfg {c:Nat}{cs:List Nat}{tbl:List (Nat×MF)}{pl:Sem Bool} (hC:G.cm[c]?=some C) (cl:Cls X.K C) (hm:zfb X.K C m f) (Fo:zK X.prog X.w X.K X.mg X.base CX0 k f fd ps (spM G n mf)) (hr:zP k X.A) (hb:zdw X.K fd ps []) (ho:JE X o (tE W0 G mo))
   (rest:JMs X G (.Call (.Attribute o m apos) [] [] pos) mo ze tbl cs) (hn:∀ kk:Nat,G.an[kk]?≠some m) (ht:tbl.lookup c=some mf:=by rfl) (ar:Ar n mf:=by exact ziq)
   (hev:eval (.Call (.Attribute o m apos) [] [] pos) X.env=(do
     let ov <- eval o X.env
     standAt apos.atName
     let (f,first) <- holding [ov] (getMethod ov m pl)
     callWith pos f first (backTo pos (starEach [] X.env)) (backToKw pos (keywordEach [] X.env))):=by rfl):JMs X G (.Call (.Attribute o m apos) [] [] pos) mo ze tbl (c :: cs):=fun c' mf' hc' ht'=>by
 rcases List.mem_cons.mp hc' with rfl | hc'
 . rw [ht]at ht';cases ht'
   refine zW (zCd (dvs:=[]) (E:=E0) ho.to cl hm Fo hr hb .nil zjb hev) fun σ H Q w=>?_
   obtain ⟨F,ρ,env,h,er,hr,hcl,w⟩:=w
   refine ⟨F,ρ,env,h,er,hr,?_⟩
   cases em:mo env h with
   | ex c h1=>unfold zR zm at w;simp only [em]at w;exact w
   | bad=>unfold zR zm at w;simp only [em]at w;exact w
   | ok v0 h1 =>
   obtain ⟨i,fs,rfl,ei⟩:=hcl v0 h1 em
   have w':wp F W0 G rV env σ ρ H (app mf [.obj i] h1) Q:=by
     unfold zR zm at w
     simp only [em,ei,ht]at w
     exact w
   intro ρ1 H1 v1 ex1 er1 hr1 r1
   obtain ⟨q,C',dx,vs,rfl,eq,hC',hq,rs⟩:=hr1.ins r1 ei
   rw [hC]at hC';cases hC'
   refine ⟨q,dx,vs,rfl,hq,rs.none hn,?_⟩
   show spM G n mf (.ref q :: ([]++[])) H1 Q E0
   exact zpx ar er1 hr1 (RDs.cons r1 RDs.nil) (w'.mono ex1)
 . exact rest c' mf' hc' ht'
theorem zp7:∀ {tbl:List (Nat×MF)}{c:Nat}{mf:MF},tbl.lookup c=some mf->c∈tbl.map (·.1)
 | [],c,mf,h=>by cases h
 | p :: r,c,mf,h=>by
   rw [List.lookup_cons]at h
   by_cases e:c=p.1
   . rw [e];simp
   . have b:(c == p.1)=false:=by simpa using e
     rw [b]at h
     exact List.mem_cons_of_mem _ (zp7 h)
theorem zeo {ex:Expr}{tbl:List (Nat×MF)}{c0:Nat}{mf0:MF} (h:JMs X G ex mo ml tbl (tbl.map (·.1))) (h0:tbl.lookup c0=some mf0:=by rfl):JE X ex (tE W0 G (zR tbl mo ml)) :=
 .of (fun pins s σ H Q I ⟨F,ρ,env,hh,er,hr,w⟩=>by
   cases em:mo env hh with
   | ex c h1=>exact h c0 mf0 (zp7 h0) h0 pins s σ H Q I ⟨F,ρ,env,hh,er,hr,(fun v h1' e=>by rw [em]at e;cases e),w⟩
   | bad=>unfold zR zm at w;simp only [em]at w;exact w.elim
   | ok v h1 =>
     have w':=w
     unfold zR zm at w'
     simp only [em]at w'
     cases v with
     | obj n =>
       dsimp only at w'
       cases qo:h1[n]? with
       | none=>rw [qo]at w';exact w'.elim
       | some o =>
         rw [qo]at w'
         cases o with
         | ins c fs =>
           dsimp only at w'
           cases ht:tbl.lookup c with
           | none=>rw [ht]at w';exact w'.elim
           | some mf=>exact h c mf (zp7 ht) ht pins s σ H Q I ⟨F,ρ,env,hh,er,hr,(fun v h1' e=>by rw [em]at e;cases e;exact ⟨n,fs,rfl,qo⟩),w⟩
         | _=>exact w'.elim
     | _=>exact w'.elim)
theorem zde {l:List Str}{m:Str} (h:l.contains m=false) (kk:Nat):l[kk]?≠some m:=fun e=>by
 have:=List.mem_of_getElem? e
 rw [<- List.contains_iff_mem,h]at this
 cases this
end
end MI
end
section
namespace MI
open PySem PySem.Spec L2
noncomputable def zhn (K:PySem.W.Frag):Sp:=fun vs H Q _=>∃ (a:Addr) (ns:List Int),vs=[.ref a]∧ns.length<=63∧zhZ H∧SqL K H a (ns.map V.int)∧∀ H',Q (.bl true) H'
theorem zz9 {G:GP}{mf:MF} (hl:∀ ns:List Int,ns.length<=63->∃ h',mf [.obj 0] [.scr (ns.map .int)] = .ok (.bl true) h') (vs:List V) (H:Hp) (Q:VK) (E:XK) (h:zhn G.K vs H Q E):spM G 1 mf vs H Q E:=by
 obtain ⟨a,ns,rfl,hn,ho,hs,q⟩:=h
 obtain ⟨h',e⟩:=hl ns hn
 refine ⟨fun _=>False,[a],[.obj 0],[.scr (ns.map .int)],⟨fun b z=>z.elim,fun n m b o o' hne h1 h2 h3 h4=>?_,rfl,fun n o e=>?_⟩,RDs.cons (by unfold RD;exact ⟨a,rfl,rfl⟩) RDs.nil,rfl,?_⟩
 . have e1:n=0:=by have:=(List.getElem?_eq_some_iff.mp h3).1;simp at this;exact this
   have e2:m=0:=by have:=(List.getElem?_eq_some_iff.mp h4).1;simp at this;exact this
   exact absurd (e1.trans e2.symm) hne
 . have e1:n=0:=by have:=(List.getElem?_eq_some_iff.mp e).1;simp at this;exact this
   subst e1
   cases e
   refine ⟨a,rfl,ns.map V.int,?_,RDs.ints ns⟩
   rcases hs with hs | hs
   . rcases hs with hs | ⟨o,hs⟩
     . rcases ho a with z | ⟨o,xs,z⟩
       . rw [z]at hs;cases hs
       . rw [z]at hs;cases hs
     . exact .inl ⟨o,hs⟩
   . exact .inr hs
 . rw [e]
   intro ρ1 H1 v1 _ _ r
   unfold RD at r
   subst r
   exact q H1
theorem law_start {K:PySem.W.Frag}{H:Hp}{a:Addr}{ns:List Int} (ho:zhZ H) (hl:ns.length<=63) (hS:SqL K H a (ns.map V.int)):zhn K [.ref a] H (fun v _=>v = .bl true) fun _ _ _=>False:=⟨a,ns,rfl,hl,ho,hS,fun _=>rfl⟩
end MI
end
section
namespace MI
open PySem PySem.Spec L2
section
variable {W:Nat->Hp->Prop}{X:Cx}{F:Addr->Prop}{G:GP}{env:zx}{σ:L2.St}{ρ:List Addr}{H:Hp}{h:MH}{a b c e o tg:Expr}{es:List Expr}{ma mb mo:ME D}{pos p p1 tp apos cpos:Pos}{k:Nat}
theorem zuc:∀ {xs ys:List D}{i:Nat}{d:D},(zc4 xs ys)[i]?=some d->∃ x y,xs[i]?=some x∧ys[i]?=some y∧d = .tup [x,y]
 | [],ys,i,d,e=>by simp [zc4]at e
 | x :: xs,[],i,d,e=>by simp [zc4]at e
 | x :: xs,y :: ys,0,d,e=>by simp [zc4]at e;exact ⟨x,y,rfl,rfl,e.symm⟩
 | x :: xs,y :: ys,i+1,d,e=>by
   have e':(zc4 xs ys)[i]?=some d:=by simpa [zc4] using e
   obtain ⟨x',y',h1,h2,h3⟩:=zuc e'
   exact ⟨x',y',by simpa using h1,by simpa using h2,h3⟩
theorem zsi:∀ (xs ys:List D),(zc4 xs ys).length=min xs.length ys.length
 | [],ys=>by simp [zc4]
 | x :: xs,[]=>by simp [zc4]
 | x :: xs,y :: ys=>by simp [zc4,zsi xs ys]
theorem zDW (hg:Gl X "zip") (hm:X.mg "zip" = none) (ha:JE X a (tE W G ma)) (hb:JE X b (tE W G mb)) (hs:starEach [a,b] X.env=(false,eval a X.env) :: starEach [b] X.env) (hs2:starEach [b] X.env=(false,eval b X.env) :: starEach [] X.env) (hK:X.K=G.K:=by rfl) :
   JI X (.Tuple es k tp) (.Call (.Name "zip" p) [a,b] [] pos) (tI W G (itZ ma mb)) :=
 .of (ziY (zAL hg hm ha.to hb.to hs hs2) fun σ H Q ⟨F,ρ,env,h,er,hr,w⟩=>⟨F,ρ,env,h,er,hr,zF w fun x h1 ρ1 H1 y e1 er1 hr1 r1 w1=>⟨F,ρ1,env,h1,er1,hr1,zF w1 fun x2 h2 ρ2 H2 y2 e2 er2 hr2 r2 w2=>by
   have r1:RD ρ2 H2 x y:=RD.ext e2 _ _ r1
   have r2:RD ρ2 H2 x2 y2:=r2
   cases x with
   | obj n =>
     cases x2 with
     | obj m =>
       dsimp only at w2
       cases qo:h2[n]? with
       | none=>simp only [qo]at w2;exact w2.elim
       | some o =>
         cases o with
         | lst xs =>
           cases qo2:h2[m]? with
           | none=>simp only [qo,qo2]at w2;exact w2.elim
           | some o2 =>
             cases o2 with
             | lst ys =>
               simp only [qo,qo2]at w2
               obtain ⟨q,vs,rfl,eq,hq,rs⟩:=hr2.lst r1 qo
               obtain ⟨q2,vs2,rfl,eq2,hq2,rs2⟩:=hr2.lst r2 qo2
               refine ⟨q,q2,rfl,rfl,⟨vs,SqL.of hq⟩,⟨vs2,SqL.of hq2⟩,w2 ρ2 H2 (Itz X.K q q2) Ext.refl er2 hr2 ?_⟩
               intro F' ρ' h' H' i ex hr' g
               have ea:=zo8 (n:=n) (ob := .lst xs) g (by simp)
               have eb:=zo8 (n:=m) (ob := .lst ys) g (by simp)
               obtain ⟨us,hus,rus⟩:=hr'.at ea (ex.get eq)
               obtain ⟨us2,hus2,rus2⟩:=hr'.at eb (ex.get eq2)
               refine ⟨fun d hd=>?_,fun hl=>⟨us,us2,SqL.of hus,SqL.of hus2,by rw [<- rus.length,<- rus2.length];rw [zsi]at hl;exact hl⟩⟩
               obtain ⟨x',y',hx,hy,ed⟩:=zuc hd
               obtain ⟨v,g1,g2⟩:=rus.get hx
               obtain ⟨v2,g3,g4⟩:=rus2.get hy
               refine ⟨⟨us,us2,v,v2,SqL.of hus,SqL.of hus2,g1,g3⟩,fun z H3 ⟨T,w',u',y1,y2,y3,y4,y5⟩=>?_⟩
               subst y1 y3 ed
               have:=y4 us (SqL.of hus)
               rw [g1]at this;cases this
               have:=y5 us2 (SqL.of hus2)
               rw [g3]at this;cases this
               refine ⟨zcq hr' y2,hr'.new y2,?_⟩
               unfold RD
               exact ⟨T,_,rfl,zcy,RDs.cons (RD.ext (zcq hr' y2) _ _ g2) (RDs.cons (RD.ext (zcq hr' y2) _ _ g4) RDs.nil)⟩
             | _=>simp only [qo,qo2]at w2;exact w2.elim
         | _=>simp only [qo]at w2;exact w2.elim
     | _=>exact w2.elim
   | _=>cases x2 <;> exact w2.elim⟩⟩)
variable {m1:MS}{t:Tg}{bd:List Stmt}{cond:ME Bool}{me:ME D}{N:List Str}{js:List (Option Nat)}{scope:Scope}{elt:Expr}{ifs:List Expr}
end
end MI
end
section
namespace L2
open PySem PySem.Spec PyProof.Rows
theorem zEX {P:Program}{w:World}{A:Around}{E:Value->Shared->Prop}{s:Shared}{a:Addr}{ns:List Int}{Q:Value->Shared->Prop} (hh:A.handled=none) (S:zcT P w (zcN w) s.heap a ns) (h64:ns.length < 64)
   (hQ:∀ s' p (out:Array Value) ms e,(∀ b o,s.heap.get? b=some o->s'.heap.get? b=some o)->s.heap.objs.size<=p->s'.gens=s.gens->s'.os=s.os->s'.heap.get? p=some (seqObj "list" out e)->IntsAre out.toList ms->ms.Perm ns->ms.Pairwise (· <= ·)->Q (.ref p) s') :
   wpAny (model P w) A (call (.builtin "sorted") [.ref a]) Q E s:=by
 refine Calls.call_function_entry kind_sorted plain_sorted entry_sorted (args_sorted1 _) ?_
 unfold Builtin.«sorted»
 refine wpAny_bind (m:=checkCount "sorted" 1 1 _) (wpAny_pure ?_)
 refine wpAny_bind (zEV hh S (by omega) fun s1 vs ms k sz g os hI hp=>?_)
 have hv:vs.length < 64:=by rw [hI.length,hp.length_eq];exact h64
 refine wpAny_bind (wpAny_newList ?_)
 have hL:(s1.heap.push (seqObj "list" vs.toArray 0)).get? s1.heap.objs.size=some (seqObj "list" vs.toArray 0):=Heap.get?_push_size _ rfl
 show wpAny (model P w) _ _ _ _ { s1 with heap:=s1.heap.push (seqObj "list" vs.toArray 0) }
 refine wpAny_bind (wpAny_holding (wpAny_call_entry slot_list_sort ⟨_,hL,rfl⟩ entry_list_sort (list_sort_tree hL hI hv fun out ks k1 k2 k3=>⟨_,rfl,?_⟩) (args_list_sort _)))
 obtain ⟨e,he⟩:=sortedHeap_at (out:=out) hL
 refine wpAny_pure ⟨_,rfl,hQ _ s1.heap.objs.size out ks e (fun b o q=>?_) sz g os he k1 (k2.trans hp) k3⟩
 have q1:=k b o q
 have lt:b < s1.heap.objs.size:=Heap.lt_size q1
 show (sortedHeap (s1.heap.push (seqObj "list" vs.toArray 0)) s1.heap.objs.size vs out).get? b=some o
 rw [sortedHeap_old (Nat.ne_of_lt lt) (by rw [size_push'];exact Nat.lt_succ_of_lt lt)]
 exact Heap.get?_push_of_some _ q1
theorem Inv.drw {X:Cx}{pins:List (Addr×Obj)}{σ:St}{H:Hp}{s:Shared} (I:Inv X pins σ H s) (d:Drawn):Inv X pins σ H { s with drawn:=d } :=
 ⟨I.ok,I.os,I.bare,I.base,I.loc,I.cell,I.free,I.freeC,I.pin,I.hok,I.len⟩
noncomputable def zfe (X:Cx) (p:Addr) (ns:List Int):HO := .ext fun h=>zcT X.prog X.w (zcN X.w) h p ns
section
variable {X:Cx}
theorem zCj (hc:X.calm=true):zdn X (.type "set") (fun xs H Q=>∃ (a:Addr) (ns:List Int),xs=[.ref a]∧SqL X.K H a (ns.map V.int)∧ns.length < 4000∧∀ p,H p=none->Q (.ref p) (upd H p (zfe X p (zcG ns)))):=by
 intro pins s σ H xs us Q I r h
 obtain ⟨a,ns,rfl,hq,hn,q⟩:=h
 obtain ⟨u,rfl,ru⟩:=zeG r
 cases ru
 obtain ⟨its,rv,p,_⟩:=I.list hq
 have e:its.toArray.size=ns.length:=by simp [<- rv.length]
 refine zEB (items:=its.toArray) (ns:=ns) (I.ok.hd hc) p.isList (by simpa using zsX rv) (by rw [e];unfold scanBound;omega) fun h' tk hS hk=>?_
 rw [e]at hS
 refine ⟨.ref s.heap.objs.size,_,I.laid (t':=tk) (a:=s.heap.objs.size) (o:=zfe X s.heap.objs.size (zcG ns)) (fun b o eb=>hk b o (Heap.lt_size eb) eb) (Nat.le_refl _) ⟨hS,?_,fun h1 h2 z k=>zcT.keep z k⟩,rfl,q _ (I.hok.fresh (Nat.le_refl _))⟩
 obtain ⟨o,_,_,_,eo,_⟩:=hS
 exact ⟨o,eo⟩
theorem zD5 (hc:X.calm=true):zdn X (.builtin "sorted") (fun xs H Q=>∃ (a:Addr) (ns:List Int),xs=[.ref a]∧H a=some (zfe X a ns)∧ns.length < 64∧∀ p,H p=none->Q (.ref p) (upd H p (.lst ((MI.sortI ns).map V.int)))):=by
 intro pins s σ H xs us Q I r h
 obtain ⟨a,ns,rfl,hq,hn,q⟩:=h
 obtain ⟨u,rfl,ru⟩:=zeG r
 cases ru
 have hS:zcT X.prog X.w (zcN X.w) s.heap a ns:=(I.hok a _ hq).1
 refine zEX (I.ok.hd hc) hS hn fun s' p out ms e k hp g os he hI pm srt=>?_
 have em:ms=MI.sortI ns:=MI.sorted_unique (pm.trans (MI.sortI_perm ns).symm) srt (MI.sortI_sorted ns)
 subst em
 obtain ⟨h',g',d',t',o'⟩:=s'
 obtain rfl:g'=s.gens:=g
 obtain rfl:o'=s.os:=os
 refine ⟨.ref p,_,(I.laid (t':=t') (a:=p) (o := .lst ((MI.sortI ns).map V.int)) k hp ?_).drw d',rfl,q _ (I.hok.fresh hp)⟩
 refine ⟨?_,out.toList,e,ziA hI,?_⟩
 . rw [List.length_map,(MI.sortI_perm ns).length_eq,sizeLine_eq];omega
 . rw [Array.toArray_toList];exact he
end
end L2
end
section
namespace L2
open PySem PySem.Spec PyProof.Rows
end L2
namespace MI
open PySem PySem.Spec L2
section
variable {W:Nat->Hp->Prop}{X:Cx}{F:Addr->Prop}{G:GP}{env:zx}{σ:L2.St}{ρ:List Addr}{H:Hp}{h:MH}{a b c e o:Expr}{es:List Expr}{ma mb mc:ME D}{ml ml':ME (List D)}{pos p p1 p2 apos:Pos}{Q:VK}{k i:Nat}{x:Str}
theorem zBm (rm:zP k X.A) (hg:Gl X "sorted") (hm:X.mg "sorted" = none) (hg':Gl X "set") (hm':X.mg "set" = none) (ha:JE X e (tL W G ml)) (hs:starEach [e] X.env=(false,eval e X.env) :: starEach [] X.env) (hc:X.calm=true:=by rfl) :
   JE X (.Call (.Name "sorted" p) [.Call (.Name "set" p1) [e] [] p2] [] pos) (tN W G (ziw ml)) :=
 .of (zW (ze9 (zD5 hc) hg hm (by decide +kernel) (zcP (ziE (zCj hc) hg' hm' (by decide +kernel) (zcP ha.to zc5 hs) (he:=hs)) zc5 zbN) (he:=zbN)) fun σ H Q ⟨F,ρ,env,h,er,hr,w⟩=>by
   refine zeA (Rl:=rL G.K) (m:=ml) (P:=fun vs H1=>∃ (a:Addr) (ns:List Int),vs=[.ref a]∧SqL X.K H1 a (ns.map V.int)∧ns.length < 4000∧∀ p,H1 p=none->(∃ (b:Addr) (ks:List Int),[V.ref p]=[.ref b]∧(upd H1 p (zfe X p (zcG ns))) b=some (zfe X b ks)∧ks.length < 64 ∧
     ∀ q,(upd H1 p (zfe X p (zcG ns))) q=none->Q (.ref q) (upd (upd H1 p (zfe X p (zcG ns))) q (.lst ((sortI ks).map V.int))))) ⟨F,ρ,env,h,er,hr,?_⟩
   refine zF w fun xs h1 ρ1 H1 y e1 er1 hr1 ⟨q,us,ey,hq,rs⟩ w1=>?_
   subst ey
   cases eb:zcl xs with
   | none=>rw [eb]at w1;exact w1.elim
   | some ns =>
     rw [eb]at w1
     have e2:=RDs.of_ints eb rs
     subst e2
     by_cases hl:ns.length < 64
     . dsimp only at w1
       rw [if_pos hl]at w1
       have hd64:(zcG ns).length < 64:=Nat.lt_of_le_of_lt (PyProof.Rows.firstMet_length_le _ _) hl
       refine ⟨q,ns,rfl,SqL.of hq,by omega,fun d hd=>⟨d,_,rfl,zcy,hd64,fun d2 hd2=>?_⟩⟩
       have x1:=zcq (F:=F) (ρ:=ρ1) (u:=zfe X d (zcG ns)) hr1 hd
       have hr2:=hr1.new (u:=zfe X d (zcG ns)) hd
       have x2:=zcq (F:=F) (ρ:=ρ1) (u:=HO.lst ((sortI (zcG ns)).map V.int)) hr2 hd2
       rw [zr2]at *
       exact w1 ρ1 _ (.ref d2) (x1.trans x2) ((er1.ext x1).ext x2) (hr2.new hd2) (zgI hr2 hd2 (RDs.ints _))
     . dsimp only at w1
       rw [if_neg hl]at w1;exact w1.elim)
end
end MI
end
section
namespace L2
open PySem PySem.Spec PyProof.Rows
theorem zDs:typeLookup (.type "list") "keys" = pure none:=by rw [typeLookup_type,builtinLookup_eq_fast];kernel_rfl
theorem zBi:typeLookup (.type "list") "__getattr__" = pure none:=by rw [typeLookup_type,builtinLookup_eq_fast];kernel_rfl
section
variable {P:Program}{w:World}{A:Around}{E:Value->Shared->Prop}{s:Shared}{l:Addr}{xs:Array Value}{c:Nat}
set_option maxHeartbeats 2000000 in
theorem zCF {u:Tok}{Q:Fin->Shared->Prop} (hh:A.handled=none) (hx:s.heap.get? l=some (zU xs c)) (h:∀ h' tk e,Heap.NewAttrErr s.heap h' e (.ref l) "keys" -> E (.ref e) { s with heap:=h',toks:=tk }) :
   wpAny (model P w) A (Builtin.«object.__getattribute__» ⟨[.ref l,.str "keys" u],[]⟩) Q E s:=by
 obtain ⟨hp,g,d,tk,os⟩:=s
 have hx:hp.get? l=some { cls := .type "list",dict:=none,data := .seq xs c,slots:=#[] }:=hx
 have hT:(⟨hp,g,d,tk,os⟩:Shared).TypeIs (.ref l) "list":=⟨_,hx,rfl⟩
 have f1:=zDs
 unfold Builtin.«object.__getattribute__»
 repeat (any_goals (first | assumption | wp_step))
 exact wpAny_raiseAttrError hh h (attrMsg_fits (by decide +kernel) (by decide +kernel))
end
end L2
end
section
namespace L2
open PySem PySem.Spec PyProof.Rows
section
variable {P:Program}{w:World}{A:Around}{E:Value->Shared->Prop}{s:Shared}{l:Addr}{xs:Array Value}{c:Nat}
set_option maxHeartbeats 2000000 in
theorem zBf {Q:Option Value->Shared->Prop} (hh:A.handled=none) (hx:s.heap.get? l=some (zU xs c)) (h:∀ h' tk,(∀ b o,s.heap.get? b=some o->h'.get? b=some o)->Q none { s with heap:=h',toks:=tk }) :
   wpAny (model P w) A (getAttr? (.ref l) "keys") Q E s:=by
 obtain ⟨hp,g,d,tk,os⟩:=s
 have hx:hp.get? l=some { cls := .type "list",dict:=none,data := .seq xs c,slots:=#[] }:=hx
 have hT:∀ tk,(⟨hp,g,d,tk,os⟩:Shared).TypeIs (.ref l) "list":=fun tk=>⟨_,hx,rfl⟩
 have f1:=sub_AttributeError
 have f2:=PySem.F.slot_list_getattribute.lookup
 have f3:=PySem.F.slot_list_getattribute.bind (.ref l)
 have f5:=zBi
 unfold getAttr? getAttrBy? getAttrBy
 repeat (any_goals (first | assumption | exact hT _ | ((with_reducible show wpAny _ _ (call (Value.builtin "list.__getattribute__") _ _) _ _ _);refine wpAny_call (codeAny_call_builtin PySem.F.slot_list_getattribute.plain PySem.F.entry_list_ga (PySem.F.slot_list_getattribute.check _ _ _ _ _ _ _ _ (hT _) (PySem.F.args_list_getattribute_2 _ _) (zCF (by exact hh) hx fun h' tk' e hx'=>?_)))) | wp_step))
 obtain ⟨t',u',he⟩:=hx'.there
 repeat (any_goals (first | assumption | wp_step))
 all_goals exact h _ _ hx'.keeps
end
end L2
end
section
namespace L2
open PySem PySem.Spec PyProof.Rows
theorem zpl:mroOf (.type "dict")=pure [.type "dict",.type "object"]:=by rw [mroOf_type];kernel_rfl
theorem zEz:typeLookup (.type "dict") "__new__" = pure (some (.builtin "dict.__new__")):=by rw [typeLookup_type,builtinLookup_eq_fast];kernel_rfl
theorem zfo:TypeCalled "dict" "dict.__new__" "dict.__init__" :=
 ⟨by decide +kernel,by decide +kernel,⟨_,_,zpl⟩,madeBy_type zpl zEz (by decide +kernel),by decide +kernel,by rw [isSubtype_type];kernel_rfl,PySem.F.slot_dict_init⟩
theorem zBu (a:Value):checkTypeCall "dict" ⟨[a],[]⟩=pure ():=by kernel_rfl
theorem zz8 (a:Value):checkBuiltinCall "dict.__new__" ⟨[.type "dict",a],[]⟩=pure ():=by kernel_rfl
theorem zFA:entryFor table "dict.__new__" = some Builtin.«dict.__new__»:=entryFor_of_tree (by kernel_rfl)
theorem zt9:plainId "dict.__new__" = true:=by decide +kernel
theorem ztW:entryFor table "dict.update.loop" = some Builtin.«dict.update.loop»:=entryFor_of_tree (by kernel_rfl)
theorem ziN:plainId "dict.update.loop" = true:=by decide +kernel
theorem zsd:isSubtype (.type "dict") (.type "dict")=pure true:=by rw [isSubtype_type];kernel_rfl
noncomputable def zgy:Obj:={ cls := .type "dict",data := .dict #[] }
section
variable {P:Program}{w:World}{A:Around}{E:Value->Shared->Prop}{s:Shared}
theorem zAk (a:Value) {Q:Value->Shared->Prop} (h:Q (.ref s.heap.objs.size) { s with heap:=s.heap.push zgy }):codeAny (model P w) A (.call (.builtin "dict.__new__") ⟨[.type "dict",a],[]⟩) (wants Q E) s:=by
 refine codeAny_of_tree ?_
 refine wpAny_bind (m:=checkBuiltinCall "dict.__new__" ⟨[.type "dict",a],[]⟩) (wpAny_of_eq (zz8 a) ?_)
 refine wpAny_pure ⟨plainId_quiet zt9 _,codeAny_builtin zFA ?_⟩
 rw [Around.under_plainId zt9 _]
 unfold Builtin.«dict.__new__»
 have z1:=zsd
 have z2:=zpl
 obtain ⟨hp,g,d,tk,os⟩:=s
 dsimp only
 repeat (any_goals (first | assumption | wp_step))
theorem zpc {K:Type} [DecidableEq K] {knd:KeyKind P w K}{h h':Heap}{d:Addr}{vs:List (K×Value)} (D:h.DictOf knd d vs) (k:∀ o,h.get? d=some o->h'.get? d=some o):h'.DictOf knd d vs:=by
 obtain ⟨o,es,ep,ho,r⟩:=D
 exact ⟨o,es,ep,k o ho,r⟩
end
noncomputable def dls (kk:Nat->Key) (uu:Nat->Value):Nat->List (Key×Value)
 | 0=>[]
 | i+1=>stored (dls kk uu i) (kk i) (uu i)
theorem zBB {kvs:List (Key×Value)}{k:Key}{v:Value}:(stored kvs k v).length<=kvs.length+1:=by
 unfold stored;split <;> simp
theorem zs3 (kk:Nat->Key) (uu:Nat->Value):∀ i,(dls kk uu i).length<=i
 | 0=>Nat.le_refl _
 | i+1=>by have:=zs3 kk uu i;have:=zBB (kvs:=dls kk uu i) (k:=kk i) (v:=uu i);unfold dls;omega
section
variable {P:Program}{w:World}{A:Around}{R:Result->Shared->Prop}{I:Addr}{fp wr:List Addr}{G:Array GenState->Array GenState->Prop}{n:Nat}{V:Nat->Value->Prop}{St:Nat->Shared->Prop}
theorem zDt (W:WalksS P w A.in1 I fp wr G n V St) (d:Addr) (hd:d∉fp) (N:Nat) (hdN:N<=d) (hwN:∀ b∈wr,N<=b) (base:Heap) (kk:Nat->Key) (uu:Nat->Value) (hn:n<=1000000)
   (hV:∀ i v,V i v->∃ a key,v = .ref a∧a < N∧IsTup base a #[key,uu i]∧(zbM P w).is (kk i) key=true) (res:Value) :
   ∀ (k i:Nat) (s:Shared),n - i=k->i<=n->St i s->(∀ b o,b < N->base.get? b=some o->s.heap.get? b=some o)->s.heap.DictOf (zbM P w) d (dls kk uu i) ->
     (∀ s',Moved (d :: wr) G s s'->s'.heap.DictOf (zbM P w) d (dls kk uu n)->R (.ok (.ret res)) s') ->
     codeAny (model P w) A (.builtin "dict.update.loop" ⟨[.ref d,.ref I,.int i 0,res],[]⟩) R s:=by
 have hdw:d∉wr:=fun z=>hd (W.sub _ z)
 have up:∀ b∈wr,b∈d :: wr:=fun b z=>List.mem_cons_of_mem _ z
 intro k
 induction k with
 | zero =>
   intro i s hk hi st kb D fin
   obtain rfl:i=n:=by omega
   refine codeAny_builtin ztW ?_
   rw [Around.under_plainId ziN _]
   refine wpAny_bind (m:=pyNext (.ref I)) (W.done s _ _ st fun s1 m=>?_)
   refine wpAny_bind (m:=Builtin.Dict.addKeywords d []) (wpAny_pure ?_)
   exact wpAny_pure (fin s1 (m.mono up) (zpc D fun o e=>m.heap d o hdw e))
 | succ k ih =>
   intro i s hk hi st kb D fin
   have lt:i < n:=by omega
   refine codeAny_builtin ztW ?_
   rw [Around.under_plainId ziN _]
   refine wpAny_bind (m:=pyNext (.ref I)) (W.item i s _ _ lt st fun v s1 hv st1 m=>?_)
   obtain ⟨a,key,rfl,ha,ht,hkey⟩:=hV i v hv
   have kb1:∀ b o,b < N->base.get? b=some o->s1.heap.get? b=some o:=fun b o hb e=>m.heap b o (fun z=>absurd (hwN b z) (Nat.not_le.mpr hb)) (kb b o hb e)
   obtain ⟨ot,hot,hct,nt,hdt⟩:=ht
   have hot1:=kb1 a ot ha hot
   have D1:=zpc D fun o e=>m.heap d o hdw e
   refine wpAny_bind (wpAny_holding (wpAny_bind (wpAny_tryCatch ?_)))
   unfold Builtin.Dict.pairItems
   refine wpAny_bind (wpAny_typeOf (T :="tuple") ⟨ot,hot1,hct⟩ ?_)
   have q:(Value.type "tuple" == Value.type "list" || Value.type "tuple" == Value.type "tuple")=true:=by decide
   rw [if_pos q]
   refine wpAny_bind (wpAny_seqItems hot1 hdt (wpAny_pure ?_))
   dsimp only [Option.getD]
   refine wpAny_holding (wpAny_dictSet_pairs hkey D1 (fun h' D2 sb=>?_) (by have:=zs3 kk uu i;rw [sizeLine_eq];omega))
   have e1:rawInt ((i:Int)+1) = .int ((i+1:Nat):Int) 0:=by simp [rawInt]
   rw [e1]
   refine wpAny_pure ⟨plainId_quiet ziN _,ih (i+1) _ (by omega) lt (W.frame _ s1 _ _ st1 (Nat.le_succ _) fun b hb o e=>?_) (fun b o hb e=>?_) D2 fun s2 m2 D3=>?_⟩
   . rw [sb.2 b (fun z:b=d=>hd (by rw [<- z];exact hb))];exact e
   . rw [sb.2 b (fun z:b=d=>absurd hdN (by rw [<- z];exact Nat.not_le.mpr hb))];exact kb1 b o hb e
   . refine fin s2 (Moved.trans W.gtrans ((m.mono up).then_heap (Nat.le_succ _) fun b o hb e=>?_) m2) D3
     rw [sb.2 b (fun z:b=d=>hb (by rw [z];exact List.mem_cons_self))];exact e
end
end L2
end
section
namespace L2
open PySem PySem.Spec PyProof.Rows
section
variable {P:Program}{w:World}{A:Around}{E:Value->Shared->Prop}{s:Shared}
set_option maxHeartbeats 3200000 in
theorem zDM {l:Addr}{items:Array Value}{c:Nat}{kk:Nat->Key}{uu:Nat->Value}{Q:Value->Shared->Prop} (hh:A.handled=none) (hl:s.heap.get? l=some (zU items c)) (hn:items.size<=1000000)
   (hi:∀ (i:Nat) v,items[i]?=some v->∃ a key,v = .ref a∧IsTup s.heap a #[key,uu i]∧(zbM P w).is (kk i) key=true)
   (h:∀ (h':Heap) (tk:Nat),h'.DictOf (zbM P w) s.heap.objs.size (dls kk uu items.size)->(∀ b o,s.heap.get? b=some o->h'.get? b=some o)->Q (.ref s.heap.objs.size) { s with heap:=h',toks:=tk }) :
   wpAny (model P w) A (call (.type "dict") [.ref l]) Q E s:=by
 obtain ⟨c0,tl,hmro⟩:=zfo.mro
 have z1:=zfo.made
 have z2:=zfo.sub
 refine wpAny_call (codeAny_of_tree ?_)
 show wpAny (model P w) _ (callAny (.type "dict") _) _ _ s
 refine wpAny_pure ⟨Code.quiet_builtin _ (by decide +kernel),codeAny_builtin PySem.F.entry_type_call ?_⟩
 rw [Around.under_plain (weight_type_call_type "dict" [.ref l] []) rfl]
 have z3:=zfo.notType
 have z4:=zfo.canCreate
 have z5:=zBu (.ref l)
 repeat (any_goals (first | assumption | wp_step))
 refine codeAny_mono (zAk (.ref l) (E:=E) (Q:=fun v s1=>v = .ref s.heap.objs.size∧s1={ s with heap:=s.heap.push zgy }) ⟨rfl,rfl⟩) fun r s1 hr=>?_
 cases r with
 | error e=>exact hr
 | ok fl =>
   cases fl with
   | ret v =>
     obtain ⟨rfl,rfl⟩:=hr
     have hS:(s.heap.push zgy).get? s.heap.objs.size=some zgy:=Heap.get?_push_size _ rfl
     have hT:Shared.TypeIs { s with heap:=s.heap.push zgy } (.ref s.heap.objs.size) "dict":=⟨_,hS,rfl⟩
     have y1:=zfo.init.lookup
     have y2:=zfo.init.bind (.ref s.heap.objs.size)
     repeat (any_goals (first | assumption | wp_step))
     refine codeAny_mono (codeAny_call_builtin (R:=wants (fun r s2=>r = .none∧∃ h' tk,s2={ s with heap:=h',toks:=tk }∧h'.DictOf (zbM P w) s.heap.objs.size (dls kk uu items.size) ∧
         (∀ b o,s.heap.get? b=some o->h'.get? b=some o)) E) zfo.init.plain PySem.F.entry_dict_init (zfo.init.check _ _ _ _ _ _ _ _ hT (PySem.F.args_dict_init_2 _ _) ?_)) fun r2 s2 hr2=>?_
     . have x1:(s.heap.push zgy).get? l=some (zU items c):=Heap.get?_push_of_some _ hl
       have x2:Shared.TypeIs { s with heap:=s.heap.push zgy } (.ref l) "list":=⟨_,x1,rfl⟩
       unfold Builtin.«dict.__init__» Builtin.Dict.selfAndRest Builtin.Dict.updateCommon Builtin.Dict.updateFrom
       generalize hPI:pyIter=PI
       generalize hGA:getAttr?=GA
       wp_walk
       subst hGA
       refine zBf (by exact hh) x1 fun h1 tk1 k1=>?_
       subst hPI
       rw [if_pos (show (none:Option Value).isNone=true from rfl)]
       refine wpAny_bind (wpAny_rule ?_)
       have x3:h1.get? l=some (zU items c):=k1 _ _ x1
       have x4:h1.IsList l items:=⟨_,x3,rfl,c,rfl⟩
       refine wpAny_bind (wpAny_pyIter_list (s:={ s with heap:=h1,toks:=tk1 }) x4 ?_)
       have x5:s.heap.objs.size < h1.objs.size:=Heap.lt_size (k1 _ _ hS)
       have x6:l < s.heap.objs.size:=Heap.lt_size hl
       have x7:A.in1.in1.handled=none:=by simp [hh]
       have x8:l≠h1.objs.size:=Nat.ne_of_lt (Nat.lt_trans x6 x5)
       have keep:∀ b o,s.heap.get? b=some o->h1.get? b=some o:=fun b o e=>k1 b o (Heap.get?_push_of_some _ e)
       refine wpAny_pure ⟨plainId_quiet ziN _,zDt ((Walks.list x7 _ l x8 items).toS) s.heap.objs.size ?_ s.heap.objs.size (Nat.le_refl _) (fun b hb=>?_) s.heap kk uu hn (fun i v hv=>?_) .none (items.size - 0) 0 _ (by omega) (Nat.zero_le _)
         ⟨⟨_,Heap.get?_push_size _ rfl,rfl,rfl⟩,(x4.push _)⟩ (fun b o hb e=>Heap.get?_push_of_some _ (keep b o e)) ?_ fun s3 m D3=>?_⟩
       . intro z
         rcases List.mem_cons.mp z with z | z
         . exact Nat.ne_of_lt x5 z
         . exact Nat.ne_of_gt x6 (List.mem_singleton.mp z)
       . have:=List.mem_singleton.mp hb
         rw [this];exact Nat.le_of_lt x5
       . obtain ⟨a,key,e1,e2,e3⟩:=hi i v hv
         obtain ⟨ot,hot,r⟩:=id e2
         exact ⟨a,key,e1,Heap.lt_size hot,e2,e3⟩
       . exact zpc (Heap.DictOf.new s.heap) fun o e=>Heap.get?_push_of_some _ (k1 _ o e)
       . obtain ⟨h3,g3,d3,t3,o3⟩:=s3
         obtain rfl:g3=s.gens:=m.gens
         obtain rfl:d3=s.drawn:=m.drawn
         obtain rfl:o3=s.os:=m.os
         refine ⟨rfl,h3,t3,rfl,D3,fun b o e=>?_⟩
         have hb:=Heap.lt_size e
         refine m.heap b o (fun z=>?_) (Heap.get?_push_of_some _ (keep b o e))
         rcases List.mem_cons.mp z with z | z
         . exact Nat.ne_of_lt hb z
         . exact Nat.ne_of_lt (Nat.lt_trans hb x5) (List.mem_singleton.mp z)
     . cases r2 with
       | error e=>exact hr2
       | ok f2 =>
         cases f2 with
         | ret r =>
           obtain ⟨rfl,h',tk,rfl,S',k'⟩:=hr2
           repeat (any_goals (first | assumption | wp_step))
           exact h _ _ S' k'
         | _=>exact hr2.elim
   | _=>exact hr.elim
end
end L2
end
section
namespace L2
open PySem PySem.Spec PyProof.Rows
noncomputable def zdt (H:Hp):List V->List (Key×V)->Prop
 | [],ps=>ps=[]
 | v :: r,ps=>∃ b p q,ps=p :: q∧v = .ref b∧H b=some (.tup [kV p.1,p.2])∧zdt H r q
theorem zdt.len {H:Hp}:∀ {vs:List V}{ps:List (Key×V)},zdt H vs ps->vs.length=ps.length
 | [],ps,h=>by unfold zdt at h;subst h;rfl
 | v :: r,ps,h=>by unfold zdt at h;obtain ⟨b,p,q,rfl,_,_,h⟩:=h;simp [zdt.len h]
theorem zdt.get {H:Hp}:∀ {vs:List V}{ps:List (Key×V)}{i:Nat}{v:V},zdt H vs ps->vs[i]?=some v->∃ b p,v = .ref b∧ps[i]?=some p∧H b=some (.tup [kV p.1,p.2])
 | [],ps,i,v,h,e=>by simp at e
 | x :: r,ps,i,v,h,e=>by
   unfold zdt at h
   obtain ⟨b,p,q,rfl,rfl,hb,h⟩:=h
   cases i with
   | zero=>simp at e;subst e;exact ⟨b,p,rfl,by simp,hb⟩
   | succ i =>
     obtain ⟨b',p',e1,e2,e3⟩:=zdt.get (i:=i) h (by simpa using e)
     exact ⟨b',p',e1,by simpa using e2,e3⟩
noncomputable def zel (m:List (Key×V)) (ps:List (Key×V)):List (Key×V):=ps.foldl (fun m kv=>zcC m kv.1 kv.2) m
theorem ztp:∀ (ps m:List (Key×V)),(zel m ps).length<=m.length+ps.length
 | [],m=>Nat.le_refl _
 | p :: ps,m=>by
   have:=ztp ps (zcC m p.1 p.2)
   have:=zpF m p.1 p.2
   unfold zel at *
   rw [List.foldl_cons,List.length_cons];omega
theorem zFn (ps m:List (Key×V)) (p:Key×V):zel m (ps++[p])=zcC (zel m ps) p.1 p.2:=by simp [zel]
theorem zCt {X:Cx} (hc:X.calm=true):zdn X (.type "dict") (fun xs H Q=>∃ (a:Addr) (vs:List V) (ps:List (Key×V)),xs=[.ref a]∧H a=some (.lst vs)∧zdt H vs ps∧ps.length<=1000000∧∀ p,H p=none->Q (.ref p) (upd H p (.dK (zel [] ps)))):=by
 intro pins s σ H xs us Q I r h
 obtain ⟨a,vs,ps,rfl,ha,hp,hn,q⟩:=h
 obtain ⟨u,rfl,ru⟩:=zeG r
 cases ru
 obtain ⟨hz,its,n,rv,e⟩:=I.hok a _ ha
 have hlen:its.length=ps.length:=by rw [<- rv.length];exact hp.len
 have ex:∀ i:Nat,∃ (y:Value) (k:Key),i < ps.length->∃ b key,its[i]?=some (.ref b)∧ps[i]?=some (k,(ps.getD i (k,.non)).2)∧IsTup s.heap b #[key,y]∧(zbM X.prog X.w).is k key=true∧zt (ps.getD i (k,.non)).2 y:=by
   intro i
   by_cases hi:i < ps.length
   . have hv:i < vs.length:=by rw [hp.len];exact hi
     have ev:vs[i]?=some vs[i]:=List.getElem?_eq_getElem hv
     obtain ⟨b,p,e1,e2,e3⟩:=hp.get ev
     obtain ⟨w1,e4,rw1⟩:=rv.get ev
     rw [e1]at rw1
     cases (show w1=Value.ref b from rw1)
     obtain ⟨_,ti,tv,tt⟩:=I.hok b _ e3
     cases tv with
     | cons r1 t2=>cases t2 with
       | cons r2 t3 =>
         cases t3
         rename_i u1 u2
         refine ⟨u2,p.1,fun _=>⟨b,u1,e4,?_,tt,zhg r1,?_⟩⟩
         . rw [e2];simp [List.getD_eq_getElem?_getD,e2]
         . have:ps.getD i (p.1,V.non)=p:=by simp [List.getD_eq_getElem?_getD,e2]
           rw [this];exact r2
   . exact ⟨.none,Sum.inl 0,fun z=>absurd z hi⟩
 have exU:∃ uu:Nat->Value,∀ i,∃ k:Key,i < ps.length->∃ b key,its[i]?=some (.ref b)∧ps[i]?=some (k,(ps.getD i (k,.non)).2)∧IsTup s.heap b #[key,uu i]∧(zbM X.prog X.w).is k key=true∧zt (ps.getD i (k,.non)).2 (uu i):=⟨fun i=>Classical.choose (ex i),fun i=>Classical.choose_spec (ex i)⟩
 obtain ⟨uu,hU⟩:=exU
 have exK:∃ kk:Nat->Key,∀ i,i < ps.length->∃ b key,its[i]?=some (.ref b)∧ps[i]?=some (kk i,(ps.getD i (kk i,.non)).2)∧IsTup s.heap b #[key,uu i]∧(zbM X.prog X.w).is (kk i) key=true∧zt (ps.getD i (kk i,.non)).2 (uu i):=⟨fun i=>Classical.choose (hU i),fun i=>Classical.choose_spec (hU i)⟩
 obtain ⟨kk,hK⟩:=exK
 have sz:its.toArray.size=ps.length:=by simpa using hlen
 refine zDM (items:=its.toArray) (kk:=kk) (uu:=uu) (I.ok.hd hc) e (by rw [sz];exact hn) (fun i v hv=>?_) fun h' tk D k=>?_
 . have hi:i < ps.length:=by rw [<- sz];exact (Array.getElem?_eq_some_iff.mp hv).1
   obtain ⟨b,key,e1,e2,e3,e4,e5⟩:=hK i hi
   have:v = .ref b:=by simpa [e1] using hv.symm
   exact ⟨b,key,this,e3,e4⟩
 . rw [sz]at D
   have rel:∀ i,i<=ps.length->KV (zel [] (ps.take i)) (dls kk uu i):=by
     intro i
     induction i with
     | zero=>intro _;simp [zel,dls];exact .nil
     | succ i ih =>
       intro hi
       obtain ⟨b,key,e1,e2,e3,e4,e5⟩:=hK i (by omega)
       have et:ps.take (i+1)=ps.take i++[(kk i,(ps.getD i (kk i,.non)).2)]:=by rw [List.take_add_one,e2];rfl
       rw [et,zFn]
       exact (ih (by omega)).put (kk i) e5
   have rel:=rel ps.length (Nat.le_refl _)
   rw [List.take_length]at rel
   have big:(s.heap.objs.size == sysModules)=false:=beq_eq_false_iff_ne.mpr (Ne.symm (Nat.ne_of_lt I.big))
   have fl:=ztp ps []
   exact ⟨.ref s.heap.objs.size,_,I.laid (t':=tk) (a:=s.heap.objs.size) (o := .dK (zel [] ps)) k (Nat.le_refl _) (zsp (by rw [sizeLine_eq];simp at fl;omega) big rel D),rfl,q _ (I.hok.fresh (Nat.le_refl _))⟩
end L2
namespace MI
open PySem PySem.Spec L2
theorem zrH {ρ:List Addr}{H:Hp}:∀ {xs:List D}{ps:List (Int×D)}{us:List V},zeV xs=some ps->RDs ρ H xs us->∃ kvs,zdt H us kvs∧KRs ρ H ps kvs
 | [],ps,us,e,r=>by
   simp [zeV]at e;subst e
   unfold RDs at r;subst r
   exact ⟨[],by unfold zdt;rfl,by unfold KRs;rfl⟩
 | x :: xs,ps,us,e,r=>by
   unfold RDs at r
   obtain ⟨y,q,rfl,r1,r2⟩:=r
   match x,e,r1 with
   | .tup [.int k,d],e,r1 =>
     rw [zeV,Option.map_eq_some_iff]at e
     obtain ⟨ms,e1,rfl⟩:=e
     obtain ⟨kvs,h1,h2⟩:=zrH e1 r2
     unfold RD at r1
     obtain ⟨b,vs,rfl,hb,r1⟩:=r1
     unfold RDs at r1
     obtain ⟨u1,t1,rfl,k1,r1⟩:=r1
     unfold RDs at r1
     obtain ⟨u2,t2,rfl,k2,r1⟩:=r1
     unfold RDs at r1
     subst r1
     unfold RD at k1
     subst k1
     refine ⟨(Sum.inl k,u2) :: kvs,?_,?_⟩
     . unfold zdt;exact ⟨b,_,_,rfl,rfl,hb,h1⟩
     . unfold KRs;exact ⟨u2,kvs,rfl,k2,h2⟩
theorem zt0 {ρ:List Addr}{H:Hp}:∀ {ps:List (Int×D)}{kvs:List (Key×V)}{m:List (Int×D)}{m':List (Key×V)},KRs ρ H ps kvs->KRs ρ H m m'->KRs ρ H (ps.foldl (fun a p=>zcV p.1 p.2 a) m) (zel m' kvs)
 | [],kvs,m,m',h,hm=>by unfold KRs at h;subst h;exact hm
 | p :: ps,kvs,m,m',h,hm=>by
   unfold KRs at h
   obtain ⟨v,q,rfl,rd,h⟩:=h
   exact zt0 (m:=zcV p.1 p.2 m) (m':=zcC m' (Sum.inl p.1) v) h (KRs.put rd hm)
section
variable {W:Nat->Hp->Prop}{X:Cx}{F:Addr->Prop}{G:GP}{env:zx}{σ:L2.St}{ρ:List Addr}{H:Hp}{h:MH}{e:Expr}{ml:ME (List D)}{pos p:Pos}{Q:VK}
theorem KRs.ext {F:Addr->Prop}{ρ1:List Addr}{H1:Hp} (x:Ext F ρ ρ1 H H1) {ps:List (Int×D)}{kvs:List (Key×V)} (r:KRs ρ H ps kvs):KRs ρ1 H1 ps kvs:=r.map fun _ _ _=>RD.ext x _ _
theorem zCf (hg:Gl X "dict") (hm:X.mg "dict" = none) (ha:JE X e (tL W G ml)) (hs:starEach [e] X.env=(false,eval e X.env) :: starEach [] X.env) (hc:X.calm=true:=by rfl):JE X (.Call (.Name "dict" p) [e] [] pos) (tE W G (zjf ml)) :=
 .of (zW (ziE (zCt hc) hg hm (by decide +kernel) (zcP ha.to zc5 hs) (he:=hs)) fun σ H Q ⟨F,ρ,env,h,er,hr,w⟩=>zeA ⟨F,ρ,env,h,er,hr,zF w fun xs h1 ρ1 H1 y e1 er1 hr1 ⟨q,us,ey,hq,rs⟩ w1=>by
   subst ey
   cases eb:zeV xs with
   | none=>rw [eb]at w1;exact w1.elim
   | some ps =>
     rw [eb]at w1
     obtain ⟨kvs,k1,k2⟩:=zrH eb rs
     by_cases hl:ps.length<=1000000
     . dsimp only at w1
       rw [if_pos hl]at w1
       refine ⟨q,us,kvs,rfl,hq,k1,by rw [<- k2.length];exact hl,fun d hd=>?_⟩
       refine zsh w1 er1 hr1 hd ⟨zel [] kvs,zcy,?_⟩
       have ex:Ext F ρ1 (ρ1++[d]) H1 (upd H1 d (.dK (zel [] kvs))):=⟨⟨[d],rfl⟩,(zcq hr1 hd).tup,(zcq hr1 hd).frm⟩
       exact KRs.ext ex (zt0 k2 (by unfold KRs;rfl))
     . dsimp only at w1
       rw [if_neg hl]at w1;exact w1.elim⟩)
end
end MI
end
section
namespace L2
open PySem PySem.Spec PyProof.Rows
section
variable {P:Program}{w:World}{A:Around}{E:Value->Shared->Prop}{s:Shared}{a:Addr}{vs:List (Key×Value)}{ep:Nat}
theorem zBg {R:Bool->Shared->Prop} (hT:s.TypeIs (.ref a) "dict") (h:R false s):wpAny (model P w) A (Builtin.List.listLengthHint (.ref a)) R E s:=by
 unfold Builtin.List.listLengthHint
 refine wpAny_bind (wpAny_specialOf hT PySem.F.slot_dict_len.lookup ?_)
 have e1:splitId "dict.__len__" = some ("dict", "__len__"):=by decide +kernel
 dsimp only
 rw [e1]
 dsimp only
 refine wpAny_bind (wpAny_isInstance hT zsd ?_)
 rw [if_neg (show ¬ ((!true)=true) by decide)]
 refine iteInduction (motive:=fun m=>wpAny (model P w) A m R E s) (fun _=>?_) (fun hc=>absurd (by decide +kernel) hc)
 exact wpAny_bind (wpAny_typeOf hT (wpAny_pure h))
theorem zA6 {Q:List Value->Shared->Prop} (hh:A.handled=none) (hs:(a == sysModules)=false) (D:s.heap.DictAt (zbM P w) a vs ep) (hb:vs.length < 4000)
   (hQ:∀ s' acc,(∀ b o,s.heap.get? b=some o->s'.heap.get? b=some o)->s.heap.objs.size<=s'.heap.objs.size->s'.gens=s.gens->s'.drawn=s.drawn->s'.os=s.os->ItemsOf (fun i v=>∃ kv,vs[i]?=some kv∧(zbM P w).is kv.1 v=true) acc vs.length->Q acc.toList s') :
   wpAny (model P w) A (collect (.ref a)) Q E s:=by
 have hln:vs.length<=sizeLine:=by rw [sizeLine_eq];omega
 obtain ⟨o,es,ho,hex,r⟩:=id D
 have ha:a < s.heap.objs.size:=Heap.lt_size ho
 have hh1:A.in1.handled=none:=hh
 unfold collect
 refine wpAny_bind (wpAny_runValue (codeAny_builtin PySem.F.entry_proto_collect ?_))
 rw [Around.under_plainId PySem.F.plain_proto_collect _]
 show wpAny _ A.in1 (newList [] >>= fun l=>again (.builtin "list.__iadd__" ⟨[l,.ref a],[]⟩)) _ _ s
 refine wpAny_bind (wpAny_newObj_type ?_)
 refine wpAny_pure ⟨plainId_quiet PySem.F.plain_list_iadd _,codeAny_builtin PySem.F.entry_list_iadd ?_⟩
 rw [Around.under_plainId PySem.F.plain_list_iadd _]
 have hz1:(s.heap.push (zU #[] 0)).objs.size=s.heap.objs.size+1:=size_push' _ _
 have hL1:(s.heap.push (zU #[] 0)).get? s.heap.objs.size=some (zU #[] 0):=Heap.get?_push_size _ rfl
 have D1:(s.heap.push (zU #[] 0)).DictAt (zbM P w) a vs ep:=D.at' fun o e=>Heap.get?_push_of_some _ e
 have T1:Shared.TypeIs { s with heap:=s.heap.push (zU #[] 0) } (.ref a) "dict":=D1.dictOf.typeIs
 show wpAny _ A.in1 (Builtin.List.listExtendWith (.ref s.heap.objs.size) (.ref a) (.ref s.heap.objs.size)) _ _ { s with heap:=s.heap.push (zU #[] 0) }
 unfold Builtin.List.listExtendWith
 refine wpAny_bind (wpAny_typeOf T1 ?_)
 have q1:Builtin.List.listSameRef (.ref s.heap.objs.size) (.ref a)=false:=by simp [Builtin.List.listSameRef];exact Nat.ne_of_gt ha
 have q2:(Value.type "dict" == Value.type "list")=false:=by decide
 have q3:(Value.type "dict" == Value.type "tuple")=false:=by decide
 rw [q1,q2,q3,if_neg (by decide)]
 refine wpAny_bind (wpAny_pyIter_dict (s:={ s with heap:=s.heap.push (zU #[] 0) }) hs D1 ?_)
 have hI:a≠(s.heap.push (zU #[] 0)).objs.size:=by rw [hz1];exact Nat.ne_of_lt (Nat.lt_succ_of_lt ha)
 have D2:((s.heap.push (zU #[] 0)).push { cls := .type "dict_keyiterator",data := .fields #[.ref a,.int 0 0,.int vs.length 0,.int ep 0] }).DictAt (zbM P w) a vs ep:=D1.at' fun o e=>Heap.get?_push_of_some _ e
 have T2:Shared.TypeIs { s with heap:=(s.heap.push (zU #[] 0)).push { cls := .type "dict_keyiterator",data := .fields #[.ref a,.int 0 0,.int vs.length 0,.int ep 0] } } (.ref a) "dict":=D2.dictOf.typeIs
 refine wpAny_bind (wpAny_holding (zBg T2 ?_))
 refine zpH (L:=s.heap.objs.size) ((Walks.dictKeys hh1 _ a hI vs ep).toS) ⟨⟨_,Heap.get?_push_size _ rfl,rfl,rfl⟩,D2⟩ (Heap.get?_push_of_some _ hL1) ?_ hln (fun s' acc c m e i=>?_) _ (by decide +kernel) (fun s' h=>⟨plainId_quiet PySem.F.plain_extend_loop _,h⟩)
 . intro z
   rw [hz1]at z
   rcases List.mem_cons.mp z with z | z
   . exact absurd z (Nat.ne_of_lt (Nat.lt_succ_self _))
   . exact Nat.ne_of_gt ha (List.mem_singleton.mp z)
 . refine wpAny_bind (m:=load s.heap.objs.size) (wpAny_load e (wpAny_pure (hQ s' acc (fun b o q=>?_) (Nat.le_of_lt (Heap.lt_size e)) m.gens m.drawn m.os ?_)))
   . have hb:=Heap.lt_size q
     refine m.heap b o (fun z=>?_) (Heap.get?_push_of_some _ (Heap.get?_push_of_some _ q))
     rw [hz1]at z
     rcases List.mem_cons.mp z with z | z
     . exact Nat.ne_of_lt hb z
     . exact Nat.ne_of_lt (Nat.lt_succ_of_lt hb) (List.mem_singleton.mp z)
   . exact ⟨i.1,fun j v hj=>let ⟨k,x,e1,e2⟩:=i.2 j v hj;⟨(k,x),e1,e2⟩⟩
theorem zs0:∀ (acc:List Value) (ks:List Int),acc.length=ks.length->(∀ (i:Nat) (v:Value),acc[i]?=some v->∃ t,v=Value.int (ks.getD i 0) t)->IntsAre acc ks
 | [],[],_,_=> .nil
 | [],_ :: _,h,_=>by cases h
 | _ :: _,[],h,_=>by cases h
 | v :: acc,k :: ks,h,f=>by
   obtain ⟨t,e⟩:=f 0 v rfl
   have e:v = .int k t:=e
   subst e
   exact .cons k t (zs0 acc ks (by simpa using h) fun i u hu=>f (i+1) u (by simpa using hu))
theorem zDY {Q:Value->Shared->Prop}{ns:List Int} (hh:A.handled=none) (hs:(a == sysModules)=false) (D:s.heap.DictAt (zbM P w) a vs ep) (hk:vs.map (·.1)=ns.map Sum.inl) (h64:ns.length < 64)
   (hQ:∀ s' p (out:Array Value) ms e,(∀ b o,s.heap.get? b=some o->s'.heap.get? b=some o)->s.heap.objs.size<=p->s'.gens=s.gens->s'.drawn=s.drawn->s'.os=s.os->s'.heap.get? p=some (seqObj "list" out e)->IntsAre out.toList ms->ms.Perm ns->ms.Pairwise (· <= ·)->Q (.ref p) s') :
   wpAny (model P w) A (call (.builtin "sorted") [.ref a]) Q E s:=by
 have hl:vs.length=ns.length:=by have:=congrArg List.length hk;simpa using this
 refine Calls.call_function_entry kind_sorted plain_sorted entry_sorted (args_sorted1 _) ?_
 unfold Builtin.«sorted»
 refine wpAny_bind (m:=checkCount "sorted" 1 1 _) (wpAny_pure ?_)
 refine wpAny_bind (zA6 hh hs D (by omega) fun s1 acc k sz g dr os it=>?_)
 have hI:IntsAre acc.toList ns:=zs0 _ _ (by rw [Array.length_toList,it.1,hl]) fun i v hv=>by
   rw [Array.getElem?_toList]at hv
   obtain ⟨kv,e1,e2⟩:=it.2 i v hv
   have e3:(vs.map (·.1))[i]?=some kv.1:=by rw [List.getElem?_map,e1];rfl
   rw [hk,List.getElem?_map]at e3
   cases en:ns[i]? with
   | none=>rw [en]at e3;cases e3
   | some m =>
     rw [en]at e3
     have e4:kv.1=Sum.inl m:=by simpa using e3.symm
     rw [e4]at e2
     obtain ⟨t,ht⟩:zt (V.int m) v:=zAZ e2
     exact ⟨t,by rw [ht,List.getD_eq_getElem?_getD,en];rfl⟩
 have hv:acc.toList.length < 64:=by rw [hI.length];exact h64
 refine wpAny_bind (wpAny_newList ?_)
 have hL:(s1.heap.push (seqObj "list" acc.toList.toArray 0)).get? s1.heap.objs.size=some (seqObj "list" acc.toList.toArray 0):=Heap.get?_push_size _ rfl
 show wpAny (model P w) _ _ _ _ { s1 with heap:=s1.heap.push (seqObj "list" acc.toList.toArray 0) }
 refine wpAny_bind (wpAny_holding (wpAny_call_entry slot_list_sort ⟨_,hL,rfl⟩ entry_list_sort (list_sort_tree hL hI hv fun out ks k1 k2 k3=>⟨_,rfl,?_⟩) (args_list_sort _)))
 obtain ⟨e,he⟩:=sortedHeap_at (out:=out) hL
 refine wpAny_pure ⟨_,rfl,hQ _ s1.heap.objs.size out ks e (fun b o q=>?_) sz g dr os he k1 k2 k3⟩
 have q1:=k b o q
 have lt:b < s1.heap.objs.size:=Heap.lt_size q1
 show (sortedHeap (s1.heap.push (seqObj "list" acc.toList.toArray 0)) s1.heap.objs.size acc.toList out).get? b=some o
 rw [sortedHeap_old (Nat.ne_of_lt lt) (by rw [size_push'];exact Nat.lt_succ_of_lt lt)]
 exact Heap.get?_push_of_some _ q1
end
theorem zDN {X:Cx} (hc:X.calm=true):zdn X (.builtin "sorted") (fun xs H Q=>∃ (a:Addr) (kvs:List (Key×V)) (ns:List Int),xs=[.ref a]∧H a=some (.dK kvs)∧kvs.map (·.1)=ns.map Sum.inl∧ns.length < 64∧∀ p,H p=none->Q (.ref p) (upd H p (.lst ((MI.sortI ns).map V.int)))):=by
 intro pins s σ H xs us Q I r h
 obtain ⟨a,kvs,ns,rfl,ha,hk,hn,q⟩:=h
 obtain ⟨u,rfl,ru⟩:=zeG r
 cases ru
 obtain ⟨z,hd,vs,rel,⟨o,es,ep,D⟩⟩:=zrD I.hok ha
 have hk2:vs.map (·.1)=ns.map Sum.inl:=by rw [<- rel.keys];exact hk
 refine zDY (ep:=ep) (I.ok.hd hc) hd ⟨o,es,D⟩ hk2 hn fun s' p out ms e k hp g dr os he hI pm srt=>?_
 have em:ms=MI.sortI ns:=MI.sorted_unique (pm.trans (MI.sortI_perm ns).symm) srt (MI.sortI_sorted ns)
 subst em
 obtain ⟨h',g',d',t',o'⟩:=s'
 obtain rfl:g'=s.gens:=g
 obtain rfl:o'=s.os:=os
 refine ⟨.ref p,_,(I.laid (t':=t') (a:=p) (o := .lst ((MI.sortI ns).map V.int)) k hp ?_).drw d',rfl,q _ (I.hok.fresh hp)⟩
 refine ⟨?_,out.toList,e,ziA hI,?_⟩
 . rw [List.length_map,(MI.sortI_perm ns).length_eq,sizeLine_eq];omega
 . rw [Array.toArray_toList];exact he
end L2
namespace MI
open PySem PySem.Spec L2
theorem KRs.keys {ρ:List Addr}{H:Hp}:∀ {ps:List (Int×D)}{kvs:List (Key×V)},KRs ρ H ps kvs->kvs.map (·.1)=(ps.map (·.1)).map Sum.inl
 | [],kvs,h=>by unfold KRs at h;subst h;rfl
 | p :: ps,kvs,h=>by
   unfold KRs at h
   obtain ⟨v,q,rfl,_,h⟩:=h
   simp [KRs.keys h]
section
variable {W:Nat->Hp->Prop}{X:Cx}{F:Addr->Prop}{G:GP}{env:zx}{σ:L2.St}{ρ:List Addr}{H:Hp}{h:MH}{e:Expr}{ma:ME D}{pos p:Pos}{Q:VK}
theorem zAX (hg:Gl X "sorted") (hm:X.mg "sorted" = none) (ha:JE X e (tE W G ma)) (hs:starEach [e] X.env=(false,eval e X.env) :: starEach [] X.env:=by rfl) (hc:X.calm=true:=by rfl):JE X (.Call (.Name "sorted" p) [e] [] pos) (tN W G (ziP ma)) :=
 .of (zW (ze9 (zDN hc) hg hm (by decide +kernel) (zcP ha.to zc5 hs) (he:=hs)) fun σ H Q ⟨F,ρ,env,h,er,hr,w⟩=>zeA ⟨F,ρ,env,h,er,hr,zF w fun x h1 ρ1 H1 y e1 er1 hr1 r1 w1=>by
   cases x with
   | obj n =>
     dsimp only at w1
     cases qo:h1[n]? with
     | none=>rw [qo]at w1;exact w1.elim
     | some o =>
       rw [qo]at w1
       cases o with
       | dic kvs =>
         obtain ⟨q,vs,rfl,eq,hq,rs⟩:=hr1.dic r1 qo
         by_cases hl:kvs.length < 64
         . dsimp only at w1
           rw [if_pos hl]at w1
           exact ⟨q,vs,kvs.map (·.1),rfl,hq,rs.keys,by simpa using hl,fun d hd=>wp.made (h:=h1) w1 er1 hr1 hd (zgI hr1 hd (RDs.ints _))⟩
         . dsimp only at w1
           rw [if_neg hl]at w1;exact w1.elim
       | _=>exact w1.elim
   | _=>exact w1.elim⟩)
end
end MI
end
section
open PySem L2 MI
namespace My
noncomputable def top (i:Nat):Stmt:=PySem.Challenge.pw_closering_k03_whole_spare.main.body.getD i (.Pass ⟨0,0,0,0⟩)
abbrev zf7:Stmt:=top 6
theorem zul:z6 ["value"] ["value"] (zr zf7):=⟨rfl,rfl,rfl,by decide +kernel,rfl,by decide +kernel,by decide +kernel⟩
abbrev zf8:Stmt:=top 7
theorem zum:z6 ["value", "least", "most"] ["value", "least", "most"] (zr zf8):=⟨rfl,rfl,rfl,by decide +kernel,rfl,by decide +kernel,by decide +kernel⟩
abbrev zf9:Stmt:=top 8
theorem zun:z6 ["points", "value"] ["points", "value"] (zr zf9):=⟨rfl,rfl,rfl,by decide +kernel,rfl,by decide +kernel,by decide +kernel⟩
abbrev zga:Stmt:=top 9
theorem zuo:z6 ["points", "value"] ["points", "value"] (zr zga):=⟨rfl,rfl,rfl,by decide +kernel,rfl,by decide +kernel,by decide +kernel⟩
abbrev zfs:Stmt:=top 10
theorem zup:z6 ["points", "value"] ["points", "value"] (zr zfs):=⟨rfl,rfl,rfl,by decide +kernel,rfl,by decide +kernel,by decide +kernel⟩
abbrev zgc:Stmt:=zhb (top 13) 0
theorem zuq:z6 ["self", "points", "ties", "turn"] ["self", "points", "ties", "turn"] (zr zgc):=⟨rfl,rfl,rfl,by decide +kernel,rfl,by decide +kernel,by decide +kernel⟩
abbrev zcR:Stmt:=zhb (top 13) 1
theorem zur:z6 ["self"] ["self"] (zr zcR):=⟨rfl,rfl,rfl,by decide +kernel,rfl,by decide +kernel,by decide +kernel⟩
abbrev zgb:Stmt:=top 14
theorem zus:z6 ["tie"] ["tie"] (zr zgb):=⟨rfl,rfl,rfl,by decide +kernel,rfl,by decide +kernel,by decide +kernel⟩
abbrev zdK:Stmt:=top 18
theorem zut:z6 ["ties", "value"] ["ties", "value"] (zr zdK):=⟨rfl,rfl,rfl,by decide +kernel,rfl,by decide +kernel,by decide +kernel⟩
abbrev zft:Stmt:=top 19
theorem zuu:z6 ["ties", "value"] ["ties", "value"] (zr zft):=⟨rfl,rfl,rfl,by decide +kernel,rfl,by decide +kernel,by decide +kernel⟩
abbrev zeH:Stmt:=top 20
theorem zqd:z6 ["ties", "step", "tie"] ["ties", "step"] (zr zeH):=⟨rfl,rfl,rfl,by decide +kernel,rfl,by decide +kernel,by decide +kernel⟩
abbrev zfu:Stmt:=top 21
theorem zgJ:z6 ["web", "start", "steps", "ties", "gone", "here", "step"] ["web", "start", "steps"] (zr zfu):=⟨rfl,rfl,rfl,by decide +kernel,rfl,by decide +kernel,by decide +kernel⟩
abbrev zeI:Stmt:=top 22
theorem zqe:z6 ["web", "start", "steps", "gone"] ["web", "start", "steps"] (zr zeI):=⟨rfl,rfl,rfl,by decide +kernel,rfl,by decide +kernel,by decide +kernel⟩
abbrev zfz:Stmt:=top 23
theorem zqf:z6 ["web", "start", "steps", "passed"] ["web", "start", "steps"] (zr zfz):=⟨rfl,rfl,rfl,by decide +kernel,rfl,by decide +kernel,by decide +kernel⟩
abbrev zfA:Stmt:=top 24
theorem zuv:z6 ["web", "one", "other", "steps"] ["web", "one", "other", "steps"] (zr zfA):=⟨rfl,rfl,rfl,by decide +kernel,rfl,by decide +kernel,by decide +kernel⟩
abbrev zfv:Stmt:=top 25
theorem zuw:z6 ["web"] ["web"] (zr zfv):=⟨rfl,rfl,rfl,by decide +kernel,rfl,by decide +kernel,by decide +kernel⟩
abbrev ze5:Stmt:=top 26
theorem zh7:z6 ["web", "chosen", "ties", "found", "place"] ["web", "chosen"] (zr ze5):=⟨rfl,rfl,rfl,by decide +kernel,rfl,by decide +kernel,by decide +kernel⟩
abbrev zfw:Stmt:=top 27
theorem zgd:z6 ["ties", "onward", "start", "arrived", "waiting", "place", "here", "step", "there"] ["ties", "onward", "start", "arrived"] (zr zfw):=⟨rfl,rfl,rfl,by decide +kernel,rfl,by decide +kernel,by decide +kernel⟩
abbrev zfx:Stmt:=top 28
theorem zqg:z6 ["web", "chosen", "start", "arrived"] ["web", "chosen", "start"] (zr zfx):=⟨rfl,rfl,rfl,by decide +kernel,rfl,by decide +kernel,by decide +kernel⟩
abbrev zfy:Stmt:=top 30
theorem zhz:z6 ["web", "arrived", "goal", "ties", "steps", "here"] ["web", "arrived", "goal"] (zr zfy):=⟨rfl,rfl,rfl,by decide +kernel,rfl,by decide +kernel,by decide +kernel⟩
abbrev zeJ:Stmt:=top 34
theorem zux:z6 ["values", "count"] ["values", "count"] (zr zeJ):=⟨rfl,rfl,rfl,by decide +kernel,rfl,by decide +kernel,by decide +kernel⟩
abbrev zeK:Stmt:=top 36
theorem zqh:z6 ["points", "ties", "one", "other", "among"] ["points", "ties", "one", "other"] (zr zeK):=⟨rfl,rfl,rfl,by decide +kernel,rfl,by decide +kernel,by decide +kernel⟩
abbrev zgK:Stmt:=zhb (top 45) 0
theorem zuy:z6 ["self", "steps"] ["self", "steps"] (zr zgK):=⟨rfl,rfl,rfl,by decide +kernel,rfl,by decide +kernel,by decide +kernel⟩
abbrev ze6:Stmt:=zhb (top 45) 1
theorem zqi:z6 ["self", "web", "tie", "ties"] ["self", "web", "tie"] (zr ze6):=⟨rfl,rfl,rfl,by decide +kernel,rfl,by decide +kernel,by decide +kernel⟩
abbrev zgL:Stmt:=zhb (top 46) 0
theorem zuz:z6 ["self", "points"] ["self", "points"] (zr zgL):=⟨rfl,rfl,rfl,by decide +kernel,rfl,by decide +kernel,by decide +kernel⟩
abbrev zfB:Stmt:=zhb (top 46) 1
theorem zqj:z6 ["self", "web", "tie", "ties"] ["self", "web", "tie"] (zr zfB):=⟨rfl,rfl,rfl,by decide +kernel,rfl,by decide +kernel,by decide +kernel⟩
abbrev ze7:Stmt:=top 48
theorem zh8:z6 ["web", "tie", "ties", "others", "arrived"] ["web", "tie"] (zr ze7):=⟨rfl,rfl,rfl,by decide +kernel,rfl,by decide +kernel,by decide +kernel⟩
abbrev zgM:Stmt:=top 50
theorem zuA:z6 ["_law_script", "_law_k"] ["_law_script", "_law_k"] (zr zgM):=⟨rfl,rfl,rfl,by decide +kernel,rfl,by decide +kernel,by decide +kernel⟩
abbrev zgN:Stmt:=top 51
theorem zqk:z6 ["_law_cell", "_law_k", "_law_many", "_law_primes"] ["_law_cell", "_law_k", "_law_many"] (zr zgN):=⟨rfl,rfl,rfl,by decide +kernel,rfl,by decide +kernel,by decide +kernel⟩
abbrev zgO:Stmt:=top 52
theorem zcK:z6 ["_law_script", "_law_few", "_law_points", "_law_turn", "_law_most", "_law_wrong", "_law_halves", "_law_ties", "_law_k", "_law_one", "_law_other", "_law_low", "_law_many", "_law_by", "_law_number"] ["_law_script"] (zr zgO):=⟨rfl,rfl,rfl,by decide +kernel,rfl,by decide +kernel,by decide +kernel⟩
abbrev zgP:Stmt:=top 54
theorem zge:z6 ["_law_ties", "_law_start", "_law_steps", "_law_points", "_law_total", "_law_step", "_law_at", "_law_way", "_law_ends"] ["_law_ties", "_law_start", "_law_steps"] (zr zgP):=⟨rfl,rfl,rfl,by decide +kernel,rfl,by decide +kernel,by decide +kernel⟩
abbrev zgf:Stmt:=top 55
theorem zuB:z6 ["_law_found"] ["_law_found"] (zr zgf):=⟨rfl,rfl,rfl,by decide +kernel,rfl,by decide +kernel,by decide +kernel⟩
abbrev zgQ:Stmt:=top 56
theorem zql:z6 ["_law_ties", "_law_start", "_law_steps", "_law_end", "_law_points"] ["_law_ties", "_law_start", "_law_steps", "_law_end"] (zr zgQ):=⟨rfl,rfl,rfl,by decide +kernel,rfl,by decide +kernel,by decide +kernel⟩
abbrev zgg:Stmt:=top 57
theorem zqm:z6 ["_law_points", "_law_ties", "_law_some", "_law_skipped", "_law_at"] ["_law_points", "_law_ties", "_law_some", "_law_skipped"] (zr zgg):=⟨rfl,rfl,rfl,by decide +kernel,rfl,by decide +kernel,by decide +kernel⟩
abbrev zgh:Stmt:=top 58
theorem zh9:z6 ["_law_points", "_law_ties", "_law_tie", "_law_found", "_law_one", "_law_other", "_law_number"] ["_law_points", "_law_ties", "_law_tie", "_law_found"] (zr zgh):=⟨rfl,rfl,rfl,by decide +kernel,rfl,by decide +kernel,by decide +kernel⟩
abbrev zgi:Stmt:=top 59
theorem zes:z6 ["_law_script", "_law_points", "_law_ties", "_law_turn", "_law_web_here", "_law_many", "_law_some", "_law_tie", "_law_found", "_law_others", "_law_other"] ["_law_script"] (zr zgi):=⟨rfl,rfl,rfl,by decide +kernel,rfl,by decide +kernel,by decide +kernel⟩
noncomputable def anL:List Str:=["points", "turn", "triples", "heights", "steps", "kept", "parts", "camps", "tie"]
theorem zB1:anL.Nodup:=by decide +kernel
theorem zfk:anL.contains "ties" = false:=by decide +kernel
theorem zhu:anL.contains "shows" = false:=by decide +kernel
set_option maxHeartbeats 4000000 in
set_option genInjectivity false in
set_option genSizeOfSpec false in
structure TX (K:PySem.W.Frag) (mg:Str->Option Value) where
 zdf:DF K "is_number" "is_number" zf7 ["value"]
 ze3:mg "is_number" = some (.ref zdf.a)
 zca:DF K "is_within" "is_within" zf8 ["value", "least", "most"]
 zcJ:mg "is_within" = some (.ref zca.a)
 zcY:DF K "is_point" "is_point" zf9 ["points", "value"]
 zer:mg "is_point" = some (.ref zcY.a)
 zdL:DF K "is_tie" "is_tie" zga ["points", "value"]
 zfS:mg "is_tie" = some (.ref zdL.a)
 zdM:DF K "own_tie" "own_tie" zfs ["points", "value"]
 zfp:mg "own_tie" = some (.ref zdM.a)
 zdN:DF K "__init__" "Web.__init__" zgc ["self", "points", "ties", "turn"]
 zcn:DF K "ties" "Web.ties" zcR ["self"]
 zdO:DF K "turned" "turned" zgb ["tie"]
 zfT:mg "turned" = some (.ref zdO.a)
 zcL:DF K "is_place" "is_place" zdK ["ties", "value"]
 zdA:mg "is_place" = some (.ref zcL.a)
 zdP:DF K "is_step" "is_step" zft ["ties", "value"]
 zfq:mg "is_step" = some (.ref zdP.a)
 zcZ:DF K "leg" "leg" zeH ["ties", "step"]
 zc6:mg "leg" = some (.ref zcZ.a)
 zdQ:DF K "legs" "legs" zfu ["web", "start", "steps"]
 zfU:mg "legs" = some (.ref zdQ.a)
 zdg:DF K "stops" "stops" zeI ["web", "start", "steps"]
 ze4:mg "stops" = some (.ref zdg.a)
 zdR:DF K "is_straight" "is_straight" zfz ["web", "start", "steps"]
 zfV:mg "is_straight" = some (.ref zdR.a)
 zdS:DF K "leads" "leads" zfA ["web", "one", "other", "steps"]
 zfW:mg "leads" = some (.ref zdS.a)
 zdT:DF K "every_tie" "every_tie" zfv ["web"]
 zfX:mg "every_tie" = some (.ref zdT.a)
 zdU:DF K "steps_from" "steps_from" ze5 ["web", "chosen"]
 zfY:mg "steps_from" = some (.ref zdU.a)
 zdV:DF K "spread" "spread" zfw ["ties", "onward", "start", "arrived"]
 zfZ:mg "spread" = some (.ref zdV.a)
 zdW:DF K "reach" "reach" zfx ["web", "chosen", "start"]
 zf0:mg "reach" = some (.ref zdW.a)
 zdX:DF K "trace" "trace" zfy ["web", "arrived", "goal"]
 zf1:mg "trace" = some (.ref zdX.a)
 zdY:DF K "are_rising" "are_rising" zeJ ["values", "count"]
 zf2:mg "are_rising" = some (.ref zdY.a)
 zdZ:DF K "divides" "divides" zeK ["points", "ties", "one", "other"]
 zf3:mg "divides" = some (.ref zdZ.a)
 zd0:DF K "__init__" "Around.__init__" zgK ["self", "steps"]
 zdh:DF K "shows" "Around.shows" ze6 ["self", "web", "tie"]
 zd1:DF K "__init__" "Held.__init__" zgL ["self", "points"]
 zdi:DF K "shows" "Held.shows" zfB ["self", "web", "tie"]
 zd2:DF K "spare" "spare" ze7 ["web", "tie"]
 zcX:mg "spare" = some (.ref zd2.a)
 zbZ:DF K "_law_cell_at" "_law_cell_at" zgM ["_law_script", "_law_k"]
 zb9:mg "_law_cell_at" = some (.ref zbZ.a)
 zba:DF K "_law_draw" "_law_draw" zgN ["_law_cell", "_law_k", "_law_many"]
 zD:mg "_law_draw" = some (.ref zba.a)
 zd3:DF K "_law_web" "_law_web" zgO ["_law_script"]
 zfr:mg "_law_web" = some (.ref zd3.a)
 zd4:DF K "_law_walk" "_law_walk" zgP ["_law_ties", "_law_start", "_law_steps"]
 zf4:mg "_law_walk" = some (.ref zd4.a)
 zd5:DF K "_law_numbers" "_law_numbers" zgf ["_law_found"]
 zdB:mg "_law_numbers" = some (.ref zd5.a)
 zd6:DF K "_law_straight" "_law_straight" zgQ ["_law_ties", "_law_start", "_law_steps", "_law_end"]
 zf5:mg "_law_straight" = some (.ref zd6.a)
 zd7:DF K "_law_closed" "_law_closed" zgg ["_law_points", "_law_ties", "_law_some", "_law_skipped"]
 zf6:mg "_law_closed" = some (.ref zd7.a)
 zdj:DF K "_law_due" "_law_due" zgh ["_law_points", "_law_ties", "_law_tie", "_law_found"]
 zbP:mg "_law_due" = some (.ref zdj.a)
 zdk:DF K "law" "law" zgi ["_law_script"]
 zhy:mg "law" = some (.ref zdk.a)
 zS:CF K mg "Web"
 zqn:Mk K zS.c zdN.a
 zeL:zfb K zS.c "ties" zcn.a
 zgR:zb4 K zS.c "points"
 zgS:zb4 K zS.c "turn"
 zgT:zb4 K zS.c "triples"
 zbJ:CF K mg "Answer"
 zbD:CF K mg "Heights"
 zgU:zb4 K zbD.c "heights"
 zbE:CF K mg "Ring"
 zgV:zb4 K zbE.c "steps"
 zbw:CF K mg "Fewest"
 zgW:zb4 K zbw.c "kept"
 zgX:zb4 K zbw.c "parts"
 zbF:CF K mg "Camps"
 zgY:zb4 K zbF.c "camps"
 zbx:CF K mg "Quarrel"
 zgZ:zb4 K zbx.c "tie"
 zg0:zb4 K zbx.c "steps"
 zbG:CF K mg "Way"
 zg1:zb4 K zbG.c "steps"
 zbH:CF K mg "Apart"
 zg2:zb4 K zbH.c "points"
 zbd:CF K mg "Around"
 zqo:Mk K zbd.c zd0.a
 zia:zfb K zbd.c "shows" zdh.a
 zg3:zb4 K zbd.c "steps"
 zbe:CF K mg "Held"
 zqp:Mk K zbe.c zd1.a
 zib:zfb K zbe.c "shows" zdi.a
 zg4:zb4 K zbe.c "points"
 n_list:mg "list" = none
 n_range:mg "range" = none
 n_all:mg "all" = none
 n_dict:mg "dict" = none
 n_isinstance:mg "isinstance" = none
 n_int:mg "int" = none
 n_len:mg "len" = none
 n_sorted:mg "sorted" = none
 n_any:mg "any" = none
 n_bool:mg "bool" = none
 n_tuple:mg "tuple" = none
 n_set:mg "set" = none
 n_zip:mg "zip" = none
 n_sum:mg "sum" = none
 n_abs:mg "abs" = none
 v_MOST:VF mg "MOST" (.int (1000000))
 v_FORTH:VF mg "FORTH" (.int (1))
 v_BACK:VF mg "BACK" (.int (-1))
 zd8:Isa K zS.c zS.c true∧Isa K zS.c zbJ.c false∧Isa K zS.c zbD.c false∧Isa K zS.c zbE.c false∧Isa K zS.c zbw.c false∧Isa K zS.c zbF.c false∧Isa K zS.c zbx.c false∧Isa K zS.c zbG.c false∧Isa K zS.c zbH.c false∧Isa K zS.c zbd.c false∧Isa K zS.c zbe.c false
 zd9:Isa K zbJ.c zS.c false∧Isa K zbJ.c zbJ.c true∧Isa K zbJ.c zbD.c false∧Isa K zbJ.c zbE.c false∧Isa K zbJ.c zbw.c false∧Isa K zbJ.c zbF.c false∧Isa K zbJ.c zbx.c false∧Isa K zbJ.c zbG.c false∧Isa K zbJ.c zbH.c false∧Isa K zbJ.c zbd.c false∧Isa K zbJ.c zbe.c false
 zea:Isa K zbD.c zS.c false∧Isa K zbD.c zbJ.c true∧Isa K zbD.c zbD.c true∧Isa K zbD.c zbE.c false∧Isa K zbD.c zbw.c false∧Isa K zbD.c zbF.c false∧Isa K zbD.c zbx.c false∧Isa K zbD.c zbG.c false∧Isa K zbD.c zbH.c false∧Isa K zbD.c zbd.c false∧Isa K zbD.c zbe.c false
 zeb:Isa K zbE.c zS.c false∧Isa K zbE.c zbJ.c true∧Isa K zbE.c zbD.c false∧Isa K zbE.c zbE.c true∧Isa K zbE.c zbw.c false∧Isa K zbE.c zbF.c false∧Isa K zbE.c zbx.c false∧Isa K zbE.c zbG.c false∧Isa K zbE.c zbH.c false∧Isa K zbE.c zbd.c false∧Isa K zbE.c zbe.c false
 zec:Isa K zbw.c zS.c false∧Isa K zbw.c zbJ.c true∧Isa K zbw.c zbD.c false∧Isa K zbw.c zbE.c false∧Isa K zbw.c zbw.c true∧Isa K zbw.c zbF.c false∧Isa K zbw.c zbx.c false∧Isa K zbw.c zbG.c false∧Isa K zbw.c zbH.c false∧Isa K zbw.c zbd.c false∧Isa K zbw.c zbe.c false
 zed:Isa K zbF.c zS.c false∧Isa K zbF.c zbJ.c true∧Isa K zbF.c zbD.c false∧Isa K zbF.c zbE.c false∧Isa K zbF.c zbw.c false∧Isa K zbF.c zbF.c true∧Isa K zbF.c zbx.c false∧Isa K zbF.c zbG.c false∧Isa K zbF.c zbH.c false∧Isa K zbF.c zbd.c false∧Isa K zbF.c zbe.c false
 zee:Isa K zbx.c zS.c false∧Isa K zbx.c zbJ.c true∧Isa K zbx.c zbD.c false∧Isa K zbx.c zbE.c false∧Isa K zbx.c zbw.c false∧Isa K zbx.c zbF.c false∧Isa K zbx.c zbx.c true∧Isa K zbx.c zbG.c false∧Isa K zbx.c zbH.c false∧Isa K zbx.c zbd.c false∧Isa K zbx.c zbe.c false
 zef:Isa K zbG.c zS.c false∧Isa K zbG.c zbJ.c true∧Isa K zbG.c zbD.c false∧Isa K zbG.c zbE.c false∧Isa K zbG.c zbw.c false∧Isa K zbG.c zbF.c false∧Isa K zbG.c zbx.c false∧Isa K zbG.c zbG.c true∧Isa K zbG.c zbH.c false∧Isa K zbG.c zbd.c false∧Isa K zbG.c zbe.c false
 zeg:Isa K zbH.c zS.c false∧Isa K zbH.c zbJ.c true∧Isa K zbH.c zbD.c false∧Isa K zbH.c zbE.c false∧Isa K zbH.c zbw.c false∧Isa K zbH.c zbF.c false∧Isa K zbH.c zbx.c false∧Isa K zbH.c zbG.c false∧Isa K zbH.c zbH.c true∧Isa K zbH.c zbd.c false∧Isa K zbH.c zbe.c false
 zeh:Isa K zbd.c zS.c false∧Isa K zbd.c zbJ.c true∧Isa K zbd.c zbD.c false∧Isa K zbd.c zbE.c false∧Isa K zbd.c zbw.c false∧Isa K zbd.c zbF.c false∧Isa K zbd.c zbx.c false∧Isa K zbd.c zbG.c false∧Isa K zbd.c zbH.c false∧Isa K zbd.c zbd.c true∧Isa K zbd.c zbe.c false
 zei:Isa K zbe.c zS.c false∧Isa K zbe.c zbJ.c true∧Isa K zbe.c zbD.c false∧Isa K zbe.c zbE.c false∧Isa K zbe.c zbw.c false∧Isa K zbe.c zbF.c false∧Isa K zbe.c zbx.c false∧Isa K zbe.c zbG.c false∧Isa K zbe.c zbH.c false∧Isa K zbe.c zbd.c false∧Isa K zbe.c zbe.c true
section
variable {K:PySem.W.Frag}{mg:Str->Option Value}
noncomputable def TX.G (T:TX K mg):GP:=⟨K,[T.zS.c,T.zbJ.c,T.zbD.c,T.zbE.c,T.zbw.c,T.zbF.c,T.zbx.c,T.zbG.c,T.zbH.c,T.zbd.c,T.zbe.c],anL⟩
theorem TX.g_Web (T:TX K mg):T.G.cm[0]?=some T.zS.c:=rfl
theorem TX.g_Answer (T:TX K mg):T.G.cm[1]?=some T.zbJ.c:=rfl
theorem TX.g_Heights (T:TX K mg):T.G.cm[2]?=some T.zbD.c:=rfl
theorem TX.g_Ring (T:TX K mg):T.G.cm[3]?=some T.zbE.c:=rfl
theorem TX.g_Fewest (T:TX K mg):T.G.cm[4]?=some T.zbw.c:=rfl
theorem TX.g_Camps (T:TX K mg):T.G.cm[5]?=some T.zbF.c:=rfl
theorem TX.g_Quarrel (T:TX K mg):T.G.cm[6]?=some T.zbx.c:=rfl
theorem TX.g_Way (T:TX K mg):T.G.cm[7]?=some T.zbG.c:=rfl
theorem TX.g_Apart (T:TX K mg):T.G.cm[8]?=some T.zbH.c:=rfl
theorem TX.g_Around (T:TX K mg):T.G.cm[9]?=some T.zbd.c:=rfl
theorem TX.g_Held (T:TX K mg):T.G.cm[10]?=some T.zbe.c:=rfl
theorem TX.an_points (T:TX K mg):T.G.an[0]?=some ("points":Str):=rfl
theorem TX.an_turn (T:TX K mg):T.G.an[1]?=some ("turn":Str):=rfl
theorem TX.an_triples (T:TX K mg):T.G.an[2]?=some ("triples":Str):=rfl
theorem TX.an_heights (T:TX K mg):T.G.an[3]?=some ("heights":Str):=rfl
theorem TX.an_steps (T:TX K mg):T.G.an[4]?=some ("steps":Str):=rfl
theorem TX.an_kept (T:TX K mg):T.G.an[5]?=some ("kept":Str):=rfl
theorem TX.an_parts (T:TX K mg):T.G.an[6]?=some ("parts":Str):=rfl
theorem TX.an_camps (T:TX K mg):T.G.an[7]?=some ("camps":Str):=rfl
theorem TX.an_tie (T:TX K mg):T.G.an[8]?=some ("tie":Str):=rfl
theorem TX.zuC (T:TX K mg):∀ (c':Nat) C',T.G.cm[c']?=some C'->Isa K T.zS.c C' (zo 0 c')
 | 0,C',h=>by cases h;exact T.zd8.1
 | 1,C',h=>by cases h;exact T.zd8.2.1
 | 2,C',h=>by cases h;exact T.zd8.2.2.1
 | 3,C',h=>by cases h;exact T.zd8.2.2.2.1
 | 4,C',h=>by cases h;exact T.zd8.2.2.2.2.1
 | 5,C',h=>by cases h;exact T.zd8.2.2.2.2.2.1
 | 6,C',h=>by cases h;exact T.zd8.2.2.2.2.2.2.1
 | 7,C',h=>by cases h;exact T.zd8.2.2.2.2.2.2.2.1
 | 8,C',h=>by cases h;exact T.zd8.2.2.2.2.2.2.2.2.1
 | 9,C',h=>by cases h;exact T.zd8.2.2.2.2.2.2.2.2.2.1
 | 10,C',h=>by cases h;exact T.zd8.2.2.2.2.2.2.2.2.2.2
 | _+11,C',h=>by cases h
theorem TX.zuD (T:TX K mg):∀ (c':Nat) C',T.G.cm[c']?=some C'->Isa K T.zbJ.c C' (zo 1 c')
 | 0,C',h=>by cases h;exact T.zd9.1
 | 1,C',h=>by cases h;exact T.zd9.2.1
 | 2,C',h=>by cases h;exact T.zd9.2.2.1
 | 3,C',h=>by cases h;exact T.zd9.2.2.2.1
 | 4,C',h=>by cases h;exact T.zd9.2.2.2.2.1
 | 5,C',h=>by cases h;exact T.zd9.2.2.2.2.2.1
 | 6,C',h=>by cases h;exact T.zd9.2.2.2.2.2.2.1
 | 7,C',h=>by cases h;exact T.zd9.2.2.2.2.2.2.2.1
 | 8,C',h=>by cases h;exact T.zd9.2.2.2.2.2.2.2.2.1
 | 9,C',h=>by cases h;exact T.zd9.2.2.2.2.2.2.2.2.2.1
 | 10,C',h=>by cases h;exact T.zd9.2.2.2.2.2.2.2.2.2.2
 | _+11,C',h=>by cases h
theorem TX.zuE (T:TX K mg):∀ (c':Nat) C',T.G.cm[c']?=some C'->Isa K T.zbD.c C' (zo 2 c')
 | 0,C',h=>by cases h;exact T.zea.1
 | 1,C',h=>by cases h;exact T.zea.2.1
 | 2,C',h=>by cases h;exact T.zea.2.2.1
 | 3,C',h=>by cases h;exact T.zea.2.2.2.1
 | 4,C',h=>by cases h;exact T.zea.2.2.2.2.1
 | 5,C',h=>by cases h;exact T.zea.2.2.2.2.2.1
 | 6,C',h=>by cases h;exact T.zea.2.2.2.2.2.2.1
 | 7,C',h=>by cases h;exact T.zea.2.2.2.2.2.2.2.1
 | 8,C',h=>by cases h;exact T.zea.2.2.2.2.2.2.2.2.1
 | 9,C',h=>by cases h;exact T.zea.2.2.2.2.2.2.2.2.2.1
 | 10,C',h=>by cases h;exact T.zea.2.2.2.2.2.2.2.2.2.2
 | _+11,C',h=>by cases h
theorem TX.zuF (T:TX K mg):∀ (c':Nat) C',T.G.cm[c']?=some C'->Isa K T.zbE.c C' (zo 3 c')
 | 0,C',h=>by cases h;exact T.zeb.1
 | 1,C',h=>by cases h;exact T.zeb.2.1
 | 2,C',h=>by cases h;exact T.zeb.2.2.1
 | 3,C',h=>by cases h;exact T.zeb.2.2.2.1
 | 4,C',h=>by cases h;exact T.zeb.2.2.2.2.1
 | 5,C',h=>by cases h;exact T.zeb.2.2.2.2.2.1
 | 6,C',h=>by cases h;exact T.zeb.2.2.2.2.2.2.1
 | 7,C',h=>by cases h;exact T.zeb.2.2.2.2.2.2.2.1
 | 8,C',h=>by cases h;exact T.zeb.2.2.2.2.2.2.2.2.1
 | 9,C',h=>by cases h;exact T.zeb.2.2.2.2.2.2.2.2.2.1
 | 10,C',h=>by cases h;exact T.zeb.2.2.2.2.2.2.2.2.2.2
 | _+11,C',h=>by cases h
theorem TX.zuG (T:TX K mg):∀ (c':Nat) C',T.G.cm[c']?=some C'->Isa K T.zbw.c C' (zo 4 c')
 | 0,C',h=>by cases h;exact T.zec.1
 | 1,C',h=>by cases h;exact T.zec.2.1
 | 2,C',h=>by cases h;exact T.zec.2.2.1
 | 3,C',h=>by cases h;exact T.zec.2.2.2.1
 | 4,C',h=>by cases h;exact T.zec.2.2.2.2.1
 | 5,C',h=>by cases h;exact T.zec.2.2.2.2.2.1
 | 6,C',h=>by cases h;exact T.zec.2.2.2.2.2.2.1
 | 7,C',h=>by cases h;exact T.zec.2.2.2.2.2.2.2.1
 | 8,C',h=>by cases h;exact T.zec.2.2.2.2.2.2.2.2.1
 | 9,C',h=>by cases h;exact T.zec.2.2.2.2.2.2.2.2.2.1
 | 10,C',h=>by cases h;exact T.zec.2.2.2.2.2.2.2.2.2.2
 | _+11,C',h=>by cases h
theorem TX.zuH (T:TX K mg):∀ (c':Nat) C',T.G.cm[c']?=some C'->Isa K T.zbF.c C' (zo 5 c')
 | 0,C',h=>by cases h;exact T.zed.1
 | 1,C',h=>by cases h;exact T.zed.2.1
 | 2,C',h=>by cases h;exact T.zed.2.2.1
 | 3,C',h=>by cases h;exact T.zed.2.2.2.1
 | 4,C',h=>by cases h;exact T.zed.2.2.2.2.1
 | 5,C',h=>by cases h;exact T.zed.2.2.2.2.2.1
 | 6,C',h=>by cases h;exact T.zed.2.2.2.2.2.2.1
 | 7,C',h=>by cases h;exact T.zed.2.2.2.2.2.2.2.1
 | 8,C',h=>by cases h;exact T.zed.2.2.2.2.2.2.2.2.1
 | 9,C',h=>by cases h;exact T.zed.2.2.2.2.2.2.2.2.2.1
 | 10,C',h=>by cases h;exact T.zed.2.2.2.2.2.2.2.2.2.2
 | _+11,C',h=>by cases h
theorem TX.zuI (T:TX K mg):∀ (c':Nat) C',T.G.cm[c']?=some C'->Isa K T.zbx.c C' (zo 6 c')
 | 0,C',h=>by cases h;exact T.zee.1
 | 1,C',h=>by cases h;exact T.zee.2.1
 | 2,C',h=>by cases h;exact T.zee.2.2.1
 | 3,C',h=>by cases h;exact T.zee.2.2.2.1
 | 4,C',h=>by cases h;exact T.zee.2.2.2.2.1
 | 5,C',h=>by cases h;exact T.zee.2.2.2.2.2.1
 | 6,C',h=>by cases h;exact T.zee.2.2.2.2.2.2.1
 | 7,C',h=>by cases h;exact T.zee.2.2.2.2.2.2.2.1
 | 8,C',h=>by cases h;exact T.zee.2.2.2.2.2.2.2.2.1
 | 9,C',h=>by cases h;exact T.zee.2.2.2.2.2.2.2.2.2.1
 | 10,C',h=>by cases h;exact T.zee.2.2.2.2.2.2.2.2.2.2
 | _+11,C',h=>by cases h
theorem TX.zuJ (T:TX K mg):∀ (c':Nat) C',T.G.cm[c']?=some C'->Isa K T.zbG.c C' (zo 7 c')
 | 0,C',h=>by cases h;exact T.zef.1
 | 1,C',h=>by cases h;exact T.zef.2.1
 | 2,C',h=>by cases h;exact T.zef.2.2.1
 | 3,C',h=>by cases h;exact T.zef.2.2.2.1
 | 4,C',h=>by cases h;exact T.zef.2.2.2.2.1
 | 5,C',h=>by cases h;exact T.zef.2.2.2.2.2.1
 | 6,C',h=>by cases h;exact T.zef.2.2.2.2.2.2.1
 | 7,C',h=>by cases h;exact T.zef.2.2.2.2.2.2.2.1
 | 8,C',h=>by cases h;exact T.zef.2.2.2.2.2.2.2.2.1
 | 9,C',h=>by cases h;exact T.zef.2.2.2.2.2.2.2.2.2.1
 | 10,C',h=>by cases h;exact T.zef.2.2.2.2.2.2.2.2.2.2
 | _+11,C',h=>by cases h
theorem TX.zuK (T:TX K mg):∀ (c':Nat) C',T.G.cm[c']?=some C'->Isa K T.zbH.c C' (zo 8 c')
 | 0,C',h=>by cases h;exact T.zeg.1
 | 1,C',h=>by cases h;exact T.zeg.2.1
 | 2,C',h=>by cases h;exact T.zeg.2.2.1
 | 3,C',h=>by cases h;exact T.zeg.2.2.2.1
 | 4,C',h=>by cases h;exact T.zeg.2.2.2.2.1
 | 5,C',h=>by cases h;exact T.zeg.2.2.2.2.2.1
 | 6,C',h=>by cases h;exact T.zeg.2.2.2.2.2.2.1
 | 7,C',h=>by cases h;exact T.zeg.2.2.2.2.2.2.2.1
 | 8,C',h=>by cases h;exact T.zeg.2.2.2.2.2.2.2.2.1
 | 9,C',h=>by cases h;exact T.zeg.2.2.2.2.2.2.2.2.2.1
 | 10,C',h=>by cases h;exact T.zeg.2.2.2.2.2.2.2.2.2.2
 | _+11,C',h=>by cases h
theorem TX.zuL (T:TX K mg):∀ (c':Nat) C',T.G.cm[c']?=some C'->Isa K T.zbd.c C' (zo 9 c')
 | 0,C',h=>by cases h;exact T.zeh.1
 | 1,C',h=>by cases h;exact T.zeh.2.1
 | 2,C',h=>by cases h;exact T.zeh.2.2.1
 | 3,C',h=>by cases h;exact T.zeh.2.2.2.1
 | 4,C',h=>by cases h;exact T.zeh.2.2.2.2.1
 | 5,C',h=>by cases h;exact T.zeh.2.2.2.2.2.1
 | 6,C',h=>by cases h;exact T.zeh.2.2.2.2.2.2.1
 | 7,C',h=>by cases h;exact T.zeh.2.2.2.2.2.2.2.1
 | 8,C',h=>by cases h;exact T.zeh.2.2.2.2.2.2.2.2.1
 | 9,C',h=>by cases h;exact T.zeh.2.2.2.2.2.2.2.2.2.1
 | 10,C',h=>by cases h;exact T.zeh.2.2.2.2.2.2.2.2.2.2
 | _+11,C',h=>by cases h
theorem TX.zuM (T:TX K mg):∀ (c':Nat) C',T.G.cm[c']?=some C'->Isa K T.zbe.c C' (zo 10 c')
 | 0,C',h=>by cases h;exact T.zei.1
 | 1,C',h=>by cases h;exact T.zei.2.1
 | 2,C',h=>by cases h;exact T.zei.2.2.1
 | 3,C',h=>by cases h;exact T.zei.2.2.2.1
 | 4,C',h=>by cases h;exact T.zei.2.2.2.2.1
 | 5,C',h=>by cases h;exact T.zei.2.2.2.2.2.1
 | 6,C',h=>by cases h;exact T.zei.2.2.2.2.2.2.1
 | 7,C',h=>by cases h;exact T.zei.2.2.2.2.2.2.2.1
 | 8,C',h=>by cases h;exact T.zei.2.2.2.2.2.2.2.2.1
 | 9,C',h=>by cases h;exact T.zei.2.2.2.2.2.2.2.2.2.1
 | 10,C',h=>by cases h;exact T.zei.2.2.2.2.2.2.2.2.2.2
 | _+11,C',h=>by cases h
theorem TX.ok (T:TX K mg):T.G.Ok zo zfi where
 cls:=fun c C h=>match c,h with
   | 0,h=>by cases h;exact ⟨T.zS.cl,T.zS.ic⟩
   | 1,h=>by cases h;exact ⟨T.zbJ.cl,T.zbJ.ic⟩
   | 2,h=>by cases h;exact ⟨T.zbD.cl,T.zbD.ic⟩
   | 3,h=>by cases h;exact ⟨T.zbE.cl,T.zbE.ic⟩
   | 4,h=>by cases h;exact ⟨T.zbw.cl,T.zbw.ic⟩
   | 5,h=>by cases h;exact ⟨T.zbF.cl,T.zbF.ic⟩
   | 6,h=>by cases h;exact ⟨T.zbx.cl,T.zbx.ic⟩
   | 7,h=>by cases h;exact ⟨T.zbG.cl,T.zbG.ic⟩
   | 8,h=>by cases h;exact ⟨T.zbH.cl,T.zbH.ic⟩
   | 9,h=>by cases h;exact ⟨T.zbd.cl,T.zbd.ic⟩
   | 10,h=>by cases h;exact ⟨T.zbe.cl,T.zbe.ic⟩
   | _+11,h=>by cases h
 noat:=fun c C k f h1 h2 h3=>by
   have h2:=List.contains_iff_mem.mp h2
   simp only [List.mem_cons,Prod.mk.injEq,List.not_mem_nil,or_false]at h2
   rcases h2 with ⟨rfl,rfl⟩ | ⟨rfl,rfl⟩ | ⟨rfl,rfl⟩ | ⟨rfl,rfl⟩ | ⟨rfl,rfl⟩ | ⟨rfl,rfl⟩ | ⟨rfl,rfl⟩ | ⟨rfl,rfl⟩ | ⟨rfl,rfl⟩ | ⟨rfl,rfl⟩ | ⟨rfl,rfl⟩ | ⟨rfl,rfl⟩ | ⟨rfl,rfl⟩ | ⟨rfl,rfl⟩
   . cases h1;cases h3;exact T.zgR
   . cases h1;cases h3;exact T.zgS
   . cases h1;cases h3;exact T.zgT
   . cases h1;cases h3;exact T.zgU
   . cases h1;cases h3;exact T.zgV
   . cases h1;cases h3;exact T.zgW
   . cases h1;cases h3;exact T.zgX
   . cases h1;cases h3;exact T.zgY
   . cases h1;cases h3;exact T.zgZ
   . cases h1;cases h3;exact T.zg0
   . cases h1;cases h3;exact T.zg1
   . cases h1;cases h3;exact T.zg2
   . cases h1;cases h3;exact T.zg3
   . cases h1;cases h3;exact T.zg4
 nd:=zB1
 isa:=fun c c' C C' h1 h2=>match c,h1 with
   | 0,h1=>by cases h1;exact T.zuC c' C' h2
   | 1,h1=>by cases h1;exact T.zuD c' C' h2
   | 2,h1=>by cases h1;exact T.zuE c' C' h2
   | 3,h1=>by cases h1;exact T.zuF c' C' h2
   | 4,h1=>by cases h1;exact T.zuG c' C' h2
   | 5,h1=>by cases h1;exact T.zuH c' C' h2
   | 6,h1=>by cases h1;exact T.zuI c' C' h2
   | 7,h1=>by cases h1;exact T.zuJ c' C' h2
   | 8,h1=>by cases h1;exact T.zuK c' C' h2
   | 9,h1=>by cases h1;exact T.zuL c' C' h2
   | 10,h1=>by cases h1;exact T.zuM c' C' h2
   | _+11,h1=>by cases h1
end
end My
end
section
open PySem L2 MI
namespace My
section
variable {P:Program}{w:World}{K:PySem.W.Frag}{mg:Str->Option Value}{base:Heap}
set_option maxHeartbeats 4000000 in
theorem zqq (T:TX K mg):zK P w K mg base CX0 1 T.zdf.a T.zdf.d ["value"] (spM T.G 1 ze3) :=
 zbh (k:=0) T.zdf.F zul rfl rfl (by decide) fun cdv A outer s H E hr =>
     (zu (zJ (zdD (zdH (by rfl) T.n_isinstance (by rfl) T.n_int (zc 0) zg) (zeF (zix (zdH (by rfl) T.n_isinstance (by rfl) T.n_bool (zc 0) zg))))))
set_option maxHeartbeats 4000000 in
theorem zg5 (T:TX K mg):zK P w K mg base CX0 2 T.zca.a T.zca.d ["value", "least", "most"] (spM T.G 3 zcJ) :=
 zbh (k:=1) T.zca.F zum rfl rfl (by decide) fun cdv A outer s H E hr =>
     (zu (zJ (zdD (zH (zqq T) (hr.mono (by decide)) (by rfl) T.ze3 T.zdf.F.kp T.zdf.b (zd (zc 0) zl zg)) (zeF (zsc (zis hr) (zis hr) (zc 1) (zc 0) (zc 2))))))
set_option maxHeartbeats 4000000 in
theorem zji (T:TX K mg):zK P w K mg base CX0 3 T.zcY.a T.zcY.d ["points", "value"] (spM T.G 2 zer) :=
 zbh (k:=2) T.zcY.F zun rfl rfl (by decide) fun cdv A outer s H E hr =>
     (zu (zJ (zH (zg5 T) (hr.mono (by decide)) (by rfl) T.zcJ T.zca.F.kp T.zca.b (zd (zc 1) (zd zh (zd (zeY (zc 0) zh) zl zda) zC) zg))))
set_option maxHeartbeats 4000000 in
theorem zuN (T:TX K mg):zK P w K mg base CX0 4 T.zdL.a T.zdL.d ["points", "value"] (spM T.G 2 zfS) :=
 zbh (k:=3) T.zdL.F zuo rfl rfl (by decide) fun cdv A outer s H E hr =>
     (zq (zbk (t_w (zcM (zbX (zbr (zdH (by rfl) T.n_isinstance (by rfl) T.n_tuple (zc 1) zg) (fun _=>rfl))) (zdz (zbs (zdJ hr) (zdy (by rfl) T.n_len (zc 1) zg) zh (zY _))))) (zu (zJ zcB)) zbo)
     (zq (zbk (t_w (zcM (zbX (zbr (zH (zji T) (hr.mono (by decide)) (by rfl) T.zer T.zcY.F.kp T.zcY.b (zd (zc 0) (zd (zy hr (zc 1) zh (fun _ _=>rfl)) zl zbY) zg)) (fun _=>rfl))) (zdz (zbX (zbr (zH (zji T) (hr.mono (by decide)) (by rfl) T.zer T.zcY.F.kp T.zcY.b (zd (zc 0) (zd (zy hr (zc 1) zh (fun _ _=>rfl)) zl zbY) zg)) (fun _=>rfl)))))) (zu (zJ zcB)) zbo)
     (zu (zJ (zdD (zci (zdJ hr) (zy hr (zc 1) zh (fun _ _=>rfl)) (zy hr (zc 1) zh (fun _ _=>rfl)) (zY _)) (zeF (zH (zg5 T) (hr.mono (by decide)) (by rfl) T.zcJ T.zca.F.kp T.zca.b (zd (zy hr (zc 1) zh (fun _ _=>rfl)) (zd (zfj (zfn (by rfl) T.v_MOST.m T.v_MOST.r)) (zd (zfn (by rfl) T.v_MOST.m T.v_MOST.r) zl zg) zi5) zbY))))))))
set_option maxHeartbeats 4000000 in
theorem zuO (T:TX K mg):zK P w K mg base CX0 5 T.zdM.a T.zdM.d ["points", "value"] (spM T.G 2 zfp) :=
 zbh (k:=4) T.zdM.F zup rfl rfl (by decide) fun cdv A outer s H E hr =>
     (zq (zbk (zbX (zbr (zH (zuN T) (hr.mono (by decide)) (by rfl) T.zfS T.zdL.F.kp T.zdL.b (zd (zc 0) (zd (zc 1) zl zg) zg)) (fun _=>rfl))) (zu zh2) zbo)
     (zu (zJ (zck (zd (zy hr (zc 1) zh (fun _ _=>rfl)) (zd (zy hr (zc 1) zh (fun _ _=>rfl)) (zd (zy hr (zc 1) zh (fun _ _=>rfl)) zl zbY) zbY) zbY)))))
set_option maxHeartbeats 4000000 in
theorem zuP (T:TX K mg):zK P w K mg base CX0 6 T.zdN.a T.zdN.d ["self", "points", "ties", "turn"] (spM T.G 4 zhv) :=
 zbh (k:=5) T.zdN.F zuq rfl rfl (by decide) fun cdv A outer s H E hr =>
     (zq (zbk (zbX (zbr (zH (zg5 T) (hr.mono (by decide)) (by rfl) T.zcJ T.zca.F.kp T.zca.b (zd (zc 1) (zd zh (zd (zfn (by rfl) T.v_MOST.m T.v_MOST.r) zl zg) zC) zg)) (fun _=>rfl))) (zu zh2) zbo)
     (zq (zbk (zbX (zbr (zH (zg5 T) (hr.mono (by decide)) (by rfl) T.zcJ T.zca.F.kp T.zca.b (zd (zc 3) (zd zh (zd (zfn (by rfl) T.v_MOST.m T.v_MOST.r) zl zg) zC) zg)) (fun _=>rfl))) (zu zh2) zbo)
     (zq (zbk (zbX (zbr (zdH (by rfl) T.n_isinstance (by rfl) T.n_list (zc 2) zg) (fun _=>rfl))) (zu zh2) zbo)
     (zq (zhY T.ok T.an_points (zc 0) (zc 1) rfl)
     (zq (zhY T.ok T.an_turn (zc 0) (zc 3) rfl)
     (zu (zhY T.ok T.an_triples (zc 0) (zbO (zeC (N:=["tie", "points"]) (js:=[none,some 1]) rfl (zb0.of (osc:=zr zgc) (N0:=["self", "points", "ties", "turn"]) rfl rfl (by decide +kernel)) (zdb (zc 2)) (fun _ _ _ _=>(zcu (i:=0) (show (["tie", "points"]:List Str).Nodup by decide +kernel) rfl (Or.inl rfl))) (fun _ _ _ _=>zej) (fun _ _ _ _=>(zH (zuO T) (hr.mono (by decide)) (by rfl) T.zfp T.zdM.F.kp T.zdM.b (zd (zc 1) (zd (zc 0) zl zg) zg))))) rfl)))))))
set_option maxHeartbeats 4000000 in
theorem ze8 (T:TX K mg):zK P w K mg base CX0 1 T.zcn.a T.zcn.d ["self"] (spM T.G 1 zh4) :=
 zbh (k:=0) T.zcn.F zur rfl rfl (by decide) fun cdv A outer s H E hr =>
     (zu (zJ (zbO (zp1 (by rfl) T.n_list (zgH (zc2 T.ok T.an_triples (zc 0) rfl)) zeW))))
set_option maxHeartbeats 4000000 in
theorem zuQ (T:TX K mg):zK P w K mg base CX0 1 T.zdO.a T.zdO.d ["tie"] (spM T.G 1 zfT) :=
 zbh (k:=0) T.zdO.F zus rfl rfl (by decide) fun cdv A outer s H E hr =>
     (zu (zJ (zck (zd (zy hr (zc 0) zh (fun _ _=>rfl)) (zd (zy hr (zc 0) zh (fun _ _=>rfl)) (zd (zfj (zy hr (zc 0) zh (fun _ _=>rfl))) zl zi5) zbY) zbY))))
set_option maxHeartbeats 4000000 in
theorem zic (T:TX K mg):zK P w K mg base CX0 3 T.zcL.a T.zcL.d ["ties", "value"] (spM T.G 2 zdA) :=
 zbh (k:=2) T.zcL.F zut rfl rfl (by decide) fun cdv A outer s H E hr =>
     (zu (zJ (zH (zg5 T) (hr.mono (by decide)) (by rfl) T.zcJ T.zca.F.kp T.zca.b (zd (zc 1) (zd zh (zd (zeY (zdy (by rfl) T.n_len (zc 0) zg) zh) zl zda) zC) zg))))
set_option maxHeartbeats 4000000 in
theorem zuR (T:TX K mg):zK P w K mg base CX0 4 T.zdP.a T.zdP.d ["ties", "value"] (spM T.G 2 zfq) :=
 zbh (k:=3) T.zdP.F zuu rfl rfl (by decide) fun cdv A outer s H E hr =>
     (zq (zbk (t_w (zcM (zbX (zbr (zdH (by rfl) T.n_isinstance (by rfl) T.n_tuple (zc 1) zg) (fun _=>rfl))) (zdz (zbs (zdJ hr) (zdy (by rfl) T.n_len (zc 1) zg) zh (zY _))))) (zu (zJ zcB)) zbo)
     (zu (zJ (zdD (zH (zic T) (hr.mono (by decide)) (by rfl) T.zdA T.zcL.F.kp T.zcL.b (zd (zc 0) (zd (zy hr (zc 1) zh (fun _ _=>rfl)) zl zbY) zg)) (zdD (zH (zqq T) (hr.mono (by decide)) (by rfl) T.ze3 T.zdf.F.kp T.zdf.b (zd (zy hr (zc 1) zh (fun _ _=>rfl)) zl zbY)) (zeF (zci (zfC hr) (zy hr (zc 1) zh (fun _ _=>rfl)) (zck (zd (zfn (by rfl) T.v_FORTH.m T.v_FORTH.r) (zd (zfn (by rfl) T.v_BACK.m T.v_BACK.r) zl zg) zg)) (by with_unfolding_all rfl))))))))
set_option maxHeartbeats 4000000 in
theorem zjj (T:TX K mg):zK P w K mg base CX0 2 T.zcZ.a T.zcZ.d ["ties", "step"] (spM T.G 2 zc6) :=
 zbh (k:=1) T.zcZ.F zqd rfl rfl (by decide) fun cdv A outer s H E hr =>
     (zq (zQ (i:=2) zqd.nd rfl (Or.inl rfl) (zy hr (zc 0) (zy hr (zc 1) zh (fun _ _=>rfl)) (fun _ _=>rfl)))
     (zu (zJ (zhd (zbs (zdF hr) (zy hr (zc 1) zh (fun _ _=>rfl)) (zfn (by rfl) T.v_FORTH.m T.v_FORTH.r) (zY _)) (zc 2) (zH (zuQ T) (hr.mono (by decide)) (by rfl) T.zfT T.zdO.F.kp T.zdO.b (zd (zc 2) zl zg))))))
set_option maxHeartbeats 4000000 in
theorem zuS (T:TX K mg):zK P w K mg base CX0 5 T.zdQ.a T.zdQ.d ["web", "start", "steps"] (spM T.G 3 zfU) :=
 zbh (k:=4) T.zdQ.F zgJ rfl rfl (by decide) fun cdv A outer s H E hr =>
     (zq (zbk (t_w (zcM (zbX (zbr (zH (zji T) (hr.mono (by decide)) (by rfl) T.zer T.zcY.F.kp T.zcY.b (zd (zc2 T.ok T.an_points (zc 0) rfl) (zd (zc 1) zl zg) zeW)) (fun _=>rfl))) (zdz (zbX (zbr (zdH (by rfl) T.n_isinstance (by rfl) T.n_list (zc 2) zg) (fun _=>rfl)))))) (zu (zJ zfE)) zbo)
     (zq (zQ (i:=3) zgJ.nd rfl (Or.inl rfl) (zeo (c0:=0) (zfg T.g_Web T.zS.cl T.zeL (ze8 T) (hr.mono (by decide)) T.zcn.b (zc 0) zep (zde zfk))))
     (zq (zQ (i:=4) zgJ.nd rfl (Or.inl rfl) (zbO (zc9 zl)))
     (zq (zQ (i:=5) zgJ.nd rfl (Or.inl rfl) (zc 1))
     (zq (zfP PassesOwn.never (zdb (zc 2)) (zcu (i:=6) zgJ.nd rfl (Or.inl rfl))
     (zq (zbk (zbX (zbr (zH (zuR T) (hr.mono (by decide)) (by rfl) T.zfq T.zdP.F.kp T.zdP.b (zd (zc 3) (zd (zc 6) zl zg) zg)) (fun _=>rfl))) (zu (zJ zfE)) zbo)
     (zq (zeu (zff (zc 4) (zH (zjj T) (hr.mono (by decide)) (by rfl) T.zc6 T.zcZ.F.kp T.zcZ.b (zd (zc 3) (zd (zc 6) zl zg) zg)) zbN))
     (zq (zbk (zbs (zdJ hr) (zy hr (zy hr (zc 4) (zfj zh) (fun _ _=>rfl)) zh (fun _ _=>rfl)) (zc 5) (zY _)) (zu (zJ zfE)) zbo)
     (zu (zQ (i:=5) zgJ.nd rfl (Or.inl rfl) (zy hr (zy hr (zc 4) (zfj zh) (fun _ _=>rfl)) zh (fun _ _=>rfl))))))))
     (zu (zJ (zc 4))))))))
set_option maxHeartbeats 4000000 in
theorem zqr (T:TX K mg):zK P w K mg base CX0 6 T.zdg.a T.zdg.d ["web", "start", "steps"] (spM T.G 3 ze4) :=
 zbh (k:=5) T.zdg.F zqe rfl rfl (by decide) fun cdv A outer s H E hr =>
     (zq (zQ (i:=3) zqe.nd rfl (Or.inl rfl) (zH (zuS T) (hr.mono (by decide)) (by rfl) T.zfU T.zdQ.F.kp T.zdQ.b (zd (zc 0) (zd (zc 1) (zd (zc 2) zl zg) zg) zg)))
     (zq (zbk (zbs (zC0 hr) (zc 3) zfE (zY _)) (zu (zJ zfE)) zbo)
     (zu (zJ (zbO (zpP (zbO (zc9 (zd (zc 1) zl zg))) (ze1 (zeC (N:=["made"]) (js:=[none]) rfl (zb0.of (osc:=zr zeI) (N0:=["web", "start", "steps", "gone"]) rfl rfl (by decide +kernel)) (zdb (zc 3)) (fun _ _ _ _=>(zcu (i:=0) (show (["made"]:List Str).Nodup by decide +kernel) rfl (Or.inl rfl))) (fun _ _ _ _=>zej) (fun _ _ _ _=>(zy hr (zc 0) zh (fun _ _=>rfl)))))))))))
set_option maxHeartbeats 4000000 in
theorem zuT (T:TX K mg):zK P w K mg base CX0 7 T.zdR.a T.zdR.d ["web", "start", "steps"] (spM T.G 3 zfV) :=
 zbh (k:=6) T.zdR.F zqf rfl rfl (by decide) fun cdv A outer s H E hr =>
     (zq (zQ (i:=3) zqf.nd rfl (Or.inl rfl) (zH (zqr T) (hr.mono (by decide)) (by rfl) T.ze4 T.zdg.F.kp T.zdg.b (zd (zc 0) (zd (zc 1) (zd (zc 2) zl zg) zg) zg)))
     (zu (zJ (zdD (zci (zik hr) (zc 3) zfE (zY _)) (zeF (zci (zdF hr) (ztv (by rfl) T.n_len (by rfl) T.n_set (zgH (zc 3)) zg) (zdy (by rfl) T.n_len (zc 3) zg) (zY _)))))))
set_option maxHeartbeats 4000000 in
theorem zuU (T:TX K mg):zK P w K mg base CX0 8 T.zdS.a T.zdS.d ["web", "one", "other", "steps"] (spM T.G 4 zfW) :=
 zbh (k:=7) T.zdS.F zuv rfl rfl (by decide) fun cdv A outer s H E hr =>
     (zu (zJ (zdD (zH (zuT T) (hr.mono (by decide)) (by rfl) T.zfV T.zdR.F.kp T.zdR.b (zd (zc 0) (zd (zc 1) (zd (zc 3) zl zg) zg) zg)) (zeF (zci (zdF hr) (zy hr (zH (zqr T) (hr.mono (by decide)) (by rfl) T.ze4 T.zdg.F.kp T.zdg.b (zd (zc 0) (zd (zc 1) (zd (zc 3) zl zg) zg) zg)) (zfj zh) (fun _ _=>rfl)) (zc 2) (zY _))))))
set_option maxHeartbeats 4000000 in
theorem zuV (T:TX K mg):zK P w K mg base CX0 2 T.zdT.a T.zdT.d ["web"] (spM T.G 1 zfX) :=
 zbh (k:=1) T.zdT.F zuw rfl rfl (by decide) fun cdv A outer s H E hr =>
     (zu (zJ (zbO (zEk (by rfl) T.n_list (by rfl) T.n_range (zdy (by rfl) T.n_len (zeo (c0:=0) (zfg T.g_Web T.zS.cl T.zeL (ze8 T) (hr.mono (by decide)) T.zcn.b (zc 0) zep (zde zfk))) zbN) zbN))))
set_option maxHeartbeats 4000000 in
theorem zuW (T:TX K mg):zK P w K mg base CX0 2 T.zdU.a T.zdU.d ["web", "chosen"] (spM T.G 2 zfY) :=
 zbh (k:=1) T.zdU.F zh7 rfl rfl (by decide) fun cdv A outer s H E hr =>
     (zq (zQ (i:=2) zh7.nd rfl (Or.inl rfl) (zeo (c0:=0) (zfg T.g_Web T.zS.cl T.zeL (ze8 T) (hr.mono (by decide)) T.zcn.b (zc 0) zep (zde zfk))))
     (zq (zrE (j:=3) (N:=["point"]) (js:=[none]) rfl zh7.nd rfl rfl (zb0.of (osc:=zr ze5) (N0:=["web", "chosen", "ties", "found", "place"]) rfl rfl (by decide +kernel)) (zit (by rfl) T.n_range (zc2 T.ok T.an_points (zc 0) rfl) zeW) (fun _ _ _ _=>(zcu (i:=0) (show (["point"]:List Str).Nodup by decide +kernel) rfl (Or.inl rfl))) (fun _ _ _ _=>zej) (fun _ _ _ _=>(zbO (zc9 zl))))
     (zq (zfP PassesOwn.never (zdb (zc 1)) (zcu (i:=4) zh7.nd rfl (Or.inl rfl))
     (zq (zeu (zff (zy hr (zc 3) (zy hr (zy hr (zc 2) (zc 4) (fun _ _=>rfl)) zh (fun _ _=>rfl)) (fun _ _=>rfl)) (zck (zd (zc 4) (zd (zfn (by rfl) T.v_FORTH.m T.v_FORTH.r) zl zg) zg)) ziW))
     (zu (zeu (zff (zy hr (zc 3) (zy hr (zy hr (zc 2) (zc 4) (fun _ _=>rfl)) zh (fun _ _=>rfl)) (fun _ _=>rfl)) (zck (zd (zc 4) (zd (zfn (by rfl) T.v_BACK.m T.v_BACK.r) zl zg) zg)) ziW)))))
     (zu (zJ (zc 3))))))
set_option maxHeartbeats 4000000 in
theorem zuX (T:TX K mg):zK P w K mg base CX0 3 T.zdV.a T.zdV.d ["ties", "onward", "start", "arrived"] (spM T.G 4 zfZ) :=
 zbh (k:=2) T.zdV.F zgd rfl rfl (by decide) fun cdv A outer s H E hr =>
     (zq (zti hr (zc 3) (zc 2) zfE)
     (zq (zQ (i:=4) zgd.nd rfl (Or.inl rfl) (zbO (zc9 (zd (zc 2) zl zg))))
     (zq (zQ (i:=5) zgd.nd rfl (Or.inl rfl) zh)
     (zu (ztH PassesOwn.never (zbs (zgz hr) (zc 5) (zdy (by rfl) T.n_len (zc 4) zg) (zY _)) (zq (zQ (i:=6) zgd.nd rfl (Or.inl rfl) (zy hr (zc 4) (zc 5) (fun _ _=>rfl)))
     (zq (zfP PassesOwn.never (zdb (zy hr (zc 1) (zc 6) (fun _ _=>rfl))) (zcu (i:=7) zgd.nd rfl (Or.inl rfl))
     (zq (zQ (i:=8) zgd.nd rfl (Or.inl rfl) (zy hr (zH (zjj T) (hr.mono (by decide)) (by rfl) T.zc6 T.zcZ.F.kp T.zcZ.b (zd (zc 0) (zd (zc 7) zl zg) zg)) zh (fun _ _=>rfl)))
     (zu (zbk (zbs (zhS hr) (zc 8) (zc 3) (by with_unfolding_all rfl)) (zq (zti hr (zc 3) (zc 8) (zc 7))
     (zu (zeu (zff (zc 4) (zc 8) zg)))) zbo))))
     (zu (zDJ (i:=5) zgd.nd rfl (Or.inl rfl) zh)))))))))
set_option maxHeartbeats 4000000 in
theorem zuY (T:TX K mg):zK P w K mg base CX0 4 T.zdW.a T.zdW.d ["web", "chosen", "start"] (spM T.G 3 zf0) :=
 zbh (k:=3) T.zdW.F zqg rfl rfl (by decide) fun cdv A outer s H E hr =>
     (zq (zQ (i:=3) zqg.nd rfl (Or.inl rfl) zDa)
     (zq (zeu (zH (zuX T) (hr.mono (by decide)) (by rfl) T.zfZ T.zdV.F.kp T.zdV.b (zd (zeo (c0:=0) (zfg T.g_Web T.zS.cl T.zeL (ze8 T) (hr.mono (by decide)) T.zcn.b (zc 0) zep (zde zfk))) (zd (zH (zuW T) (hr.mono (by decide)) (by rfl) T.zfY T.zdU.F.kp T.zdU.b (zd (zc 0) (zd (zc 1) zl zg) zg)) (zd (zc 2) (zd (zc 3) zl zg) zg) zbN) zbN)))
     (zu (zJ (zc 3)))))
set_option maxHeartbeats 4000000 in
theorem zuZ (T:TX K mg):zK P w K mg base CX0 3 T.zdX.a T.zdX.d ["web", "arrived", "goal"] (spM T.G 3 zf1) :=
 zbh (k:=2) T.zdX.F zhz rfl rfl (by decide) fun cdv A outer s H E hr =>
     (zq (zQ (i:=3) zhz.nd rfl (Or.inl rfl) (zeo (c0:=0) (zfg T.g_Web T.zS.cl T.zeL (ze8 T) (hr.mono (by decide)) T.zcn.b (zc 0) zep (zde zfk))))
     (zq (zQ (i:=4) zhz.nd rfl (Or.inl rfl) (zbO (zc9 zl)))
     (zq (zQ (i:=5) zhz.nd rfl (Or.inl rfl) (zc 2))
     (zq (ztH PassesOwn.never (zbs (zik hr) (zy hr (zc 1) (zc 5) (fun _ _=>rfl)) zfE (zY _)) (zq (zeu (zff (zc 4) (zy hr (zc 1) (zc 5) (fun _ _=>rfl)) zbY))
     (zu (zQ (i:=5) zhz.nd rfl (Or.inl rfl) (zy hr (zH (zjj T) (hr.mono (by decide)) (by rfl) T.zc6 T.zcZ.F.kp T.zcZ.b (zd (zc 3) (zd (zy hr (zc 1) (zc 5) (fun _ _=>rfl)) zl zbY) zg)) zh (fun _ _=>rfl))))))
     (zq (zeu (zEP (zc 4)))
     (zu (zJ (zc 4))))))))
set_option maxHeartbeats 4000000 in
theorem zu0 (T:TX K mg):zK P w K mg base CX0 3 T.zdY.a T.zdY.d ["values", "count"] (spM T.G 2 zf2) :=
 zbh (k:=2) T.zdY.F zux rfl rfl (by decide) fun cdv A outer s H E hr =>
     (zq (zbk (t_w (zcM (zbX (zbr (zdH (by rfl) T.n_isinstance (by rfl) T.n_list (zc 0) zg) (fun _=>rfl))) (zdz (zbX (zbr (ziR (by rfl) T.n_all (ze1 (zeC (N:=["value", "count"]) (js:=[none,some 1]) rfl (zb0.of (osc:=zr zeJ) (N0:=["values", "count"]) rfl rfl (by decide +kernel)) (zdb (zc 0)) (fun _ _ _ _=>(zcu (i:=0) (show (["value", "count"]:List Str).Nodup by decide +kernel) rfl (Or.inl rfl))) (fun _ _ _ _=>zej) (fun _ _ _ _=>(zH (zg5 T) (hr.mono (by decide)) (by rfl) T.zcJ T.zca.F.kp T.zca.b (zd (zc 0) (zd zh (zd (zeY (zc 1) zh) zl zda) zC) zg))))) zgw) (fun _=>rfl)))))) (zu (zJ zcB)) zbo)
     (zu (zJ (ziR (by rfl) T.n_all (ze1 (zeC (N:=["one", "other"]) (js:=[none,none]) rfl (zb0.of (osc:=zr zeJ) (N0:=["values", "count"]) rfl rfl (by decide +kernel)) (zDW (by rfl) T.n_zip (zc 0) (zbO (zpW (zc 0) (ziy zh) ziU)) zg zbY) (fun _ _ _ _=>(zhA rfl (zem (i:=0) (show (["one", "other"]:List Str).Nodup by decide +kernel) rfl (Or.inl rfl) (zem (i:=1) (show (["one", "other"]:List Str).Nodup by decide +kernel) rfl (Or.inl rfl) zhR)))) (fun _ _ _ _=>zej) (fun _ _ _ _=>(zci (zgz hr) (zc 0) (zc 1) (zY _))))) zgw))))
set_option maxHeartbeats 4000000 in
theorem zu1 (T:TX K mg):zK P w K mg base CX0 1 T.zdZ.a T.zdZ.d ["points", "ties", "one", "other"] (spM T.G 4 zf3) :=
 zbh (k:=0) T.zdZ.F zqh rfl rfl (by decide) fun cdv A outer s H E hr =>
     (zq (zQ (i:=4) zqh.nd rfl (Or.inr rfl) (zCf (by rfl) T.n_dict (ze1 (zeC (N:=["point"]) (js:=[none]) rfl (zb0.of (osc:=zr zeK) (N0:=["points", "ties", "one", "other", "among"]) rfl rfl (by decide +kernel)) (zdb (zc 0)) (fun _ _ _ _=>(zcu (i:=0) (show (["point"]:List Str).Nodup by decide +kernel) rfl (Or.inl rfl))) (fun _ _ _ _=>zej) (fun _ _ _ _=>(zck (zd (zc 0) (zd zcB zl zC) zg))))) zgw))
     (zq (zbk (t_w (zcM (zbs (zhS hr) (zc 2) (zc 4) (by with_unfolding_all rfl)) (zdz (zbs (zfC hr) (zc 3) (zc 4) (by with_unfolding_all rfl))))) (zu (zJ zcB)) zbo)
     (zu (zJ (ziR (by rfl) T.n_all (ze1 (zeC (N:=["tie", "among"]) (js:=[none,some 4]) rfl (zb0.of (osc:=zr zeK) (N0:=["points", "ties", "one", "other", "among"]) rfl rfl (by decide +kernel)) (zdb (zc 1)) (fun _ _ _ _=>(zcu (i:=0) (show (["tie", "among"]:List Str).Nodup by decide +kernel) rfl (Or.inl rfl))) (fun _ _ _ _=>zej) (fun _ _ _ _=>(zci (zdF hr) (zci (zfC hr) (zy hr (zc 0) zh (fun _ _=>rfl)) (zc 1) (by with_unfolding_all rfl)) (zci (zfC hr) (zy hr (zc 0) zh (fun _ _=>rfl)) (zc 1) (by with_unfolding_all rfl)) (zY _))))) zgw)))))
set_option maxHeartbeats 4000000 in
theorem zu2 (T:TX K mg):zK P w K mg base CX0 1 T.zd0.a T.zd0.d ["self", "steps"] (spM T.G 2 zh5) :=
 zbh (k:=0) T.zd0.F zuy rfl rfl (by decide) fun cdv A outer s H E hr =>
     (zu (zhY T.ok T.an_steps (zc 0) (zbO (zp1 (by rfl) T.n_list (zgH (zc 1)) zg)) rfl))
set_option maxHeartbeats 4000000 in
theorem zjk (T:TX K mg):zK P w K mg base CX0 9 T.zdh.a T.zdh.d ["self", "web", "tie"] (spM T.G 3 zhw) :=
 zbh (k:=8) T.zdh.F zqi rfl rfl (by decide) fun cdv A outer s H E hr =>
     (zq (zQ (i:=3) zqi.nd rfl (Or.inl rfl) (zeo (c0:=0) (zfg T.g_Web T.zS.cl T.zeL (ze8 T) (hr.mono (by decide)) T.zcn.b (zc 1) zep (zde zfk))))
     (zq (zbk (t_w (zcM (zbX (zbr (zH (zic T) (hr.mono (by decide)) (by rfl) T.zdA T.zcL.F.kp T.zcL.b (zd (zc 3) (zd (zc 2) zl zg) zg)) (fun _=>rfl))) (zdz (zbX (zbr (zH (zuU T) (hr.mono (by decide)) (by rfl) T.zfW T.zdS.F.kp T.zdS.b (zd (zc 1) (zd (zy hr (zy hr (zc 3) (zc 2) (fun _ _=>rfl)) zh (fun _ _=>rfl)) (zd (zy hr (zy hr (zc 3) (zc 2) (fun _ _=>rfl)) zh (fun _ _=>rfl)) (zd (zc2 T.ok T.an_steps (zc 0) rfl) zl zeW) zbY) zbY) zg)) (fun _=>rfl)))))) (zu (zJ zcB)) zbo)
     (zu (zJ (ziR (by rfl) T.n_all (ze1 (zeC (N:=["step", "tie"]) (js:=[none,some 2]) rfl (zb0.of (osc:=zr ze6) (N0:=["self", "web", "tie", "ties"]) rfl rfl (by decide +kernel)) (zdb (zc2 T.ok T.an_steps (zc 0) rfl)) (fun _ _ _ _=>(zcu (i:=0) (show (["step", "tie"]:List Str).Nodup by decide +kernel) rfl (Or.inl rfl))) (fun _ _ _ _=>zej) (fun _ _ _ _=>(zci (zdJ hr) (zy hr (zc 0) zh (fun _ _=>rfl)) (zc 1) (zY _))))) zgw)))))
set_option maxHeartbeats 4000000 in
theorem zu3 (T:TX K mg):zK P w K mg base CX0 1 T.zd1.a T.zd1.d ["self", "points"] (spM T.G 2 zh6) :=
 zbh (k:=0) T.zd1.F zuz rfl rfl (by decide) fun cdv A outer s H E hr =>
     (zu (zhY T.ok T.an_points (zc 0) (zbO (zp1 (by rfl) T.n_list (zgH (zc 1)) zg)) rfl))
set_option maxHeartbeats 4000000 in
theorem zjl (T:TX K mg):zK P w K mg base CX0 4 T.zdi.a T.zdi.d ["self", "web", "tie"] (spM T.G 3 zhx) :=
 zbh (k:=3) T.zdi.F zqj rfl rfl (by decide) fun cdv A outer s H E hr =>
     (zq (zQ (i:=3) zqj.nd rfl (Or.inl rfl) (zeo (c0:=0) (zfg T.g_Web T.zS.cl T.zeL (ze8 T) (hr.mono (by decide)) T.zcn.b (zc 1) zep (zde zfk))))
     (zq (zbk (t_w (zcM (zbX (zbr (zH (zic T) (hr.mono (by decide)) (by rfl) T.zdA T.zcL.F.kp T.zcL.b (zd (zc 3) (zd (zc 2) zl zg) zg)) (fun _=>rfl))) (zdz (zbX (zbr (zH (zu0 T) (hr.mono (by decide)) (by rfl) T.zf2 T.zdY.F.kp T.zdY.b (zd (zc2 T.ok T.an_points (zc 0) rfl) (zd (zc2 T.ok T.an_points (zc 1) rfl) zl zeW) zeW)) (fun _=>rfl)))))) (zu (zJ zcB)) zbo)
     (zu (zJ (zH (zu1 T) (hr.mono (by decide)) (by rfl) T.zf3 T.zdZ.F.kp T.zdZ.b (zd (zc2 T.ok T.an_points (zc 0) rfl) (zd (zbO (zpP (zbO (zpW (zc 3) ziU (ziy (zc 2)))) (ze1 (zpW (zc 3) (ziy (zcW (zc 2) zh)) ziU)))) (zd (zy hr (zy hr (zc 3) (zc 2) (fun _ _=>rfl)) zh (fun _ _=>rfl)) (zd (zy hr (zy hr (zc 3) (zc 2) (fun _ _=>rfl)) zh (fun _ _=>rfl)) zl zbY) zbY) zda) zeW))))))
set_option maxHeartbeats 4000000 in
theorem zu4 (T:TX K mg):zK P w K mg base CX0 5 T.zd2.a T.zd2.d ["web", "tie"] (spM T.G 2 zcX) :=
 zbh (k:=4) T.zd2.F zh8 rfl rfl (by decide) fun cdv A outer s H E hr =>
     (zq (zQ (i:=2) zh8.nd rfl (Or.inl rfl) (zeo (c0:=0) (zfg T.g_Web T.zS.cl T.zeL (ze8 T) (hr.mono (by decide)) T.zcn.b (zc 0) zep (zde zfk))))
     (zq (zbk (zbX (zbr (zH (zic T) (hr.mono (by decide)) (by rfl) T.zdA T.zcL.F.kp T.zcL.b (zd (zc 2) (zd (zc 1) zl zg) zg)) (fun _=>rfl))) (zu zh2) zbo)
     (zq (zrE (j:=3) (N:=["place", "tie"]) (js:=[none,some 1]) rfl zh8.nd rfl rfl (zb0.of (osc:=zr ze7) (N0:=["web", "tie", "ties", "others", "arrived"]) rfl rfl (by decide +kernel)) (zdb (zH (zuV T) (hr.mono (by decide)) (by rfl) T.zfX T.zdT.F.kp T.zdT.b (zd (zc 0) zl zg))) (fun _ _ _ _=>(zcu (i:=0) (show (["place", "tie"]:List Str).Nodup by decide +kernel) rfl (Or.inl rfl))) (fun _ _ _ _=>(zDq (zbs (zdJ hr) (zc 0) (zc 1) (zY _)))) (fun _ _ _ _=>(zc 0)))
     (zq (zQ (i:=4) zh8.nd rfl (Or.inl rfl) (zH (zuY T) (hr.mono (by decide)) (by rfl) T.zf0 T.zdW.F.kp T.zdW.b (zd (zc 0) (zd (zc 3) (zd (zy hr (zy hr (zc 2) (zc 1) (fun _ _=>rfl)) zh (fun _ _=>rfl)) zl zbY) zg) zg)))
     (zq (zbk (zbs (zfC hr) (zy hr (zy hr (zc 2) (zc 1) (fun _ _=>rfl)) zh (fun _ _=>rfl)) (zc 4) (by with_unfolding_all rfl)) (zu (zJ (zpi T.g_Around T.zqo (zu2 T) (hr.mono (by decide)) (by rfl) T.zbd.m T.zd0.b (zd (zH (zuZ T) (hr.mono (by decide)) (by rfl) T.zf1 T.zdX.F.kp T.zdX.b (zd (zc 0) (zd (zc 4) (zd (zy hr (zy hr (zc 2) (zc 1) (fun _ _=>rfl)) zh (fun _ _=>rfl)) zl zbY) zg) zg)) zl zbN)))) zbo)
     (zu (zJ (zpi T.g_Held T.zqp (zu3 T) (hr.mono (by decide)) (by rfl) T.zbe.m T.zd1.b (zd (zbO (zAX (by rfl) T.n_sorted (zc 4))) zl zbN)))))))))
set_option maxHeartbeats 4000000 in
theorem zgj (T:TX K mg):zK P w K mg base CX0 1 T.zbZ.a T.zbZ.d ["_law_script", "_law_k"] (spM T.G 2 zb9) :=
 zbh (k:=0) T.zbZ.F zuA rfl rfl (by decide) fun cdv A outer s H E hr =>
     (zq (zbk (zbs (zgz hr) (zc 1) (zdy (by rfl) T.n_len (zc 0) zg) (zY _)) (zu (zJ (zy hr (zc 0) (zc 1) (fun _ _=>rfl)))) zbo)
     (zu (zJ zh)))
set_option maxHeartbeats 4000000 in
theorem zdl (T:TX K mg):zK P w K mg base CX0 1 T.zba.a T.zba.d ["_law_cell", "_law_k", "_law_many"] (spM T.G 3 zD) :=
 zbh (k:=0) T.zba.F zqk rfl rfl (by decide) fun cdv A outer s H E hr =>
     (zq (zQ (i:=3) zqk.nd rfl (Or.inl rfl) (zck (zd zh (zd zh (zd zh (zd zh (zd zh (zd zh (zd zh (zd zh (zd zh (zd zh (zd zh (zd zh (zd zh (zd zh (zd zh (zd zh zl zC) zC) zC) zC) zC) zC) zC) zC) zC) zC) zC) zC) zC) zC) zC) zC)))
     (zu (zJ (ze2 (ze2 (zcW (zht (zc 0) zh) (zht (zc 1) zh)) (zy hr (zc 3) (ze2 (zc 1) zh) (fun _ _=>rfl))) (zc 2)))))
set_option maxHeartbeats 4000000 in
theorem zu5 (T:TX K mg):zK P w K mg base CX0 2 T.zd3.a T.zd3.d ["_law_script"] (spM T.G 1 zfr) :=
 zbh (k:=1) T.zd3.F zcK rfl rfl (by decide) fun cdv A outer s H E hr =>
     (zq (zQ (i:=1) zcK.nd rfl (Or.inl rfl) (zi0 (zht (zdy (by rfl) T.n_len (zc 0) zg) (zy hr (zck (zd zh (zd zh (zd zh zl zC) zC) zC)) (zH (zdl T) (hr.mono (by decide)) (by rfl) T.zD T.zba.F.kp T.zba.b (zd (zH (zgj T) (hr.mono (by decide)) (by rfl) T.zb9 T.zbZ.F.kp T.zbZ.b (zd (zc 0) (zd zh zl zC) zg)) (zd zh (zd zh zl zC) zC) zbN)) (fun _ _=>rfl))) zh))
     (zq (zQ (i:=2) zcK.nd rfl (Or.inl rfl) (zcW zh (zH (zdl T) (hr.mono (by decide)) (by rfl) T.zD T.zba.F.kp T.zba.b (zd (zH (zgj T) (hr.mono (by decide)) (by rfl) T.zb9 T.zbZ.F.kp T.zbZ.b (zd (zc 0) (zd zh zl zC) zg)) (zd zh (zd (zcW zh (zc 1)) zl zda) zC) zbN))))
     (zq (zQ (i:=3) zcK.nd rfl (Or.inl rfl) (zy hr (zck (zd zh (zd zh (zd zh (zd zh (zd zh (zd zh (zd zh zl zC) zC) zC) zC) zC) zC) zC)) (zH (zdl T) (hr.mono (by decide)) (by rfl) T.zD T.zba.F.kp T.zba.b (zd (zH (zgj T) (hr.mono (by decide)) (by rfl) T.zb9 T.zbZ.F.kp T.zbZ.b (zd (zc 0) (zd zh zl zC) zg)) (zd zh (zd zh zl zC) zC) zbN)) (fun _ _=>rfl)))
     (zq (zQ (i:=4) zcK.nd rfl (Or.inl rfl) (zy hr (zck (zd zh (zd zh (zd zh (zd zh zl zC) zC) zC) zC)) (zH (zdl T) (hr.mono (by decide)) (by rfl) T.zD T.zba.F.kp T.zba.b (zd (zH (zgj T) (hr.mono (by decide)) (by rfl) T.zb9 T.zbZ.F.kp T.zbZ.b (zd (zc 0) (zd zh zl zC) zg)) (zd zh (zd zh zl zC) zC) zbN)) (fun _ _=>rfl)))
     (zq (zQ (i:=5) zcK.nd rfl (Or.inl rfl) (zy hr (zck (zd zh (zd zh (zd zh (zd zh zl zC) zC) zC) zC)) (zH (zdl T) (hr.mono (by decide)) (by rfl) T.zD T.zba.F.kp T.zba.b (zd (zH (zgj T) (hr.mono (by decide)) (by rfl) T.zb9 T.zbZ.F.kp T.zbZ.b (zd (zc 0) (zd zh zl zC) zg)) (zd zh (zd zh zl zC) zC) zbN)) (fun _ _=>rfl)))
     (zq (zQ (i:=6) zcK.nd rfl (Or.inl rfl) (zdD (zci (zh1 hr) (zc 2) zh (zY _)) (zeF (zci (zdF hr) (zH (zdl T) (hr.mono (by decide)) (by rfl) T.zD T.zba.F.kp T.zba.b (zd (zH (zgj T) (hr.mono (by decide)) (by rfl) T.zb9 T.zbZ.F.kp T.zbZ.b (zd (zc 0) (zd zh zl zC) zg)) (zd zh (zd zh zl zC) zC) zbN)) zh (zY _)))))
     (zq (zQ (i:=7) zcK.nd rfl (Or.inl rfl) (zbO (zc9 zl)))
     (zq (zfP PassesOwn.never (zit (by rfl) T.n_range (zdy (by rfl) T.n_len (zc 0) zg) zbN) (zcu (i:=8) zcK.nd rfl (Or.inl rfl))
     (zq (zQ (i:=9) zcK.nd rfl (Or.inl rfl) (zH (zdl T) (hr.mono (by decide)) (by rfl) T.zD T.zba.F.kp T.zba.b (zd (zy hr (zc 0) (zc 8) (fun _ _=>rfl)) (zd (zcW (ze2 (zc 8) zh) zh) (zd (zc 2) zl zg) zda) zbY)))
     (zq (zQ (i:=10) zcK.nd rfl (Or.inl rfl) (ze2 (zcW (zcW (zc 9) zh) (zH (zdl T) (hr.mono (by decide)) (by rfl) T.zD T.zba.F.kp T.zba.b (zd (zy hr (zc 0) (zc 8) (fun _ _=>rfl)) (zd (zcW (ze2 (zc 8) zh) zh) (zd (zeY (zc 2) zh) zl zda) zda) zbY))) (zc 2)))
     (zq (zbk (zbr (zc 6) (fun _=>rfl)) (zq (zQ (i:=11) zcK.nd rfl (Or.inl rfl) (zhd (zbs (zgz hr) (zc 9) (zi0 (zc 2) zh) (zY _)) zh (zi0 (zc 2) zh)))
     (zq (zQ (i:=12) zcK.nd rfl (Or.inl rfl) (zhd (zbs (zdF hr) (zc 11) zh (zY _)) (zi0 (zc 2) zh) (zeY (zc 2) (zc 11))))
     (zq (zQ (i:=13) zcK.nd rfl (Or.inl rfl) (zcW zh (zH (zdl T) (hr.mono (by decide)) (by rfl) T.zD T.zba.F.kp T.zba.b (zd (zy hr (zc 0) (zc 8) (fun _ _=>rfl)) (zd (zcW (ze2 (zc 8) zh) zh) (zd (zeY (zc 12) zh) zl zda) zda) zbY))))
     (zu (zQ (i:=10) zcK.nd rfl (Or.inl rfl) (zcW (zc 11) (ze2 (zcW (zeY (zc 9) (zc 11)) (zc 13)) (zc 12)))))))) zbo)
     (zq (zQ (i:=14) zcK.nd rfl (Or.inl rfl) (zeY (zH (zdl T) (hr.mono (by decide)) (by rfl) T.zD T.zba.F.kp T.zba.b (zd (zht (zc 10) zh) (zd zh (zd (zc 4) zl zg) zC) zda)) (zH (zdl T) (hr.mono (by decide)) (by rfl) T.zD T.zba.F.kp T.zba.b (zd (zht (zc 9) zh) (zd zh (zd (zc 4) zl zg) zC) zda))))
     (zq (zbk (t_w (zi6 (zbs (zh1 hr) (zc 5) zh (zY _)) (zpq (zbs (zdF hr) (zH (zdl T) (hr.mono (by decide)) (by rfl) T.zD T.zba.F.kp T.zba.b (zd (zy hr (zc 0) (zc 8) (fun _ _=>rfl)) (zd (zcW (ze2 (zc 8) zh) zh) (zd (zc 5) zl zg) zda) zbY)) zh (zY _))))) (zu (zQ (i:=14) zcK.nd rfl (Or.inl rfl) (zcW (zc 14) zh))) zbo)
     (zq (zbk (t_w (zi6 (zbs (zh1 hr) (zc 3) zh (zY _)) (zi6 (zbs (zdF hr) (zH (zdl T) (hr.mono (by decide)) (by rfl) T.zD T.zba.F.kp T.zba.b (zd (zy hr (zc 0) (zc 8) (fun _ _=>rfl)) (zd zh (zd zh zl zC) zC) zbY)) zh (zY _)) (zpq (zbs (zgz hr) (zcW (zzX (by rfl) T.n_abs (zc 14) zg) (zc 3)) zh (zY _)))))) (zu (zQ (i:=14) zcK.nd rfl (Or.inl rfl) (zeY (zc 14) (zc 3)))) zbo)
     (zu (zeu (zff (zc 7) (zck (zd (zc 9) (zd (zc 10) (zd (zc 14) zl zg) zg) zg)) ziW))))))))))
     (zu (zJ (zck (zd (zc 2) (zd (zc 7) (zd (zc 3) zl zg) zg) zg))))))))))))
set_option maxHeartbeats 4000000 in
theorem zu6 (T:TX K mg):zK P w K mg base CX0 1 T.zd4.a T.zd4.d ["_law_ties", "_law_start", "_law_steps"] (spM T.G 3 zf4) :=
 zbh (k:=0) T.zd4.F zge rfl rfl (by decide) fun cdv A outer s H E hr =>
     (zq (zBF (i:=3) (j:=4) zge.nd rfl rfl (zd (zbO (zc9 (zd (zc 1) zl zg))) (zd zh zl zC) zi2))
     (zq (zfP PassesOwn.never (zdb (zc 2)) (zcu (i:=5) zge.nd rfl (Or.inl rfl))
     (zq (zbk (t_w (zcM (zbX (zbr (zdH (by rfl) T.n_isinstance (by rfl) T.n_tuple (zc 5) zg) (fun _=>rfl))) (zdz (zbs (zdJ hr) (zdy (by rfl) T.n_len (zc 5) zg) zh (zY _))))) (zu (zJ (zck (zd (zbO (zc9 zl)) (zd zh zl zC) zi2)))) zbo)
     (zq (zi4 (zc 5) (zhA rfl (zem (i:=6) zge.nd rfl (Or.inl rfl) (zem (i:=7) zge.nd rfl (Or.inl rfl) zhR))))
     (zq (zbk (t_w (zcM (zbr (zdH (by rfl) T.n_isinstance (by rfl) T.n_bool (zc 6) zg) (fun _=>rfl)) (zcM (zbX (zbr (zdH (by rfl) T.n_isinstance (by rfl) T.n_int (zc 6) zg) (fun _=>rfl))) (zcM (zbX (zFE (zis hr) (zgz hr) zh (zc 6) (zdy (by rfl) T.n_len (zc 0) zg))) (zdz (zbs (zhS hr) (zc 7) (zck (zd zh (zd (zfj zh) zl zi5) zC)) (by with_unfolding_all rfl))))))) (zu (zJ (zck (zd (zbO (zc9 zl)) (zd zh zl zC) zi2)))) zbo)
     (zq (zQ (i:=8) zge.nd rfl (Or.inl rfl) (zhd (zbs (zdF hr) (zc 7) zh (zY _)) (zCy (zy hr (zc 0) (zc 6) (fun _ _=>rfl)) ziU (ziy zh)) (zEl (zy hr (zc 0) (zc 6) (fun _ _=>rfl)))))
     (zq (zbk (zbs (zdJ hr) (zy hr (zc 3) (zfj zh) (fun _ _=>rfl)) (zy hr (zc 8) zh (fun _ _=>rfl)) (zY _)) (zu (zJ (zck (zd (zbO (zc9 zl)) (zd zh zl zC) zi2)))) zbo)
     (zq (zeu (zff (zc 3) (zy hr (zc 8) zh (fun _ _=>rfl)) zbY))
     (zu (zQ (i:=4) zge.nd rfl (Or.inl rfl) (zcW (zc 4) (zht (zc 7) (zy hr (zy hr (zc 0) (zc 6) (fun _ _=>rfl)) zh (fun _ _=>rfl)))))))))))))
     (zu (zJ (zck (zd (zc 3) (zd (zc 4) zl zg) zg))))))
set_option maxHeartbeats 4000000 in
theorem zu7 (T:TX K mg):zK P w K mg base CX0 1 T.zd5.a T.zd5.d ["_law_found"] (spM T.G 1 zdB) :=
 zbh (k:=0) T.zd5.F zuB rfl rfl (by decide) fun cdv A outer s H E hr =>
     (zq (zbk (zbX (zbr (zdH (by rfl) T.n_isinstance (by rfl) T.n_list (zc 0) zg) (fun _=>rfl))) (zu (zJ zcB)) zbo)
     (zu (zJ (zix (zp0 (by rfl) T.n_any (ze1 (zeC (N:=["_law_one"]) (js:=[none]) rfl (zb0.of (osc:=zr zgf) (N0:=["_law_found"]) rfl rfl (by decide +kernel)) (zdb (zc 0)) (fun _ _ _ _=>(zcu (i:=0) (show (["_law_one"]:List Str).Nodup by decide +kernel) rfl (Or.inl rfl))) (fun _ _ _ _=>zej) (fun _ _ _ _=>(zEa (zdH (by rfl) T.n_isinstance (by rfl) T.n_bool (zc 0) zg) (zeF (zix (zdH (by rfl) T.n_isinstance (by rfl) T.n_int (zc 0) zg))))))) zgw)))))
set_option maxHeartbeats 4000000 in
theorem zu8 (T:TX K mg):zK P w K mg base CX0 2 T.zd6.a T.zd6.d ["_law_ties", "_law_start", "_law_steps", "_law_end"] (spM T.G 4 zf5) :=
 zbh (k:=1) T.zd6.F zql rfl rfl (by decide) fun cdv A outer s H E hr =>
     (zq (zQ (i:=4) zql.nd rfl (Or.inl rfl) (zy hr (zH (zu6 T) (hr.mono (by decide)) (by rfl) T.zf4 T.zd4.F.kp T.zd4.b (zd (zc 0) (zd (zc 1) (zd (zc 2) zl zg) zg) zg)) zh (fun _ _=>rfl)))
     (zu (zJ (zdD (zci (zdJ hr) (zc 4) (zbO (zc9 zl)) (zY _)) (zdD (zci (zdF hr) (zy hr (zc 4) (zfj zh) (fun _ _=>rfl)) (zc 3) (zY _)) (zeF (zci (zdF hr) (ztv (by rfl) T.n_len (by rfl) T.n_set (zgH (zc 4)) zg) (zdy (by rfl) T.n_len (zc 4) zg) (zY _))))))))
set_option maxHeartbeats 4000000 in
theorem zu9 (T:TX K mg):zK P w K mg base CX0 1 T.zd7.a T.zd7.d ["_law_points", "_law_ties", "_law_some", "_law_skipped"] (spM T.G 4 zf6) :=
 zbh (k:=0) T.zd7.F zqm rfl rfl (by decide) fun cdv A outer s H E hr =>
     (zq (zbk (t_w (zcM (zbs (zdJ hr) (zc 2) (zbO (zBm hr (by rfl) T.n_sorted (by rfl) T.n_set (zgH (zc 2)) zg)) (zY _)) (zdz (zbr (zp0 (by rfl) T.n_any (ze1 (zeC (N:=["_law_point", "_law_points"]) (js:=[none,some 0]) rfl (zb0.of (osc:=zr zgg) (N0:=["_law_points", "_law_ties", "_law_some", "_law_skipped", "_law_at"]) rfl rfl (by decide +kernel)) (zdb (zc 2)) (fun _ _ _ _=>(zcu (i:=0) (show (["_law_point", "_law_points"]:List Str).Nodup by decide +kernel) rfl (Or.inl rfl))) (fun _ _ _ _=>zej) (fun _ _ _ _=>(zix (zsc (zis hr) (zgz hr) zh (zc 0) (zc 1)))))) zgw) (fun _=>rfl))))) (zu (zJ zcB)) zbo)
     (zq (zfP PassesOwn.never (zit (by rfl) T.n_range (zdy (by rfl) T.n_len (zc 1) zg) zbN) (zcu (i:=4) zqm.nd rfl (Or.inl rfl))
     (zu (zbk (t_w (zi6 (zbs (zdJ hr) (zc 4) (zc 3) (zY _)) (zpq (zbs (zdJ hr) (zci (zfC hr) (zy hr (zy hr (zc 1) (zc 4) (fun _ _=>rfl)) zh (fun _ _=>rfl)) (zc 2) (by with_unfolding_all rfl)) (zci (zfC hr) (zy hr (zy hr (zc 1) (zc 4) (fun _ _=>rfl)) zh (fun _ _=>rfl)) (zc 2) (by with_unfolding_all rfl)) (zY _))))) (zu (zJ zcB)) zbo)))
     (zu (zJ zcB))))
set_option maxHeartbeats 4000000 in
theorem zqs (T:TX K mg):zK P w K mg base CX0 3 T.zdj.a T.zdj.d ["_law_points", "_law_ties", "_law_tie", "_law_found"] (spM T.G 4 zbP) :=
 zbh (k:=2) T.zdj.F zh9 rfl rfl (by decide) fun cdv A outer s H E hr =>
     (zq (zi4 (zy hr (zc 1) (zc 2) (fun _ _=>rfl)) (zhA rfl (zem (i:=4) zh9.nd rfl (Or.inl rfl) (zem (i:=5) zh9.nd rfl (Or.inl rfl) (zem (i:=6) zh9.nd rfl (Or.inl rfl) zhR)))))
     (zq (zbk (zbr (zek T.ok T.g_Around (by rfl) T.n_isinstance (by rfl) T.zbd.m (zc 3) zg) (fun _=>rfl)) (zu (zJ (zdD (zH (zu8 T) (hr.mono (by decide)) (by rfl) T.zf5 T.zd6.F.kp T.zd6.b (zd (zc 1) (zd (zc 4) (zd (zc2 T.ok T.an_steps (zc 3) rfl) (zd (zc 5) zl zg) zeW) zg) zg)) (zeF (zci (zhS hr) (zc 2) (zbO (zeC (N:=["_law_step"]) (js:=[none]) rfl (zb0.of (osc:=zr zgh) (N0:=["_law_points", "_law_ties", "_law_tie", "_law_found", "_law_one", "_law_other", "_law_number"]) rfl rfl (by decide +kernel)) (zdb (zc2 T.ok T.an_steps (zc 3) rfl)) (fun _ _ _ _=>(zcu (i:=0) (show (["_law_step"]:List Str).Nodup by decide +kernel) rfl (Or.inl rfl))) (fun _ _ _ _=>zej) (fun _ _ _ _=>(zy hr (zc 0) zh (fun _ _=>rfl))))) (by with_unfolding_all rfl)))))) zbo)
     (zu (zJ (zdD (zci (zfC hr) (zc 4) (zc2 T.ok T.an_points (zc 3) rfl) (by with_unfolding_all rfl)) (zdD (zci (zhS hr) (zc 5) (zc2 T.ok T.an_points (zc 3) rfl) (by with_unfolding_all rfl)) (zeF (zH (zu9 T) (hr.mono (by decide)) (by rfl) T.zf6 T.zd7.F.kp T.zd7.b (zd (zc 0) (zd (zc 1) (zd (zc2 T.ok T.an_points (zc 3) rfl) (zd (zc 2) zl zg) zeW) zg) zg)))))))))
set_option maxHeartbeats 4000000 in
theorem zva (T:TX K mg):zK P w K mg base CX0 10 T.zdk.a T.zdk.d ["_law_script"] (spM T.G 1 zhy) :=
 zbh (k:=9) T.zdk.F zes rfl rfl (by decide) fun cdv A outer s H E hr =>
     (zq (zi4 (zH (zu5 T) (hr.mono (by decide)) (by rfl) T.zfr T.zd3.F.kp T.zd3.b (zd (zc 0) zl zg)) (zhA rfl (zem (i:=1) zes.nd rfl (Or.inl rfl) (zem (i:=2) zes.nd rfl (Or.inl rfl) (zem (i:=3) zes.nd rfl (Or.inl rfl) zhR)))))
     (zq (zi4 (zck (zd (zpi T.g_Web T.zqn (zuP T) (hr.mono (by decide)) (by rfl) T.zS.m T.zdN.b (zd (zc 1) (zd (zc 2) (zd (zc 3) zl zg) zg) zg)) (zd (zdy (by rfl) T.n_len (zc 2) zg) zl zbN) zbN)) (zhA rfl (zem (i:=4) zes.nd rfl (Or.inl rfl) (zem (i:=5) zes.nd rfl (Or.inr rfl) zhR))))
     (zq (zQ (i:=6) zes.nd rfl (Or.inl rfl) (zhd (zbs (zh1 hr) (zc 5) zh (zY _)) (zbO (zeC (N:=["_law_k", "_law_many", "_law_script"]) (js:=[none,some 5,some 0]) rfl (zb0.of (osc:=zr zgi) (N0:=["_law_script", "_law_points", "_law_ties", "_law_turn", "_law_web_here", "_law_many", "_law_some", "_law_tie", "_law_found", "_law_others", "_law_other"]) rfl rfl (by decide +kernel)) (zit (by rfl) T.n_range zh zC) (fun _ _ _ _=>(zcu (i:=0) (show (["_law_k", "_law_many", "_law_script"]:List Str).Nodup by decide +kernel) rfl (Or.inl rfl))) (fun _ _ _ _=>zej) (fun _ _ _ _=>(zH (zdl T) (hr.mono (by decide)) (by rfl) T.zD T.zba.F.kp T.zba.b (zd (zH (zgj T) (hr.mono (by decide)) (by rfl) T.zb9 T.zbZ.F.kp T.zbZ.b (zd (zc 2) (zd (zc 0) zl zg) zg)) (zd zh (zd (zc 1) zl zg) zC) zbN))))) (zbO (zc9 zl))))
     (zq (zfP PassesOwn.never (zdb (zhd (zbs (zh1 hr) (zc 5) zh (zY _)) (zbO (zpP (zc 6) (ze1 (zc9 (zd (zeY (zc 5) zh) (zd zh zl zC) zda))))) (zbO (zc9 zl)))) (zcu (i:=7) zes.nd rfl (Or.inl rfl))
     (zq (zQ (i:=8) zes.nd rfl (Or.inl rfl) (zH (zu4 T) (hr.mono (by decide)) (by rfl) T.zcX T.zd2.F.kp T.zd2.b (zd (zc 4) (zd (zc 7) zl zg) zg)))
     (zq (zbk (t_w (zcM (zbX (zbr (zek T.ok T.g_Answer (by rfl) T.n_isinstance (by rfl) T.zbJ.m (zc 8) zg) (fun _=>rfl))) (zdz (zbs (zdF hr) (zek T.ok T.g_Around (by rfl) T.n_isinstance (by rfl) T.zbd.m (zc 8) zg) (zek T.ok T.g_Held (by rfl) T.n_isinstance (by rfl) T.zbe.m (zc 8) zg) (zY _))))) (zu (zJ zcB)) zbo)
     (zq (zQ (i:=9) zes.nd rfl (Or.inl rfl) (zbO (zc9 (zd (zek T.ok T.g_Heights (by rfl) T.n_isinstance (by rfl) T.zbD.m (zc 8) zg) (zd (zek T.ok T.g_Ring (by rfl) T.n_isinstance (by rfl) T.zbE.m (zc 8) zg) (zd (zek T.ok T.g_Way (by rfl) T.n_isinstance (by rfl) T.zbG.m (zc 8) zg) (zd (zek T.ok T.g_Apart (by rfl) T.n_isinstance (by rfl) T.zbH.m (zc 8) zg) zl zbN) zbN) zbN) zbN))))
     (zq (zbk (t_w (zcM (zbr (zp0 (by rfl) T.n_any (zgH (zc 9)) zg) (fun _=>rfl)) (zcM (zbr (zek T.ok T.g_Camps (by rfl) T.n_isinstance (by rfl) T.zbF.m (zc 8) zg) (fun _=>rfl)) (zcM (zbr (zek T.ok T.g_Fewest (by rfl) T.n_isinstance (by rfl) T.zbw.m (zc 8) zg) (fun _=>rfl)) (zdz (zbr (zek T.ok T.g_Quarrel (by rfl) T.n_isinstance (by rfl) T.zbx.m (zc 8) zg) (fun _=>rfl))))))) (zu (zJ zcB)) zbo)
     (zq (zbk (t_w (zcM (zbX (zbr (zH (zqs T) (hr.mono (by decide)) (by rfl) T.zbP T.zdj.F.kp T.zdj.b (zd (zc 1) (zd (zc 2) (zd (zc 7) (zd (zc 8) zl zg) zg) zg) zg)) (fun _=>rfl))) (zdz (zbs (zik hr) (zeo (c0:=9) (zho T.g_Around T.zbd.cl T.zia (zjk T) (hr.mono (by decide)) T.zdh.b (zc 8) (zd (zc 4) (zd (zc 7) zl zg) zg) (zho T.g_Held T.zbe.cl T.zib (zjl T) (hr.mono (by decide)) T.zdi.b (zc 8) (zd (zc 4) (zd (zc 7) zl zg) zg) zep (zde zhu)) (zde zhu))) zcB (zY _))))) (zu (zJ zcB)) zbo)
     (zq (zfP PassesOwn.never (zDC (zck (zd zh (zd (ze2 (zcW (zc 7) zh) (zc 5)) zl zda) zC))) (zcu (i:=10) zes.nd rfl (Or.inl rfl))
     (zu (zbk (zbs (zdJ hr) (zeo (c0:=9) (zho T.g_Around T.zbd.cl T.zia (zjk T) (hr.mono (by decide)) T.zdh.b (zc 8) (zd (zc 4) (zd (zc 10) zl zg) zg) (zho T.g_Held T.zbe.cl T.zib (zjl T) (hr.mono (by decide)) T.zdi.b (zc 8) (zd (zc 4) (zd (zc 10) zl zg) zg) zep (zde zhu)) (zde zhu))) (zH (zqs T) (hr.mono (by decide)) (by rfl) T.zbP T.zdj.F.kp T.zdj.b (zd (zc 1) (zd (zc 2) (zd (zc 10) (zd (zc 8) zl zg) zg) zg) zg)) (zY _)) (zu (zJ zcB)) zbo)))
     (zq (zbk (zbr (zek T.ok T.g_Held (by rfl) T.n_isinstance (by rfl) T.zbe.m (zc 8) zg) (fun _=>rfl)) (zq (zbk (zbX (zbr (zH (zu7 T) (hr.mono (by decide)) (by rfl) T.zdB T.zd5.F.kp T.zd5.b (zd (zc2 T.ok T.an_points (zc 8) rfl) zl zeW)) (fun _=>rfl))) (zu (zJ zcB)) zbo)
     (zu (zeu (zff (zc2 T.ok T.an_points (zc 8) rfl) (zfj zh) zi5)))) (zu (zeu (zff (zc2 T.ok T.an_steps (zc 8) rfl) (zck (zd (zc 7) (zd zh zl zC) zg)) ziW))))
     (zu (zbk (zbs (zik hr) (zeo (c0:=9) (zho T.g_Around T.zbd.cl T.zia (zjk T) (hr.mono (by decide)) T.zdh.b (zc 8) (zd (zc 4) (zd (zc 7) zl zg) zg) (zho T.g_Held T.zbe.cl T.zib (zjl T) (hr.mono (by decide)) T.zdi.b (zc 8) (zd (zc 4) (zd (zc 7) zl zg) zg) zep (zde zhu)) (zde zhu))) zcB (zY _)) (zu (zJ zcB)) zbo))))))))))
     (zu (zJ (zci (zdF hr) (zeo (c0:=0) (zfg T.g_Web T.zS.cl T.zeL (ze8 T) (hr.mono (by decide)) T.zcn.b (zc 4) zep (zde zfk))) (zc 2) (zY _))))))))
end
end My
end
def PySem.W.Fast.tw8103059841160013188:=0
def PySem.W.Fast.tw17080045741894857903:=0
def PySem.W.Fast.tw5257080879292555454:=0
def PySem.W.Fast.tw14337614010424342620:=0
def PySem.W.Fast.tw16974506460017576960:=0
def PySem.W.Fast.tw4836171421571252848:=0
def PySem.W.Fast.tw17125207897565840374:=0
def PySem.W.Fast.tw12195312309732943445:=0
def PySem.W.Fast.tw17763964551026079043:=0
def PySem.W.Fast.tw2498150703803477939:=0
def PySem.W.Fast.tw9482800848496817465:=0
def PySem.W.Fast.tw2248901342749780184:=0
def PySem.W.Fast.tw4603000089072683217:=0
def PySem.W.Fast.tw8923798790266328199:=0
def PySem.W.Fast.tw3015002987627786525:=0
def PySem.W.Fast.tw2225590283088025204:=0
def PySem.W.Fast.tw4324746123032042691:=0
def PySem.W.Fast.tw15718547371782334754:=0
def PySem.W.Fast.tw1080485529325611894:=0
def PySem.W.Fast.tw3681886262579136364:=0
def PySem.W.Fast.tw17819885769405968782:=0
def PySem.W.Fast.tw1347704075034444395:=0
def PySem.W.Fast.tw7728355861889174102:=0
def PySem.W.Fast.tw13547092652546591435:=0
def PySem.W.Fast.tw1009952001180414747:=0
def PySem.W.Fast.tw11990515244081867267:=0
def PySem.W.Fast.tw4279525882706610197:=0
def PySem.W.Fast.tw2015455823639260676:=0
def PySem.W.Fast.tw16936328040445908877:=0
def PySem.W.Fast.tw16576875001856015947:=0
def PySem.W.Fast.tw12140621835550159935:=0
def PySem.W.Fast.tw10010749826804978901:=0
def PySem.W.Fast.tw10810887947596201790:=0
def PySem.W.Fast.tw13442057158707928834:=0
def PySem.W.Fast.tw16534113433316599808:=0
def PySem.W.Fast.tw6812399714494559878:=0
def PySem.W.Fast.tw913674908435298675:=0
def PySem.W.Fast.tw15370388426372697377:=0
def PySem.W.Fast.tw1339383317132259739:=0
def PySem.W.Fast.tw8500003518876685805:=0
def PySem.W.Fast.tw16031233219823201293:=0
def PySem.W.Fast.tw12071147201737235824:=0
def PySem.W.Fast.tw13342307170336293562:=0
def PySem.W.Fast.tw15732079660149109776:=0
def PySem.W.Fast.tw12746621686191092413:=0
def PySem.W.Fast.tw4537237085088956978:=0
def PySem.W.Fast.tw7661966338084819145:=0
def PySem.W.Fast.tw15217900427085712996:=0
def PySem.W.Fast.tw16653488631193327855:=0
def PySem.W.Fast.tw514198294506343810:=0
def PySem.W.Fast.tw10033689209989505391:=0
def PySem.W.Fast.tw6500927073189698283:=0
def PySem.W.Fast.tw7727868620041441984:=0
def PySem.W.Fast.tw13141417684011819480:=0
def PySem.W.Fast.tw15217431748846633495:=0
def PySem.W.Fast.tw14219292393792062460:=0
def PySem.W.Fast.tw9037116185072981120:=0
open PySem L2 MI
namespace My
theorem zD8 {P:Program}{w:World}{K:PySem.W.Frag}{mg:Str->Option Value}{base:Heap} (T:TX K mg):zK P w K mg base CX0 10 T.zdk.a T.zdk.d ["_law_script"] (zhn K):=(zva T).imp fun vs H Q E h=>zz9 (G:=T.G) Mx.law_true vs H Q E h
set_option maxHeartbeats 0 in
theorem all_mk {l:PySem.W.OpenLaw}{w:World}{K:PySem.W.Frag}{h:Heap}{mg:Str->Option Value}{fa:Addr} (X:K.In h) (G:h.Ns mainGlobals mg) (hfa:mg "law" = some (.ref fa))
   {zdf zca zcY zdL zdM zdN zcn zdO zcL zdP zcZ zdQ zdg zdR zdS zdT zdU zdV zdW zdX zdY zdZ zd0 zdh zd1 zdi zd2 zbZ zba zd3 zd4 zd5 zd6 zd7 zdj zdk zbf zbI zby zbz zbt zbA zbu zbB zbC zbl zbm:Addr}
   {zvb zvc zvd zve zvf zvg zvh zvi zvj zvk zvl zvm zvn zvo zvp zvq zvr zvs zvt zvu zvv zvw zvx zvy zvz zvA zvB zvC zvD zvE zvF zvG zvH zvI zvJ zvK zvL zvM zvN zvO zvP zvQ zvR zvS zvT zvU zvV zvW zvX zvY zvZ zv0 zv1 zv2 zv3 zv4 zv5 zv6 zv7 zv8 zv9 zwa zwb zwc zwd zwe zwf zwg zwh zwi zwj zwk:Option Addr} {zwl zwm zwn zwo zwp zwq zwr zws zwt zwu zwv zww zwx zwy zwz zwA zwB zwC zwD zwE zwF zwG zwH zwI zwJ zwK zwL zwM zwN zwO zwP zwQ zwR zwS zwT zwU:Array (Option Value)} {zwV zwW zwX zwY zqt zwZ zw0 zw1 zw2 zw3 zqu zw4 zw5 zw6 zw7 zw8 zqv zw9 zxa zxb zxc zxd zqw zxe zxf zxg zxh zxi zqx zxj zxk zxl zxm zxn zqy zxo zxp zxq zxr zxs zqz zxt zxu zxv zxw zxx zqA zxy zxz zxA zxB zxC zqB zxD zxE zxF zxG zxH zqC zxI zxJ zxK zxL zxM zqD zxN zxO zxP zxQ zxR zqE zxS zxT zxU zxV zxW zqF zxX zxY zxZ zx0 zx1 zqG zx2 zx3 zx4 zx5 zx6 zqH zx7 zx8 zx9 zya zyb zqI zyc zyd zye zyf zyg zqJ zyh zyi zyj zyk zyl zqK zym zyn zyo zyp zyq zqL zyr zys zyt zyu zyv zqM zyw zyx zyy zyz zyA zqN zyB zyC zyD zyE zyF zqO zyG zyH zyI zyJ zyK zqP zyL zyM zyN zyO zyP zqQ zyQ zyR zyS zyT zyU zqR zyV zyW zyX zyY zyZ zqS zy0 zy1 zy2 zy3 zy4 zqT zy5 zy6 zy7 zy8 zy9 zqU zza zzb zzc zzd zze zqV zzf zzg zzh zzi zzj zqW zzk zzl zzm zzn zzo zqX zzp zzq zzr zzs zzt zqY zzu zzv zzw zzx zzy zqZ zzz zzA zzB zzC zzD zq0 zzE zzF zzG zzH zzI zq1 zzJ zzK zzL zzM zzN zq2 zzO:Value}
   {tk_MOST tk_FORTH tk_BACK:Tok}
   (zjm:PySem.W.nsIn K mainGlobals "is_number" = some (some (.ref zdf)))
   (zjn:K.lookup zdf=some ⟨zwV,zvb,.func (PySem.W.fnOf "is_number" "is_number" (z7 zf7) (zT zf7) (zr zf7) .none zwW zwX zwY zvc zqt zwZ),zwl⟩)
   (zjo:PySem.W.codeIn K zqt "is_number" = true)
   (zjp:PySem.W.keepIn K (.ref zdf)=true)
   (zjq:PySem.W.nsIn K mainGlobals "is_within" = some (some (.ref zca)))
   (zjr:K.lookup zca=some ⟨zw0,zvd,.func (PySem.W.fnOf "is_within" "is_within" (z7 zf8) (zT zf8) (zr zf8) .none zw1 zw2 zw3 zve zqu zw4),zwm⟩)
   (zjs:PySem.W.codeIn K zqu "is_within" = true)
   (zjt:PySem.W.keepIn K (.ref zca)=true)
   (zju:PySem.W.nsIn K mainGlobals "is_point" = some (some (.ref zcY)))
   (zjv:K.lookup zcY=some ⟨zw5,zvf,.func (PySem.W.fnOf "is_point" "is_point" (z7 zf9) (zT zf9) (zr zf9) .none zw6 zw7 zw8 zvg zqv zw9),zwn⟩)
   (zjw:PySem.W.codeIn K zqv "is_point" = true)
   (zjx:PySem.W.keepIn K (.ref zcY)=true)
   (zjy:PySem.W.nsIn K mainGlobals "is_tie" = some (some (.ref zdL)))
   (zjz:K.lookup zdL=some ⟨zxa,zvh,.func (PySem.W.fnOf "is_tie" "is_tie" (z7 zga) (zT zga) (zr zga) .none zxb zxc zxd zvi zqw zxe),zwo⟩)
   (zjA:PySem.W.codeIn K zqw "is_tie" = true)
   (zjB:PySem.W.keepIn K (.ref zdL)=true)
   (zjC:PySem.W.nsIn K mainGlobals "own_tie" = some (some (.ref zdM)))
   (zjD:K.lookup zdM=some ⟨zxf,zvj,.func (PySem.W.fnOf "own_tie" "own_tie" (z7 zfs) (zT zfs) (zr zfs) .none zxg zxh zxi zvk zqx zxj),zwp⟩)
   (zjE:PySem.W.codeIn K zqx "own_tie" = true)
   (zjF:PySem.W.keepIn K (.ref zdM)=true)
   (zjG:PySem.W.findIn K (.ref zbf) "__init__" = some (some (.ref zdN)))
   (zjH:PySem.W.isFn K (.ref zdN)=true)
   (zjI:K.lookup zdN=some ⟨zxk,zvl,.func (PySem.W.fnOf "__init__" "Web.__init__" (z7 zgc) (zT zgc) (zr zgc) .none zxl zxm zxn zvm zqy zxo),zwq⟩)
   (zjJ:PySem.W.codeIn K zqy "Web.__init__" = true)
   (zjK:PySem.W.keepIn K (.ref zdN)=true)
   (zjL:PySem.W.findIn K (.ref zbf) "ties" = some (some (.ref zcn)))
   (zjM:PySem.W.isFn K (.ref zcn)=true)
   (zjN:K.lookup zcn=some ⟨zxp,zvn,.func (PySem.W.fnOf "ties" "Web.ties" (z7 zcR) (zT zcR) (zr zcR) .none zxq zxr zxs zvo zqz zxt),zwr⟩)
   (zjO:PySem.W.codeIn K zqz "Web.ties" = true)
   (zid:PySem.W.keepIn K (.ref zcn)=true)
   (zjP:PySem.W.nsIn K mainGlobals "turned" = some (some (.ref zdO)))
   (zjQ:K.lookup zdO=some ⟨zxu,zvp,.func (PySem.W.fnOf "turned" "turned" (z7 zgb) (zT zgb) (zr zgb) .none zxv zxw zxx zvq zqA zxy),zws⟩)
   (zjR:PySem.W.codeIn K zqA "turned" = true)
   (zjS:PySem.W.keepIn K (.ref zdO)=true)
   (zjT:PySem.W.nsIn K mainGlobals "is_place" = some (some (.ref zcL)))
   (zjU:K.lookup zcL=some ⟨zxz,zvr,.func (PySem.W.fnOf "is_place" "is_place" (z7 zdK) (zT zdK) (zr zdK) .none zxA zxB zxC zvs zqB zxD),zwt⟩)
   (zjV:PySem.W.codeIn K zqB "is_place" = true)
   (zjW:PySem.W.keepIn K (.ref zcL)=true)
   (zjX:PySem.W.nsIn K mainGlobals "is_step" = some (some (.ref zdP)))
   (zjY:K.lookup zdP=some ⟨zxE,zvt,.func (PySem.W.fnOf "is_step" "is_step" (z7 zft) (zT zft) (zr zft) .none zxF zxG zxH zvu zqC zxI),zwu⟩)
   (zjZ:PySem.W.codeIn K zqC "is_step" = true)
   (zj0:PySem.W.keepIn K (.ref zdP)=true)
   (zj1:PySem.W.nsIn K mainGlobals "leg" = some (some (.ref zcZ)))
   (zj2:K.lookup zcZ=some ⟨zxJ,zvv,.func (PySem.W.fnOf "leg" "leg" (z7 zeH) (zT zeH) (zr zeH) .none zxK zxL zxM zvw zqD zxN),zwv⟩)
   (zj3:PySem.W.codeIn K zqD "leg" = true)
   (zj4:PySem.W.keepIn K (.ref zcZ)=true)
   (zj5:PySem.W.nsIn K mainGlobals "legs" = some (some (.ref zdQ)))
   (zj6:K.lookup zdQ=some ⟨zxO,zvx,.func (PySem.W.fnOf "legs" "legs" (z7 zfu) (zT zfu) (zr zfu) .none zxP zxQ zxR zvy zqE zxS),zww⟩)
   (zj7:PySem.W.codeIn K zqE "legs" = true)
   (zj8:PySem.W.keepIn K (.ref zdQ)=true)
   (zj9:PySem.W.nsIn K mainGlobals "stops" = some (some (.ref zdg)))
   (zka:K.lookup zdg=some ⟨zxT,zvz,.func (PySem.W.fnOf "stops" "stops" (z7 zeI) (zT zeI) (zr zeI) .none zxU zxV zxW zvA zqF zxX),zwx⟩)
   (zkb:PySem.W.codeIn K zqF "stops" = true)
   (zkc:PySem.W.keepIn K (.ref zdg)=true)
   (zkd:PySem.W.nsIn K mainGlobals "is_straight" = some (some (.ref zdR)))
   (zke:K.lookup zdR=some ⟨zxY,zvB,.func (PySem.W.fnOf "is_straight" "is_straight" (z7 zfz) (zT zfz) (zr zfz) .none zxZ zx0 zx1 zvC zqG zx2),zwy⟩)
   (zkf:PySem.W.codeIn K zqG "is_straight" = true)
   (zkg:PySem.W.keepIn K (.ref zdR)=true)
   (zkh:PySem.W.nsIn K mainGlobals "leads" = some (some (.ref zdS)))
   (zki:K.lookup zdS=some ⟨zx3,zvD,.func (PySem.W.fnOf "leads" "leads" (z7 zfA) (zT zfA) (zr zfA) .none zx4 zx5 zx6 zvE zqH zx7),zwz⟩)
   (zkj:PySem.W.codeIn K zqH "leads" = true)
   (zkk:PySem.W.keepIn K (.ref zdS)=true)
   (zkl:PySem.W.nsIn K mainGlobals "every_tie" = some (some (.ref zdT)))
   (zkm:K.lookup zdT=some ⟨zx8,zvF,.func (PySem.W.fnOf "every_tie" "every_tie" (z7 zfv) (zT zfv) (zr zfv) .none zx9 zya zyb zvG zqI zyc),zwA⟩)
   (zkn:PySem.W.codeIn K zqI "every_tie" = true)
   (zko:PySem.W.keepIn K (.ref zdT)=true)
   (zkp:PySem.W.nsIn K mainGlobals "steps_from" = some (some (.ref zdU)))
   (zkq:K.lookup zdU=some ⟨zyd,zvH,.func (PySem.W.fnOf "steps_from" "steps_from" (z7 ze5) (zT ze5) (zr ze5) .none zye zyf zyg zvI zqJ zyh),zwB⟩)
   (zkr:PySem.W.codeIn K zqJ "steps_from" = true)
   (zks:PySem.W.keepIn K (.ref zdU)=true)
   (zkt:PySem.W.nsIn K mainGlobals "spread" = some (some (.ref zdV)))
   (zku:K.lookup zdV=some ⟨zyi,zvJ,.func (PySem.W.fnOf "spread" "spread" (z7 zfw) (zT zfw) (zr zfw) .none zyj zyk zyl zvK zqK zym),zwC⟩)
   (zkv:PySem.W.codeIn K zqK "spread" = true)
   (zkw:PySem.W.keepIn K (.ref zdV)=true)
   (zkx:PySem.W.nsIn K mainGlobals "reach" = some (some (.ref zdW)))
   (zky:K.lookup zdW=some ⟨zyn,zvL,.func (PySem.W.fnOf "reach" "reach" (z7 zfx) (zT zfx) (zr zfx) .none zyo zyp zyq zvM zqL zyr),zwD⟩)
   (zkz:PySem.W.codeIn K zqL "reach" = true)
   (zkA:PySem.W.keepIn K (.ref zdW)=true)
   (zkB:PySem.W.nsIn K mainGlobals "trace" = some (some (.ref zdX)))
   (zkC:K.lookup zdX=some ⟨zys,zvN,.func (PySem.W.fnOf "trace" "trace" (z7 zfy) (zT zfy) (zr zfy) .none zyt zyu zyv zvO zqM zyw),zwE⟩)
   (zkD:PySem.W.codeIn K zqM "trace" = true)
   (zkE:PySem.W.keepIn K (.ref zdX)=true)
   (zkF:PySem.W.nsIn K mainGlobals "are_rising" = some (some (.ref zdY)))
   (zkG:K.lookup zdY=some ⟨zyx,zvP,.func (PySem.W.fnOf "are_rising" "are_rising" (z7 zeJ) (zT zeJ) (zr zeJ) .none zyy zyz zyA zvQ zqN zyB),zwF⟩)
   (zkH:PySem.W.codeIn K zqN "are_rising" = true)
   (zkI:PySem.W.keepIn K (.ref zdY)=true)
   (zkJ:PySem.W.nsIn K mainGlobals "divides" = some (some (.ref zdZ)))
   (zkK:K.lookup zdZ=some ⟨zyC,zvR,.func (PySem.W.fnOf "divides" "divides" (z7 zeK) (zT zeK) (zr zeK) .none zyD zyE zyF zvS zqO zyG),zwG⟩)
   (zkL:PySem.W.codeIn K zqO "divides" = true)
   (zkM:PySem.W.keepIn K (.ref zdZ)=true)
   (zkN:PySem.W.findIn K (.ref zbl) "__init__" = some (some (.ref zd0)))
   (zkO:PySem.W.isFn K (.ref zd0)=true)
   (zkP:K.lookup zd0=some ⟨zyH,zvT,.func (PySem.W.fnOf "__init__" "Around.__init__" (z7 zgK) (zT zgK) (zr zgK) .none zyI zyJ zyK zvU zqP zyL),zwH⟩)
   (zkQ:PySem.W.codeIn K zqP "Around.__init__" = true)
   (zkR:PySem.W.keepIn K (.ref zd0)=true)
   (zkS:PySem.W.findIn K (.ref zbl) "shows" = some (some (.ref zdh)))
   (zkT:PySem.W.isFn K (.ref zdh)=true)
   (zkU:K.lookup zdh=some ⟨zyM,zvV,.func (PySem.W.fnOf "shows" "Around.shows" (z7 ze6) (zT ze6) (zr ze6) .none zyN zyO zyP zvW zqQ zyQ),zwI⟩)
   (zkV:PySem.W.codeIn K zqQ "Around.shows" = true)
   (zie:PySem.W.keepIn K (.ref zdh)=true)
   (zkW:PySem.W.findIn K (.ref zbm) "__init__" = some (some (.ref zd1)))
   (zkX:PySem.W.isFn K (.ref zd1)=true)
   (zkY:K.lookup zd1=some ⟨zyR,zvX,.func (PySem.W.fnOf "__init__" "Held.__init__" (z7 zgL) (zT zgL) (zr zgL) .none zyS zyT zyU zvY zqR zyV),zwJ⟩)
   (zkZ:PySem.W.codeIn K zqR "Held.__init__" = true)
   (zk0:PySem.W.keepIn K (.ref zd1)=true)
   (zk1:PySem.W.findIn K (.ref zbm) "shows" = some (some (.ref zdi)))
   (zk2:PySem.W.isFn K (.ref zdi)=true)
   (zk3:K.lookup zdi=some ⟨zyW,zvZ,.func (PySem.W.fnOf "shows" "Held.shows" (z7 zfB) (zT zfB) (zr zfB) .none zyX zyY zyZ zv0 zqS zy0),zwK⟩)
   (zk4:PySem.W.codeIn K zqS "Held.shows" = true)
   (zif:PySem.W.keepIn K (.ref zdi)=true)
   (zk5:PySem.W.nsIn K mainGlobals "spare" = some (some (.ref zd2)))
   (zk6:K.lookup zd2=some ⟨zy1,zv1,.func (PySem.W.fnOf "spare" "spare" (z7 ze7) (zT ze7) (zr ze7) .none zy2 zy3 zy4 zv2 zqT zy5),zwL⟩)
   (zk7:PySem.W.codeIn K zqT "spare" = true)
   (zk8:PySem.W.keepIn K (.ref zd2)=true)
   (zk9:PySem.W.nsIn K mainGlobals "_law_cell_at" = some (some (.ref zbZ)))
   (zla:K.lookup zbZ=some ⟨zy6,zv3,.func (PySem.W.fnOf "_law_cell_at" "_law_cell_at" (z7 zgM) (zT zgM) (zr zgM) .none zy7 zy8 zy9 zv4 zqU zza),zwM⟩)
   (zlb:PySem.W.codeIn K zqU "_law_cell_at" = true)
   (zlc:PySem.W.keepIn K (.ref zbZ)=true)
   (zld:PySem.W.nsIn K mainGlobals "_law_draw" = some (some (.ref zba)))
   (zle:K.lookup zba=some ⟨zzb,zv5,.func (PySem.W.fnOf "_law_draw" "_law_draw" (z7 zgN) (zT zgN) (zr zgN) .none zzc zzd zze zv6 zqV zzf),zwN⟩)
   (zlf:PySem.W.codeIn K zqV "_law_draw" = true)
   (zlg:PySem.W.keepIn K (.ref zba)=true)
   (zlh:PySem.W.nsIn K mainGlobals "_law_web" = some (some (.ref zd3)))
   (zli:K.lookup zd3=some ⟨zzg,zv7,.func (PySem.W.fnOf "_law_web" "_law_web" (z7 zgO) (zT zgO) (zr zgO) .none zzh zzi zzj zv8 zqW zzk),zwO⟩)
   (zlj:PySem.W.codeIn K zqW "_law_web" = true)
   (zlk:PySem.W.keepIn K (.ref zd3)=true)
   (zll:PySem.W.nsIn K mainGlobals "_law_walk" = some (some (.ref zd4)))
   (zlm:K.lookup zd4=some ⟨zzl,zv9,.func (PySem.W.fnOf "_law_walk" "_law_walk" (z7 zgP) (zT zgP) (zr zgP) .none zzm zzn zzo zwa zqX zzp),zwP⟩)
   (zln:PySem.W.codeIn K zqX "_law_walk" = true)
   (zlo:PySem.W.keepIn K (.ref zd4)=true)
   (zlp:PySem.W.nsIn K mainGlobals "_law_numbers" = some (some (.ref zd5)))
   (zlq:K.lookup zd5=some ⟨zzq,zwb,.func (PySem.W.fnOf "_law_numbers" "_law_numbers" (z7 zgf) (zT zgf) (zr zgf) .none zzr zzs zzt zwc zqY zzu),zwQ⟩)
   (zlr:PySem.W.codeIn K zqY "_law_numbers" = true)
   (zls:PySem.W.keepIn K (.ref zd5)=true)
   (zlt:PySem.W.nsIn K mainGlobals "_law_straight" = some (some (.ref zd6)))
   (zlu:K.lookup zd6=some ⟨zzv,zwd,.func (PySem.W.fnOf "_law_straight" "_law_straight" (z7 zgQ) (zT zgQ) (zr zgQ) .none zzw zzx zzy zwe zqZ zzz),zwR⟩)
   (zlv:PySem.W.codeIn K zqZ "_law_straight" = true)
   (zlw:PySem.W.keepIn K (.ref zd6)=true)
   (zlx:PySem.W.nsIn K mainGlobals "_law_closed" = some (some (.ref zd7)))
   (zly:K.lookup zd7=some ⟨zzA,zwf,.func (PySem.W.fnOf "_law_closed" "_law_closed" (z7 zgg) (zT zgg) (zr zgg) .none zzB zzC zzD zwg zq0 zzE),zwS⟩)
   (zlz:PySem.W.codeIn K zq0 "_law_closed" = true)
   (zlA:PySem.W.keepIn K (.ref zd7)=true)
   (zlB:PySem.W.nsIn K mainGlobals "_law_due" = some (some (.ref zdj)))
   (zlC:K.lookup zdj=some ⟨zzF,zwh,.func (PySem.W.fnOf "_law_due" "_law_due" (z7 zgh) (zT zgh) (zr zgh) .none zzG zzH zzI zwi zq1 zzJ),zwT⟩)
   (zlD:PySem.W.codeIn K zq1 "_law_due" = true)
   (zlE:PySem.W.keepIn K (.ref zdj)=true)
   (zig:PySem.W.nsIn K mainGlobals "law" = some (some (.ref zdk)))
   (zlF:K.lookup zdk=some ⟨zzK,zwj,.func (PySem.W.fnOf "law" "law" (z7 zgi) (zT zgi) (zr zgi) .none zzL zzM zzN zwk zq2 zzO),zwU⟩)
   (zlG:PySem.W.codeIn K zq2 "law" = true)
   (zlH:PySem.W.keepIn K (.ref zdk)=true)
   (zlI:PySem.W.nsIn K mainGlobals "Web" = some (some (.ref zbf)))
   (zlJ:PySem.W.plainGet K zbf Str.empty=true)
   (zlK:PySem.W.hasDictIn K zbf=true)
   (zlL:PySem.W.plainOver K zbf=true)
   (zlM:PySem.W.findIn K (.ref zbf) "__setattr__" = some (some (.builtin "object.__setattr__")))
   (zlN:PySem.W.findIn K (.ref zbf) "__class__" = some (some (.builtin "object.__class__")))
   (zlO:PySem.W.mroIn K zbf (.type "object")=some true)
   (zlP:PySem.W.makesIn K zbf=true)
   (zlQ:PySem.W.keepIn K (.ref zbf)=true)
   (zgR:PySem.W.findIn K (.ref zbf) "points" = some none)
   (zgS:PySem.W.findIn K (.ref zbf) "turn" = some none)
   (zgT:PySem.W.findIn K (.ref zbf) "triples" = some none)
   (zlR:PySem.W.nsIn K mainGlobals "Answer" = some (some (.ref zbI)))
   (zlS:PySem.W.plainGet K zbI Str.empty=true)
   (zlT:PySem.W.hasDictIn K zbI=true)
   (zlU:PySem.W.plainOver K zbI=true)
   (zlV:PySem.W.findIn K (.ref zbI) "__setattr__" = some (some (.builtin "object.__setattr__")))
   (zlW:PySem.W.findIn K (.ref zbI) "__class__" = some (some (.builtin "object.__class__")))
   (zlX:PySem.W.mroIn K zbI (.type "object")=some true)
   (zlY:PySem.W.nsIn K mainGlobals "Heights" = some (some (.ref zby)))
   (zlZ:PySem.W.plainGet K zby Str.empty=true)
   (zl0:PySem.W.hasDictIn K zby=true)
   (zl1:PySem.W.plainOver K zby=true)
   (zl2:PySem.W.findIn K (.ref zby) "__setattr__" = some (some (.builtin "object.__setattr__")))
   (zl3:PySem.W.findIn K (.ref zby) "__class__" = some (some (.builtin "object.__class__")))
   (zl4:PySem.W.mroIn K zby (.type "object")=some true)
   (zgU:PySem.W.findIn K (.ref zby) "heights" = some none)
   (zl5:PySem.W.nsIn K mainGlobals "Ring" = some (some (.ref zbz)))
   (zl6:PySem.W.plainGet K zbz Str.empty=true)
   (zl7:PySem.W.hasDictIn K zbz=true)
   (zl8:PySem.W.plainOver K zbz=true)
   (zl9:PySem.W.findIn K (.ref zbz) "__setattr__" = some (some (.builtin "object.__setattr__")))
   (zma:PySem.W.findIn K (.ref zbz) "__class__" = some (some (.builtin "object.__class__")))
   (zmb:PySem.W.mroIn K zbz (.type "object")=some true)
   (zgV:PySem.W.findIn K (.ref zbz) "steps" = some none)
   (zmc:PySem.W.nsIn K mainGlobals "Fewest" = some (some (.ref zbt)))
   (zmd:PySem.W.plainGet K zbt Str.empty=true)
   (zme:PySem.W.hasDictIn K zbt=true)
   (zmf:PySem.W.plainOver K zbt=true)
   (zmg:PySem.W.findIn K (.ref zbt) "__setattr__" = some (some (.builtin "object.__setattr__")))
   (zmh:PySem.W.findIn K (.ref zbt) "__class__" = some (some (.builtin "object.__class__")))
   (zmi:PySem.W.mroIn K zbt (.type "object")=some true)
   (zgW:PySem.W.findIn K (.ref zbt) "kept" = some none)
   (zgX:PySem.W.findIn K (.ref zbt) "parts" = some none)
   (zmj:PySem.W.nsIn K mainGlobals "Camps" = some (some (.ref zbA)))
   (zmk:PySem.W.plainGet K zbA Str.empty=true)
   (zml:PySem.W.hasDictIn K zbA=true)
   (zmm:PySem.W.plainOver K zbA=true)
   (zmn:PySem.W.findIn K (.ref zbA) "__setattr__" = some (some (.builtin "object.__setattr__")))
   (zmo:PySem.W.findIn K (.ref zbA) "__class__" = some (some (.builtin "object.__class__")))
   (zmp:PySem.W.mroIn K zbA (.type "object")=some true)
   (zgY:PySem.W.findIn K (.ref zbA) "camps" = some none)
   (zmq:PySem.W.nsIn K mainGlobals "Quarrel" = some (some (.ref zbu)))
   (zmr:PySem.W.plainGet K zbu Str.empty=true)
   (zms:PySem.W.hasDictIn K zbu=true)
   (zmt:PySem.W.plainOver K zbu=true)
   (zmu:PySem.W.findIn K (.ref zbu) "__setattr__" = some (some (.builtin "object.__setattr__")))
   (zmv:PySem.W.findIn K (.ref zbu) "__class__" = some (some (.builtin "object.__class__")))
   (zmw:PySem.W.mroIn K zbu (.type "object")=some true)
   (zgZ:PySem.W.findIn K (.ref zbu) "tie" = some none)
   (zg0:PySem.W.findIn K (.ref zbu) "steps" = some none)
   (zmx:PySem.W.nsIn K mainGlobals "Way" = some (some (.ref zbB)))
   (zmy:PySem.W.plainGet K zbB Str.empty=true)
   (zmz:PySem.W.hasDictIn K zbB=true)
   (zmA:PySem.W.plainOver K zbB=true)
   (zmB:PySem.W.findIn K (.ref zbB) "__setattr__" = some (some (.builtin "object.__setattr__")))
   (zmC:PySem.W.findIn K (.ref zbB) "__class__" = some (some (.builtin "object.__class__")))
   (zmD:PySem.W.mroIn K zbB (.type "object")=some true)
   (zg1:PySem.W.findIn K (.ref zbB) "steps" = some none)
   (zmE:PySem.W.nsIn K mainGlobals "Apart" = some (some (.ref zbC)))
   (zmF:PySem.W.plainGet K zbC Str.empty=true)
   (zmG:PySem.W.hasDictIn K zbC=true)
   (zmH:PySem.W.plainOver K zbC=true)
   (zmI:PySem.W.findIn K (.ref zbC) "__setattr__" = some (some (.builtin "object.__setattr__")))
   (zmJ:PySem.W.findIn K (.ref zbC) "__class__" = some (some (.builtin "object.__class__")))
   (zmK:PySem.W.mroIn K zbC (.type "object")=some true)
   (zg2:PySem.W.findIn K (.ref zbC) "points" = some none)
   (zmL:PySem.W.nsIn K mainGlobals "Around" = some (some (.ref zbl)))
   (zmM:PySem.W.plainGet K zbl Str.empty=true)
   (zmN:PySem.W.hasDictIn K zbl=true)
   (zmO:PySem.W.plainOver K zbl=true)
   (zmP:PySem.W.findIn K (.ref zbl) "__setattr__" = some (some (.builtin "object.__setattr__")))
   (zmQ:PySem.W.findIn K (.ref zbl) "__class__" = some (some (.builtin "object.__class__")))
   (zmR:PySem.W.mroIn K zbl (.type "object")=some true)
   (zmS:PySem.W.makesIn K zbl=true)
   (zmT:PySem.W.keepIn K (.ref zbl)=true)
   (zg3:PySem.W.findIn K (.ref zbl) "steps" = some none)
   (zmU:PySem.W.nsIn K mainGlobals "Held" = some (some (.ref zbm)))
   (zmV:PySem.W.plainGet K zbm Str.empty=true)
   (zmW:PySem.W.hasDictIn K zbm=true)
   (zmX:PySem.W.plainOver K zbm=true)
   (zmY:PySem.W.findIn K (.ref zbm) "__setattr__" = some (some (.builtin "object.__setattr__")))
   (zmZ:PySem.W.findIn K (.ref zbm) "__class__" = some (some (.builtin "object.__class__")))
   (zm0:PySem.W.mroIn K zbm (.type "object")=some true)
   (zm1:PySem.W.makesIn K zbm=true)
   (zm2:PySem.W.keepIn K (.ref zbm)=true)
   (zg4:PySem.W.findIn K (.ref zbm) "points" = some none)
   (z_list:PySem.W.nsIn K mainGlobals "list" = some none)
   (z_range:PySem.W.nsIn K mainGlobals "range" = some none)
   (z_all:PySem.W.nsIn K mainGlobals "all" = some none)
   (z_dict:PySem.W.nsIn K mainGlobals "dict" = some none)
   (z_isinstance:PySem.W.nsIn K mainGlobals "isinstance" = some none)
   (z_int:PySem.W.nsIn K mainGlobals "int" = some none)
   (z_len:PySem.W.nsIn K mainGlobals "len" = some none)
   (z_sorted:PySem.W.nsIn K mainGlobals "sorted" = some none)
   (z_any:PySem.W.nsIn K mainGlobals "any" = some none)
   (z_bool:PySem.W.nsIn K mainGlobals "bool" = some none)
   (z_tuple:PySem.W.nsIn K mainGlobals "tuple" = some none)
   (z_set:PySem.W.nsIn K mainGlobals "set" = some none)
   (z_zip:PySem.W.nsIn K mainGlobals "zip" = some none)
   (z_sum:PySem.W.nsIn K mainGlobals "sum" = some none)
   (z_abs:PySem.W.nsIn K mainGlobals "abs" = some none)
   (u_MOST:PySem.W.nsIn K mainGlobals "MOST" = some (some (.int (1000000) tk_MOST)))
   (u_FORTH:PySem.W.nsIn K mainGlobals "FORTH" = some (some (.int (1) tk_FORTH)))
   (u_BACK:PySem.W.nsIn K mainGlobals "BACK" = some (some (.int (-1) tk_BACK)))
   (zm3:PySem.W.kitOne K (.ref zbf) (.ref zbf)=some true)
   (zm4:PySem.W.kitOne K (.ref zbf) (.ref zbI)=some false)
   (zm5:PySem.W.kitOne K (.ref zbf) (.ref zby)=some false)
   (zm6:PySem.W.kitOne K (.ref zbf) (.ref zbz)=some false)
   (zm7:PySem.W.kitOne K (.ref zbf) (.ref zbt)=some false)
   (zm8:PySem.W.kitOne K (.ref zbf) (.ref zbA)=some false)
   (zm9:PySem.W.kitOne K (.ref zbf) (.ref zbu)=some false)
   (zna:PySem.W.kitOne K (.ref zbf) (.ref zbB)=some false)
   (znb:PySem.W.kitOne K (.ref zbf) (.ref zbC)=some false)
   (znc:PySem.W.kitOne K (.ref zbf) (.ref zbl)=some false)
   (znd:PySem.W.kitOne K (.ref zbf) (.ref zbm)=some false)
   (zne:PySem.W.kitOne K (.ref zbI) (.ref zbf)=some false)
   (znf:PySem.W.kitOne K (.ref zbI) (.ref zbI)=some true)
   (zng:PySem.W.kitOne K (.ref zbI) (.ref zby)=some false)
   (znh:PySem.W.kitOne K (.ref zbI) (.ref zbz)=some false)
   (zni:PySem.W.kitOne K (.ref zbI) (.ref zbt)=some false)
   (znj:PySem.W.kitOne K (.ref zbI) (.ref zbA)=some false)
   (znk:PySem.W.kitOne K (.ref zbI) (.ref zbu)=some false)
   (znl:PySem.W.kitOne K (.ref zbI) (.ref zbB)=some false)
   (znm:PySem.W.kitOne K (.ref zbI) (.ref zbC)=some false)
   (znn:PySem.W.kitOne K (.ref zbI) (.ref zbl)=some false)
   (zno:PySem.W.kitOne K (.ref zbI) (.ref zbm)=some false)
   (znp:PySem.W.kitOne K (.ref zby) (.ref zbf)=some false)
   (znq:PySem.W.kitOne K (.ref zby) (.ref zbI)=some true)
   (znr:PySem.W.kitOne K (.ref zby) (.ref zby)=some true)
   (zns:PySem.W.kitOne K (.ref zby) (.ref zbz)=some false)
   (znt:PySem.W.kitOne K (.ref zby) (.ref zbt)=some false)
   (znu:PySem.W.kitOne K (.ref zby) (.ref zbA)=some false)
   (znv:PySem.W.kitOne K (.ref zby) (.ref zbu)=some false)
   (znw:PySem.W.kitOne K (.ref zby) (.ref zbB)=some false)
   (znx:PySem.W.kitOne K (.ref zby) (.ref zbC)=some false)
   (zny:PySem.W.kitOne K (.ref zby) (.ref zbl)=some false)
   (znz:PySem.W.kitOne K (.ref zby) (.ref zbm)=some false)
   (znA:PySem.W.kitOne K (.ref zbz) (.ref zbf)=some false)
   (znB:PySem.W.kitOne K (.ref zbz) (.ref zbI)=some true)
   (znC:PySem.W.kitOne K (.ref zbz) (.ref zby)=some false)
   (znD:PySem.W.kitOne K (.ref zbz) (.ref zbz)=some true)
   (znE:PySem.W.kitOne K (.ref zbz) (.ref zbt)=some false)
   (znF:PySem.W.kitOne K (.ref zbz) (.ref zbA)=some false)
   (znG:PySem.W.kitOne K (.ref zbz) (.ref zbu)=some false)
   (znH:PySem.W.kitOne K (.ref zbz) (.ref zbB)=some false)
   (znI:PySem.W.kitOne K (.ref zbz) (.ref zbC)=some false)
   (znJ:PySem.W.kitOne K (.ref zbz) (.ref zbl)=some false)
   (znK:PySem.W.kitOne K (.ref zbz) (.ref zbm)=some false)
   (znL:PySem.W.kitOne K (.ref zbt) (.ref zbf)=some false)
   (znM:PySem.W.kitOne K (.ref zbt) (.ref zbI)=some true)
   (znN:PySem.W.kitOne K (.ref zbt) (.ref zby)=some false)
   (znO:PySem.W.kitOne K (.ref zbt) (.ref zbz)=some false)
   (znP:PySem.W.kitOne K (.ref zbt) (.ref zbt)=some true)
   (znQ:PySem.W.kitOne K (.ref zbt) (.ref zbA)=some false)
   (znR:PySem.W.kitOne K (.ref zbt) (.ref zbu)=some false)
   (znS:PySem.W.kitOne K (.ref zbt) (.ref zbB)=some false)
   (znT:PySem.W.kitOne K (.ref zbt) (.ref zbC)=some false)
   (znU:PySem.W.kitOne K (.ref zbt) (.ref zbl)=some false)
   (znV:PySem.W.kitOne K (.ref zbt) (.ref zbm)=some false)
   (znW:PySem.W.kitOne K (.ref zbA) (.ref zbf)=some false)
   (znX:PySem.W.kitOne K (.ref zbA) (.ref zbI)=some true)
   (znY:PySem.W.kitOne K (.ref zbA) (.ref zby)=some false)
   (znZ:PySem.W.kitOne K (.ref zbA) (.ref zbz)=some false)
   (zn0:PySem.W.kitOne K (.ref zbA) (.ref zbt)=some false)
   (zn1:PySem.W.kitOne K (.ref zbA) (.ref zbA)=some true)
   (zn2:PySem.W.kitOne K (.ref zbA) (.ref zbu)=some false)
   (zn3:PySem.W.kitOne K (.ref zbA) (.ref zbB)=some false)
   (zn4:PySem.W.kitOne K (.ref zbA) (.ref zbC)=some false)
   (zn5:PySem.W.kitOne K (.ref zbA) (.ref zbl)=some false)
   (zn6:PySem.W.kitOne K (.ref zbA) (.ref zbm)=some false)
   (zn7:PySem.W.kitOne K (.ref zbu) (.ref zbf)=some false)
   (zn8:PySem.W.kitOne K (.ref zbu) (.ref zbI)=some true)
   (zn9:PySem.W.kitOne K (.ref zbu) (.ref zby)=some false)
   (zoa:PySem.W.kitOne K (.ref zbu) (.ref zbz)=some false)
   (zob:PySem.W.kitOne K (.ref zbu) (.ref zbt)=some false)
   (zoc:PySem.W.kitOne K (.ref zbu) (.ref zbA)=some false)
   (zod:PySem.W.kitOne K (.ref zbu) (.ref zbu)=some true)
   (zoe:PySem.W.kitOne K (.ref zbu) (.ref zbB)=some false)
   (zof:PySem.W.kitOne K (.ref zbu) (.ref zbC)=some false)
   (zog:PySem.W.kitOne K (.ref zbu) (.ref zbl)=some false)
   (zoh:PySem.W.kitOne K (.ref zbu) (.ref zbm)=some false)
   (zoi:PySem.W.kitOne K (.ref zbB) (.ref zbf)=some false)
   (zoj:PySem.W.kitOne K (.ref zbB) (.ref zbI)=some true)
   (zok:PySem.W.kitOne K (.ref zbB) (.ref zby)=some false)
   (zol:PySem.W.kitOne K (.ref zbB) (.ref zbz)=some false)
   (zom:PySem.W.kitOne K (.ref zbB) (.ref zbt)=some false)
   (zon:PySem.W.kitOne K (.ref zbB) (.ref zbA)=some false)
   (zoo:PySem.W.kitOne K (.ref zbB) (.ref zbu)=some false)
   (zop:PySem.W.kitOne K (.ref zbB) (.ref zbB)=some true)
   (zoq:PySem.W.kitOne K (.ref zbB) (.ref zbC)=some false)
   (zor:PySem.W.kitOne K (.ref zbB) (.ref zbl)=some false)
   (zos:PySem.W.kitOne K (.ref zbB) (.ref zbm)=some false)
   (zot:PySem.W.kitOne K (.ref zbC) (.ref zbf)=some false)
   (zou:PySem.W.kitOne K (.ref zbC) (.ref zbI)=some true)
   (zov:PySem.W.kitOne K (.ref zbC) (.ref zby)=some false)
   (zow:PySem.W.kitOne K (.ref zbC) (.ref zbz)=some false)
   (zox:PySem.W.kitOne K (.ref zbC) (.ref zbt)=some false)
   (zoy:PySem.W.kitOne K (.ref zbC) (.ref zbA)=some false)
   (zoz:PySem.W.kitOne K (.ref zbC) (.ref zbu)=some false)
   (zoA:PySem.W.kitOne K (.ref zbC) (.ref zbB)=some false)
   (zoB:PySem.W.kitOne K (.ref zbC) (.ref zbC)=some true)
   (zoC:PySem.W.kitOne K (.ref zbC) (.ref zbl)=some false)
   (zoD:PySem.W.kitOne K (.ref zbC) (.ref zbm)=some false)
   (zoE:PySem.W.kitOne K (.ref zbl) (.ref zbf)=some false)
   (zoF:PySem.W.kitOne K (.ref zbl) (.ref zbI)=some true)
   (zoG:PySem.W.kitOne K (.ref zbl) (.ref zby)=some false)
   (zoH:PySem.W.kitOne K (.ref zbl) (.ref zbz)=some false)
   (zoI:PySem.W.kitOne K (.ref zbl) (.ref zbt)=some false)
   (zoJ:PySem.W.kitOne K (.ref zbl) (.ref zbA)=some false)
   (zoK:PySem.W.kitOne K (.ref zbl) (.ref zbu)=some false)
   (zoL:PySem.W.kitOne K (.ref zbl) (.ref zbB)=some false)
   (zoM:PySem.W.kitOne K (.ref zbl) (.ref zbC)=some false)
   (zoN:PySem.W.kitOne K (.ref zbl) (.ref zbl)=some true)
   (zoO:PySem.W.kitOne K (.ref zbl) (.ref zbm)=some false)
   (zoP:PySem.W.kitOne K (.ref zbm) (.ref zbf)=some false)
   (zoQ:PySem.W.kitOne K (.ref zbm) (.ref zbI)=some true)
   (zoR:PySem.W.kitOne K (.ref zbm) (.ref zby)=some false)
   (zoS:PySem.W.kitOne K (.ref zbm) (.ref zbz)=some false)
   (zoT:PySem.W.kitOne K (.ref zbm) (.ref zbt)=some false)
   (zoU:PySem.W.kitOne K (.ref zbm) (.ref zbA)=some false)
   (zoV:PySem.W.kitOne K (.ref zbm) (.ref zbu)=some false)
   (zoW:PySem.W.kitOne K (.ref zbm) (.ref zbB)=some false)
   (zoX:PySem.W.kitOne K (.ref zbm) (.ref zbC)=some false)
   (zoY:PySem.W.kitOne K (.ref zbm) (.ref zbl)=some false)
   (zoZ:PySem.W.kitOne K (.ref zbm) (.ref zbm)=some true)
   (hn0:PySem.W.specialIn K (.builtin "object.__class__") "__get__" = some (some (.builtin "getset_descriptor.__get__")))
   (htk0:PySem.W.takesIn K (.builtin "object.__class__")=some true)
   : ∃ fd:FuncData,(∀ (s:Shared) (v:Value),BindsTo s fd ⟨[v],[]⟩ [("_law_script",v)])∧∀ base:Heap,K.In base->base.Ns mainGlobals mg->zK l.prog w K mg base CX0 10 fa fd ["_law_script"] (zhn K):=by
 have e:=hfa.symm.trans (PySem.W.mg_of X G zig)
 have e2:zdk=fa:=by cases e;rfl
 subst e2
 have zq3:=zbi (st:=zf7) zjn zjo zjp
 have zq4:=zbi (st:=zf8) zjr zjs zjt
 have zq5:=zbi (st:=zf9) zjv zjw zjx
 have zq6:=zbi (st:=zga) zjz zjA zjB
 have zq7:=zbi (st:=zfs) zjD zjE zjF
 have zq8:=zbi (st:=zgc) zjI zjJ zjK
 have zq9:=zbi (st:=zcR) zjN zjO zid
 have zra:=zbi (st:=zgb) zjQ zjR zjS
 have zrb:=zbi (st:=zdK) zjU zjV zjW
 have zrc:=zbi (st:=zft) zjY zjZ zj0
 have zrd:=zbi (st:=zeH) zj2 zj3 zj4
 have zre:=zbi (st:=zfu) zj6 zj7 zj8
 have zrf:=zbi (st:=zeI) zka zkb zkc
 have zrg:=zbi (st:=zfz) zke zkf zkg
 have zrh:=zbi (st:=zfA) zki zkj zkk
 have zri:=zbi (st:=zfv) zkm zkn zko
 have zrj:=zbi (st:=ze5) zkq zkr zks
 have zrk:=zbi (st:=zfw) zku zkv zkw
 have zrl:=zbi (st:=zfx) zky zkz zkA
 have zrm:=zbi (st:=zfy) zkC zkD zkE
 have zrn:=zbi (st:=zeJ) zkG zkH zkI
 have zro:=zbi (st:=zeK) zkK zkL zkM
 have zrp:=zbi (st:=zgK) zkP zkQ zkR
 have zrq:=zbi (st:=ze6) zkU zkV zie
 have zrr:=zbi (st:=zgL) zkY zkZ zk0
 have zrs:=zbi (st:=zfB) zk3 zk4 zif
 have zrt:=zbi (st:=ze7) zk6 zk7 zk8
 have zru:=zbi (st:=zgM) zla zlb zlc
 have zrv:=zbi (st:=zgN) zle zlf zlg
 have zrw:=zbi (st:=zgO) zli zlj zlk
 have zrx:=zbi (st:=zgP) zlm zln zlo
 have zry:=zbi (st:=zgf) zlq zlr zls
 have zrz:=zbi (st:=zgQ) zlu zlv zlw
 have zrA:=zbi (st:=zgg) zly zlz zlA
 have zrB:=zbi (st:=zgh) zlC zlD zlE
 have zrC:=zbi (st:=zgi) zlF zlG zlH
 let T:TX K mg:={
   zdf:=⟨zdf,_,zq3,zq3.binds (ps:=["value"]) (fun _ _ _ _ _ _ us hl=>match us,hl with | [_],_=>rfl)⟩,
   ze3:=PySem.W.mg_of X G zjm,
   zca:=⟨zca,_,zq4,zq4.binds (ps:=["value", "least", "most"]) (fun _ _ _ _ _ _ us hl=>match us,hl with | [_,_,_],_=>rfl)⟩,
   zcJ:=PySem.W.mg_of X G zjq,
   zcY:=⟨zcY,_,zq5,zq5.binds (ps:=["points", "value"]) (fun _ _ _ _ _ _ us hl=>match us,hl with | [_,_],_=>rfl)⟩,
   zer:=PySem.W.mg_of X G zju,
   zdL:=⟨zdL,_,zq6,zq6.binds (ps:=["points", "value"]) (fun _ _ _ _ _ _ us hl=>match us,hl with | [_,_],_=>rfl)⟩,
   zfS:=PySem.W.mg_of X G zjy,
   zdM:=⟨zdM,_,zq7,zq7.binds (ps:=["points", "value"]) (fun _ _ _ _ _ _ us hl=>match us,hl with | [_,_],_=>rfl)⟩,
   zfp:=PySem.W.mg_of X G zjC,
   zdN:=⟨zdN,_,zq8,zq8.binds (ps:=["self", "points", "ties", "turn"]) (fun _ _ _ _ _ _ us hl=>match us,hl with | [_,_,_,_],_=>rfl)⟩,
   zcn:=⟨zcn,_,zq9,zq9.binds (ps:=["self"]) (fun _ _ _ _ _ _ us hl=>match us,hl with | [_],_=>rfl)⟩,
   zdO:=⟨zdO,_,zra,zra.binds (ps:=["tie"]) (fun _ _ _ _ _ _ us hl=>match us,hl with | [_],_=>rfl)⟩,
   zfT:=PySem.W.mg_of X G zjP,
   zcL:=⟨zcL,_,zrb,zrb.binds (ps:=["ties", "value"]) (fun _ _ _ _ _ _ us hl=>match us,hl with | [_,_],_=>rfl)⟩,
   zdA:=PySem.W.mg_of X G zjT,
   zdP:=⟨zdP,_,zrc,zrc.binds (ps:=["ties", "value"]) (fun _ _ _ _ _ _ us hl=>match us,hl with | [_,_],_=>rfl)⟩,
   zfq:=PySem.W.mg_of X G zjX,
   zcZ:=⟨zcZ,_,zrd,zrd.binds (ps:=["ties", "step"]) (fun _ _ _ _ _ _ us hl=>match us,hl with | [_,_],_=>rfl)⟩,
   zc6:=PySem.W.mg_of X G zj1,
   zdQ:=⟨zdQ,_,zre,zre.binds (ps:=["web", "start", "steps"]) (fun _ _ _ _ _ _ us hl=>match us,hl with | [_,_,_],_=>rfl)⟩,
   zfU:=PySem.W.mg_of X G zj5,
   zdg:=⟨zdg,_,zrf,zrf.binds (ps:=["web", "start", "steps"]) (fun _ _ _ _ _ _ us hl=>match us,hl with | [_,_,_],_=>rfl)⟩,
   ze4:=PySem.W.mg_of X G zj9,
   zdR:=⟨zdR,_,zrg,zrg.binds (ps:=["web", "start", "steps"]) (fun _ _ _ _ _ _ us hl=>match us,hl with | [_,_,_],_=>rfl)⟩,
   zfV:=PySem.W.mg_of X G zkd,
   zdS:=⟨zdS,_,zrh,zrh.binds (ps:=["web", "one", "other", "steps"]) (fun _ _ _ _ _ _ us hl=>match us,hl with | [_,_,_,_],_=>rfl)⟩,
   zfW:=PySem.W.mg_of X G zkh,
   zdT:=⟨zdT,_,zri,zri.binds (ps:=["web"]) (fun _ _ _ _ _ _ us hl=>match us,hl with | [_],_=>rfl)⟩,
   zfX:=PySem.W.mg_of X G zkl,
   zdU:=⟨zdU,_,zrj,zrj.binds (ps:=["web", "chosen"]) (fun _ _ _ _ _ _ us hl=>match us,hl with | [_,_],_=>rfl)⟩,
   zfY:=PySem.W.mg_of X G zkp,
   zdV:=⟨zdV,_,zrk,zrk.binds (ps:=["ties", "onward", "start", "arrived"]) (fun _ _ _ _ _ _ us hl=>match us,hl with | [_,_,_,_],_=>rfl)⟩,
   zfZ:=PySem.W.mg_of X G zkt,
   zdW:=⟨zdW,_,zrl,zrl.binds (ps:=["web", "chosen", "start"]) (fun _ _ _ _ _ _ us hl=>match us,hl with | [_,_,_],_=>rfl)⟩,
   zf0:=PySem.W.mg_of X G zkx,
   zdX:=⟨zdX,_,zrm,zrm.binds (ps:=["web", "arrived", "goal"]) (fun _ _ _ _ _ _ us hl=>match us,hl with | [_,_,_],_=>rfl)⟩,
   zf1:=PySem.W.mg_of X G zkB,
   zdY:=⟨zdY,_,zrn,zrn.binds (ps:=["values", "count"]) (fun _ _ _ _ _ _ us hl=>match us,hl with | [_,_],_=>rfl)⟩,
   zf2:=PySem.W.mg_of X G zkF,
   zdZ:=⟨zdZ,_,zro,zro.binds (ps:=["points", "ties", "one", "other"]) (fun _ _ _ _ _ _ us hl=>match us,hl with | [_,_,_,_],_=>rfl)⟩,
   zf3:=PySem.W.mg_of X G zkJ,
   zd0:=⟨zd0,_,zrp,zrp.binds (ps:=["self", "steps"]) (fun _ _ _ _ _ _ us hl=>match us,hl with | [_,_],_=>rfl)⟩,
   zdh:=⟨zdh,_,zrq,zrq.binds (ps:=["self", "web", "tie"]) (fun _ _ _ _ _ _ us hl=>match us,hl with | [_,_,_],_=>rfl)⟩,
   zd1:=⟨zd1,_,zrr,zrr.binds (ps:=["self", "points"]) (fun _ _ _ _ _ _ us hl=>match us,hl with | [_,_],_=>rfl)⟩,
   zdi:=⟨zdi,_,zrs,zrs.binds (ps:=["self", "web", "tie"]) (fun _ _ _ _ _ _ us hl=>match us,hl with | [_,_,_],_=>rfl)⟩,
   zd2:=⟨zd2,_,zrt,zrt.binds (ps:=["web", "tie"]) (fun _ _ _ _ _ _ us hl=>match us,hl with | [_,_],_=>rfl)⟩,
   zcX:=PySem.W.mg_of X G zk5,
   zbZ:=⟨zbZ,_,zru,zru.binds (ps:=["_law_script", "_law_k"]) (fun _ _ _ _ _ _ us hl=>match us,hl with | [_,_],_=>rfl)⟩,
   zb9:=PySem.W.mg_of X G zk9,
   zba:=⟨zba,_,zrv,zrv.binds (ps:=["_law_cell", "_law_k", "_law_many"]) (fun _ _ _ _ _ _ us hl=>match us,hl with | [_,_,_],_=>rfl)⟩,
   zD:=PySem.W.mg_of X G zld,
   zd3:=⟨zd3,_,zrw,zrw.binds (ps:=["_law_script"]) (fun _ _ _ _ _ _ us hl=>match us,hl with | [_],_=>rfl)⟩,
   zfr:=PySem.W.mg_of X G zlh,
   zd4:=⟨zd4,_,zrx,zrx.binds (ps:=["_law_ties", "_law_start", "_law_steps"]) (fun _ _ _ _ _ _ us hl=>match us,hl with | [_,_,_],_=>rfl)⟩,
   zf4:=PySem.W.mg_of X G zll,
   zd5:=⟨zd5,_,zry,zry.binds (ps:=["_law_found"]) (fun _ _ _ _ _ _ us hl=>match us,hl with | [_],_=>rfl)⟩,
   zdB:=PySem.W.mg_of X G zlp,
   zd6:=⟨zd6,_,zrz,zrz.binds (ps:=["_law_ties", "_law_start", "_law_steps", "_law_end"]) (fun _ _ _ _ _ _ us hl=>match us,hl with | [_,_,_,_],_=>rfl)⟩,
   zf5:=PySem.W.mg_of X G zlt,
   zd7:=⟨zd7,_,zrA,zrA.binds (ps:=["_law_points", "_law_ties", "_law_some", "_law_skipped"]) (fun _ _ _ _ _ _ us hl=>match us,hl with | [_,_,_,_],_=>rfl)⟩,
   zf6:=PySem.W.mg_of X G zlx,
   zdj:=⟨zdj,_,zrB,zrB.binds (ps:=["_law_points", "_law_ties", "_law_tie", "_law_found"]) (fun _ _ _ _ _ _ us hl=>match us,hl with | [_,_,_,_],_=>rfl)⟩,
   zbP:=PySem.W.mg_of X G zlB,
   zdk:=⟨zdk,_,zrC,zrC.binds (ps:=["_law_script"]) (fun _ _ _ _ _ _ us hl=>match us,hl with | [_],_=>rfl)⟩,
   zhy:=PySem.W.mg_of X G zig,
   zS:=⟨zbf,PySem.W.mg_of X G zlI,⟨zlJ,zlK,zlL,zlM⟩,⟨zlN,hn0,htk0,zlO⟩⟩,
   zqn:=⟨zlP,zjG,zjH,zlQ⟩,
   zeL:=⟨zjL,zjM,zid⟩,
   zgR:=zgR,
   zgS:=zgS,
   zgT:=zgT,
   zbJ:=⟨zbI,PySem.W.mg_of X G zlR,⟨zlS,zlT,zlU,zlV⟩,⟨zlW,hn0,htk0,zlX⟩⟩,
   zbD:=⟨zby,PySem.W.mg_of X G zlY,⟨zlZ,zl0,zl1,zl2⟩,⟨zl3,hn0,htk0,zl4⟩⟩,
   zgU:=zgU,
   zbE:=⟨zbz,PySem.W.mg_of X G zl5,⟨zl6,zl7,zl8,zl9⟩,⟨zma,hn0,htk0,zmb⟩⟩,
   zgV:=zgV,
   zbw:=⟨zbt,PySem.W.mg_of X G zmc,⟨zmd,zme,zmf,zmg⟩,⟨zmh,hn0,htk0,zmi⟩⟩,
   zgW:=zgW,
   zgX:=zgX,
   zbF:=⟨zbA,PySem.W.mg_of X G zmj,⟨zmk,zml,zmm,zmn⟩,⟨zmo,hn0,htk0,zmp⟩⟩,
   zgY:=zgY,
   zbx:=⟨zbu,PySem.W.mg_of X G zmq,⟨zmr,zms,zmt,zmu⟩,⟨zmv,hn0,htk0,zmw⟩⟩,
   zgZ:=zgZ,
   zg0:=zg0,
   zbG:=⟨zbB,PySem.W.mg_of X G zmx,⟨zmy,zmz,zmA,zmB⟩,⟨zmC,hn0,htk0,zmD⟩⟩,
   zg1:=zg1,
   zbH:=⟨zbC,PySem.W.mg_of X G zmE,⟨zmF,zmG,zmH,zmI⟩,⟨zmJ,hn0,htk0,zmK⟩⟩,
   zg2:=zg2,
   zbd:=⟨zbl,PySem.W.mg_of X G zmL,⟨zmM,zmN,zmO,zmP⟩,⟨zmQ,hn0,htk0,zmR⟩⟩,
   zqo:=⟨zmS,zkN,zkO,zmT⟩,
   zia:=⟨zkS,zkT,zie⟩,
   zg3:=zg3,
   zbe:=⟨zbm,PySem.W.mg_of X G zmU,⟨zmV,zmW,zmX,zmY⟩,⟨zmZ,hn0,htk0,zm0⟩⟩,
   zqp:=⟨zm1,zkW,zkX,zm2⟩,
   zib:=⟨zk1,zk2,zif⟩,
   zg4:=zg4,
   n_list:=PySem.W.mg_none_of X G z_list,
   n_range:=PySem.W.mg_none_of X G z_range,
   n_all:=PySem.W.mg_none_of X G z_all,
   n_dict:=PySem.W.mg_none_of X G z_dict,
   n_isinstance:=PySem.W.mg_none_of X G z_isinstance,
   n_int:=PySem.W.mg_none_of X G z_int,
   n_len:=PySem.W.mg_none_of X G z_len,
   n_sorted:=PySem.W.mg_none_of X G z_sorted,
   n_any:=PySem.W.mg_none_of X G z_any,
   n_bool:=PySem.W.mg_none_of X G z_bool,
   n_tuple:=PySem.W.mg_none_of X G z_tuple,
   n_set:=PySem.W.mg_none_of X G z_set,
   n_zip:=PySem.W.mg_none_of X G z_zip,
   n_sum:=PySem.W.mg_none_of X G z_sum,
   n_abs:=PySem.W.mg_none_of X G z_abs,
   v_MOST:=⟨_,PySem.W.mg_of X G u_MOST,⟨_,rfl⟩⟩,
   v_FORTH:=⟨_,PySem.W.mg_of X G u_FORTH,⟨_,rfl⟩⟩,
   v_BACK:=⟨_,PySem.W.mg_of X G u_BACK,⟨_,rfl⟩⟩,
   zd8:=⟨zm3,zm4,zm5,zm6,zm7,zm8,zm9,zna,znb,znc,znd⟩,
   zd9:=⟨zne,znf,zng,znh,zni,znj,znk,znl,znm,znn,zno⟩,
   zea:=⟨znp,znq,znr,zns,znt,znu,znv,znw,znx,zny,znz⟩,
   zeb:=⟨znA,znB,znC,znD,znE,znF,znG,znH,znI,znJ,znK⟩,
   zec:=⟨znL,znM,znN,znO,znP,znQ,znR,znS,znT,znU,znV⟩,
   zed:=⟨znW,znX,znY,znZ,zn0,zn1,zn2,zn3,zn4,zn5,zn6⟩,
   zee:=⟨zn7,zn8,zn9,zoa,zob,zoc,zod,zoe,zof,zog,zoh⟩,
   zef:=⟨zoi,zoj,zok,zol,zom,zon,zoo,zop,zoq,zor,zos⟩,
   zeg:=⟨zot,zou,zov,zow,zox,zoy,zoz,zoA,zoB,zoC,zoD⟩,
   zeh:=⟨zoE,zoF,zoG,zoH,zoI,zoJ,zoK,zoL,zoM,zoN,zoO⟩,
   zei:=⟨zoP,zoQ,zoR,zoS,zoT,zoU,zoV,zoW,zoX,zoY,zoZ⟩ }
 exact ⟨T.zdk.d,fun s v=> .of_eq rfl,fun base _ _=>zD8 T⟩
theorem walk {l:PySem.W.OpenLaw}{q:Program}{loose:List Str}{XP:(Str->Option Value)->Heap->Prop}{YP:World->Heap->Prop}{d:DefRec}{K:Params->PySem.W.Frag} (hn:l.most=some 63) (hdf:d.params.defaults=[])
   (hY:∀ (w:World) (h:Heap),YP w h->(K w.params).In h)
   (F:∀ (w:World) (mg:Str->Option Value) (fa:Addr) (h:Heap),(K w.params).In h->h.Ns mainGlobals mg->mg d.name=some (.ref fa) ->
     ∃ fd:FuncData,(∀ (s:Shared) (u:Value),BindsTo s fd ⟨[u],[]⟩ [("_law_script",u)])∧∀ base:Heap,(K w.params).In base->base.Ns mainGlobals mg->zK l.prog w (K w.params) mg base CX0 10 fa fd ["_law_script"] (zhn (K w.params))) :
   PySem.W.WalkO q loose XP YP l.row.toRowW d [] (fun f vs=>PySem.call f vs) :=
 L2.walk_of (n:=63) (k:=10) (x :="_law_script") (CX:=fun _=>CX0) (sp:=fun w=>zhn (K w.params)) hn (by decide) hdf ⟨rfl,by decide,by decide⟩ hY F (fun _ _ a ns hl ho hS=>MI.law_start ho hl hS) fun _ _ _ _ _ z=>z
end My
open PySem PySem.W PyProof.Rows
set_option maxRecDepth 100000 in
set_option maxHeartbeats 0 in
theorem PySem.Challenge.cw_closering_k03_whole_spare_holds : PySem.Challenge.rw_closering_k03_whole_spare.Holds := by
 w_on;o_law;k_head;(case hw=>w_witness2)
 k_fill
 refine My.walk (l:=PySem.Challenge.rw_closering_k03_whole_spare) rfl rfl (fun w h Y=>PySem.W.kIn_of Y) ?F
 case F =>
   intro w mg fa h KX G hmg
   refine' My.all_mk KX G hmg ?zjm ?zjn ?zjo ?zjp ?zjq ?zjr ?zjs ?zjt ?zju ?zjv ?zjw ?zjx ?zjy ?zjz ?zjA ?zjB ?zjC ?zjD ?zjE ?zjF ?zjG ?zjH ?zjI ?zjJ ?zjK ?zjL ?zjM ?zjN ?zjO ?zid ?zjP ?zjQ ?zjR ?zjS ?zjT ?zjU ?zjV ?zjW ?zjX ?zjY ?zjZ ?zj0 ?zj1 ?zj2 ?zj3 ?zj4 ?zj5 ?zj6 ?zj7 ?zj8 ?zj9 ?zka ?zkb ?zkc ?zkd ?zke ?zkf ?zkg ?zkh ?zki ?zkj ?zkk ?zkl ?zkm ?zkn ?zko ?zkp ?zkq ?zkr ?zks ?zkt ?zku ?zkv ?zkw ?zkx ?zky ?zkz ?zkA ?zkB ?zkC ?zkD ?zkE ?zkF ?zkG ?zkH ?zkI ?zkJ ?zkK ?zkL ?zkM ?zkN ?zkO ?zkP ?zkQ ?zkR ?zkS ?zkT ?zkU ?zkV ?zie ?zkW ?zkX ?zkY ?zkZ ?zk0 ?zk1 ?zk2 ?zk3 ?zk4 ?zif ?zk5 ?zk6 ?zk7 ?zk8 ?zk9 ?zla ?zlb ?zlc ?zld ?zle ?zlf ?zlg ?zlh ?zli ?zlj ?zlk ?zll ?zlm ?zln ?zlo ?zlp ?zlq ?zlr ?zls ?zlt ?zlu ?zlv ?zlw ?zlx ?zly ?zlz ?zlA ?zlB ?zlC ?zlD ?zlE ?zig ?zlF ?zlG ?zlH ?zlI ?zlJ ?zlK ?zlL ?zlM ?zlN ?zlO ?zlP ?zlQ ?zgR ?zgS ?zgT ?zlR ?zlS ?zlT ?zlU ?zlV ?zlW ?zlX ?zlY ?zlZ ?zl0 ?zl1 ?zl2 ?zl3 ?zl4 ?zgU ?zl5 ?zl6 ?zl7 ?zl8 ?zl9 ?zma ?zmb ?zgV ?zmc ?zmd ?zme ?zmf ?zmg ?zmh ?zmi ?zgW ?zgX ?zmj ?zmk ?zml ?zmm ?zmn ?zmo ?zmp ?zgY ?zmq ?zmr ?zms ?zmt ?zmu ?zmv ?zmw ?zgZ ?zg0 ?zmx ?zmy ?zmz ?zmA ?zmB ?zmC ?zmD ?zg1 ?zmE ?zmF ?zmG ?zmH ?zmI ?zmJ ?zmK ?zg2 ?zmL ?zmM ?zmN ?zmO ?zmP ?zmQ ?zmR ?zmS ?zmT ?zg3 ?zmU ?zmV ?zmW ?zmX ?zmY ?zmZ ?zm0 ?zm1 ?zm2 ?zg4 ?z_list ?z_range ?z_all ?z_dict ?z_isinstance ?z_int ?z_len ?z_sorted ?z_any ?z_bool ?z_tuple ?z_set ?z_zip ?z_sum ?z_abs ?u_MOST ?u_FORTH ?u_BACK ?zm3 ?zm4 ?zm5 ?zm6 ?zm7 ?zm8 ?zm9 ?zna ?znb ?znc ?znd ?zne ?znf ?zng ?znh ?zni ?znj ?znk ?znl ?znm ?znn ?zno ?znp ?znq ?znr ?zns ?znt ?znu ?znv ?znw ?znx ?zny ?znz ?znA ?znB ?znC ?znD ?znE ?znF ?znG ?znH ?znI ?znJ ?znK ?znL ?znM ?znN ?znO ?znP ?znQ ?znR ?znS ?znT ?znU ?znV ?znW ?znX ?znY ?znZ ?zn0 ?zn1 ?zn2 ?zn3 ?zn4 ?zn5 ?zn6 ?zn7 ?zn8 ?zn9 ?zoa ?zob ?zoc ?zod ?zoe ?zof ?zog ?zoh ?zoi ?zoj ?zok ?zol ?zom ?zon ?zoo ?zop ?zoq ?zor ?zos ?zot ?zou ?zov ?zow ?zox ?zoy ?zoz ?zoA ?zoB ?zoC ?zoD ?zoE ?zoF ?zoG ?zoH ?zoI ?zoJ ?zoK ?zoL ?zoM ?zoN ?zoO ?zoP ?zoQ ?zoR ?zoS ?zoT ?zoU ?zoV ?zoW ?zoX ?zoY ?zoZ ?hn0 ?htk0
   (case zlI=>k_is);(case zlR=>k_is);(case zlY=>k_is);(case zl5=>k_is);(case zmc=>k_is);(case zmj=>k_is)
   (case zmq=>k_is);(case zmx=>k_is);(case zmE=>k_is);(case zmL=>k_is);(case zmU=>k_is);(case zjm=>k_is)
   (case zjn=>k_is);(case zjo=>k_is);(case zjp=>k_is);(case zjq=>k_is);(case zjr=>k_is);(case zjs=>k_is)
   (case zjt=>k_is);(case zju=>k_is);(case zjv=>k_is);(case zjw=>k_is);(case zjx=>k_is);(case zjy=>k_is)
   (case zjz=>k_is);(case zjA=>k_is);(case zjB=>k_is);(case zjC=>k_is);(case zjD=>k_is);(case zjE=>k_is)
   (case zjF=>k_is);(case zjG=>k_is);(case zjH=>k_is);(case zjI=>k_is);(case zjJ=>k_is);(case zjK=>k_is)
   (case zjL=>k_is);(case zjM=>k_is);(case zjN=>k_is);(case zjO=>k_is);(case zid=>k_is);(case zjP=>k_is)
   (case zjQ=>k_is);(case zjR=>k_is);(case zjS=>k_is);(case zjT=>k_is);(case zjU=>k_is);(case zjV=>k_is)
   (case zjW=>k_is);(case zjX=>k_is);(case zjY=>k_is);(case zjZ=>k_is);(case zj0=>k_is);(case zj1=>k_is)
   (case zj2=>k_is);(case zj3=>k_is);(case zj4=>k_is);(case zj5=>k_is);(case zj6=>k_is);(case zj7=>k_is)
   (case zj8=>k_is);(case zj9=>k_is);(case zka=>k_is);(case zkb=>k_is);(case zkc=>k_is);(case zkd=>k_is)
   (case zke=>k_is);(case zkf=>k_is);(case zkg=>k_is);(case zkh=>k_is);(case zki=>k_is);(case zkj=>k_is)
   (case zkk=>k_is);(case zkl=>k_is);(case zkm=>k_is);(case zkn=>k_is);(case zko=>k_is);(case zkp=>k_is)
   (case zkq=>k_is);(case zkr=>k_is);(case zks=>k_is);(case zkt=>k_is);(case zku=>k_is);(case zkv=>k_is)
   (case zkw=>k_is);(case zkx=>k_is);(case zky=>k_is);(case zkz=>k_is);(case zkA=>k_is);(case zkB=>k_is)
   (case zkC=>k_is);(case zkD=>k_is);(case zkE=>k_is);(case zkF=>k_is);(case zkG=>k_is);(case zkH=>k_is)
   (case zkI=>k_is);(case zkJ=>k_is);(case zkK=>k_is);(case zkL=>k_is);(case zkM=>k_is);(case zkN=>k_is)
   (case zkO=>k_is);(case zkP=>k_is);(case zkQ=>k_is);(case zkR=>k_is);(case zkS=>k_is);(case zkT=>k_is)
   (case zkU=>k_is);(case zkV=>k_is);(case zie=>k_is);(case zkW=>k_is);(case zkX=>k_is);(case zkY=>k_is)
   (case zkZ=>k_is);(case zk0=>k_is);(case zk1=>k_is);(case zk2=>k_is);(case zk3=>k_is);(case zk4=>k_is)
   (case zif=>k_is);(case zk5=>k_is);(case zk6=>k_is);(case zk7=>k_is);(case zk8=>k_is);(case zk9=>k_is)
   (case zla=>k_is);(case zlb=>k_is);(case zlc=>k_is);(case zld=>k_is);(case zle=>k_is);(case zlf=>k_is)
   (case zlg=>k_is);(case zlh=>k_is);(case zli=>k_is);(case zlj=>k_is);(case zlk=>k_is);(case zll=>k_is)
   (case zlm=>k_is);(case zln=>k_is);(case zlo=>k_is);(case zlp=>k_is);(case zlq=>k_is);(case zlr=>k_is)
   (case zls=>k_is);(case zlt=>k_is);(case zlu=>k_is);(case zlv=>k_is);(case zlw=>k_is);(case zlx=>k_is)
   (case zly=>k_is);(case zlz=>k_is);(case zlA=>k_is);(case zlB=>k_is);(case zlC=>k_is);(case zlD=>k_is)
   (case zlE=>k_is);(case zig=>k_is);(case zlF=>k_is);(case zlG=>k_is);(case zlH=>k_is);(case zlJ=>k_is)
   (case zlK=>k_is);(case zlL=>k_is);(case zlM=>k_is);(case zlN=>k_is);(case zlO=>k_is);(case zlP=>k_is)
   (case zlQ=>k_is);(case zgR=>k_is);(case zgS=>k_is);(case zgT=>k_is);(case zlS=>k_is);(case zlT=>k_is)
   (case zlU=>k_is);(case zlV=>k_is);(case zlW=>k_is);(case zlX=>k_is);(case zlZ=>k_is);(case zl0=>k_is)
   (case zl1=>k_is);(case zl2=>k_is);(case zl3=>k_is);(case zl4=>k_is);(case zgU=>k_is);(case zl6=>k_is)
   (case zl7=>k_is);(case zl8=>k_is);(case zl9=>k_is);(case zma=>k_is);(case zmb=>k_is);(case zgV=>k_is)
   (case zmd=>k_is);(case zme=>k_is);(case zmf=>k_is);(case zmg=>k_is);(case zmh=>k_is);(case zmi=>k_is)
   (case zgW=>k_is);(case zgX=>k_is);(case zmk=>k_is);(case zml=>k_is);(case zmm=>k_is);(case zmn=>k_is)
   (case zmo=>k_is);(case zmp=>k_is);(case zgY=>k_is);(case zmr=>k_is);(case zms=>k_is);(case zmt=>k_is)
   (case zmu=>k_is);(case zmv=>k_is);(case zmw=>k_is);(case zgZ=>k_is);(case zg0=>k_is);(case zmy=>k_is)
   (case zmz=>k_is);(case zmA=>k_is);(case zmB=>k_is);(case zmC=>k_is);(case zmD=>k_is);(case zg1=>k_is)
   (case zmF=>k_is);(case zmG=>k_is);(case zmH=>k_is);(case zmI=>k_is);(case zmJ=>k_is);(case zmK=>k_is)
   (case zg2=>k_is);(case zmM=>k_is);(case zmN=>k_is);(case zmO=>k_is);(case zmP=>k_is);(case zmQ=>k_is)
   (case zmR=>k_is);(case zmS=>k_is);(case zmT=>k_is);(case zg3=>k_is);(case zmV=>k_is);(case zmW=>k_is)
   (case zmX=>k_is);(case zmY=>k_is);(case zmZ=>k_is);(case zm0=>k_is);(case zm1=>k_is);(case zm2=>k_is)
   (case zg4=>k_is);(case z_list=>k_is);(case z_range=>k_is);(case z_all=>k_is);(case z_dict=>k_is);(case z_isinstance=>k_is)
   (case z_int=>k_is);(case z_len=>k_is);(case z_sorted=>k_is);(case z_any=>k_is);(case z_bool=>k_is);(case z_tuple=>k_is)
   (case z_set=>k_is);(case z_zip=>k_is);(case z_sum=>k_is);(case z_abs=>k_is);(case u_MOST=>k_is);(case u_FORTH=>k_is)
   (case u_BACK=>k_is);(case zm3=>kit_is);(case zm4=>kit_is);(case zm5=>kit_is);(case zm6=>kit_is);(case zm7=>kit_is)
   (case zm8=>kit_is);(case zm9=>kit_is);(case zna=>kit_is);(case znb=>kit_is);(case znc=>kit_is);(case znd=>kit_is)
   (case zne=>kit_is);(case znf=>kit_is);(case zng=>kit_is);(case znh=>kit_is);(case zni=>kit_is);(case znj=>kit_is)
   (case znk=>kit_is);(case znl=>kit_is);(case znm=>kit_is);(case znn=>kit_is);(case zno=>kit_is);(case znp=>kit_is)
   (case znq=>kit_is);(case znr=>kit_is);(case zns=>kit_is);(case znt=>kit_is);(case znu=>kit_is);(case znv=>kit_is)
   (case znw=>kit_is);(case znx=>kit_is);(case zny=>kit_is);(case znz=>kit_is);(case znA=>kit_is);(case znB=>kit_is)
   (case znC=>kit_is);(case znD=>kit_is);(case znE=>kit_is);(case znF=>kit_is);(case znG=>kit_is);(case znH=>kit_is)
   (case znI=>kit_is);(case znJ=>kit_is);(case znK=>kit_is);(case znL=>kit_is);(case znM=>kit_is);(case znN=>kit_is)
   (case znO=>kit_is);(case znP=>kit_is);(case znQ=>kit_is);(case znR=>kit_is);(case znS=>kit_is);(case znT=>kit_is)
   (case znU=>kit_is);(case znV=>kit_is);(case znW=>kit_is);(case znX=>kit_is);(case znY=>kit_is);(case znZ=>kit_is)
   (case zn0=>kit_is);(case zn1=>kit_is);(case zn2=>kit_is);(case zn3=>kit_is);(case zn4=>kit_is);(case zn5=>kit_is)
   (case zn6=>kit_is);(case zn7=>kit_is);(case zn8=>kit_is);(case zn9=>kit_is);(case zoa=>kit_is);(case zob=>kit_is)
   (case zoc=>kit_is);(case zod=>kit_is);(case zoe=>kit_is);(case zof=>kit_is);(case zog=>kit_is);(case zoh=>kit_is)
   (case zoi=>kit_is);(case zoj=>kit_is);(case zok=>kit_is);(case zol=>kit_is);(case zom=>kit_is);(case zon=>kit_is)
   (case zoo=>kit_is);(case zop=>kit_is);(case zoq=>kit_is);(case zor=>kit_is);(case zos=>kit_is);(case zot=>kit_is)
   (case zou=>kit_is);(case zov=>kit_is);(case zow=>kit_is);(case zox=>kit_is);(case zoy=>kit_is);(case zoz=>kit_is)
   (case zoA=>kit_is);(case zoB=>kit_is);(case zoC=>kit_is);(case zoD=>kit_is);(case zoE=>kit_is);(case zoF=>kit_is)
   (case zoG=>kit_is);(case zoH=>kit_is);(case zoI=>kit_is);(case zoJ=>kit_is);(case zoK=>kit_is);(case zoL=>kit_is)
   (case zoM=>kit_is);(case zoN=>kit_is);(case zoO=>kit_is);(case zoP=>kit_is);(case zoQ=>kit_is);(case zoR=>kit_is)
   (case zoS=>kit_is);(case zoT=>kit_is);(case zoU=>kit_is);(case zoV=>kit_is);(case zoW=>kit_is);(case zoX=>kit_is)
   (case zoY=>kit_is);(case zoZ=>kit_is);(case hn0=>k_is);(case htk0=>k_is)

