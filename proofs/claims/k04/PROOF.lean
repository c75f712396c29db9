import PyProof.Rows.All
import Wide.All
import OpenK.AllK
import Wide.FinOn
import Lean
import PyProof.EqAt
import PyProof.EqKinds
import PyProof.TupleCall
import PySem.Challenge.RW_closering_k04_whole_fewest
set_option Elab.async false
set_option linter.all false
set_option maxRecDepth 100000
section
namespace MI
open PySem (Str)
inductive D where
 | non | bl (b:Bool) | int (i:Int) | str (x:Str) | tup (ds:List D) | obj (n:Nat)
deriving Inhabited
mutual
def D.eq:D->D->Bool
 | .non,.non=>true
 | .bl a,.bl b=>a == b
 | .int a,.int b=>a == b
 | .str a,.str b=>decide (a=b)
 | .tup a,.tup b=>eqs a b
 | .obj a,.obj b=>a == b
 | _,_=>false
def eqs:List D->List D->Bool
 | [],[]=>true
 | a :: r,b :: q=>D.eq a b && eqs r q
 | _,_=>false
end
mutual
theorem D.eq_iff:∀ a b:D,D.eq a b=true↔a=b
 | .non,b=>by cases b <;> simp [D.eq]
 | .bl a,b=>by cases b <;> simp [D.eq]
 | .int a,b=>by cases b <;> simp [D.eq]
 | .str a,b=>by cases b <;> simp [D.eq]
 | .obj a,b=>by cases b <;> simp [D.eq]
 | .tup a,b=>by
   cases b with
   | tup b=>simp [D.eq,zrH a b]
   | _=>simp [D.eq]
theorem zrH:∀ a b:List D,eqs a b=true↔a=b
 | [],b=>by cases b <;> simp [eqs]
 | x :: r,b=>by
   cases b with
   | nil=>simp [eqs]
   | cons y q=>simp [eqs,D.eq_iff x y,zrH r q]
end
instance:DecidableEq D:=fun a b=>decidable_of_iff _ (D.eq_iff a b)
mutual
def D.nr:D->Bool
 | .obj _=>false
 | .tup ds=>nrs ds
 | _=>true
def nrs:List D->Bool
 | []=>true
 | d :: r=>d.nr && nrs r
end
inductive O where
 | lst (xs:List D) | scr (xs:List D) | dic (kvs:List (Int×D)) | hole | set (xs:List Int) | ins (c:Nat) (fs:List (Nat×D))
deriving Inhabited,DecidableEq
def O.flat:O->Bool
 | .lst xs=>nrs xs
 | .scr _=>false
 | .dic kvs=>nrs (kvs.map (·.2))
 | .hole=>false
 | .set _=>true
 | .ins _ _=>false
abbrev zw:=List (Option D)
abbrev MH:=List O
inductive R (α:Type) where
 | ok (a:α) (h:MH) | ex (c:Nat) (h:MH) | bad
abbrev ME (α:Type):=zw->MH->R α
inductive RS where
 | nx (e:zw) (h:MH) | rt (v:D) (h:MH) | bk (e:zw) (h:MH) | ct (e:zw) (h:MH) | ex (c:Nat) (h:MH) | bad
abbrev MS:=zw->MH->RS
abbrev MF:=List D->MH->R D
section
variable {α β:Type}
def za (a:α):ME α:=fun _ h=> .ok a h
def zI:ME α:=fun _ _=> .bad
def zl (m:ME α) (k:α->ME β):ME β:=fun e h=>match m e h with
 | .ok a h1=>k a e h1
 | .ex c h1=> .ex c h1
 | .bad=> .bad
end
def var (i:Nat):ME D:=fun e h=>match e[i]? with
 | some (some d)=> .ok d h
 | _=> .bad
def un (f:D->ME D) (a:ME D):ME D:=zl a f
def bin (f:D->D->ME D) (a b:ME D):ME D:=zl a fun x=>zl b fun y=>f x y
def zg1 (o:O):ME D:=fun _ h=> .ok (.obj h.length) (h++[o])
def O.items:O->Option (List D)
 | .lst xs=>some xs
 | .scr xs=>some xs
 | _=>none
def zcc (n:Nat):ME (List D):=fun _ h=>match h[n]? with
 | some (.lst xs)=> .ok xs h
 | _=> .bad
def z9:D->ME D
 | .int i=>za (.int (-i))
 | _=>zI
def zF:D->D->ME D
 | .int i,.int j=>za (.int (i+j))
 | _,_=>zI
def zQ:D->D->ME D
 | .int i,.int j=>za (.int (i - j))
 | _,_=>zI
def zcI (i:Int):Bool:=decide (-18446744073709551616 < i) && decide (i < 18446744073709551616)
def zb3:D->D->ME D
 | .int i,.int j=>if zcI i || zcI j then za (.int (i * j)) else zI
 | _,_=>zI
def zdl:D->D->ME D
 | .int i,.int j=>if 0 < j∧j < 1073741824 then za (.int (i / j)) else zI
 | _,_=>zI
def zbE:D->D->ME D
 | .int i,.int j=>if 0 < j then za (.int (i % j)) else zI
 | _,_=>zI
def zhC (p:Int->Int->Bool):D->D->ME D
 | .int i,.int j=>za (.bl (p i j))
 | _,_=>zI
def ltV:=zhC fun i j=>decide (i < j)
def leV:=zhC fun i j=>decide (i<=j)
def gtV:=zhC fun i j=>decide (j < i)
def geV:=zhC fun i j=>decide (j<=i)
mutual
def peq:D->D->Bool
 | .non,.non=>true
 | .bl a,.bl b=>a == b
 | .bl a,.int b=>(if a then 1 else 0) == b
 | .int a,.bl b=>a == (if b then 1 else 0)
 | .int a,.int b=>a == b
 | .str a,.str b=>a == b
 | .tup a,.tup b=>zbT a b
 | _,_=>false
def zbT:List D->List D->Bool
 | [],[]=>true
 | a :: r,b :: q=>peq a b && zbT r q
 | _,_=>false
end
def D.pl:Nat->D->Bool
 | _,.obj _=>false
 | 0,.tup _=>false
 | n+1,.tup ds=>ds.all (D.pl n)
 | _,_=>true
inductive Cmp where
 | d (x:D) | l (xs:List D)
def zcb (h:MH):D->Option Cmp
 | .obj n=>match h[n]? with
   | some (.lst xs)=>if xs.all (D.pl 5) then some (.l xs) else none
   | _=>none
 | x=>if x.pl 5 then some (.d x) else none
def Cmp.eq:Cmp->Cmp->Bool
 | .d x,.d y=>peq x y
 | .l x,.l y=>zbT x y
 | _,_=>false
def eqV (x y:D):ME D:=fun _ h=>match zcb h x,zcb h y with
 | some a,some b=> .ok (.bl (a.eq b)) h
 | _,_=> .bad
def neV (x y:D):ME D:=fun _ h=>match zcb h x,zcb h y with
 | some a,some b=> .ok (.bl (!a.eq b)) h
 | _,_=> .bad
def zcv:D->Bool
 | .non=>true
 | .bl _=>true
 | .int _=>true
 | .str _=>true
 | _=>false
def look (k:Int):List (Int×D)->Option D
 | []=>none
 | p :: r=>if p.1=k then some p.2 else look k r
def zeZ (k:Int) (v:D) (kvs:List (Int×D)):List (Int×D) :=
 if (kvs.any fun p=>decide (p.1=k))=true then kvs.map (fun p=>if p.1=k then (p.1,v) else p) else kvs++[(k,v)]
def inB (x:D) (xs:List D):Bool:=xs.any fun y=>peq y x
def inV (x y:D):ME D:=fun _ h=>match y with
 | .tup ds=>if zcv x && ds.all zcv then .ok (.bl (inB x ds)) h else .bad
 | .obj n=>match h[n]? with
   | some (.lst xs)=>if zcv x && xs.all zcv then .ok (.bl (inB x xs)) h else .bad
   | some (.scr xs)=>if zcv x && xs.all zcv then .ok (.bl (inB x xs)) h else .bad
   | some (.dic kvs)=>match x with
     | .int k=> .ok (.bl (look k kvs).isSome) h
     | _=> .bad
   | _=> .bad
 | _=> .bad
def zd8 (x y:D):ME D:=zl (inV x y) fun b=>match b with
 | .bl b=>za (.bl !b)
 | _=>zI
def isN:D->D->ME D
 | x,.non=>za (.bl (decide (x = .non)))
 | .bl a,.bl b=>za (.bl (a == b))
 | _,_=>zI
def zce (x y:D):ME D:=zl (isN x y) fun b=>match b with
 | .bl b=>za (.bl !b)
 | _=>zI
def zfC:D->ME D
 | .bl b=>za (.bl !b)
 | _=>zI
def ze8 (a b:ME D):ME D:=zl a fun x=>match x with
 | .bl true=>b
 | .bl false=>za (.bl false)
 | _=>zI
def orV (a b:ME D):ME D:=zl a fun x=>match x with
 | .bl true=>za (.bl true)
 | .bl false=>b
 | _=>zI
def zgm (f g:D->D->ME D) (a b c:ME D):ME D:=zl a fun x=>zl b fun y=>zl (f x y) fun t=>match t with
 | .bl true=>zl c fun z=>g y z
 | .bl false=>za (.bl false)
 | _=>zI
def tst (m:ME D):ME Bool:=zl m fun x=>match x with
 | .bl b=>za b
 | _=>zI
def zgR (x:D):ME Bool:=fun _ h=>match x with
 | .non=> .ok false h
 | .bl b=> .ok b h
 | .int i=> .ok (i != 0) h
 | .tup ds=> .ok (!ds.isEmpty) h
 | .obj n=>match h[n]? with
   | some (.lst xs)=> .ok (!xs.isEmpty) h
   | some (.scr xs)=> .ok (!xs.isEmpty) h
   | some (.dic kvs)=> .ok (!kvs.isEmpty) h
   | _=> .bad
 | _=> .bad
def tru (m:ME D):ME Bool:=zl m zgR
def zbV (a b:ME Bool):ME Bool:=zl a fun c=>if c=true then b else za false
def orT (a b:ME Bool):ME Bool:=zl a fun c=>if c=true then za true else b
def z8 (a:ME Bool):ME Bool:=zl a fun c=>za !c
def ifE (t:ME Bool) (a b:ME D):ME D:=zl t fun c=>if c=true then a else b
def zd:ME (List D):=za []
def zb (a:ME D) (r:ME (List D)):ME (List D):=zl a fun x=>zl r fun xs=>za (x :: xs)
def zca (r:ME (List D)):ME D:=zl r fun xs=>if xs.length<=1000 then za (.tup xs) else zI
def zbA (r:ME (List D)):ME (List D):=zl r fun xs=>if xs.length<=1000 then za xs else zI
def zH (r:ME (List D)):ME D:=zl r fun xs=>zg1 (.lst xs)
def zcn (a:ME D):ME (List D):=zl a fun x=>match x with
 | .obj n=>zcc n
 | _=>zI
def zbN (a:ME D):ME (List D):=zl a fun x=>fun _ h=>match x with
 | .obj n=>(match h[n]? with
   | some (.lst xs)=> .ok xs h
   | some (.scr xs)=> .ok xs h
   | _=> .bad)
 | .tup ds=> .ok ds h
 | _=> .bad
def ixN (n:Nat) (i:Int):Option Nat:=if 0<=i then (if i < n then some i.toNat else none) else if -(n:Int)<=i then some (i+n).toNat else none
def atI {α:Type} (xs:List α) (i:Int):Option α:=(ixN xs.length i).bind fun j=>xs[j]?
def zi (x i:D):ME D:=fun _ h=>match x,i with
 | .tup ds,.int i=>match atI ds i with
   | some d=> .ok d h
   | none=> .bad
 | .obj n,.int i=>match h[n]? with
   | some (.lst xs)=>(match atI xs i with
     | some d=> .ok d h
     | none=> .bad)
   | some (.scr xs)=>(match atI xs i with
     | some d=> .ok d h
     | none=> .bad)
   | some (.dic kvs)=>(match look i kvs with
     | some d=> .ok d h
     | none=> .bad)
   | _=> .bad
 | _,_=> .bad
def sIx (n d:Nat):Option Int->Nat
 | none=>d
 | some v=>(if v < 0 then max (v+n) 0 else min v n).toNat
def cut {α:Type} (xs:List α) (lo hi:Option Int):List α:=(xs.drop (sIx xs.length 0 lo)).take (sIx xs.length xs.length hi - sIx xs.length 0 lo)
def noP:ME (Option Int):=za none
def zdp (a:ME D):ME (Option Int):=zl a fun x=>match x with
 | .int i=>za (some i)
 | _=>zI
def zdo (a:ME D) (lo hi:ME (Option Int)):ME (List D):=zl a fun x=>zl lo fun l=>zl hi fun u=>match x with
 | .obj n=>zl (zcc n) fun xs=>za (cut xs l u)
 | _=>zI
def zsC (a:ME D) (lo hi:ME (Option Int)):ME D:=zl a fun x=>zl lo fun l=>zl hi fun u=>match x with
 | .tup ds=>if (cut ds l u).length < ds.length then za (.tup (cut ds l u)) else zI
 | _=>zI
def zqv (a:ME D):ME D:=zl a fun x=>match x with
 | .tup [p,q,_]=>za (.tup [q,p])
 | _=>zI
def zcA:List D->Option (List Bool)
 | []=>some []
 | .bl b :: r=>(zcA r).map (b :: ·)
 | _ :: _=>none
def zb4:List D->Option (List Int)
 | []=>some []
 | .int b :: r=>(zb4 r).map (b :: ·)
 | _ :: _=>none
def zg5 (l:ME (List D)):ME D:=zl l fun xs=>match zcA xs with
 | some bs=>za (.bl (bs.all id))
 | none=>zI
def zey (l:ME (List D)):ME D:=zl l fun xs=>match zcA xs with
 | some bs=>za (.bl (bs.any id))
 | none=>zI
def zqq (l:ME (List D)):ME D:=zl l fun xs=>match zb4 xs with
 | some ns=>za (.int ns.sum)
 | none=>zI
def zbP (l:ME (List D)):ME D:=zl l fun xs=>za (.int xs.length)
def zY:List Int->List Int->List Int
 | _,[]=>[]
 | seen,x :: r=>if x∈seen then zY seen r else x :: zY (x :: seen) r
def zhh (l:ME (List D)):ME D:=zl l fun xs=>match zb4 xs with
 | some ns=>if ns.length < 4000 then za (.int (zY [] ns).length) else zI
 | none=>zI
def zcl (x:Int):List Int->List Int
 | []=>[x]
 | y :: r=>if x<=y then x :: y :: r else y :: zcl x r
def sortI (l:List Int):List Int:=l.foldr zcl []
def ziy (l:ME (List D)):ME (List D):=zl l fun xs=>match zb4 xs with
 | some ns=>if ns.length < 64 then za ((sortI ns).map .int) else zI
 | none=>zI
def zix (l:ME (List D)):ME (List D):=zl l fun xs=>match zb4 xs with
 | some ns=>if ns.length < 64 then za ((sortI (zY [] ns)).map .int) else zI
 | none=>zI
def zEw (a:ME D):ME (List D):=zl a fun x=>fun _ h=>match x with
 | .obj n=>match h[n]? with
   | some (.dic kvs)=>if kvs.length < 64 then .ok ((sortI (kvs.map (·.1))).map .int) h else .bad
   | _=> .bad
 | _=> .bad
def zeq (a:ME D):ME D:=zl a fun x=>match x with
 | .int i=>za (.int (if i < 0 then -i else i))
 | _=>zI
def zqP (a:ME D):ME D:=zl a fun x=>match x with
 | .int i=>za (.int i)
 | .bl b=>za (.int (if b then 1 else 0))
 | _=>zI
def zhA (a n:ME D):ME (List D):=zl a fun x=>zl n fun k=>match x,k with
 | .obj m,.int k=>zl (zcc m) fun xs=>if -1000000<=k∧k<=1000000∧xs.length * k.toNat<=1000000 then za (List.replicate k.toNat xs).flatten else zI
 | _,_=>zI
def zdu (a:ME D) (b:ME (List D)):ME (List D):=zl a fun x=>zl b fun ys=>match x with
 | .obj m=>zl (zcc m) fun xs=>if xs.length+ys.length<=1000000 then za (xs++ys) else zI
 | _=>zI
def zsT:List D->Option (List (Int×D))
 | []=>some []
 | .tup [.int k,v] :: r=>(zsT r).map ((k,v) :: ·)
 | _ :: _=>none
def zDw (l:ME (List D)):ME D:=zl l fun xs=>match zsT xs with
 | some ps=>if ps.length<=1000000 then zg1 (.dic (ps.foldl (fun a p=>zeZ p.1 p.2 a) [])) else zI
 | none=>zI
def zoZ:ME D:=zg1 (.dic [])
def zh1 (a:ME D):ME (List D):=zl a fun x=>match x with
 | .int i=>if -1000000<=i∧i<=1000000 then za ((List.range i.toNat).map fun (k:Nat)=>D.int k) else zI
 | _=>zI
inductive Ty where
 | int | bool | str | list | tuple | dict
deriving DecidableEq
def zdm (h:MH) (t:Ty):D->Option Bool
 | .non=>some false
 | .bl _=>some (t == .bool || t == .int)
 | .int _=>some (t == .int)
 | .str _=>some (t == .str)
 | .tup _=>some (t == .tuple)
 | .obj n=>match h[n]? with
   | some (.lst _)=>some (t == .list)
   | some (.dic _)=>some (t == .dict)
   | _=>none
def zdq (t:Ty) (a:ME D):ME D:=zl a fun x=>fun _ h=>match zdm h t x with
 | some b=> .ok (.bl b) h
 | none=> .bad
def zK (sub:Nat->Nat->Bool) (c:Nat) (a:ME D):ME D:=zl a fun x=>fun _ h=>match x with
 | .obj n=>match h[n]? with
   | some (.ins c' _)=> .ok (.bl (sub c' c)) h
   | _=> .bad
 | _=> .bad
def fld (k:Nat) (a:ME D):ME D:=zl a fun x=>fun _ h=>match x with
 | .obj n=>match h[n]? with
   | some (.ins _ fs)=>(match fs.lookup k with
     | some d=> .ok d h
     | none=> .bad)
   | _=> .bad
 | _=> .bad
def zfK (k:Nat) (v:D):List (Nat×D)->List (Nat×D)
 | []=>[(k,v)]
 | p :: r=>if p.1=k then (k,v) :: r else p :: zfK k v r
def isL (x:D):ME Unit:=fun _ h=>match x with
 | .obj n=>(match h[n]? with
   | some (.lst _)=> .ok () h
   | _=> .bad)
 | _=> .bad
def zbJ (a v:ME D):ME D:=zl a fun x=>zl (isL x) fun _=>zl v fun y=>fun _ h=>match x with
 | .obj n=>match h[n]? with
   | some (.lst xs)=>if xs.length < 1000000 then .ok .non (h.set n (.lst (xs++[y]))) else .bad
   | _=> .bad
 | _=> .bad
def zgf (a:ME D):ME D:=zl a fun x=>fun _ h=>match x with
 | .obj n=>match h[n]? with
   | some (.lst xs)=>(match xs[xs.length - 1]? with
     | some y=> .ok y (h.set n (.lst xs.dropLast))
     | none=> .bad)
   | _=> .bad
 | _=> .bad
def zrh (a:ME D):ME D:=zl a fun x=>fun _ h=>match x with
 | .obj n=>match h[n]? with
   | some (.lst xs)=> .ok .non (h.set n (.lst xs.reverse))
   | _=> .bad
 | _=> .bad
def zsS (a:ME D):ME D:=zl a fun x=>fun _ h=>match x with
 | .obj n=>match h[n]? with
   | some (.lst xs)=> .ok .non (h.set n (.lst []))
   | _=> .bad
 | _=> .bad
def zgb (a b:ME D):ME D:=zl a fun x=>zl (isL x) fun _=>zl b fun y=>fun _ h=>match x,y with
 | .obj n,.obj m=>match h[n]?,h[m]? with
   | some (.lst xs),some (.lst ys)=>if xs.length+ys.length<=1000000 then .ok .non (h.set n (.lst (xs++ys))) else .bad
   | _,_=> .bad
 | _,_=> .bad
def zef (h1 h2:MH):Bool:=(List.range h1.length).all fun i=>decide (h2[i]?=h1[i]?) || (match h2[i]? with
 | some o=>o.flat
 | none=>false)
def zcu (n b:Nat) (h2:MH):List D->List Nat->Option (List D×List Nat)
 | [],ms=>some ([],ms)
 | .obj m :: r,ms=>if m < n then (zcu n b h2 r ms).map fun p=>(.obj m :: p.1,p.2)
   else if m∈ms then none else match h2[m]? with
     | some o=>if o.flat=true then (zcu n b h2 r (ms++[m])).map fun p=>(.obj (b+ms.length) :: p.1,p.2) else none
     | none=>none
 | d :: r,ms=>if d.nr=true then (zcu n b h2 r ms).map fun p=>(d :: p.1,p.2) else none
def gcV (n:Nat) (v:D) (h2:MH):D×MH:=match v with
 | .obj m=>if m < n then (v,h2.take n) else match h2[m]? with
   | some (.ins c fs)=>(match zcu n (n+1) h2 (fs.map (·.2)) [] with
     | some (ds,ms)=>(.obj n,h2.take n ++ .ins c ((fs.map (·.1)).zip ds) :: ms.map fun k=>h2.getD k (.lst []))
     | none=>(v,h2))
   | some o=>if o.flat=true then (.obj n,h2.take n++[o]) else (v,h2)
   | none=>(v,h2)
 | .tup ds=>(match zcu n n h2 ds [] with
   | some (ds',ms)=>(.tup ds',h2.take n++ms.map fun k=>h2.getD k (.lst []))
   | none=>(v,h2))
 | _=>(v,h2.take n)
def gc (h1:MH):R D->R D
 | .ok v h2=>if zef h1 h2=true then .ok (gcV h1.length v h2).1 (gcV h1.length v h2).2 else .ok v h2
 | r=>r
def app (f:MF) (ds:List D) (h:MH):R D:=gc h (f ds h)
def zh (f:MF) (args:ME (List D)):ME D:=zl args fun ds=>fun _ h=>app f ds h
def mkF (c:Nat) (f:MF):MF:=fun ds h=>match f (.obj h.length :: ds) (h++[.ins c []]) with
 | .ok .non h2=> .ok (.obj h.length) h2
 | .ok _ _=> .bad
 | .ex c h2=> .ex c h2
 | .bad=> .bad
def zV (tbl:List (Nat×MF)) (o:ME D) (args:ME (List D)):ME D:=zl o fun x=>fun e h=>match x with
 | .obj n=>match h[n]? with
   | some (.ins c _)=>(match tbl.lookup c with
     | some f=>zl args (fun ds=>fun _ h=>app f (x :: ds) h) e h
     | none=> .bad)
   | _=> .bad
 | _=> .bad
def zcH {α:Type} (m:ME α) (k:α->MS):MS:=fun e h=>match m e h with
 | .ok a h1=>k a e h1
 | .ex c h1=> .ex c h1
 | .bad=> .bad
def zq:MS:=fun e h=> .nx e h
def zg4:MS:=fun _ _=> .bad
def zf (a b:MS):MS:=fun e h=>match a e h with
 | .nx e1 h1=>b e1 h1
 | r=>r
def ifS (t:ME Bool) (a b:MS):MS:=zcH t fun c=>if c=true then a else b
def zbb (m:ME D):MS:=zcH m fun _=>zq
def zx (m:ME D):MS:=zcH m fun v _ h=> .rt v h
def zDr:MS:=fun e h=> .bk e h
def zE1:MS:=fun e h=> .ct e h
inductive Tg where
 | nm (i:Nat) | tp (l:List Nat)
def zej:List Nat->List D->zw->Option zw
 | [],[],e=>some e
 | i :: r,x :: xs,e=>zej r xs (e.set i (some x))
 | _,_,_=>none
def zdG:Tg->D->zw->Option zw
 | .nm i,x,e=>some (e.set i (some x))
 | .tp l,.tup ds,e=>zej l ds e
 | .tp _,_,_=>none
def zhq (t:Tg) (v:D):MS:=fun e h=>match zdG t v e with
 | some e1=> .nx e1 h
 | none=> .bad
def zm (t:Tg) (m:ME D):MS:=zcH m (zhq t)
def ziv (l:List Nat) (m:ME (List D)):MS:=zcH m fun vs e h=>match zej l vs e with
 | some e1=> .nx e1 h
 | none=> .bad
def zfA (f:D->D->ME D) (i:Nat) (m:ME D):MS:=zm (.nm i) (zl (var i) fun x=>zl m fun y=>f x y)
def zfs (att:Nat->Nat->Bool) (k:Nat) (o v:ME D):MS:=zcH v fun y=>zcH o fun x=>fun e h=>match x with
 | .obj n=>(match h[n]? with
   | some (.ins c fs)=>if att c k && decide (fs.length < 100) then .nx e (h.set n (.ins c (zfK k y fs))) else .bad
   | _=> .bad)
 | _=> .bad
def zb0 (o i v:ME D):MS:=zcH v fun y=>zcH o fun x=>zcH i fun z=>fun e h=>match x,z with
 | .obj n,.int k=>(match h[n]? with
   | some (.lst xs)=>(match ixN xs.length k with
     | some j=> .nx e (h.set n (.lst (xs.set j y)))
     | none=> .bad)
   | some (.dic kvs)=>if kvs.length < 1000000 then .nx e (h.set n (.dic (zeZ k y kvs))) else .bad
   | _=> .bad)
 | _,_=> .bad
abbrev Src:=List D×List (Nat×O)
def guard (gs:List (Nat×O)) (h:MH):Bool:=gs.all fun p=>decide (h[p.1]?=some p.2)
def zn7 (n:Nat) (f:List D->List D):ME Src:=fun _ h=>match h[n]? with
 | some (.lst xs)=> .ok (f xs,[(n,.lst xs)]) h
 | _=> .bad
def zoo (k:Nat):List D->List D
 | []=>[]
 | x :: r=> .tup [.int k,x] :: zoo (k+1) r
def zcP:List D->List D->List D
 | x :: r,y :: q=> .tup [x,y] :: zcP r q
 | _,_=>[]
def itL (a:ME D):ME Src:=zl a fun x=>match x with
 | .obj n=>zn7 n id
 | _=>zI
def itT (a:ME D):ME Src:=zl a fun x=>match x with
 | .tup ds=>za (ds,[])
 | _=>zI
def itR (a:ME D):ME Src:=zl a fun x=>match x with
 | .int i=>if -1000000<=i∧i<=1000000 then za ((List.range i.toNat).map fun (k:Nat)=>D.int k,[]) else zI
 | _=>zI
def itE (a:ME D):ME Src:=zl a fun x=>match x with
 | .obj n=>zn7 n (zoo 0)
 | _=>zI
def itZ (a b:ME D):ME Src:=zl a fun x=>zl b fun y=>match x,y with
 | .obj n,.obj m=>fun _ h=>(match h[n]?,h[m]? with
   | some (.lst xs),some (.lst ys)=> .ok (zcP xs ys,[(n,.lst xs),(m,.lst ys)]) h
   | _,_=> .bad)
 | _,_=>zI
def zfw (r:RS) (k:MS):RS:=match r with
 | .nx e h=>k e h
 | .ct e h=>k e h
 | .bk e h=> .nx e h
 | r=>r
def zcV (t:Tg) (gs:List (Nat×O)) (body:MS):List D->MS
 | [],e,h=>if guard gs h=true then .nx e h else .bad
 | x :: xs,e,h=>if guard gs h=true then (match zdG t x e with
     | none=> .bad
     | some e1=>zfw (body e1 h) (zcV t gs body xs)) else .bad
def zea (t:Tg) (src:ME Src) (body:MS):MS:=zcH src fun p=>zcV t p.2 body p.1
def zeD (kvs:List (Int×D)):List D:=kvs.map fun p=> .tup [.int p.1,p.2]
def zew (kvs:List (Int×D)):List D:=kvs.map (·.2)
def zfx (n:Nat) (kvs:List (Int×D)):RS->RS
 | .nx e h=>if h[n]?=some .hole then .nx e (h.set n (.dic kvs)) else .bad
 | .bk e h=>if h[n]?=some .hole then .bk e (h.set n (.dic kvs)) else .bad
 | .ct e h=>if h[n]?=some .hole then .ct e (h.set n (.dic kvs)) else .bad
 | .rt v h=>if h[n]?=some .hole then .rt v (h.set n (.dic kvs)) else .bad
 | .ex _ _=> .bad
 | .bad=> .bad
def zhW {α:Type} (n:Nat) (kvs:List (Int×D)):R α->R α
 | .ok a h=>if h[n]?=some .hole then .ok a (h.set n (.dic kvs)) else .bad
 | .ex _ _=> .bad
 | .bad=> .bad
def zht (pr:List (Int×D)->List D) (t:Tg) (a:ME D) (body:MS):MS:=zcH a fun x=>fun e h=>match x with
 | .obj n=>(match h[n]? with
   | some (.dic kvs)=>zfx n kvs (zcV t [] body (pr kvs) e (h.set n .hole))
   | _=> .bad)
 | _=> .bad
def zfG (t:ME Bool) (body:MS):Nat->MS
 | 0=>zg4
 | n+1=>zcH t fun c=>if c=true then (fun e h=>zfw (body e h) (zfG t body n)) else zq
def ze3 (t:ME Bool) (body:MS):MS:=zfG t body 1000000
def zb6 (js:List (Option Nat)) (e:zw):zw:=js.map fun j=>j.bind fun k=>(e[k]?).join
def zcg (t:Tg) (gs:List (Nat×O)) (cond:ME Bool) (elt:ME D):List D->List D->ME (List D)
 | [],acc,e,h=>if guard gs h=true then .ok acc h else .bad
 | x :: xs,acc,e,h=>if guard gs h=true then (match zdG t x e with
     | none=> .bad
     | some e1=>zl cond (fun c=>if c=true then zl elt (fun y=>zcg t gs cond elt xs (acc++[y])) else zcg t gs cond elt xs acc) e1 h) else .bad
def zcX:ME Bool:=za true
def zcY (js:List (Option Nat)) (t:Tg) (src:ME Src) (cond:ME Bool) (elt:ME D):ME (List D):=zl src fun p=>fun e h=>if p.1.length<=1000000 then zcg t p.2 cond elt p.1 [] (zb6 js e) h else .bad
def zhi (pr:List (Int×D)->List D) (js:List (Option Nat)) (t:Tg) (a:ME D) (cond:ME Bool) (elt:ME D):ME (List D):=zl a fun x=>fun e h=>match x with
 | .obj n=>(match h[n]? with
   | some (.dic kvs)=>if (pr kvs).length<=1000000 then zhW n kvs (zcg t [] cond elt (pr kvs) [] (zb6 js e) (h.set n .hole)) else .bad
   | _=> .bad)
 | _=> .bad
def zbf (np nl:Nat) (body:MS):MF:=fun ds h=>if ds.length=np then (match body (ds.map some++List.replicate (nl - np) none) h with
 | .nx _ h1=> .ok .non h1
 | .rt v h1=> .ok v h1
 | .ex c h1=> .ex c h1
 | _=> .bad) else .bad
end MI
end
section
namespace MI
open PySem (Str)
def zu {α β:Type} (r:R α) (f:α->MH->R β):R β:=match r with
 | .ok a h=>f a h
 | .ex c h=> .ex c h
 | .bad=> .bad
def zcE {α:Type} (r:R α) (f:α->MH->RS):RS:=match r with
 | .ok a h=>f a h
 | .ex c h=> .ex c h
 | .bad=> .bad
def zge (r:RS) (f:zw->MH->RS):RS:=match r with
 | .nx e h=>f e h
 | r=>r
def zhe (r:RS):R D:=match r with
 | .nx _ h1=> .ok .non h1
 | .rt v h1=> .ok v h1
 | .ex c h1=> .ex c h1
 | _=> .bad
section
variable {α β:Type}{e e1:zw}{h h1:MH}{x y z d v:D}{i j:Int}{n m k:Nat}
@[simp] theorem zii (a:α) (f:α->MH->R β):zu (.ok a h) f=f a h:=rfl
@[simp] theorem zEW (f:α->MH->R β):zu (.bad) f = .bad:=rfl
@[simp] theorem zhT (a:α) (f:α->MH->RS):zcE (.ok a h) f=f a h:=rfl
@[simp] theorem zDc (f:α->MH->RS):zcE (.bad) f = .bad:=rfl
@[simp] theorem zcW (f:zw->MH->RS):zge (.nx e h) f=f e h:=rfl
@[simp] theorem zDQ (f:zw->MH->RS):zge (.rt v h) f = .rt v h:=rfl
@[simp] theorem zE8 (f:zw->MH->RS):zge (.bk e h) f = .bk e h:=rfl
@[simp] theorem zDF (f:zw->MH->RS):zge (.ct e h) f = .ct e h:=rfl
@[simp] theorem zDX (f:zw->MH->RS):zge .bad f = .bad:=rfl
@[simp] theorem zE0:zhe (.nx e h) = .ok .non h:=rfl
@[simp] theorem zEe:zhe (.rt v h) = .ok v h:=rfl
@[simp] theorem zDR:zhe .bad = .bad:=rfl
@[simp] theorem zB1 (f:MS):zfw (.nx e h) f=f e h:=rfl
@[simp] theorem zE6 (f:MS):zfw (.ct e h) f=f e h:=rfl
@[simp] theorem zEz (f:MS):zfw (.rt v h) f = .rt v h:=rfl
@[simp] theorem zDM (f:MS):zfw .bad f = .bad:=rfl
@[simp] theorem zL (a:ME α) (f:α->ME β):zl a f e h=zu (a e h) fun x h1=>f x e h1:=by unfold zl zu;cases a e h <;> rfl
@[simp] theorem zd7 (a:ME α) (f:α->MS):zcH a f e h=zcE (a e h) fun x h1=>f x e h1:=by unfold zcH zcE;cases a e h <;> rfl
@[simp] theorem zc2 (a b:MS):zf a b e h=zge (a e h) b:=by unfold zf zge;cases a e h <;> rfl
@[simp] theorem zBA (np nl:Nat) (b:MS) (ds:List D):zbf np nl b ds h=if ds.length=np then zhe (b (ds.map some++List.replicate (nl - np) none) h) else .bad:=by
 unfold zbf zhe
 split
 . cases b (ds.map some++List.replicate (nl - np) none) h <;> rfl
 . rfl
@[simp] theorem zEX (a:α):za a e h = .ok a h:=rfl
@[simp] theorem zED:(zI:ME α) e h = .bad:=rfl
@[simp] theorem zrO:var n e h=match e[n]? with
 | some (some d)=> .ok d h
 | _=> .bad:=rfl
@[simp] theorem zEE (f:D->ME D) (a:ME D):un f a e h=zu (a e h) fun x h1=>f x e h1:=zL _ _
@[simp] theorem zDZ (f:D->D->ME D) (a b:ME D):MI.bin f a b e h=zu (a e h) fun x h1=>zu (b e h1) fun y h2=>f x y e h2:=by unfold MI.bin;simp
@[simp] theorem zEO (o:O):zg1 o e h = .ok (.obj h.length) (h++[o]):=rfl
@[simp] theorem zDv:z9 (.int i) e h = .ok (.int (-i)) h:=rfl
@[simp] theorem zE5:zF (.int i) (.int j) e h = .ok (.int (i+j)) h:=rfl
@[simp] theorem zEn:zQ (.int i) (.int j) e h = .ok (.int (i - j)) h:=rfl
@[simp] theorem zDH:zdl (.int i) (.int j) e h=if 0 < j∧j < 1073741824 then .ok (.int (i / j)) h else .bad:=by simp only [zdl];split <;> rfl
@[simp] theorem zDg:zbE (.int i) (.int j) e h=if 0 < j then .ok (.int (i % j)) h else .bad:=by simp only [zbE];split <;> rfl
@[simp] theorem zqy:zb3 (.int i) (.int j) e h=if (zcI i || zcI j)=true then .ok (.int (i * j)) h else .bad:=by simp only [zb3];split <;> rfl
@[simp] theorem zEJ:ltV (.int i) (.int j) e h = .ok (.bl (decide (i < j))) h:=rfl
@[simp] theorem zDu:leV (.int i) (.int j) e h = .ok (.bl (decide (i<=j))) h:=rfl
@[simp] theorem zDk:gtV (.int i) (.int j) e h = .ok (.bl (decide (j < i))) h:=rfl
@[simp] theorem zDf:geV (.int i) (.int j) e h = .ok (.bl (decide (j<=i))) h:=rfl
@[simp] theorem zDU:eqV (.int i) (.int j) e h = .ok (.bl (decide (i=j))) h:=by simp only [eqV,zcb,D.pl,if_pos,Cmp.eq,peq,Bool.beq_eq_decide_eq]
@[simp] theorem zEA:neV (.int i) (.int j) e h = .ok (.bl (!decide (i=j))) h:=by simp only [neV,zcb,D.pl,if_pos,Cmp.eq,peq,Bool.beq_eq_decide_eq]
@[simp] theorem zER {a b:Bool}:eqV (.bl a) (.bl b) e h = .ok (.bl (a == b)) h:=rfl
@[simp] theorem zEu {a b:Bool}:neV (.bl a) (.bl b) e h = .ok (.bl (!(a == b))) h:=rfl
@[simp] theorem zEi {b:Bool}:zfC (.bl b) e h = .ok (.bl !b) h:=rfl
@[simp] theorem zEI:isN x .non e h = .ok (.bl (decide (x = .non))) h:=by cases x <;> rfl
@[simp] theorem zEj {a b:Bool}:isN (.bl a) (.bl b) e h = .ok (.bl (a == b)) h:=rfl
@[simp] theorem zDl:zce x .non e h = .ok (.bl (!decide (x = .non))) h:=by cases x <;> rfl
@[simp] theorem zDx {a b:Bool}:zce (.bl a) (.bl b) e h = .ok (.bl (!(a == b))) h:=rfl
def zhk (r:R D) (f:MH->R D):R D:=zu r fun x h1=>match x with
 | .bl true=>f h1
 | .bl false=> .ok (.bl false) h1
 | _=> .bad
def orR (r:R D) (f:MH->R D):R D:=zu r fun x h1=>match x with
 | .bl true=> .ok (.bl true) h1
 | .bl false=>f h1
 | _=> .bad
@[simp] theorem zEU {b:Bool} (f:MH->R D):zhk (.ok (.bl b) h) f=if b=true then f h else .ok (.bl false) h:=by cases b <;> rfl
@[simp] theorem zDE {b:Bool} (f:MH->R D):orR (.ok (.bl b) h) f=if b=true then .ok (.bl true) h else f h:=by cases b <;> rfl
@[simp] theorem zDV (a b:ME D):ze8 a b e h=zhk (a e h) (b e):=by
 unfold ze8 zhk
 rw [zL]
 cases a e h with
 | ok x h1=>cases x <;> first | rfl | (rename_i b;cases b <;> rfl)
 | _=>rfl
@[simp] theorem zEg (a b:ME D):orV a b e h=orR (a e h) (b e):=by
 unfold orV orR
 rw [zL]
 cases a e h with
 | ok x h1=>cases x <;> first | rfl | (rename_i b;cases b <;> rfl)
 | _=>rfl
@[simp] theorem zD1 (f g:D->D->ME D) (a b c:ME D):zgm f g a b c e h=zu (a e h) fun x h1=>zu (b e h1) fun y h2=>zhk (f x y e h2) fun h3=>zu (c e h3) fun z h4=>g y z e h4:=by
 unfold zgm
 simp only [zL]
 congr 1;funext x h1;congr 1;funext y h2
 unfold zhk
 congr 1;funext t h3
 cases t <;> first | rfl | (rename_i b;cases b <;> simp)
def zoF (r:R D):R Bool:=zu r fun x h1=>match x with
 | .bl b=> .ok b h1
 | _=> .bad
@[simp] theorem zEG {b:Bool}:zoF (.ok (.bl b) h) = .ok b h:=rfl
@[simp] theorem zDz (a:ME D):tst a e h=zoF (a e h):=by
 unfold tst zoF
 rw [zL]
 congr 1;funext x h1;cases x <;> rfl
@[simp] theorem zDm (a:ME D):tru a e h=zu (a e h) fun x h1=>zgR x e h1:=by unfold tru;rw [zL]
@[simp] theorem zEb {b:Bool}:zgR (.bl b) e h = .ok b h:=rfl
@[simp] theorem zEr:zgR .non e h = .ok false h:=rfl
@[simp] theorem zDS:zgR (.int i) e h = .ok (i != 0) h:=rfl
@[simp] theorem zEa (a b:ME Bool):zbV a b e h=zu (a e h) fun c h1=>if c=true then b e h1 else .ok false h1:=by unfold zbV;rw [zL];congr 1;funext c h1;cases c <;> rfl
@[simp] theorem zEZ (a b:ME Bool):orT a b e h=zu (a e h) fun c h1=>if c=true then .ok true h1 else b e h1:=by unfold orT;rw [zL];congr 1;funext c h1;cases c <;> rfl
@[simp] theorem zC2 (a:ME Bool):z8 a e h=zu (a e h) fun c h1=> .ok (!c) h1:=by unfold z8;rw [zL];rfl
@[simp] theorem zDs (t:ME Bool) (a b:ME D):ifE t a b e h=zu (t e h) fun c h1=>if c=true then a e h1 else b e h1:=by unfold ifE;rw [zL];congr 1;funext c h1;cases c <;> rfl
@[simp] theorem zEc:zd e h = .ok [] h:=rfl
@[simp] theorem zD5 (a:ME D) (r:ME (List D)):zb a r e h=zu (a e h) fun x h1=>zu (r e h1) fun xs h2=> .ok (x :: xs) h2:=by unfold zb;simp
@[simp] theorem zC7 (r:ME (List D)):zca r e h=zu (r e h) fun xs h1=>if xs.length<=1000 then .ok (.tup xs) h1 else .bad:=by unfold zca;rw [zL];congr 1;funext xs h1;split <;> rfl
@[simp] theorem zC3 (r:ME (List D)):zbA r e h=zu (r e h) fun xs h1=>if xs.length<=1000 then .ok xs h1 else .bad:=by unfold zbA;rw [zL];congr 1;funext xs h1;split <;> rfl
@[simp] theorem zE4 (r:ME (List D)):zH r e h=zu (r e h) fun xs h1=> .ok (.obj h1.length) (h1++[.lst xs]):=by unfold zH;rw [zL];rfl
@[simp] theorem zEs:zcc n e h=match h[n]? with
 | some (.lst xs)=> .ok xs h
 | _=> .bad:=rfl
@[simp] theorem zEl (a:ME D):zcn a e h=zu (a e h) fun x h1=>match x with
 | .obj n=>zcc n e h1
 | _=> .bad:=by unfold zcn;rw [zL];congr 1;funext x h1;cases x <;> rfl
@[simp] theorem zC6 (a:ME D):zbN a e h=zu (a e h) fun x h1=>match x with
 | .obj n=>(match h1[n]? with
   | some (.lst xs)=> .ok xs h1
   | some (.scr xs)=> .ok xs h1
   | _=> .bad)
 | .tup ds=> .ok ds h1
 | _=> .bad:=by unfold zbN;rw [zL] <;> congr 1
@[simp] theorem zDA:noP e h = .ok none h:=rfl
@[simp] theorem zEK (a:ME D):zdp a e h=zu (a e h) fun x h1=>match x with
 | .int i=> .ok (some i) h1
 | _=> .bad:=by unfold zdp;rw [zL];congr 1;funext x h1;cases x <;> rfl
@[simp] theorem zC4 (a:ME D) (lo hi:ME (Option Int)):zdo a lo hi e h=zu (a e h) fun x h1=>zu (lo e h1) fun l h2=>zu (hi e h2) fun u h3=>match x with
 | .obj n=>zu (zcc n e h3) fun xs h4=> .ok (cut xs l u) h4
 | _=> .bad:=by unfold zdo;simp only [zL];congr 1;funext x h1;congr 1;funext l h2;congr 1;funext u h3;cases x <;> simp
@[simp] theorem zEf (a:ME D) (lo hi:ME (Option Int)):zsC a lo hi e h=zu (a e h) fun x h1=>zu (lo e h1) fun l h2=>zu (hi e h2) fun u h3=>match x with
 | .tup ds=>if (cut ds l u).length < ds.length then .ok (.tup (cut ds l u)) h3 else .bad
 | _=> .bad:=by unfold zsC;simp only [zL];congr 1;funext x h1;congr 1;funext l h2;congr 1;funext u h3;cases x <;> first | rfl | (dsimp only;split <;> rfl)
@[simp] theorem zE3 (a:ME D):zqv a e h=zu (a e h) fun x h1=>match x with
 | .tup [p,q,_]=> .ok (.tup [q,p]) h1
 | _=> .bad:=by unfold zqv;rw [zL];congr 1;funext x h1;rcases x with _|_|_|_|l|_ <;> first | rfl | (rcases l with _|⟨a0,_|⟨a1,_|⟨a2,_|⟨a3,l⟩⟩⟩⟩ <;> rfl)
@[simp] theorem zE2 (l:ME (List D)):zg5 l e h=zu (l e h) fun xs h1=>match zcA xs with
 | some bs=> .ok (.bl (bs.all id)) h1
 | none=> .bad:=by unfold zg5;rw [zL];congr 1;funext x h1;cases hh:zcA x <;> simp [hh]
@[simp] theorem zFa (l:ME (List D)):zey l e h=zu (l e h) fun xs h1=>match zcA xs with
 | some bs=> .ok (.bl (bs.any id)) h1
 | none=> .bad:=by unfold zey;rw [zL];congr 1;funext x h1;cases hh:zcA x <;> simp [hh]
@[simp] theorem zDj (l:ME (List D)):zqq l e h=zu (l e h) fun xs h1=>match zb4 xs with
 | some bs=> .ok (.int bs.sum) h1
 | none=> .bad:=by unfold zqq;rw [zL];congr 1;funext x h1;cases hh:zb4 x <;> simp [hh]
@[simp] theorem zr0 (l:ME (List D)):zbP l e h=zu (l e h) fun xs h1=> .ok (.int xs.length) h1:=by unfold zbP;rw [zL];rfl
@[simp] theorem zEN (l:ME (List D)):zhh l e h=zu (l e h) fun xs h1=>match zb4 xs with
 | some ns=>if ns.length < 4000 then .ok (.int (zY [] ns).length) h1 else .bad
 | none=> .bad:=by unfold zhh;rw [zL];congr 1;funext x h1;cases hh:zb4 x <;> simp [hh];split <;> rfl
@[simp] theorem zEQ (l:ME (List D)):ziy l e h=zu (l e h) fun xs h1=>match zb4 xs with
 | some ns=>if ns.length < 64 then .ok ((sortI ns).map .int) h1 else .bad
 | none=> .bad:=by unfold ziy;rw [zL];congr 1;funext x h1;cases hh:zb4 x <;> simp [hh];split <;> rfl
@[simp] theorem zC9 (a:ME D):zeq a e h=zu (a e h) fun x h1=>match x with
 | .int i=> .ok (.int (if i < 0 then -i else i)) h1
 | _=> .bad:=by unfold zeq;rw [zL];congr 1;funext x h1;cases x <;> rfl
@[simp] theorem zDq (a:ME D):zqP a e h=zu (a e h) fun x h1=>match x with
 | .int i=> .ok (.int i) h1
 | .bl b=> .ok (.int (if b then 1 else 0)) h1
 | _=> .bad:=by unfold zqP;rw [zL];congr 1;funext x h1;cases x <;> rfl
@[simp] theorem zDC (a b:ME D):zhA a b e h=zu (a e h) fun x h1=>zu (b e h1) fun kk h2=>match x,kk with
 | .obj m,.int k=>zu (zcc m e h2) fun xs h3=>if -1000000<=k∧k<=1000000∧xs.length * k.toNat<=1000000 then .ok (List.replicate k.toNat xs).flatten h3 else .bad
 | _,_=> .bad:=by
 unfold zhA;simp only [zL];congr 1;funext x h1;congr 1;funext y h2
 cases x <;> cases y <;> first | rfl | (dsimp only;rw [zL];congr 1;funext xs h3;split <;> rfl)
@[simp] theorem zD9 (a:ME D) (b:ME (List D)):zdu a b e h=zu (a e h) fun x h1=>zu (b e h1) fun ys h2=>match x with
 | .obj m=>zu (zcc m e h2) fun xs h3=>if xs.length+ys.length<=1000000 then .ok (xs++ys) h3 else .bad
 | _=> .bad:=by
 unfold zdu;simp only [zL];congr 1;funext x h1;congr 1;funext y h2
 cases x <;> first | rfl | (dsimp only;rw [zL];congr 1;funext xs h3;split <;> rfl)
@[simp] theorem zDG:zoZ e h = .ok (.obj h.length) (h++[.dic []]):=rfl
@[simp] theorem zD0 (a:ME D):zh1 a e h=zu (a e h) fun x h1=>match x with
 | .int i=>if -1000000<=i∧i<=1000000 then .ok ((List.range i.toNat).map fun (k:Nat)=>D.int k) h1 else .bad
 | _=> .bad:=by unfold zh1;rw [zL];congr 1;funext x h1;cases x <;> first | rfl | (dsimp only;split <;> rfl)
@[simp] theorem zEL (t:Ty) (a:ME D):zdq t a e h=zu (a e h) fun x h1=>match zdm h1 t x with
 | some b=> .ok (.bl b) h1
 | none=> .bad:=by unfold zdq;rw [zL] <;> congr 1
@[simp] theorem zEP (s:Nat->Nat->Bool) (a:ME D):zK s n a e h=zu (a e h) fun x h1=>match x with
 | .obj n'=>match h1[n']? with
   | some (.ins c' _)=> .ok (.bl (s c' n)) h1
   | _=> .bad
 | _=> .bad:=by unfold zK;rw [zL] <;> congr 1
@[simp] theorem zEC (a:ME D):fld k a e h=zu (a e h) fun x h1=>match x with
 | .obj n=>match h1[n]? with
   | some (.ins _ fs)=>(match fs.lookup k with
     | some d=> .ok d h1
     | none=> .bad)
   | _=> .bad
 | _=> .bad:=by unfold fld;rw [zL] <;> congr 1
def zdx (x:D) (h:MH) (r:R D):R D:=match x with
 | .obj n=>(match h[n]? with
   | some (.lst _)=>r
   | _=> .bad)
 | _=> .bad
@[simp] theorem zDJ (a b:ME D):zbJ a b e h=zu (a e h) fun x h1=>zdx x h1 (zu (b e h1) fun y h2=>match x with
 | .obj n=>match h2[n]? with
   | some (.lst xs)=>if xs.length < 1000000 then .ok .non (h2.set n (.lst (xs++[y]))) else .bad
   | _=> .bad
 | _=> .bad):=by
 unfold zbJ;simp only [zL];congr 1;funext x h1
 unfold isL zdx
 cases x <;> first | rfl | skip
 dsimp only
 split <;> simp_all <;> congr 1
@[simp] theorem zEk (a:ME D):zrh a e h=zu (a e h) fun x h1=>match x with
 | .obj n=>match h1[n]? with
   | some (.lst xs)=> .ok .non (h1.set n (.lst xs.reverse))
   | _=> .bad
 | _=> .bad:=by unfold zrh;rw [zL] <;> congr 1
@[simp] theorem zDi (a:ME D):zsS a e h=zu (a e h) fun x h1=>match x with
 | .obj n=>match h1[n]? with
   | some (.lst xs)=> .ok .non (h1.set n (.lst []))
   | _=> .bad
 | _=> .bad:=by unfold zsS;rw [zL] <;> congr 1
@[simp] theorem zqD (a:ME D):zgf a e h=zu (a e h) fun x h1=>match x with
 | .obj n=>match h1[n]? with
   | some (.lst xs)=>(match xs[xs.length - 1]? with
     | some y=> .ok y (h1.set n (.lst xs.dropLast))
     | none=> .bad)
   | _=> .bad
 | _=> .bad:=by unfold zgf;rw [zL] <;> congr 1
@[simp] theorem zDT (f:MF) (a:ME (List D)):zh f a e h=zu (a e h) fun ds h1=>app f ds h1:=by unfold zh;rw [zL]
@[simp] theorem zEx (tbl:List (Nat×MF)) (o:ME D) (a:ME (List D)):zV tbl o a e h=zu (o e h) fun x h1=>match x with
 | .obj n=>match h1[n]? with
   | some (.ins c _)=>(match tbl.lookup c with
     | some f=>zu (a e h1) fun ds h2=>app f (x :: ds) h2
     | none=> .bad)
   | _=> .bad
 | _=> .bad:=by
 unfold zV;rw [zL] <;> congr 1
@[simp] theorem zDO:zq e h = .nx e h:=rfl
@[simp] theorem zEq (t:ME Bool) (a b:MS):ifS t a b e h=zcE (t e h) fun c h1=>if c=true then a e h1 else b e h1:=by unfold ifS;rw [zd7];congr 1;funext c h1;cases c <;> rfl
@[simp] theorem zET (a:ME D):zbb a e h=zcE (a e h) fun _ h1=> .nx e h1:=by unfold zbb;rw [zd7];rfl
@[simp] theorem zEp (a:ME D):zx a e h=zcE (a e h) fun v h1=> .rt v h1:=by unfold zx;rw [zd7]
@[simp] theorem zpc (t:Tg) (a:ME D):zm t a e h=zcE (a e h) fun v h1=>zhq t v e h1:=by unfold zm;rw [zd7]
@[simp] theorem zDP:zhq (.nm n) v e h = .nx (e.set n (some v)) h:=rfl
@[simp] theorem zEB (l:List Nat) (ds:List D):zhq (.tp l) (.tup ds) e h=match zej l ds e with
 | some e1=> .nx e1 h
 | none=> .bad:=rfl
@[simp] theorem zEo (l:List Nat) (a:ME (List D)):ziv l a e h=zcE (a e h) fun vs h1=>match zej l vs e with
 | some e1=> .nx e1 h1
 | none=> .bad:=by unfold ziv;rw [zd7] <;> congr 1
@[simp] theorem zDo:zej [] [] e=some e:=rfl
@[simp] theorem zE9 (l:List Nat) (ds:List D):zej (n :: l) (x :: ds) e=zej l ds (e.set n (some x)):=rfl
@[simp] theorem zCE:zdG (.nm n) x e=some (e.set n (some x)):=rfl
@[simp] theorem zD3 (l:List Nat) (ds:List D):zdG (.tp l) (.tup ds) e=zej l ds e:=rfl
@[simp] theorem zD2 (f:D->D->ME D) (a:ME D):zfA f n a e h=zcE (zu (var n e h) fun x h1=>zu (a e h1) fun y h2=>f x y e h2) fun v h1=> .nx (e.set n (some v)) h1:=by unfold zfA;rw [zpc];simp only [zL];rfl
@[simp] theorem zDL (att:Nat->Nat->Bool) (o a:ME D):zfs att k o a e h=zcE (a e h) fun y h1=>zcE (o e h1) fun x h2=>match x with
 | .obj n=>(match h2[n]? with
   | some (.ins c fs)=>if (att c k && decide (fs.length < 100))=true then .nx e (h2.set n (.ins c (zfK k y fs))) else .bad
   | _=> .bad)
 | _=> .bad:=by unfold zfs;rw [zd7] <;> congr 1
@[simp] theorem zEy (o i a:ME D):zb0 o i a e h=zcE (a e h) fun y h1=>zcE (o e h1) fun x h2=>zcE (i e h2) fun z h3=>match x,z with
 | .obj n,.int k=>(match h3[n]? with
   | some (.lst xs)=>(match ixN xs.length k with
     | some j=> .nx e (h3.set n (.lst (xs.set j y)))
     | none=> .bad)
   | some (.dic kvs)=>if kvs.length < 1000000 then .nx e (h3.set n (.dic (zeZ k y kvs))) else .bad
   | _=> .bad)
 | _,_=> .bad:=by unfold zb0;rw [zd7] <;> congr 1
@[simp] theorem zAn (t:Tg) (s:ME Src) (b:MS):zea t s b e h=zcE (s e h) fun p h1=>zcV t p.2 b p.1 e h1:=by unfold zea;rw [zd7]
@[simp] theorem zEY (a:ME D):itL a e h=zu (a e h) fun x h1=>match x with
 | .obj n=>(match h1[n]? with
   | some (.lst xs)=> .ok (xs,[(n,.lst xs)]) h1
   | _=> .bad)
 | _=> .bad:=by unfold itL;rw [zL];congr 1;funext x h1;cases x <;> rfl
@[simp] theorem zDN (a:ME D):itE a e h=zu (a e h) fun x h1=>match x with
 | .obj n=>(match h1[n]? with
   | some (.lst xs)=> .ok (zoo 0 xs,[(n,.lst xs)]) h1
   | _=> .bad)
 | _=> .bad:=by unfold itE;rw [zL];congr 1;funext x h1;cases x <;> rfl
@[simp] theorem zD8 (a:ME D):itT a e h=zu (a e h) fun x h1=>match x with
 | .tup ds=> .ok (ds,[]) h1
 | _=> .bad:=by unfold itT;rw [zL];congr 1;funext x h1;cases x <;> rfl
@[simp] theorem zDI (a:ME D):itR a e h=zu (a e h) fun x h1=>match x with
 | .int i=>if -1000000<=i∧i<=1000000 then .ok ((List.range i.toNat).map fun (k:Nat)=>D.int k,[]) h1 else .bad
 | _=> .bad:=by unfold itR;rw [zL];congr 1;funext x h1;cases x <;> first | rfl | (dsimp only;split <;> rfl)
@[simp] theorem zD4 (js:List (Option Nat)) (t:Tg) (s:ME Src) (c:ME Bool) (a:ME D):zcY js t s c a e h=zu (s e h) fun p h1=>if p.1.length<=1000000 then zcg t p.2 c a p.1 [] (zb6 js e) h1 else .bad:=by unfold zcY;rw [zL]
@[simp] theorem zDb (pr:List (Int×D)->List D) (js:List (Option Nat)) (t:Tg) (a:ME D) (c:ME Bool) (b:ME D):zhi pr js t a c b e h=zu (a e h) fun x h1=>match x with
 | .obj n=>(match h1[n]? with
   | some (.dic kvs)=>if (pr kvs).length<=1000000 then zhW n kvs (zcg t [] c b (pr kvs) [] (zb6 js e) (h1.set n .hole)) else .bad
   | _=> .bad)
 | _=> .bad:=by unfold zhi;rw [zL] <;> congr 1
@[simp] theorem zEt (pr:List (Int×D)->List D) (t:Tg) (a:ME D) (b:MS):zht pr t a b e h=zcE (a e h) fun x h1=>match x with
 | .obj n=>(match h1[n]? with
   | some (.dic kvs)=>zfx n kvs (zcV t [] b (pr kvs) e (h1.set n .hole))
   | _=> .bad)
 | _=> .bad:=by unfold zht;rw [zd7] <;> congr 1
@[simp] theorem zDp:zcX e h = .ok true h:=rfl
@[simp] theorem zEV (a:D) (l:List D):MI.atI (a :: l) 0=some a:=by simp [MI.atI,ixN]
@[simp] theorem zEF (a b:D) (l:List D):MI.atI (a :: b :: l) 1=some b:=by rw [MI.atI,show ixN (a :: b :: l).length 1=some 1 from by unfold ixN;rw [if_pos (by omega),if_pos (by simp only [List.length_cons];omega)];rfl];rfl
@[simp] theorem zC1 (a b c:D) (l:List D):MI.atI (a :: b :: c :: l) 2=some c:=by rw [MI.atI,show ixN (a :: b :: c :: l).length 2=some 2 from by unfold ixN;rw [if_pos (by omega),if_pos (by simp only [List.length_cons];omega)];rfl];rfl
theorem zxO {n k:Nat} (h:k < n):ixN n (k:Int)=some k:=by
 unfold ixN
 rw [if_pos (by omega),if_pos (by omega)];simp
theorem zgW {α:Type}{xs:List α}{k:Nat} (h:k < xs.length):MI.atI xs (k:Int)=some xs[k]:=by
 unfold MI.atI
 rw [zxO h];simp [h]
theorem zxB {α:Type} (xs:List α) (a:α):MI.atI (xs++[a]) (-1)=some a:=by
 unfold MI.atI ixN
 rw [if_neg (by omega),if_pos (by simp;omega)]
 have e:(-1+((xs++[a]).length:Int)).toNat=xs.length:=by simp;omega
 rw [e];simp
theorem zN {h:MH}{n:Nat}{o:O} (e:h[n]?=some o) (g:MH):(h++g)[n]?=some o:=by rw [List.getElem?_append_left (List.getElem?_eq_some_iff.mp e).1];exact e
@[simp] theorem zEH (h g:MH):(h++g)[h.length]?=g[0]?:=by rw [List.getElem?_append_right (Nat.le_refl _)];simp
@[simp] theorem zb5 (h g:MH) (k:Nat):(h++g)[h.length+k]?=g[k]?:=by rw [List.getElem?_append_right (by omega)];congr 1;omega
@[simp] theorem zDD (h:MH) (a o:O) (g:MH):(h++a :: g).set h.length o=h++o :: g:=by rw [List.set_append_right _ _ (Nat.le_refl _)];simp
@[simp] theorem zhx (h g:MH) (k:Nat) (o:O):(h++g).set (h.length+k) o=h++g.set k o:=by rw [List.set_append_right _ _ (by omega)];congr 2;omega
theorem zsq {h:MH}{n:Nat} (hn:n < h.length) (o:O) (g:MH):(h++g).set n o=h.set n o++g:=by rw [List.set_append_left _ _ hn]
theorem zrt {h:MH}{n:Nat}{o:O} (e:h[n]?=some o):h.set n o=h:=by
 apply List.ext_getElem?
 intro i
 by_cases hi:n=i
 . subst hi
   rw [List.getElem?_set_self (List.getElem?_eq_some_iff.mp e).1,e]
 . rw [List.getElem?_set_ne hi]
theorem zeg (h g:MH):zef h (h++g)=true:=by
 unfold zef
 rw [List.all_eq_true]
 intro i hi
 rw [List.mem_range]at hi
 rw [List.getElem?_append_left hi];simp
theorem zC8 (h:MH):zef h h=true:=by have:=zeg h [];simpa using this
@[simp] theorem zDy (h:MH):gc h .bad = .bad:=rfl
theorem zzU (h g:MH) (i:Int):gc h (.ok (.int i) (h++g)) = .ok (.int i) h:=by simp [gc,zeg,gcV]
theorem zd9 (h g:MH) (b:Bool):gc h (.ok (.bl b) (h++g)) = .ok (.bl b) h:=by simp [gc,zeg,gcV]
theorem zAf (h g:MH):gc h (.ok .non (h++g)) = .ok .non h:=by simp [gc,zeg,gcV]
@[simp] theorem zDK (h:MH) (i:Int):gc h (.ok (.int i) h) = .ok (.int i) h:=by have:=zzU h [] i;simpa using this
@[simp] theorem zDB (h:MH) (b:Bool):gc h (.ok (.bl b) h) = .ok (.bl b) h:=by have:=zd9 h [] b;simpa using this
@[simp] theorem zES (h:MH):gc h (.ok .non h) = .ok .non h:=by have:=zAf h [];simpa using this
theorem zra (n b:Nat) (h2:MH):∀ (ds:List D) (ms:List Nat),nrs ds=true->zcu n b h2 ds ms=some (ds,ms)
 | [],ms,_=>rfl
 | d :: ds,ms,hn=>by
   unfold nrs at hn
   rw [Bool.and_eq_true]at hn
   have ih:=zra n b h2 ds ms hn.2
   cases d with
   | obj m=>simp [D.nr]at hn
   | _=>simp only [zcu,hn.1,if_pos,ih];rfl
theorem zyf (h g:MH) {ds:List D} (hn:nrs ds=true):gc h (.ok (.tup ds) (h++g)) = .ok (.tup ds) h:=by
 simp only [gc,zeg,if_pos,gcV,zra _ _ _ _ _ hn]
 simp
theorem zie (h:MH) {ds:List D} (hn:nrs ds=true):gc h (.ok (.tup ds) h) = .ok (.tup ds) h:=by have:=zyf h [] hn;simpa using this
theorem zoC (h g:MH) {k:Nat}{o:O} (e:g[k]?=some o) (f:o.flat=true):gc h (.ok (.obj (h.length+k)) (h++g)) = .ok (.obj h.length) (h++[o]):=by
 have hlt:¬ h.length+k < h.length:=by omega
 simp only [gc,zeg,if_pos,gcV,if_neg hlt,zb5,e]
 cases o with
 | ins c fs=>cases f
 | _=>simp [f]
theorem zCH (h g:MH) {o:O} (f:o.flat=true):gc h (.ok (.obj h.length) (h++o :: g)) = .ok (.obj h.length) (h++[o]):=zoC h (o :: g) (k:=0) rfl f
end
end MI
end
section
open PySem MI
namespace My
def zB:Nat->Nat->Bool:=fun a b=>[(0,0),(1,1),(2,1),(2,2),(3,1),(3,3),(4,1),(4,4),(5,1),(5,5),(6,1),(6,6),(7,1),(7,7),(8,1),(8,8),(9,1),(9,9),(10,1),(10,10)].contains (a,b)
def zfy:Nat->Nat->Bool:=fun a b=>[(0,0),(0,1),(0,2),(2,3),(3,4),(4,5),(4,6),(5,7),(6,8),(6,4),(7,4),(8,0),(9,4),(10,0)].contains (a,b)
def zen:MF:=zbf 1 1
   (zx (ze8 (zdq .int (var 0)) (un zfC (zdq .bool (var 0)))))
def zcL:MF:=zbf 3 3
   (zx (ze8 (zh zen (zb (var 0) zd)) (zgm leV leV (var 1) (var 0) (var 2))))
def zeI:MF:=zbf 2 2
   (zx (zh zcL (zb (var 1) (zb (za (.int (0))) (zb (bin zQ (var 0) (za (.int (1)))) zd)))))
def zfP:MF:=zbf 2 2
   (zf (ifS (orT (z8 (tru (zdq .tuple (var 1)))) (tst (bin neV (zbP (zbN (var 1))) (za (.int (3)))))) (zx (za (.bl false))) zq)
   (zf (ifS (orT (z8 (tru (zh zeI (zb (var 0) (zb (bin zi (var 1) (za (.int (0)))) zd))))) (z8 (tru (zh zeI (zb (var 0) (zb (bin zi (var 1) (za (.int (1)))) zd)))))) (zx (za (.bl false))) zq)
   (zx (ze8 (bin neV (bin zi (var 1) (za (.int (0)))) (bin zi (var 1) (za (.int (1))))) (zh zcL (zb (bin zi (var 1) (za (.int (2)))) (zb (un z9 (za (.int (1000000)))) (zb (za (.int (1000000))) zd))))))))
def zfh:MF:=zbf 2 2
   (zf (ifS (z8 (tru (zh zfP (zb (var 0) (zb (var 1) zd))))) zg4 zq)
   (zx (zca (zb (bin zi (var 1) (za (.int (0)))) (zb (bin zi (var 1) (za (.int (1)))) (zb (bin zi (var 1) (za (.int (2)))) zd))))))
def zeb:MF:=zbf 4 4
   (zf (ifS (z8 (tru (zh zcL (zb (var 1) (zb (za (.int (1))) (zb (za (.int (1000000))) zd)))))) zg4 zq)
   (zf (ifS (z8 (tru (zh zcL (zb (var 3) (zb (za (.int (0))) (zb (za (.int (1000000))) zd)))))) zg4 zq)
   (zf (ifS (z8 (tru (zdq .list (var 2)))) zg4 zq)
   (zf (zfs zfy 0 (var 0) (var 1))
   (zf (zfs zfy 1 (var 0) (var 3))
   (zfs zfy 2 (var 0) (zH (zcY [none,some 1] (.nm 0) (itL (var 2)) zcX (zh zfh (zb (var 1) (zb (var 0) zd)))))))))))
def zhD:MF:=zbf 1 1
   (zx (zH (zcn (fld 2 (var 0)))))
def zeo:MF:=zbf 1 1
   (zx (zca (zb (bin zi (var 0) (za (.int (1)))) (zb (bin zi (var 0) (za (.int (0)))) (zb (un z9 (bin zi (var 0) (za (.int (2))))) zd)))))
def zcT:List (Nat×MF):=[(0,zhD)]
def zec:MF:=zbf 1 1
   (zx (zh (mkF 0 zeb) (zb (fld 0 (var 0)) (zb (zH (zcY [none] (.nm 0) (itL (zV zcT (var 0) zd)) zcX (zh zeo (zb (var 0) zd)))) (zb (fld 1 (var 0)) zd)))))
def zeJ:MF:=zbf 2 3
   (zf (zm (.nm 2) (bin zi (var 0) (bin zi (var 1) (za (.int (0))))))
   (zx (ifE (tst (bin eqV (bin zi (var 1) (za (.int (1)))) (za (.int (1))))) (var 2) (zh zeo (zb (var 2) zd)))))
def zeK:MF:=zbf 1 1
   (zx (zH (zh1 (zbP (zbN (zV zcT (var 0) zd))))))
def zfQ:MF:=zbf 2 5
   (zf (zm (.nm 2) (zV zcT (var 0) zd))
   (zf (zm (.nm 3) (zH (zcY [none] (.nm 0) (itR (fld 0 (var 0))) zcX (zH (zbA zd)))))
   (zf (zea (.nm 4) (itL (var 1))
   (zf (zbb (zbJ (bin zi (var 3) (bin zi (bin zi (var 2) (var 4)) (za (.int (0))))) (zca (zb (var 4) (zb (za (.int (1))) zd)))))
   (zbb (zbJ (bin zi (var 3) (bin zi (bin zi (var 2) (var 4)) (za (.int (1))))) (zca (zb (var 4) (zb (za (.int (-1))) zd)))))))
   (zx (var 3)))))
def zfi:MF:=zbf 4 9
   (zf (zb0 (var 3) (var 2) (za .non))
   (zf (zm (.nm 4) (zH (zbA (zb (var 2) zd))))
   (zf (zm (.nm 5) (za (.int (0))))
   (ze3 (tst (bin ltV (var 5) (zbP (zbN (var 4))))) (zf (zm (.nm 6) (bin zi (var 4) (var 5)))
   (zf (zea (.nm 7) (itL (bin zi (var 1) (var 6)))
   (zf (zm (.nm 8) (bin zi (zh zeJ (zb (var 0) (zb (var 7) zd))) (za (.int (1)))))
   (ifS (tst (bin zd8 (var 8) (var 3))) (zf (zb0 (var 3) (var 8) (var 7))
   (zbb (zbJ (var 4) (var 8)))) zq)))
   (zfA zF 5 (za (.int (1))))))))))
def zdI:MF:=zbf 2 6
   (zf (zm (.nm 2) (zV zcT (var 0) zd))
   (zf (zm (.nm 3) (zh zfQ (zb (var 0) (zb (var 1) zd))))
   (zf (zm (.nm 4) zoZ)
   (zf (zea (.nm 5) (itR (fld 0 (var 0)))
   (ifS (tst (bin zd8 (var 5) (var 4))) (zbb (zh zfi (zb (var 2) (zb (var 3) (zb (var 5) (zb (var 4) zd)))))) zq))
   (zx (var 4))))))
def zfR:MF:=zbf 1 1
   (zx (zH (ziy (zhi zew [none] (.nm 0) (var 0) (tst (bin zce (var 0) (za .non))) (bin zi (var 0) (za (.int (0))))))))
def zdJ:MF:=zbf 2 6
   (zf (zm (.nm 2) (zH (zhA (zH (zbA (zb (za (.int (0))) zd))) (fld 0 (var 0)))))
   (zf (zm (.nm 3) (za (.int (0))))
   (zf (zht zeD (.tp [4,5]) (var 1)
   (zf (ifS (tst (bin isN (var 5) (za .non))) (zfA zF 3 (za (.int (1)))) zq)
   (zb0 (var 2) (var 4) (bin zQ (var 3) (za (.int (1)))))))
   (zx (var 2)))))
def zfS:MF:=zbf 2 2
   (zx (ze8 (zdq .list (var 0)) (ze8 (bin eqV (zbP (zbN (var 0))) (var 1)) (zg5 (zcY [none] (.nm 0) (itL (var 0)) zcX (zh zen (zb (var 0) zd)))))))
def zfT:MF:=zbf 2 2
   (zf (ifS (orT (z8 (tru (zdq .list (var 0)))) (z8 (tru (zg5 (zcY [none,some 1] (.nm 0) (itL (var 0)) zcX (zh zcL (zb (var 0) (zb (za (.int (0))) (zb (bin zQ (var 1) (za (.int (1)))) zd))))))))) (zx (za (.bl false))) zq)
   (zx (zg5 (zcY [none,none] (.tp [0,1]) (itZ (var 0) (zH (zdo (var 0) (zdp (za (.int (1)))) noP))) zcX (bin ltV (var 0) (var 1))))))
def zhE:MF:=zbf 3 3
   (zf (zfs zfy 5 (var 0) (zH (zcn (var 1))))
   (zfs zfy 6 (var 0) (zH (zcn (var 2)))))
def zgo:MF:=zbf 2 2
   (zf (ifS (orT (z8 (tru (zh zfT (zb (fld 5 (var 0)) (zb (zbP (zbN (zV zcT (var 1) zd))) zd))))) (z8 (tru (zh zfS (zb (fld 6 (var 0)) (zb (fld 0 (var 1)) zd)))))) (zx (za (.bl false))) zq)
   (zf (ifS (tst (bin neV (fld 6 (var 0)) (zh zdJ (zb (var 1) (zb (zh zdI (zb (var 1) (zb (zh zeK (zb (var 1) zd)) zd))) zd))))) (zx (za (.bl false))) zq)
   (zf (ifS (tst (bin neV (fld 6 (var 0)) (zh zdJ (zb (var 1) (zb (zh zdI (zb (var 1) (zb (fld 5 (var 0)) zd))) zd))))) (zx (za (.bl false))) zq)
   (zx (bin eqV (zbP (zbN (fld 5 (var 0)))) (bin zQ (fld 0 (var 1)) (zhh (zcn (fld 6 (var 0))))))))))
def zcC:MF:=zbf 1 2
   (zf (zm (.nm 1) (zh zdI (zb (var 0) (zb (zh zeK (zb (var 0) zd)) zd))))
   (zx (zh (mkF 4 zhE) (zb (zh zfR (zb (var 1) zd)) (zb (zh zdJ (zb (var 0) (zb (var 1) zd))) zd)))))
def zcw:MF:=zbf 2 2
   (zf (ifS (tst (bin ltV (var 1) (zbP (zbN (var 0))))) (zx (bin zi (var 0) (var 1))) zq)
   (zx (za (.int (0)))))
def zD:MF:=zbf 3 4
   (zf (zm (.nm 3) (zca (zb (za (.int (1000003))) (zb (za (.int (1000033))) (zb (za (.int (1000037))) (zb (za (.int (1000039))) (zb (za (.int (1000081))) (zb (za (.int (1000099))) (zb (za (.int (1000117))) (zb (za (.int (1000121))) (zb (za (.int (1000133))) (zb (za (.int (1000151))) (zb (za (.int (1000159))) (zb (za (.int (1000171))) (zb (za (.int (1000183))) (zb (za (.int (1000187))) (zb (za (.int (1000193))) (zb (za (.int (1000199))) zd))))))))))))))))))
   (zx (bin zbE (bin zbE (bin zF (bin zb3 (var 0) (za (.int (48271)))) (bin zb3 (var 1) (za (.int (69621))))) (bin zi (var 3) (bin zbE (var 1) (za (.int (16)))))) (var 2))))
def zfj:MF:=zbf 1 15
   (zf (zm (.nm 1) (bin zdl (bin zb3 (zbP (zbN (var 0))) (bin zi (zca (zb (za (.int (1))) (zb (za (.int (2))) (zb (za (.int (3))) zd)))) (zh zD (zb (zh zcw (zb (var 0) (zb (za (.int (1))) zd))) (zb (za (.int (2))) (zb (za (.int (3))) zd)))))) (za (.int (3)))))
   (zf (zm (.nm 2) (bin zF (za (.int (2))) (zh zD (zb (zh zcw (zb (var 0) (zb (za (.int (0))) zd))) (zb (za (.int (1))) (zb (bin zF (za (.int (2))) (var 1)) zd))))))
   (zf (zm (.nm 3) (bin zi (zca (zb (za (.int (0))) (zb (za (.int (0))) (zb (za (.int (2))) (zb (za (.int (3))) (zb (za (.int (12))) (zb (za (.int (1))) (zb (za (.int (1000000))) zd)))))))) (zh zD (zb (zh zcw (zb (var 0) (zb (za (.int (2))) zd))) (zb (za (.int (3))) (zb (za (.int (7))) zd))))))
   (zf (zm (.nm 4) (bin zi (zca (zb (za (.int (2))) (zb (za (.int (3))) (zb (za (.int (40))) (zb (za (.int (400000))) zd))))) (zh zD (zb (zh zcw (zb (var 0) (zb (za (.int (0))) zd))) (zb (za (.int (4))) (zb (za (.int (4))) zd))))))
   (zf (zm (.nm 5) (bin zi (zca (zb (za (.int (0))) (zb (za (.int (0))) (zb (za (.int (5))) (zb (za (.int (30))) zd))))) (zh zD (zb (zh zcw (zb (var 0) (zb (za (.int (1))) zd))) (zb (za (.int (5))) (zb (za (.int (4))) zd))))))
   (zf (zm (.nm 6) (ze8 (bin gtV (var 2) (za (.int (3)))) (bin eqV (zh zD (zb (zh zcw (zb (var 0) (zb (za (.int (2))) zd))) (zb (za (.int (8))) (zb (za (.int (4))) zd)))) (za (.int (0))))))
   (zf (zm (.nm 7) (zH (zbA zd)))
   (zf (zea (.nm 8) (itR (zbP (zbN (var 0))))
   (zf (zm (.nm 9) (zh zD (zb (bin zi (var 0) (var 8)) (zb (bin zF (bin zbE (var 8) (za (.int (5)))) (za (.int (1)))) (zb (var 2) zd)))))
   (zf (zm (.nm 10) (bin zbE (bin zF (bin zF (var 9) (za (.int (1)))) (zh zD (zb (bin zi (var 0) (var 8)) (zb (bin zF (bin zbE (var 8) (za (.int (7)))) (za (.int (2)))) (zb (bin zQ (var 2) (za (.int (1)))) zd))))) (var 2)))
   (zf (ifS (tru (var 6)) (zf (zm (.nm 11) (ifE (tst (bin ltV (var 9) (bin zdl (var 2) (za (.int (2)))))) (za (.int (0))) (bin zdl (var 2) (za (.int (2))))))
   (zf (zm (.nm 12) (ifE (tst (bin eqV (var 11) (za (.int (0))))) (bin zdl (var 2) (za (.int (2)))) (bin zQ (var 2) (var 11))))
   (zf (zm (.nm 13) (bin zF (za (.int (1))) (zh zD (zb (bin zi (var 0) (var 8)) (zb (bin zF (bin zbE (var 8) (za (.int (7)))) (za (.int (2)))) (zb (bin zQ (var 12) (za (.int (1)))) zd))))))
   (zm (.nm 10) (bin zF (var 11) (bin zbE (bin zF (bin zQ (var 9) (var 11)) (var 13)) (var 12))))))) zq)
   (zf (zm (.nm 14) (bin zQ (zh zD (zb (bin zb3 (var 10) (za (.int (7919)))) (zb (za (.int (6))) (zb (var 4) zd)))) (zh zD (zb (bin zb3 (var 9) (za (.int (7919)))) (zb (za (.int (6))) (zb (var 4) zd))))))
   (zf (ifS (zbV (tst (bin gtV (var 5) (za (.int (0))))) (tst (bin eqV (zh zD (zb (bin zi (var 0) (var 8)) (zb (bin zF (bin zbE (var 8) (za (.int (3)))) (za (.int (9)))) (zb (var 5) zd)))) (za (.int (0)))))) (zm (.nm 14) (bin zF (var 14) (za (.int (1))))) zq)
   (zf (ifS (zbV (tst (bin gtV (var 3) (za (.int (0))))) (zbV (tst (bin eqV (zh zD (zb (bin zi (var 0) (var 8)) (zb (za (.int (12))) (zb (za (.int (3))) zd)))) (za (.int (0))))) (tst (bin ltV (bin zF (zeq (var 14)) (var 3)) (za (.int (1000000))))))) (zm (.nm 14) (bin zQ (var 14) (var 3))) zq)
   (zbb (zbJ (var 7) (zca (zb (var 9) (zb (var 10) (zb (var 14) zd)))))))))))))
   (zx (zca (zb (var 2) (zb (var 7) (zb (var 3) zd)))))))))))))
def zed:MF:=zbf 1 1
   (zf (ifS (z8 (tru (zdq .list (var 0)))) (zx (za (.bl false))) zq)
   (zx (un zfC (zey (zcY [none] (.nm 0) (itL (var 0)) zcX (orV (zdq .bool (var 0)) (un zfC (zdq .int (var 0)))))))))
def zeL:MF:=zbf 2 9
   (zf (ziv [2,3,4] (zb (zH (zcY [none] (.nm 0) (itR (var 0)) zcX (zH (zbA zd)))) (zb (zH (zhA (zH (zbA (zb (un z9 (za (.int (1)))) zd))) (var 0))) (zb (za (.int (0))) zd))))
   (zf (zea (.nm 5) (itL (var 1))
   (zf (zbb (zbJ (bin zi (var 2) (bin zi (var 5) (za (.int (0))))) (bin zi (var 5) (za (.int (1))))))
   (zbb (zbJ (bin zi (var 2) (bin zi (var 5) (za (.int (1))))) (bin zi (var 5) (za (.int (0))))))))
   (zf (zea (.nm 6) (itR (var 0))
   (zf (zm (.nm 7) (ifE (tst (bin ltV (bin zi (var 3) (var 6)) (za (.int (0))))) (zH (zbA (zb (var 6) zd))) (zH (zbA zd))))
   (zf (zm (.nm 4) (bin zF (var 4) (zbP (zbN (var 7)))))
   (ze3 (tst (bin neV (var 7) (zH (zbA zd)))) (zf (zm (.nm 8) (zgf (var 7)))
   (ifS (tst (bin ltV (bin zi (var 3) (var 8)) (za (.int (0))))) (zf (zb0 (var 3) (var 8) (bin zQ (var 4) (za (.int (1)))))
   (zbb (zgb (var 7) (bin zi (var 2) (var 8))))) zq))))))
   (zx (var 3)))))
def zcm:MF:=zbf 3 4
   (zf (zm (.nm 3) (zh zeL (zb (var 0) (zb (var 1) zd))))
   (zf (ifS (orT (tst (bin neV (fld 6 (var 2)) (var 3))) (tst (bin neV (fld 5 (var 2)) (zH (zix (zcn (fld 5 (var 2)))))))) (zx (za (.bl false))) zq)
   (zf (ifS (orT (tru (zey (zcY [none,some 1] (.nm 0) (itL (fld 5 (var 2))) zcX (un zfC (zgm leV ltV (za (.int (0))) (var 0) (zbP (zbN (var 1)))))))) (tst (bin neV (zbP (zbN (fld 5 (var 2)))) (bin zQ (var 0) (zhh (zcn (var 3))))))) (zx (za (.bl false))) zq)
   (zx (bin eqV (zh zeL (zb (var 0) (zb (zH (zcY [none,some 1] (.nm 0) (itL (fld 5 (var 2))) zcX (bin zi (var 1) (var 0)))) zd))) (var 3))))))
def zb1:List (Nat×MF):=[(4,zgo)]
def zg9:MF:=zbf 1 8
   (zf (zm (.tp [1,2,3]) (zh zfj (zb (var 0) zd)))
   (zf (zm (.nm 4) (zh (mkF 0 zeb) (zb (var 1) (zb (var 2) (zb (var 3) zd)))))
   (zf (zea (.nm 5) (itR (za (.int (2))))
   (zf (zm (.nm 6) (zh zcC (zb (var 4) zd)))
   (zf (ifS (orT (z8 (tru (zK zB 1 (var 6)))) (z8 (tru (zK zB 4 (var 6))))) (zx (za (.bl false))) zq)
   (zf (zm (.nm 7) (zH (zbA (zb (zK zB 2 (var 6)) (zb (zK zB 3 (var 6)) (zb (zK zB 7 (var 6)) (zb (zK zB 8 (var 6)) zd)))))))
   (zf (zm (.nm 7) (zH (zdu (var 7) (zbA (zb (zK zB 9 (var 6)) (zb (zK zB 10 (var 6)) (zb (zK zB 5 (var 6)) zd)))))))
   (zf (ifS (orT (tru (zey (zcn (var 7)))) (orT (tru (zK zB 6 (var 6))) (z8 (tru (zh zed (zb (zH (zdu (fld 5 (var 6)) (zcn (fld 6 (var 6))))) zd)))))) (zx (za (.bl false))) zq)
   (zf (ifS (orT (z8 (tru (zh zcm (zb (var 1) (zb (var 2) (zb (var 6) zd)))))) (tst (bin zce (zV zb1 (var 6) (zb (var 4) zd)) (za (.bl true))))) (zx (za (.bl false))) zq)
   (zf (ifS (tst (bin neV (fld 6 (zh zcC (zb (zh zec (zb (var 4) zd)) zd))) (fld 6 (var 6)))) (zx (za (.bl false))) zq)
   (zf (ifS (tst (bin neV (zV zb1 (var 6) (zb (zh (mkF 0 zeb) (zb (var 1) (zb (zH (zdo (var 2) noP (zdp (un z9 (za (.int (1))))))) (zb (var 3) zd)))) zd)) (zh zcm (zb (var 1) (zb (zH (zdo (var 2) noP (zdp (un z9 (za (.int (1))))))) (zb (var 6) zd)))))) (zx (za (.bl false))) zq)
   (zf (zb0 (fld 6 (var 6)) (un z9 (za (.int (1)))) (bin zF (bin zi (fld 6 (var 6)) (un z9 (za (.int (1))))) (za (.int (1)))))
   (zf (ifS (tst (bin zce (zV zb1 (var 6) (zb (var 4) zd)) (za (.bl false)))) (zx (za (.bl false))) zq)
   (zf (zb0 (fld 6 (var 6)) (un z9 (za (.int (1)))) (bin zQ (bin zi (fld 6 (var 6)) (un z9 (za (.int (1))))) (za (.int (1)))))
   (zf (zbb (zbJ (fld 5 (var 6)) (zbP (zbN (var 2)))))
   (ifS (tst (bin zce (zV zb1 (var 6) (zb (var 4) zd)) (za (.bl false)))) (zx (za (.bl false))) zq))))))))))))))
   (zx (bin eqV (zV zcT (var 4) zd) (var 2))))))
end My
end
section
open PySem MI
namespace Mx
open My
structure T3 where
 a:Int
 b:Int
 n:Int
def tD (t:T3):D := .tup [.int t.a,.int t.b,.int t.n]
@[simp] theorem zDe (t:T3) (e:zw) (h:MH):zi (tD t) (.int 0) e h = .ok (.int t.a) h:=rfl
@[simp] theorem zFc (t:T3) (e:zw) (h:MH):zi (tD t) (.int 1) e h = .ok (.int t.b) h:=rfl
@[simp] theorem zEM (t:T3) (e:zw) (h:MH):zi (tD t) (.int 2) e h = .ok (.int t.n) h:=rfl
theorem zct (n:Nat) (i:Int) (e:zw) (h:MH):zi (.obj n) (.int i) e h=match h[n]? with
   | some (.lst xs)=>(match MI.atI xs i with
     | some d=> .ok d h
     | none=> .bad)
   | some (.scr xs)=>(match MI.atI xs i with
     | some d=> .ok d h
     | none=> .bad)
   | some (.dic kvs)=>(match look i kvs with
     | some d=> .ok d h
     | none=> .bad)
   | _=> .bad:=rfl
theorem zzI (t:T3):(tD t).nr=true:=rfl
theorem zfL {α:Type} (f:α->D) (hf:∀ a,(f a).nr=true):∀ l:List α,nrs (l.map f)=true
 | []=>rfl
 | a :: l=>by simp [nrs,hf a,zfL f hf l]
theorem zhw (l:List T3):nrs (l.map tD)=true:=zfL _ zzI l
structure T3.Ok (P:Int) (t:T3):Prop where
 a0:0<=t.a
 a1:t.a < P
 b0:0<=t.b
 b1:t.b < P
 ne:t.a≠t.b
 n0:-1000000<=t.n
 n1:t.n<=1000000
@[simp] theorem zfU (i:Int) (h:MH):app zen [.int i] h = .ok (.bl true) h:=by
 unfold app zen;simp [zdm]
@[simp] theorem zfV (i a b:Int) (h:MH):app zcL [.int i,.int a,.int b] h = .ok (.bl (decide (a<=i) && decide (i<=b))) h:=by
 unfold app zcL;simp
 by_cases h1:a<=i <;> simp [h1]
@[simp] theorem zfW (p i:Int) (h:MH):app zeI [.int p,.int i] h = .ok (.bl (decide (0<=i) && decide (i < p))) h:=by
 have:(i<=p - 1)↔i < p:=by omega
 unfold app zeI;simp [this]
@[simp] theorem zfX (p:Int) (t:T3) (ht:t.Ok p) (h:MH):app zfP [.int p,tD t] h = .ok (.bl true) h:=by
 unfold app zfP;simp [zdm,tD,zi,ht.a0,ht.a1,ht.b0,ht.b1,ht.ne,ht.n0,ht.n1]
@[simp] theorem zfk (p:Int) (t:T3) (ht:t.Ok p) (h:MH):app zfh [.int p,tD t] h = .ok (tD t) h:=by
 unfold app zfh;simp [ht]
 simp [tD,zi]
 exact zie h (by rfl)
theorem znW {α:Type}{t:Tg}{gs:List (Nat×O)}{cond:ME Bool}{elt:ME D}{h:MH} (f g:α->D) (c:α->Bool) (I:zw->Prop) (hg:guard gs h=true) :
   ∀ (xs:List α),(∀ x∈xs,∀ e,I e->∃ e1,zdG t (f x) e=some e1∧I e1∧cond e1 h = .ok (c x) h∧(c x=true->elt e1 h = .ok (g x) h)) ->
   ∀ acc e,I e->zcg t gs cond elt (xs.map f) acc e h = .ok (acc++(xs.filter c).map g) h
 | [],_,acc,e,_=>by simp [zcg,hg]
 | x :: xs,st,acc,e,he=>by
   obtain ⟨e1,h1,h2,h3,h4⟩:=st x (by simp) e he
   have ih:=znW f g c I hg xs (fun y hy=>st y (by simp [hy]))
   rw [List.map_cons,zcg,if_pos hg,h1]
   cases hc:c x with
   | true=>simp [h3,h4 hc,hc,ih _ _ h2]
   | false=>simp [h3,hc,ih _ _ h2]
theorem zfv {α:Type}{t:Tg}{gs:List (Nat×O)}{elt:ME D}{h:MH} (f g:α->D) (I:zw->Prop) (hg:guard gs h=true)
   (xs:List α) (st:∀ x∈xs,∀ e,I e->∃ e1,zdG t (f x) e=some e1∧I e1∧elt e1 h = .ok (g x) h) (e:zw) (he:I e) :
   zcg t gs zcX elt (xs.map f) [] e h = .ok (xs.map g) h:=by
 have:=znW f g (fun _=>true) I hg xs (fun x hx e he=>by obtain ⟨e1,a,b,c⟩:=st x hx e he;exact ⟨e1,a,b,rfl,fun _=>c⟩) [] e he
 rw [List.filter_eq_self.2 (fun _ _=>rfl),List.nil_append]at this
 exact this
theorem zdA {h:MH}{n:Nat}{o:O} (e:h[n]?=some o):guard [(n,o)] h=true:=by simp [MI.guard,e]
theorem zsl {α:Type}{t:Tg}{gs:List (Nat×O)}{body:MS} (f:α->D) (I:List α->zw->MH->Prop) (Q:D->MH->Prop) :
   ∀ (rest done:List α),(∀ d x r e h,d++x :: r=done++rest->I d e h->guard gs h=true∧∃ e1,zdG t (f x) e=some e1 ∧
       ((∃ e2 h2,body e1 h = .nx e2 h2∧I (d++[x]) e2 h2)∨(∃ v h2,body e1 h = .rt v h2∧Q v h2))) ->
     (∀ e h,I (done++rest) e h->guard gs h=true)->∀ e h,I done e h ->
     (∃ e2 h2,zcV t gs body (rest.map f) e h = .nx e2 h2∧I (done++rest) e2 h2)∨(∃ v h2,zcV t gs body (rest.map f) e h = .rt v h2∧Q v h2)
 | [],done,_,hl,e,h,hi=>by
   refine .inl ⟨e,h,?_,by simpa using hi⟩
   simp only [List.map_nil,zcV]
   rw [if_pos (hl e h (by simpa using hi))]
 | x :: rest,done,st,hl,e,h,hi=>by
   obtain ⟨hg,e1,hb,hr⟩:=st done x rest e h rfl hi
   simp only [List.map_cons,zcV]
   rw [if_pos hg,hb]
   dsimp only
   rcases hr with ⟨e2,h2,hb2,hi2⟩ | ⟨v,h2,hb2,hq⟩
   . rw [hb2,zB1]
     have ih:=zsl f I Q rest (done++[x]) (fun d y r e h eq=>st d y r e h (by simpa using eq)) (fun e h hi=>hl e h (by simpa using hi)) e2 h2 hi2
     simpa using ih
   . rw [hb2]
     exact .inr ⟨v,h2,rfl,hq⟩
theorem zfu {α:Type}{t:Tg}{gs:List (Nat×O)}{body:MS} (f:α->D) (I:List α->zw->MH->Prop) (xs:List α)
   (st:∀ d x r e h,d++x :: r=xs->I d e h->guard gs h=true∧∃ e1,zdG t (f x) e=some e1∧(∃ e2 h2,body e1 h = .nx e2 h2∧I (d++[x]) e2 h2))
   (hl:∀ e h,I xs e h->guard gs h=true) (e:zw) (h:MH) (hi:I [] e h):∃ e2 h2,zcV t gs body (xs.map f) e h = .nx e2 h2∧I xs e2 h2:=by
 have:=zsl (t:=t) (gs:=gs) (body:=body) f I (fun _ _=>False) xs [] (fun d x r e h eq hi=>by
   obtain ⟨a,e1,b,c⟩:=st d x r e h (by simpa using eq) hi
   exact ⟨a,e1,b,.inl c⟩) (fun e h hi=>hl e h (by simpa using hi)) e h hi
 rcases this with h1 | ⟨_,_,_,h2⟩
 . simpa using h1
 . exact h2.elim
theorem zsG {t:ME Bool}{body:MS} (I:Nat->zw->MH->Prop) (J:zw->MH->Prop)
   (st:∀ k e h,I k e h->(t e h = .ok false h∧J e h)∨(t e h = .ok true h∧∃ k' e2 h2,k' < k∧body e h = .nx e2 h2∧I k' e2 h2)) :
   ∀ n k e h,k < n->I k e h->∃ e2 h2,zfG t body n e h = .nx e2 h2∧J e2 h2
 | 0,k,e,h,hk,_=>absurd hk (by omega)
 | n+1,k,e,h,hk,hi=>by
   rw [zfG,zd7]
   rcases st k e h hi with ⟨ht,hj⟩ | ⟨ht,k',e2,h2,hk',hb,hi2⟩
   . exact ⟨e,h,by simp [ht],hj⟩
   . obtain ⟨e3,h3,hw,hj⟩:=zsG I J st n k' e2 h2 (by omega) hi2
     exact ⟨e3,h3,by simp [ht,hb,hw],hj⟩
@[simp] theorem lk1 (a b c:D):List.lookup 1 [(0,a),(1,b),(2,c)]=some b:=rfl
@[simp] theorem lk2 (a b c:D):List.lookup 2 [(0,a),(1,b),(2,c)]=some c:=rfl
theorem zsu (h g:MH) {xs:List D} (f:nrs xs=true):gc h (.ok (.obj h.length) (h ++ .lst xs :: g)) = .ok (.obj h.length) (h++[.lst xs]):=zCH (o := .lst xs) h g f
theorem zoL (h g:MH) {k:Nat}{xs:List D} (e:g[k]?=some (.lst xs)) (f:nrs xs=true):gc h (.ok (.obj (h.length+k)) (h++g)) = .ok (.obj h.length) (h++[.lst xs]):=zoC (o := .lst xs) h g e f
structure zbR (h:MH) (w t:Nat) (P turn:Int) (ts:List T3):Prop where
 w:h[w]?=some (.ins 0 [(0,.int P),(1,.int turn),(2,.obj t)])
 t:h[t]?=some (.lst (ts.map tD))
theorem zbR.app {h:MH}{w t:Nat}{P turn:Int}{ts:List T3} (W:zbR h w t P turn ts) (g:MH):zbR (h++g) w t P turn ts:=⟨zN W.w g,zN W.t g⟩
theorem zbR.wA {h:MH}{w t:Nat}{P turn:Int}{ts:List T3} (W:zbR h w t P turn ts) (g:MH):(h++g)[w]?=some (.ins 0 [(0,.int P),(1,.int turn),(2,.obj t)]):=zN W.w g
theorem zbR.tA {h:MH}{w t:Nat}{P turn:Int}{ts:List T3} (W:zbR h w t P turn ts) (g:MH):(h++g)[t]?=some (.lst (ts.map tD)):=zN W.t g
theorem zoM {h:MH}{n:Nat}{P turn:Int}{ts:List T3} (hn:h[n]?=some (.lst (ts.map tD))) (hP:1<=P) (hP':P<=1000000) (ht:0<=turn) (ht':turn<=1000000) (hl:ts.length<=1000000) (hts:∀ t∈ts,t.Ok P) :
   app (mkF 0 zeb) [.int P,.obj n,.int turn] h = .ok (.obj h.length) (h++[.ins 0 [(0,.int P),(1,.int turn),(2,.obj (h.length+1))],.lst (ts.map tD)]):=by
 have c:∀ g e,(∃ d,e=[d,some (.int P)])->zcg (.nm 0) [(n,.lst (ts.map tD))] zcX (zh zfh (zb (var 1) (zb (var 0) zd))) (ts.map tD) [] e (h++g) = .ok (ts.map tD) (h++g):=by
   intro g e he
   refine zfv tD tD (fun e=>∃ d,e=[d,some (.int P)]) (zdA (zN hn g)) ts ?_ e he
   rintro t ht _ ⟨d,rfl⟩
   exact ⟨_,rfl,⟨_,rfl⟩,by simp [zfk P t (hts t ht)]⟩
 unfold app mkF zeb
 simp [hP,hP',ht,ht',zdm,zN hn,zfy,zfK,zb6,c,hl]
 simp only [gc]
 rw [if_pos (zeg _ _)]
 have q:¬ h.length+1 < h.length:=by omega
 simp [gcV,nrs,zcu,O.flat,zhw,D.nr,q]
theorem zrX {h:MH}{P turn:Int}{ts:List T3}:zbR (h++[.ins 0 [(0,.int P),(1,.int turn),(2,.obj (h.length+1))],.lst (ts.map tD)]) h.length (h.length+1) P turn ts:=⟨by simp,by simp⟩
section
variable {h:MH}{w t:Nat}{P turn:Int}{ts:List T3}
theorem zds (W:zbR h w t P turn ts):app zhD [.obj w] h = .ok (.obj h.length) (h++[.lst (ts.map tD)]):=by
 unfold app zhD
 simp [W.w,W.t]
 exact zsu h [] (zhw _)
@[simp] theorem zfY (t:T3) (h:MH):app zeo [tD t] h = .ok (tD ⟨t.b,t.a,-t.n⟩) h:=by
 unfold app zeo
 simp [tD,zi]
 exact zie h (by rfl)
def tn (t:T3):T3:=⟨t.b,t.a,-t.n⟩
theorem zoW {t:T3} (ht:t.Ok P):(tn t).Ok P:=⟨ht.b0,ht.b1,ht.a0,ht.a1,fun e=>ht.ne e.symm,by have:=ht.n1;simp [tn];omega,by have:=ht.n0;simp [tn];omega⟩
theorem zB8 (h:MH) (g:MH) (P turn:Int) {k:Nat} (ts:List T3) (hk:g[k]?=some (.ins 0 [(0,.int P),(1,.int turn),(2,.obj (h.length+k+1))])) (hk1:g[k+1]?=some (.lst (ts.map tD))) :
   gc h (.ok (.obj (h.length+k)) (h++g)) = .ok (.obj h.length) (h++[.ins 0 [(0,.int P),(1,.int turn),(2,.obj (h.length+1))],.lst (ts.map tD)]):=by
 simp only [gc]
 rw [if_pos (zeg _ _)]
 have q:¬ h.length+k < h.length:=by omega
 have q1:¬ h.length+k+1 < h.length:=by omega
 have e1:(h++g)[h.length+k+1]?=some (.lst (ts.map tD)):=by rw [Nat.add_assoc,zb5];exact hk1
 simp [gcV,q,hk,zcu,q1,e1,D.nr,O.flat,zhw]
theorem zeM (W:zbR h w t P turn ts) (hP:1<=P) (hP':P<=1000000) (ht:0<=turn) (ht':turn<=1000000) (hl:ts.length<=1000000) (hts:∀ t∈ts,t.Ok P) :
   app zec [.obj w] h = .ok (.obj h.length) (h++[.ins 0 [(0,.int P),(1,.int turn),(2,.obj (h.length+1))],.lst ((ts.map tn).map tD)]):=by
 have c:∀ e,(∃ d,e=[d])->zcg (.nm 0) [(h.length,.lst (ts.map tD))] zcX (zh zeo (zb (var 0) zd)) (ts.map tD) [] e (h++[.lst (ts.map tD)]) = .ok (ts.map fun t=>tD (tn t)) (h++[.lst (ts.map tD)]):=by
   intro e he
   refine zfv tD (fun t=>tD (tn t)) (fun e=>∃ d,e=[d]) (zdA (by simp)) ts ?_ e he
   rintro t ht _ ⟨d,rfl⟩
   exact ⟨_,rfl,⟨_,rfl⟩,by simp;rfl⟩
 unfold app zec
 have c2:=zoM (h:=h++[.lst (ts.map tD),.lst ((ts.map tn).map tD)]) (n:=h.length+1) (P:=P) (turn:=turn) (ts:=ts.map tn) (by simp) hP hP' ht ht' (by simpa using hl) (by
   intro t hm
   obtain ⟨t',h1,rfl⟩:=List.mem_map.1 hm
   exact zoW (hts t' h1))
 simp [W.w,zcT,zds W,zb6,c,hl,W.wA]
 simp at c2
 have e0:tD ∘ tn=fun t=>tD (tn t):=rfl
 rw [<- e0,c2]
 simp
 have:=zB8 h [.lst (ts.map tD),.lst ((ts.map tn).map tD),.ins 0 [(0,.int P),(1,.int turn),(2,.obj (h.length+2+1))],.lst ((ts.map tn).map tD)] P turn (k:=2) (ts.map tn) rfl rfl
 simpa using this
end
end Mx
end
section
open PySem MI
namespace Mx
open My
theorem zdH {α:Type} [DecidableEq α]:∀ (l m:List α),l.Nodup->(∀ x∈l,x∈m)->l.length<=m.length
 | [],m,_,_=>by simp
 | x :: l,m,hn,hs=>by
   have h1:=List.nodup_cons.1 hn
   have:=zdH l (m.erase x) h1.2 (fun y hy=>(List.mem_erase_of_ne (fun (e:y=x)=>h1.1 (e ▸ hy))).2 (hs y (by simp [hy])))
   rw [List.length_erase_of_mem (hs x (by simp))]at this
   have:0 < m.length:=List.length_pos_of_mem (hs x (by simp))
   simp;omega
theorem zit:∀ (l seen:List Int) (x:Int),x∈zY seen l↔x∈l∧x∉seen
 | [],seen,x=>by simp [zY]
 | y :: l,seen,x=>by
   unfold zY
   by_cases hy:y∈seen
   . rw [if_pos hy,zit l seen x]
     constructor
     . rintro ⟨a,b⟩;exact ⟨by simp [a],b⟩
     . rintro ⟨a,b⟩
       rcases List.mem_cons.1 a with e | e
       . exact absurd (e ▸ hy) b
       . exact ⟨e,b⟩
   . rw [if_neg hy,List.mem_cons,zit l (y :: seen) x]
     constructor
     . rintro (e | ⟨a,b⟩)
       . exact ⟨by simp [e],e ▸ hy⟩
       . exact ⟨by simp [a],fun c=>b (by simp [c])⟩
     . rintro ⟨a,b⟩
       by_cases e:x=y
       . exact .inl e
       . refine .inr ⟨?_,?_⟩
         . rcases List.mem_cons.1 a with e' | e'
           . exact absurd e' e
           . exact e'
         . intro c
           rcases List.mem_cons.1 c with e' | e'
           . exact e e'
           . exact b e'
theorem ze5:∀ (l seen:List Int),(zY seen l).Nodup
 | [],seen=>by simp [zY]
 | y :: l,seen=>by
   unfold zY
   by_cases hy:y∈seen
   . rw [if_pos hy];exact ze5 l seen
   . rw [if_neg hy]
     exact List.nodup_cons.2 ⟨fun c=>((zit l (y :: seen) y).1 c).2 (by simp),ze5 l (y :: seen)⟩
def zco (l:List Int):Nat:=(zY [] l).length
theorem zdD {l:List Int}{x:Int}:x∈zY [] l↔x∈l:=by simp [zit]
theorem zCI {l m:List Int} (h:∀ x,x∈l↔x∈m):zco l=zco m :=
 Nat.le_antisymm (zdH _ _ (ze5 _ _) fun x hx=>zdD.2 ((h x).1 (zdD.1 hx))) (zdH _ _ (ze5 _ _) fun x hx=>zdD.2 ((h x).2 (zdD.1 hx)))
theorem zyR (l:List Int):zco l<=l.length:=zdH _ _ (ze5 _ _) fun x hx=>zdD.1 hx
theorem zxP {l:List Int}{x:Int} (h:x∈l):zco (x :: l)=zco l:=zCI fun y=>by
 constructor
 . intro hy
   rcases List.mem_cons.1 hy with e | e
   . exact e ▸ h
   . exact e
 . intro hy;simp [hy]
theorem zAh {l:List Int}{x:Int} (h:x∉l):zco (x :: l)=zco l+1:=by
 apply Nat.le_antisymm
 . have:=zdH (zY [] (x :: l)) (x :: zY [] l) (ze5 _ _) (fun y hy=>by
     rcases List.mem_cons.1 (zdD.1 hy) with e | e
     . simp [e]
     . exact List.mem_cons_of_mem _ (zdD.2 e))
   simpa [zco] using this
 . have:=zdH (x :: zY [] l) (zY [] (x :: l)) (List.nodup_cons.2 ⟨fun c=>h (zdD.1 c),ze5 _ _⟩) (fun y hy=>by
     rcases List.mem_cons.1 hy with e | e
     . exact zdD.2 (by simp [e])
     . exact zdD.2 (by simp [zdD.1 e]))
   simpa [zco] using this
theorem zB4:∀ l:List Int,zco l=l.length↔l.Nodup
 | []=>by simp [zco,zY]
 | x :: l=>by
   rw [List.nodup_cons]
   by_cases h:x∈l
   . rw [zxP h]
     have:=zyR l
     simp [h];omega
   . rw [zAh h,<- zB4 l]
     simp [h]
theorem zhj:∀ l:List Int,zb4 (l.map D.int)=some l
 | []=>rfl
 | x :: l=>by simp [zb4,zhj l]
theorem zgQ:∀ l:List Bool,zcA (l.map D.bl)=some l
 | []=>rfl
 | x :: l=>by simp [zcA,zgQ l]
structure St where
 k:Nat
 f:Bool
def wy (b:Bool):Int:=if b=true then 1 else -1
def sD (s:St):D := .tup [.int s.k,.int (wy s.f)]
@[simp] theorem zDW (t:St) (e:zw) (h:MH):zi (sD t) (.int 0) e h = .ok (.int t.k) h:=rfl
@[simp] theorem zEm (t:St) (e:zw) (h:MH):zi (sD t) (.int 1) e h = .ok (.int (wy t.f)) h:=rfl
theorem zyg (s:St):(sD s).nr=true:=rfl
theorem zEd (l:List St):nrs (l.map sD)=true:=zfL _ zyg l
def zcF (f:Bool) (t:T3):T3:=if f=true then t else tn t
def zbX (ts:List T3) (s:St):Option T3:=(ts[s.k]?).map (zcF s.f)
theorem zyP {P:Int}{ts:List T3} (hts:∀ t∈ts,t.Ok P) {s:St}{t:T3} (e:zbX ts s=some t):t.Ok P:=by
 unfold zbX at e
 cases h:ts[s.k]? with
 | none=>rw [h]at e;cases e
 | some t0 =>
   rw [h]at e
   have:=hts t0 (List.mem_of_getElem? h)
   simp at e
   subst e
   unfold zcF
   split
   . exact this
   . exact zoW this
theorem zBz (a b:Int):peq (.int a) (.int b)=(a == b):=by rw [peq]
theorem zfl {h:MH}{l:Nat}{ts:List T3} (hl:h[l]?=some (.lst (ts.map tD))) {s:St}{t:T3} (ht:zbX ts s=some t):app zeJ [.obj l,sD s] h = .ok (tD t) h:=by
 unfold app zeJ
 unfold zbX at ht
 cases hk:ts[s.k]? with
 | none=>rw [hk]at ht;cases ht
 | some t0 =>
   have hlt:=(List.getElem?_eq_some_iff.1 hk).1
   rw [hk]at ht
   simp at ht
   subst ht
   have e1:MI.atI (ts.map tD) (s.k:Int)=some (tD t0):=by
     rw [zgW (by simpa using hlt)]
     have:=(List.getElem?_eq_some_iff.1 hk).2
     simp [this]
   cases hf:s.f
   . simp [sD,zi,hl,e1,wy,hf,zcF]
     exact zie h (by rfl)
   . simp [sD,zi,hl,e1,wy,hf,zcF]
     exact zie h (by rfl)
end Mx
end
section
open PySem MI
namespace Mx
open My
open Classical in
noncomputable def dcd (p:Prop):Bool:=decide p
theorem zg8 {p:Prop} (h:p):dcd p=true:=by simp [dcd,h]
theorem zdw {p:Prop} (h:¬ p):dcd p=false:=by simp [dcd,h]
def hAt (hs:List Int) (i:Int):Int:=hs.getD i.toNat 0
theorem zeh {hs:List Int}{i:Int} (h0:0<=i) (h1:i < hs.length):MI.atI (hs.map D.int) i=some (.int (hAt hs i)):=by
 obtain ⟨k,rfl⟩:∃ k:Nat,i=k:=⟨i.toNat,by omega⟩
 have hl:k < hs.length:=by omega
 rw [zgW (by simpa using hl)]
 simp [hAt,hl]
theorem zhf (l:List Int):nrs (l.map D.int)=true:=zfL _ (fun _=>rfl) l
theorem zeN {h:MH}{l:Nat}{hs:List Int} (hl:h[l]?=some (.lst (hs.map .int))) (hn:hs.length<=1000000) (i:Int):app zfS [.obj l,.int i] h = .ok (.bl (decide ((hs.length:Int)=i))) h:=by
 unfold app zfS
 have c:=zfv (t := .nm 0) (gs:=[(l,.lst (hs.map D.int))]) (elt:=(zh zen (zb (var 0) zd))) (h:=h) D.int (fun _=>D.bl true) (fun e=>∃ d,e=[d]) (zdA hl) hs (by
   rintro x hx _ ⟨d,rfl⟩
   exact ⟨_,rfl,⟨_,rfl⟩,by simp⟩) [none] ⟨_,rfl⟩
 have b:zcA (hs.map fun _=>D.bl true)=some (hs.map fun _=>true):=by have:=zgQ (hs.map fun _=>true);rwa [List.map_map]at this
 by_cases hi:(hs.length:Int)=i
 . simp [hl,zdm,hi,zb6,hn,c,b]
 . simp [hl,zdm,hi]
end Mx
end
section
open PySem MI
namespace Mx
open My
@[simp] theorem zDn (x y z:D):MI.cut [x,y,z] none (some 2)=[x,y]:=rfl
theorem zy6 (l:List Int):(l.map D.int).all (D.pl 5)=true:=by simp [D.pl]
theorem zEh {h:MH}{n m:Nat}{xs:List Int} (hn:h[n]?=some (.lst (xs.map .int))) (hm:h[m]?=some (.lst [])) (e:zw):eqV (.obj n) (.obj m) e h = .ok (.bl (decide (xs=[]))) h:=by
 unfold eqV zcb
 simp only [hn,hm,zy6,if_pos]
 cases xs with
 | nil=>simp [Cmp.eq,zbT]
 | cons x xs=>simp [Cmp.eq,zbT]
end Mx
end
section
open PySem MI
namespace Mx
open My
theorem zeO {h:MH}{w t:Nat}{P turn:Int}{ts:List T3} (W:zbR h w t P turn ts) (hl:ts.length<=1000000):app zeK [.obj w] h = .ok (.obj h.length) (h++[.lst ((List.range ts.length).map fun k=> .int (k:Nat))]):=by
 unfold app zeK
 have q:(-1000000:Int)<=ts.length∧(ts.length:Int)<=1000000:=by omega
 simp [W.w,zcT,zds W,q]
 exact zoL h _ (k:=1) rfl (zfL _ (fun _=>rfl) _)
theorem zox {h:MH}{gs:List (Nat×O)} (hg:∀ g,guard gs (h++g)=true):∀ (xs:List Nat) (m:Nat) (acc:List D) (d:Option D),
   zcg (.nm 0) gs zcX (zH (zbA zd)) (xs.map fun (k:Nat)=>D.int k) acc [d] (h++List.replicate m (.lst [])) =
     .ok (acc++(List.range xs.length).map fun k=> .obj (h.length+m+k)) (h++List.replicate (m+xs.length) (.lst []))
 | [],m,acc,d=>by simp [zcg,hg]
 | x :: xs,m,acc,d=>by
   have ih:=zox hg xs (m+1) (acc++[.obj (h.length+m)]) (some (.int x))
   rw [List.map_cons,zcg,if_pos (hg _)]
   simp only [zCE]
   simp
   have e:List.replicate m (O.lst [])++[O.lst []]=List.replicate (m+1) (O.lst []):=by rw [List.replicate_succ']
   rw [e]
   rw [ih]
   simp only [List.append_assoc,List.length_cons]
   congr 1
   . congr 1
     rw [List.range_succ_eq_map]
     simp [Function.comp_def,Nat.add_assoc,Nat.add_comm,Nat.add_left_comm]
   . congr 2;omega
def zeH (L:List (List St)):MH:=L.map fun ss=> .lst (ss.map sD)
def Onw (ts:List T3) (cs:List Nat) (p:Nat) (ss:List St):Prop:=∀ s:St,s∈ss↔s.k∈cs∧∃ t,zbX ts s=some t∧t.a=p
def zcU (n P:Nat):List D:=(List.range P).map fun k=> .obj (n+k)
structure Tbl (h:MH) (m n P:Nat) (L:List (List St)):Prop where
 tb:h[m]?=some (.lst (zcU n P))
 len:L.length=P
 at':∀ p (hp:p < P),h[n+p]?=some (.lst ((L[p]'(by omega)).map sD))
def stH (h:MH) (ts:List T3) (P:Nat) (L:List (List St)):MH:=h++(.lst (ts.map tD) :: (zeH L++[.lst (zcU (h.length+1) P)]))
theorem zos {h:MH}{ts:List T3}{P:Nat}{L:List (List St)}{p:Nat} (hp:p < L.length):(stH h ts P L)[h.length+1+p]?=some (.lst (L[p].map sD)):=by
 unfold stH
 rw [Nat.add_assoc,zb5,Nat.add_comm 1 p,List.getElem?_cons_succ,List.getElem?_append_left (by simpa [zeH] using hp)]
 simp [zeH,hp]
theorem zrW {h:MH}{ts:List T3}{P:Nat}{L:List (List St)}{p:Nat} (hp:p < L.length) (ss:List St):(stH h ts P L).set (h.length+1+p) (.lst (ss.map sD))=stH h ts P (L.set p ss):=by
 unfold stH
 rw [Nat.add_assoc,zhx,Nat.add_comm 1 p,List.set_cons_succ,List.set_append_left _ _ (by simpa [zeH] using hp)]
 simp [zeH,List.map_set]
theorem ziD {h:MH}{ts:List T3}{P:Nat}{L:List (List St)} (hL:L.length=P):(stH h ts P L)[h.length+1+P]?=some (.lst (zcU (h.length+1) P)):=by
 unfold stH
 rw [Nat.add_assoc,zb5,Nat.add_comm 1 P,List.getElem?_cons_succ,List.getElem?_append_right (by simp [zeH,hL])]
 simp [zeH,hL]
theorem zAS {h:MH}{ts:List T3}{P:Nat}{L:List (List St)}:(stH h ts P L)[h.length]?=some (.lst (ts.map tD)):=by simp [stH]
theorem zgP {n P:Nat}{i:Int} (h0:0<=i) (h1:i < P):MI.atI (zcU n P) i=some (.obj (n+i.toNat)):=by
 obtain ⟨k,rfl⟩:∃ k:Nat,i=k:=⟨i.toNat,by omega⟩
 have hk:k < P:=by omega
 rw [zgW (by simpa [zcU] using hk)]
 simp [zcU]
theorem zyp {ts:List T3}{d:List Nat}{k:Nat}{L:List (List St)}{t0:T3}{P:Nat} (ok:t0.Ok P) (hL:L.length=P) (hleg:∀ f,zbX ts ⟨k,f⟩=some (zcF f t0))
   (hO:∀ p (hp:p < L.length),Onw ts d p L[p]) {L2:List (List St)} (e:L2=(L.set t0.a.toNat (L[t0.a.toNat]'(by have:=ok.a0;have:=ok.a1;omega)++[⟨k,true⟩])).set t0.b.toNat (L[t0.b.toNat]'(by have:=ok.b0;have:=ok.b1;omega)++[⟨k,false⟩])) :
   ∀ p (hp:p < L2.length),Onw ts (d++[k]) p L2[p]:=by
 have hne:t0.a.toNat≠t0.b.toNat:=by have:=ok.a0;have:=ok.b0;have:=ok.ne;omega
 have ha0:=ok.a0
 have hb0:=ok.b0
 intro p hp s
 have hp':p < L.length:=by rw [e]at hp;simpa using hp
 have hOp:=hO p hp' s
 have leg_s:s.k=k->∃ f,s=⟨k,f⟩:=by rcases s with ⟨a,f⟩;rintro rfl;exact ⟨f,rfl⟩
 have e2:L2[p]=if t0.b.toNat=p then L[p]++[⟨k,false⟩] else if t0.a.toNat=p then L[p]++[⟨k,true⟩] else L[p]:=by
   subst e
   simp only [List.getElem_set]
   split
   . rename_i h1;subst h1;rfl
   . split
     . rename_i h1;subst h1;rfl
     . rfl
 rw [e2]
 constructor
 . intro hs
   split at hs
   . rename_i h1
     rcases List.mem_append.1 hs with hs | hs
     . have:=hOp.1 hs;exact ⟨by simp [this.1],this.2⟩
     . simp at hs;subst hs
       refine ⟨by simp,zcF false t0,hleg false,?_⟩
       clear hOp
       simp [zcF,tn];omega
   . split at hs
     . rename_i h1
       rcases List.mem_append.1 hs with hs | hs
       . have:=hOp.1 hs;exact ⟨by simp [this.1],this.2⟩
       . simp at hs;subst hs
         refine ⟨by simp,zcF true t0,hleg true,?_⟩
         clear hOp
         simp [zcF];omega
     . have:=hOp.1 hs;exact ⟨by simp [this.1],this.2⟩
 . rintro ⟨h1,t,h2,h3⟩
   by_cases hd:s.k∈d
   . have:=hOp.2 ⟨hd,t,h2,h3⟩
     split
     . simp [this]
     . split
       . simp [this]
       . exact this
   . have hk:s.k=k:=by simpa [hd] using h1
     obtain ⟨f,rfl⟩:=leg_s hk
     rw [hleg f]at h2
     cases h2
     clear hOp
     cases f
     . simp [zcF,tn]at h3
       rw [if_pos (by omega)];simp
     . simp [zcF]at h3
       rw [if_neg (by omega),if_pos (by omega)];simp
theorem zeP {h:MH}{w t c:Nat}{P:Nat}{turn:Int}{ts:List T3} (W:zbR h w t P turn ts) (hts:∀ t∈ts,t.Ok P) (hP0:1<=P) (hP:P<=1000000) {cs:List Nat} (hc:h[c]?=some (.lst (cs.map fun k=> .int (k:Nat)))) (hcs:∀ k∈cs,k < ts.length) (hcl:cs.length<=100000) :
   ∃ g L,app zfQ [.obj w,.obj c] h = .ok (.obj (h.length+1+P)) (h++g)∧Tbl (h++g) (h.length+1+P) (h.length+1) P L∧∀ p (hp:p < L.length),Onw ts cs p L[p]:=by
 unfold app zfQ
 have loop:=zfu (t := .nm 4) (gs:=[(c,.lst (cs.map fun k=> .int (k:Nat)))]) (body:=(zf (zbb (zbJ (bin zi (var 3) (bin zi (bin zi (var 2) (var 4)) (za (.int (0))))) (zca (zb (var 4) (zb (za (.int (1))) zd)))))
   (zbb (zbJ (bin zi (var 3) (bin zi (bin zi (var 2) (var 4)) (za (.int (1))))) (zca (zb (var 4) (zb (za (.int (-1))) zd))))))) (fun k:Nat=>D.int k)
   (fun d e h'=>∃ L x,e=[some (.obj w),some (.obj c),some (.obj h.length),some (.obj (h.length+1+P)),x]∧h'=stH h ts P L∧L.length=P∧(∀ p (hp:p < L.length),Onw ts d p L[p])∧∀ p (hp:p < L.length),L[p].length<=2 * d.length) cs (by
   rintro d k r e h' eq ⟨L,x,rfl,rfl,hL,hO,hN⟩
   refine ⟨zdA (zN hc _),_,rfl,?_⟩
   have hk:=hcs k (by rw [<- eq];simp)
   have hat:MI.atI (ts.map tD) (k:Int)=some (tD ts[k]):=by rw [zgW (by simpa using hk)];simp
   have ok:=hts ts[k] (List.getElem_mem hk)
   have hleg1:∀ f,zbX ts ⟨k,f⟩=some (zcF f ts[k]):=fun f=>by simp [zbX,hk]
   generalize ts[k]=t0 at hat ok hleg1
   have hdl:d.length < 100000:=by have:=congrArg List.length eq;simp at this;omega
   have ha0:=ok.a0
   have ha1:=ok.a1
   have hb0:=ok.b0
   have hb1:=ok.b1
   have hne:t0.a.toNat≠t0.b.toNat:=by have:=ok.ne;omega
   have hA:t0.a.toNat < L.length:=by omega
   have hB:t0.b.toNat < L.length:=by omega
   have hB2:t0.b.toNat < (L.set t0.a.toNat (L[t0.a.toNat]++[⟨k,true⟩])).length:=by simpa using hB
   have r1:=zgP (n:=h.length+1) (P:=P) ha0 ha1
   have r2:=zgP (n:=h.length+1) (P:=P) hb0 hb1
   have l1:=hN _ hA
   have l2:=hN _ hB
   have s1:(L[t0.a.toNat].map sD)++[.tup [.int k,.int 1]]=(L[t0.a.toNat]++[(⟨k,true⟩:St)]).map sD:=by simp [sD,wy]
   have s2:(L[t0.b.toNat].map sD)++[.tup [.int k,.int (-1)]]=(L[t0.b.toNat]++[(⟨k,false⟩:St)]).map sD:=by simp [sD,wy]
   refine ⟨[some (.obj w),some (.obj c),some (.obj h.length),some (.obj (h.length+1+P)),some (.int k)],stH h ts P ((L.set t0.a.toNat (L[t0.a.toNat]++[⟨k,true⟩])).set t0.b.toNat (L[t0.b.toNat]++[⟨k,false⟩])),?_,_,_,rfl,rfl,by simpa using hL,zyp ok hL hleg1 hO rfl,?_⟩
   . have g1:=zos (h:=h) (ts:=ts) (P:=P) hA
     have g2:=zos (h:=h) (ts:=ts) (P:=P) hB2
     rw [List.getElem_set_ne hne]at g2
     have t1:=ziD (h:=h) (ts:=ts) hL
     have t2:=ziD (h:=h) (ts:=ts) (L:=L.set t0.a.toNat (L[t0.a.toNat]++[⟨k,true⟩])) (P:=P) (by simpa using hL)
     have u1:=zrW (h:=h) (ts:=ts) (P:=P) hA (L[t0.a.toNat]++[⟨k,true⟩])
     have u2:=zrW (h:=h) (ts:=ts) (P:=P) hB2 (L[t0.b.toNat]++[⟨k,false⟩])
     have m1:L[t0.a.toNat].length < 1000000:=by omega
     have m2:L[t0.b.toNat].length < 1000000:=by omega
     rw [<- s1]at u1
     rw [<- s2]at u2
     simp [zct,zAS,hat,r1,r2,g1,g2,t1,t2,zdx,m1,m2,u1,u2]
   . intro p hp
     have hp':p < L.length:=by simpa using hp
     have:=hN p hp'
     simp only [List.getElem_set]
     split
     . rename_i e;subst e;simp;omega
     . split
       . rename_i e;subst e;simp;omega
       . simp;omega)
   (by rintro e h' ⟨L,x,rfl,rfl,_⟩;exact zdA (zN hc _)) [some (.obj w),some (.obj c),some (.obj h.length),some (.obj (h.length+1+P)),none] (stH h ts P (List.replicate P [])) ⟨_,none,rfl,rfl,by simp,by
     intro p hp s
     simp [Onw],by simp⟩
 obtain ⟨e2,h2,hr,L,x,rfl,rfl,hL,hO,_⟩:=loop
 refine ⟨.lst (ts.map tD) :: (zeH L++[.lst (zcU (h.length+1) P)]),L,?_,⟨?_,hL,?_⟩,hO⟩
 . have cn:=zox (h:=h++[.lst (ts.map tD)]) (gs:=[]) (fun _=>rfl) (List.range P) 0 [] none
   have q:(-1000000:Int)<=P∧(P:Int)<=1000000:=by omega
   simp at cn
   simp [W.w,zcT,zds W,W.wA,q,zb6,hP]
   have eL:(h++O.lst (ts.map tD) :: List.replicate P (O.lst [])).length=h.length+1+P:=by simp;omega
   have eH:(h++O.lst (ts.map tD) :: List.replicate P (O.lst []))++[O.lst ((List.range P).map fun k=>D.obj (h.length+1+k))]=stH h ts P (List.replicate P []):=by simp [stH,zeH,zcU]
   have hc2:∀ L,(stH h ts P L)[c]?=some (.lst (cs.map fun k=> .int (k:Nat))):=fun L=>zN hc _
   rw [cn]
   simp only [zii,zhT,zcW,eL,eH]
   simp [hc2,hr]
   have hlt:¬ h.length+1+P < h.length:=by omega
   have hfl:(O.lst (zcU (h.length+1) P)).flat=false:=by
     obtain ⟨m,rfl⟩:∃ m,P=m+1:=⟨P - 1,by omega⟩
     simp [O.flat,zcU,List.range_succ_eq_map,nrs,D.nr]
   simp only [gc]
   rw [show stH h ts P L=h++(.lst (ts.map tD) :: (zeH L++[.lst (zcU (h.length+1) P)])) from rfl,if_pos (zeg _ _)]
   have tb:=ziD (h:=h) (ts:=ts) hL
   unfold stH at tb
   simp [gcV,hlt,tb,hfl]
 . exact ziD hL
 . intro p hp
   exact zos (by omega)
end Mx
end
section
open PySem MI
namespace Mx
open My
abbrev En:=Int×Option St
def oD:Option St->D
 | none=> .non
 | some s=>sD s
def eD (e:En):Int×D:=(e.1,oD e.2)
def zj (A:List En):List Int:=A.map (·.1)
@[simp] theorem zgX (A B:List En):zj (A++B)=zj A++zj B:=by simp [zj]
@[simp] theorem zh7 (e:En):zj [e]=[e.1]:=rfl
@[simp] theorem zBo (e:En) (A:List En):zj (e :: A)=e.1 :: zj A:=rfl
@[simp] theorem zD6:zj []=[]:=rfl
theorem zhY:∀ (A:List En) (k:Int),(look k (A.map eD)).isSome=decide (k∈zj A)
 | [],k=>rfl
 | e :: A,k=>by
   simp only [List.map_cons,look]
   by_cases h:e.1=k
   . simp [eD,h]
   . have h':¬ k=e.1:=fun c=>h c.symm
     have:=zhY A k
     have hh:¬ (eD e).1=k:=h
     rw [if_neg hh,this]
     simp [h']
theorem zqM:∀ (A:List En) (k:Int),((A.map eD).any fun p=>decide (p.1=k))=decide (k∈zj A)
 | [],k=>rfl
 | e :: A,k=>by
   have:=zqM A k
   simp only [List.map_cons,List.any_cons,this]
   by_cases h:e.1=k
   . simp [eD,h]
   . have h':¬ k=e.1:=fun c=>h c.symm
     simp [eD,h,h']
theorem zrr {A:List En}{k:Int} (h:k∉zj A) (o:Option St):zeZ k (oD o) (A.map eD)=(A++[(k,o)]).map eD:=by
 unfold zeZ
 rw [if_neg (by rw [zqM];simp [h])]
 simp [eD]
theorem zyb (o:Option St):(oD o).nr=true:=by cases o <;> rfl
theorem zq5 (A:List En):(O.dic (A.map eD)).flat=true:=by
 simp only [O.flat,List.map_map]
 exact zfL _ (fun e=>zyb e.2) A
inductive zb8 (ts:List T3) (cs:List Nat) (A:List En) (start:Int):List En->Prop
 | root:zb8 ts cs A start [(start,none)]
 | step {N:List En} {s:St} {t:T3}:zb8 ts cs A start N->zbX ts s=some t->s.k∈cs->t.a∈zj N->t.b∉zj (A++N)->zb8 ts cs A start (N++[(t.b,some s)])
theorem zb8.nodup {ts:List T3}{cs:List Nat}{A N:List En}{start:Int} (G:zb8 ts cs A start N):(zj N).Nodup:=by
 induction G with
 | root=>simp
 | step G hl hk ha hb ih =>
   simp only [zgX,zh7]
   rw [List.nodup_append]
   refine ⟨ih,by simp,?_⟩
   intro x hx y hy e
   simp at hy
   subst hy;subst e
   exact hb (by simp [hx])
theorem zb8.range {ts:List T3}{cs:List Nat}{A N:List En}{start:Int}{P:Nat} (hts:∀ t∈ts,t.Ok P) (h0:0<=start) (h1:start < P) (G:zb8 ts cs A start N):∀ x∈zj N,0<=x∧x < (P:Int):=by
 induction G with
 | root=>simp;exact ⟨h0,h1⟩
 | step G hl hk ha hb ih =>
   intro x hx
   simp at hx
   rcases hx with hx | rfl
   . exact ih x hx
   . have:=zyP hts hl;exact ⟨this.b0,this.b1⟩
theorem zhP {l:List Int}{P:Nat} (hn:l.Nodup) (hr:∀ x∈l,0<=x∧x < (P:Int)):l.length<=P:=by
 have:=zdH l ((List.range P).map fun (k:Nat)=>(k:Int)) hn (fun x hx=>by
   have:=hr x hx
   exact List.mem_map.2 ⟨x.toNat,List.mem_range.2 (by omega),by omega⟩)
 simpa using this
def spH (h:MH) (q:Nat) (A:List En) (W:List Int):MH:=h.set q (.dic (A.map eD))++[.lst (W.map .int)]
section
variable {h:MH}{q:Nat}{A:List En}{W:List Int}
theorem zqG (hq:q < h.length):(spH h q A W)[q]?=some (.dic (A.map eD)):=by
 unfold spH
 rw [List.getElem?_append_left (by simpa using hq),List.getElem?_set_self hq]
theorem zhv {n:Nat}{o:O} (hn:h[n]?=some o) (hnq:n≠q):(spH h q A W)[n]?=some o:=by
 unfold spH
 rw [List.getElem?_append_left (by simpa using (List.getElem?_eq_some_iff.1 hn).1),List.getElem?_set_ne (fun e=>hnq e.symm)]
 exact hn
theorem zot:(spH h q A W)[h.length]?=some (.lst (W.map .int)):=by
 unfold spH
 rw [List.getElem?_append_right (by simp)]
 simp
theorem zBy (W2:List Int):(spH h q A W).set h.length (.lst (W2.map .int))=spH h q A W2:=by
 unfold spH
 rw [List.set_append_right _ _ (by simp)]
 simp
theorem zyW (hq:q < h.length) (A2:List En):(spH h q A W).set q (.dic (A2.map eD))=spH h q A2 W:=by
 unfold spH
 rw [List.set_append_left _ _ (by simpa using hq)]
 simp
end
theorem zxF {h:MH}{q:Nat}{o:O} (f:o.flat=true) (g:MH):gc h (.ok .non (h.set q o++g)) = .ok .non (h.set q o):=by
 have ok:zef h (h.set q o++g)=true:=by
   unfold zef
   rw [List.all_eq_true]
   intro i hi
   rw [List.mem_range]at hi
   rw [List.getElem?_append_left (by simpa using hi)]
   by_cases e:q=i
   . subst e
     rw [List.getElem?_set_self hi];simp [f]
   . rw [List.getElem?_set_ne e];simp
 simp [gc,ok,gcV]
def Clo (ts:List T3) (cs:List Nat) (ps K:List Int):Prop:=∀ s t,s.k∈cs->zbX ts s=some t->t.a∈ps->t.b∈K
theorem zfm {h:MH}{n m b q P:Nat}{ts:List T3}{cs:List Nat} (hn:h[n]?=some (.lst (ts.map tD))) (hts:∀ t∈ts,t.Ok P) (hP:P<=900000) {L:List (List St)} (TB:Tbl h m b P L) (hO:∀ p (hp:p < L.length),Onw ts cs p L[p])
   {A:List En} (hA:h[q]?=some (.dic (A.map eD))) (hAl:A.length+P<=900000) {start:Int} (h0:0<=start) (h1:start < P) (hs:start∉zj A) :
   ∃ N,app zfi [.obj n,.obj m,.int start,.obj q] h = .ok .non (h.set q (.dic ((A++N).map eD)))∧zb8 ts cs A start N∧Clo ts cs (zj N) (zj (A++N)):=by
 have hq:q < h.length:=(List.getElem?_eq_some_iff.1 hA).1
 have hnq:n≠q:=fun e=>by rw [e,hA]at hn;cases hn
 have hmq:m≠q:=fun e=>by have:=TB.tb;rw [e,hA]at this;cases this
 have hbq:∀ p,p < P->b+p≠q:=fun p hp e=>by have:=TB.at' p hp;rw [e,hA]at this;cases this
 unfold app zfi
 have loop:=zsG (t:=(tst (bin ltV (var 5) (zbP (zbN (var 4)))))) (body:=(zf (zm (.nm 6) (bin zi (var 4) (var 5)))
   (zf (zea (.nm 7) (itL (bin zi (var 1) (var 6)))
   (zf (zm (.nm 8) (bin zi (zh zeJ (zb (var 0) (zb (var 7) zd))) (za (.int (1)))))
   (ifS (tst (bin zd8 (var 8) (var 3))) (zf (zb0 (var 3) (var 8) (var 7))
   (zbb (zbJ (var 4) (var 8)))) zq)))
   (zfA zF 5 (za (.int (1)))))))
   (fun k e h'=>∃ N x y z place,e=[some (.obj n),some (.obj m),some (.int start),some (.obj q),some (.obj h.length),some (.int (place:Nat)),x,y,z]∧h'=spH h q (A++N) (zj N)∧zb8 ts cs A start N∧place<=N.length∧k=P - place∧Clo ts cs ((zj N).take place) (zj (A++N)))
   (fun e h'=>∃ N,h'=spH h q (A++N) (zj N)∧zb8 ts cs A start N∧Clo ts cs (zj N) (zj (A++N))) (by
   rintro k e h' ⟨N,x,y,z,place,rfl,rfl,G,hpl,rfl,hC⟩
   have hNl:N.length<=P:=by have:=zhP G.nodup (G.range hts h0 h1);simpa [zj] using this
   have ltest:(((tst (bin ltV (var 5) (zbP (zbN (var 4)))))):ME Bool) [some (.obj n),some (.obj m),some (.int start),some (.obj q),some (.obj h.length),some (.int (place:Nat)),x,y,z] (spH h q (A++N) (zj N)) = .ok (decide (place < N.length)) (spH h q (A++N) (zj N)):=by
     simp [zot,zj]
   by_cases hlt:place < N.length
   . right
     refine ⟨by rw [ltest];simp [hlt],?_⟩
     have hpk:place < (zj N).length:=by simpa [zj] using hlt
     have hhere:=G.range hts h0 h1 _ (List.getElem_mem hpk)
     have hat:MI.atI ((zj N).map D.int) (place:Int)=some (.int (zj N)[place]):=by rw [zgW (by simpa using hpk)];simp
     generalize hhp:(zj N)[place]=here at hhere hat
     have hhm:here∈zj N:=by rw [<- hhp];exact List.getElem_mem hpk
     have htk:(zj N).take (place+1)=(zj N).take place++[here]:=by rw [<- hhp,List.take_append_getElem hpk]
     have hpt:here.toNat < P:=by omega
     have hLl:here.toNat < L.length:=by rw [TB.len];exact hpt
     have hr:=zgP (n:=b) (P:=P) hhere.1 hhere.2
     have hss:=TB.at' here.toNat hpt
     have hon:=hO here.toNat hLl
     have hbq':=hbq here.toNat hpt
     generalize hsd:L[here.toNat]=ss at hss hon
     have hcast:((here.toNat:Nat):Int)=here:=by omega
     have inner:=zfu (t := .nm 7) (gs:=[(b+here.toNat,.lst (ss.map sD))]) (body:=(zf (zm (.nm 8) (bin zi (zh zeJ (zb (var 0) (zb (var 7) zd))) (za (.int (1)))))
   (ifS (tst (bin zd8 (var 8) (var 3))) (zf (zb0 (var 3) (var 8) (var 7))
   (zbb (zbJ (var 4) (var 8)))) zq))) sD
       (fun d e h'=>∃ M y z,e=[some (.obj n),some (.obj m),some (.int start),some (.obj q),some (.obj h.length),some (.int (place:Nat)),some (.int here),y,z]∧h'=spH h q (A++(N++M)) (zj (N++M))∧zb8 ts cs A start (N++M)∧∀ s∈d,∀ t,zbX ts s=some t->t.b∈zj (A++(N++M))) ss (by
       rintro d s r e h' eq ⟨M,y,z,rfl,rfl,G2,hD⟩
       refine ⟨zdA (zhv hss hbq'),_,rfl,?_⟩
       obtain ⟨hk,t,hl,ha⟩:=(hon s).1 (by rw [<- eq];simp)
       rw [hcast]at ha
       have hlg:=zfl (h:=spH h q (A++(N++M)) (zj (N++M))) (zhv hn hnq) hl
       have hNMl:(zj (N++M)).length<=P:=zhP G2.nodup (G2.range hts h0 h1)
       by_cases hb:t.b∈zj (A++(N++M))
       . refine ⟨_,_,?_,M,some (sD s),some (.int t.b),rfl,rfl,G2,?_⟩
         . have hl1:=zhY (A++(N++M)) t.b
           rw [decide_eq_true hb]at hl1
           simp only [List.map_append,zgX]at hl1 hlg
           simp [hlg,zd8,inV,zqG hq,hl1]
         . intro s' hs' t' hl'
           rcases List.mem_append.1 hs' with h2 | h2
           . exact hD s' h2 t' hl'
           . simp at h2;subst h2;rw [hl]at hl';cases hl';exact hb
       . have G3:zb8 ts cs A start (N++M++[(t.b,some s)]) := .step G2 hl hk (by rw [ha];simp [hhm]) hb
         rw [List.append_assoc]at G3
         have hkk:zj (N++(M++[(t.b,some s)]))=zj (N++M)++[t.b]:=by simp
         have haa:A++(N++(M++[(t.b,some s)]))=(A++(N++M))++[(t.b,some s)]:=by simp
         refine ⟨_,spH h q (A++(N++(M++[(t.b,some s)]))) (zj (N++(M++[(t.b,some s)]))),?_,M++[(t.b,some s)],some (sD s),some (.int t.b),rfl,rfl,G3,?_⟩
         . have hl1:=zhY (A++(N++M)) t.b
           rw [decide_eq_false hb]at hl1
           have hp1:=zrr hb (some s)
           rw [hkk,haa]
           have w1:=zBy (h:=h) (q:=q) (A:=(A++(N++M))++[(t.b,some s)]) (W:=zj (N++M)) (zj (N++M)++[t.b])
           have q1:=zyW (h:=h) (q:=q) (A:=A++(N++M)) (W:=zj (N++M)) hq ((A++(N++M))++[(t.b,some s)])
           have hlen:(A++(N++M)).length < 1000000:=by
             have e1:(zj (N++M)).length=(N++M).length:=by simp [zj]
             rw [List.length_append];omega
           have hlen2:(zj (N++M)).length < 1000000:=by omega
           have hpe:zeZ t.b (sD s) ((A++(N++M)).map eD)=((A++(N++M))++[(t.b,some s)]).map eD:=hp1
           rw [List.map_append]at w1
           generalize zj (N++M)=KN at *
           generalize A++(N++M)=AN at *
           simp only [List.map_cons,List.map_nil]at w1
           simp [hlg,zd8,inV,zqG hq,hl1]
           rw [if_pos hlen,hpe,q1]
           simp [zot,zdx,hlen2,w1]
         . intro s' hs' t' hl'
           rw [haa]
           rcases List.mem_append.1 hs' with h2 | h2
           . have:=hD s' h2 t' hl';rw [zgX];simp only [List.mem_append];exact .inl this
           . simp at h2;subst h2;rw [hl]at hl';cases hl';simp) (by
       rintro e h' ⟨M,y,z,rfl,rfl,G2,hD⟩;exact zdA (zhv hss hbq')) [some (.obj n),some (.obj m),some (.int start),some (.obj q),some (.obj h.length),some (.int (place:Nat)),some (.int here),y,z] (spH h q (A++N) (zj N)) ⟨[],y,z,rfl,by simp,by simpa using G,by simp⟩
     obtain ⟨e2,h2,hr2,M,y2,z2,rfl,rfl,G2,hD⟩:=inner
     refine ⟨P - (place+1),[some (.obj n),some (.obj m),some (.int start),some (.obj q),some (.obj h.length),some (.int ((place+1:Nat):Int)),some (.int here),y2,z2],spH h q (A++(N++M)) (zj (N++M)),by omega,?_,N++M,_,_,_,place+1,rfl,rfl,G2,by simp;omega,rfl,?_⟩
     . simp [zct,zot,hat,zhv TB.tb hmq,hr,zhv hss hbq',hr2]
     . intro s t hk hl ha
       rw [zgX N M,List.take_append_of_le_length (by omega),htk]at ha
       rcases List.mem_append.1 ha with h2 | h2
       . have:=hC s t hk hl h2
         simp at this ⊢
         rcases this with h3 | h3
         . exact .inl h3
         . exact .inr (.inl h3)
       . simp at h2
         exact hD s ((hon s).2 ⟨hk,t,hl,by rw [hcast];exact h2⟩) t hl
   . left
     refine ⟨by rw [ltest];simp [hlt],N,rfl,G,?_⟩
     intro s t hk hl ha
     refine hC s t hk hl ?_
     rw [List.take_of_length_le (by simp [zj];omega)]
     exact ha) 1000000 P [some (.obj n),some (.obj m),some (.int start),some (.obj q),some (.obj h.length),some (.int ((0:Nat):Int)),none,none,none] (spH h q (A++[(start,none)]) [start]) (by omega)
   ⟨[(start,none)],none,none,none,0,rfl,rfl,.root,by simp,by omega,fun s t _ _ ha=>by simp at ha⟩
 obtain ⟨e2,h2,hr,N,rfl,G,hC⟩:=loop
 refine ⟨N,?_,G,hC⟩
 have hp1:=zrr hs none
 have hal:A.length < 1000000:=by omega
 have e1:(h.set q (.dic ((A++[(start,none)]).map eD))).length=h.length:=by simp
 simp only [oD]at hp1
 unfold spH at hr
 simp only [zh7,List.map_cons,List.map_nil]at hr
 simp [hA,hal,hp1]
 unfold ze3
 simp only [List.map_append,List.map_cons,List.map_nil,show ((0:Nat):Int)=0 from rfl]at hr
 rw [hr]
 have hf:=zq5 (A++N)
 rw [List.map_append]at hf
 exact zxF hf _
end Mx
end
section
open PySem MI
namespace Mx
open My
theorem Tbl.app {h:MH}{m n P:Nat}{L:List (List St)} (T:Tbl h m n P L) (g:MH):Tbl (h++g) m n P L:=⟨zN T.tb g,T.len,fun p hp=>zN (T.at' p hp) g⟩
inductive zcd (ts:List T3) (cs:List Nat):List En->Prop
 | nil:zcd ts cs []
 | root {A:List En} {p:Int}:zcd ts cs A->p∉zj A->zcd ts cs (A++[(p,none)])
 | step {A:List En} {s:St} {t:T3}:zcd ts cs A->zbX ts s=some t->s.k∈cs->t.a∈zj A->t.b∉zj A->zcd ts cs (A++[(t.b,some s)])
theorem zcd.grow {ts:List T3}{cs:List Nat}{A N:List En}{start:Int} (B:zcd ts cs A) (hs:start∉zj A) (G:zb8 ts cs A start N):zcd ts cs (A++N):=by
 induction G with
 | root=>exact .root B hs
 | step G hl hk ha hb ih =>
   rw [<- List.append_assoc]
   exact .step ih hl hk (by simp [ha]) hb
theorem zcd.nodup {ts:List T3}{cs:List Nat}{A:List En} (G:zcd ts cs A):(zj A).Nodup:=by
 induction G with
 | nil=>simp
 | root G hb ih =>
   simp only [zgX,zh7]
   rw [List.nodup_append]
   refine ⟨ih,by simp,?_⟩
   intro x hx y hy e
   simp at hy
   subst hy;subst e
   exact hb (by simp [hx])
 | step G hl hk ha hb ih =>
   simp only [zgX,zh7]
   rw [List.nodup_append]
   refine ⟨ih,by simp,?_⟩
   intro x hx y hy e
   simp at hy
   subst hy;subst e
   exact hb (by simp [hx])
def rv (s:St):St:=⟨s.k,!s.f⟩
theorem zA0 {ts:List T3}{s:St}{t:T3} (h:zbX ts s=some t):zbX ts (rv s)=some (tn t):=by
 unfold zbX at *
 cases hk:ts[s.k]? with
 | none=>rw [hk]at h;cases h
 | some t0 =>
   rw [hk]at h
   simp at h
   subst h
   simp only [rv,hk]
   cases s.f <;> simp [zcF,tn]
def zA (A:List En):List Int:=A.filterMap fun e=>match e.2 with
 | none=>some e.1
 | some _=>none
@[simp] theorem ze4 (A B:List En):zA (A++B)=zA A++zA B:=by simp [zA]
@[simp] theorem zDa:zA []=[]:=rfl
theorem zqZ {B:List En} (h:∀ e∈B,e.2≠none):zA B=[]:=by
 unfold zA
 rw [List.filterMap_eq_nil_iff]
 intro e he
 have:=h e he
 cases h2:e.2 with
 | none=>exact absurd h2 this
 | some s=>simp [h2]
theorem zof {A:List En}{x:Int} (h:x∈zA A):x∈zj A:=by
 unfold zA at h
 obtain ⟨e,he,h2⟩:=List.mem_filterMap.1 h
 cases h3:e.2 with
 | none=>simp [h3]at h2;subst h2;exact List.mem_map.2 ⟨e,he,rfl⟩
 | some s=>simp [h3]at h2
theorem zh6:∀ {A:List En},(zj A).Nodup->(zA A).Nodup
 | [],_=>by simp
 | e :: A,h=>by
   rw [zBo,List.nodup_cons]at h
   have ih:=zh6 h.2
   rw [show e :: A=[e]++A from rfl,ze4]
   rcases e with ⟨p,o⟩
   cases o with
   | none=>exact List.nodup_cons.2 ⟨fun c=>h.1 (zof c),ih⟩
   | some s=>exact ih
theorem zb8.head {ts:List T3}{cs:List Nat}{A N:List En}{start:Int} (G:zb8 ts cs A start N):∃ M,N=(start,none) :: M∧∀ e∈M,e.2≠none:=by
 induction G with
 | root=>exact ⟨[],rfl,by simp⟩
 | @step N s t G hl hk ha hb ih =>
   obtain ⟨M,rfl,h⟩:=ih
   refine ⟨M++[(t.b,some s)],rfl,?_⟩
   intro e he
   rcases List.mem_append.1 he with he | he
   . exact h e he
   . simp at he;subst he;simp
structure zcK (ts:List T3) (cs:List Nat) (A:List En) (ρ:Int->Int):Prop where
 bld:zcd ts cs A
 clo:Clo ts cs (zj A) (zj A)
 rho:∀ s t,s.k∈cs->zbX ts s=some t->t.a∈zj A->ρ t.a=ρ t.b
 rt:∀ e∈A,e.2=none->ρ e.1=e.1
 blk:∀ d e r,A=d++e :: r->∃ l,zA (d++[e])=l++[ρ e.1]
 low:∀ p∈zj A,ρ p<=p
 asc:(zA A).Pairwise (· < ·)
theorem zb8.disj {ts:List T3}{cs:List Nat}{A N:List En}{start:Int} (hs:start∉zj A) (G:zb8 ts cs A start N):∀ x∈zj N,x∉zj A:=by
 induction G with
 | root=>simp;exact hs
 | step G hl hk ha hb ih =>
   intro x hx
   simp at hx
   rcases hx with hx | rfl
   . exact ih x hx
   . intro c;exact hb (by simp [c])
theorem zb8.roots {ts:List T3}{cs:List Nat}{A N:List En}{start:Int} (G:zb8 ts cs A start N):∀ e∈N,e.2=none->e.1=start:=by
 induction G with
 | root=>simp
 | step G hl hk ha hb ih =>
   intro e he h2
   rcases List.mem_append.1 he with he | he
   . exact ih e he h2
   . simp at he;subst he;cases h2
theorem zb8.mem {ts:List T3}{cs:List Nat}{A N:List En}{start:Int} (G:zb8 ts cs A start N):start∈zj N:=by
 induction G with
 | root=>simp
 | step G _ _ _ _ ih=>simp [ih]
theorem zcK.add {ts:List T3}{cs:List Nat}{A N:List En}{ρ:Int->Int}{start:Int} (F:zcK ts cs A ρ) (hs:start∉zj A) (G:zb8 ts cs A start N) (hC:Clo ts cs (zj N) (zj (A++N))) (hlo:∀ x∈zj N,start<=x) (hro:∀ r∈zA A,r < start):∃ ρ',zcK ts cs (A++N) ρ'∧zA (A++N)=zA A++[start]:=by
 have hrt:zA (A++N)=zA A++[start]:=by
   obtain ⟨M,rfl,hM⟩:=G.head
   rw [ze4]
   congr 1
   show zA ([(start,none)]++M)=[start]
   rw [ze4,zqZ hM]
   rfl
 refine ⟨fun p=>if p∈zj A then ρ p else start,⟨F.bld.grow hs G,?_,?_,?_,?_,?_,?_⟩,hrt⟩
 . intro s t hk hl ha
   simp at ha
   rcases ha with ha | ha
   . have:=F.clo s t hk hl ha;simp [this]
   . exact hC s t hk hl ha
 . intro s t hk hl ha
   simp at ha
   rcases ha with ha | ha
   . have hb:=F.clo s t hk hl ha
     simp only [if_pos ha,if_pos hb]
     exact F.rho s t hk hl ha
   . have hna:=G.disj hs _ ha
     have hnb:t.b∉zj A:=fun hb=>hna (F.clo (rv s) (tn t) hk (zA0 hl) hb)
     simp only [if_neg hna,if_neg hnb]
 . intro e he h2
   rcases List.mem_append.1 he with he | he
   . have:e.1∈zj A:=List.mem_map.2 ⟨e,he,rfl⟩
     simp only [if_pos this]
     exact F.rt e he h2
   . have:=G.roots e he h2
     have hn:e.1∉zj A:=G.disj hs _ (List.mem_map.2 ⟨e,he,rfl⟩)
     simp only [if_neg hn]
     exact this.symm
 . intro d e r h
   rcases List.append_eq_append_iff.1 h with ⟨d',h1,h2⟩ | ⟨r',h1,h2⟩
   . obtain ⟨M,hM,hs2⟩:=G.head
     have hmem:e.1∈zj N:=by rw [h2];simp
     have hn:e.1∉zj A:=G.disj hs _ hmem
     simp only [if_neg hn]
     refine ⟨zA A,?_⟩
     rw [h1,List.append_assoc,ze4]
     congr 1
     rw [hM]at h2
     cases d' with
     | nil =>
       simp at h2
       rw [<- h2.1];rfl
     | cons x d' =>
       simp at h2
       obtain ⟨h3,h4⟩:=h2
       rw [<- h3]
       have:zA (d'++[e])=[]:=zqZ (fun y hy=>hs2 y (by rw [h4];simp at hy ⊢;rcases hy with hy | hy <;> simp [hy]))
       show start :: zA (d'++[e])=[start]
       rw [this]
   . cases r' with
     | nil =>
       simp at h1 h2
       obtain ⟨M,hM,hs2⟩:=G.head
       rw [<- h2]at hM
       simp at hM
       obtain ⟨h3,h4⟩:=hM
       have hn:e.1∉zj A:=by rw [h3];exact hs
       refine ⟨zA d,?_⟩
       rw [if_neg hn,ze4,h3];rfl
     | cons x r' =>
       simp at h2
       obtain ⟨rfl,h3⟩:=h2
       have hm:e.1∈zj A:=by rw [h1];simp
       simp only [if_pos hm]
       exact F.blk d e r' h1
 . intro p hp
   by_cases c:p∈zj A
   . simp only [if_pos c];exact F.low p c
   . simp only [if_neg c]
     have:p∈zj N:=by
       simp at hp
       rcases hp with hp | hp
       . exact absurd hp c
       . exact hp
     exact hlo p this
 . rw [hrt,List.pairwise_append]
   exact ⟨F.asc,by simp,fun a ha b hb=>by simp at hb;subst hb;exact hro a ha⟩
theorem zfn {h:MH}{w t c P:Nat}{turn:Int}{ts:List T3} (W:zbR h w t P turn ts) (hts:∀ t∈ts,t.Ok P) (hP0:1<=P) (hP:P<=400000) {cs:List Nat} (hc:h[c]?=some (.lst (cs.map fun k=> .int (k:Nat)))) (hcs:∀ k∈cs,k < ts.length) (hcl:cs.length<=100000) :
   ∃ A ρ,app zdI [.obj w,.obj c] h = .ok (.obj h.length) (h++[.dic (A.map eD)])∧zcK ts cs A ρ∧(∀ p,0<=p->p < (P:Int)->p∈zj A)∧(∀ p∈zj A,0<=p∧p < (P:Int)):=by
 unfold app zdI
 obtain ⟨g,L,hsf,TB,hO⟩:=zeP (W.app [.lst (ts.map tD)]) hts hP0 (by omega) (zN hc _) hcs hcl
 have hti:=zds W
 generalize hbb:(h++[O.lst (ts.map tD)])++g=B at *
 have hB:B=h++(O.lst (ts.map tD) :: g):=by rw [<- hbb];simp
 have hBn:B[h.length]?=some (.lst (ts.map tD)):=by rw [hB];simp
 have loop:=zfu (t := .nm 5) (gs:=[]) (body:=(ifS (tst (bin zd8 (var 5) (var 4))) (zbb (zh zfi (zb (var 2) (zb (var 3) (zb (var 5) (zb (var 4) zd)))))) zq)) (fun k:Nat=>D.int k)
   (fun d e h'=>∃ A ρ x,e=[some (.obj w),some (.obj c),some (.obj h.length),some (.obj ((h++[O.lst (ts.map tD)]).length+1+P)),some (.obj B.length),x]∧h'=B++[.dic (A.map eD)]∧zcK ts cs A ρ∧(∀ k∈d,(k:Int)∈zj A)∧(∀ p∈zj A,0<=p∧p < (P:Int))∧(∀ r∈zA A,r < (d.length:Int))) (List.range P) (by
   rintro d k r e h' eq ⟨A,ρ,x,rfl,rfl,F,hd,hrn,hrl⟩
   refine ⟨rfl,_,rfl,?_⟩
   have hdk:d.length=k∧∀ j:Nat,j < k->j∈d:=by
     have h1:(List.range P)[d.length]?=some k:=by rw [<- eq];simp
     have h2:d.length < P:=by have:=(List.getElem?_eq_some_iff.1 h1).1;simpa using this
     rw [List.getElem?_range h2]at h1
     have h3:d.length=k:=by simpa using h1
     refine ⟨h3,fun j hj=>?_⟩
     have h4:(List.range P)[j]?=some j:=List.getElem?_range (by omega)
     rw [<- eq,List.getElem?_append_left (by omega)]at h4
     exact List.mem_of_getElem? h4
   have hkP:k < P:=by
     have:k∈List.range P:=by rw [<- eq];simp
     exact List.mem_range.1 this
   have hl1:=zhY A k
   have hAl:A.length<=P:=by have:=zhP F.bld.nodup hrn;simpa [zj] using this
   by_cases hin:(k:Int)∈zj A
   . rw [decide_eq_true hin]at hl1
     refine ⟨_,_,?_,A,ρ,some (.int k),rfl,rfl,F,?_,hrn,fun r hr=>by have:=hrl r hr;simp;omega⟩
     . simp [zd8,inV,hl1]
     . intro j hj
       rcases List.mem_append.1 hj with hj | hj
       . exact hd j hj
       . simp at hj;subst hj;exact hin
   . rw [decide_eq_false hin]at hl1
     obtain ⟨N,hsp,G,hC⟩:=zfm (h:=B++[.dic (A.map eD)]) (n:=h.length) (q:=B.length) (A:=A) (start:=(k:Int)) (zN hBn _) hts (by omega) (TB.app _) hO (by simp) (by omega) (by omega) (by omega) hin
     have hNr:=fun x hx=>G.range hts (by omega:(0:Int)<=k) (by omega) x hx
     obtain ⟨ρ',F',hrt⟩:=F.add hin G hC (fun x hx=>by
       have h1:=hNr x hx
       have h2:=G.disj hin x hx
       by_cases c:(k:Int)<=x
       . exact c
       . exfalso
         have:=hd x.toNat (hdk.2 _ (by omega))
         have e:((x.toNat:Nat):Int)=x:=by omega
         rw [e]at this
         exact h2 this) (fun r hr=>by have:=hrl r hr;omega)
     refine ⟨[some (.obj w),some (.obj c),some (.obj h.length),some (.obj ((h++[O.lst (ts.map tD)]).length+1+P)),some (.obj B.length),some (.int k)],B++[.dic ((A++N).map eD)],?_,A++N,ρ',some (.int k),rfl,rfl,F',?_,?_,?_⟩
     . simp at hsp
       simp [zd8,inV,hl1,hsp]
     . intro j hj
       rcases List.mem_append.1 hj with hj | hj
       . have:=hd j hj;simp [this]
       . simp at hj;subst hj
         simp [G.mem]
     . intro p hp
       simp at hp
       rcases hp with hp | hp
       . exact hrn p hp
       . exact G.range hts (by omega) (by omega) p hp
     . intro r hr
       rw [hrt]at hr
       simp
       rcases List.mem_append.1 hr with hr | hr
       . have:=hrl r hr;omega
       . simp at hr;omega) (fun _ _ _=>rfl) [some (.obj w),some (.obj c),some (.obj h.length),some (.obj ((h++[O.lst (ts.map tD)]).length+1+P)),some (.obj B.length),none] (B++[.dic []])
     ⟨[],fun x=>x,none,rfl,rfl,⟨.nil,fun _ _ _ _ h=>by simp at h,fun _ _ _ _ h=>by simp at h,fun _ h=>by simp at h,fun d e r h=>by simp at h,fun _ h=>by simp at h,by simp [zA]⟩,by simp,by simp,by simp [zA]⟩
 obtain ⟨e2,h2,hr,A,ρ,x,rfl,rfl,F,hd,hrn,_⟩:=loop
 refine ⟨A,ρ,?_,F,?_,hrn⟩
 . have q:(-1000000:Int)<=P∧(P:Int)<=1000000:=by omega
   have hBw:∀ g,(B++g)[w]?=some (.ins 0 [(0,.int P),(1,.int turn),(2,.obj t)]):=fun g=>by rw [hB];simp [W.wA]
   simp at hsf hr
   simp [W.w,zcT,hti,hsf,hBw,q]
   rw [hr]
   simp
   rw [hB]
   have:=zoC h ((O.lst (ts.map tD) :: g)++[.dic (A.map eD)]) (k:=(O.lst (ts.map tD) :: g).length) (o := .dic (A.map eD)) (by simp) (zq5 A)
   simpa [Nat.add_assoc] using this
 . intro p hp0 hp1
   have:=hd p.toNat (List.mem_range.2 (by omega))
   have e:((p.toNat:Nat):Int)=p:=by omega
   rwa [e]at this
end Mx
end
section
open PySem MI
namespace Mx
open My
def zbg (A:List En):List Nat:=A.filterMap fun e=>e.2.map (·.k)
theorem ziB {A:List En}{k:Nat}:k∈zbg A↔∃ e∈A,∃ s,e.2=some s∧s.k=k:=by
 unfold zbg
 simp only [List.mem_filterMap,Option.map_eq_some_iff]
theorem zcd.ends {ts:List T3}{cs:List Nat}{A:List En} (B:zcd ts cs A):∀ e∈A,∀ s,e.2=some s->s.k∈cs∧∃ t,zbX ts s=some t∧t.a∈zj A∧t.b∈zj A:=by
 induction B with
 | nil=>simp
 | root B hb ih =>
   intro e he s hs
   rcases List.mem_append.1 he with he | he
   . obtain ⟨h1,t,h2,h3,h4⟩:=ih e he s hs
     exact ⟨h1,t,h2,by simp [h3],by simp [h4]⟩
   . simp at he;subst he;cases hs
 | step B hl hk ha hb ih =>
   intro e he s hs
   rcases List.mem_append.1 he with he | he
   . obtain ⟨h1,t,h2,h3,h4⟩:=ih e he s hs
     exact ⟨h1,t,h2,by simp [h3],by simp [h4]⟩
   . simp at he;subst he;cases hs
     exact ⟨hk,_,hl,by simp [ha],by simp⟩
theorem zAq {ts:List T3}{s s':St}{t t':T3} (h:zbX ts s=some t) (h':zbX ts s'=some t') (e:s.k=s'.k):t'=t∨t'=tn t:=by
 unfold zbX at *
 rw [<- e]at h'
 cases hk:ts[s.k]? with
 | none=>rw [hk]at h;cases h
 | some t0 =>
   rw [hk]at h h'
   simp at h h'
   subst h;subst h'
   cases s.f <;> cases s'.f <;> simp [zcF,tn]
theorem zcd.ks_nodup {ts:List T3}{cs:List Nat}{A:List En} (B:zcd ts cs A):(zbg A).Nodup:=by
 induction B with
 | nil=>simp [zbg]
 | root B hb ih=>simpa [zbg] using ih
 | @step A s t B hl hk ha hb ih =>
   have e1:zbg (A++[(t.b,some s)])=zbg A++[s.k]:=by simp [zbg]
   rw [e1,List.nodup_append]
   refine ⟨ih,by simp,?_⟩
   intro x hx y hy e
   simp at hy
   obtain ⟨en,he,s',h1,h2⟩:=ziB.1 hx
   obtain ⟨_,t',h3,h4,h5⟩:=B.ends en he s' h1
   rcases zAq h3 hl (by omega) with h6 | h6
   . subst h6;exact hb h5
   . subst h6;exact hb h4
theorem zoQ {x y:Int}:∀ {l:List Int},x∈zcl y l↔x=y∨x∈l
 | []=>by simp [zcl]
 | z :: l=>by
   unfold zcl
   split
   . simp
   . simp only [List.mem_cons,zoQ (l:=l)]
     constructor
     . rintro (h | h | h)
       . exact .inr (.inl h)
       . exact .inl h
       . exact .inr (.inr h)
     . rintro (h | h | h)
       . exact .inr (.inl h)
       . exact .inl h
       . exact .inr (.inr h)
theorem zg3 {x:Int}:∀ {l:List Int},x∈sortI l↔x∈l
 | []=>by simp [sortI]
 | z :: l=>by
   have:=zg3 (x:=x) (l:=l)
   unfold sortI at *
   rw [List.foldr_cons,zoQ,this,List.mem_cons]
theorem zq1 {y:Int}:∀ {l:List Int},(zcl y l).length=l.length+1
 | []=>rfl
 | z :: l=>by
   unfold zcl
   split
   . simp
   . simp [zq1 (l:=l)]
theorem zsL:∀ {l:List Int},(sortI l).length=l.length
 | []=>rfl
 | z :: l=>by
   have:=zsL (l:=l)
   unfold sortI at *
   rw [List.foldr_cons,zq1,this,List.length_cons]
theorem zsw {x:Int}:∀ {l:List Int},l.Pairwise (· < ·)->x∉l->(zcl x l).Pairwise (· < ·)
 | [],_,_=>by simp [zcl]
 | y :: l,h,hx=>by
   obtain ⟨h1,h2⟩:=List.pairwise_cons.1 h
   unfold zcl
   by_cases c:x<=y
   . rw [if_pos c]
     have:x≠y:=fun z=>hx (by simp [z])
     refine List.pairwise_cons.2 ⟨fun z hz=>?_,h⟩
     rcases List.mem_cons.1 hz with rfl | hz
     . omega
     . have:=h1 z hz;omega
   . rw [if_neg c]
     refine List.pairwise_cons.2 ⟨fun z hz=>?_,zsw h2 fun z=>hx (by simp [z])⟩
     rcases zoQ.1 hz with rfl | hz
     . omega
     . exact h1 z hz
theorem zn2:∀ {l:List Int},l.Nodup->(sortI l).Pairwise (· < ·)
 | [],_=>by simp [sortI]
 | x :: l,h=>by
   obtain ⟨h1,h2⟩:=List.nodup_cons.1 h
   have ih:=zn2 h2
   have e:sortI (x :: l)=zcl x (sortI l):=rfl
   rw [e]
   exact zsw ih fun z=>h1 (zg3.1 z)
theorem zeQ {h:MH}{q:Nat}{A:List En} (hq:h[q]?=some (.dic (A.map eD))) (hA:A.length<=1000000) (hk:(zbg A).length < 64) :
   ∃ cs:List Nat,app zfR [.obj q] h = .ok (.obj h.length) (h++[.lst (cs.map fun k=> .int (k:Nat))])∧(∀ k,k∈cs↔k∈zbg A)∧cs.length=(zbg A).length∧((zbg A).Nodup->cs.Pairwise (· < ·)):=by
 refine ⟨(sortI ((zbg A).map fun (k:Nat)=>(k:Int))).map Int.toNat,?_,?_,by simp [zsL],fun nd=>?_⟩
 rotate_left 2
 . rw [List.pairwise_map]
   have nd2:((zbg A).map fun (k:Nat)=>(k:Int)).Nodup:=by
     rw [List.nodup_iff_pairwise_ne,List.pairwise_map]
     exact nd.imp fun h z=>h (by omega)
   refine (zn2 nd2).imp_of_mem fun ha hb h=>?_
   rw [zg3]at ha hb
   obtain ⟨k,_,rfl⟩:=List.mem_map.1 ha
   obtain ⟨j,_,rfl⟩:=List.mem_map.1 hb
   omega
 . unfold app zfR
   have hql:q < h.length:=(List.getElem?_eq_some_iff.1 hq).1
   have c:=znW (t := .nm 0) (gs:=[]) (cond:=(tst (bin zce (var 0) (za .non)))) (elt:=(bin zi (var 0) (za (.int (0))))) (h:=h.set q .hole) (fun e:En=>oD e.2) (fun e:En=>D.int (match e.2 with
     | none=>0
     | some s=>(s.k:Int))) (fun e=>e.2.isSome) (fun e=>∃ d,e=[d]) rfl A (by
     rintro ⟨p,o⟩ _ _ ⟨d,rfl⟩
     refine ⟨_,rfl,⟨_,rfl⟩,?_,?_⟩
     . cases o <;> simp [oD,sD]
     . intro ho
       cases o with
       | none=>cases ho
       | some s=>simp [oD]) [] [none] ⟨_,rfl⟩
   have ev:zew (A.map eD)=A.map fun e=>oD e.2:=by simp [zew,eD,Function.comp_def]
   have ek:(A.filter fun e=>e.2.isSome).map (fun e:En=>D.int (match e.2 with
     | none=>0
     | some s=>(s.k:Int)))=((zbg A).map fun (k:Nat)=>(k:Int)).map D.int:=by
     clear c ev hk hA hq
     induction A with
     | nil=>rfl
     | cons e A ih =>
       rcases e with ⟨p,o⟩
       cases o with
       | none=>simpa [zbg] using ih
       | some s=>simp [zbg]at ih ⊢;exact ih
   have in1:=zhj ((zbg A).map fun (k:Nat)=>(k:Int))
   have hh:(h.set q .hole)[q]?=some .hole:=List.getElem?_set_self hql
   have hset:(h.set q .hole).set q (.dic (A.map eD))=h:=by rw [List.set_set];exact zrt hq
   have fin1:(sortI ((zbg A).map fun (k:Nat)=>(k:Int))).map D.int=((sortI ((zbg A).map fun (k:Nat)=>(k:Int))).map Int.toNat).map fun k=>D.int (k:Nat):=by
     rw [List.map_map]
     apply List.map_congr_left
     intro x hx
     rw [zg3]at hx
     obtain ⟨k,_,rfl⟩:=List.mem_map.1 hx
     simp
   rw [ek]at c
   rw [<- fin1]
   simp only [List.nil_append]at c
   generalize hkk:(zbg A).map (fun (k:Nat)=>(k:Int))=kk at *
   have hkl:kk.length < 64:=by rw [<- hkk];simpa using hk
   simp [hq,ev,zb6,hA,c,zhW,hh,hset,in1,hkl]
   exact zsu h [] (zhf _)
 . intro k
   rw [List.mem_map]
   constructor
   . rintro ⟨x,hx,rfl⟩
     rw [zg3]at hx
     obtain ⟨j,hj,rfl⟩:=List.mem_map.1 hx
     simpa using hj
   . intro hk
     exact ⟨k,zg3.2 (List.mem_map.2 ⟨k,hk,rfl⟩),by simp⟩
end Mx
end
section
open PySem MI
namespace Mx
open My
theorem zcd.split {ts:List T3}{cs:List Nat}{A:List En} (B:zcd ts cs A):∀ d e r,A=d++e :: r->zcd ts cs d∧e.1∉zj d:=by
 induction B with
 | nil=>intro d e r h;simp at h
 | @root A p B hb ih =>
   intro d e r h
   rcases List.eq_nil_or_concat r with rfl | ⟨r',x,rfl⟩
   . obtain ⟨rfl,h2⟩:=List.append_inj' h rfl
     simp at h2;subst h2
     exact ⟨B,hb⟩
   . have h':A++[(p,none)]=(d++e :: r')++[x]:=by rw [h];simp
     obtain ⟨rfl,_⟩:=List.append_inj' h' rfl
     exact ih d e r' rfl
 | @step A s t B hl hk ha hb ih =>
   intro d e r h
   rcases List.eq_nil_or_concat r with rfl | ⟨r',x,rfl⟩
   . obtain ⟨rfl,h2⟩:=List.append_inj' h rfl
     simp at h2;subst h2
     exact ⟨B,hb⟩
   . have h':A++[(t.b,some s)]=(d++e :: r')++[x]:=by rw [h];simp
     obtain ⟨rfl,_⟩:=List.append_inj' h' rfl
     exact ih d e r' rfl
theorem zqK {hs:List Int}{i v:Int} (h0:0<=i) (h1:i < hs.length):hAt (hs.set i.toNat v) i=v:=by
 have:i.toNat < hs.length:=by omega
 simp [hAt,this]
theorem zqU {hs:List Int}{i j v:Int} (h0:0<=i) (h1:0<=j) (hne:j≠i):hAt (hs.set i.toNat v) j=hAt hs j:=by
 have:i.toNat≠j.toNat:=by omega
 simp [hAt,List.getElem?_set_ne this]
def zfD (hs:List Int) (A:List En):Prop:=∀ d e r,A=d++e :: r->hAt hs e.1=(zA (d++[e])).length - 1
theorem zeR {h:MH}{w t q P:Nat}{turn:Int}{ts:List T3} (W:zbR h w t P turn ts) (hP:P<=400000) {cs:List Nat}{A:List En} (hq:h[q]?=some (.dic (A.map eD))) (B:zcd ts cs A) (hrn:∀ p∈zj A,0<=p∧p < (P:Int)) :
   ∃ hs,app zdJ [.obj w,.obj q] h = .ok (.obj h.length) (h++[.lst (hs.map .int)])∧hs.length=P∧zfD hs A:=by
 unfold app zdJ
 have hql:q < h.length:=(List.getElem?_eq_some_iff.1 hq).1
 generalize hK:h.set q .hole=K at *
 have hKl:K.length=h.length:=by rw [<- hK];simp
 have hKq:K[q]?=some .hole:=by rw [<- hK];exact List.getElem?_set_self hql
 have hKs:K.set q (.dic (A.map eD))=h:=by rw [<- hK,List.set_set];exact zrt hq
 have loop:=zfu (t := .tp [4,5]) (gs:=[]) (body:=(zf (ifS (tst (bin isN (var 5) (za .non))) (zfA zF 3 (za (.int (1)))) zq)
   (zb0 (var 2) (var 4) (bin zQ (var 3) (za (.int (1))))))) (fun e:En=> .tup [.int e.1,oD e.2])
   (fun d e h'=>∃ hs x y,e=[some (.obj w),some (.obj q),some (.obj (K.length+1)),some (.int ((zA d).length:Nat)),x,y]∧h'=K++[.lst [.int 0],.lst (hs.map .int)]∧hs.length=P∧zfD hs d) A (by
   rintro d ⟨p,o⟩ r e h' eq ⟨hs,x,y,rfl,rfl,hl,hf⟩
   refine ⟨rfl,_,rfl,?_⟩
   obtain ⟨Bd,hnk⟩:=B.split d (p,o) r eq.symm
   have hpr:=hrn p (by rw [<- eq];simp)
   have ix:ixN hs.length p=some p.toNat:=by
     unfold ixN
     rw [if_pos hpr.1,if_pos (by omega)]
   simp only at hnk
   have nums:∀ v:Int,v=((zA (d++[(p,o)])).length:Int) - 1->zfD (hs.set p.toNat v) (d++[(p,o)]):=by
     intro v hv d1 e1 r1 h1
     rcases List.eq_nil_or_concat r1 with rfl | ⟨r',z,rfl⟩
     . obtain ⟨rfl,h2⟩:=List.append_inj' h1 rfl
       simp at h2;subst h2
       rw [zqK hpr.1 (by omega)]
       exact hv
     . have h':d++[(p,o)]=(d1++e1 :: r')++[z]:=by rw [h1];simp
       obtain ⟨h3,_⟩:=List.append_inj' h' rfl
       have hm:e1.1∈zj d:=by rw [h3];simp
       have hm0:=hrn e1.1 (by rw [<- eq];simp [hm])
       rw [zqU hpr.1 hm0.1 (fun c=>hnk (c ▸ hm))]
       exact hf d1 e1 r' h3
   cases o with
   | none =>
     refine ⟨_,K++[.lst [.int 0],.lst ((hs.set p.toNat ((zA d).length:Nat)).map .int)],?_,hs.set p.toNat ((zA d).length:Nat),some (.int p),some .non,rfl,rfl,by simpa using hl,nums _ (by simp [zA])⟩
     simp [oD,ix,zA]
   | some s =>
     refine ⟨_,K++[.lst [.int 0],.lst ((hs.set p.toNat (((zA d).length:Nat) - 1)).map .int)],?_,hs.set p.toNat (((zA d).length:Nat) - 1),some (.int p),some (sD s),rfl,rfl,by simpa using hl,nums _ (by simp [zA])⟩
     have hns:¬ sD s = .non:=by simp [sD]
     simp [oD,hns,ix,zA])
   (fun _ _ _=>rfl) [some (.obj w),some (.obj q),some (.obj (K.length+1)),some (.int ((0:Nat):Int)),none,none] (K++[.lst [.int 0],.lst ((List.replicate P (0:Int)).map .int)])
     ⟨List.replicate P 0,none,none,rfl,rfl,by simp,fun d e r h=>by simp at h⟩
 obtain ⟨e2,h2,hr,hs,x,y,rfl,rfl,hl,hf⟩:=loop
 refine ⟨hs,?_,hl,hf⟩
 have hfl:(List.replicate P [D.int 0]).flatten=(List.replicate P (0:Int)).map .int:=by
   clear hr hl hf W B hP hrn
   induction P with
   | zero=>rfl
   | succ n ih=>simp [List.replicate_succ]at ih ⊢
 have q1:(P:Int)<=1000000:=by omega
 have q2:(-1000000:Int)<=P:=by omega
 have q3:P<=1000000:=by omega
 have eset:(h++[O.lst [.int 0],O.lst ((List.replicate P (0:Int)).map .int)]).set q .hole=K++[O.lst [.int 0],O.lst ((List.replicate P (0:Int)).map .int)]:=by rw [zsq hql,hK]
 have eset2:(K++[O.lst [.int 0],O.lst (hs.map .int)]).set q (.dic (A.map eD))=h++[O.lst [.int 0],O.lst (hs.map .int)]:=by rw [zsq (by omega),hKs]
 have eit:zeD (A.map eD)=A.map fun e=> .tup [.int e.1,oD e.2]:=by simp [zeD,eD,Function.comp_def]
 rw [hKl]at hr
 simp at hr eset eset2
 simp [W.w,W.wA,q1,q2,q3,hfl,zN hq,eset,eit,hr,zfx,zN hKq,eset2]
 exact zoL h _ (k:=1) rfl (zhf hs)
theorem zy0 {ts:List T3}{cs:List Nat}{A:List En}{ρ:Int->Int}{hs:List Int} (F:zcK ts cs A ρ) (N:zfD hs A) {p q:Int} (hp:p∈zj A) (hq:q∈zj A):hAt hs p=hAt hs q↔ρ p=ρ q:=by
 have at1:∀ p∈zj A,∃ k:Nat,hAt hs p=k∧(zA A)[k]?=some (ρ p):=by
   intro p hp
   obtain ⟨e,he,rfl⟩:=List.mem_map.1 hp
   obtain ⟨d,r,hdr⟩:=List.append_of_mem he
   obtain ⟨l,hl⟩:=F.blk d e r hdr
   refine ⟨l.length,?_,?_⟩
   . rw [N d e r hdr,hl];simp
   . have:zA A=(l++[ρ e.1])++zA r:=by
       rw [<- hl,<- ze4,hdr];simp
     rw [this];simp
 obtain ⟨k,h1,h2⟩:=at1 p hp
 obtain ⟨j,h3,h4⟩:=at1 q hq
 rw [h1,h3]
 constructor
 . intro e
   have:k=j:=by omega
   subst this
   exact Option.some.inj (h2.symm.trans h4)
 . intro e
   rw [e,<- h4]at h2
   have hnd:=zh6 F.bld.nodup
   have hk:=(List.getElem?_eq_some_iff.1 (h2.trans h4)).1
   have hj:=(List.getElem?_eq_some_iff.1 h4).1
   have:=(List.getElem?_inj hk hnd).1 h2
   rw [this]
end Mx
end
section
open PySem MI
namespace Mx
open My
def zeB:List Int:=[1000003,1000033,1000037,1000039,1000081,1000099,1000117,1000121,1000133,1000151,1000159,1000171,1000183,1000187,1000193,1000199]
@[irreducible] def zcO (a b m:Int):Int:=(a * 48271+b * 69621) % hAt zeB (b % 16) % m
theorem zeV (a b:Int) {m:Int} (hm:0 < m):0<=zcO a b m:=by unfold zcO;exact Int.emod_nonneg _ (by omega)
theorem ze6 (a b:Int) {m:Int} (hm:0 < m):zcO a b m < m:=by unfold zcO;exact Int.emod_lt_of_pos _ hm
theorem zh9 {l:List Int}{i:Int} (h0:0<=i) (h1:i < l.length):hAt l i∈l:=by
 have:i.toNat < l.length:=by omega
 simp [hAt,this]
theorem zBN {i:Int} (h0:0<=i) (h1:i < 16):0 < hAt zeB i:=by
 have h:=zh9 (l:=zeB) h0 (by simpa [zeB] using h1)
 revert h
 generalize hAt zeB i=x
 have:∀ x∈zeB,0 < x:=by decide
 exact this x
theorem zdC {a b m:Int} (hm:0 < m) (h:MH):app zD [.int a,.int b,.int m] h = .ok (.int (zcO a b m)) h:=by
 unfold app zD
 have h0:0<=b % 16:=Int.emod_nonneg _ (by omega)
 have h1:b % 16 < 16:=Int.emod_lt_of_pos _ (by omega)
 have at16:=zeh (hs:=zeB) h0 (by simpa [zeB] using h1)
 have hp:=zBN h0 h1
 have s1:zcI 48271=true:=by decide
 have s2:zcI 69621=true:=by decide
 unfold zcO
 generalize hAt zeB (b % 16)=p at *
 simp only [zeB,List.map_cons,List.map_nil]at at16
 simp [s1,s2,zi,at16,hp,hm]
def zsp (ns:List Int) (i:Int):Int:=if i < ns.length then hAt ns i else 0
theorem zBI {ns:List Int}{n:Nat}{h:MH} (hn:h[n]?=some (.scr (ns.map .int))) {i:Int} (h0:0<=i):app zcw [.obj n,.int i] h = .ok (.int (zsp ns i)) h:=by
 unfold app zcw zsp
 by_cases hl:i < ns.length
 . simp [hn,hl,zct,zeh h0 hl]
 . simp [hn,hl]
theorem zFd (l:List Int) {i:Int} (h0:0<=i) (h1:i < l.length):MI.atI (l.map D.int) i=some (.int (hAt l i)):=zeh h0 h1
theorem zD7 (l:List Int) {i:Int} (h0:0<=i) (h1:i < l.length) (e:zw) (h:MH):zi (.tup (l.map D.int)) (.int i) e h = .ok (.int (hAt l i)) h:=by simp [zi,zeh h0 h1]
theorem zoz {v c m:Int} (h0:0<=v) (h1:v < m) (c0:0 < c) (c1:c < m):0<=(v+c) % m∧(v+c) % m < m∧(v+c) % m≠v:=by
 refine ⟨Int.emod_nonneg _ (by omega),Int.emod_lt_of_pos _ (by omega),?_⟩
 by_cases h:v+c < m
 . rw [Int.emod_eq_of_lt (by omega) h];omega
 . have:(v+c) % m=v+c - m:=by
     rw [<- Int.sub_emod_right,Int.emod_eq_of_lt (by omega) (by omega)]
   omega
theorem zy4 {ns:List Int}{n:Nat}{h:MH} (hn:h[n]?=some (.scr (ns.map .int))) {c P turn v4 v5:Int}{b6:Bool}{k:Nat} (hk:k < ns.length) {v9 v10 v14:Int}{x y z:Option D}{ts:List T3} (hl:ts.length<=1000) (ht:0<=turn) (hv:-400000<=v14∧v14<=400000) :
   ∃ n14,-1000000<=n14∧n14<=1000000∧(zf (ifS (zbV (tst (bin gtV (var 3) (za (.int (0))))) (zbV (tst (bin eqV (zh zD (zb (bin zi (var 0) (var 8)) (zb (za (.int (12))) (zb (za (.int (3))) zd)))) (za (.int (0))))) (tst (bin ltV (bin zF (zeq (var 14)) (var 3)) (za (.int (1000000))))))) (zm (.nm 14) (bin zQ (var 14) (var 3))) zq)
   (zbb (zbJ (var 7) (zca (zb (var 9) (zb (var 10) (zb (var 14) zd))))))) [some (.obj n),some (.int c),some (.int P),some (.int turn),some (.int v4),some (.int v5),some (.bl b6),some (.obj h.length),some (.int k),some (.int v9),some (.int v10),x,y,z,some (.int v14)] (h++[.lst (ts.map tD)]) =
     .nx [some (.obj n),some (.int c),some (.int P),some (.int turn),some (.int v4),some (.int v5),some (.bl b6),some (.obj h.length),some (.int k),some (.int v9),some (.int v10),x,y,z,some (.int n14)] (h++[.lst ((ts++[(⟨v9,v10,n14⟩:T3)]).map tD)]):=by
 have hat:=zeh (hs:=ns) (i:=(k:Int)) (by omega) (by omega)
 have hl':ts.length < 1000000:=by omega
 by_cases c1:0 < turn
 . by_cases c2:zcO (hAt ns k) 12 3=0
   . by_cases c3:(if v14 < 0 then -v14 else v14)+turn < 1000000
     . refine ⟨v14 - turn,by split at c3 <;> omega,by split at c3 <;> omega,?_⟩
       simp [c1,c2,c3,zct,zN hn,hat,zdC,zdx,hl',tD]
     . refine ⟨v14,by omega,by omega,?_⟩
       simp [c1,c2,c3,zct,zN hn,hat,zdC,zdx,hl',tD]
   . refine ⟨v14,by omega,by omega,?_⟩
     simp [c1,c2,zct,zN hn,hat,zdC,zdx,hl',tD]
 . refine ⟨v14,by omega,by omega,?_⟩
   simp [c1,zct,zN hn,hat,zdC,zdx,hl',tD]
theorem zAz {ns:List Int}{n:Nat}{h:MH} (hn:h[n]?=some (.scr (ns.map .int))) {c P turn v4 v5:Int}{b6:Bool}{k:Nat} (hk:k < ns.length) {v9 v10:Int}{x y z u:Option D}{ts:List T3} (hl:ts.length<=1000) (ht:0<=turn) (h4:0 < v4) (h4':v4<=400000) (h5:0<=v5) :
   ∃ n14,-1000000<=n14∧n14<=1000000∧(zf (zm (.nm 14) (bin zQ (zh zD (zb (bin zb3 (var 10) (za (.int (7919)))) (zb (za (.int (6))) (zb (var 4) zd)))) (zh zD (zb (bin zb3 (var 9) (za (.int (7919)))) (zb (za (.int (6))) (zb (var 4) zd))))))
   (zf (ifS (zbV (tst (bin gtV (var 5) (za (.int (0))))) (tst (bin eqV (zh zD (zb (bin zi (var 0) (var 8)) (zb (bin zF (bin zbE (var 8) (za (.int (3)))) (za (.int (9)))) (zb (var 5) zd)))) (za (.int (0)))))) (zm (.nm 14) (bin zF (var 14) (za (.int (1))))) zq)
   (zf (ifS (zbV (tst (bin gtV (var 3) (za (.int (0))))) (zbV (tst (bin eqV (zh zD (zb (bin zi (var 0) (var 8)) (zb (za (.int (12))) (zb (za (.int (3))) zd)))) (za (.int (0))))) (tst (bin ltV (bin zF (zeq (var 14)) (var 3)) (za (.int (1000000))))))) (zm (.nm 14) (bin zQ (var 14) (var 3))) zq)
   (zbb (zbJ (var 7) (zca (zb (var 9) (zb (var 10) (zb (var 14) zd))))))))) [some (.obj n),some (.int c),some (.int P),some (.int turn),some (.int v4),some (.int v5),some (.bl b6),some (.obj h.length),some (.int k),some (.int v9),some (.int v10),x,y,z,u] (h++[.lst (ts.map tD)]) =
     .nx [some (.obj n),some (.int c),some (.int P),some (.int turn),some (.int v4),some (.int v5),some (.bl b6),some (.obj h.length),some (.int k),some (.int v9),some (.int v10),x,y,z,some (.int n14)] (h++[.lst ((ts++[(⟨v9,v10,n14⟩:T3)]).map tD)]):=by
 have hat:=zeh (hs:=ns) (i:=(k:Int)) (by omega) (by omega)
 have s1:zcI 7919=true:=by decide
 have a0:=zeV (v10 * 7919) 6 h4
 have a1:=ze6 (v10 * 7919) 6 h4
 have b0:=zeV (v9 * 7919) 6 h4
 have b1:=ze6 (v9 * 7919) 6 h4
 have hdr:=zdC (a:=v10 * 7919) (b:=6) h4
 have hdr2:=zdC (a:=v9 * 7919) (b:=6) h4
 generalize zcO (v10 * 7919) 6 v4=d1 at *
 generalize zcO (v9 * 7919) 6 v4=d2 at *
 have key:∃ v14,-400000<=v14∧v14<=400000∧(ifS (zbV (tst (bin gtV (var 5) (za (.int (0))))) (tst (bin eqV (zh zD (zb (bin zi (var 0) (var 8)) (zb (bin zF (bin zbE (var 8) (za (.int (3)))) (za (.int (9)))) (zb (var 5) zd)))) (za (.int (0)))))) (zm (.nm 14) (bin zF (var 14) (za (.int (1))))) zq) [some (.obj n),some (.int c),some (.int P),some (.int turn),some (.int v4),some (.int v5),some (.bl b6),some (.obj h.length),some (.int k),some (.int v9),some (.int v10),x,y,z,some (.int (d1 - d2))] (h++[.lst (ts.map tD)]) =
     .nx [some (.obj n),some (.int c),some (.int P),some (.int turn),some (.int v4),some (.int v5),some (.bl b6),some (.obj h.length),some (.int k),some (.int v9),some (.int v10),x,y,z,some (.int v14)] (h++[.lst (ts.map tD)]):=by
   by_cases c1:0 < v5
   . by_cases c2:zcO (hAt ns k) ((k:Int) % 3+9) v5=0
     . exact ⟨d1 - d2+1,by omega,by omega,by simp [c1,c2,zct,zN hn,hat,zdC]⟩
     . exact ⟨d1 - d2,by omega,by omega,by simp [c1,c2,zct,zN hn,hat,zdC]⟩
   . exact ⟨d1 - d2,by omega,by omega,by simp [c1]⟩
 obtain ⟨v14,k0,k1,hkey⟩:=key
 obtain ⟨n14,m0,m1,htl⟩:=zy4 hn (c:=c) (P:=P) (turn:=turn) (v4:=v4) (v5:=v5) (b6:=b6) hk (v9:=v9) (v10:=v10) (x:=x) (y:=y) (z:=z) hl ht ⟨k0,k1⟩
 refine ⟨n14,m0,m1,?_⟩
 have st:(zm (.nm 14) (bin zQ (zh zD (zb (bin zb3 (var 10) (za (.int (7919)))) (zb (za (.int (6))) (zb (var 4) zd)))) (zh zD (zb (bin zb3 (var 9) (za (.int (7919)))) (zb (za (.int (6))) (zb (var 4) zd)))))) [some (.obj n),some (.int c),some (.int P),some (.int turn),some (.int v4),some (.int v5),some (.bl b6),some (.obj h.length),some (.int k),some (.int v9),some (.int v10),x,y,z,u] (h++[.lst (ts.map tD)]) =
     .nx [some (.obj n),some (.int c),some (.int P),some (.int turn),some (.int v4),some (.int v5),some (.bl b6),some (.obj h.length),some (.int k),some (.int v9),some (.int v10),x,y,z,some (.int (d1 - d2))] (h++[.lst (ts.map tD)]):=by
   simp [s1,hdr,hdr2]
 rw [zc2,st,zcW,zc2,hkey,zcW]
 exact htl
theorem zB2 {ns:List Int}{n:Nat}{h:MH} (hn:h[n]?=some (.scr (ns.map .int))) {c P turn v4 v5:Int}{b6:Bool} (h6:b6=true->3 < P) (hP:2<=P) (hP':P<=1000) {k:Nat} (hk:k < ns.length) {x9 x10 x y z u:Option D}{ts:List T3} (hl:ts.length<=1000) (ht:0<=turn) (h4:0 < v4) (h4':v4<=400000) (h5:0<=v5) :
   ∃ t3:T3,t3.Ok P∧∃ x9' x10' x' y' z' u',(zf (zm (.nm 9) (zh zD (zb (bin zi (var 0) (var 8)) (zb (bin zF (bin zbE (var 8) (za (.int (5)))) (za (.int (1)))) (zb (var 2) zd)))))
   (zf (zm (.nm 10) (bin zbE (bin zF (bin zF (var 9) (za (.int (1)))) (zh zD (zb (bin zi (var 0) (var 8)) (zb (bin zF (bin zbE (var 8) (za (.int (7)))) (za (.int (2)))) (zb (bin zQ (var 2) (za (.int (1)))) zd))))) (var 2)))
   (zf (ifS (tru (var 6)) (zf (zm (.nm 11) (ifE (tst (bin ltV (var 9) (bin zdl (var 2) (za (.int (2)))))) (za (.int (0))) (bin zdl (var 2) (za (.int (2))))))
   (zf (zm (.nm 12) (ifE (tst (bin eqV (var 11) (za (.int (0))))) (bin zdl (var 2) (za (.int (2)))) (bin zQ (var 2) (var 11))))
   (zf (zm (.nm 13) (bin zF (za (.int (1))) (zh zD (zb (bin zi (var 0) (var 8)) (zb (bin zF (bin zbE (var 8) (za (.int (7)))) (za (.int (2)))) (zb (bin zQ (var 12) (za (.int (1)))) zd))))))
   (zm (.nm 10) (bin zF (var 11) (bin zbE (bin zF (bin zQ (var 9) (var 11)) (var 13)) (var 12))))))) zq)
   (zf (zm (.nm 14) (bin zQ (zh zD (zb (bin zb3 (var 10) (za (.int (7919)))) (zb (za (.int (6))) (zb (var 4) zd)))) (zh zD (zb (bin zb3 (var 9) (za (.int (7919)))) (zb (za (.int (6))) (zb (var 4) zd))))))
   (zf (ifS (zbV (tst (bin gtV (var 5) (za (.int (0))))) (tst (bin eqV (zh zD (zb (bin zi (var 0) (var 8)) (zb (bin zF (bin zbE (var 8) (za (.int (3)))) (za (.int (9)))) (zb (var 5) zd)))) (za (.int (0)))))) (zm (.nm 14) (bin zF (var 14) (za (.int (1))))) zq)
   (zf (ifS (zbV (tst (bin gtV (var 3) (za (.int (0))))) (zbV (tst (bin eqV (zh zD (zb (bin zi (var 0) (var 8)) (zb (za (.int (12))) (zb (za (.int (3))) zd)))) (za (.int (0))))) (tst (bin ltV (bin zF (zeq (var 14)) (var 3)) (za (.int (1000000))))))) (zm (.nm 14) (bin zQ (var 14) (var 3))) zq)
   (zbb (zbJ (var 7) (zca (zb (var 9) (zb (var 10) (zb (var 14) zd)))))))))))) [some (.obj n),some (.int c),some (.int P),some (.int turn),some (.int v4),some (.int v5),some (.bl b6),some (.obj h.length),some (.int k),x9,x10,x,y,z,u] (h++[.lst (ts.map tD)]) =
     .nx [some (.obj n),some (.int c),some (.int P),some (.int turn),some (.int v4),some (.int v5),some (.bl b6),some (.obj h.length),some (.int k),x9',x10',x',y',z',u'] (h++[.lst ((ts++[t3]).map tD)]):=by
 have hat:=zeh (hs:=ns) (i:=(k:Int)) (by omega) (by omega)
 have hP1:0 < P:=by omega
 have hP2:0 < P - 1:=by omega
 have v90:=zeV (hAt ns k) ((k:Int) % 5+1) hP1
 have v91:=ze6 (hAt ns k) ((k:Int) % 5+1) hP1
 have hd9:=zdC (a:=hAt ns k) (b:=(k:Int) % 5+1) hP1
 have e0:=zeV (hAt ns k) ((k:Int) % 7+2) hP2
 have e1:=ze6 (hAt ns k) ((k:Int) % 7+2) hP2
 have hd10:=zdC (a:=hAt ns k) (b:=(k:Int) % 7+2) hP2
 generalize zcO (hAt ns k) ((k:Int) % 5+1) P=v9 at *
 generalize zcO (hAt ns k) ((k:Int) % 7+2) (P - 1)=d at *
 have first:∀ v10,0<=v10->v10 < P->v10≠v9->∀ x y z,(∃ t3:T3,t3.Ok P∧∃ x9' x10' x' y' z' u',(zf (zm (.nm 14) (bin zQ (zh zD (zb (bin zb3 (var 10) (za (.int (7919)))) (zb (za (.int (6))) (zb (var 4) zd)))) (zh zD (zb (bin zb3 (var 9) (za (.int (7919)))) (zb (za (.int (6))) (zb (var 4) zd))))))
   (zf (ifS (zbV (tst (bin gtV (var 5) (za (.int (0))))) (tst (bin eqV (zh zD (zb (bin zi (var 0) (var 8)) (zb (bin zF (bin zbE (var 8) (za (.int (3)))) (za (.int (9)))) (zb (var 5) zd)))) (za (.int (0)))))) (zm (.nm 14) (bin zF (var 14) (za (.int (1))))) zq)
   (zf (ifS (zbV (tst (bin gtV (var 3) (za (.int (0))))) (zbV (tst (bin eqV (zh zD (zb (bin zi (var 0) (var 8)) (zb (za (.int (12))) (zb (za (.int (3))) zd)))) (za (.int (0))))) (tst (bin ltV (bin zF (zeq (var 14)) (var 3)) (za (.int (1000000))))))) (zm (.nm 14) (bin zQ (var 14) (var 3))) zq)
   (zbb (zbJ (var 7) (zca (zb (var 9) (zb (var 10) (zb (var 14) zd))))))))) [some (.obj n),some (.int c),some (.int P),some (.int turn),some (.int v4),some (.int v5),some (.bl b6),some (.obj h.length),some (.int k),some (.int v9),some (.int v10),x,y,z,u] (h++[.lst (ts.map tD)]) =
     .nx [some (.obj n),some (.int c),some (.int P),some (.int turn),some (.int v4),some (.int v5),some (.bl b6),some (.obj h.length),some (.int k),x9',x10',x',y',z',u'] (h++[.lst ((ts++[t3]).map tD)])):=by
   intro v10 a0 a1 a2 x y z
   obtain ⟨n14,m0,m1,he⟩:=zAz hn (c:=c) (P:=P) (turn:=turn) (v4:=v4) (v5:=v5) (b6:=b6) hk (v9:=v9) (v10:=v10) (x:=x) (y:=y) (z:=z) (u:=u) hl ht h4 h4' h5
   exact ⟨⟨v9,v10,n14⟩,⟨v90,v91,a0,a1,fun e=>a2 e.symm,m0,m1⟩,_,_,_,_,_,_,he⟩
 generalize hT:(zf (zm (.nm 14) (bin zQ (zh zD (zb (bin zb3 (var 10) (za (.int (7919)))) (zb (za (.int (6))) (zb (var 4) zd)))) (zh zD (zb (bin zb3 (var 9) (za (.int (7919)))) (zb (za (.int (6))) (zb (var 4) zd))))))
   (zf (ifS (zbV (tst (bin gtV (var 5) (za (.int (0))))) (tst (bin eqV (zh zD (zb (bin zi (var 0) (var 8)) (zb (bin zF (bin zbE (var 8) (za (.int (3)))) (za (.int (9)))) (zb (var 5) zd)))) (za (.int (0)))))) (zm (.nm 14) (bin zF (var 14) (za (.int (1))))) zq)
   (zf (ifS (zbV (tst (bin gtV (var 3) (za (.int (0))))) (zbV (tst (bin eqV (zh zD (zb (bin zi (var 0) (var 8)) (zb (za (.int (12))) (zb (za (.int (3))) zd)))) (za (.int (0))))) (tst (bin ltV (bin zF (zeq (var 14)) (var 3)) (za (.int (1000000))))))) (zm (.nm 14) (bin zQ (var 14) (var 3))) zq)
   (zbb (zbJ (var 7) (zca (zb (var 9) (zb (var 10) (zb (var 14) zd)))))))))=tl at *
 cases b6 with
 | false =>
   have hm:=zoz v90 v91 (c:=1+d) (by omega) (by omega)
   rw [<- Int.add_assoc]at hm
   obtain ⟨t3,ok,x9',x10',x',y',z',u',he⟩:=first ((v9+1+d) % P) hm.1 hm.2.1 hm.2.2 x y z
   refine ⟨t3,ok,x9',x10',x',y',z',u',?_⟩
   rw [<- he]
   simp [zct,zN hn,hat,hd9,hd10,hP1]
 | true =>
   have hP3:=h6 rfl
   by_cases hh:v9 < P / 2
   . have q0:0 < P / 2 - 1:=by omega
     have q00:0 < P / 2:=by omega
     have f0:=zeV (hAt ns k) ((k:Int) % 7+2) q0
     have f1:=ze6 (hAt ns k) ((k:Int) % 7+2) q0
     have hd11:=zdC (a:=hAt ns k) (b:=(k:Int) % 7+2) q0
     generalize zcO (hAt ns k) ((k:Int) % 7+2) (P / 2 - 1)=d2 at *
     have hm:=zoz v90 hh (c:=1+d2) (by omega) (by omega)
     obtain ⟨t3,ok,x9',x10',x',y',z',u',he⟩:=first ((v9+(1+d2)) % (P / 2)) hm.1 (by omega) hm.2.2 (some (.int 0)) (some (.int (P / 2))) (some (.int (1+d2)))
     refine ⟨t3,ok,x9',x10',x',y',z',u',?_⟩
     rw [<- he]
     simp [zct,zN hn,hat,hd9,hd10,hP1,hh,hd11,q00]
   . have q0:0 < P - P / 2 - 1:=by omega
     have q00:0 < P - P / 2:=by omega
     have q1:¬ P / 2=0:=by omega
     have q2:P / 2 < P:=by omega
     have f0:=zeV (hAt ns k) ((k:Int) % 7+2) q0
     have f1:=ze6 (hAt ns k) ((k:Int) % 7+2) q0
     have hd11:=zdC (a:=hAt ns k) (b:=(k:Int) % 7+2) q0
     generalize zcO (hAt ns k) ((k:Int) % 7+2) (P - P / 2 - 1)=d2 at *
     have hm:=zoz (v:=v9 - P / 2) (m:=P - P / 2) (by omega) (by omega) (c:=1+d2) (by omega) (by omega)
     obtain ⟨t3,ok,x9',x10',x',y',z',u',he⟩:=first (P / 2+(v9 - P / 2+(1+d2)) % (P - P / 2)) (by omega) (by omega) (by omega) (some (.int (P / 2))) (some (.int (P - P / 2))) (some (.int (1+d2)))
     refine ⟨t3,ok,x9',x10',x',y',z',u',?_⟩
     rw [<- he]
     simp [zct,zN hn,hat,hd9,hd10,hP1,hh,hd11,q00,q1,q2]
theorem zDt (l:List Int) (a b:Int) {m:Int} (hm:(l.length:Int)=m) (h0:0 < m):∃ v,v∈l∧MI.atI (l.map D.int) (zcO a b m)=some (.int v) :=
 ⟨hAt l (zcO a b m),zh9 (zeV _ _ h0) (by rw [hm];exact ze6 _ _ h0),zeh (zeV _ _ h0) (by rw [hm];exact ze6 _ _ h0)⟩
theorem zsh (ds:List D) (i:Int) (e:zw) (h:MH):zi (.tup ds) (.int i) e h=match MI.atI ds i with
   | some d=> .ok d h
   | none=> .bad:=rfl
theorem zsk {j:Int} (hj:zcI j=true) (i:Int) (e:zw) (h:MH):zb3 (.int i) (.int j) e h = .ok (.int (i * j)) h:=by simp [hj]
theorem zrP (h g:MH) {k:Nat}{o:O} (i j:Int) (e:g[k]?=some o) (f:o.flat=true):gc h (.ok (.tup [.int i,.obj (h.length+k),.int j]) (h++g)) = .ok (.tup [.int i,.obj h.length,.int j]) (h++[o]):=by
 have hlt:¬ h.length+k < h.length:=by omega
 simp [gc,zeg,gcV,zcu,hlt,e,f,D.nr]
theorem znV (a b:Int) {m:Int} (hm:0 < m):∃ v,(∀ h,app zD [.int a,.int b,.int m] h = .ok (.int v) h)∧0<=v∧v < m:=⟨_,zdC hm,zeV a b hm,ze6 a b hm⟩
theorem znN {ns:List Int}{n:Nat}{h:MH} (hn:h[n]?=some (.scr (ns.map .int))) {i:Int} (h0:0<=i):∃ v,app zcw [.obj n,.int i] h = .ok (.int v) h:=⟨_,zBI hn h0⟩
theorem ziu (l:List Int) (a b:Int) {m:Int} (hm:(l.length:Int)=m) (h0:0 < m):∃ x v,(∀ h,app zD [.int a,.int b,.int m] h = .ok (.int x) h)∧v∈l∧MI.atI (l.map D.int) x=some (.int v):=by
 obtain ⟨x,h1,h2,h3⟩:=znV a b h0
 exact ⟨x,hAt l x,h1,zh9 h2 (by omega),zeh h2 (by omega)⟩
theorem zAV {ns:List Int} (hns:ns.length<=63) {n:Nat}{h:MH} (hn:h[n]?=some (.scr (ns.map .int))) :
   ∃ (P:Nat) (turn:Int) (ts:List T3),app zfj [.obj n] h = .ok (.tup [.int P,.obj h.length,.int turn]) (h++[.lst (ts.map tD)])∧1<=P∧P<=100∧0<=turn∧turn<=1000000∧ts.length=ns.length∧∀ t∈ts,t.Ok P:=by
 obtain ⟨y0,c0⟩:=znN hn (i:=0) (by omega)
 obtain ⟨y1,c1⟩:=znN hn (i:=1) (by omega)
 obtain ⟨y2,c2⟩:=znN hn (i:=2) (by omega)
 obtain ⟨x1,a1,d1,p1,g1⟩:=ziu [1,2,3] y1 2 (m:=3) (by simp) (by omega)
 obtain ⟨x3,turn,d3,p3,g3⟩:=ziu [0,0,2,3,12,1,1000000] y2 3 (m:=7) (by simp) (by omega)
 obtain ⟨x4,v4,d4,p4,g4⟩:=ziu [2,3,40,400000] y0 4 (m:=4) (by simp) (by omega)
 obtain ⟨x5,v5,d5,p5,g5⟩:=ziu [0,0,5,30] y1 5 (m:=4) (by simp) (by omega)
 obtain ⟨x6,d6,_,_⟩:=znV y2 8 (m:=4) (by omega)
 simp only [List.map_cons,List.map_nil]at g1 g3 g4 g5
 have a10:1<=a1∧a1<=3:=by simp at p1;omega
 have ht:0<=turn∧turn<=1000000:=by simp at p3;omega
 have h4:0 < v4∧v4<=400000:=by simp at p4;omega
 have h5:0<=v5:=by simp at p5;omega
 have sm:zcI a1=true:=by simp [zcI];omega
 obtain ⟨l,hl0⟩:∃ l:Int,l=(ns.length:Int):=⟨_,rfl⟩
 have hlen:∀ (e':zw) (h':MH),e'[0]?=some (some (.obj n))->h'[n]?=some (.scr (ns.map .int))->zbP (zbN (var 0)) e' h' = .ok (.int l) h':=by
   intro e' h' h1 h2
   rw [hl0]
   simp [h1,h2]
 have hlt:l.toNat=ns.length:=by omega
 obtain ⟨c,hc⟩:∃ c,l * a1 / 3=c:=⟨_,rfl⟩
 have hc0:0<=c∧c<=63:=by
   have e1:(0:Int)<=l * a1:=Int.mul_nonneg (by omega) (by omega)
   have e2:l * a1<=63 * 3:=Int.mul_le_mul (by omega) (by omega) (by omega) (by omega)
   omega
 obtain ⟨x2,d2,b0,b1⟩:=znV y0 1 (m:=2+c) (by omega)
 obtain ⟨P,hP⟩:∃ P:Nat,2+x2=(P:Int):=⟨(2+x2).toNat,by omega⟩
 have hPb:2<=P∧P<=100:=by omega
 obtain ⟨b6,hb6⟩:∃ b6:Bool,b6=(decide (3 < (P:Int)) && decide (x6=0)):=⟨_,rfl⟩
 have h6:b6=true->3 < (P:Int):=by intro e;rw [e]at hb6;have:=hb6.symm;simp at this;omega
 have loop:=zfu (t := .nm 8) (gs:=[]) (body:=(zf (zm (.nm 9) (zh zD (zb (bin zi (var 0) (var 8)) (zb (bin zF (bin zbE (var 8) (za (.int (5)))) (za (.int (1)))) (zb (var 2) zd)))))
   (zf (zm (.nm 10) (bin zbE (bin zF (bin zF (var 9) (za (.int (1)))) (zh zD (zb (bin zi (var 0) (var 8)) (zb (bin zF (bin zbE (var 8) (za (.int (7)))) (za (.int (2)))) (zb (bin zQ (var 2) (za (.int (1)))) zd))))) (var 2)))
   (zf (ifS (tru (var 6)) (zf (zm (.nm 11) (ifE (tst (bin ltV (var 9) (bin zdl (var 2) (za (.int (2)))))) (za (.int (0))) (bin zdl (var 2) (za (.int (2))))))
   (zf (zm (.nm 12) (ifE (tst (bin eqV (var 11) (za (.int (0))))) (bin zdl (var 2) (za (.int (2)))) (bin zQ (var 2) (var 11))))
   (zf (zm (.nm 13) (bin zF (za (.int (1))) (zh zD (zb (bin zi (var 0) (var 8)) (zb (bin zF (bin zbE (var 8) (za (.int (7)))) (za (.int (2)))) (zb (bin zQ (var 12) (za (.int (1)))) zd))))))
   (zm (.nm 10) (bin zF (var 11) (bin zbE (bin zF (bin zQ (var 9) (var 11)) (var 13)) (var 12))))))) zq)
   (zf (zm (.nm 14) (bin zQ (zh zD (zb (bin zb3 (var 10) (za (.int (7919)))) (zb (za (.int (6))) (zb (var 4) zd)))) (zh zD (zb (bin zb3 (var 9) (za (.int (7919)))) (zb (za (.int (6))) (zb (var 4) zd))))))
   (zf (ifS (zbV (tst (bin gtV (var 5) (za (.int (0))))) (tst (bin eqV (zh zD (zb (bin zi (var 0) (var 8)) (zb (bin zF (bin zbE (var 8) (za (.int (3)))) (za (.int (9)))) (zb (var 5) zd)))) (za (.int (0)))))) (zm (.nm 14) (bin zF (var 14) (za (.int (1))))) zq)
   (zf (ifS (zbV (tst (bin gtV (var 3) (za (.int (0))))) (zbV (tst (bin eqV (zh zD (zb (bin zi (var 0) (var 8)) (zb (za (.int (12))) (zb (za (.int (3))) zd)))) (za (.int (0))))) (tst (bin ltV (bin zF (zeq (var 14)) (var 3)) (za (.int (1000000))))))) (zm (.nm 14) (bin zQ (var 14) (var 3))) zq)
   (zbb (zbJ (var 7) (zca (zb (var 9) (zb (var 10) (zb (var 14) zd))))))))))))) (fun k:Nat=>D.int k)
   (fun d e h'=>∃ ts x8 x9 x10 x y z u,e=[some (.obj n),some (.int c),some (.int P),some (.int turn),some (.int v4),some (.int v5),some (.bl b6),some (.obj h.length),x8,x9,x10,x,y,z,u]∧h'=h++[.lst (ts.map tD)]∧ts.length=d.length∧∀ t∈ts,t.Ok P) (List.range ns.length) (by
   rintro d k r e h' eq ⟨ts,x8,x9,x10,x,y,z,u,rfl,rfl,hl,hok⟩
   refine ⟨rfl,_,rfl,?_⟩
   have hk:k < ns.length:=by
     have:k∈List.range ns.length:=by rw [<- eq];simp
     exact List.mem_range.1 this
   have hdl:d.length<=63:=by
     have:=congrArg List.length eq
     simp at this;omega
   obtain ⟨t3,ok,x9',x10',x',y',z',u',he⟩:=zB2 hn (c:=c) (P:=(P:Int)) (turn:=turn) (v4:=v4) (v5:=v5) (b6:=b6) h6 (by omega) (by omega) hk (x9:=x9) (x10:=x10) (x:=x) (y:=y) (z:=z) (u:=u) (ts:=ts) (by omega) ht.1 h4.1 h4.2 h5
   refine ⟨_,_,he,ts++[t3],_,_,_,_,_,_,_,rfl,rfl,by simp [hl],?_⟩
   intro t htm
   rcases List.mem_append.1 htm with h1 | h1
   . exact hok t h1
   . simp at h1;subst h1;exact ok) (fun _ _ _=>rfl) [some (.obj n),some (.int c),some (.int P),some (.int turn),some (.int v4),some (.int v5),some (.bl b6),some (.obj h.length),none,none,none,none,none,none,none] (h++[.lst []])
     ⟨[],_,_,_,_,_,_,_,rfl,rfl,rfl,by simp⟩
 obtain ⟨e2,h2,hr,ts,x8,x9,x10,x,y,z,u,rfl,rfl,hl,hok⟩:=loop
 refine ⟨P,turn,ts,?_,by omega,by omega,ht.1,ht.2,by rw [hl];simp,hok⟩
 unfold app zfj
 have q:(-1000000:Int)<=ns.length∧(ns.length:Int)<=1000000:=by omega
 have q1:l<=1000000:=by omega
 have q2:(-1000000:Int)<=l:=by omega
 by_cases hb:3 < (P:Int)
 . simp [hb]at hb6
   subst hb6
   simp [-zr0,hlen,hlt,-zqy,zsk sm,c0,c1,c2,hn,d1,d3,d4,d5,d6,zsh,g1,g3,g4,g5,hc,d2,hP,hb,q1,q2,zN hn,hr]
   exact zrP h _ (k:=0) _ _ rfl (zhw ts)
 . simp [hb]at hb6
   subst hb6
   simp [-zr0,hlen,hlt,-zqy,zsk sm,c0,c1,c2,hn,d1,d3,d4,d5,d6,zsh,g1,g3,g4,g5,hc,d2,hP,hb,q1,q2,zN hn,hr]
   exact zrP h _ (k:=0) _ _ rfl (zhw ts)
end Mx
end
section
namespace Mx
open MI My
def Cn (E:Int->Int->Prop) (p q:Int):Prop:=∀ X:Int->Prop,(∀ a b,E a b->(X a↔X b))->X p->X q
section
variable {E E':Int->Int->Prop}{p q r:Int}
theorem Cn.refl:Cn E p p:=fun _ _ h=>h
theorem Cn.symm (h:Cn E p q):Cn E q p:=fun X hX hq=>Classical.byContradiction fun hp=>h (fun x=>¬ X x) (fun a b e=>not_congr (hX a b e)) hp hq
theorem Cn.trans (h:Cn E p q) (h2:Cn E q r):Cn E p r:=fun X hX hp=>h2 X hX (h X hX hp)
theorem Cn.edge (e:E p q):Cn E p q:=fun X hX h=>(hX p q e).mp h
theorem Cn.imp (h:∀ a b,E a b->E' a b∨E' b a) (c:Cn E p q):Cn E' p q:=fun X hX=>c X fun a b e=>(h a b e).elim (hX a b) fun z=>(hX b a z).symm
theorem Cn.eq (h:∀ a b,E a b->E' a b∨E' b a) (h':∀ a b,E' a b->E a b∨E b a):Cn E=Cn E':=by
 funext a b;exact propext ⟨Cn.imp h,Cn.imp h'⟩
end
def New (R:Int->Int->Prop) (r:Int):Prop:=∀ q,0<=q->q < r->¬ R q r
noncomputable def cnt (R:Int->Int->Prop) (p:Nat):Nat:=((List.range p).filter fun (r:Nat)=>dcd (New R r)).length
structure zc4 (R:Int->Int->Prop) (P:Nat) (hs:List Int):Prop where
 len:hs.length=P
 old:∀ p q:Int,0<=q->q < p->p < P->R q p->hAt hs p=hAt hs q
 new:∀ p:Int,0<=p->p < P->New R p->hAt hs p=cnt R p.toNat
theorem zqu {p:Prop}:dcd p=true↔p:=by
 constructor
 . intro h;exact Classical.byContradiction fun n=>by rw [zdw n]at h;cases h
 . exact zg8
theorem zc4.unique {R:Int->Int->Prop}{P:Nat}{hs hs':List Int} (a:zc4 R P hs) (b:zc4 R P hs'):hs=hs':=by
 have key:∀ n:Nat,n < P->hAt hs n=hAt hs' n:=by
   intro n
   induction n using Nat.strongRecOn with
   | ind n ih =>
     intro hn
     by_cases c:New R n
     . rw [a.new n (by omega) (by omega) c,b.new n (by omega) (by omega) c]
     . have:∃ q:Int,0<=q∧q < n∧R q n:=Classical.byContradiction fun z=>c fun q h0 h1 hr=>z ⟨q,h0,h1,hr⟩
       obtain ⟨q,h0,h1,hr⟩:=this
       rw [a.old n q h0 h1 (by omega) hr,b.old n q h0 h1 (by omega) hr]
       have e:((q.toNat:Nat):Int)=q:=by omega
       have:=ih q.toNat (by omega) (by omega)
       rwa [e]at this
 apply List.ext_getElem (by rw [a.len,b.len])
 intro i h1 h2
 have:=key i (by rw [<- a.len];exact h1)
 simpa [hAt,h1,h2] using this
def Ed (ts:List T3) (cs:List Nat) (a b:Int):Prop:=∃ k∈cs,∃ t,ts[k]?=some t∧t.a=a∧t.b=b
theorem zsb {ts:List T3}{cs:List Nat}{s:St}{t:T3} (hk:s.k∈cs) (hl:zbX ts s=some t):Ed ts cs t.a t.b∨Ed ts cs t.b t.a:=by
 unfold zbX at hl
 cases e:ts[s.k]? with
 | none=>rw [e]at hl;cases hl
 | some u =>
   rw [e]at hl
   cases hf:s.f with
   | true=>rw [hf]at hl;simp [zcF]at hl;subst hl;exact .inl ⟨s.k,hk,_,e,rfl,rfl⟩
   | false=>rw [hf]at hl;simp [zcF]at hl;subst hl;exact .inr ⟨s.k,hk,_,e,rfl,rfl⟩
theorem zcK.cn {ts:List T3}{cs:List Nat}{A:List En}{ρ:Int->Int} (F:zcK ts cs A ρ) {X:Int->Prop} (hX:∀ a b,Ed ts cs a b->(X a↔X b)):∀ p∈zj A,(X p↔X (ρ p)):=by
 have key:∀ A',zcd ts cs A'->(∀ e∈A',e∈A)->∀ p∈zj A',(X p↔X (ρ p)):=by
   intro A' B
   induction B with
   | nil=>intro _ p hp;simp at hp
   | @root A' p B hb ih =>
     intro hs x hx
     simp at hx
     rcases hx with hx | rfl
     . exact ih (fun e he=>hs e (by simp [he])) x hx
     . rw [F.rt (x,none) (hs _ (by simp)) rfl]
   | @step A' s t B hl hk ha hb ih =>
     intro hs x hx
     simp at hx
     rcases hx with hx | rfl
     . exact ih (fun e he=>hs e (by simp [he])) x hx
     . have haA:t.a∈zj A:=by
         obtain ⟨e,he,h2⟩:=List.mem_map.1 ha
         exact List.mem_map.2 ⟨e,hs e (by simp [he]),h2⟩
       have r1:=F.rho s t hk hl haA
       have r2:=ih (fun e he=>hs e (by simp [he])) t.a ha
       rw [<- r1,<- r2]
       rcases zsb hk hl with z | z
       . exact (hX _ _ z).symm
       . exact hX _ _ z
 exact key A F.bld (fun e he=>he)
theorem zcK.rho_iff {ts:List T3}{cs:List Nat}{A:List En}{ρ:Int->Int}{P:Nat} (F:zcK ts cs A ρ) (hts:∀ t∈ts,t.Ok P) (hall:∀ p,0<=p->p < (P:Int)->p∈zj A) {p q:Int} (hp:p∈zj A) (hq:q∈zj A) :
   ρ p=ρ q↔Cn (Ed ts cs) p q:=by
 constructor
 . intro e X hX h
   rw [F.cn hX q hq,<- e,<- F.cn hX p hp];exact h
 . intro c
   refine c (fun x=>ρ p=ρ x) (fun a b e=>?_) rfl
   obtain ⟨k,hk,t,et,rfl,rfl⟩:=e
   have ok:=hts t (List.mem_of_getElem? et)
   have:=F.rho ⟨k,true⟩ t hk (by simp [zbX,et,zcF]) (hall _ ok.a0 ok.a1)
   rw [this]
theorem zsc {A:List En}{x:Int}:x∈zA A↔(x,none)∈A:=by
 unfold zA
 rw [List.mem_filterMap]
 constructor
 . rintro ⟨⟨a,o⟩,he,h⟩
   cases o with
   | none=>simp at h;subst h;exact he
   | some s=>simp at h
 . intro h;exact ⟨_,h,rfl⟩
theorem zou {ts:List T3}{cs:List Nat}{A:List En}{ρ:Int->Int}{P:Nat}{hs:List Int} (F:zcK ts cs A ρ) (hts:∀ t∈ts,t.Ok P) (hall:∀ p,0<=p->p < (P:Int)->p∈zj A) (hrn:∀ p∈zj A,0<=p∧p < (P:Int))
   (N:zfD hs A) (hl:hs.length=P):zc4 (Cn (Ed ts cs)) P hs where
 len:=hl
 old:=fun p q h0 h1 h2 c=>((zy0 F N (hall q h0 (by omega)) (hall p (by omega) h2)).2 ((F.rho_iff hts hall (hall q h0 (by omega)) (hall p (by omega) h2)).2 c)).symm
 new:=fun p h0 h1 hn=>by
   have hp:=hall p h0 h1
   have rtk:∀ r,r∈zA A->r∈zj A∧ρ r=r:=fun r hr=>⟨zof hr,F.rt _ (zsc.1 hr) rfl⟩
   obtain ⟨e,he,hep⟩:=List.mem_map.1 hp
   obtain ⟨d,r,hdr⟩:=List.append_of_mem he
   obtain ⟨l,hlr⟩:=F.blk d e r hdr
   rw [hep]at hlr
   have hA:zA A=l++ρ p :: zA r:=by
     have:zA A=zA (d++[e])++zA r:=by rw [<- ze4,hdr];simp
     rw [this,hlr];simp
   have hrm:ρ p∈zA A:=by rw [hA];simp
   have hρ:ρ p=p:=by
     have h2:=F.low p hp
     have h3:=rtk _ hrm
     by_cases c:ρ p=p
     . exact c
     . exfalso
       exact hn (ρ p) (hrn _ h3.1).1 (by omega) ((F.rho_iff hts hall h3.1 hp).1 h3.2)
   rw [hρ]at hA
   have hnum:=N d e r hdr
   rw [hep,hlr]at hnum
   have asc:=F.asc
   rw [hA,List.pairwise_append]at asc
   have h1':∀ x∈l,x < p:=fun x hx=>asc.2.2 x hx p List.mem_cons_self
   have newr:∀ r:Int,r∈zA A->New (Cn (Ed ts cs)) r:=fun r hr q q0 q1 c=>by
     obtain ⟨k1,k2⟩:=rtk r hr
     have hq:=hall q q0 (by have:=hrn r k1;omega)
     have:=(F.rho_iff hts hall hq k1).2 c
     have:=F.low q hq
     omega
   have hcnt:cnt (Cn (Ed ts cs)) p.toNat=l.length:=by
     unfold cnt
     apply Nat.le_antisymm
     . have nd:(((List.range p.toNat).filter fun (r:Nat)=>dcd (New (Cn (Ed ts cs)) r)).map fun (r:Nat)=>(r:Int)).Nodup:=by
         rw [List.nodup_iff_pairwise_ne,List.pairwise_map]
         refine ((List.nodup_range).filter _).imp fun h z=>h (by omega)
       have:=zdH _ l nd (fun x hx=>by
         obtain ⟨m,hm,rfl⟩:=List.mem_map.1 hx
         obtain ⟨hm1,hm2⟩:=List.mem_filter.1 hm
         have hm3:=List.mem_range.1 hm1
         have hnew:=zqu.1 hm2
         have hmk:=hall (m:Int) (by omega) (by omega)
         obtain ⟨e',he',hep'⟩:=List.mem_map.1 hmk
         obtain ⟨d',r',hdr'⟩:=List.append_of_mem he'
         obtain ⟨l',hlr'⟩:=F.blk d' e' r' hdr'
         rw [hep']at hlr'
         have hm4:ρ (m:Int)∈zA A:=by
           have:zA A=zA (d'++[e'])++zA r':=by rw [<- ze4,hdr'];simp
           rw [this,hlr'];simp
         have hmρ:ρ (m:Int)=m:=by
           have h2:=F.low _ hmk
           have h3:=rtk _ hm4
           by_cases c:ρ (m:Int)=m
           . exact c
           . exfalso
             exact hnew (ρ m) (hrn _ h3.1).1 (by omega) ((F.rho_iff hts hall h3.1 hmk).1 h3.2)
         rw [hmρ,hA]at hm4
         rcases List.mem_append.1 hm4 with z | z
         . exact z
         . exfalso
           rcases List.mem_cons.1 z with z | z
           . omega
           . have:=(List.pairwise_cons.1 asc.2.1).1 _ z
             omega)
       simpa using this
     . have nd:l.Nodup:=by
         have:=zh6 F.bld.nodup
         rw [hA]at this
         exact (List.nodup_append.1 this).1
       have:=zdH l (((List.range p.toNat).filter fun (r:Nat)=>dcd (New (Cn (Ed ts cs)) r)).map fun (r:Nat)=>(r:Int)) nd (fun x hx=>by
         have hx1:x∈zA A:=by rw [hA];simp [hx]
         have hx2:=hrn x (rtk x hx1).1
         have hx3:=h1' x hx
         refine List.mem_map.2 ⟨x.toNat,List.mem_filter.2 ⟨List.mem_range.2 (by omega),?_⟩,by omega⟩
         have e:((x.toNat:Nat):Int)=x:=by omega
         rw [e]
         exact zg8 (newr x hx1))
       simpa using this
   rw [hnum,hcnt]
   simp
end Mx
end
section
namespace Mx
open MI My
def Et (us:List T3) (a b:Int):Prop:=∃ t∈us,t.a=a∧t.b=b
def nH (h:MH) (L:List (List Int)) (R:MH):MH:=h++(L.map (fun l=>O.lst (l.map .int))++R)
theorem zo0 {h:MH}{L:List (List Int)}{R:MH}{p:Nat} (hp:p < L.length):(nH h L R)[h.length+p]?=some (.lst (L[p].map .int)):=by
 unfold nH
 rw [zb5,List.getElem?_append_left (by simpa using hp)]
 simp [hp]
theorem zr1 {h:MH}{L:List (List Int)}{R:MH}{p:Nat} (hp:p < L.length) (ss:List Int):(nH h L R).set (h.length+p) (.lst (ss.map .int))=nH h (L.set p ss) R:=by
 unfold nH
 rw [zhx,List.set_append_left _ _ (by simpa using hp)]
 simp [List.map_set]
theorem zf7 {h:MH}{L:List (List Int)}{R:MH}{P j:Nat} (hL:L.length=P):(nH h L R)[h.length+P+j]?=R[j]?:=by
 unfold nH
 rw [Nat.add_assoc,zb5,List.getElem?_append_right (by simp;omega)]
 simp [hL]
theorem zoV {h:MH}{L:List (List Int)}{R:MH}{P:Nat} (hL:L.length=P):(nH h L R)[h.length+P]?=R[0]?:=zf7 (j:=0) hL
theorem zo1 {h:MH}{L:List (List Int)}{R:MH}{P j:Nat} (hL:L.length=P) (o:O):(nH h L R).set (h.length+P+j) o=nH h L (R.set j o):=by
 unfold nH
 rw [Nat.add_assoc,zhx,List.set_append_right _ _ (by simp;omega)]
 simp [hL]
theorem zoy {h:MH}{L:List (List Int)}{R:MH}{n:Nat}{o:O} (hn:h[n]?=some o):(nH h L R)[n]?=some o:=zN hn _
def zfJ (us:List T3) (L:List (List Int)):Prop:=∀ p (hp:p < L.length) (u:Int),u∈L[p]↔∃ t∈us,(t.a=p∧t.b=u)∨(t.b=p∧t.a=u)
theorem zAi {us:List T3}{L:List (List Int)}{t0:T3}{P:Nat} (ok:t0.Ok P) (hL:L.length=P) (hO:zfJ us L) {L2:List (List Int)}
   (e:L2=(L.set t0.a.toNat (L[t0.a.toNat]'(by have:=ok.a0;have:=ok.a1;omega)++[t0.b])).set t0.b.toNat (L[t0.b.toNat]'(by have:=ok.b0;have:=ok.b1;omega)++[t0.a])):zfJ (us++[t0]) L2:=by
 intro p hp u
 have ha0:=ok.a0;have ha1:=ok.a1;have hb0:=ok.b0;have hb1:=ok.b1;have hne:=ok.ne
 subst e
 have hp':p < L.length:=by simpa using hp
 have base:=hO p hp' u
 have split:(∃ t∈us++[t0],(t.a=p∧t.b=u)∨(t.b=p∧t.a=u))↔(∃ t∈us,(t.a=p∧t.b=u)∨(t.b=p∧t.a=u))∨((t0.a=p∧t0.b=u)∨(t0.b=p∧t0.a=u)):=by
   constructor
   . rintro ⟨t,ht,q⟩
     rcases List.mem_append.1 ht with ht | ht
     . exact .inl ⟨t,ht,q⟩
     . simp at ht;subst ht;exact .inr q
   . rintro (⟨t,ht,q⟩ | q)
     . exact ⟨t,by simp [ht],q⟩
     . exact ⟨t0,by simp,q⟩
 rw [split,<- base]
 simp only [List.getElem_set]
 by_cases c1:t0.b.toNat=p
 . rw [if_pos c1]
   subst c1
   have e1:((t0.b.toNat:Nat):Int)=t0.b:=Int.toNat_of_nonneg hb0
   simp [e1]
   constructor
   . rintro (q | q)
     . exact .inl q
     . exact .inr (.inr q.symm)
   . rintro (q | q | q)
     . exact .inl q
     . exact absurd q.1 hne
     . exact .inr q.symm
 . rw [if_neg c1]
   have n1:t0.b≠p:=fun z=>c1 (by rw [z];exact Int.toNat_natCast p)
   by_cases c2:t0.a.toNat=p
   . rw [if_pos c2]
     subst c2
     have e1:((t0.a.toNat:Nat):Int)=t0.a:=Int.toNat_of_nonneg ha0
     simp [e1]
     constructor
     . rintro (q | q)
       . exact .inl q
       . exact .inr (.inl q.symm)
     . rintro (q | q | q)
       . exact .inl q
       . exact .inr q.symm
       . exact absurd q.1.symm hne
   . rw [if_neg c2]
     have n2:t0.a≠p:=fun z=>c2 (by rw [z];exact Int.toNat_natCast p)
     simp [n1,n2]
theorem zzM {h:MH}{n P:Nat}{us:List T3} (hn:h[n]?=some (.lst (us.map tD))) (hus:∀ t∈us,t.Ok P) (hl:us.length<=1000) (R:MH) (hR:R[0]?=some (.lst (zcU h.length P))) (x3 x4 x6 x7 x8:Option D) :
   ∃ L x,zcV (.nm 5) [(n,.lst (us.map tD))] (zf (zbb (zbJ (bin zi (var 2) (bin zi (var 5) (za (.int (0))))) (bin zi (var 5) (za (.int (1))))))
   (zbb (zbJ (bin zi (var 2) (bin zi (var 5) (za (.int (1))))) (bin zi (var 5) (za (.int (0))))))) (us.map tD) [some (.int P),some (.obj n),some (.obj (h.length+P)),x3,x4,none,x6,x7,x8] (nH h (List.replicate P []) R) =
     .nx [some (.int P),some (.obj n),some (.obj (h.length+P)),x3,x4,x,x6,x7,x8] (nH h L R)∧L.length=P∧zfJ us L∧∀ p (hp:p < L.length),L[p].length<=2 * us.length:=by
 have loop:=zfu (t := .nm 5) (gs:=[(n,.lst (us.map tD))]) (body:=(zf (zbb (zbJ (bin zi (var 2) (bin zi (var 5) (za (.int (0))))) (bin zi (var 5) (za (.int (1))))))
   (zbb (zbJ (bin zi (var 2) (bin zi (var 5) (za (.int (1))))) (bin zi (var 5) (za (.int (0)))))))) tD
   (fun d e h'=>∃ L x,e=[some (.int P),some (.obj n),some (.obj (h.length+P)),x3,x4,x,x6,x7,x8]∧h'=nH h L R∧L.length=P∧zfJ d L∧∀ p (hp:p < L.length),L[p].length<=2 * d.length) us (by
   rintro d t0 r e h' eq ⟨L,x,rfl,rfl,hL,hO,hN⟩
   refine ⟨zdA (zoy hn),_,rfl,?_⟩
   have ok:=hus t0 (by rw [<- eq];simp)
   have hdl:d.length < 1001:=by have:=congrArg List.length eq;simp at this;omega
   have ha0:=ok.a0
   have ha1:=ok.a1
   have hb0:=ok.b0
   have hb1:=ok.b1
   have hne:t0.a.toNat≠t0.b.toNat:=by have:=ok.ne;omega
   have hA:t0.a.toNat < L.length:=by omega
   have hB:t0.b.toNat < L.length:=by omega
   have hB2:t0.b.toNat < (L.set t0.a.toNat (L[t0.a.toNat]++[t0.b])).length:=by simpa using hB
   have r1:=zgP (n:=h.length) (P:=P) ha0 ha1
   have r2:=zgP (n:=h.length) (P:=P) hb0 hb1
   have l1:=hN _ hA
   have l2:=hN _ hB
   have s1:(L[t0.a.toNat].map D.int)++[.int t0.b]=(L[t0.a.toNat]++[t0.b]).map D.int:=by simp
   have s2:(L[t0.b.toNat].map D.int)++[.int t0.a]=(L[t0.b.toNat]++[t0.a]).map D.int:=by simp
   refine ⟨[some (.int P),some (.obj n),some (.obj (h.length+P)),x3,x4,some (tD t0),x6,x7,x8],nH h ((L.set t0.a.toNat (L[t0.a.toNat]++[t0.b])).set t0.b.toNat (L[t0.b.toNat]++[t0.a])) R,?_,_,_,rfl,rfl,by simpa using hL,zAi ok hL hO rfl,?_⟩
   . have g1:=zo0 (h:=h) (R:=R) hA
     have g2:=zo0 (h:=h) (R:=R) hB2
     rw [List.getElem_set_ne hne]at g2
     have t1:=zoV (h:=h) (R:=R) hL
     have t2:=zoV (h:=h) (R:=R) (L:=L.set t0.a.toNat (L[t0.a.toNat]++[t0.b])) (P:=P) (by simpa using hL)
     rw [hR]at t1 t2
     have u1:=zr1 (h:=h) (R:=R) hA (L[t0.a.toNat]++[t0.b])
     have u2:=zr1 (h:=h) (R:=R) hB2 (L[t0.b.toNat]++[t0.a])
     have m1:L[t0.a.toNat].length < 1000000:=by omega
     have m2:L[t0.b.toNat].length < 1000000:=by omega
     rw [<- s1]at u1
     rw [<- s2]at u2
     simp [zct,r1,r2,g1,g2,t1,t2,zdx,m1,m2,u1,u2]
   . intro p hp
     have hp':p < L.length:=by simpa using hp
     have:=hN p hp'
     simp only [List.getElem_set]
     split
     . rename_i e;subst e;simp;omega
     . split
       . rename_i e;subst e;simp;omega
       . simp;omega)
   (by rintro e h' ⟨L,x,rfl,rfl,_⟩;exact zdA (zoy hn)) [some (.int P),some (.obj n),some (.obj (h.length+P)),x3,x4,none,x6,x7,x8] (nH h (List.replicate P []) R) ⟨_,none,rfl,rfl,by simp,by
     intro p hp s
     simp,by simp⟩
 obtain ⟨e2,h2,hr,L,x,rfl,rfl,hL,hO,hN⟩:=loop
 exact ⟨L,x,hr,hL,hO,hN⟩
end Mx
end
section
namespace Mx
open MI My
theorem zq3 {t:ME Bool}{body:MS} (I:Nat->zw->MH->Prop) (J:zw->MH->Prop)
   (st:∀ k e h,I k e h->(∃ h1,t e h = .ok false h1∧J e h1)∨(∃ h1,t e h = .ok true h1∧∃ k' e2 h2,k' < k∧body e h1 = .nx e2 h2∧I k' e2 h2)) :
   ∀ n k e h,k < n->I k e h->∃ e2 h2,zfG t body n e h = .nx e2 h2∧J e2 h2
 | 0,k,e,h,hk,_=>absurd hk (by omega)
 | n+1,k,e,h,hk,hi=>by
   rw [zfG,zd7]
   rcases st k e h hi with ⟨h1,ht,hj⟩ | ⟨h1,ht,k',e2,h2,hk',hb,hi2⟩
   . exact ⟨e,h1,by simp [ht],hj⟩
   . obtain ⟨e3,h3,hw,hj⟩:=zq3 I J st n k' e2 h2 (by omega) hi2
     exact ⟨e3,h3,by simp [ht,hb,hw],hj⟩
@[simp] theorem zFb (a b:ME D) (e:zw) (h:MH):zgb a b e h=zu (a e h) fun x h1=>zdx x h1 (zu (b e h1) fun y h2=>match x,y with
 | .obj n,.obj m=>match h2[n]?,h2[m]? with
   | some (.lst xs),some (.lst ys)=>if xs.length+ys.length<=1000000 then .ok .non (h2.set n (.lst (xs++ys))) else .bad
   | _,_=> .bad
 | _,_=> .bad):=by
 unfold zgb;simp only [zL];congr 1;funext x h1
 unfold isL zdx
 cases x <;> first | rfl | skip
 dsimp only
 split <;> simp_all <;> congr 1
theorem zsg {h:MH}{n m:Nat}{xs:List Int} (hn:h[n]?=some (.lst (xs.map .int))) (hm:h[m]?=some (.lst [])) (e:zw):neV (.obj n) (.obj m) e h = .ok (.bl (!decide (xs=[]))) h:=by
 unfold neV zcb
 have pl:(xs.map D.int).all (D.pl 5)=true:=by simp [D.pl]
 simp only [hn,hm,pl,if_pos]
 cases xs with
 | nil=>simp [Cmp.eq,zbT]
 | cons x xs=>simp [Cmp.eq,zbT]
def unm (fs:List Int):Nat:=fs.countP fun x=>decide (x < 0)
theorem zsz:∀ (fs:List Int) (i:Nat) (c:Int),i < fs.length->fs.getD i 0 < 0->0<=c->unm (fs.set i c)+1=unm fs
 | [],i,c,h,_,_=>by simp at h
 | x :: fs,0,c,h,hx,hc=>by
   have hx:x < 0:=by simpa using hx
   have hc':¬ c < 0:=by omega
   simp [unm,hx,hc']
 | x :: fs,i+1,c,h,hx,hc=>by
   have ih:=zsz fs i c (by simpa using h) (by simpa using hx) hc
   unfold unm at ih ⊢
   rw [List.set_cons_succ,List.countP_cons,List.countP_cons]
   omega
def RF (h:MH) (P:Nat) (fs:List Int) (g:MH):MH := .lst (zcU h.length P) :: .lst [.int (-1)] :: .lst (fs.map .int) :: g
structure zdj (us:List T3) (L:List (List Int)) (P:Nat) (k c:Int) (f0 fs lf:List Int):Prop where
 len:fs.length=P
 old:∀ v,0<=v->v < (P:Int)->0<=hAt f0 v->hAt fs v=hAt f0 v
 new:∀ v,0<=v->v < (P:Int)->hAt f0 v < 0->hAt fs v=hAt f0 v∨(hAt fs v=c∧Cn (Et us) k v)
 lft:∀ v∈lf,0<=v∧v < (P:Int)∧Cn (Et us) k v
 clo:∀ v (hv:v.toNat < L.length),0<=v->hAt f0 v < 0->hAt fs v=c->∀ u∈L[v.toNat],0<=hAt fs u∨u∈lf
 beg:0<=hAt fs k∨k∈lf
theorem zBw {fs:List Int}{i j v:Int} (h0:0<=i) (h1:i < fs.length) (h2:0<=j):hAt (fs.set i.toNat v) j=if j=i then v else hAt fs j:=by
 by_cases c:j=i
 . rw [if_pos c,c];exact zqK h0 h1
 . rw [if_neg c];exact zqU h0 h2 c
theorem zdj.skip {us:List T3}{L:List (List Int)}{P:Nat}{k c:Int}{f0 fs lf:List Int}{v:Int} (A:zdj us L P k c f0 fs (lf++[v])) (hv:0<=hAt fs v):zdj us L P k c f0 fs lf where
 len:=A.len
 old:=A.old
 new:=A.new
 lft:=fun u hu=>A.lft u (by simp [hu])
 clo:=fun w hw h0 h1 h2 u hu=>by
   rcases A.clo w hw h0 h1 h2 u hu with q | q
   . exact .inl q
   . rcases List.mem_append.1 q with q | q
     . exact .inr q
     . simp at q;subst q;exact .inl hv
 beg:=by
   rcases A.beg with q | q
   . exact .inl q
   . rcases List.mem_append.1 q with q | q
     . exact .inr q
     . simp at q;subst q;exact .inl hv
theorem zdj.step {us:List T3}{L:List (List Int)}{P:Nat}{k c:Int}{f0 fs lf:List Int}{v:Int} (hL:L.length=P) (hus:∀ t∈us,t.Ok P) (hO:zfJ us L) (hc:0<=c) (A:zdj us L P k c f0 fs (lf++[v])) (hv:hAt fs v < 0) (hvL:v.toNat < L.length) :
   zdj us L P k c f0 (fs.set v.toNat c) (lf++L[v.toNat]):=by
 obtain ⟨v0,v1,vc⟩:=A.lft v (by simp)
 have hvl:v < fs.length:=by rw [A.len];exact v1
 have f0v:hAt f0 v < 0:=by
   by_cases z:0<=hAt f0 v
   . have:=A.old v v0 v1 z;omega
   . omega
 have get:∀ u,0<=u->hAt (fs.set v.toNat c) u=if u=v then c else hAt fs u:=fun u hu=>zBw v0 hvl hu
 have ev:((v.toNat:Nat):Int)=v:=by omega
 have nb:∀ u∈L[v.toNat],0<=u∧u < (P:Int)∧Cn (Et us) v u:=fun u hu=>by
   obtain ⟨t,ht,q⟩:=(hO v.toNat hvL u).1 hu
   have ok:=hus t ht
   rw [ev]at q
   rcases q with ⟨rfl,rfl⟩ | ⟨rfl,rfl⟩
   . exact ⟨ok.b0,ok.b1,Cn.edge ⟨t,ht,rfl,rfl⟩⟩
   . exact ⟨ok.a0,ok.a1,Cn.symm (Cn.edge ⟨t,ht,rfl,rfl⟩)⟩
 have up:∀ u,0<=u->0<=hAt fs u->0<=hAt (fs.set v.toNat c) u:=fun u hu q=>by
   rw [get u hu];split
   . exact hc
   . exact q
 refine ⟨by simpa using A.len,fun u h0 h1 h2=>?_,fun u h0 h1 h2=>?_,fun u hu=>?_,fun w hw h0 h1 h2 u hu=>?_,?_⟩
 . rw [get u h0,if_neg (fun z=>by subst z;omega)]
   exact A.old u h0 h1 h2
 . rw [get u h0]
   by_cases z:u=v
   . rw [if_pos z,z];exact .inr ⟨rfl,vc⟩
   . rw [if_neg z];exact A.new u h0 h1 h2
 . rcases List.mem_append.1 hu with hu | hu
   . exact A.lft u (by simp [hu])
   . obtain ⟨q0,q1,q2⟩:=nb u hu
     exact ⟨q0,q1,vc.trans q2⟩
 . rw [get w h0]at h2
   have hw0:(w.toNat:Int)=w:=by omega
   have hu0:0<=u:=by
     obtain ⟨t,ht,q⟩:=(hO w.toNat hw u).1 hu
     have ok:=hus t ht
     rcases q with ⟨_,rfl⟩ | ⟨_,rfl⟩
     . exact ok.b0
     . exact ok.a0
   by_cases z:w=v
   . subst z
     exact .inr (by simp [hu])
   . rw [if_neg z]at h2
     rcases A.clo w hw h0 h1 h2 u hu with q | q
     . exact .inl (up u hu0 q)
     . rcases List.mem_append.1 q with q | q
       . exact .inr (by simp [q])
       . simp at q;subst q
         left;rw [get u v0,if_pos rfl];exact hc
 . have k0:k∈lf++[v]->0<=k:=fun q=>(A.lft k q).1
   rcases A.beg with q | q
   . by_cases z:0<=k
     . exact .inl (up k z q)
     . have:hAt (fs.set v.toNat c) k=hAt fs k∨0<=hAt (fs.set v.toNat c) k:=by
         unfold hAt
         have e:k.toNat=0:=by omega
         rw [e]
         by_cases y:v.toNat=0
         . right
           rw [y]
           cases fs with
           | nil=>simp
           | cons a b=>simpa using hc
         . left
           rw [List.getD_eq_getElem?_getD,List.getD_eq_getElem?_getD,List.getElem?_set_ne y]
       rcases this with y | y
       . left;rw [y];exact q
       . exact .inl y
   . rcases List.mem_append.1 q with y | y
     . exact .inr (by simp [y])
     . simp at y;subst y
       left;rw [get k v0,if_pos rfl];exact hc
theorem zdj.done {us:List T3}{L:List (List Int)}{P:Nat}{k c:Int}{f0 fs:List Int} (hL:L.length=P) (hus:∀ t∈us,t.Ok P) (hO:zfJ us L) (hc:0<=c) (A:zdj us L P k c f0 fs []) (k0:0<=k) (k1:k < (P:Int)) (hk:hAt f0 k < 0)
   (hcl:∀ t∈us,(0<=hAt f0 t.a↔0<=hAt f0 t.b)):∀ v,0<=v->v < (P:Int)->(hAt f0 v < 0∧hAt fs v=c∧Cn (Et us) k v)∨(hAt fs v=hAt f0 v∧¬ Cn (Et us) k v):=by
 have key:∀ v,Cn (Et us) k v->0<=v->v < (P:Int)->hAt f0 v < 0∧hAt fs v=c:=by
   intro v hv
   have go:∀ a b:Int,0<=a->a < (P:Int)->0<=b->b < (P:Int)->b∈L.getD a.toNat []->(0<=hAt f0 a↔0<=hAt f0 b)->hAt f0 a < 0∧hAt fs a=c->hAt f0 b < 0∧hAt fs b=c:=by
     intro a b a0 a1 b0 b1 hb hi ⟨q1,q2⟩
     have hla:a.toNat < L.length:=by omega
     have hb:b∈L[a.toNat]:=by simpa [hla] using hb
     have fb:hAt f0 b < 0:=by
       by_cases z:0<=hAt f0 b
       . have:=hi.2 z;omega
       . omega
     refine ⟨fb,?_⟩
     have h3:0<=hAt fs b:=by
       rcases A.clo a hla a0 q1 q2 b hb with z | z
       . exact z
       . simp at z
     rcases A.new b b0 b1 fb with z | z
     . omega
     . exact z.1
   refine hv (fun x=>0<=x->x < (P:Int)->hAt f0 x < 0∧hAt fs x=c) (fun a b e=>?_) (fun _ _=>?_)
   . obtain ⟨t,ht,rfl,rfl⟩:=e
     have ok:=hus t ht
     have la:t.a.toNat < L.length:=by have:=ok.a0;have:=ok.a1;omega
     have lb:t.b.toNat < L.length:=by have:=ok.b0;have:=ok.b1;omega
     have m1:t.b∈L.getD t.a.toNat []:=by
       have:=(hO t.a.toNat la t.b).2 ⟨t,ht,.inl ⟨by have:=ok.a0;omega,rfl⟩⟩
       simpa [la] using this
     have m2:t.a∈L.getD t.b.toNat []:=by
       have:=(hO t.b.toNat lb t.a).2 ⟨t,ht,.inr ⟨by have:=ok.b0;omega,rfl⟩⟩
       simpa [lb] using this
     constructor
     . intro q _ _;exact go t.a t.b ok.a0 ok.a1 ok.b0 ok.b1 m1 (hcl t ht) (q ok.a0 ok.a1)
     . intro q _ _;exact go t.b t.a ok.b0 ok.b1 ok.a0 ok.a1 m2 (hcl t ht).symm (q ok.b0 ok.b1)
   . refine ⟨hk,?_⟩
     have:0<=hAt fs k:=by
       rcases A.beg with z | z
       . exact z
       . simp at z
     rcases A.new k k0 k1 hk with z | z
     . omega
     . exact z.1
 intro v v0 v1
 by_cases q:Cn (Et us) k v
 . exact .inl ⟨(key v q v0 v1).1,(key v q v0 v1).2,q⟩
 . refine .inr ⟨?_,q⟩
   by_cases z:0<=hAt f0 v
   . exact A.old v v0 v1 z
   . rcases A.new v v0 v1 (by omega) with y | y
     . exact y
     . exact absurd y.2 q
end Mx
end
section
namespace Mx
open MI My
theorem zib (h:MH) (L:List (List Int)) (R g:MH):nH h L R++g=nH h L (R++g):=by simp [nH]
theorem zxm {h:MH}{L:List (List Int)}{R:MH}{P:Nat} (hL:L.length=P):(nH h L R).length=h.length+P+R.length:=by simp [nH,hL];omega
theorem zyG {h:MH}{n P i D0:Nat}{us:List T3}{L:List (List Int)} (hL:L.length=P) (hP:P<=100) (hus:∀ t∈us,t.Ok P) (hO:zfJ us L) (hD:D0<=1000) (hN:∀ p (hp:p < L.length),L[p].length<=D0) {k m:Int} (hm:1<=m) {f0:List Int}{g:MH}{x5 x8:Option D}
   (hg:g[i]?=some (.lst ([k].map .int))) (A:zdj us L P k (m - 1) f0 f0 [k]) :
   ∃ fs g' x,ze3 (tst (bin neV (var 7) (zH (zbA zd)))) (zf (zm (.nm 8) (zgf (var 7)))
   (ifS (tst (bin ltV (bin zi (var 3) (var 8)) (za (.int (0))))) (zf (zb0 (var 3) (var 8) (bin zQ (var 4) (za (.int (1)))))
   (zbb (zgb (var 7) (bin zi (var 2) (var 8))))) zq)) [some (.int P),some (.obj n),some (.obj (h.length+P)),some (.obj (h.length+P+2)),some (.int m),x5,some (.int k),some (.obj (h.length+P+(3+i))),x8] (nH h L (RF h P f0 g)) =
     .nx [some (.int P),some (.obj n),some (.obj (h.length+P)),some (.obj (h.length+P+2)),some (.int m),x5,some (.int k),some (.obj (h.length+P+(3+i))),x] (nH h L (RF h P fs g'))∧zdj us L P k (m - 1) f0 fs []:=by
 have hrow:=zq3 (t:=(tst (bin neV (var 7) (zH (zbA zd))))) (body:=(zf (zm (.nm 8) (zgf (var 7)))
   (ifS (tst (bin ltV (bin zi (var 3) (var 8)) (za (.int (0))))) (zf (zb0 (var 3) (var 8) (bin zQ (var 4) (za (.int (1)))))
   (zbb (zgb (var 7) (bin zi (var 2) (var 8))))) zq)))
   (fun μ e h'=>∃ fs lf g x,e=[some (.int P),some (.obj n),some (.obj (h.length+P)),some (.obj (h.length+P+2)),some (.int m),x5,some (.int k),some (.obj (h.length+P+(3+i))),x]∧h'=nH h L (RF h P fs g)∧g[i]?=some (.lst (lf.map .int))∧zdj us L P k (m - 1) f0 fs lf∧μ=unm fs * (D0+1)+lf.length∧μ<=300000)
   (fun e h'=>∃ fs g x,e=[some (.int P),some (.obj n),some (.obj (h.length+P)),some (.obj (h.length+P+2)),some (.int m),x5,some (.int k),some (.obj (h.length+P+(3+i))),x]∧h'=nH h L (RF h P fs g)∧zdj us L P k (m - 1) f0 fs [])
   (by
     rintro μ e h' ⟨fs,lf,g,x,rfl,rfl,hg,A,hμ,hμ2⟩
     have hi:i < g.length:=(List.getElem?_eq_some_iff.1 hg).1
     have hT:((tst (bin neV (var 7) (zH (zbA zd)))):ME Bool) [some (.int P),some (.obj n),some (.obj (h.length+P)),some (.obj (h.length+P+2)),some (.int m),x5,some (.int k),some (.obj (h.length+P+(3+i))),x] (nH h L (RF h P fs g)) = .ok (!decide (lf=[])) (nH h L (RF h P fs (g++[.lst []]))):=by
       have q1:(nH h L (RF h P fs (g++[.lst []])))[h.length+P+(3+i)]?=some (.lst (lf.map .int)):=by
         rw [zf7 hL]
         show (.lst (zcU h.length P) :: .lst [.int (-1)] :: .lst (fs.map .int) :: (g++[.lst []]):MH)[3+i]?=_
         rw [Nat.add_comm]
         show (g++[.lst []]:MH)[i]?=_
         rw [List.getElem?_append_left hi];exact hg
       have q2:(nH h L (RF h P fs (g++[.lst []])))[(nH h L (RF h P fs g)).length]?=some (.lst []):=by
         have e:nH h L (RF h P fs (g++[.lst []]))=nH h L (RF h P fs g)++[.lst []]:=by rw [zib];rfl
         rw [e];simp
       have e:nH h L (RF h P fs g)++[.lst []]=nH h L (RF h P fs (g++[.lst []])):=by rw [zib];rfl
       simp [e,zsg q1 q2]
     rcases List.eq_nil_or_concat lf with rfl | ⟨lf',v,rfl⟩
     . left
       exact ⟨_,by rw [hT];rfl,fs,g++[.lst []],x,rfl,rfl,A⟩
     . right
       rw [List.concat_eq_append]at hg A hμ hT
       refine ⟨nH h L (RF h P fs (g++[.lst []])),by rw [hT];simp,?_⟩
       obtain ⟨v0,v1,vc⟩:=A.lft v (by simp)
       have hfl:=A.len
       have hg1:∀ g1:MH,i < g1.length->∀ o:O,(nH h L (RF h P fs g1)).set (h.length+P+(3+i)) o=nH h L (RF h P fs (g1.set i o)):=by
         intro g1 hi1 o
         rw [zo1 hL]
         congr 1
         rw [Nat.add_comm];rfl
       have hgi:∀ (fs1:List Int) (g1:MH) (o:O),i < g1.length->(nH h L (RF h P fs1 (g1.set i o)))[h.length+P+(3+i)]?=some o:=by
         intro fs1 g1 o hi1
         rw [zf7 hL,Nat.add_comm]
         show (g1.set i o)[i]?=_
         exact List.getElem?_set_self hi1
       have q1:(nH h L (RF h P fs (g++[.lst []])))[h.length+P+(3+i)]?=some (.lst ((lf'++[v]).map .int)):=by
         rw [zf7 hL,Nat.add_comm]
         show (g++[.lst []]:MH)[i]?=_
         rw [List.getElem?_append_left hi];exact hg
       have p1:=hg1 (g++[.lst []]) (by simp;omega) (.lst (lf'.map .int))
       have hf:∀ (fs1:List Int) (g1:MH),(nH h L (RF h P fs1 g1))[h.length+P+2]?=some (.lst (fs1.map .int)):=fun fs1 g1=>by rw [zf7 hL];rfl
       have hnr:∀ (fs1:List Int) (g1:MH),(nH h L (RF h P fs1 g1))[h.length+P]?=some (.lst (zcU h.length P)):=fun fs1 g1=>by rw [zoV hL];rfl
       have hfa:=zeh (hs:=fs) v0 (by rw [hfl];exact v1)
       have drop1:((lf'++[v]).map D.int).dropLast=lf'.map D.int:=by simp
       have last1:((lf'++[v]).map D.int)[((lf'++[v]).map D.int).length - 1]?=some (.int v):=by simp
       by_cases c:hAt fs v < 0
       . have hvL:v.toNat < L.length:=by omega
         have hfs:∀ (g1:MH),(nH h L (RF h P fs g1)).set (h.length+P+2) (.lst ((fs.set v.toNat (m - 1)).map .int))=nH h L (RF h P (fs.set v.toNat (m - 1)) g1):=fun g1=>by rw [zo1 hL];rfl
         have hgi2:=hgi (fs.set v.toNat (m - 1)) (g++[.lst []]) (.lst (lf'.map .int)) (by simp;omega)
         have hg2:(nH h L (RF h P (fs.set v.toNat (m - 1)) (List.set (g++[O.lst []]) i (O.lst (lf'.map .int))))).set (h.length+P+(3+i)) (.lst ((lf'++L[v.toNat]).map .int))=nH h L (RF h P (fs.set v.toNat (m - 1)) (List.set (g++[O.lst []]) i (O.lst ((lf'++L[v.toNat]).map .int)))):=by
           rw [zo1 hL]
           congr 1
           rw [Nat.add_comm]
           show _ :: _ :: _ :: ((List.set (g++[O.lst []]) i (O.lst (lf'.map .int))).set i _)=_
           rw [List.set_set];rfl
         have ix:ixN fs.length v=some v.toNat:=by
           unfold ixN
           rw [if_pos v0,if_pos (by omega)]
         have r1:=zgP (n:=h.length) (P:=P) v0 v1
         have l1:=hN _ hvL
         have hu:=zsz fs v.toNat (m - 1) (by omega) (by simpa [hAt] using c) (by omega)
         have hlen:lf'.length+1<=300000:=by simp at hμ;omega
         refine ⟨unm (fs.set v.toNat (m - 1)) * (D0+1)+(lf'++L[v.toNat]).length,[some (.int P),some (.obj n),some (.obj (h.length+P)),some (.obj (h.length+P+2)),some (.int m),x5,some (.int k),some (.obj (h.length+P+(3+i))),some (.int v)],nH h L (RF h P (fs.set v.toNat (m - 1)) (List.set (g++[O.lst []]) i (O.lst ((lf'++L[v.toNat]).map .int)))),?_,?_,fs.set v.toNat (m - 1),lf'++L[v.toNat],List.set (g++[O.lst []]) i (O.lst ((lf'++L[v.toNat]).map .int)),some (.int v),rfl,rfl,List.getElem?_set_self (by simp;omega),A.step hL hus hO (by omega) c hvL,rfl,?_⟩
         . rw [hμ,<- hu,Nat.add_mul]
           simp
           omega
         . have nn:lf'.length+L[v.toNat].length<=1000000:=by omega
           have gg:=zo0 (h:=h) (R:=RF h P (fs.set v.toNat (m - 1)) (List.set (g++[O.lst []]) i (O.lst (lf'.map .int)))) hvL
           rw [List.map_append]at hg2
           rw [List.map_set]at hfs
           simp only [zc2,zpc,zqD,zrO,List.getElem?_cons_succ,List.getElem?_cons_zero,zii,zhT,zcW,q1,last1,drop1,p1]
           simp [zct,hf,hfa,c,ix,hfs,hnr,r1,hgi2,zdx,gg,nn,hg2]
         . rw [<- hu,Nat.add_mul]at hμ
           simp at hμ ⊢
           omega
       . have hlen:lf'.length+1<=300000:=by simp at hμ;omega
         refine ⟨unm fs * (D0+1)+lf'.length,[some (.int P),some (.obj n),some (.obj (h.length+P)),some (.obj (h.length+P+2)),some (.int m),x5,some (.int k),some (.obj (h.length+P+(3+i))),some (.int v)],nH h L (RF h P fs (List.set (g++[O.lst []]) i (O.lst (lf'.map .int)))),?_,?_,fs,lf',List.set (g++[O.lst []]) i (O.lst (lf'.map .int)),some (.int v),rfl,rfl,List.getElem?_set_self (by simp;omega),A.skip (by omega),rfl,?_⟩
         . rw [hμ];simp
         . simp only [zc2,zpc,zqD,zrO,List.getElem?_cons_succ,List.getElem?_cons_zero,zii,zhT,zcW,q1,last1,drop1,p1]
           simp [zct,hf,hfa,c]
         . simp at hμ;omega)
   1000000 (unm f0 * (D0+1)+1) _ (nH h L (RF h P f0 g)) (by
     have:unm f0<=P:=by unfold unm;have:=List.countP_le_length (p:=fun x:Int=>decide (x < 0)) (l:=f0);rw [A.len]at this;exact this
     have:unm f0 * (D0+1)<=100 * 1001:=Nat.mul_le_mul (by omega) (by omega)
     omega)
   ⟨f0,[k],g,x8,rfl,rfl,hg,A,rfl,by
     have:unm f0<=P:=by unfold unm;have:=List.countP_le_length (p:=fun x:Int=>decide (x < 0)) (l:=f0);rw [A.len]at this;exact this
     have:unm f0 * (D0+1)<=100 * 1001:=Nat.mul_le_mul (by omega) (by omega)
     omega⟩
 obtain ⟨e2,h2,hw,fs,g',x,rfl,rfl,A2⟩:=hrow
 exact ⟨fs,g',x,by unfold ze3;exact hw,A2⟩
end Mx
end
section
namespace Mx
open MI My
theorem zsX (R:Int->Int->Prop) (k:Nat):cnt R (k+1)=cnt R k+if dcd (New R k)=true then 1 else 0:=by
 unfold cnt
 rw [List.range_succ,List.filter_append,List.length_append]
 congr 1
 by_cases c:dcd (New R k)=true
 . rw [if_pos c];simp [c]
 . rw [if_neg c];simp [c]
structure ze7 (us:List T3) (P k:Nat) (fs:List Int):Prop where
 len:fs.length=P
 met:∀ v,0<=v->v < (P:Int)->(∃ q,0<=q∧q < (k:Int)∧Cn (Et us) q v)->0<=hAt fs v
 not:∀ v,0<=v->v < (P:Int)->¬ (∃ q,0<=q∧q < (k:Int)∧Cn (Et us) q v)->hAt fs v=-1
 same:∀ p q,0<=p->p < (P:Int)->0<=q->q < (P:Int)->Cn (Et us) q p->hAt fs p=hAt fs q
 new:∀ p,0<=p->p < (k:Int)->p < (P:Int)->New (Cn (Et us)) p->hAt fs p=cnt (Cn (Et us)) p.toNat
theorem ze7.old {us:List T3}{P k:Nat}{fs:List Int} (U:ze7 us P k fs) (hk:k < P) (h:0<=hAt fs k):ze7 us P (k+1) fs∧¬ New (Cn (Et us)) k:=by
 have ex:∃ q,0<=q∧q < (k:Int)∧Cn (Et us) q k:=Classical.byContradiction fun z=>by
   have:=U.not k (by omega) (by omega) z;omega
 obtain ⟨q0,a0,a1,a2⟩:=ex
 have nn:¬ New (Cn (Et us)) k:=fun z=>z q0 a0 a1 a2
 have iff:∀ v,(∃ q,0<=q∧q < ((k+1:Nat):Int)∧Cn (Et us) q v)->∃ q,0<=q∧q < (k:Int)∧Cn (Et us) q v:=by
   rintro v ⟨q,b0,b1,b2⟩
   by_cases c:q=k
   . subst c;exact ⟨q0,a0,a1,a2.trans b2⟩
   . exact ⟨q,b0,by omega,b2⟩
 refine ⟨⟨U.len,fun v h0 h1 h2=>U.met v h0 h1 (iff v h2),fun v h0 h1 h2=>U.not v h0 h1 fun ⟨q,b0,b1,b2⟩=>h2 ⟨q,b0,by omega,b2⟩,U.same,fun p h0 h1 h2 h3=>?_⟩,nn⟩
 by_cases c:p=k
 . subst c;exact absurd h3 nn
 . exact U.new p h0 (by omega) h2 h3
theorem ze7.amid {us:List T3}{L:List (List Int)}{P k:Nat}{fs:List Int}{c:Int} (U:ze7 us P k fs) (hk:k < P) (hc:0<=c):zdj us L P k c fs fs [(k:Int)] where
 len:=U.len
 old:=fun _ _ _ _=>rfl
 new:=fun _ _ _ _=> .inl rfl
 lft:=fun v hv=>by simp at hv;subst hv;exact ⟨by omega,by omega,Cn.refl⟩
 clo:=fun v _ _ h1 h2=>by omega
 beg := .inr (by simp)
theorem ze7.add {us:List T3}{L:List (List Int)}{P k:Nat}{f0 fs:List Int} (U:ze7 us P k f0) (hk:k < P) (hL:L.length=P) (hus:∀ t∈us,t.Ok P) (hO:zfJ us L) (h:hAt f0 k < 0) (A:zdj us L P k (cnt (Cn (Et us)) k:Nat) f0 fs []) :
   ze7 us P (k+1) fs∧New (Cn (Et us)) k:=by
 have nw:New (Cn (Et us)) k:=fun q q0 q1 c=>by
   have:=U.met k (by omega) (by omega) ⟨q,q0,q1,c⟩;omega
 have D:=A.done hL hus hO (by omega) (by omega) (by omega) h (fun t ht=>by
   have ok:=hus t ht
   rw [U.same t.b t.a ok.b0 ok.b1 ok.a0 ok.a1 (Cn.edge ⟨t,ht,rfl,rfl⟩)])
 refine ⟨⟨A.len,fun v h0 h1 h2=>?_,fun v h0 h1 h2=>?_,fun p q p0 p1 q0 q1 c=>?_,fun p h0 h1 h2 h3=>?_⟩,nw⟩
 . rcases D v h0 h1 with ⟨_,d,_⟩ | ⟨d,n⟩
   . omega
   . rw [d]
     obtain ⟨q,b0,b1,b2⟩:=h2
     by_cases z:q=k
     . subst z;exact absurd b2 n
     . exact U.met v h0 h1 ⟨q,b0,by omega,b2⟩
 . rcases D v h0 h1 with ⟨_,_,d⟩ | ⟨d,n⟩
   . exact absurd ⟨(k:Int),by omega,by omega,d⟩ h2
   . rw [d]
     exact U.not v h0 h1 fun ⟨q,b0,b1,b2⟩=>h2 ⟨q,b0,by omega,b2⟩
 . rcases D p p0 p1 with ⟨_,d,e⟩ | ⟨d,n⟩
   . rcases D q q0 q1 with ⟨_,d',e'⟩ | ⟨d',n'⟩
     . rw [d,d']
     . exact absurd (e.trans c.symm) n'
   . rcases D q q0 q1 with ⟨_,d',e'⟩ | ⟨d',n'⟩
     . exact absurd (e'.trans c) n
     . rw [d,d'];exact U.same p q p0 p1 q0 q1 c
 . by_cases z:p=k
   . subst z
     rcases D k (by omega) (by omega) with ⟨_,d,_⟩ | ⟨_,n⟩
     . rw [d];simp
     . exact absurd Cn.refl n
   . rcases D p h0 h2 with ⟨_,_,e⟩ | ⟨d,n⟩
     . exact absurd e.symm (nw p h0 (by omega))
     . rw [d];exact U.new p h0 (by omega) h2 h3
theorem zqS {h:MH}{n P:Nat}{us:List T3} (hn:h[n]?=some (.lst (us.map tD))) (hus:∀ t∈us,t.Ok P) (hP:P<=100) (hl:us.length<=100) :
   ∃ hs,app zeL [.int P,.obj n] h = .ok (.obj h.length) (h++[.lst (hs.map .int)])∧zc4 (Cn (Et us)) P hs:=by
 unfold app zeL
 obtain ⟨L,x5,hnear,hL,hO,hN⟩:=zzM hn hus (by omega) (RF h P (List.replicate P (-1)) []) rfl (some (.obj (h.length+P+2))) (some (.int 0)) none none none
 have loop:=zfu (t := .nm 6) (gs:=[]) (body:=(zf (zm (.nm 7) (ifE (tst (bin ltV (bin zi (var 3) (var 6)) (za (.int (0))))) (zH (zbA (zb (var 6) zd))) (zH (zbA zd))))
   (zf (zm (.nm 4) (bin zF (var 4) (zbP (zbN (var 7)))))
   (ze3 (tst (bin neV (var 7) (zH (zbA zd)))) (zf (zm (.nm 8) (zgf (var 7)))
   (ifS (tst (bin ltV (bin zi (var 3) (var 8)) (za (.int (0))))) (zf (zb0 (var 3) (var 8) (bin zQ (var 4) (za (.int (1)))))
   (zbb (zgb (var 7) (bin zi (var 2) (var 8))))) zq)))))) (fun k:Nat=>D.int k)
   (fun d e h'=>∃ fs g x6 x7 x8,e=[some (.int P),some (.obj n),some (.obj (h.length+P)),some (.obj (h.length+P+2)),some (.int (cnt (Cn (Et us)) d.length:Nat)),x5,x6,x7,x8]∧h'=nH h L (RF h P fs g)∧ze7 us P d.length fs) (List.range P) (by
   rintro d k r e h' eq ⟨fs,g,x6,x7,x8,rfl,rfl,U⟩
   refine ⟨rfl,_,rfl,?_⟩
   obtain ⟨hdk,hkP⟩:d.length=k∧k < P:=by
     have h1:(List.range P)[d.length]?=some k:=by rw [<- eq];simp
     have h2:d.length < P:=by have:=(List.getElem?_eq_some_iff.1 h1).1;simpa using this
     rw [List.getElem?_range h2]at h1
     have h3:d.length=k:=by simpa using h1
     exact ⟨h3,by omega⟩
   rw [hdk]at U
   have hfl:=U.len
   have hf:∀ (fs1:List Int) (g1:MH),(nH h L (RF h P fs1 g1))[h.length+P+2]?=some (.lst (fs1.map .int)):=fun fs1 g1=>by rw [zf7 hL];rfl
   have hfa:=zeh (hs:=fs) (i:=(k:Int)) (by omega) (by omega)
   have eapp:∀ o:O,nH h L (RF h P fs g)++[o]=nH h L (RF h P fs (g++[o])):=fun o=>by rw [zib];rfl
   have elen:(nH h L (RF h P fs g)).length=h.length+P+(3+g.length):=by rw [zxm hL];simp [RF];omega
   have eat:∀ o:O,(nH h L (RF h P fs (g++[o])))[h.length+P+(3+g.length)]?=some o:=fun o=>by rw [<- eapp,<- elen];simp
   have hdl:(d++[k]).length=k+1:=by simp [hdk]
   rw [hdl,hdk]
   by_cases c:hAt fs k < 0
   . obtain ⟨fs2,g2,y,hw,A⟩:=zyG (h:=h) (n:=n) (i:=g.length) (x5:=x5) (x8:=x8) (k:=(k:Int)) (m:=(cnt (Cn (Et us)) k:Nat)+1) (D0:=2 * us.length) hL hP hus hO (by omega) hN (by omega) (g:=g++[.lst ([(k:Int)].map .int)]) (by simp) (U.amid hkP (by omega))
     have e1:((cnt (Cn (Et us)) k:Nat):Int)+1 - 1=(cnt (Cn (Et us)) k:Nat):=by omega
     rw [e1]at A
     obtain ⟨U2,nw⟩:=U.add hkP hL hus hO c A
     refine ⟨_,nH h L (RF h P fs2 g2),?_,fs2,g2,some (.int k),some (.obj (h.length+P+(3+g.length))),y,rfl,rfl,U2⟩
     rw [zsX,if_pos (zg8 nw)]
     simp at hw
     simp [zct,hf,hfa,c,eapp,elen,eat,hw]
   . obtain ⟨U2,nn⟩:=U.old hkP (by omega)
     refine ⟨_,nH h L (RF h P fs (g++[.lst [],.lst []])),?_,fs,g++[.lst [],.lst []],some (.int k),some (.obj (h.length+P+(3+g.length))),x8,rfl,rfl,U2⟩
     rw [zsX,if_neg (fun z=>nn (zqu.1 z))]
     have q1:(nH h L (RF h P fs (g++[.lst [],.lst []])))[h.length+P+(3+g.length)]?=some (.lst (([]:List Int).map .int)):=by
       rw [zf7 hL,Nat.add_comm]
       show (g++[.lst [],.lst []]:MH)[g.length]?=_
       simp
     have eapp2:nH h L (RF h P fs (g++[.lst []]))++[.lst []]=nH h L (RF h P fs (g++[.lst [],.lst []])):=by rw [zib];simp [RF]
     have q2:(nH h L (RF h P fs (g++[.lst [],.lst []])))[(nH h L (RF h P fs (g++[.lst []]))).length]?=some (.lst []):=by rw [<- eapp2];simp
     have hw:∀ (e:zw) (B:MS),e[7]?=some (some (.obj (h.length+P+(3+g.length))))->ze3 (tst (bin neV (var 7) (zH (zbA zd)))) B e (nH h L (RF h P fs (g++[.lst []]))) = .nx e (nH h L (RF h P fs (g++[.lst [],.lst []]))):=by
       intro e B he
       unfold ze3
       rw [show (1000000:Nat)=999999+1 from rfl,zfG,zd7]
       simp [he,eapp2,zsg q1 q2]
     simp [zct,hf,hfa,c,eapp,elen,eat]
     rw [hw _ _ rfl])
   (fun _ _ _=>rfl) [some (.int P),some (.obj n),some (.obj (h.length+P)),some (.obj (h.length+P+2)),some (.int 0),x5,none,none,none] (nH h L (RF h P (List.replicate P (-1)) []))
     ⟨List.replicate P (-1),[],none,none,none,by simp [cnt],rfl,⟨by simp,fun v _ _ ⟨q,a,b,_⟩=>by simp at b;omega,fun v h0 h1 _=>by simp [hAt];rw [List.getElem?_replicate,if_pos (by omega)];rfl,fun p q p0 p1 q0 q1 _=>by simp [hAt];rw [List.getElem?_replicate,List.getElem?_replicate,if_pos (by omega),if_pos (by omega)],fun p h0 h1=>by simp at h1;omega⟩⟩
 obtain ⟨e2,h2,hr,fs,g,x6,x7,x8,rfl,rfl,U⟩:=loop
 simp only [List.length_range]at U hr
 refine ⟨fs,?_,U.len,fun p q h0 h1 h2 c=>U.same p q (by omega) h2 h0 (by omega) c,fun p h0 h1 hn=>U.new p h0 h1 h1 hn⟩
 have cn:=zox (h:=h) (gs:=[]) (fun _=>rfl) (List.range P) 0 [] none
 have q:(-1000000:Int)<=P∧(P:Int)<=1000000:=by omega
 have q3:P<=1000000:=by omega
 have hfl:(List.replicate P [D.int (-1)]).flatten=(List.replicate P (-1:Int)).map .int:=by
   clear hr U cn hnear hL hO hN hP hus q q3
   induction P with
   | zero=>rfl
   | succ n ih=>simp [List.replicate_succ]at ih ⊢
 have eH:((h++List.replicate P (O.lst []))++[O.lst ((List.range P).map fun k=>D.obj (h.length+k))])++[O.lst [.int (-1)],O.lst (List.replicate P (D.int (-1)))]=nH h (List.replicate P []) (RF h P (List.replicate P (-1)) []):=by simp [nH,RF,zcU]
 have eL:(h++List.replicate P (O.lst [])).length=h.length+P:=by simp
 have eL2:((h++List.replicate P (O.lst []))++[O.lst ((List.range P).map fun k=>D.obj (h.length+k))]).length+1=h.length+P+2:=by simp;omega
 simp at cn
 simp [zb6,q,q3]
 rw [cn]
 simp only [zii,zhT,eL,eL2,eH]
 have hn2:∀ L R,(nH h L R)[n]?=some (.lst (us.map tD)):=fun L R=>zoy hn
 simp [hn2,hnear,q]
 rw [hr]
 simp
 have:=zoL h (L.map (fun l=>O.lst (l.map .int))++RF h P fs g) (k:=P+2) (xs:=fs.map .int) (by rw [List.getElem?_append_right (by simp;omega)];simp [hL,RF]) (zhf fs)
 simpa [nH,Nat.add_assoc] using this
end Mx
end
section
namespace Mx
open MI My
theorem zn3:∀ (xs ys:List Int),zbT (xs.map .int) (ys.map .int)=decide (xs=ys)
 | [],[]=>by simp [zbT]
 | [],_ :: _=>by simp [zbT]
 | _ :: _,[]=>by simp [zbT]
 | x :: xs,y :: ys=>by
   simp only [List.map_cons,zbT,zn3 xs ys,zBz]
   by_cases c:x=y
   . subst c;simp
   . simp [c]
theorem zh2 {h:MH}{n:Nat}{xs:List Int} (hn:h[n]?=some (.lst (xs.map .int))):zcb h (.obj n)=some (.l (xs.map .int)):=by
 unfold zcb
 have pl:(xs.map D.int).all (D.pl 5)=true:=by simp [D.pl]
 simp only [hn,pl,if_pos]
theorem zhz {h:MH}{n m:Nat}{xs ys:List Int} (hn:h[n]?=some (.lst (xs.map .int))) (hm:h[m]?=some (.lst (ys.map .int))) (e:zw):neV (.obj n) (.obj m) e h = .ok (.bl (!decide (xs=ys))) h:=by
 unfold neV
 rw [zh2 hn,zh2 hm]
 simp [Cmp.eq,zn3]
theorem zzo {h:MH}{n m:Nat}{xs ys:List Int} (hn:h[n]?=some (.lst (xs.map .int))) (hm:h[m]?=some (.lst (ys.map .int))) (e:zw):eqV (.obj n) (.obj m) e h = .ok (.bl (decide (xs=ys))) h:=by
 unfold eqV
 rw [zh2 hn,zh2 hm]
 simp [Cmp.eq,zn3]
def zev (K:List Int):Bool:=(K.zip (K.drop 1)).all fun p=>decide (p.1 < p.2)
theorem zpb:∀ K:List Int,zev K=true↔K.Pairwise (· < ·)
 | []=>by simp [zev]
 | [x]=>by simp [zev]
 | x :: y :: K=>by
   have ih:=zpb (y :: K)
   have e:zev (x :: y :: K)=(decide (x < y) && zev (y :: K)):=by simp [zev]
   rw [e,Bool.and_eq_true,decide_eq_true_eq,ih]
   constructor
   . rintro ⟨h1,h2⟩
     refine List.pairwise_cons.2 ⟨fun z hz=>?_,h2⟩
     rcases List.mem_cons.1 hz with rfl | hz
     . exact h1
     . have:=(List.pairwise_cons.1 h2).1 z hz;omega
   . intro h
     exact ⟨(List.pairwise_cons.1 h).1 y (by simp),(List.pairwise_cons.1 h).2⟩
theorem zCb {x:Int}:∀ {l:List Int},(∀ y∈l,x<=y)->zcl x l=x :: l
 | [],_=>rfl
 | y :: l,h=>by unfold zcl;rw [if_pos (h y (by simp))]
theorem zru:∀ {l:List Int},l.Pairwise (· < ·)->sortI l=l
 | [],_=>rfl
 | x :: l,h=>by
   obtain ⟨h1,h2⟩:=List.pairwise_cons.1 h
   have ih:=zru h2
   unfold sortI at ih ⊢
   rw [List.foldr_cons,ih]
   exact zCb fun y hy=>by have:=h1 y hy;omega
theorem zrJ:∀ (l seen:List Int),l.Nodup->(∀ x∈l,x∉seen)->zY seen l=l
 | [],_,_,_=>rfl
 | x :: l,seen,h,hs=>by
   obtain ⟨h1,h2⟩:=List.nodup_cons.1 h
   unfold zY
   rw [if_neg (hs x (by simp)),zrJ l (x :: seen) h2 fun y hy z=>?_]
   rcases List.mem_cons.1 z with rfl | z
   . exact h1 hy
   . exact hs y (by simp [hy]) z
theorem zxr {l:List Int} (h:l.Pairwise (· < ·)):l.Nodup:=h.imp fun h=>by omega
theorem zsV (K:List Int):K=sortI (zY [] K)↔K.Pairwise (· < ·):=by
 constructor
 . intro h;rw [h];exact zn2 (ze5 _ _)
 . intro h
   rw [zrJ K [] (zxr h) (by simp),zru h]
theorem zFe (K:List Int):(K.map D.int).zip ((K.drop 1).map D.int)=(K.zip (K.drop 1)).map fun p=>(D.int p.1,D.int p.2):=by
 rw [List.zip_map];rfl
theorem zAY (l:List Int):MI.cut (l.map D.int) (some 1) none=(l.drop 1).map D.int:=by
 unfold MI.cut sIx
 simp
 cases l with
 | nil=>rfl
 | cons a l =>
   have e:min (1:Int) (↑l.length+1)=1:=by omega
   simp [e,List.take_of_length_le]
@[simp] theorem zEv (a b:ME D) (e:zw) (h:MH):itZ a b e h=zu (a e h) fun x h1=>zu (b e h1) fun y h2=>match x,y with
 | .obj n,.obj m=>(match h2[n]?,h2[m]? with
   | some (.lst xs),some (.lst ys)=> .ok (zcP xs ys,[(n,.lst xs),(m,.lst ys)]) h2
   | _,_=> .bad)
 | _,_=> .bad:=by
 unfold itZ;simp only [zL];congr 1;funext x h1;congr 1;funext y h2
 cases x <;> cases y <;> rfl
theorem zoS:∀ (xs ys:List Int),zcP (xs.map .int) (ys.map .int)=(xs.zip ys).map fun p=> .tup [.int p.1,.int p.2]
 | [],ys=>by cases ys <;> rfl
 | _ :: _,[]=>rfl
 | x :: xs,y :: ys=>by simp [zcP,zoS xs ys]
theorem zep {h:MH}{l:Nat}{K:List Int} (hl:h[l]?=some (.lst (K.map .int))) (hK:K.length<=1000) (c:Int):app zfT [.obj l,.int c] h = .ok (.bl (K.all (fun x=>decide (0<=x) && decide (x<=c - 1)) && zev K)) h:=by
 unfold app zfT
 have c1:=zfv (t := .nm 0) (gs:=[(l,.lst (K.map .int))]) (elt:=(zh zcL (zb (var 0) (zb (za (.int (0))) (zb (bin zQ (var 1) (za (.int (1)))) zd))))) (h:=h) D.int (fun x:Int=>D.bl (decide (0<=x) && decide (x<=c - 1))) (fun e=>∃ d,e=[d,some (.int c)]) (zdA hl) K (by
   rintro x _ _ ⟨d,rfl⟩
   exact ⟨_,rfl,⟨_,rfl⟩,by simp⟩) [none,some (.int c)] ⟨_,rfl⟩
 have c2:=zfv (t := .tp [0,1]) (gs:=[(l,.lst (K.map .int)),(h.length,.lst ((K.drop 1).map .int))]) (elt:=(bin ltV (var 0) (var 1))) (h:=h++[.lst ((K.drop 1).map .int)]) (fun p:Int×Int=>D.tup [.int p.1,.int p.2]) (fun p:Int×Int=>D.bl (decide (p.1 < p.2))) (fun e=>∃ d d',e=[d,d']) (by simp [MI.guard,zN hl]) (K.zip (K.drop 1)) (by
   rintro ⟨x,y⟩ _ _ ⟨d,d',rfl⟩
   exact ⟨_,rfl,⟨_,_,rfl⟩,by simp⟩) [none,none] ⟨_,_,rfl⟩
 have b1:=zgQ (K.map fun x=>decide (0<=x) && decide (x<=c - 1))
 have b2:=zgQ ((K.zip (K.drop 1)).map fun p=>decide (p.1 < p.2))
 rw [List.map_map]at b1 b2
 have q:K.length<=1000000:=by omega
 have q2:(K.drop 1).length<=1000000:=by simp;omega
 have q3:(zcP (K.map .int) ((K.drop 1).map .int)).length<=1000000:=by rw [zoS];simp;omega
 have f1:(fun x:Int=>D.bl (decide (0<=x) && decide (x<=c - 1)))=D.bl ∘ fun x=>decide (0<=x) && decide (x<=c - 1):=rfl
 have f2:(fun p:Int×Int=>D.bl (decide (p.1 < p.2)))=D.bl ∘ fun p=>decide (p.1 < p.2):=rfl
 rw [f1]at c1
 rw [f2,<- zoS]at c2
 have ea:(K.map fun x=>decide (0<=x) && decide (x<=c - 1)).all id=K.all fun x=>decide (0<=x) && decide (x<=c - 1):=by simp [List.all_map,Function.comp_def]
 have eb:((K.zip (K.drop 1)).map fun p=>decide (p.1 < p.2)).all id=zev K:=by simp [zev,List.all_map,Function.comp_def]
 rw [<- ea,<- eb]
 generalize hb1:(K.map fun x=>decide (0<=x) && decide (x<=c - 1))=B1 at *
 generalize hb2:((K.zip (K.drop 1)).map fun p=>decide (p.1 < p.2))=B2 at *
 have g1:(h++[O.lst ((K.drop 1).map .int)])[l]?=some (.lst (K.map .int)):=zN hl _
 have z:=zAY K
 cases hb:B1.all id with
 | false=>simp [hl,zdm,zb6,q,c1,b1,hb]
 | true =>
   have et:(K.drop 1).map D.int=(K.map D.int).tail:=by simp
   rw [et]at g1 q3 c2 z
   simp [hl,zdm,zb6,q,c1,b1,hb,zcc,z]
   rw [g1]
   have ed:K.drop 1=K.tail:=by simp
   rw [ed]at c2 b2
   simp [q3,c2,b2]
   exact zd9 h _ _
end Mx
end
section
namespace Mx
open MI My
theorem zc4.congr {R R':Int->Int->Prop}{P:Nat}{hs:List Int} (h:∀ p q,0<=p->p < (P:Int)->0<=q->q < (P:Int)->(R p q↔R' p q)) (c:zc4 R P hs):zc4 R' P hs where
 len:=c.len
 old:=fun p q h0 h1 h2 r=>c.old p q h0 h1 h2 ((h q p h0 (by omega) (by omega) h2).2 r)
 new:=fun p h0 h1 hn=>by
   have nw:∀ r:Int,0<=r->r < (P:Int)->(New R r↔New R' r):=fun r r0 r1 =>
     ⟨fun z q q0 q1 s=>z q q0 q1 ((h q r q0 (by omega) r0 r1).2 s),fun z q q0 q1 s=>z q q0 q1 ((h q r q0 (by omega) r0 r1).1 s)⟩
   rw [c.new p h0 h1 ((nw p h0 h1).2 hn)]
   have:cnt R p.toNat=cnt R' p.toNat:=by
     unfold cnt
     congr 1
     apply List.filter_congr
     intro r hr
     have:=List.mem_range.1 hr
     have:=nw r (by omega) (by omega)
     rw [propext this]
   rw [this]
def zbG (ts:List T3) (P:Nat) (K hs:List Int):Prop :=
 K.Pairwise (· < ·)∧(∀ x∈K,0<=x∧x < (ts.length:Int))∧zc4 (Cn (Ed ts (List.range ts.length))) P hs∧zc4 (Cn (Ed ts (K.map Int.toNat))) P hs∧(K.length:Int)=P - zco hs
theorem zhu {R:Int->Int->Prop}{P:Nat}{hs hs':List Int} (c:zc4 R P hs'):zc4 R P hs↔hs=hs':=⟨fun h=>h.unique c,fun h=>h ▸ c⟩
theorem zBa {K:List Int} (h:∀ x∈K,0<=x):(K.map Int.toNat).map (fun k:Nat=>D.int (k:Nat))=K.map .int:=by
 rw [List.map_map]
 apply List.map_congr_left
 intro x hx
 have:=h x hx
 show D.int ((x.toNat:Nat):Int) = .int x
 rw [Int.toNat_of_nonneg this]
theorem zob {h:MH}{w t c P:Nat}{turn:Int}{ts:List T3} (W:zbR h w t P turn ts) (hts:∀ t∈ts,t.Ok P) (hP0:1<=P) (hP:P<=400000) {cs:List Nat} (hc:h[c]?=some (.lst (cs.map fun k=> .int (k:Nat)))) (hcs:∀ k∈cs,k < ts.length) (hcl:cs.length<=100000) :
   ∃ A ρ hs,app zdI [.obj w,.obj c] h = .ok (.obj h.length) (h++[.dic (A.map eD)])∧(∀ g,app zdJ [.obj w,.obj h.length] (h ++ .dic (A.map eD) :: g) = .ok (.obj (h ++ .dic (A.map eD) :: g).length) ((h ++ .dic (A.map eD) :: g)++[.lst (hs.map .int)]))∧zc4 (Cn (Ed ts cs)) P hs ∧
     zcK ts cs A ρ∧(∀ p,0<=p->p < (P:Int)->p∈zj A)∧(∀ p∈zj A,0<=p∧p < (P:Int))∧zfD hs A:=by
 obtain ⟨A,ρ,hra,F,hall,hrn⟩:=zfn W hts hP0 hP hc hcs hcl
 obtain ⟨hs,hpn,hl,N⟩:=zeR (W.app [.dic (A.map eD)]) hP (q:=h.length) (by simp) F.bld hrn
 refine ⟨A,ρ,hs,hra,fun g=>?_,zou F hts hall hrn N hl,F,hall,hrn,N⟩
 obtain ⟨hs',hpn',hl',N'⟩:=zeR (W.app (.dic (A.map eD) :: g)) hP (q:=h.length) (by simp) F.bld hrn
 have:=(zou F hts hall hrn N hl).unique (zou F hts hall hrn N' hl')
 rw [this];exact hpn'
@[simp] theorem lk5 (a b:D):List.lookup 5 [(5,a),(6,b)]=some a:=rfl
@[simp] theorem lk6 (a b:D):List.lookup 6 [(5,a),(6,b)]=some b:=rfl
theorem zsF {ts:List T3}{P:Nat}{K hs hs1:List Int} (c1:zc4 (Cn (Ed ts (List.range ts.length))) P hs1) {hs2:List Int} (c2:(∀ x∈K,0<=x∧x < (ts.length:Int))->zc4 (Cn (Ed ts (K.map Int.toNat))) P hs2) :
   zbG ts P K hs↔K.Pairwise (· < ·)∧(∀ x∈K,0<=x∧x < (ts.length:Int))∧hs=hs1∧hs=hs2∧(K.length:Int)=P - zco hs:=by
 unfold zbG
 constructor
 . rintro ⟨a,b,c,d,e⟩;exact ⟨a,b,(zhu c1).1 c,(zhu (c2 b)).1 d,e⟩
 . rintro ⟨a,b,c,d,e⟩;exact ⟨a,b,(zhu c1).2 c,(zhu (c2 b)).2 d,e⟩
theorem zfo {h:MH}{w t r a b P:Nat}{turn:Int}{ts:List T3} (W:zbR h w t P turn ts) (hts:∀ t∈ts,t.Ok P) (hP0:1<=P) (hP:P<=100) (hn:ts.length<=100) {K hs:List Int} (hr:h[r]?=some (.ins 4 [(5,.obj a),(6,.obj b)])) (ha:h[a]?=some (.lst (K.map .int))) (hb:h[b]?=some (.lst (hs.map .int)))
   (hK:K.length<=200) (hhs:hs.length<=200):app zgo [.obj r,.obj w] h = .ok (.bl (dcd (zbG ts P K hs))) h:=by
 unfold app zgo
 have hti:=zds W
 have ar:=zep (h:=h++[.lst (ts.map tD)]) (zN ha _) (by omega) (ts.length:Int)
 have an:=zeN (h:=h++[.lst (ts.map tD)]) (zN hb _) (by omega) (P:Int)
 have allr:(K.all fun x=>decide (0<=x) && decide (x<=(ts.length:Int) - 1))=true↔∀ x∈K,0<=x∧x < (ts.length:Int):=by
   simp only [List.all_eq_true,Bool.and_eq_true,decide_eq_true_eq]
   constructor
   . intro z x hx;have:=z x hx;omega
   . intro z x hx;have:=z x hx;omega
 by_cases c0:((K.all fun x=>decide (0<=x) && decide (x<=(ts.length:Int) - 1)) && zev K)=true
 . rw [c0]at ar
   rw [Bool.and_eq_true,allr,zpb]at c0
   obtain ⟨hin,hasc⟩:=c0
   by_cases cl:(hs.length:Int)=P
   . rw [decide_eq_true cl]at an
     have het:=zeO (W.app [.lst (ts.map tD)]) (by omega)
     obtain ⟨A,ρ,hs1,ra1,pn1,cn1,_⟩:=zob (W.app [.lst (ts.map tD),.lst ((List.range ts.length).map fun k=> .int (k:Nat))]) hts hP0 (by omega) (c:=h.length+1) (cs:=List.range ts.length) (by rw [zb5];rfl) (fun k hk=>List.mem_range.1 hk) (by simp;omega)
     have pn1:=pn1 []
     have hbA:∀ g,(h++g)[b]?=some (.lst (hs.map .int)):=zN hb
     have haA:∀ g,(h++g)[a]?=some (.lst (K.map .int)):=zN ha
     have hrA:∀ g,(h++g)[r]?=some (.ins 4 [(5,.obj a),(6,.obj b)]):=zN hr
     have n1:=zhz (m:=h.length+3) (ys:=hs1) (hbA [.lst (ts.map tD),.lst ((List.range ts.length).map fun k=> .int (k:Nat)),.dic (A.map eD),.lst (hs1.map .int)]) (by rw [zb5];rfl)
     obtain ⟨A2,ρ2,hs2,ra2,pn2,cn2,_⟩:=zob (W.app [.lst (ts.map tD),.lst ((List.range ts.length).map fun k=> .int (k:Nat)),.dic (A.map eD),.lst (hs1.map .int)]) hts hP0 (by omega) (c:=a) (cs:=K.map Int.toNat) (by rw [zBa fun x hx=>(hin x hx).1];exact zN ha _) (fun k hk=>by
       obtain ⟨x,hx,rfl⟩:=List.mem_map.1 hk
       have:=hin x hx;omega) (by simp;omega)
     have pn2:=pn2 []
     have n2:=zhz (m:=h.length+5) (ys:=hs2) (hbA [.lst (ts.map tD),.lst ((List.range ts.length).map fun k=> .int (k:Nat)),.dic (A.map eD),.lst (hs1.map .int),.dic (A2.map eD),.lst (hs2.map .int)]) (by rw [zb5];rfl)
     have fb:=zsF (K:=K) (hs:=hs) cn1 (fun _=>cn2)
     have ii:=zhj hs
     have h4:hs.length < 4000:=by omega
     simp at het ra1 pn1 ra2 pn2
     by_cases d1:hs=hs1
     . rw [decide_eq_true d1]at n1
       by_cases d2:hs=hs2
       . have ef:dcd (zbG ts P K hs)=decide ((K.length:Int)=P - zco hs):=by
           by_cases z:(K.length:Int)=P - zco hs
           . rw [decide_eq_true z];exact zg8 (fb.2 ⟨hasc,hin,d1,d2,z⟩)
           . rw [decide_eq_false z];exact zdw fun q=>z (fb.1 q).2.2.2.2
         rw [ef]
         rw [decide_eq_true d2]at n2
         simp [hr,W.w,zcT,hti,ar,hrA,W.wA,an,het,ra1,pn1,n1,ra2,pn2,n2,haA,hbA,ii,h4,zcc]
         exact zd9 h _ _
       . have nf:¬ zbG ts P K hs:=fun z=>d2 (fb.1 z).2.2.2.1
         rw [zdw nf]
         rw [decide_eq_false d2]at n2
         simp [hr,W.w,zcT,hti,ar,hrA,W.wA,an,het,ra1,pn1,n1,ra2,pn2,n2]
         exact zd9 h _ _
     . have nf:¬ zbG ts P K hs:=fun z=>d1 (fb.1 z).2.2.1
       rw [zdw nf]
       rw [decide_eq_false d1]at n1
       simp [hr,W.w,zcT,hti,ar,hrA,W.wA,an,het,ra1,pn1,n1]
       exact zd9 h _ _
   . rw [decide_eq_false cl]at an
     have nf:¬ zbG ts P K hs:=fun z=>cl (by have:=z.2.2.1.len;omega)
     rw [zdw nf]
     simp [hr,W.w,zcT,hti,ar,zN hr,W.wA,an]
     exact zd9 h _ _
 . have nf:¬ zbG ts P K hs:=fun z=>c0 (by rw [Bool.and_eq_true,allr,zpb];exact ⟨z.2.1,z.1⟩)
   rw [Bool.not_eq_true]at c0
   rw [c0]at ar
   rw [zdw nf]
   simp [hr,W.w,zcT,hti,ar]
   exact zd9 h _ _
end Mx
end
section
namespace Mx
open MI My
@[simp] theorem zDY (l:ME (List D)) (e:zw) (h:MH):zix l e h=zu (l e h) fun xs h1=>match zb4 xs with
 | some ns=>if ns.length < 64 then .ok ((sortI (zY [] ns)).map .int) h1 else .bad
 | none=> .bad:=by unfold zix;rw [zL];congr 1;funext x h1;cases hh:zb4 x <;> simp [hh];split <;> rfl
theorem zAt {ts:List T3}:Cn (Et ts)=Cn (Ed ts (List.range ts.length)):=Cn.eq
 (fun a b ⟨t,ht,e1,e2⟩=>by
   obtain ⟨k,hk,e⟩:=List.mem_iff_getElem.1 ht
   exact .inl ⟨k,List.mem_range.2 hk,t,by rw [<- e];exact List.getElem?_eq_getElem hk,e1,e2⟩)
 (fun a b ⟨k,_,t,e,e1,e2⟩=> .inl ⟨t,List.mem_of_getElem? e,e1,e2⟩)
def zft (n x:Int):Bool:=!(decide (0<=x) && decide (x < n))
def zfr (ts:List T3) (K:List Int):List T3:=K.map fun x=>ts.getD x.toNat ⟨0,0,0⟩
theorem zph {ts:List T3}{x:Int} (h:0<=x∧x < (ts.length:Int)):ts[x.toNat]?=some (ts.getD x.toNat ⟨0,0,0⟩):=by
 have hx:x.toNat < ts.length:=by omega
 simp [hx]
theorem zBe {ts:List T3}{K:List Int} (hin:∀ x∈K,0<=x∧x < (ts.length:Int)):Cn (Et (zfr ts K))=Cn (Ed ts (K.map Int.toNat)):=Cn.eq
 (fun a b ⟨t,ht,e1,e2⟩=>by
   obtain ⟨x,hx,rfl⟩:=List.mem_map.1 ht
   exact .inl ⟨x.toNat,List.mem_map.2 ⟨x,hx,rfl⟩,_,zph (hin x hx),e1,e2⟩)
 (fun a b ⟨k,hk,t,e,e1,e2⟩=>by
   obtain ⟨x,hx,rfl⟩:=List.mem_map.1 hk
   rw [zph (hin x hx)]at e
   cases e
   exact .inl ⟨_,List.mem_map.2 ⟨x,hx,rfl⟩,e1,e2⟩)
theorem zBD {h:MH}{n r a b P:Nat}{ts:List T3} (hn:h[n]?=some (.lst (ts.map tD))) (hts:∀ t∈ts,t.Ok P) (hP:P<=100) (hl:ts.length<=100) {K hs:List Int} (hr:h[r]?=some (.ins 4 [(5,.obj a),(6,.obj b)])) (ha:h[a]?=some (.lst (K.map .int))) (hb:h[b]?=some (.lst (hs.map .int)))
   (hK:K.length < 64) (hhs:hs.length<=200):app zcm [.int P,.obj n,.obj r] h = .ok (.bl (dcd (zbG ts P K hs))) h:=by
 unfold app zcm
 obtain ⟨hs1,p1,cn1⟩:=zqS hn hts hP hl
 rw [zAt]at cn1
 have hbA:∀ g,(h++g)[b]?=some (.lst (hs.map .int)):=zN hb
 have haA:∀ g,(h++g)[a]?=some (.lst (K.map .int)):=zN ha
 have hrA:∀ g,(h++g)[r]?=some (.ins 4 [(5,.obj a),(6,.obj b)]):=zN hr
 have hnA:∀ g,(h++g)[n]?=some (.lst (ts.map tD)):=zN hn
 have n1:=zhz (m:=h.length) (ys:=hs1) (hbA [.lst (hs1.map .int)]) (by simp)
 have n2:=zhz (m:=h.length+1) (ys:=sortI (zY [] K)) (haA [.lst (hs1.map .int),.lst ((sortI (zY [] K)).map .int)]) (by rw [zb5];rfl)
 have iK:=zhj K
 have i1:=zhj hs1
 have l1:hs1.length < 4000:=by rw [cn1.len];omega
 have fb1:zbG ts P K hs->hs=hs1:=fun z=>(zhu cn1).1 z.2.2.1
 by_cases d1:hs=hs1
 . rw [decide_eq_true d1]at n1
   by_cases d2:K=sortI (zY [] K)
   . rw [decide_eq_true d2]at n2
     have hasc:=(zsV K).1 d2
     have c1:=zfv (t := .nm 0) (gs:=[(a,.lst (K.map .int))]) (elt:=(un zfC (zgm leV ltV (za (.int (0))) (var 0) (zbP (zbN (var 1)))))) (h:=h++[.lst (hs1.map .int),.lst ((sortI (zY [] K)).map .int)]) D.int (D.bl ∘ zft ts.length) (fun e=>∃ d,e=[d,some (.obj n)]) (zdA (haA _)) K (by
       rintro x _ _ ⟨d,rfl⟩
       refine ⟨_,rfl,⟨_,rfl⟩,?_⟩
       by_cases q:0<=x
       . simp [q,hnA,zft]
       . simp [q,zft]) [none,some (.obj n)] ⟨_,rfl⟩
     have b1:=zgQ (K.map (zft ts.length))
     rw [List.map_map]at b1
     have q:K.length<=1000000:=by omega
     generalize hB:K.map (zft ts.length)=B at b1
     by_cases hin:∀ x∈K,0<=x∧x < (ts.length:Int)
     . have bf:B.any id=false:=by
         rw [<- hB]
         simp only [List.any_map,List.any_eq_false]
         intro x hx
         have:=hin x hx
         simp [zft,this]
       by_cases d3:(K.length:Int)=P - zco hs1
       . have hus:∀ t∈zfr ts K,t.Ok P:=fun t ht=>by
           obtain ⟨x,hx,rfl⟩:=List.mem_map.1 ht
           exact hts _ (List.mem_of_getElem? (zph (hin x hx)))
         have c2:=zfv (t := .nm 0) (gs:=[(a,.lst (K.map .int))]) (elt:=(bin zi (var 1) (var 0))) (h:=h++[.lst (hs1.map .int),.lst ((sortI (zY [] K)).map .int)]) D.int (fun x:Int=>tD (ts.getD x.toNat ⟨0,0,0⟩)) (fun e=>∃ d,e=[d,some (.obj n)]) (zdA (haA _)) K (by
           rintro x hx _ ⟨d,rfl⟩
           refine ⟨_,rfl,⟨_,rfl⟩,?_⟩
           obtain ⟨x0,x1⟩:=hin x hx
           have e1:MI.atI (ts.map tD) x=some (tD (ts.getD x.toNat ⟨0,0,0⟩)):=by
             obtain ⟨k,rfl⟩:∃ k:Nat,x=k:=⟨x.toNat,by omega⟩
             have hk:k < ts.length:=by omega
             rw [zgW (by simpa using hk)]
             simp [hk]
           simp [zct,hnA,e1]) [none,some (.obj n)] ⟨_,rfl⟩
         have eu:K.map (fun x:Int=>tD (ts.getD x.toNat ⟨0,0,0⟩))=(zfr ts K).map tD:=by simp [zfr]
         rw [eu]at c2
         obtain ⟨hs2,p2,cn2⟩:=zqS (h:=h++[.lst (hs1.map .int),.lst ((sortI (zY [] K)).map .int),.lst ((zfr ts K).map tD)]) (n:=h.length+2) (us:=zfr ts K) (by rw [zb5];rfl) hus hP (by simp [zfr];omega)
         rw [zBe hin]at cn2
         have n3:=zzo (n:=h.length+3) (m:=h.length) (xs:=hs2) (ys:=hs1) (h:=h++[.lst (hs1.map .int),.lst ((sortI (zY [] K)).map .int),.lst ((zfr ts K).map tD),.lst (hs2.map .int)]) (by rw [zb5];rfl) (by simp)
         have ef:dcd (zbG ts P K hs)=decide (hs2=hs1):=by
           have fb:=zsF (K:=K) (hs:=hs) cn1 (fun _=>cn2)
           by_cases z:hs2=hs1
           . rw [decide_eq_true z];exact zg8 (fb.2 ⟨hasc,hin,d1,d1.trans z.symm,by rw [d1];exact d3⟩)
           . rw [decide_eq_false z];exact zdw fun y=>z ((fb.1 y).2.2.2.1.symm.trans d1)
         rw [ef]
         have d3':(K.length:Int)=P - ((zY [] hs1).length:Nat):=d3
         simp at p2
         simp [p1,hrA,n1,haA,hbA,zcc,iK,hK,n2,zb6,q,c1,b1,bf,i1,l1,d3',c2,p2,n3]
         exact zd9 h _ _
       . have nf:¬ zbG ts P K hs:=fun z=>d3 (by have:=z.2.2.2.2;rw [d1]at this;exact this)
         rw [zdw nf]
         have d3':¬ (K.length:Int)=P - ((zY [] hs1).length:Nat):=d3
         simp [p1,hrA,n1,haA,hbA,zcc,iK,hK,n2,zb6,q,c1,b1,bf,i1,l1,d3']
         exact zd9 h _ _
     . have nf:¬ zbG ts P K hs:=fun z=>hin z.2.1
       rw [zdw nf]
       have bt:B.any id=true:=by
         rw [<- hB,List.any_map,List.any_eq_true]
         obtain ⟨x,hx⟩:∃ x,¬ (x∈K->0<=x∧x < (ts.length:Int)):=Classical.byContradiction fun z=>hin fun x=>Classical.byContradiction fun y=>z ⟨x,y⟩
         have hx1:x∈K:=Classical.byContradiction fun y=>hx fun w=>absurd w y
         refine ⟨x,hx1,?_⟩
         have hx2:¬ (0<=x∧x < (ts.length:Int)):=fun y=>hx fun _=>y
         show zft ts.length x=true
         unfold zft
         rw [Bool.not_eq_true',Bool.and_eq_false_iff]
         by_cases y:0<=x
         . exact .inr (decide_eq_false fun w=>hx2 ⟨y,w⟩)
         . exact .inl (decide_eq_false y)
       simp [p1,hrA,n1,haA,hbA,zcc,iK,hK,n2,zb6,q,c1,b1,bt]
       exact zd9 h _ _
   . have nf:¬ zbG ts P K hs:=fun z=>d2 ((zsV K).2 z.1)
     rw [zdw nf]
     rw [decide_eq_false d2]at n2
     simp [p1,hrA,n1,haA,hbA,zcc,iK,hK,n2]
     exact zd9 h _ _
 . have nf:¬ zbG ts P K hs:=fun z=>d1 (fb1 z)
   rw [zdw nf]
   rw [decide_eq_false d1]at n1
   simp [p1,hrA,n1]
   exact zd9 h _ _
end Mx
end
section
namespace Mx
open MI My
theorem zcK.cnT {ts:List T3}{cs:List Nat}{A:List En}{ρ:Int->Int} (F:zcK ts cs A ρ) {X:Int->Prop} (hX:∀ a b,Ed ts (zbg A) a b->(X a↔X b)):∀ p∈zj A,(X p↔X (ρ p)):=by
 have key:∀ A',zcd ts cs A'->(∀ e∈A',e∈A)->∀ p∈zj A',(X p↔X (ρ p)):=by
   intro A' B
   induction B with
   | nil=>intro _ p hp;simp at hp
   | @root A' p B hb ih =>
     intro hs x hx
     simp at hx
     rcases hx with hx | rfl
     . exact ih (fun e he=>hs e (by simp [he])) x hx
     . rw [F.rt (x,none) (hs _ (by simp)) rfl]
   | @step A' s t B hl hk ha hb ih =>
     intro hs x hx
     simp at hx
     rcases hx with hx | rfl
     . exact ih (fun e he=>hs e (by simp [he])) x hx
     . have haA:t.a∈zj A:=by
         obtain ⟨e,he,h2⟩:=List.mem_map.1 ha
         exact List.mem_map.2 ⟨e,hs e (by simp [he]),h2⟩
       have hkk:s.k∈zbg A:=ziB.2 ⟨(t.b,some s),hs _ (by simp),s,rfl,rfl⟩
       have r1:=F.rho s t hk hl haA
       have r2:=ih (fun e he=>hs e (by simp [he])) t.a ha
       rw [<- r1,<- r2]
       rcases zsb hkk hl with z | z
       . exact (hX _ _ z).symm
       . exact hX _ _ z
 exact key A F.bld (fun e he=>he)
theorem zzW {ts:List T3}{cs:List Nat}{A:List En}{ρ:Int->Int}{P:Nat} (F:zcK ts cs A ρ) (hts:∀ t∈ts,t.Ok P) (hall:∀ p,0<=p->p < (P:Int)->p∈zj A) {p q:Int} (hp:p∈zj A) (hq:q∈zj A) :
   Cn (Ed ts cs) p q↔Cn (Ed ts (zbg A)) p q:=by
 constructor
 . intro c X hX h
   have e:=(F.rho_iff hts hall hp hq).2 c
   rw [F.cnT hX q hq,<- e,<- F.cnT hX p hp];exact h
 . refine Cn.imp fun a b ⟨k,hk,t,e,e1,e2⟩=>?_
   obtain ⟨en,he,s,es,rfl⟩:=ziB.1 hk
   exact .inl ⟨s.k,(F.bld.ends en he s es).1,t,e,e1,e2⟩
theorem zrN {ts:List T3}{cs:List Nat}{A:List En}{ρ:Int->Int}{hs:List Int} (F:zcK ts cs A ρ) (N:zfD hs A):∀ p∈zj A,∃ k:Nat,hAt hs p=k∧(zA A)[k]?=some (ρ p):=by
 intro p hp
 obtain ⟨e,he,rfl⟩:=List.mem_map.1 hp
 obtain ⟨d,r,hdr⟩:=List.append_of_mem he
 obtain ⟨l,hl⟩:=F.blk d e r hdr
 refine ⟨l.length,?_,?_⟩
 . rw [N d e r hdr,hl];simp
 . have:zA A=(l++[ρ e.1])++zA r:=by
     rw [<- hl,<- ze4,hdr];simp
   rw [this];simp
theorem znP:∀ A:List En,A.length=(zbg A).length+(zA A).length
 | []=>rfl
 | (p,none) :: A=>by
   have:=znP A
   have e1:zbg ((p,none) :: A)=zbg A:=rfl
   have e2:zA ((p,none) :: A)=p :: zA A:=rfl
   rw [e1,e2];simp;omega
 | (p,some s) :: A=>by
   have:=znP A
   have e1:zbg ((p,some s) :: A)=s.k :: zbg A:=rfl
   have e2:zA ((p,some s) :: A)=zA A:=rfl
   rw [e1,e2];simp;omega
theorem zqp (n:Nat):((List.range n).map fun k:Nat=>(k:Int)).Nodup:=by
 rw [List.nodup_iff_pairwise_ne,List.pairwise_map]
 exact (List.nodup_range).imp fun h z=>h (by omega)
theorem zyZ {ts:List T3}{cs:List Nat}{A:List En}{ρ:Int->Int}{P:Nat}{hs:List Int} (F:zcK ts cs A ρ) (hall:∀ p,0<=p->p < (P:Int)->p∈zj A) (hrn:∀ p∈zj A,0<=p∧p < (P:Int)) (N:zfD hs A) (hl:hs.length=P):zco hs=(zA A).length∧A.length=P:=by
 refine ⟨Nat.le_antisymm ?_ ?_,Nat.le_antisymm ?_ ?_⟩
 . have:=zdH (zY [] hs) ((List.range (zA A).length).map fun k:Nat=>(k:Int)) (ze5 _ _) (fun x hx=>by
     have hx:x∈hs:=zdD.1 hx
     obtain ⟨i,hi,rfl⟩:=List.mem_iff_getElem.1 hx
     obtain ⟨k,h1,h2⟩:=zrN F N (i:Int) (hall _ (by omega) (by omega))
     have e:hAt hs (i:Int)=hs[i]:=by simp [hAt,hi]
     rw [<- e,h1]
     exact List.mem_map.2 ⟨k,List.mem_range.2 (List.getElem?_eq_some_iff.1 h2).1,rfl⟩)
   simpa [zco] using this
 . have:=zdH ((List.range (zA A).length).map fun k:Nat=>(k:Int)) (zY [] hs) (zqp _) (fun x hx=>by
     obtain ⟨k,hk,rfl⟩:=List.mem_map.1 hx
     have hk:=List.mem_range.1 hk
     have hm:(zA A)[k]∈zA A:=List.getElem_mem hk
     have hkA:=zof hm
     obtain ⟨j,h1,h2⟩:=zrN F N _ hkA
     rw [F.rt _ (zsc.1 hm) rfl]at h2
     have hj:=(List.getElem?_eq_some_iff.1 h2).1
     have ej:j=k:=(List.getElem?_inj hj (zh6 F.bld.nodup)).1 (h2.trans (List.getElem?_eq_getElem hk).symm)
     subst ej
     rw [<- h1]
     have r:=hrn _ hkA
     refine zdD.2 ?_
     exact zh9 r.1 (by omega))
   simpa [zco] using this
 . have:=zhP F.bld.nodup hrn
   simpa [zj] using this
 . have:=zdH ((List.range P).map fun k:Nat=>(k:Int)) (zj A) (zqp _) (fun x hx=>by
     obtain ⟨k,hk,rfl⟩:=List.mem_map.1 hx
     have:=List.mem_range.1 hk
     exact hall _ (by omega) (by omega))
   simpa [zj] using this
theorem zqF (h g:MH) {c a b j:Nat}{xs ys:List D} (e:g[j]?=some (.ins c [(a,.obj (h.length+j+1)),(b,.obj (h.length+j+2))])) (e1:g[j+1]?=some (.lst xs)) (e2:g[j+2]?=some (.lst ys)) (f:nrs xs=true) (f2:nrs ys=true):gc h (.ok (.obj (h.length+j)) (h++g)) = .ok (.obj h.length) (h++[.ins c [(a,.obj (h.length+1)),(b,.obj (h.length+2))],.lst xs,.lst ys]):=by
 simp only [gc]
 rw [if_pos (zeg _ _)]
 have q:¬ h.length+j < h.length:=by omega
 have q1:¬ h.length+j+1 < h.length:=by omega
 have q2:¬ h.length+j+2 < h.length:=by omega
 have x1:(h++g)[h.length+j+1]?=some (.lst xs):=by rw [Nat.add_assoc,zb5];exact e1
 have x2:(h++g)[h.length+j+2]?=some (.lst ys):=by rw [Nat.add_assoc,zb5];exact e2
 simp [gcV,q,e,zcu,q1,q2,x1,x2,D.nr,O.flat,f,f2]
theorem zxy {h:MH}{n m:Nat}{xs ys:List D} (hn:h[n]?=some (.lst xs)) (hm:h[m]?=some (.lst ys)) (f:nrs xs=true) (f2:nrs ys=true):app (mkF 4 zhE) [.obj n,.obj m] h = .ok (.obj h.length) (h++[.ins 4 [(5,.obj (h.length+1)),(6,.obj (h.length+2))],.lst xs,.lst ys]):=by
 unfold app mkF zhE
 simp [zN hn,zN hm,zfy,zfK]
 exact zqF h _ (j:=0) rfl rfl rfl f f2
theorem zeS {h:MH}{w t P:Nat}{turn:Int}{ts:List T3} (W:zbR h w t P turn ts) (hts:∀ t∈ts,t.Ok P) (hP0:1<=P) (hP:P<=100) (hl:ts.length<=63) :
   ∃ K hs,app zcC [.obj w] h = .ok (.obj h.length) (h++[.ins 4 [(5,.obj (h.length+1)),(6,.obj (h.length+2))],.lst (K.map .int),.lst (hs.map .int)])∧zbG ts P K hs∧K.length<=63:=by
 have het:=zeO W (by omega)
 obtain ⟨A,ρ,hs,ra,pn,cn,F,hall,hrn,N⟩:=zob (W.app [.lst ((List.range ts.length).map fun k=> .int (k:Nat))]) hts hP0 (by omega) (c:=h.length) (cs:=List.range ts.length) (by simp) (fun k hk=>List.mem_range.1 hk) (by simp;omega)
 obtain ⟨cr,cA⟩:=zyZ F hall hrn N cn.len
 have ksl:∀ k∈zbg A,k < ts.length:=fun k hk=>by
   obtain ⟨en,he,s,es,rfl⟩:=ziB.1 hk
   exact List.mem_range.1 (F.bld.ends en he s es).1
 have knd:=F.bld.ks_nodup
 have kle:(zbg A).length<=ts.length:=by
   have:=zdH (zbg A) (List.range ts.length) knd fun k hk=>List.mem_range.2 (ksl k hk)
   simpa using this
 obtain ⟨cs,tk,cmem,clen,casc⟩:=zeQ (h:=h++[.lst ((List.range ts.length).map fun k=> .int (k:Nat)),.dic (A.map eD)]) (q:=h.length+1) (A:=A) (by rw [zb5];rfl) (by omega) (by omega)
 have casc:=casc knd
 have eK:(cs.map fun k:Nat=>(k:Int)).map D.int=cs.map fun k:Nat=>D.int (k:Nat):=by simp
 refine ⟨cs.map fun k:Nat=>(k:Int),hs,?_,⟨?_,?_,cn,?_,?_⟩,by simp;omega⟩
 . unfold app zcC
   have pn:=pn [.lst (cs.map fun k:Nat=>D.int (k:Nat))]
   have fi:=zxy (h:=h++[.lst ((List.range ts.length).map fun k=> .int (k:Nat)),.dic (A.map eD),.lst (cs.map fun k:Nat=>D.int (k:Nat)),.lst (hs.map .int)]) (n:=h.length+2) (m:=h.length+3) (xs:=cs.map fun k:Nat=>D.int (k:Nat)) (ys:=hs.map .int) (by rw [zb5];rfl) (by rw [zb5];rfl) (zfL _ (fun _=>rfl) _) (zhf hs)
   simp at het ra pn tk fi
   simp [het,ra,tk,pn,fi]
   exact zqF h _ (j:=4) rfl rfl rfl (zfL _ (fun _=>rfl) _) (zhf hs)
 . rw [List.pairwise_map];exact casc.imp fun h=>by omega
 . intro x hx
   obtain ⟨k,hk,rfl⟩:=List.mem_map.1 hx
   have:=ksl k ((cmem k).1 hk)
   omega
 . have e:((cs.map fun k:Nat=>(k:Int)).map Int.toNat)=cs:=by
     rw [List.map_map]
     have:(Int.toNat ∘ fun k:Nat=>(k:Int))=id:=by funext k;simp
     rw [this,List.map_id]
   rw [e]
   have e2:Cn (Ed ts cs)=Cn (Ed ts (zbg A)):=Cn.eq (fun a b ⟨k,hk,z⟩=> .inl ⟨k,(cmem k).1 hk,z⟩) (fun a b ⟨k,hk,z⟩=> .inl ⟨k,(cmem k).2 hk,z⟩)
   rw [e2]
   exact cn.congr fun p q p0 p1 q0 q1=>zzW F hts hall (hall p p0 p1) (hall q q0 q1)
 . have:=znP A
   simp
   omega
end Mx
end
section
namespace Mx
open MI My
def FW (h:MH) (K hs:List Int) (rest:MH):MH:=h++(.ins 4 [(5,.obj (h.length+1)),(6,.obj (h.length+2))] :: .lst (K.map .int) :: .lst (hs.map .int) :: rest)
section
variable {h:MH}{K hs:List Int}{rest:MH}{P:Nat}{turn:Int}
theorem zeX:(FW h K hs rest)[h.length]?=some (.ins 4 [(5,.obj (h.length+1)),(6,.obj (h.length+2))]):=by simp [FW]
theorem zhN:(FW h K hs rest)[h.length+1]?=some (.lst (K.map .int)):=by unfold FW;rw [zb5];rfl
theorem zg2:(FW h K hs rest)[h.length+2]?=some (.lst (hs.map .int)):=by unfold FW;rw [zb5];rfl
theorem zo9 {n:Nat}{o:O} (hn:h[n]?=some o):(FW h K hs rest)[n]?=some o:=zN hn _
theorem zBm (X:List Int):(FW h K hs rest).set (h.length+1) (.lst (X.map .int))=FW h X hs rest:=by unfold FW;rw [zhx];rfl
theorem zrb (X:List Int):(FW h K hs rest).set (h.length+2) (.lst (X.map .int))=FW h K X rest:=by unfold FW;rw [zhx];rfl
theorem zfI (g:MH):FW h K hs rest++g=FW h K hs (rest++g):=by simp [FW]
theorem zim {w t:Nat}{ts:List T3} (W:zbR h w t P turn ts):zbR (FW h K hs rest) w t P turn ts:=W.app _
theorem zh3 {w t:Nat}{ts:List T3} (W:zbR (FW h K hs rest) w t P turn ts) (hts:∀ t∈ts,t.Ok P) (hP0:1<=P) (hP:P<=100) (hl:ts.length<=63) (hK:K.length<=100) (hh:hs.length<=100):app zgo [.obj h.length,.obj w] (FW h K hs rest) = .ok (.bl (dcd (zbG ts P K hs))) (FW h K hs rest) :=
 zfo W hts hP0 hP (by omega) zeX zhN zg2 (by omega) (by omega)
theorem zqA {n:Nat}{ts:List T3} (hn:(FW h K hs rest)[n]?=some (.lst (ts.map tD))) (hts:∀ t∈ts,t.Ok P) (hP:P<=100) (hl:ts.length<=63) (hK:K.length<=63) (hh:hs.length<=100):app zcm [.int P,.obj n,.obj h.length] (FW h K hs rest) = .ok (.bl (dcd (zbG ts P K hs))) (FW h K hs rest) :=
 zBD hn hts hP (by omega) zeX zhN zg2 (by omega) (by omega)
end
theorem zzc {ts:List T3}{P:Nat}{K hs hs':List Int} (F:zbG ts P K hs) (ne:hs'≠hs):¬ zbG ts P K hs':=fun z=>ne (z.2.2.1.unique F.2.2.1)
theorem zBu {h rest:MH}{P:Nat}{turn:Int}{ts:List T3}{K hs:List Int} (W:zbR h 2 3 P turn ts) (hn:h[1]?=some (.lst (ts.map tD))) (hts:∀ t∈ts,t.Ok P) (hP0:1<=P) (hP:P<=100) (hl:ts.length<=63) (F:zbG ts P K hs) (hK:K.length<=63) {x0 x5 x7:Option D} :
   (zf (zb0 (fld 6 (var 6)) (un z9 (za (.int (1)))) (bin zF (bin zi (fld 6 (var 6)) (un z9 (za (.int (1))))) (za (.int (1)))))
   (zf (ifS (tst (bin zce (zV zb1 (var 6) (zb (var 4) zd)) (za (.bl false)))) (zx (za (.bl false))) zq)
   (zf (zb0 (fld 6 (var 6)) (un z9 (za (.int (1)))) (bin zQ (bin zi (fld 6 (var 6)) (un z9 (za (.int (1))))) (za (.int (1)))))
   (zf (zbb (zbJ (fld 5 (var 6)) (zbP (zbN (var 2)))))
   (ifS (tst (bin zce (zV zb1 (var 6) (zb (var 4) zd)) (za (.bl false)))) (zx (za (.bl false))) zq))))) [x0,some (.int P),some (.obj 1),some (.int turn),some (.obj 2),x5,some (.obj h.length),x7] (FW h K hs rest) = .nx [x0,some (.int P),some (.obj 1),some (.int turn),some (.obj 2),x5,some (.obj h.length),x7] (FW h (K++[(ts.length:Int)]) hs rest):=by
 have hhl:hs.length=P:=F.2.2.1.len
 rcases List.eq_nil_or_concat hs with rfl | ⟨h0,z,e⟩
 . simp at hhl;omega
 . rw [List.concat_eq_append]at e
   have ez:∀ y:Int,MI.atI ((h0++[y]).map D.int) (-1)=some (.int y):=fun y=>by rw [List.map_append];exact zxB _ _
   have ix:∀ y:Int,ixN ((h0++[y]).map D.int).length (-1)=some h0.length:=fun y=>by
     unfold ixN
     rw [if_neg (by omega),if_pos (by simp;omega)]
     congr 1
     simp;omega
   have st:∀ y y':Int,((h0++[y]).map D.int).set h0.length (.int y')=(h0++[y']).map D.int:=fun y y'=>by simp
   have f1:dcd (zbG ts P K (h0++[z+1]))=false:=zdw (zzc F (by rw [e];intro q;have:=List.append_inj_right' q rfl;simp at this;omega))
   have f2:dcd (zbG ts P (K++[(ts.length:Int)]) hs)=false:=zdw fun q=>by have:=(q.2.1 (ts.length:Int) (by simp)).2;omega
   have s1:=zh3 (h:=h) (K:=K) (hs:=h0++[z+1]) (rest:=rest) (zim W) hts hP0 hP hl (by omega) (by rw [e]at hhl;simp at hhl ⊢;omega)
   have s2:=zh3 (h:=h) (K:=K++[(ts.length:Int)]) (hs:=hs) (rest:=rest) (zim W) hts hP0 hP hl (by simp;omega) (by omega)
   rw [f1]at s1
   rw [f2]at s2
   have u1:=zrb (h:=h) (K:=K) (hs:=hs) (rest:=rest) (h0++[z+1])
   have u2:=zrb (h:=h) (K:=K) (hs:=h0++[z+1]) (rest:=rest) (h0++[z])
   have u3:=zBm (h:=h) (K:=K) (hs:=hs) (rest:=rest) (K++[(ts.length:Int)])
   have g1:=zeX (h:=h) (K:=K) (hs:=hs) (rest:=rest)
   have g2:=zeX (h:=h) (K:=K) (hs:=h0++[z+1]) (rest:=rest)
   have g3:=zeX (h:=h) (K:=K++[(ts.length:Int)]) (hs:=hs) (rest:=rest)
   have g4:=zg2 (h:=h) (K:=K) (hs:=hs) (rest:=rest)
   have g5:=zg2 (h:=h) (K:=K) (hs:=h0++[z+1]) (rest:=rest)
   have g6:=zhN (h:=h) (K:=K) (hs:=hs) (rest:=rest)
   have g7:(FW h K hs rest)[1]?=some (.lst (ts.map tD)):=zo9 hn
   have lt:K.length < 1000000:=by omega
   have ek:(K++[(ts.length:Int)]).map D.int=K.map D.int++[.int (ts.length:Int)]:=by simp
   rw [ek]at u3
   have eb:z+1 - 1=z:=by omega
   rw [e]at *
   have a1:=ez z
   have a2:=ez (z+1)
   have i1:=ix z
   have i2:=ix (z+1)
   have t1:=st z (z+1)
   have t2:=st (z+1) z
   generalize (h0++[z]).map D.int=Z0 at *
   generalize (h0++[z+1]).map D.int=Z1 at *
   simp [zct,g1,g2,g3,g4,g5,a1,a2,i1,i2,t1,t2,u1,u2,s1,s2,zb1,eb,zdx,g6,g7,lt,u3]
end Mx
end
section
namespace Mx
open MI My
theorem zBt {h:MH}{l:Nat}{hs:List Int} (hl:h[l]?=some (.lst (hs.map .int))) (hn:hs.length<=1000000):app zed [.obj l] h = .ok (.bl true) h:=by
 unfold app zed
 have c:=zfv (t := .nm 0) (gs:=[(l,.lst (hs.map D.int))]) (elt:=(orV (zdq .bool (var 0)) (un zfC (zdq .int (var 0))))) (h:=h) D.int (fun _=>D.bl false) (fun e=>∃ d,e=[d]) (zdA hl) hs (by
   rintro x hx _ ⟨d,rfl⟩
   exact ⟨_,rfl,⟨_,rfl⟩,by simp [zdm]⟩) [none] ⟨_,rfl⟩
 have b:zcA (hs.map fun _=>D.bl false)=some (hs.map fun _=>false):=by have:=zgQ (hs.map fun _=>false);rwa [List.map_map]at this
 simp [hl,zdm,zb6,hn,c,b]
theorem zBJ (l:List T3):MI.cut (l.map tD) none (some (-1))=l.dropLast.map tD:=by
 rcases List.eq_nil_or_concat l with rfl | ⟨l',x,rfl⟩
 . rfl
 . rw [List.concat_eq_append]
   have e:(max (-1+((l'.length:Int)+1)) 0).toNat=l'.length:=by omega
   simp [MI.cut,sIx,e]
theorem zAg {ts:List T3}:Cn (Ed (ts.map tn) (List.range (ts.map tn).length))=Cn (Ed ts (List.range ts.length)):=Cn.eq
 (fun a b ⟨k,hk,t,e,e1,e2⟩=>by
   rw [List.getElem?_map]at e
   cases eq:ts[k]? with
   | none=>rw [eq]at e;cases e
   | some u =>
     rw [eq]at e;cases e
     exact .inr ⟨k,by simpa using hk,u,eq,e2,e1⟩)
 (fun a b ⟨k,hk,t,e,e1,e2⟩=> .inr ⟨k,by simpa using hk,tn t,by rw [List.getElem?_map,e];rfl,e2,e1⟩)
section
variable {h:MH}{P:Nat}{turn:Int}{ts:List T3}{K hs:List Int}{g:MH}{x0 x5 x7:Option D}
theorem stG (W:zbR h 2 3 P turn ts) (hts:∀ t∈ts,t.Ok P) (hP0:1<=P) (hP:P<=100) (ht:0<=turn) (ht':turn<=1000000) (hl:ts.length<=63) (F:zbG ts P K hs) :
   ∃ g',(ifS (tst (bin neV (fld 6 (zh zcC (zb (zh zec (zb (var 4) zd)) zd))) (fld 6 (var 6)))) (zx (za (.bl false))) zq) [x0,some (.int P),some (.obj 1),some (.int turn),some (.obj 2),x5,some (.obj h.length),x7] (FW h K hs g) = .nx [x0,some (.int P),some (.obj 1),some (.int turn),some (.obj 2),x5,some (.obj h.length),x7] (FW h K hs (g++g')):=by
 have W1:zbR (FW h K hs g) 2 3 P turn ts:=zim W
 have ab:=zeM W1 (by omega) (by omega) ht ht' (by omega) hts
 have r1:∀ X:MH,(FW h K hs g++X)[h.length]?=some (.ins 4 [(5,.obj (h.length+1)),(6,.obj (h.length+2))]):=fun X=>by rw [zfI];exact zeX
 have r2:∀ X:MH,(FW h K hs g++X)[h.length+2]?=some (.lst (hs.map .int)):=fun X=>by rw [zfI];exact zg2
 have fa:∀ X:MH,FW h K hs g++X=FW h K hs (g++X):=fun X=>zfI X
 generalize FW h K hs g=Q at ab W1 r1 r2 fa ⊢
 have W2:=zrX (h:=Q) (P:=P) (turn:=turn) (ts:=ts.map tn)
 obtain ⟨K',hs',fw,F',_⟩:=zeS W2 (fun t ht=>by obtain ⟨t0,h0,rfl⟩:=List.mem_map.1 ht;exact zoW (hts t0 h0)) hP0 hP (by simpa using hl)
 have eh:hs'=hs:=by
   have c:=F'.2.2.1
   rw [zAg]at c
   exact c.unique F.2.2.1
 have n1:=zhz (n:=Q.length+4) (m:=h.length+2) (xs:=hs') (ys:=hs) (h:=Q++[.ins 0 [(0,.int P),(1,.int turn),(2,.obj (Q.length+1))],.lst ((ts.map tn).map tD),.ins 4 [(5,.obj (Q.length+3)),(6,.obj (Q.length+4))],.lst (K'.map .int),.lst (hs'.map .int)]) (by rw [zb5];rfl) (r2 _)
 rw [decide_eq_true eh]at n1
 refine ⟨[.ins 0 [(0,.int P),(1,.int turn),(2,.obj (Q.length+1))],.lst ((ts.map tn).map tD),.ins 4 [(5,.obj (Q.length+3)),(6,.obj (Q.length+4))],.lst (K'.map .int),.lst (hs'.map .int)],?_⟩
 rw [<- fa]
 simp at ab fw n1
 simp [ab,fw,r1,n1]
theorem stJ {n w t:Nat} (W:zbR h w t P turn ts) (hn:h[n]?=some (.lst (ts.map tD))) (hts:∀ t∈ts,t.Ok P) (hP0:1<=P) (hP:P<=100) (ht:0<=turn) (ht':turn<=1000000) (hl:ts.length<=63) (F:zbG ts P K hs) (hK:K.length<=63) :
   ∃ g',(ifS (tst (bin neV (zV zb1 (var 6) (zb (zh (mkF 0 zeb) (zb (var 1) (zb (zH (zdo (var 2) noP (zdp (un z9 (za (.int (1))))))) (zb (var 3) zd)))) zd)) (zh zcm (zb (var 1) (zb (zH (zdo (var 2) noP (zdp (un z9 (za (.int (1))))))) (zb (var 6) zd)))))) (zx (za (.bl false))) zq) [x0,some (.int P),some (.obj n),some (.int turn),some (.obj w),x5,some (.obj h.length),x7] (FW h K hs g) = .nx [x0,some (.int P),some (.obj n),some (.int turn),some (.obj w),x5,some (.obj h.length),x7] (FW h K hs (g++g')):=by
 have hhl:hs.length=P:=F.2.2.1.len
 have htd:∀ t∈ts.dropLast,t.Ok P:=fun t hm=>hts t (List.dropLast_subset _ hm)
 have hdl:ts.dropLast.length<=63:=by simp;omega
 have hcut:=zBJ ts
 have fa:∀ X:MH,FW h K hs g++X=FW h K hs (g++X):=fun X=>zfI X
 have r1:∀ X:MH,(FW h K hs g++X)[h.length]?=some (.ins 4 [(5,.obj (h.length+1)),(6,.obj (h.length+2))]):=fun X=>by rw [zfI];exact zeX
 have r0:(FW h K hs g)[h.length]?=some (.ins 4 [(5,.obj (h.length+1)),(6,.obj (h.length+2))]):=zeX
 have n0:(FW h K hs g)[n]?=some (.lst (ts.map tD)):=zo9 hn
 have n1:∀ X:MH,(FW h K hs g++X)[n]?=some (.lst (ts.map tD)):=fun X=>zN n0 X
 have sh:∀ (X:MH) (w t:Nat) (us:List T3),zbR (FW h K hs g++X) w t P turn us->us.length<=63->(∀ t∈us,t.Ok P)->app zgo [.obj h.length,.obj w] (FW h K hs g++X) = .ok (.bl (dcd (zbG us P K hs))) (FW h K hs g++X):=fun X w t us W' l o=>by
   rw [zfI]at W' ⊢
   exact zh3 W' o hP0 hP l (by omega) (by omega)
 have du:∀ (X:MH) (n:Nat) (us:List T3),(FW h K hs g++X)[n]?=some (.lst (us.map tD))->us.length<=63->(∀ t∈us,t.Ok P)->app zcm [.int P,.obj n,.obj h.length] (FW h K hs g++X) = .ok (.bl (dcd (zbG us P K hs))) (FW h K hs g++X):=fun X n us W' l o=>by
   rw [zfI]at W' ⊢
   exact zqA W' o hP l hK (by omega)
 generalize FW h K hs g=Q at fa r1 r0 n0 n1 sh du ⊢
 have hi:=zoM (h:=Q++[.lst (ts.dropLast.map tD)]) (n:=Q.length) (P:=P) (turn:=turn) (ts:=ts.dropLast) (by simp) (by omega) (by omega) ht ht' (by omega) htd
 have W2:=zrX (h:=Q++[.lst (ts.dropLast.map tD)]) (P:=P) (turn:=turn) (ts:=ts.dropLast)
 have s1:=sh [.lst (ts.dropLast.map tD),.ins 0 [(0,.int P),(1,.int turn),(2,.obj (Q.length+2))],.lst (ts.dropLast.map tD)] (Q.length+1) (Q.length+2) ts.dropLast (by simpa using W2) hdl htd
 have d1:=du [.lst (ts.dropLast.map tD),.ins 0 [(0,.int P),(1,.int turn),(2,.obj (Q.length+2))],.lst (ts.dropLast.map tD),.lst (ts.dropLast.map tD)] (Q.length+3) ts.dropLast (by rw [zb5];rfl) hdl htd
 refine ⟨[.lst (ts.dropLast.map tD),.ins 0 [(0,.int P),(1,.int turn),(2,.obj (Q.length+2))],.lst (ts.dropLast.map tD),.lst (ts.dropLast.map tD)],?_⟩
 rw [<- fa]
 generalize dcd (zbG ts.dropLast P K hs)=V at s1 d1
 generalize ts.dropLast.map tD=Z at *
 simp at hi s1 d1
 simp [r0,n0,hcut,hi,r1,n1,zb1,s1,d1]
end
end Mx
end
section
namespace Mx
open MI My
theorem zCF {H:MH}{P:Nat}{turn:Int}{ts:List T3} (W:zbR H 2 3 P turn ts) (hn:H[1]?=some (.lst (ts.map tD))) (hts:∀ t∈ts,t.Ok P) (hP0:1<=P) (hP:P<=100) (ht:0<=turn) (ht':turn<=1000000) (hl:ts.length<=63) {x0 x5 x6 x7:Option D} :
   ∃ g' y6 y7,(zf (zm (.nm 6) (zh zcC (zb (var 4) zd)))
   (zf (ifS (orT (z8 (tru (zK zB 1 (var 6)))) (z8 (tru (zK zB 4 (var 6))))) (zx (za (.bl false))) zq)
   (zf (zm (.nm 7) (zH (zbA (zb (zK zB 2 (var 6)) (zb (zK zB 3 (var 6)) (zb (zK zB 7 (var 6)) (zb (zK zB 8 (var 6)) zd)))))))
   (zf (zm (.nm 7) (zH (zdu (var 7) (zbA (zb (zK zB 9 (var 6)) (zb (zK zB 10 (var 6)) (zb (zK zB 5 (var 6)) zd)))))))
   (zf (ifS (orT (tru (zey (zcn (var 7)))) (orT (tru (zK zB 6 (var 6))) (z8 (tru (zh zed (zb (zH (zdu (fld 5 (var 6)) (zcn (fld 6 (var 6))))) zd)))))) (zx (za (.bl false))) zq)
   (zf (ifS (orT (z8 (tru (zh zcm (zb (var 1) (zb (var 2) (zb (var 6) zd)))))) (tst (bin zce (zV zb1 (var 6) (zb (var 4) zd)) (za (.bl true))))) (zx (za (.bl false))) zq)
   (zf (ifS (tst (bin neV (fld 6 (zh zcC (zb (zh zec (zb (var 4) zd)) zd))) (fld 6 (var 6)))) (zx (za (.bl false))) zq)
   (zf (ifS (tst (bin neV (zV zb1 (var 6) (zb (zh (mkF 0 zeb) (zb (var 1) (zb (zH (zdo (var 2) noP (zdp (un z9 (za (.int (1))))))) (zb (var 3) zd)))) zd)) (zh zcm (zb (var 1) (zb (zH (zdo (var 2) noP (zdp (un z9 (za (.int (1))))))) (zb (var 6) zd)))))) (zx (za (.bl false))) zq)
   (zf (zb0 (fld 6 (var 6)) (un z9 (za (.int (1)))) (bin zF (bin zi (fld 6 (var 6)) (un z9 (za (.int (1))))) (za (.int (1)))))
   (zf (ifS (tst (bin zce (zV zb1 (var 6) (zb (var 4) zd)) (za (.bl false)))) (zx (za (.bl false))) zq)
   (zf (zb0 (fld 6 (var 6)) (un z9 (za (.int (1)))) (bin zQ (bin zi (fld 6 (var 6)) (un z9 (za (.int (1))))) (za (.int (1)))))
   (zf (zbb (zbJ (fld 5 (var 6)) (zbP (zbN (var 2)))))
   (ifS (tst (bin zce (zV zb1 (var 6) (zb (var 4) zd)) (za (.bl false)))) (zx (za (.bl false))) zq))))))))))))) [x0,some (.int P),some (.obj 1),some (.int turn),some (.obj 2),x5,x6,x7] H = .nx [x0,some (.int P),some (.obj 1),some (.int turn),some (.obj 2),x5,y6,y7] (H++g'):=by
 obtain ⟨K,hs,hf,F,hK⟩:=zeS W hts hP0 hP hl
 have hhl:hs.length=P:=F.2.2.1.len
 let l4:O := .lst [.bl false,.bl false,.bl false,.bl false]
 let l7:O := .lst [.bl false,.bl false,.bl false,.bl false,.bl false,.bl false,.bl false]
 let lk:O := .lst ((K++hs).map .int)
 have f0:∀ g,(FW H K hs g)[H.length]?=some (.ins 4 [(5,.obj (H.length+1)),(6,.obj (H.length+2))]):=fun g=>zeX
 have f1:∀ g,(FW H K hs g)[H.length+1]?=some (.lst (K.map .int)):=fun g=>zhN
 have f2:∀ g,(FW H K hs g)[H.length+2]?=some (.lst (hs.map .int)):=fun g=>zg2
 have fl:∀ g,(FW H K hs g).length=H.length+(3+g.length):=fun g=>by simp [FW];omega
 have fa:∀ g X,FW H K hs g++X=FW H K hs (g++X):=fun g X=>zfI X
 have fx:∀ g i,(FW H K hs g)[H.length+(3+i)]?=g[i]?:=fun g i=>by unfold FW;rw [zb5,Nat.add_comm 3 i];rfl
 have a1:(zm (.nm 6) (zh zcC (zb (var 4) zd))) [x0,some (.int P),some (.obj 1),some (.int turn),some (.obj 2),x5,x6,x7] H = .nx [x0,some (.int P),some (.obj 1),some (.int turn),some (.obj 2),x5,some (.obj H.length),x7] (FW H K hs []):=by
   simp [hf];rfl
 have a2:(ifS (orT (z8 (tru (zK zB 1 (var 6)))) (z8 (tru (zK zB 4 (var 6))))) (zx (za (.bl false))) zq) [x0,some (.int P),some (.obj 1),some (.int turn),some (.obj 2),x5,some (.obj H.length),x7] (FW H K hs []) = .nx [x0,some (.int P),some (.obj 1),some (.int turn),some (.obj 2),x5,some (.obj H.length),x7] (FW H K hs []):=by
   simp [f0,zB]
 have a3:(zm (.nm 7) (zH (zbA (zb (zK zB 2 (var 6)) (zb (zK zB 3 (var 6)) (zb (zK zB 7 (var 6)) (zb (zK zB 8 (var 6)) zd))))))) [x0,some (.int P),some (.obj 1),some (.int turn),some (.obj 2),x5,some (.obj H.length),x7] (FW H K hs []) = .nx [x0,some (.int P),some (.obj 1),some (.int turn),some (.obj 2),x5,some (.obj H.length),some (.obj (H.length+3))] (FW H K hs [l4]):=by
   have e1:=fl []
   have e2:=fa [] [l4]
   simp [l4]at e2 ⊢
   simp [f0,zB]
   exact ⟨e1,e2⟩
 have a4:(zm (.nm 7) (zH (zdu (var 7) (zbA (zb (zK zB 9 (var 6)) (zb (zK zB 10 (var 6)) (zb (zK zB 5 (var 6)) zd))))))) [x0,some (.int P),some (.obj 1),some (.int turn),some (.obj 2),x5,some (.obj H.length),some (.obj (H.length+3))] (FW H K hs [l4]) = .nx [x0,some (.int P),some (.obj 1),some (.int turn),some (.obj 2),x5,some (.obj H.length),some (.obj (H.length+4))] (FW H K hs [l4,l7]):=by
   have e1:=fl [l4]
   have e2:=fa [l4] [l7]
   have e3:(FW H K hs [l4])[H.length+3]?=some l4:=fx [l4] 0
   simp [l4,l7]at e1 e2 e3 ⊢
   simp [f0,zB,e3,zcc]
   exact ⟨e1,e2⟩
 have a5:(ifS (orT (tru (zey (zcn (var 7)))) (orT (tru (zK zB 6 (var 6))) (z8 (tru (zh zed (zb (zH (zdu (fld 5 (var 6)) (zcn (fld 6 (var 6))))) zd)))))) (zx (za (.bl false))) zq) [x0,some (.int P),some (.obj 1),some (.int turn),some (.obj 2),x5,some (.obj H.length),some (.obj (H.length+4))] (FW H K hs [l4,l7]) = .nx [x0,some (.int P),some (.obj 1),some (.int turn),some (.obj 2),x5,some (.obj H.length),some (.obj (H.length+4))] (FW H K hs [l4,l7,lk]):=by
   have e1:=fl [l4,l7]
   have e2:=fa [l4,l7] [lk]
   have e3:(FW H K hs [l4,l7])[H.length+4]?=some (.lst [.bl false,.bl false,.bl false,.bl false,.bl false,.bl false,.bl false]):=fx [l4,l7] 1
   have e4:(FW H K hs [l4,l7,lk])[H.length+5]?=some lk:=fx [l4,l7,lk] 2
   have sn:=zBt (h:=FW H K hs [l4,l7,lk]) (l:=H.length+5) (hs:=K++hs) e4 (by simp;omega)
   have q:K.length+hs.length<=1000000:=by omega
   have b7:zcA [D.bl false,.bl false,.bl false,.bl false,.bl false,.bl false,.bl false]=some [false,false,false,false,false,false,false]:=rfl
   have e5:lk = .lst (K.map .int++hs.map .int):=by simp [lk]
   rw [e5]at e2 sn ⊢
   clear_value l4 l7
   simp at e1 e2
   simp [e3,zcc,b7,f0,f1,f2,zB,q]
   rw [e1,e2]
   simp [sn]
 have a6:(ifS (orT (z8 (tru (zh zcm (zb (var 1) (zb (var 2) (zb (var 6) zd)))))) (tst (bin zce (zV zb1 (var 6) (zb (var 4) zd)) (za (.bl true))))) (zx (za (.bl false))) zq) [x0,some (.int P),some (.obj 1),some (.int turn),some (.obj 2),x5,some (.obj H.length),some (.obj (H.length+4))] (FW H K hs [l4,l7,lk]) = .nx [x0,some (.int P),some (.obj 1),some (.int turn),some (.obj 2),x5,some (.obj H.length),some (.obj (H.length+4))] (FW H K hs [l4,l7,lk]):=by
   have d1:=zqA (h:=H) (K:=K) (hs:=hs) (rest:=[l4,l7,lk]) (n:=1) (zo9 hn) hts hP hl hK (by omega)
   have s1:=zh3 (h:=H) (K:=K) (hs:=hs) (rest:=[l4,l7,lk]) (zim W) hts hP0 hP hl (by omega) (by omega)
   rw [zg8 F]at d1 s1
   simp [d1,f0,zb1,s1]
 obtain ⟨g1,a7⟩:=stG (h:=H) (K:=K) (hs:=hs) (g:=[l4,l7,lk]) (x0:=x0) (x5:=x5) (x7:=some (.obj (H.length+4))) W hts hP0 hP ht ht' hl F
 obtain ⟨g2,a8⟩:=stJ (h:=H) (K:=K) (hs:=hs) (g:=[l4,l7,lk]++g1) (x0:=x0) (x5:=x5) (x7:=some (.obj (H.length+4))) W hn hts hP0 hP ht ht' hl F hK
 have a9:=zBu (h:=H) (rest:=[l4,l7,lk]++g1++g2) (x0:=x0) (x5:=x5) (x7:=some (.obj (H.length+4))) W hn hts hP0 hP hl F hK
 refine ⟨.ins 4 [(5,.obj (H.length+1)),(6,.obj (H.length+2))] :: .lst ((K++[(ts.length:Int)]).map .int) :: .lst (hs.map .int) :: ([l4,l7,lk]++g1++g2),some (.obj H.length),some (.obj (H.length+4)),?_⟩
 rw [zc2,a1,zcW,zc2,a2,zcW,zc2,a3,zcW,zc2,a4,zcW,zc2,a5,zcW,zc2,a6,zcW,zc2,a7,zcW,zc2,a8,zcW,a9]
 rfl
end Mx
end
section
open PySem MI
namespace Mx
open My
theorem zsW:∀ l:List T3,zbT (l.map tD) (l.map tD)=true
 | []=>rfl
 | t :: l=>by
   rw [List.map_cons,zbT,zsW l]
   simp [tD,peq,zbT]
theorem zBB (l:List T3):(l.map tD).all (D.pl 5)=true:=by simp [tD,D.pl]
theorem zzA {h:MH}{n m:Nat}{ts:List T3} (hn:h[n]?=some (.lst (ts.map tD))) (hm:h[m]?=some (.lst (ts.map tD))) (e:zw):eqV (.obj n) (.obj m) e h = .ok (.bl true) h:=by
 unfold eqV zcb
 simp only [hn,hm,zBB,if_pos,Cmp.eq,zsW]
theorem law_true (ns:List Int) (h63:ns.length<=63):∃ h',zg9 [.obj 0] [.scr (ns.map .int)] = .ok (.bl true) h':=by
 obtain ⟨P,turn,ts,hw,hP0,hP,ht,ht',hl,hts⟩:=zAV h63 (n:=0) (h:=[.scr (ns.map .int)]) rfl
 have hl63:ts.length<=63:=by omega
 let B:MH:=[.scr (ns.map .int),.lst (ts.map tD),.ins 0 [(0,.int P),(1,.int turn),(2,.obj 3)],.lst (ts.map tD)]
 have WB:zbR B 2 3 P turn ts:=⟨rfl,rfl⟩
 have nB:B[1]?=some (.lst (ts.map tD)):=rfl
 let e0:zw:=[some (.obj 0),none,none,none,none,none,none,none]
 let e1:zw:=[some (.obj 0),some (.int P),some (.obj 1),some (.int turn),none,none,none,none]
 have st1:(zm (.tp [1,2,3]) (zh zfj (zb (var 0) zd))) e0 [.scr (ns.map .int)] = .nx e1 [.scr (ns.map .int),.lst (ts.map tD)]:=by
   simp [e0,e1,hw]
 have st2:(zm (.nm 4) (zh (mkF 0 zeb) (zb (var 1) (zb (var 2) (zb (var 3) zd))))) e1 [.scr (ns.map .int),.lst (ts.map tD)] = .nx [some (.obj 0),some (.int P),some (.obj 1),some (.int turn),some (.obj 2),none,none,none] B:=by
   have hi:=zoM (h:=[.scr (ns.map .int),.lst (ts.map tD)]) (n:=1) (P:=P) (turn:=turn) (ts:=ts) rfl (by omega) (by omega) ht ht' (by omega) hts
   simp [e1,hi]
   rfl
 have loop:=zfu (t := .nm 5) (gs:=[]) (body:=(zf (zm (.nm 6) (zh zcC (zb (var 4) zd)))
   (zf (ifS (orT (z8 (tru (zK zB 1 (var 6)))) (z8 (tru (zK zB 4 (var 6))))) (zx (za (.bl false))) zq)
   (zf (zm (.nm 7) (zH (zbA (zb (zK zB 2 (var 6)) (zb (zK zB 3 (var 6)) (zb (zK zB 7 (var 6)) (zb (zK zB 8 (var 6)) zd)))))))
   (zf (zm (.nm 7) (zH (zdu (var 7) (zbA (zb (zK zB 9 (var 6)) (zb (zK zB 10 (var 6)) (zb (zK zB 5 (var 6)) zd)))))))
   (zf (ifS (orT (tru (zey (zcn (var 7)))) (orT (tru (zK zB 6 (var 6))) (z8 (tru (zh zed (zb (zH (zdu (fld 5 (var 6)) (zcn (fld 6 (var 6))))) zd)))))) (zx (za (.bl false))) zq)
   (zf (ifS (orT (z8 (tru (zh zcm (zb (var 1) (zb (var 2) (zb (var 6) zd)))))) (tst (bin zce (zV zb1 (var 6) (zb (var 4) zd)) (za (.bl true))))) (zx (za (.bl false))) zq)
   (zf (ifS (tst (bin neV (fld 6 (zh zcC (zb (zh zec (zb (var 4) zd)) zd))) (fld 6 (var 6)))) (zx (za (.bl false))) zq)
   (zf (ifS (tst (bin neV (zV zb1 (var 6) (zb (zh (mkF 0 zeb) (zb (var 1) (zb (zH (zdo (var 2) noP (zdp (un z9 (za (.int (1))))))) (zb (var 3) zd)))) zd)) (zh zcm (zb (var 1) (zb (zH (zdo (var 2) noP (zdp (un z9 (za (.int (1))))))) (zb (var 6) zd)))))) (zx (za (.bl false))) zq)
   (zf (zb0 (fld 6 (var 6)) (un z9 (za (.int (1)))) (bin zF (bin zi (fld 6 (var 6)) (un z9 (za (.int (1))))) (za (.int (1)))))
   (zf (ifS (tst (bin zce (zV zb1 (var 6) (zb (var 4) zd)) (za (.bl false)))) (zx (za (.bl false))) zq)
   (zf (zb0 (fld 6 (var 6)) (un z9 (za (.int (1)))) (bin zQ (bin zi (fld 6 (var 6)) (un z9 (za (.int (1))))) (za (.int (1)))))
   (zf (zbb (zbJ (fld 5 (var 6)) (zbP (zbN (var 2)))))
   (ifS (tst (bin zce (zV zb1 (var 6) (zb (var 4) zd)) (za (.bl false)))) (zx (za (.bl false))) zq)))))))))))))) (fun k:Nat=>D.int k)
   (fun d e h'=>∃ g x y z,e=[some (.obj 0),some (.int P),some (.obj 1),some (.int turn),some (.obj 2),x,y,z]∧h'=B++g) (List.range 2) (by
   rintro d k r e h' eq ⟨g,x,y,z,rfl,rfl⟩
   refine ⟨rfl,_,rfl,?_⟩
   obtain ⟨g',y6,y7,hb⟩:=zCF (H:=B++g) (x0:=some (.obj 0)) (x5:=some (.int k)) (x6:=y) (x7:=z) (WB.app g) (zN nB g) hts hP0 hP ht ht' hl63
   refine ⟨_,_,?_,g++g',some (.int k),y6,y7,rfl,rfl⟩
   rw [<- List.append_assoc]
   exact hb) (fun _ _ _=>rfl) [some (.obj 0),some (.int P),some (.obj 1),some (.int turn),some (.obj 2),none,none,none] B ⟨[],none,none,none,rfl,by simp⟩
 obtain ⟨e4,h4,hr,g,x,y,z,rfl,rfl⟩:=loop
 have st3:(zea (.nm 5) (itR (za (.int (2))))
   (zf (zm (.nm 6) (zh zcC (zb (var 4) zd)))
   (zf (ifS (orT (z8 (tru (zK zB 1 (var 6)))) (z8 (tru (zK zB 4 (var 6))))) (zx (za (.bl false))) zq)
   (zf (zm (.nm 7) (zH (zbA (zb (zK zB 2 (var 6)) (zb (zK zB 3 (var 6)) (zb (zK zB 7 (var 6)) (zb (zK zB 8 (var 6)) zd)))))))
   (zf (zm (.nm 7) (zH (zdu (var 7) (zbA (zb (zK zB 9 (var 6)) (zb (zK zB 10 (var 6)) (zb (zK zB 5 (var 6)) zd)))))))
   (zf (ifS (orT (tru (zey (zcn (var 7)))) (orT (tru (zK zB 6 (var 6))) (z8 (tru (zh zed (zb (zH (zdu (fld 5 (var 6)) (zcn (fld 6 (var 6))))) zd)))))) (zx (za (.bl false))) zq)
   (zf (ifS (orT (z8 (tru (zh zcm (zb (var 1) (zb (var 2) (zb (var 6) zd)))))) (tst (bin zce (zV zb1 (var 6) (zb (var 4) zd)) (za (.bl true))))) (zx (za (.bl false))) zq)
   (zf (ifS (tst (bin neV (fld 6 (zh zcC (zb (zh zec (zb (var 4) zd)) zd))) (fld 6 (var 6)))) (zx (za (.bl false))) zq)
   (zf (ifS (tst (bin neV (zV zb1 (var 6) (zb (zh (mkF 0 zeb) (zb (var 1) (zb (zH (zdo (var 2) noP (zdp (un z9 (za (.int (1))))))) (zb (var 3) zd)))) zd)) (zh zcm (zb (var 1) (zb (zH (zdo (var 2) noP (zdp (un z9 (za (.int (1))))))) (zb (var 6) zd)))))) (zx (za (.bl false))) zq)
   (zf (zb0 (fld 6 (var 6)) (un z9 (za (.int (1)))) (bin zF (bin zi (fld 6 (var 6)) (un z9 (za (.int (1))))) (za (.int (1)))))
   (zf (ifS (tst (bin zce (zV zb1 (var 6) (zb (var 4) zd)) (za (.bl false)))) (zx (za (.bl false))) zq)
   (zf (zb0 (fld 6 (var 6)) (un z9 (za (.int (1)))) (bin zQ (bin zi (fld 6 (var 6)) (un z9 (za (.int (1))))) (za (.int (1)))))
   (zf (zbb (zbJ (fld 5 (var 6)) (zbP (zbN (var 2)))))
   (ifS (tst (bin zce (zV zb1 (var 6) (zb (var 4) zd)) (za (.bl false)))) (zx (za (.bl false))) zq)))))))))))))) [some (.obj 0),some (.int P),some (.obj 1),some (.int turn),some (.obj 2),none,none,none] B = .nx [some (.obj 0),some (.int P),some (.obj 1),some (.int turn),some (.obj 2),x,y,z] (B++g):=by
   rw [zAn]
   exact hr
 have hti:=zds (WB.app g)
 have eq1:=zzA (h:=(B++g)++[.lst (ts.map tD)]) (n:=(B++g).length) (m:=1) (ts:=ts) (by simp) (zN (zN nB g) _)
 have w2:(B++g)[2]?=some (.ins 0 [(0,.int P),(1,.int turn),(2,.obj 3)]):=(WB.app g).w
 refine ⟨(B++g)++[.lst (ts.map tD)],?_⟩
 unfold zg9
 have e00:([D.obj 0].map some++List.replicate (8 - 1) none:zw)=e0:=rfl
 rw [zBA,if_pos (show [D.obj 0].length=1 from rfl),e00,zc2,st1,zcW,zc2,st2,zcW,zc2,st3,zcW]
 generalize B++g=Q at *
 simp [w2,zcT,hti,eq1]
end Mx
end
section
namespace L2
open PySem PySem.Spec PyProof.Rows
abbrev Key:=Sum Int Str
def zgU:Key->Value->Bool
 | .inl k,v=>Value.isInt k v
 | .inr x,v=>Value.isStrOf x v
def zz2 (w:World):Key->Int
 | .inl k=>hashInt k
 | .inr x=>hashStr w x
theorem zer:∀ {k:Key}{v:Value},zgU k v=true->(∃ i t,k=Sum.inl i∧v=Value.int i t)∨(∃ x t,k=Sum.inr x∧v=Value.str x t)
 | .inl i,v,h=>by
   obtain ⟨t,e⟩:=Value.isInt_shape (k:=i) (v:=v) h
   exact .inl ⟨i,t,rfl,e⟩
 | .inr x,v,h=>by
   obtain ⟨t,e⟩:=Value.isStrOf_shape (x:=x) (v:=v) h
   exact .inr ⟨x,t,rfl,e⟩
theorem zyE (i:Int) (t:Tok):zgU (.inl i) (.int i t)=true:=by simp [zgU,Value.isInt]
theorem zxY (x:Str) (t:Tok):zgU (.inr x) (.str x t)=true:=by simp [zgU,Value.isStrOf]
theorem zBl (a b:Int):decide ((Sum.inl a:Key)=Sum.inl b)=(a == b):=by
 by_cases e:a=b
 . subst e;simp
 . have h:¬ (Sum.inl a:Key)=Sum.inl b:=fun q=>e (Sum.inl.inj q)
   rw [decide_eq_false h]
   exact (beq_eq_false_iff_ne.mpr e).symm
theorem zBG (a b:Str):decide ((Sum.inr a:Key)=Sum.inr b)=decide (a=b):=by
 by_cases e:a=b
 . subst e;simp
 . have h:¬ (Sum.inr a:Key)=Sum.inr b:=fun q=>e (Sum.inr.inj q)
   rw [decide_eq_false h,decide_eq_false e]
theorem zCc (a:Int) (b:Str):decide ((Sum.inl a:Key)=Sum.inr b)=false:=decide_eq_false (fun q=>nomatch q)
theorem zyn (a:Str) (b:Int):decide ((Sum.inr a:Key)=Sum.inl b)=false:=decide_eq_false (fun q=>nomatch q)
def zbS (prog:Program) (w:World):PySem.KeyKind prog w Key where
 is:=zgU
 hash:=zz2 w
 inj:=fun v a b ha hb=>by
   rcases zer ha with ⟨i,t,rfl,rfl⟩ | ⟨x,t,rfl,rfl⟩
   . rcases zer hb with ⟨j,u,rfl,e⟩ | ⟨y,u,rfl,e⟩
     . injection e with e1 _;rw [e1]
     . exact nomatch e
   . rcases zer hb with ⟨j,u,rfl,e⟩ | ⟨y,u,rfl,e⟩
     . exact nomatch e
     . injection e with e1 _;rw [e1]
 byValue:=fun k v h=>by
   rcases zer h with ⟨i,t,rfl,rfl⟩ | ⟨x,t,rfl,rfl⟩ <;> rfl
 pyHash:=fun hv h=>by
   rcases zer hv with ⟨i,t,rfl,rfl⟩ | ⟨x,t,rfl,rfl⟩
   . exact wpAny_pyHash_int h
   . exact wpAny_pyHash_str h
 eqBool:=fun hu hv h=>by
   rcases zer hu with ⟨i,t,rfl,rfl⟩ | ⟨x,t,rfl,rfl⟩
   . rcases zer hv with ⟨j,u,rfl,rfl⟩ | ⟨y,u,rfl,rfl⟩
     . rw [zBl]at h;exact wpAny_eqBool_int h
     . rw [zCc]at h;exact SeqAt.EqAt.int_str i t y u _ _ _ _ h
   . rcases zer hv with ⟨j,u,rfl,rfl⟩ | ⟨y,u,rfl,rfl⟩
     . rw [zyn]at h;exact SeqAt.EqAt.str_int x t j u _ _ _ _ h
     . rw [zBG]at h;exact wpAny_eqBool_str h
 «strs»:=fun k x t v h=>by
   rcases zer h with ⟨i,u,rfl,e⟩ | ⟨y,u,rfl,e⟩
   . exact nomatch e
   . injection e with e1 _
     subst e1
     cases v <;> rfl
theorem zxh (prog:Program) (w:World) (i:Int) (t:Tok):(zbS prog w).is (.inl i) (.int i t)=true:=zyE i t
theorem zCR (prog:Program) (w:World) (x:Str) (t:Tok):(zbS prog w).is (.inr x) (.str x t)=true:=zxY x t
end L2
namespace L2
open PySem PySem.Spec PyProof.Rows
inductive V where
 | non | bl (b:Bool) | int (i:Int) | str (x:Str) | byt (b:Array UInt8) | flt (b:UInt64) | ref (a:Addr) | ty (n:String)
 deriving DecidableEq
def zn:V->Value->Prop
 | .non,u=>u=Value.none
 | .bl b,u=>u=Value.bool b
 | .int i,u=>∃ t,u=Value.int i t
 | .str x,u=>∃ t,u=Value.str x t
 | .byt b,u=>∃ t,u=Value.bytes b t
 | .flt b,u=>∃ t,u=Value.float b t
 | .ref a,u=>u=Value.ref a
 | .ty n,u=>u=Value.type n
abbrev zp:List V->List Value->Prop:=Paired zn
theorem zp.length {xs:List V}{us:List Value} (r:zp xs us):xs.length=us.length:=Paired.length r
theorem zp.get:∀ {xs:List V}{us:List Value}{i:Nat}{x:V},zp xs us->xs[i]?=some x->∃ u,us[i]?=some u∧zn x u
 | _,_,_,_,.nil,e=>by simp at e
 | _,_,0,_,.cons r _,e=>by simp at e;subst e;exact ⟨_,rfl,r⟩
 | _,_,i+1,x,.cons _ t,e=>by
   obtain ⟨u,h1,h2⟩:=zp.get (i:=i) (x:=x) t (by simpa using e)
   exact ⟨u,by simpa using h1,h2⟩
theorem zp.set {x:V}{u:Value} (r:zn x u):∀ {xs:List V}{us:List Value} (i:Nat),zp xs us->zp (xs.set i x) (us.set i u)
 | _,_,_,.nil=> .nil
 | _,_,0,.cons _ t=> .cons r t
 | _,_,i+1,.cons q t=> .cons q (zp.set r i t)
theorem zp.append:∀ {xs ys:List V}{us ws:List Value},zp xs us->zp ys ws->zp (xs++ys) (us++ws)
 | _,_,_,_,.nil,s=>s
 | _,_,_,_,.cons r t,s=> .cons r (zp.append t s)
theorem zp.take:∀ {xs:List V}{us:List Value} (n:Nat),zp xs us->zp (xs.take n) (us.take n)
 | _,_,0,_=> .nil
 | _,_,_+1,.nil=> .nil
 | _,_,n+1,.cons r t=> .cons r (zp.take n t)
theorem zp.drop:∀ {xs:List V}{us:List Value} (n:Nat),zp xs us->zp (xs.drop n) (us.drop n)
 | _,_,0,r=>r
 | _,_,_+1,.nil=> .nil
 | _,_,n+1,.cons _ t=>zp.drop n t
def zcR:Option V->Option Value->Prop
 | some v,some u=>zn v u
 | none,none=>True
 | _,_=>False
def KV {κ:Type}:List (κ×V)->List (κ×Value)->Prop:=Paired fun (p:κ×V) (q:κ×Value)=>p.1=q.1∧zn p.2 q.2
def kV:Key->V
 | .inl i=> .int i
 | .inr x=> .str x
inductive HO where
 | lst (xs:List V)
 | tup (xs:List V)
 | dK (kvs:List (Key×V)) | dT (kvs:List (List Key×V))
 | set (S:Int->Bool) (n:Nat)
 | ins (C dx:Addr) (fs:List (Str×V))
 | own (x:Addr)
 | xd (fs:List (Str×V))
 | met (f x:Addr)
 | rng (lo hi:Int)
 | frz (o:Obj) (u:HO)
 | tbl (ps:Array Value)
 | ext (φ:Heap->Prop)
abbrev Hp:=Addr->Option HO
def upd (H:Hp) (a:Addr) (o:HO):Hp:=fun b=>if b=a then some o else H b
theorem zbQ {H:Hp}{a:Addr}{o:HO}:upd H a o a=some o:=by unfold upd;rw [if_pos rfl]
theorem zy {H:Hp}{a b:Addr}{o:HO} (h:b≠a):upd H a o b=H b:=by unfold upd;rw [if_neg h]
theorem zCV {H:Hp}{a b:Addr}{o u:HO} (h:H a=some o) (h':H b=some u) (d:o≠u):a≠b:=by
 intro e;subst e;rw [h]at h';exact d (Option.some.inj h')
theorem zdF {H:Hp}{a b:Addr}{o:HO} (h:H a=some o) (h':H b=none):a≠b:=by
 intro e;subst e;rw [h]at h';cases h'
section
variable (P:Program) (w:World)
def zbd (H:Hp) (h:Heap) (a:Addr):HO->Prop
 | .lst xs=>xs.length<=sizeLine∧∃ (its:List Value) (n:Nat),zp xs its∧h.get? a=some { cls := .type "list",data := .seq its.toArray n }
 | .tup xs=>xs.length<=sizeLine∧∃ its:List Value,zp xs its∧IsTup h a its.toArray
 | .dK kvs=>kvs.length<=sizeLine∧(a == sysModules)=false∧∃ vs,KV kvs vs∧h.DictOf (zbS P w) a vs
 | .dT kvs=>kvs.length<=sizeLine∧(a == sysModules)=false∧∃ xs:List (List Key×Addr×Value),
     Paired (fun (p:List Key×V) (q:List Key×Addr×Value)=>p.1=q.1∧H q.2.1=some (.tup (p.1.map kV))∧zn p.2 q.2.2) kvs xs ∧
     ∃ o es ep,h.get? a=some o∧o.ExactDict∧o.data = .dict es ep∧es.toList=xs.map (entryOfKey (tupleKind (zbS P w)))∧(xs.map (·.1)).Nodup
 | .set S n=>h.SetOf (intKind P w) a S n
 | .ins C dx fs=>H dx=some (.own a)∧fs.length<=1000∧dx≠a∧h.get? a=some (PySem.W.instObj C dx) ∧
     ∃ mA,h.Ns1 dx mA∧(∀ f,zcR (fs.lookup f) (mA f))∧PySem.Within mA (fs.map (·.1))
 | .own _=>∃ o,h.get? a=some o
 | .xd fs=>∃ mA,h.Ns1 a mA∧∀ f,zcR (fs.lookup f) (mA f)
 | .rng lo hi=>∃ t u v,h.get? a=some { cls := .type "range",data := .fields #[.int lo t,.int hi u,.int 1 v] }
 | .frz o u=>h.get? a=some o∧zbd H h a u
 | .tbl ps=>h.get? a=some { cls := .none,data := .fields ps }
 | .met f x=>h.get? a=some (PySem.W.methodObj (.ref f) (.ref x))
 | .ext φ=>φ h∧(∃ o,h.get? a=some o)∧∀ h1 h2:Heap,φ h1->(∀ o,h1.get? a=some o->h2.get? a=some o)->φ h2
def HOk (H:Hp) (h:Heap):Prop:=∀ a o,H a=some o->zbd P w H h a o
end
section
variable {P:Program}{w:World}{H H':Hp}{h h':Heap}{a:Addr}{o:HO}
theorem zbd.lt (x:zbd P w H h a o):a < h.objs.size:=by
 cases o with
 | lst xs=>obtain ⟨_,_,_,_,e⟩:=x;exact Heap.lt_size e
 | tup xs=>obtain ⟨_,_,_,p⟩:=x;exact p.lt
 | dK kvs=>obtain ⟨_,_,_,_,o,_,_,e,_⟩:=x;exact Heap.lt_size e
 | dT kvs=>obtain ⟨_,_,_,_,o,_,_,e,_⟩:=x;exact Heap.lt_size e
 | set S n=>obtain ⟨o,_,_,_,e,_⟩:=x;exact Heap.lt_size e
 | ins C dx fs=>obtain ⟨_,_,_,e,_⟩:=x;exact Heap.lt_size e
 | own y=>obtain ⟨_,e⟩:=x;exact Heap.lt_size e
 | xd fs=>obtain ⟨_,⟨_,_,_,e,_⟩,_⟩:=x;exact Heap.lt_size e
 | rng lo hi=>obtain ⟨_,_,_,e⟩:=x;exact Heap.lt_size e
 | frz ob u=>obtain ⟨e,_⟩:=x;exact Heap.lt_size e
 | tbl ps=>exact Heap.lt_size (show h.get? a=some _ from x)
 | met f y=>exact Heap.lt_size (show h.get? a=some _ from x)
 | ext φ=>obtain ⟨_,⟨_,e⟩,_⟩:=x;exact Heap.lt_size e
theorem Paired.mapP {α β:Type}{F G:α->β->Prop}:∀ {l₁:List α}{l₂:List β},Paired F l₁ l₂->(∀ a b,F a b->G a b)->Paired G l₁ l₂
 | _,_,.nil,_=> .nil
 | _,_,.cons r t,f=> .cons (f _ _ r) (Paired.mapP t f)
theorem zbd.stay (x:zbd P w H h a o) (k:∀ b u,(b=a∨H b=some (.own a))->h.get? b=some u->h'.get? b=some u)
   (ho:∀ b,H b=some (.own a)->H' b=some (.own a)) (ht:∀ b xs,H b=some (.tup xs)->H' b=some (.tup xs)):zbd P w H' h' a o:=by
 induction o with
 | lst xs=>obtain ⟨z,its,n,r,e⟩:=x;exact ⟨z,its,n,r,k _ _ (.inl rfl) e⟩
 | tup xs=>obtain ⟨z,its,r,ob,e,c⟩:=x;exact ⟨z,its,r,ob,k _ _ (.inl rfl) e,c⟩
 | dK kvs=>obtain ⟨z,y,vs,r,ob,es,ep,e,c⟩:=x;exact ⟨z,y,vs,r,ob,es,ep,k _ _ (.inl rfl) e,c⟩
 | dT kvs =>
   obtain ⟨z,y,xs,r,ob,es,ep,e,c⟩:=x
   exact ⟨z,y,xs,Paired.mapP r fun p q z=>⟨z.1,ht _ _ z.2.1,z.2.2⟩,ob,es,ep,k _ _ (.inl rfl) e,c⟩
 | set S n=>obtain ⟨ob,es,ep,t,e,c⟩:=x;exact ⟨ob,es,ep,t,k _ _ (.inl rfl) e,c⟩
 | ins C dx fs =>
   obtain ⟨d,z,ne,e,mA,⟨od,es,ep,e2,c⟩,r⟩:=x
   exact ⟨ho _ d,z,ne,k _ _ (.inl rfl) e,mA,⟨od,es,ep,k _ _ (.inr d) e2,c⟩,r⟩
 | own y=>obtain ⟨ob,e⟩:=x;exact ⟨ob,k _ _ (.inl rfl) e⟩
 | xd fs=>obtain ⟨mA,⟨od,es,ep,e,c⟩,r⟩:=x;exact ⟨mA,⟨od,es,ep,k _ _ (.inl rfl) e,c⟩,r⟩
 | rng lo hi=>obtain ⟨t,u,v,e⟩:=x;exact ⟨t,u,v,k _ _ (.inl rfl) e⟩
 | frz ob u ih=>obtain ⟨e,q⟩:=x;exact ⟨k _ _ (.inl rfl) e,ih q⟩
 | tbl ps =>
   have e:h.get? a=some { cls := .none,data := .fields ps }:=x
   show h'.get? a=some { cls := .none,data := .fields ps }
   exact k a _ (.inl rfl) e
 | met f y =>
   have e:h.get? a=some (PySem.W.methodObj (.ref f) (.ref y)):=x
   show h'.get? a=some (PySem.W.methodObj (.ref f) (.ref y))
   exact k a _ (.inl rfl) e
 | ext φ=>obtain ⟨p,⟨o,e⟩,st⟩:=x;exact ⟨st _ _ p fun o q=>k _ _ (.inl rfl) q,⟨o,k _ _ (.inl rfl) e⟩,st⟩
theorem HOk.lt (x:HOk P w H h) (e:H a=some o):a < h.objs.size:=(x a o e).lt
theorem HOk.fresh (x:HOk P w H h) (e:h.objs.size<=a):H a=none:=by
 cases q:H a with
 | none=>rfl
 | some u=>exact absurd (Nat.lt_of_lt_of_le (x.lt q) e) (Nat.lt_irrefl _)
theorem HOk.kept (x:HOk P w H h) (k:∀ b u,h.get? b=some u->h'.get? b=some u):HOk P w H h':=fun a o e =>
 (x a o e).stay (fun b u _ q=>k b u q) (fun _ q=>q) fun _ _ q=>q
theorem HOk.laid (x:HOk P w H h) (k:∀ b u,h.get? b=some u->h'.get? b=some u) (hp:h.objs.size<=a) (new:zbd P w (upd H a o) h' a o):HOk P w (upd H a o) h':=fun b u e=>by
 have hn:=x.fresh hp
 by_cases hb:b=a
 . subst hb;rw [zbQ]at e;cases e;exact new
 . rw [zy hb]at e
   exact (x b u e).stay (fun c v _ q=>k c v q) (fun c q=>by rw [zy (zdF q hn)];exact q) fun c xs q=>by rw [zy (zdF q hn)];exact q
end
def Rd (H:Hp) (a:Addr) (u:HO):Prop:=H a=some u∨∃ o,H a=some (.frz o u)
theorem Rd.ok {P:Program}{w:World}{H:Hp}{h:Heap}{a:Addr}{u:HO} (r:Rd H a u) (x:HOk P w H h):zbd P w H h a u:=by
 rcases r with r | ⟨o,r⟩
 . exact x a u r
 . obtain ⟨_,q⟩:=x a _ r
   exact q
def Mut:Option HO->Prop
 | some (.lst _)=>True
 | some (.dK _)=>True
 | some (.dT _)=>True
 | some (.set _ _)=>True
 | some (.ins _ _ _)=>True
 | some (.ext _)=>True
 | _=>False
section
variable {P:Program}{w:World}{H:Hp}{h h':Heap}{x e:Addr}{o':HO}
theorem HOk.write (ok:HOk P w H h) (mu:Mut (H x)) (he:e=x∨H e=some (.own x)) (k:∀ b u,b≠e->h.get? b=some u->h'.get? b=some u) (heo:∃ u,h'.get? e=some u)
   (new:zbd P w (upd H x o') h' x o'):HOk P w (upd H x o') h':=fun b u q=>by
 have nown:∀ c y,H c=some (.own y)->c≠x:=fun c y r z=>by subst z;rw [r]at mu;exact mu
 have ntup:∀ c xs,H c=some (.tup xs)->c≠x:=fun c xs r z=>by subst z;rw [r]at mu;exact mu
 by_cases hb:b=x
 . subst hb;rw [zbQ]at q;cases q;exact new
 . rw [zy hb]at q
   by_cases hbe:b=e
   . have q':H b=some (.own x):=by
       rcases he with z | z
       . exact absurd (hbe.trans z) hb
       . rw [hbe];exact z
     rw [q]at q';cases q'
     obtain ⟨v,hv⟩:=heo
     exact ⟨v,by rw [hbe];exact hv⟩
   . refine (ok b u q).stay (fun c v hc r=>k c v ?_ r) (fun c r=>by rw [zy (nown c b r)];exact r) fun c xs r=>by rw [zy (ntup c xs r)];exact r
     rcases hc with rfl | hc
     . exact hbe
     . rintro rfl
       rcases he with z | z
       . exact nown c b hc z
       . rw [hc]at z;cases z;exact hb rfl
end
structure Un (fs ex:List Addr) (H H':Hp) (h h':Heap):Prop where
 keep:∀ b o,h.get? b=some o->H b=none->b∉fs->b∉ex->h'.get? b=some o
 slot:∀ b o,h.get? b=some o->H b=none->b∈fs->b∉ex->∃ sl,h'.get? b=some { o with slots:=sl }
 free:∀ b o,h.get? b=some o->H b=none->b∉ex->H' b=none
 there:∀ b o,h.get? b=some o->b∉ex->∃ o',h'.get? b=some o'
 tups:∀ b xs,H b=some (.tup xs)->H' b=some (.tup xs)
 frzs:∀ b o u,H b=some (.frz o u)->H' b=some (.frz o u)
 tbls:∀ b ps,H b=some (.tbl ps)->∃ more,H' b=some (.tbl (ps++more))
section
variable {fs fs' ex ex':List Addr}{H H1 H2:Hp}{h h1 h2 h':Heap}{a x e:Addr}{o:HO}
theorem Un.any (u:Un fs ex H H1 h h1) {b:Addr}{ob:Obj} (q:h.get? b=some ob) (n:H b=none) (hx:b∉ex):∃ sl,h1.get? b=some { ob with slots:=sl }:=by
 by_cases hb:b∈fs
 . exact u.slot b ob q n hb hx
 . exact ⟨ob.slots,u.keep b ob q n hb hx⟩
theorem Un.kept (k:∀ b u,h.get? b=some u->h'.get? b=some u):Un fs ex H H h h' :=
 ⟨fun b ob q _ _ _=>k b ob q,fun b ob q _ _ _=>⟨ob.slots,k b ob q⟩,fun _ _ _ n _=>n,fun b ob q _=>⟨ob,k b ob q⟩,fun _ _ q=>q,fun _ _ _ q=>q,fun _ ps q=>⟨#[],by rw [q];simp⟩⟩
theorem Un.refl:Un fs ex H H h h:=Un.kept fun _ _ q=>q
theorem Un.laid (k:∀ b u,h.get? b=some u->h'.get? b=some u) (hp:h.objs.size<=a) (hn:H a=none):Un fs ex H (upd H a o) h h' where
 keep:=fun b u q _ _ _=>k b u q
 slot:=fun b u q _ _ _=>⟨u.slots,k b u q⟩
 free:=fun b u q n _=>by rw [zy (Nat.ne_of_lt (Nat.lt_of_lt_of_le (Heap.lt_size q) hp))];exact n
 there:=fun b u q _=>⟨u,k b u q⟩
 tups:=fun b xs q=>by rw [zy (zdF q hn)];exact q
 frzs:=fun b u xs q=>by rw [zy (zdF q hn)];exact q
 tbls:=fun b ps q=>⟨#[],by rw [zy (zdF q hn),q];simp⟩
theorem Un.write (mu:Mut (H x)) (he:e=x∨H e=some (.own x)) (k:∀ b u,b≠e->h.get? b=some u->h'.get? b=some u) (heo:∃ u,h'.get? e=some u):Un fs ex H (upd H x o) h h':=by
 have hx:∀ b,H b=none->b≠x:=fun b n z=>by subst z;rw [n]at mu;exact mu
 have hb:∀ b,H b=none->b≠e:=fun b n z=>by
   subst z
   rcases he with r | r
   . exact hx b n r
   . rw [n]at r;cases r
 have hm:∀ b u,H b=some u->¬ Mut (some u)->b≠x:=fun b u q nm z=>by subst z;rw [q]at mu;exact nm mu
 refine ⟨fun b u q n _ _=>k b u (hb b n) q,fun b u q n _ _=>⟨u.slots,k b u (hb b n) q⟩,fun b u q n _=>by rw [zy (hx b n)];exact n,fun b u q _=>?_,
   fun b xs q=>by rw [zy (hm b _ q fun z=>z)];exact q,fun b u xs q=>by rw [zy (hm b _ q fun z=>z)];exact q,fun b ps q=>⟨#[],by rw [zy (hm b _ q fun z=>z),q];simp⟩⟩
 by_cases hbe:b=e
 . subst hbe;exact heo
 . exact ⟨u,k b u hbe q⟩
end
def trk (h:Heap) (H:Hp):List Addr:=(List.range h.objs.size).filter fun a=>(H a).isSome
def zfa (h:Heap) (H:Hp):Heap:=PySem.W.hideAll h (trk h H)
theorem zCj (h:Heap) (H:Hp):(zfa h H).objs.size=h.objs.size:=PySem.W.hideAll_size _ _
theorem zy1 {h:Heap}{H:Hp}{b:Addr}{o:Obj} (e:h.get? b=some o) (n:H b=none):(zfa h H).get? b=some o :=
 PySem.W.hideAll_get _ e fun hm=>by
   have q:(H b).isSome=true:=(List.mem_filter.mp hm).2
   rw [n]at q;simp at q
theorem zzR {h:Heap}{H:Hp}{b:Addr}{o:Obj} (e:(zfa h H).get? b=some o):h.get? b=some o∧H b=none:=by
 have e':h.get? b=some o:=PySem.W.of_hideAll (trk h H) e
 refine ⟨e',?_⟩
 cases q:H b with
 | none=>rfl
 | some x =>
   have hm:b∈trk h H:=List.mem_filter.mpr ⟨List.mem_range.mpr (Heap.lt_size e'),by simp [q]⟩
   have z:(zfa h H).get? b=none:=PySem.W.hideAll_none (trk h H) hm
   rw [z]at e;cases e
end L2
namespace L2
open PySem PySem.Spec PyProof.Rows
structure Mod (K:PySem.W.Frag) (mg:Str->Option Value) (base:Heap):Prop where
 kin:K.In base
 glob:base.Ns mainGlobals mg
 blt:∃ mb,base.Ns builtinsNs mb∧∀ x:Str,x ≠ "__name__" -> mb x=bootBuiltins x
 nolimit:base.NoLimit
structure Cx where
 prog:Program
 w:World
 K:PySem.W.Frag
 mg:Str->Option Value
 base:Heap
 A:Around
 N:List Str
 s₀:Shared
 H₀:Hp
 env:Env
 outer:List Env
 stack:List Env
 ex:List Addr
 fn:Str->Bool
 calm:Bool
 pn:List (Addr×Obj)
 xe:Value->Shared->Prop
def frs (l:List Env):List Addr:=l.filterMap (·.frame)
abbrev Cx.fs (X:Cx):List Addr:=frs X.outer
def Vis (sc:Scope) (x:Str):Prop:=sc.names.lookup x=some .local∨sc.names.lookup x=some .cell∨sc.names.lookup x=some .free
def Loc (sc:Scope) (x:Str):Prop:=sc.names.lookup x=some .local∨sc.names.lookup x=some .cell
def zCS (env:Env) (h:Heap) (m:Str->Option Value) (x:Str) (u:Value):Prop :=
 (env.kindOf x=some .local∧m x=some u)∨((env.kindOf x=some .cell∨env.kindOf x=some .free)∧∃ c,env.cells.lookup x=some c∧h.IsCell c (some u))
structure Cx.Ok (X:Cx):Prop where
 mod:Mod X.K X.mg X.base
 kind:X.env.scope.kind = .function
 glob:X.env.globals=mainGlobals
 blt:X.env.builtins=builtinsNs
 above:X.s₀.heap.objs.size<=X.env.locals
 inj:∀ x y c,X.env.cells.lookup x=some c->X.env.cells.lookup y=some c->x=y
 has:∀ x,(X.env.kindOf x=some .cell∨X.env.kindOf x=some .free)->∃ c,X.env.cells.lookup x=some c
 cab:∀ x c,X.fn x=true->X.env.cells.lookup x=some c->X.s₀.heap.objs.size<=c
 hd:X.calm=true->X.A.handled=none
 frames:X.A.frames=some X.stack
 stk:X.stack=X.outer∨(X.stack=X.env :: X.outer∧X.env.frame=some X.env.locals)
 exf:∀ b∈X.ex,b≠X.env.locals∧∀ x c,X.env.cells.lookup x=some c->c≠b
 bs:∀ b o,X.base.get? b=some o->X.s₀.heap.get? b=some o∧X.H₀ b=none
 bsz:X.base.objs.size<=X.s₀.heap.objs.size
 noex:∀ b o,X.base.get? b=some o->b∉X.ex
 exfs:∀ b∈X.ex,b∉X.fs
 funs:X.s₀.heap.FunFrames X.base X.outer
 frf:∀ b∈X.fs,X.H₀ b=none
structure Inv (X:Cx) (pins:List (Addr×Obj)) (σ:List (Option V)) (H:Hp) (s:Shared):Prop where
 ok:X.Ok
 os:s.os=X.s₀.os
 bare:AllBare s.gens
 base:Un X.fs X.ex X.H₀ H X.s₀.heap s.heap
 loc:∃ m,s.heap.Ns X.env.locals m∧∀ (i:Nat) (x:Str) (v:V),X.N[i]?=some x->σ[i]?=some (some v)->Vis X.env.scope x->∃ u,zn v u∧zCS X.env s.heap m x u
 cell:∀ x c,X.env.cells.lookup x=some c->∃ v,s.heap.IsCell c v
 free:H X.env.locals=none
 freeC:∀ x c,X.env.cells.lookup x=some c->H c=none
 pin:∀ p∈X.pn++pins,s.heap.get? p.1=some p.2∧H p.1=none∧p.1≠X.env.locals∧p.1∉X.fs∧∀ v,p.2.data ≠ .cell v
 hok:HOk X.prog X.w H s.heap
 len:σ.length=X.N.length
section
variable {X:Cx}{pins:List (Addr×Obj)}{σ:List (Option V)}{H H':Hp}{s:Shared}{h':Heap}
theorem Cx.Ok.nofr (ok:X.Ok) {b:Addr}{o:Obj} (e:X.base.get? b=some o):b∉X.fs:=fun hb=>by
 have:=(ok.funs.mem hb).1
 rw [e]at this;cases this
theorem Inv.bs (I:Inv X pins σ H s):∀ b o,X.base.get? b=some o->s.heap.get? b=some o∧H b=none:=fun b o e =>
 ⟨I.base.keep b o (I.ok.bs b o e).1 (I.ok.bs b o e).2 (I.ok.nofr e) (I.ok.noex b o e),I.base.free b o (I.ok.bs b o e).1 (I.ok.bs b o e).2 (I.ok.noex b o e)⟩
theorem Inv.bk (I:Inv X pins σ H s):∀ b o,X.base.get? b=some o->s.heap.get? b=some o:=fun b o e=>(I.bs b o e).1
theorem Inv.mod (I:Inv X pins σ H s):Mod X.K X.mg X.base:=I.ok.mod
theorem Inv.kIn (I:Inv X pins σ H s):X.K.In s.heap:=I.ok.mod.kin.keeps I.bk
theorem Inv.lt (I:Inv X pins σ H s):X.env.locals < s.heap.objs.size:=let ⟨_,hn,_⟩:=I.loc;hn.lt
theorem Inv.sz (I:Inv X pins σ H s):X.s₀.heap.objs.size<=s.heap.objs.size:=Nat.le_trans I.ok.above (Nat.le_of_lt I.lt)
theorem Inv.nofs (I:Inv X pins σ H s) {a:Addr} (h:s.heap.objs.size<=a):a∉X.fs:=fun hb=>by
 obtain ⟨_,o,ho,_⟩:=I.ok.funs.mem hb
 exact absurd (Nat.lt_of_lt_of_le (Heap.lt_size ho) (Nat.le_trans I.sz h)) (Nat.lt_irrefl _)
theorem Inv.cne (I:Inv X pins σ H s):∀ x c,X.env.cells.lookup x=some c->c≠X.env.locals:=fun x c e z=>by
 obtain ⟨v,o,ho,hd⟩:=I.cell x c e
 obtain ⟨m,⟨o',es,ep,ho',hd',_⟩,_⟩:=I.loc
 rw [z,ho']at ho;cases ho;rw [hd']at hd;cases hd
theorem Inv.funs (I:Inv X pins σ H s):s.heap.FunFrames X.base X.outer:=by
 have all:∀ (l:List Env),(∀ b∈frs l,b∈X.fs)->X.s₀.heap.FunFrames X.base l->s.heap.FunFrames X.base l:=by
   intro l
   induction l with
   | nil=>intro _ _;trivial
   | cons env r ih =>
     intro hs hl
     obtain ⟨hk,⟨L,o,hf,hn,ho,hd⟩,hr⟩:=hl
     have hL:L∈X.fs:=hs L (by unfold frs;rw [List.filterMap_cons,hf];exact List.mem_cons_self)
     obtain ⟨sl,e⟩:=I.base.slot L o ho (I.ok.frf L hL) hL fun z=>I.ok.exfs L z hL
     exact ⟨hk,⟨L,_,hf,hn,e,hd⟩,ih (fun b hb=>hs b (by unfold frs;rw [List.filterMap_cons,hf];exact List.mem_cons_of_mem _ hb)) hr⟩
 exact all X.outer (fun _ hb=>hb) I.ok.funs
theorem Inv.stack (I:Inv X pins σ H s):s.heap.FunFrames X.base X.stack:=by
 rcases I.ok.stk with e | ⟨e,hf⟩
 . rw [e];exact I.funs
 . rw [e]
   obtain ⟨m,hn,_⟩:=I.loc
   refine .cons (by rw [I.ok.kind];decide) hf hn ?_ I.funs
   exact Heap.get?_none_of_le (Nat.le_trans I.ok.bsz I.ok.above)
theorem Inv.stkSub (I:Inv X pins σ H s):∀ b∈frs X.stack,b∈X.env.locals :: X.fs:=fun b hb=>by
 rcases I.ok.stk with e | ⟨e,hf⟩
 . rw [e]at hb;exact List.mem_cons_of_mem _ hb
 . rw [e]at hb
   unfold frs at hb
   rw [List.filterMap_cons,hf]at hb
   exact hb
theorem Inv.stkFree (I:Inv X pins σ H s):∀ b∈frs X.stack,H b=none:=fun b hb=>by
 rcases List.mem_cons.mp (I.stkSub b hb) with e | hb
 . rw [e];exact I.free
 . obtain ⟨_,o,ho,_⟩:=I.ok.funs.mem hb
   exact I.base.free b o ho (I.ok.frf b hb) fun z=>I.ok.exfs b z hb
theorem Inv.step {g':Array GenState}{t':Nat}{d':Drawn}{ch:List Addr} (I:Inv X pins σ H s)
   (hch:∀ b∈ch,(b∈X.ex∨X.s₀.heap.objs.size<=b)∧b≠X.env.locals∧(∀ x c,X.env.cells.lookup x=some c->c≠b)∧∀ p∈X.pn++pins,p.1≠b)
   (keep:∀ b o,b≠X.env.locals->b∉X.fs->b∉ch->s.heap.get? b=some o->H b=none->h'.get? b=some o)
   (slot:∀ b o,b≠X.env.locals->b∈X.fs->b∉ch->s.heap.get? b=some o->H b=none->∃ sl,h'.get? b=some { o with slots:=sl }) (free:∀ b o,b∉ch->s.heap.get? b=some o->H b=none->H' b=none)
   (there:∀ b o,b∉ch->s.heap.get? b=some o->∃ o',h'.get? b=some o')
   (tups:∀ b xs,H b=some (.tup xs)->H' b=some (.tup xs)) (frzs:∀ b o u,H b=some (.frz o u)->H' b=some (.frz o u)) (tbls:∀ b ps,H b=some (.tbl ps)->∃ more,H' b=some (.tbl (ps++more)))
   (ns:∀ m,s.heap.Ns X.env.locals m->h'.Ns X.env.locals m) (hok:HOk X.prog X.w H' h') (hg:AllBare g') :
   Inv X pins σ H' { s with heap:=h',gens:=g',drawn:=d',toks:=t' }:=by
 have neL:∀ b o,X.s₀.heap.get? b=some o->b≠X.env.locals:=fun b o e=>Nat.ne_of_lt (Nat.lt_of_lt_of_le (Heap.lt_size e) I.ok.above)
 have neC:∀ b o,X.s₀.heap.get? b=some o->b∉X.ex->b∉ch:=fun b o e hx hb=>by
   rcases (hch b hb).1 with z | z
   . exact hx z
   . exact absurd (Nat.lt_of_lt_of_le (Heap.lt_size e) z) (Nat.lt_irrefl _)
 have cellK:∀ x c,X.env.cells.lookup x=some c->∀ v,s.heap.IsCell c v->h'.IsCell c v:=fun x c e v ⟨o,ho,hd⟩=>by
   have nch:c∉ch:=fun z=>(hch c z).2.2.1 x c e rfl
   by_cases hc:c∈X.fs
   . obtain ⟨sl,q⟩:=slot c o (I.cne x c e) hc nch ho (I.freeC x c e)
     exact ⟨_,q,hd⟩
   . exact ⟨o,keep c o (I.cne x c e) hc nch ho (I.freeC x c e),hd⟩
 refine ⟨I.ok,I.os,hg,⟨fun b o e n hb hx=>?_,fun b o e n hb hx=>?_,fun b o e n hx=>?_,fun b o e hx=>?_,fun b xs e=>tups b xs (I.base.tups b xs e),fun b o xs e=>frzs b o xs (I.base.frzs b o xs e),fun b ps e=>?_⟩,?_,fun x c e=>?_,?_,fun x c e=>?_,fun p hp=>?_,hok,I.len⟩
 . exact keep b o (neL b o e) hb (neC b o e hx) (I.base.keep b o e n hb hx) (I.base.free b o e n hx)
 . obtain ⟨sl,e1⟩:=I.base.slot b o e n hb hx
   obtain ⟨sl',e2⟩:=slot b _ (neL b o e) hb (neC b o e hx) e1 (I.base.free b o e n hx)
   exact ⟨sl',e2⟩
 . obtain ⟨o',e1⟩:=I.base.there b o e hx
   exact free b o' (neC b o e hx) e1 (I.base.free b o e n hx)
 . obtain ⟨o',e1⟩:=I.base.there b o e hx
   exact there b o' (neC b o e hx) e1
 . obtain ⟨m1,e1⟩:=I.base.tbls b ps e
   obtain ⟨m2,e2⟩:=tbls b _ e1
   exact ⟨m1++m2,by rw [e2,Array.append_assoc]⟩
 . obtain ⟨m,hn,hl⟩:=I.loc
   refine ⟨m,ns m hn,fun i x v e1 e2 e3=>?_⟩
   obtain ⟨u,r,l⟩:=hl i x v e1 e2 e3
   refine ⟨u,r,?_⟩
   rcases l with l | ⟨k,c,e,z⟩
   . exact .inl l
   . exact .inr ⟨k,c,e,cellK x c e _ z⟩
 . obtain ⟨v,z⟩:=I.cell x c e
   exact ⟨v,cellK x c e v z⟩
 . obtain ⟨m,⟨o,_,_,ho,_⟩,_⟩:=I.loc
   exact free _ o (fun z=>(hch _ z).2.1 rfl) ho I.free
 . obtain ⟨v,o,ho,hd⟩:=I.cell x c e
   exact free c o (fun z=>(hch c z).2.2.1 x c e rfl) ho (I.freeC x c e)
 . obtain ⟨e,n,ne,nf,d⟩:=I.pin p hp
   have nch:p.1∉ch:=fun z=>(hch p.1 z).2.2.2 p hp rfl
   exact ⟨keep p.1 p.2 ne nf nch e n,free p.1 p.2 nch e n,ne,nf,d⟩
theorem Inv.un {t':Nat} (I:Inv X pins σ H s) (u:Un X.fs [] H H' s.heap h') (hok:HOk X.prog X.w H' h'):Inv X pins σ H' { s with heap:=h',toks:=t' }:=by
 obtain ⟨m,⟨o,es,ep,ho,r⟩,_⟩:=id I.loc
 obtain ⟨sl,hL⟩:=u.any ho I.free (by simp)
 exact I.step (g':=s.gens) (d':=s.drawn) (ch:=[]) (fun _ z=>nomatch z) (fun b o _ hb _ e n=>u.keep b o e n hb (by simp)) (fun b o _ hb _ e n=>u.slot b o e n hb (by simp)) (fun b o _ e n=>u.free b o e n (by simp)) (fun b o _ e=>u.there b o e (by simp)) u.tups u.frzs u.tbls (fun m' hm=>by
   obtain ⟨o',es',ep',ho',r'⟩:=hm
   rw [ho]at ho';cases ho'
   exact ⟨_,es',ep',hL,r'⟩) hok I.bare
theorem Inv.call {g':Array GenState}{t':Nat}{d':Drawn}{ch:List Addr} (I:Inv X pins σ H s) (u:Un (frs X.stack) ch H H' s.heap h') (hok:HOk X.prog X.w H' h') (hg:AllBare g')
   (hch:∀ b∈ch,(b∈X.ex∨X.s₀.heap.objs.size<=b)∧b≠X.env.locals∧(∀ x c,X.env.cells.lookup x=some c->c≠b)∧∀ p∈X.pn++pins,p.1≠b) :
   Inv X pins σ H' { s with heap:=h',gens:=g',drawn:=d',toks:=t' }:=by
 obtain ⟨m,⟨o,es,ep,ho,r⟩,_⟩:=id I.loc
 obtain ⟨sl,hL⟩:=u.any ho I.free fun z=>(hch _ z).2.1 rfl
 exact I.step (ch:=ch) hch (fun b o hL hb hc e n=>u.keep b o e n (fun z=>(List.mem_cons.mp (I.stkSub b z)).elim hL hb) hc) (fun b o _ _ hc e n=>u.any e n hc) (fun b o hc e n=>u.free b o e n hc) (fun b o hc e=>u.there b o e hc) u.tups u.frzs u.tbls (fun m' hm=>by
   obtain ⟨o',es',ep',ho',r'⟩:=hm
   rw [ho]at ho';cases ho'
   exact ⟨_,es',ep',hL,r'⟩) hok hg
theorem Inv.turned {t':Nat}{it:Addr} (I:Inv X pins σ H s) (k:∀ b o,b≠it->s.heap.get? b=some o->h'.get? b=some o) (hn:H it=none) (hL:it≠X.env.locals)
   (h1:it∈X.ex∨X.s₀.heap.objs.size<=it) (h2:∀ x c,X.env.cells.lookup x=some c->c≠it) (h3:∀ p∈X.pn++pins,p.1≠it):Inv X pins σ H { s with heap:=h',toks:=t' }:=by
 have nit:∀ b u,H b=some u->b≠it:=fun b u e z=>by rw [z,hn]at e;cases e
 refine I.step (g':=s.gens) (d':=s.drawn) (ch:=[it]) (fun b hb=>?_) (fun b o _ _ hc e _=>k b o (fun z=>hc (by simp [z])) e) (fun b o _ _ hc e _=>⟨o.slots,k b o (fun z=>hc (by simp [z])) e⟩) (fun _ _ _ _ n=>n)
   (fun b o hc e=>⟨o,k b o (fun z=>hc (by simp [z])) e⟩) (fun _ _ e=>e) (fun _ _ _ e=>e) (fun b ps e=>⟨#[],by rw [e];simp⟩) (fun m hm=>?_) (fun b u e=>?_) I.bare
 . have e:b=it:=by simpa using hb
   subst e
   exact ⟨h1,hL,h2,h3⟩
 . obtain ⟨o,es,ep,ho,r⟩:=hm
   exact ⟨o,es,ep,k _ o (Ne.symm hL) ho,r⟩
 . refine (I.hok b u e).stay (fun c v hc q=>k c v ?_ q) (fun _ q=>q) fun _ _ q=>q
   rcases hc with z | z
   . rw [z];exact nit b u e
   . exact nit c _ z
theorem Inv.tok (I:Inv X pins σ H s) (t:Nat):Inv X pins σ H { s with toks:=t }:=I.un (h':=s.heap) (t':=t) Un.refl I.hok
theorem Inv.kept {t':Nat} (I:Inv X pins σ H s) (k:∀ b u,s.heap.get? b=some u->h'.get? b=some u):Inv X pins σ H { s with heap:=h',toks:=t' }:=I.un (Un.kept k) (I.hok.kept k)
theorem Inv.laid {a:Addr}{o:HO}{t':Nat} (I:Inv X pins σ H s) (k:∀ b u,s.heap.get? b=some u->h'.get? b=some u) (hp:s.heap.objs.size<=a) (new:zbd X.prog X.w (upd H a o) h' a o) :
   Inv X pins σ (upd H a o) { s with heap:=h',toks:=t' }:=I.un (Un.laid k hp (I.hok.fresh hp)) (I.hok.laid k hp new)
theorem Inv.write {x e:Addr}{o:HO}{t':Nat} (I:Inv X pins σ H s) (mu:Mut (H x)) (he:e=x∨H e=some (.own x)) (k:∀ b u,b≠e->s.heap.get? b=some u->h'.get? b=some u) (heo:∃ u,h'.get? e=some u)
   (new:zbd X.prog X.w (upd H x o) h' x o):Inv X pins σ (upd H x o) { s with heap:=h',toks:=t' }:=I.un (Un.write mu he k heo) (I.hok.write mu he k heo new)
theorem Inv.pins_of {pins':List (Addr×Obj)} (I:Inv X pins σ H s) (h:∀ p∈pins',s.heap.get? p.1=some p.2∧H p.1=none∧p.1≠X.env.locals∧p.1∉X.fs∧∀ v,p.2.data ≠ .cell v):Inv X pins' σ H s :=
 ⟨I.ok,I.os,I.bare,I.base,I.loc,I.cell,I.free,I.freeC,fun p hp=>(List.mem_append.mp hp).elim (fun z=>I.pin p (List.mem_append_left _ z)) (h p),I.hok,I.len⟩
theorem zoh {N:List Str} (hN:N.Nodup) {i j:Nat}{x:Str} (a:N[i]?=some x) (b:N[j]?=some x):i=j:=by
 obtain ⟨h1,e1⟩:=List.getElem?_eq_some_iff.mp a
 obtain ⟨h2,e2⟩:=List.getElem?_eq_some_iff.mp b
 exact (List.getElem_inj hN).mp (e1.trans e2.symm)
theorem zrC {M:Model}{A:Around}{E:Value->Shared->Prop}{i:Nat}{x:Str}{v:V}{u:Value}{Q:Unit->Shared->Prop} (I:Inv X pins σ H s) (hN:X.N.Nodup) (hi:X.N[i]?=some x) (hx:Loc X.env.scope x) (r:zn v u)
   (h:∀ s',Inv X pins (σ.set i (some v)) H s'->(∃ a,Heap.SameBut a s.heap s'.heap∧(a=X.env.locals∨X.env.cells.lookup x=some a))->Q () s') (hf:X.fn x=true∨X.env.scope.names.lookup x=some .local:=by first | exact .inl rfl | exact .inr rfl | assumption):wpAny M A (storeName X.env x u) Q E s:=by
 obtain ⟨m,hn,hl⟩:=id I.loc
 have hcls:(X.env.scope.kind == .class || (X.env.scope.kind == .module && X.env.locals != X.env.globals))=false:=by rw [I.ok.kind];rfl
 have hiσ:i < σ.length:=by rw [I.len];exact (List.getElem?_eq_some_iff.mp hi).1
 have cne:=I.cne
 have tracked:∀ {a:Addr} {h':Heap},(∃ o,s.heap.get? a=some o∧H a=none)->Heap.SameBut a s.heap h'->HOk X.prog X.w H h':=fun {a h'} ha hs b ob e=>by
   obtain ⟨_,_,hfree⟩:=ha
   refine (I.hok b ob e).stay (fun c w' hc q=>(hs.2 c ?_).trans q) (fun _ q=>q) fun _ _ q=>q
   rintro rfl
   rcases hc with rfl | hc
   . rw [hfree]at e;cases e
   . rw [hfree]at hc;cases hc
 rcases hx with hk | hk
 . refine wpAny_storeName_local hk hn (fun h' hn' hs=>?_) hcls
   obtain ⟨oL,_,_,hoL,_⟩:=id hn
   refine h _ ⟨I.ok,I.os,I.bare,⟨fun b o e n hb hx=>?_,fun b o e n hb hx=>?_,I.base.free,fun b o e hx=>?_,I.base.tups,I.base.frzs,I.base.tbls⟩,⟨_,hn',fun j y v' e1 e2 e3=>?_⟩,fun y c e=>?_,I.free,I.freeC,fun p hp=>?_,tracked ⟨oL,hoL,I.free⟩ hs,by simpa using I.len⟩ ⟨_,hs,.inl rfl⟩
   . exact (hs.2 b (Nat.ne_of_lt (Nat.lt_of_lt_of_le (Heap.lt_size e) I.ok.above))).trans (I.base.keep b o e n hb hx)
   . obtain ⟨sl,e1⟩:=I.base.slot b o e n hb hx
     exact ⟨sl,(hs.2 b (Nat.ne_of_lt (Nat.lt_of_lt_of_le (Heap.lt_size e) I.ok.above))).trans e1⟩
   . obtain ⟨o',e1⟩:=I.base.there b o e hx
     exact ⟨o',(hs.2 b (Nat.ne_of_lt (Nat.lt_of_lt_of_le (Heap.lt_size e) I.ok.above))).trans e1⟩
   . by_cases hj:j=i
     . subst hj
       rw [hi]at e1;cases e1
       rw [List.getElem?_set_self hiσ]at e2
       cases e2
       exact ⟨u,r,.inl ⟨hk,by simp⟩⟩
     . rw [List.getElem?_set_ne (Ne.symm hj)]at e2
       obtain ⟨u',r',q⟩:=hl j y v' e1 e2 e3
       refine ⟨u',r',?_⟩
       rcases q with ⟨k,e⟩ | ⟨k,c,e,z⟩
       . refine .inl ⟨k,?_⟩
         have:y≠x:=fun e=>hj (zoh hN e1 (e ▸ hi))
         simp [this,e]
       . exact .inr ⟨k,c,e,z.sameBut hs (cne y c e)⟩
   . obtain ⟨w',z⟩:=I.cell y c e
     exact ⟨w',z.sameBut hs (cne y c e)⟩
   . obtain ⟨e,n,ne,nf,d⟩:=I.pin p hp
     exact ⟨(hs.2 p.1 ne).trans e,n,ne,nf,d⟩
 . have hfn:X.fn x=true:=by
     rcases hf with z | z
     . exact z
     . rw [z]at hk;cases hk
   obtain ⟨c,hc⟩:=I.ok.has x (.inl hk)
   obtain ⟨w',z⟩:=I.cell x c hc
   refine wpAny_storeName_cell I.ok.kind hk hc z (fun h' hc' hs=>?_)
   obtain ⟨oc,hoc,hocd⟩:=id z
   refine h { s with heap:=h' } ⟨I.ok,I.os,I.bare,⟨fun b o e n hb hx=>?_,fun b o e n hb hx=>?_,I.base.free,fun b o e hx=>?_,I.base.tups,I.base.frzs,I.base.tbls⟩,⟨m,hn.sameBut hs (Ne.symm (cne x c hc)),fun j y v' e1 e2 e3=>?_⟩,fun y c' e=>?_,I.free,I.freeC,fun p hp=>?_,tracked ⟨oc,hoc,I.freeC x c hc⟩ hs,by simpa using I.len⟩ ⟨c,hs,.inr hc⟩
   . exact (hs.2 b (Nat.ne_of_lt (Nat.lt_of_lt_of_le (Heap.lt_size e) (I.ok.cab x c hfn hc)))).trans (I.base.keep b o e n hb hx)
   . obtain ⟨sl,e1⟩:=I.base.slot b o e n hb hx
     exact ⟨sl,(hs.2 b (Nat.ne_of_lt (Nat.lt_of_lt_of_le (Heap.lt_size e) (I.ok.cab x c hfn hc)))).trans e1⟩
   . obtain ⟨o',e1⟩:=I.base.there b o e hx
     exact ⟨o',(hs.2 b (Nat.ne_of_lt (Nat.lt_of_lt_of_le (Heap.lt_size e) (I.ok.cab x c hfn hc)))).trans e1⟩
   . by_cases hj:j=i
     . subst hj
       rw [hi]at e1;cases e1
       rw [List.getElem?_set_self hiσ]at e2
       cases e2
       exact ⟨u,r,.inr ⟨.inl hk,c,hc,hc'⟩⟩
     . rw [List.getElem?_set_ne (Ne.symm hj)]at e2
       obtain ⟨u',r',q⟩:=hl j y v' e1 e2 e3
       refine ⟨u',r',?_⟩
       rcases q with q | ⟨k,c',e,z'⟩
       . exact .inl q
       . refine .inr ⟨k,c',e,z'.sameBut hs ?_⟩
         rintro rfl
         exact hj (zoh hN e1 (I.ok.inj _ _ _ e hc ▸ hi))
   . by_cases hcc:c'=c
     . subst hcc;exact ⟨_,hc'⟩
     . obtain ⟨w2,z2⟩:=I.cell y c' e
       exact ⟨w2,z2.sameBut hs hcc⟩
   . obtain ⟨e,n,ne,nf,d⟩:=I.pin p hp
     refine ⟨(hs.2 p.1 ?_).trans e,n,ne,nf,d⟩
     intro q
     rw [q,hoc]at e
     have q':oc=p.2:=Option.some.inj e
     exact d w' (by rw [<- q'];exact hocd)
theorem zg0 {M:Model}{A:Around}{E:Value->Shared->Prop}{i:Nat}{x:Str}{v:V}{u:Value}{Q:Unit->Shared->Prop} (I:Inv X pins σ H s) (hN:X.N.Nodup) (hi:X.N[i]?=some x) (hx:Loc X.env.scope x) (r:zn v u)
   (h:∀ s',Inv X pins (σ.set i (some v)) H s'->Q () s') (hf:X.fn x=true∨X.env.scope.names.lookup x=some .local:=by first | exact .inl rfl | exact .inr rfl | assumption):wpAny M A (storeName X.env x u) Q E s :=
 zrC I hN hi hx r (fun s' I' _=>h s' I') hf
theorem Inv.call' {s':Shared}{ch:List Addr} (I:Inv X pins σ H s) (ho:s'.os=s.os) (u:Un (frs X.stack) ch H H' s.heap s'.heap) (hok:HOk X.prog X.w H' s'.heap) (hg:AllBare s'.gens)
   (hch:∀ b∈ch,(b∈X.ex∨X.s₀.heap.objs.size<=b)∧b≠X.env.locals∧(∀ x c,X.env.cells.lookup x=some c->c≠b)∧∀ p∈X.pn++pins,p.1≠b):Inv X pins σ H' s':=by
 obtain ⟨h',g',d',t',o'⟩:=s'
 have e:o'=s.os:=ho
 subst e
 exact I.call (g':=g') (t':=t') (d':=d') u hok hg hch
end
abbrev XK:=Value->Option Addr->Hp->Prop
abbrev St:=List (Option V)
abbrev VK:=V->Hp->Prop
abbrev TE:=St->Hp->VK->Prop
abbrev TT:=St->Hp->(Bool->Hp->Prop)->Prop
abbrev TA:=St->Hp->(List V->Hp->Prop)->Prop
structure zeE where
 nx:St->Hp->Prop
 rt:VK
 bk:St->Hp->Prop:=fun _ _=>False
 ct:St->Hp->Prop:=fun _ _=>False
abbrev TS:=zeE->St->Hp->Prop
def EP (X:Cx) (pins:List (Addr×Obj)) (σ:St) (Q:VK) (u:Value) (s':Shared):Prop:=∃ v H',Inv X pins σ H' s'∧zn v u∧Q v H'
def TP (X:Cx) (pins:List (Addr×Obj)) (σ:St) (Q:Bool->Hp->Prop) (b:Bool) (s':Shared):Prop:=∃ H',Inv X pins σ H' s'∧Q b H'
def AP (X:Cx) (pins:List (Addr×Obj)) (σ:St) (Q:List V->Hp->Prop) (us:List Value) (s':Shared):Prop:=∃ vs H',Inv X pins σ H' s'∧zp vs us∧Q vs H'
def SP (X:Cx) (pins:List (Addr×Obj)) (D:zeE) (f:Flow) (s':Shared):Prop :=
 match f with
 | .next=>∃ σ' H',Inv X pins σ' H' s'∧D.nx σ' H'
 | .brk=>∃ σ' H',Inv X pins σ' H' s'∧D.bk σ' H'
 | .cont=>∃ σ' H',Inv X pins σ' H' s'∧D.ct σ' H'
 | .ret u=>∃ v σ' H',Inv X pins σ' H' s'∧zn v u∧D.rt v H'
def PE (X:Cx) (e:Expr) (t:TE):Prop :=
 ∀ (pins:List (Addr×Obj)) (s:Shared) (σ:St) (H:Hp) (Q:VK),Inv X pins σ H s->t σ H Q->wpAny (model X.prog X.w) X.A (eval e X.env) (EP X pins σ Q) X.xe s
def PT (X:Cx) (e:Expr) (t:TT):Prop :=
 ∀ (pins:List (Addr×Obj)) (s:Shared) (σ:St) (H:Hp) (Q:Bool->Hp->Prop),Inv X pins σ H s->t σ H Q->wpAny (model X.prog X.w) X.A (isTrue e X.env (eval e X.env)) (TP X pins σ Q) X.xe s
def PW (X:Cx) (e:Expr) (t:TT):Prop :=
 ∀ (whole:Sem Value) (pins:List (Addr×Obj)) (s:Shared) (σ:St) (H:Hp) (Q:Bool->Hp->Prop),Inv X pins σ H s->t σ H Q->wpAny (model X.prog X.w) X.A (isTrue e X.env whole) (TP X pins σ Q) X.xe s
theorem PW.pt {X:Cx}{e:Expr}{t:TT} (h:PW X e t):PT X e t:=h _
def PA (X:Cx) (es:List Expr) (t:TA):Prop :=
 ∀ (pos:Pos) (pins:List (Addr×Obj)) (s:Shared) (σ:St) (H:Hp) (Q:List V->Hp->Prop),Inv X pins σ H s->t σ H Q->wpAny (model X.prog X.w) X.A (spliced (backTo pos (starEach es X.env))) (AP X pins σ Q) X.xe s
def PS (X:Cx) (st:Stmt) (t:TS):Prop :=
 ∀ (pins:List (Addr×Obj)) (s:Shared) (σ:St) (H:Hp) (D:zeE),Inv X pins σ H s->t D σ H->wpAny (model X.prog X.w) X.A (exec st X.env) (SP X pins D) X.xe s
def PSs (X:Cx) (st:List Stmt) (t:TS):Prop :=
 ∀ (pins:List (Addr×Obj)) (s:Shared) (σ:St) (H:Hp) (D:zeE),Inv X pins σ H s->t D σ H->wpAny (model X.prog X.w) X.A (execs st X.env) (SP X pins D) X.xe s
theorem thn {α:Type}{t:Sem α}{Q Q':α->Shared->Prop}{M:Model}{A:Around}{E:Value->Shared->Prop}{s:Shared} (h:wpAny M A t Q E s) (hQ:∀ a s,Q a s->Q' a s):wpAny M A t Q' E s:=wpAny_mono h hQ fun _ _ x=>x
end L2
namespace L2
open PySem PySem.Spec PyProof.Rows
section
variable {X:Cx}
def zxN (i:Nat):TE:=fun σ H Q=>∃ v,σ[i]?=some (some v)∧Q v H
def tC (v:V):TE:=fun _ H Q=>Q v H
theorem zys {i:Nat}{x:Str}{pos:Pos} (hN:X.N[i]?=some x) (hv:Vis X.env.scope x) (hd:(x == ("__debug__":Str))=false:=by decide) (hcd:(x == ("__classdict__":Str))=false:=by decide):PE X (.Name x pos) (zxN i):=by
 intro pins s σ H Q I h
 obtain ⟨v,e,h⟩:=h
 obtain ⟨m,hn,hl⟩:=I.loc
 obtain ⟨u,r,l⟩:=hl i x v hN e hv
 have fin:EP X pins σ Q u s:=⟨v,H,I,r,h⟩
 rcases l with ⟨hk,hm⟩ | ⟨hk,c,hc,hcell⟩
 . exact wpAny_Name (wpAny_loadName_local I.ok.kind hk hn hm fin) hd
 . rcases hk with hk | hk
   . exact wpAny_Name (wpAny_loadName_cell I.ok.kind hk hc hcell fin) hd
   . exact wpAny_Name (wpAny_loadName_free I.ok.kind hk hc hcell fin hcd) hd
theorem zA9 {i j pos}:PE X (.Constant (.int i) j pos) (tC (.int i)):=fun _ _ _ H _ I h=>wpAny_Constant_int ⟨.int i,H,I.tok _,⟨_,rfl⟩,h⟩
theorem zAI {b j pos}:PE X (.Constant (.bool b) j pos) (tC (.bl b)):=fun _ _ _ H _ I h=>Constant_bool ⟨.bl b,H,I,rfl,h⟩
theorem zxL {j pos}:PE X (.Constant .none j pos) (tC .non):=fun _ _ _ H _ I h=>Constant_none ⟨.non,H,I,rfl,h⟩
def Gl (X:Cx) (x:Str):Prop:=X.env.kindOf x=some .globalImplicit
theorem zoN {E:Value->Shared->Prop}{pins:List (Addr×Obj)}{s:Shared}{σ:St}{H:Hp}{x:Str}{u:Value}{pos:Pos}{Q:Value->Shared->Prop} (I:Inv X pins σ H s) (hg:Gl X x) (hm:X.mg x=some u) (h:Q u s)
   (hd:(x == ("__debug__":Str))=false:=by decide):wpAny (model X.prog X.w) X.A (eval (.Name x pos) X.env) Q E s :=
 Calls.Name_function_global I.ok.kind hg (Calls.loadGlobal_global (by rw [I.ok.glob];exact I.mod.glob.keeps I.bk) hm h) hd
theorem zf5 {E:Value->Shared->Prop}{pins:List (Addr×Obj)}{s:Shared}{σ:St}{H:Hp}{x:Str}{u:Value}{pos:Pos}{Q:Value->Shared->Prop} (I:Inv X pins σ H s) (hg:Gl X x) (hm:X.mg x=none) (hv:bootBuiltins x=some u) (h:Q u s)
   (hn:x ≠ "__name__":=by decide) (hd:(x == ("__debug__":Str))=false:=by decide):wpAny (model X.prog X.w) X.A (eval (.Name x pos) X.env) Q E s:=by
 obtain ⟨mb,h1,h2⟩:=I.mod.blt
 exact Calls.Name_function_global I.ok.kind hg (Calls.loadGlobal_builtin (by rw [I.ok.glob];exact I.mod.glob.keeps I.bk) hm (by rw [I.ok.blt];exact h1.keeps I.bk) ((h2 x hn).trans hv) h) hd
theorem zrd {x:Str}{v:V}{u:Value}{pos:Pos} (hg:Gl X x) (hm:X.mg x=some u) (r:zn v u) (hd:(x == ("__debug__":Str))=false:=by decide):PE X (.Name x pos) (tC v) :=
 fun _ _ _ H _ I h=>zoN I hg hm ⟨v,H,I,r,h⟩ hd
theorem zz0 {x:Str}{v:V}{u:Value}{pos:Pos} (hg:Gl X x) (hm:X.mg x=none) (hv:bootBuiltins x=some u) (r:zn v u) (hn:x ≠ "__name__":=by decide) (hd:(x == ("__debug__":Str))=false:=by decide):PE X (.Name x pos) (tC v) :=
 fun _ _ _ H _ I h=>zf5 I hg hm hv ⟨v,H,I,r,h⟩ hn hd
variable {a b:Expr}{ta tb:TE}{pos:Pos}
variable {tA tB':TT}{rest:List Expr}
def zyh (t u:TT):TT:=fun σ H Q=>t σ H fun c H1=>if c=true then u σ H1 Q else Q false H1
def tOr (t u:TT):TT:=fun σ H Q=>t σ H fun c H1=>if c=true then Q true H1 else u σ H1 Q
def zym (t:TT):TT:=fun σ H Q=>t σ H fun c H1=>Q (!c) H1
theorem zzp (ha:PT X a tA):PW X (.BoolOp .And [a] pos) tA:=by
 intro wh pins s σ H Q I h
 refine isTrue_and (thn (ha pins s σ H Q I h) fun c s1 e=>?_)
 cases c with
 | true=>exact isTrue_and_nil e
 | false=>exact e
theorem zzt (ha:PT X a tA):PW X (.BoolOp .Or [a] pos) tA:=by
 intro wh pins s σ H Q I h
 refine isTrue_or (thn (ha pins s σ H Q I h) fun c s1 e=>?_)
 cases c with
 | false=>exact isTrue_or_nil e
 | true=>exact e
theorem zyS (ha:PT X a tA) (hb:PW X (.BoolOp .And (b :: rest) pos) tB'):PW X (.BoolOp .And (a :: b :: rest) pos) (zyh tA tB'):=by
 intro wh pins s σ H Q I h
 refine isTrue_and (thn (ha pins s σ H _ I h) fun c s1 ⟨H1,I1,q1⟩=>?_)
 cases c with
 | true=>exact hb wh pins s1 σ H1 Q I1 q1
 | false=>exact ⟨H1,I1,q1⟩
theorem zAC (ha:PT X a tA) (hb:PW X (.BoolOp .Or (b :: rest) pos) tB'):PW X (.BoolOp .Or (a :: b :: rest) pos) (tOr tA tB'):=by
 intro wh pins s σ H Q I h
 refine isTrue_or (thn (ha pins s σ H _ I h) fun c s1 ⟨H1,I1,q1⟩=>?_)
 cases c with
 | true=>exact ⟨H1,I1,q1⟩
 | false=>exact hb wh pins s1 σ H1 Q I1 q1
theorem zBL (ha:PT X a tA):PT X (.UnaryOp .Not a pos) (zym tA):=by
 intro pins s σ H Q I h
 exact isTrue_not (ha pins s σ H (fun c H1=>Q (!c) H1) I h)
def zxI (ta tb:TE):TE:=fun σ H Q=>ta σ H fun x H1=>∃ c,x = .bl c∧if c=true then tb σ H1 Q else Q (.bl false) H1
def zy8 (ta tb:TE):TE:=fun σ H Q=>ta σ H fun x H1=>∃ c,x = .bl c∧if c=true then Q (.bl true) H1 else tb σ H1 Q
def zBY (ta:TE):TE:=fun σ H Q=>ta σ H fun x H1=>∃ c,x = .bl c∧Q (.bl (!c)) H1
theorem zCQ {op}{t:TE} (h:PE X a t):PE X (.BoolOp op [a] pos) t:=fun pins s σ H Q I hw=>BoolOp_one (h pins s σ H Q I hw)
theorem zxK (ha:PE X a ta) (hb:PE X (.BoolOp .And (b :: rest) pos) tb):PE X (.BoolOp .And (a :: b :: rest) pos) (zxI ta tb):=by
 intro pins s σ H Q I h
 refine BoolOp_and (thn (ha pins s σ H _ I h) fun v s1 ⟨x,H1,I1,r1,q1⟩=>?_)
 obtain ⟨c,rfl,q1⟩:=q1
 cases r1
 refine wpAny_truthy_bool ?_
 cases c with
 | true=>exact hb pins s1 σ H1 Q I1 q1
 | false=>exact ⟨.bl false,H1,I1,rfl,q1⟩
theorem zCN (ha:PE X a ta) (hb:PE X (.BoolOp .Or (b :: rest) pos) tb):PE X (.BoolOp .Or (a :: b :: rest) pos) (zy8 ta tb):=by
 intro pins s σ H Q I h
 refine BoolOp_or (thn (ha pins s σ H _ I h) fun v s1 ⟨x,H1,I1,r1,q1⟩=>?_)
 obtain ⟨c,rfl,q1⟩:=q1
 cases r1
 refine wpAny_truthy_bool ?_
 cases c with
 | false=>exact hb pins s1 σ H1 Q I1 q1
 | true=>exact ⟨.bl true,H1,I1,rfl,q1⟩
theorem zzN (ha:PE X a ta):PE X (.UnaryOp .Not a pos) (zBY ta):=by
 intro pins s σ H Q I h
 refine UnaryOp_ (thn (ha pins s σ H _ I h) fun v s1 ⟨x,H1,I1,r1,q1⟩=>?_)
 obtain ⟨c,rfl,q1⟩:=q1
 cases r1
 exact not_of (wpAny_truthy_bool ⟨.bl (!c),H1,I1,rfl,q1⟩)
def tIf (t:TT) (ta tb:TE):TE:=fun σ H Q=>t σ H fun c H1=>if c=true then ta σ H1 Q else tb σ H1 Q
theorem zzz {c:Expr} (hc:PT X c tA) (ha:PE X a ta) (hb:PE X b tb):PE X (.IfExp c a b pos) (tIf tA ta tb):=by
 intro pins s σ H Q I h
 refine wpAny_IfExp (thn (hc pins s σ H _ I h) fun d s1 ⟨H1,I1,q1⟩=>?_)
 cases d with
 | true=>exact ha pins s1 σ H1 Q I1 q1
 | false=>exact hb pins s1 σ H1 Q I1 q1
end
end L2
namespace L2
open PySem PySem.Spec PyProof.Rows
def SqL (K:PySem.W.Frag) (H:Hp) (a:Addr) (xs:List V):Prop :=
 Rd H a (.lst xs) ∨
   ∃ (o:Obj) (its:Array Value) (n:Nat),K.lookup a=some o∧o.cls = .type "list" ∧ o.dict=none∧o.data = .seq its n∧its.size<=sizeLine∧zp xs its.toList
def SqT (K:PySem.W.Frag) (H:Hp) (a:Addr) (xs:List V):Prop :=
 Rd H a (.tup xs) ∨
   ∃ (o:Obj) (its:Array Value) (n:Nat),K.lookup a=some o∧o.cls = .type "tuple" ∧ o.data = .seq its n∧its.size<=sizeLine∧zp xs its.toList
def zA7:Value->Option V
 | .none=>some .non
 | .bool b=>some (.bl b)
 | .int i _=>some (.int i)
 | .str x _=>some (.str x)
 | .bytes b _=>some (.byt b)
 | .float b _=>some (.flt b)
 | .ref a=>some (.ref a)
 | .type n=>some (.ty n)
 | _=>none
theorem zn.abs {x:V}{u:Value} (r:zn x u):zA7 u=some x:=by
 cases x with
 | non=>cases r;rfl
 | bl _=>cases r;rfl
 | int _=>obtain ⟨t,rfl⟩:=r;rfl
 | str _=>obtain ⟨t,rfl⟩:=r;rfl
 | byt _=>obtain ⟨t,rfl⟩:=r;rfl
 | flt _=>obtain ⟨t,rfl⟩:=r;rfl
 | ref _=>cases r;rfl
 | ty _=>cases r;rfl
theorem zn.inj {x y:V}{u:Value} (r:zn x u) (q:zn y u):x=y:=Option.some.inj (r.abs.symm.trans q.abs)
theorem zp.inj:∀ {xs ys:List V}{us:List Value},zp xs us->zp ys us->xs=ys
 | _,_,_,.nil,.nil=>rfl
 | _,_,_,.cons r t,.cons r' t'=>by rw [r.inj r',zp.inj t t']
section
variable {X:Cx}{pins:List (Addr×Obj)}{σ:St}{H:Hp}{s:Shared}{a:Addr}{xs ys:List V}
theorem SqL.of {K:PySem.W.Frag} (h:H a=some (.lst xs)):SqL K H a xs := .inl (.inl h)
theorem SqT.of {K:PySem.W.Frag} (h:H a=some (.tup xs)):SqT K H a xs := .inl (.inl h)
theorem Inv.list (I:Inv X pins σ H s) (h:SqL X.K H a xs):∃ its:List Value,zp xs its∧PlainL s.heap a its.toArray∧xs.length<=sizeLine:=by
 rcases h with h | ⟨o,its,n,hk,hc,hd,hs,hz,r⟩
 . obtain ⟨z,its,n,r,e⟩:=h.ok I.hok
   exact ⟨its,r,⟨_,n,e,rfl,rfl,rfl⟩,z⟩
 . refine ⟨its.toList,r,⟨o,n,I.kIn a o hk,hc,hd,by simpa using hs⟩,?_⟩
   have e:=r.length
   simp only [Array.length_toList]at e
   omega
theorem Inv.tuple (I:Inv X pins σ H s) (h:SqT X.K H a xs):∃ its:List Value,zp xs its∧IsTup s.heap a its.toArray∧xs.length<=sizeLine:=by
 rcases h with h | ⟨o,its,n,hk,hc,hs,hz,r⟩
 . obtain ⟨z,its,r,p⟩:=h.ok I.hok
   exact ⟨its,r,p,z⟩
 . refine ⟨its.toList,r,⟨o,I.kIn a o hk,hc,n,by simpa using hs⟩,?_⟩
   have e:=r.length
   simp only [Array.length_toList]at e
   omega
theorem Inv.list_inj (I:Inv X pins σ H s) (h:SqL X.K H a xs) (h':SqL X.K H a ys):xs=ys:=by
 obtain ⟨its,r,⟨o,n,e,_,_,d⟩,_⟩:=I.list h
 obtain ⟨its',r',⟨o',n',e',_,_,d'⟩,_⟩:=I.list h'
 rw [e]at e';cases e'
 rw [d]at d'
 injection d' with d1 _
 have:its=its':=by simpa using congrArg Array.toList d1
 subst this
 exact r.inj r'
theorem Inv.tuple_inj (I:Inv X pins σ H s) (h:SqT X.K H a xs) (h':SqT X.K H a ys):xs=ys:=by
 obtain ⟨its,r,⟨o,e,_,n,d⟩,_⟩:=I.tuple h
 obtain ⟨its',r',⟨o',e',_,n',d'⟩,_⟩:=I.tuple h'
 rw [e]at e';cases e'
 rw [d]at d'
 injection d' with d1 _
 have:its=its':=by simpa using congrArg Array.toList d1
 subst this
 exact r.inj r'
end
abbrev Cx.wish (X:Cx) (E:Value->Shared->Prop):Cx:={ X with xe:=E }
abbrev Cx.nox (X:Cx):Cx:=X.wish fun _ _=>False
theorem Cx.Ok.wish {X:Cx} (ok:X.Ok) (E:Value->Shared->Prop):(X.wish E).Ok :=
 ⟨ok.mod,ok.kind,ok.glob,ok.blt,ok.above,ok.inj,ok.has,ok.cab,ok.hd,ok.frames,ok.stk,ok.exf,ok.bs,ok.bsz,ok.noex,ok.exfs,ok.funs,ok.frf⟩
theorem Cx.Ok.unwish {X:Cx}{E:Value->Shared->Prop} (ok:(X.wish E).Ok):X.Ok :=
 ⟨ok.mod,ok.kind,ok.glob,ok.blt,ok.above,ok.inj,ok.has,ok.cab,ok.hd,ok.frames,ok.stk,ok.exf,ok.bs,ok.bsz,ok.noex,ok.exfs,ok.funs,ok.frf⟩
section
variable {X:Cx}{pins:List (Addr×Obj)}{σ:St}{H:Hp}{s:Shared}{E:Value->Shared->Prop}
theorem Inv.wish (I:Inv X pins σ H s) (E:Value->Shared->Prop):Inv (X.wish E) pins σ H s:=⟨I.ok.wish E,I.os,I.bare,I.base,I.loc,I.cell,I.free,I.freeC,I.pin,I.hok,I.len⟩
theorem Inv.unwish (I:Inv (X.wish E) pins σ H s):Inv X pins σ H s:=⟨I.ok.unwish,I.os,I.bare,I.base,I.loc,I.cell,I.free,I.freeC,I.pin,I.hok,I.len⟩
theorem SP.unwish {D:zeE}{f:Flow}{s':Shared} (h:SP (X.wish E) pins D f s'):SP X pins D f s':=by
 cases f with
 | next=>obtain ⟨σ',H',I,q⟩:=h;exact ⟨σ',H',I.unwish,q⟩
 | brk=>obtain ⟨σ',H',I,q⟩:=h;exact ⟨σ',H',I.unwish,q⟩
 | cont=>obtain ⟨σ',H',I,q⟩:=h;exact ⟨σ',H',I.unwish,q⟩
 | ret u=>obtain ⟨v,σ',H',I,r,q⟩:=h;exact ⟨v,σ',H',I.unwish,r,q⟩
theorem PSs.nox {st:List Stmt}{t:TS} (h:PSs X.nox st t):PSs X st t:=fun pins s σ H D I hw =>
 wpAny_mono (h pins s σ H D (I.wish _) hw) (fun _ _ q=>q.unwish) fun _ _ z=>False.elim z
end
section
variable {X:Cx}{st:Stmt}{rest:List Stmt}{t u:TS}{e:Expr}{te:TE}{pos:Pos}
def zza:TS:=fun D σ H=>D.nx σ H
def zBg (t u:TS):TS:=fun D σ H=>t { D with nx:=u D } σ H
theorem zBW:PSs X [] zza:=fun _ _ σ H _ I h=>wpAny_execs_nil ⟨σ,H,I,h⟩
theorem zBf (h1:PS X st t) (h2:PSs X rest u):PSs X (st :: rest) (zBg t u):=by
 intro pins s σ H D I h
 refine wpAny_execs_cons (thn (h1 pins s σ H { D with nx:=u D } I h) fun f s1 q=>?_)
 cases f with
 | next =>
   obtain ⟨σ',H',I',q⟩:=q
   exact h2 pins s1 σ' H' D I' q
 | ret v=>exact q
 | brk=>exact q
 | cont=>exact q
theorem zze (h1:PS X st t):PSs X [st] t:=by
 intro pins s σ H D I h
 refine wpAny_execs_cons (thn (h1 pins s σ H D I h) fun f s1 q=>?_)
 cases f with
 | next=>exact wpAny_execs_nil q
 | ret v=>exact q
 | brk=>exact q
 | cont=>exact q
theorem Inv.quiet {pins:List (Addr×Obj)}{σ:St}{H:Hp}{s:Shared} (I:Inv X pins σ H s):interactive X.env=false:=by simp [interactive,I.ok.kind]
def zCK (te:TE):TS:=fun D σ H=>te σ H fun _ H1=>D.nx σ H1
theorem zy2 (he:PE X e te) (hs:swapsWith e none pos.line X.env=pure false:=by rfl):PS X (.Expr e pos) (zCK te):=by
 intro pins s σ H D I h
 exact wpAny_Expr_any (thn (he pins s σ H _ I h) fun v s1 ⟨x,H1,I1,r1,q1⟩=>⟨σ,H1,I1,q1⟩) I.quiet hs
def zCO (te:TE):TS:=fun D σ H=>te σ H D.rt
theorem zzx (he:PE X e te):PS X (.Return (some e) pos) (zCO te):=by
 intro pins s σ H D I h
 exact wpAny_Return_some (thn (he pins s σ H _ I h) fun v s1 ⟨x,H1,I1,r1,q1⟩=>⟨x,σ,H1,I1,r1,q1⟩)
def zAQ (c:TT) (t u:TS):TS:=fun D σ H=>c σ H fun b H1=>if b=true then t D σ H1 else u D σ H1
theorem zyq {c:Expr}{a b:List Stmt}{tc:TT} (hc:PT X c tc) (ha:PSs X a t) (hb:PSs X b u):PS X (.If c a b pos) (zAQ tc t u):=by
 intro pins s σ H D I h
 refine wpAny_If (thn (hc pins s σ H _ I h) fun d s1 ⟨H1,I1,q1⟩=>?_)
 cases d with
 | true=>exact ha pins s1 σ H1 D I1 q1
 | false=>exact hb pins s1 σ H1 D I1 q1
def zzw:TS:=fun _ _ _=>False
theorem zAa:PS X st zzw:=fun _ _ _ _ _ _ h=>h.elim
end
abbrev TG:=V->St->Hp->(St->Hp->Prop)->Prop
abbrev TGs:=List V->St->Hp->(St->Hp->Prop)->Prop
def PG (X:Cx) (target:Expr) (t:TG):Prop :=
 ∀ (pins:List (Addr×Obj)) (s:Shared) (σ:St) (H:Hp) (v:V) (u:Value) (Q:St->Hp->Prop),Inv X pins σ H s->zn v u->t v σ H Q ->
   wpAny (model X.prog X.w) X.A (assign target X.env u) (fun _ s'=>∃ σ' H',Inv X pins σ' H' s'∧Q σ' H') X.xe s
def PGs (X:Cx) (ts:List Expr) (t:TGs):Prop :=
 ∀ (pins:List (Addr×Obj)) (s:Shared) (σ:St) (H:Hp) (vs:List V) (us:List Value) (Q:St->Hp->Prop),Inv X pins σ H s->zp vs us->t vs σ H Q ->
   wpAny (model X.prog X.w) X.A (assignInOrder ((assignEach ts X.env).map (·.2)) us) (fun _ s'=>∃ σ' H',Inv X pins σ' H' s'∧Q σ' H') X.xe s
abbrev zhl:=V->V->V->Hp->(Hp->Prop)->Prop
def zgN (X:Cx) (t:zhl):Prop :=
 ∀ (pins:List (Addr×Obj)) (s:Shared) (σ:St) (H:Hp) (o i v:V) (ov iv u:Value) (Q:Hp->Prop),Inv X pins σ H s->zn o ov->zn i iv->zn v u->t o i v H Q ->
   wpAny (model X.prog X.w) X.A (setItem ov iv u) (fun _ s'=>∃ H',Inv X pins σ H' s'∧Q H') X.xe s
abbrev TIp:=V->V->Hp->VK->Prop
def PIp (X:Cx) (op:Operator) (t:TIp):Prop :=
 ∀ (pins:List (Addr×Obj)) (s:Shared) (σ:St) (H:Hp) (x y:V) (v u:Value) (Q:VK),Inv X pins σ H s->zn x v->zn y u->t x y H Q ->
   wpAny (model X.prog X.w) X.A (inplaceOp op v u) (EP X pins σ Q) X.xe s
section
variable {X:Cx}{pos:Pos}
def zh5 (i:Nat):TG:=fun v σ H Q=>Q (σ.set i (some v)) H
theorem zrG {i:Nat}{x:Str} (hN:X.N.Nodup) (hi:X.N[i]?=some x) (hx:Loc X.env.scope x) (hf:X.fn x=true∨X.env.scope.names.lookup x=some .local:=by first | exact .inl rfl | exact .inr rfl | assumption):PG X (.Name x pos) (zh5 i):=by
 intro pins s σ H v u Q I r h
 exact wpAny_assign_Name (zg0 I hN hi hx r (fun s' I'=>⟨_,H,I',h⟩) hf)
def zyH:TGs:=fun vs σ H Q=>vs=[]∧Q σ H
def zyo (t:TG) (u:TGs):TGs:=fun vs σ H Q=>∃ v r,vs=v :: r∧t v σ H fun σ' H'=>u r σ' H' Q
theorem zAm:PGs X [] zyH:=by
 intro pins s σ H vs us Q I r h
 obtain ⟨e,h⟩:=h
 subst e
 cases r
 exact assignInOrder_nil ⟨σ,H,I,h⟩
theorem zzG {e:Expr}{es:List Expr}{t:TG}{u:TGs} (h1:PG X e t) (h2:PGs X es u)
   (hs:(assignEach (e :: es) X.env).map (·.2)=assign e X.env :: (assignEach es X.env).map (·.2):=by rfl):PGs X (e :: es) (zyo t u):=by
 intro pins s σ H vs us Q I r h
 obtain ⟨v,vr,e1,h⟩:=h
 subst e1
 cases r with
 | cons r rr =>
   rw [hs]
   refine assignInOrder_cons (thn (h1 pins s σ H _ _ _ I r h) fun _ s1 ⟨σ1,H1,I1,q1⟩=>?_)
   exact h2 pins s1 σ1 H1 _ _ Q I1 rr q1
def zyy (K:PySem.W.Frag) (n:Nat) (t:TGs):TG:=fun v σ H Q=>∃ a xs,v = .ref a∧SqT K H a xs∧xs.length=n∧t xs σ H Q
theorem zCq {es:List Expr}{k:Nat}{t:TGs}{n:Nat} (hc:X.calm=true) (h:PGs X es t)
   (hn:(assignEach es X.env).length=n:=by rfl) (hst:(assignEach es X.env).findIdx? (·.1)=none:=by rfl):PG X (.Tuple es k pos) (zyy X.K n t):=by
 intro pins s σ H v u Q I r hw
 obtain ⟨a,xs,e1,hq,hl,hw⟩:=hw
 subst e1
 cases r
 obtain ⟨its,rv,ht,hz⟩:=I.tuple hq
 refine assign_Tuple_tuple (I.ok.hd hc) ht (by simp [hn,<- hl,rv.length]) hst fun h' hx=>?_
 have I1:Inv X pins σ H { s with heap:=h' }:=I.kept (t':=s.toks) fun b o e=>hx b o (Nat.ne_of_lt (Heap.lt_size e)) e
 exact h pins _ σ H xs _ Q I1 (by simpa using rv) hw
def zCT (to ti:TE) (t:zhl):TG:=fun v σ H Q=>to σ H fun o H1=>ti σ H1 fun i H2=>t o i v H2 fun H3=>Q σ H3
theorem zAZ {o i:Expr}{to ti:TE}{t:zhl} (ho:PE X o to) (hi:PE X i ti) (hs:zgN X t)
   (ha:∀ v,assign (.Subscript o i pos) X.env v=(do
     let ov <- holding [v] (eval o X.env)
     let iv <- holding [v,ov] (eval i X.env)
     standAt pos
     holding [v,ov,iv] (setItem ov iv v)
     release [v,ov,iv] []):=by intro _;rfl):PG X (.Subscript o i pos) (zCT to ti t):=by
 intro pins s σ H v u Q I r h
 rw [ha]
 refine wpAny_bind (wpAny_holding (thn (ho pins s σ H _ I h) fun ov s1 ⟨x,H1,I1,r1,q1⟩=>?_))
 refine wpAny_bind (wpAny_holding (thn (hi pins s1 σ H1 _ I1 q1) fun iv s2 ⟨y,H2,I2,r2,q2⟩=>?_))
 refine wpAny_bind (wpAny_standAt (wpAny_bind (wpAny_holding (thn (hs pins s2 σ H2 x y v ov iv u _ I2 r1 r2 r q2) fun _ s3 ⟨H3,I3,q3⟩=>?_))))
 exact wpAny_release ⟨σ,H3,I3,q3⟩
def zoA (te:TE) (g:TG):TS:=fun D σ H=>te σ H fun x H1=>g x σ H1 D.nx
theorem zq4 {tg e:Expr}{te:TE}{g:TG} (he:PE X e te) (hg:PG X tg g) (hs:swapsWithSole [tg] e pos.line X.env=pure false:=by rfl) (hw:swappedStores [tg] e X.env=pure none:=by rfl)
   (h1:(assignEach [tg] X.env).map (·.2)=[assign tg X.env]:=by rfl):PS X (.Assign [tg] e pos) (zoA te g):=by
 intro pins s σ H D I h
 refine wpAny_Assign_stores (thn (he pins s σ H _ I h) fun v s1 ⟨x,H1,I1,r1,q1⟩=>?_) hs hw
 rw [h1]
 exact thn (hg pins s1 σ H1 x v _ I1 r1 q1) fun _ s2 q=>q
theorem zxD {i:Nat}{x:Str}{e:Expr}{te:TE}{pos':Pos} (hN:X.N.Nodup) (hi:X.N[i]?=some x) (hx:Loc X.env.scope x) (he:PE X e te) (hs:swapsWith e (some (.Name x pos')) pos.line X.env=pure false:=by rfl) (hf:X.fn x=true∨X.env.scope.names.lookup x=some .local:=by first | exact .inl rfl | exact .inr rfl | assumption) :
   PS X (.Assign [.Name x pos'] e pos) (zoA te (zh5 i)):=by
 intro pins s σ H D I h
 refine wpAny_Assign_Name (thn (he pins s σ H _ I h) fun v s1 ⟨y,H1,I1,r1,q1⟩=>?_) hs
 exact zg0 I1 hN hi hx r1 (fun s2 I2=>⟨_,H1,I2,q1⟩) hf
def zzZ (i:Nat) (te:TE) (ti:TIp):TS:=fun D σ H=>∃ x,σ[i]?=some (some x)∧te σ H fun y H1=>ti x y H1 fun z H2=>D.nx (σ.set i (some z)) H2
theorem zCk {i:Nat}{x:Str}{e:Expr}{te:TE}{op:Operator}{ti:TIp}{pos':Pos} (hN:X.N.Nodup) (hi:X.N[i]?=some x) (hx:Loc X.env.scope x) (he:PE X e te) (ho:PIp X op ti) (hf:X.fn x=true∨X.env.scope.names.lookup x=some .local:=by first | exact .inl rfl | exact .inr rfl | assumption) :
   PS X (.AugAssign (.Name x pos') op e pos) (zzZ i te ti):=by
 intro pins s σ H D I h
 obtain ⟨v,e1,h⟩:=h
 obtain ⟨m,hn,hl⟩:=I.loc
 have vis:Vis X.env.scope x:=by rcases hx with k | k;exact .inl k;exact .inr (.inl k)
 obtain ⟨u,r,l⟩:=hl i x v hi e1 vis
 refine wpAny_AugAssign_Name ?_
 have go:wpAny (model X.prog X.w) X.A (eval e X.env) (fun w s₂=>wpAny (model X.prog X.w) X.A (inplaceOp op u w) (fun r s₃=>wpAny (model X.prog X.w) X.A (storeName X.env x r) (fun _=>SP X pins D .next) X.xe s₃) X.xe s₂) X.xe s:=by
   refine thn (he pins s σ H _ I h) fun w s1 ⟨y,H1,I1,r1,q1⟩=>?_
   refine thn (ho pins s1 σ H1 v y u w _ I1 r r1 q1) fun z s2 ⟨zv,H2,I2,r2,q2⟩=>?_
   exact zg0 I2 hN hi hx r2 (fun s3 I3=>⟨_,H2,I3,q2⟩) hf
 rcases l with ⟨hk,hm⟩ | ⟨hk,c,hc,hcell⟩
 . exact wpAny_loadName_local I.ok.kind hk hn hm go
 . rcases hk with hk | hk
   . exact wpAny_loadName_cell I.ok.kind hk hc hcell go
   . rcases hx with k | k
     . have:X.env.scope.names.lookup x=some .free:=hk
       rw [k]at this;cases this
     . have:X.env.scope.names.lookup x=some .free:=hk
       rw [k]at this;cases this
end
section
variable {X:Cx}{pos:Pos}
def zzV (c:TT) (tb:TS):TS:=fun D σ H=>∃ W:Nat->St->Hp->Prop,(∃ m,W m σ H)∧∀ m σ H,W m σ H ->
 c σ H fun b H1=>if b=true then ∃ N:St->Hp->Prop,(∀ σ' H',N σ' H'->∃ m',m' < m∧W m' σ' H')∧tb { D with nx:=N,ct:=N,bk:=D.nx } σ H1 else D.nx σ H1
theorem zz4 {c:Expr}{body:List Stmt}{tc:TT}{tb:TS} (hp:PassesOwn (model X.prog X.w) X.A X.env X.xe) (hc:PT X c tc) (hb:PSs X body tb):PS X (.While c body [] pos) (zzV tc tb):=by
 intro pins s σ H D I h
 obtain ⟨W,⟨m0,w0⟩,turn⟩:=h
 refine wpAny_While (codeAny_whileLoop (fun n s'=>∃ σ' H',Inv X pins σ' H' s'∧W n σ' H') ?_ m0 ⟨σ,H,I,w0⟩)
 rintro n s1 ⟨σ1,H1,I1,w1⟩
 refine wpAny_passesOwn hp (thn (hc pins s1 σ1 H1 _ I1 (turn n σ1 H1 w1)) fun b s2 ⟨H2,I2,q2⟩=>?_)
 cases b with
 | true =>
   obtain ⟨N,hN,q2⟩:=q2
   rw [if_pos rfl]
   refine wpAny_passesOwn hp (thn (hb pins s2 σ1 H2 _ I2 q2) fun f s3 q3=>?_)
   cases f with
   | next =>
     obtain ⟨σ3,H3,I3,n3⟩:=q3
     obtain ⟨m',hm,w3⟩:=hN σ3 H3 n3
     exact ⟨m',hm,σ3,H3,I3,w3⟩
   | cont =>
     obtain ⟨σ3,H3,I3,n3⟩:=q3
     obtain ⟨m',hm,w3⟩:=hN σ3 H3 n3
     exact ⟨m',hm,σ3,H3,I3,w3⟩
   | brk=>exact q3
   | ret v=>exact q3
 | false =>
   rw [if_neg Bool.false_ne_true]
   exact wpAny_execs_nil ⟨σ1,H2,I2,q2⟩
end
structure It where
 go:Nat->Hp->Prop
 yld:Nat->Hp->V->Hp->Prop
 stop:Nat->Hp->Prop
def zdh (X:Cx) (pins:List (Addr×Obj)) (H:Hp) (b:Addr):Prop :=
 H b=none∧b≠X.env.locals∧b∉X.fs∧(b∈X.ex∨X.s₀.heap.objs.size<=b)∧(∀ x c,X.env.cells.lookup x=some c->c≠b)∧∀ p∈X.pn++pins,p.1≠b
theorem Inv.fpOk {X:Cx}{pins:List (Addr×Obj)}{σ:St}{H H':Hp}{s:Shared}{b:Addr} (I:Inv X pins σ H s) (hb:s.heap.objs.size<=b) (hn:H' b=none):zdh X pins H' b:=by
 refine ⟨hn,Nat.ne_of_gt (Nat.lt_of_lt_of_le I.lt hb),I.nofs hb,.inr (Nat.le_trans I.sz hb),fun x c e z=>?_,fun p hp z=>?_⟩
 . obtain ⟨v,q⟩:=I.cell x c e
   exact absurd (Nat.lt_of_lt_of_le q.lt (by rw [z];exact hb)) (Nat.lt_irrefl _)
 . exact absurd (Nat.lt_of_lt_of_le (Heap.lt_size (I.pin p hp).1) (by rw [z];exact hb)) (Nat.lt_irrefl _)
structure zgl (P:Program) (w:World) (K:PySem.W.Frag) (tg:Expr) (J:It) (fp:List Addr) (it:Addr) (tn:Nat->Heap->Prop):Prop where
 mem:it∈fp
 obj:∀ i h,tn i h->∀ b∈fp,∃ o,h.get? b=some o∧∀ v,o.data ≠ .cell v
 keep:∀ i h h',tn i h->(∀ b∈fp,∀ o,h.get? b=some o->h'.get? b=some o)->tn i h'
 item:∀ (X:Cx),X.prog=P->X.w=w->X.K=K->X.calm=true->∀ (i:Nat) (pins:List (Addr×Obj)) (s:Shared) (σ:St) (H:Hp) (E:Value->Shared->Prop),Inv X pins σ H s->(∀ b∈fp,zdh X pins H b)->tn i s.heap->J.go i H ->
   wpAny (model P w) X.A (pyNext (.ref it)) (fun r s1=>∃ u,r=some u ∧
     wpAny (model P w) X.A (letOwnedTupleGo tg (.ref it) u) (fun _ s2=>∃ x H',Inv X pins σ H' s2∧zn x u∧J.yld i H x H'∧tn (i+1) s2.heap∧∀ b∈fp,H' b=none) E s1) E s
 done:∀ (X:Cx),X.prog=P->X.w=w->X.K=K->X.calm=true->∀ (i:Nat) (pins:List (Addr×Obj)) (s:Shared) (σ:St) (H:Hp) (E:Value->Shared->Prop),Inv X pins σ H s->(∀ b∈fp,zdh X pins H b)->tn i s.heap->J.stop i H ->
   wpAny (model P w) X.A (pyNext (.ref it)) (fun r s1=>r=none∧Inv X pins σ H s1) E s
 self:∀ (A:Around) (i:Nat) (s:Shared) (Q:Value->Shared->Prop) (E:Value->Shared->Prop),tn i s.heap->Q (.ref it) s->wpAny (model P w) A (pyIter (.ref it)) Q E s
abbrev TI:=St->Hp->(It->Hp->Prop)->Prop
def PIE (X:Cx) (pins:List (Addr×Obj)) (σ:St) (tg:Expr) (R:It->Hp->Prop) (itv:Value) (s2:Shared):Prop :=
 ∃ (it:Addr) (fp:List Addr) (tn:Nat->Heap->Prop) (J:It) (H':Hp),itv = .ref it∧Inv X pins σ H' s2∧zgl X.prog X.w X.K tg J fp it tn∧tn 0 s2.heap∧(∀ b∈fp,zdh X pins H' b)∧R J H'
def PI (X:Cx) (tg iter:Expr) (wi:TI):Prop :=
 ∀ (pins:List (Addr×Obj)) (s:Shared) (σ:St) (H:Hp) (R:It->Hp->Prop),Inv X pins σ H s->wi σ H R ->
   wpAny (model X.prog X.w) X.A (eval iter X.env) (fun v s1=>wpAny (model X.prog X.w) X.A (pyIter v) (PIE X pins σ tg R) X.xe s1) X.xe s
theorem zn4 {M:Model}{A:Around}{E:Value->Shared->Prop}{s:Shared}{tg:Expr}{it:Addr}{u:Value}{o:Obj}{n:String}{vs:Array Value}{Q:Unit->Shared->Prop} (ho:s.heap.get? it=some o) (hc:o.cls = .type n) (hd:o.data = .fields vs)
   (hn:["enumerate", "zip", "dict_itemiterator", "dict_reverseitemiterator", "odict_iterator", "itertools.zip_longest", "itertools.pairwise"].contains n=false) (hQ:Q () s):wpAny M A (letOwnedTupleGo tg (.ref it) u) Q E s:=by
 unfold letOwnedTupleGo
 cases tg <;> first
   | exact wpAny_pure hQ
   | (cases u <;> first
       | exact wpAny_pure hQ
       | (refine wpAny_bind (wpAny_load ho ?_)
          rw [hc,hd]
          show wpAny M A (if (["enumerate", "zip", "dict_itemiterator", "dict_reverseitemiterator", "odict_iterator", "itertools.zip_longest", "itertools.pairwise"].contains n && vs[0]? == some (rawInt _))=true then _ else _) Q E s
          rw [if_neg (by intro h;rw [hn,Bool.false_and]at h;cases h)]
          exact wpAny_pure hQ))
def Itl (K:PySem.W.Frag) (a:Addr):It :=
 ⟨fun i H=>∃ xs x,SqL K H a xs∧xs[i]?=some x,fun i H x H'=>H'=H∧∀ xs,SqL K H a xs->xs[i]?=some x,fun i H=>∃ xs,SqL K H a xs∧xs.length<=i⟩
def Itr (lo:Int) (n:Nat):It:=⟨fun i _=>i < n,fun i H x H'=>H'=H∧x = .int (lo+i),fun i _=>n<=i⟩
theorem zzH {P:Program}{w:World}{K:PySem.W.Frag}{tg:Expr} (a it:Addr):zgl P w K tg (Itl K a) [it] it (fun i h=>h.IsListIter it a i) where
 mem:=by simp
 obj:=fun i h st b hb=>by
   have e:b=it:=by simpa using hb
   subst e
   obtain ⟨o,e,c,d⟩:=st
   exact ⟨o,e,fun v z=>by rw [d]at z;cases z⟩
 keep:=fun i h h' st k=>st.at fun o e=>k it (by simp) o e
 item:=by
   intro X hP hw hK hc i pins s σ H E I hf st hg
   subst hP hw hK
   obtain ⟨xs,x,hq,hx⟩:=hg
   obtain ⟨its,rv,p,hz⟩:=I.list hq
   obtain ⟨u,hu,ru⟩:=rv.get hx
   obtain ⟨f0,f1,f2,f3,f4,f5⟩:=hf it (by simp)
   refine wpAny_pyNext_list_item st p.isList (x:=u) (by simpa using hu) fun h' st' sb=>?_
   have I1:Inv X pins σ H { s with heap:=h' }:=I.turned (t':=s.toks) (fun b o hb e=>(sb.2 b hb).trans e) f0 f1 f3 f4 f5
   obtain ⟨o,e,c,d⟩:=id st'
   exact ⟨u,rfl,zn4 (s:={ s with heap:=h' }) e c d (by decide) ⟨x,H,I1,ru,⟨rfl,fun ys hy=>by rw [I.list_inj hy hq];exact hx⟩,st',fun b hb=>(hf b hb).1⟩⟩
 done:=by
   intro X hP hw hK hc i pins s σ H E I hf st hg
   subst hP hw hK
   obtain ⟨xs,hq,hx⟩:=hg
   obtain ⟨its,rv,p,hz⟩:=I.list hq
   obtain ⟨f0,f1,f2,f3,f4,f5⟩:=hf it (by simp)
   have hl:=rv.length
   exact wpAny_pyNext_list_end (I.ok.hd hc) st p.isList (by simp;omega) fun h' eb=>⟨rfl,I.turned (t':=s.toks) (fun b o hb e=>eb b o hb e) f0 f1 f3 f4 f5⟩
 self:=fun _ _ _ _ _ st h=>wpAny_pyIter_listiter st h
theorem zCz {P:Program}{w:World}{K:PySem.W.Frag}{tg:Expr} (it:Addr) (lo:Int) (n:Nat):zgl P w K tg (Itr lo n) [it] it (fun i h=>IsRangeIter h it (lo+(i:Nat) * 1) ((n:Int) - (i:Nat)) 1) where
 mem:=by simp
 obj:=fun i h st b hb=>by
   have e:b=it:=by simpa using hb
   subst e
   exact ⟨_,st,fun v z=>by
     have z':Data.fields _=Data.cell v:=z
     cases z'⟩
 keep:=fun i h h' st k=>k it (by simp) _ st
 item:=by
   intro X hP hw hK hc i pins s σ H E I hf st hg
   subst hP hw hK
   obtain ⟨f0,f1,f2,f3,f4,f5⟩:=hf it (by simp)
   have W:=Walks.range (prog:=X.prog) (w:=X.w) (I.ok.hd hc) it lo 1 n
   refine W.item i s _ _ hg st fun v h' tk hv st' kk=>?_
   obtain ⟨t,rfl⟩:=hv
   have I1:Inv X pins σ H { s with heap:=h',toks:=tk }:=I.turned (fun b o hb e=>kk b o (by simpa using hb) e) f0 f1 f3 f4 f5
   refine ⟨_,rfl,zn4 (s:={ s with heap:=h',toks:=tk }) (n :="range_iterator") st' rfl rfl (by decide) ⟨.int (lo+i),H,I1,⟨t,?_⟩,⟨rfl,rfl⟩,st',fun b hb=>(hf b hb).1⟩⟩
   rw [Int.mul_one]
 done:=by
   intro X hP hw hK hc i pins s σ H E I hf st hg
   subst hP hw hK
   obtain ⟨f0,f1,f2,f3,f4,f5⟩:=hf it (by simp)
   exact wpAny_pyNext_range_end (I.ok.hd hc) st (by have:n<=i:=hg;omega) fun h' eb=>⟨rfl,I.turned (t':=s.toks) (fun b o hb e=>eb b o hb e) f0 f1 f3 f4 f5⟩
 self:=fun _ _ _ _ _ st h=>wpAny_pyIter_rangeiter st h
end L2
namespace L2
open PySem PySem.Spec PyProof.Rows
section
variable {X:Cx}{tg:Expr}
def zxo (K:PySem.W.Frag) (tl:TE):TI:=fun σ H R=>tl σ H fun x H1=>∃ a,x = .ref a∧(∃ xs,SqL K H1 a xs)∧R (Itl K a) H1
theorem zz3 {l:Expr}{tl:TE} (hl:PE X l tl):PI X tg l (zxo X.K tl):=by
 intro pins s σ H R I h
 refine thn (hl pins s σ H _ I h) fun v s1 ⟨x,H1,I1,r1,q1⟩=>?_
 obtain ⟨a,e,⟨xs,hq⟩,q⟩:=q1
 subst e
 cases r1
 obtain ⟨its,rv,p,hz⟩:=I1.list hq
 refine wpAny_pyIter_list p.isList ?_
 refine ⟨s1.heap.objs.size,[s1.heap.objs.size],_,_,H1,rfl,I1.kept (t':=s1.toks) fun b o e=>Heap.get?_push_of_some _ e,zzH a _,⟨_,Heap.get?_push_size _ rfl,rfl,rfl⟩,fun b hb=>?_,q⟩
 have e:b=s1.heap.objs.size:=by simpa using hb
 subst e
 exact I1.fpOk (Nat.le_refl _) (I1.hok.fresh (Nat.le_refl _))
theorem zx8 {pins:List (Addr×Obj)}{σ:St}{H:Hp}{s:Shared}{R:It->Hp->Prop}{E:Value->Shared->Prop}{lo hi:Int}{t u v:Tok}{tk:Nat} (I:Inv X pins σ H s) (h1:-(2 ^ 62)<=lo) (h2:lo < 2 ^ 62) (h3:-(2 ^ 62)<=hi) (h4:hi < 2 ^ 62)
   (q:R (Itr lo (hi - lo).toNat) H):wpAny (model X.prog X.w) X.A (pyIter (.ref s.heap.objs.size)) (PIE X pins σ tg R) E { s with heap:=s.heap.push { cls := .type "range",data := .fields #[.int lo t,.int hi u,.int 1 v] },toks:=tk }:=by
 refine wpAny_pyIter_range (IsRange.new ..) (small_one h1 h2 h3 h4) ?_
 have I1:Inv X pins σ H { s with heap:=s.heap.push { cls := .type "range",data := .fields #[.int lo t,.int hi u,.int 1 v] },toks:=tk }:=I.kept fun b o e=>Heap.get?_push_of_some _ e
 refine ⟨(s.heap.push { cls := .type "range",data := .fields #[.int lo t,.int hi u,.int 1 v] }).objs.size,[(s.heap.push { cls := .type "range",data := .fields #[.int lo t,.int hi u,.int 1 v] }).objs.size],_,_,H,rfl,
   I1.kept (t':=tk) fun b o e=>Heap.get?_push_of_some _ e,zCz _ lo (hi - lo).toNat,?_,fun b hb=>?_,q⟩
 . have e1:lo+((0:Nat):Int) * 1=lo:=by simp
   have e2:(((hi - lo).toNat:Nat):Int) - ((0:Nat):Int)=Builtin.Range.rangeSize lo hi 1:=by rw [rangeSize_one];split <;> omega
   show IsRangeIter _ _ (lo+((0:Nat):Int) * 1) ((((hi - lo).toNat:Nat):Int) - ((0:Nat):Int)) 1
   rw [e1,e2]
   exact Heap.get?_push_size _ rfl
 . have e:b=(s.heap.push { cls := .type "range",data := .fields #[.int lo t,.int hi u,.int 1 v] }).objs.size:=by simpa using hb
   subst e
   exact I1.fpOk (Nat.le_refl _) (I1.hok.fresh (Nat.le_refl _))
def zzy (ta:TA):TI:=fun σ H R=>ta σ H fun vs H1=>∃ j:Int,vs=[.int j]∧-(2 ^ 62)<=j∧j < 2 ^ 62∧R (Itr 0 j.toNat) H1
theorem zA1 {a:Expr}{ta:TA}{p pos:Pos} (hg:Gl X "range") (hm:X.mg "range" = none) (ha:PA X [a] ta) (hs:starEach [a] X.env=[(false,eval a X.env)]:=by rfl):PI X tg (.Call (.Name "range" p) [a] [] pos) (zzy ta):=by
 intro pins s σ H R I h
 refine Call_ (zf5 I hg hm boot_range (PyProof.Rows.callWith_type1 (thn (ha pos pins s σ H _ I h) fun us s1 ⟨vs,H1,I1,r1,q1⟩=>?_) hs rfl))
 obtain ⟨j,e,q1,q2,q⟩:=q1
 subst e
 cases r1 with
 | cons r rr =>
   cases rr
   obtain ⟨t,rfl⟩:=r
   exact call_range_1 (zx8 I1 (by omega) (by omega) q1 q2 (by simpa using q))
def zqH (wi:TI) (g:TG) (tb:TS):TS:=fun D σ H=>wi σ H fun J H1=>∃ W:Nat->Nat->St->Hp->Prop,(∃ m,W 0 m σ H1)∧∀ i m σ H,W i m σ H ->
 (J.stop i H∧D.nx σ H)∨(J.go i H∧∃ N:St->Hp->Prop,(∀ σ' H',N σ' H'->∃ m',m' < m∧W (i+1) m' σ' H')∧∀ x H',J.yld i H x H'->g x σ H' fun σ2 H2=>tb { D with nx:=N,ct:=N,bk:=D.nx } σ2 H2)
def zho (fp:List Addr) (h:Heap):List (Addr×Obj):=fp.filterMap fun b=>(h.get? b).map fun o=>(b,o)
theorem zhU {fp:List Addr}{h:Heap}{b:Addr}{o:Obj} (hb:b∈fp) (e:h.get? b=some o):(b,o)∈zho fp h:=List.mem_filterMap.mpr ⟨b,hb,by rw [e];rfl⟩
theorem zCv {fp:List Addr}{h:Heap}{p:Addr×Obj} (hp:p∈zho fp h):p.1∈fp∧h.get? p.1=some p.2:=by
 obtain ⟨b,hb,e⟩:=List.mem_filterMap.mp hp
 cases q:h.get? b with
 | none=>rw [q]at e;cases e
 | some o =>
   rw [q]at e
   have e':(b,o)=p:=Option.some.inj e
   subst e'
   exact ⟨hb,q⟩
theorem Inv.pinned {pins:List (Addr×Obj)}{σ:St}{H:Hp}{s:Shared}{fp:List Addr} (I:Inv X pins σ H s) (hf:∀ b∈fp,zdh X pins H b) (ho:∀ b∈fp,∃ o,s.heap.get? b=some o∧∀ v,o.data ≠ .cell v):Inv X (pins++zho fp s.heap) σ H s :=
 I.pins_of fun p hp=>(List.mem_append.mp hp).elim (fun z=>I.pin p (List.mem_append_right _ z)) fun z=>by
   obtain ⟨hb,e⟩:=zCv z
   obtain ⟨f0,f1,f2,_⟩:=hf p.1 hb
   obtain ⟨o,e',d⟩:=ho p.1 hb
   rw [e]at e';cases e'
   exact ⟨e,f0,f1,f2,d⟩
theorem Inv.unpinned {pins pl:List (Addr×Obj)}{σ:St}{H:Hp}{s:Shared} (I:Inv X (pins++pl) σ H s):Inv X pins σ H s:=I.pins_of fun p hp=>I.pin p (List.mem_append_right _ (List.mem_append_left _ hp))
theorem zsx {iter:Expr}{body:List Stmt}{wi:TI}{g:TG}{tb:TS}{pos:Pos} (hp:PassesOwn (model X.prog X.w) X.A X.env X.xe) (hc:X.calm=true) (hi:PI X tg iter wi) (hg:PG X tg g) (hb:PSs X body tb)
   (hs:∀ x,foldedSetIterable iter X.env x=pure x:=by intro _;rfl):PS X (.For tg iter body [] pos) (zqH wi g tb):=by
 intro pins s σ H D I h
 refine wpAny_For (thn (hi pins s σ H _ I h) fun v s1 h1=>thn h1 fun itv s2 h2=>?_) hs
 obtain ⟨it,fp,tn,J,H2,e,I2,T,st2,f2,W,⟨m0,w0⟩,turn⟩:=h2
 subst e
 have stat:∀ {H':Hp},(∀ b∈fp,H' b=none)->∀ b∈fp,zdh X pins H' b:=fun hn b hb=>⟨hn b hb,(f2 b hb).2⟩
 refine codeAny_forLoop_any (fun n s'=>∃ i σ' H',Inv X pins σ' H' s'∧tn i s'.heap∧(∀ b∈fp,H' b=none)∧W i n σ' H') ?_ m0 ⟨0,σ,H2,I2,st2,fun b hb=>(f2 b hb).1,w0⟩
 rintro n s3 ⟨i,σ3,H3,I3,st3,fr3,w3⟩
 rcases turn i n σ3 H3 w3 with ⟨stop,qn⟩ | ⟨go,N,hN,step⟩
 . refine wpAny_passesOwn hp (thn (T.done X rfl rfl rfl hc i pins s3 σ3 H3 X.xe I3 (stat fr3) st3 stop) fun r s4 ⟨hr,I4⟩=>?_)
   subst hr
   exact wpAny_execs_nil ⟨σ3,H3,I4,qn⟩
 . refine wpAny_passesOwn hp (thn (T.item X rfl rfl rfl hc i pins s3 σ3 H3 X.xe I3 (stat fr3) st3 go) fun r s4 ⟨u,hr,h4⟩=>?_)
   subst hr
   refine wpAny_passesOwn hp (thn h4 fun _ s5 ⟨x,H5,I5,r5,y5,st5,fr5⟩=>?_)
   have I5':=I5.pinned (stat fr5) (T.obj _ _ st5)
   refine wpAny_passesOwn hp (thn (hg _ s5 σ3 H5 x u _ I5' r5 (step x H5 y5)) fun _ s6 ⟨σ6,H6,I6,q6⟩=>?_)
   refine wpAny_passesOwn hp (thn (hb _ s6 σ6 H6 _ I6 q6) fun f s7 q7=>?_)
   have again:∀ {σ7:St} {H7:Hp},Inv X (pins++zho fp s5.heap) σ7 H7 s7->N σ7 H7->∃ m,m < n∧∃ i σ' H',Inv X pins σ' H' s7∧tn i s7.heap∧(∀ b∈fp,H' b=none)∧W i m σ' H':=fun {σ7 H7} I7 n7=>by
     obtain ⟨m',hm,w7⟩:=hN σ7 H7 n7
     refine ⟨m',hm,i+1,σ7,H7,I7.unpinned,T.keep _ _ _ st5 fun b hb o e=>(I7.pin (b,o) (List.mem_append_right _ (List.mem_append_right _ (zhU hb e)))).1,fun b hb=>?_,w7⟩
     obtain ⟨o,e,d⟩:=T.obj _ _ st5 b hb
     exact (I7.pin (b,o) (List.mem_append_right _ (List.mem_append_right _ (zhU hb e)))).2.1
   cases f with
   | next=>obtain ⟨σ7,H7,I7,n7⟩:=q7;exact again I7 n7
   | cont=>obtain ⟨σ7,H7,I7,n7⟩:=q7;exact again I7 n7
   | brk=>obtain ⟨σ7,H7,I7,q7⟩:=q7;exact ⟨σ7,H7,I7.unpinned,q7⟩
   | ret v=>obtain ⟨x7,σ7,H7,I7,r7,q7⟩:=q7;exact ⟨x7,σ7,H7,I7.unpinned,r7,q7⟩
end
end L2
namespace L2
open PySem PySem.Spec PyProof.Rows
abbrev R2:=V->V->Hp->VK->Prop
def OpR (X:Cx) (f:Value->Value->Sem Value) (r:R2):Prop :=
 ∀ (pins:List (Addr×Obj)) (s:Shared) (σ:St) (H:Hp) (x y:V) (v u:Value) (Q:VK),Inv X pins σ H s->zn x v->zn y u->r x y H Q ->
   wpAny (model X.prog X.w) X.A (f v u) (EP X pins σ Q) X.xe s
def UnR (X:Cx) (f:Value->Sem Value) (r:V->Hp->VK->Prop):Prop :=
 ∀ (pins:List (Addr×Obj)) (s:Shared) (σ:St) (H:Hp) (x:V) (v:Value) (Q:VK),Inv X pins σ H s->zn x v->r x H Q ->
   wpAny (model X.prog X.w) X.A (f v) (EP X pins σ Q) X.xe s
def zdE (X:Cx) (f:Value) (r:List V->Hp->VK->Prop):Prop :=
 ∀ (pins:List (Addr×Obj)) (s:Shared) (σ:St) (H:Hp) (xs:List V) (us:List Value) (Q:VK),Inv X pins σ H s->zp xs us->r xs H Q ->
   wpAny (model X.prog X.w) X.A (call f us) (EP X pins σ Q) X.xe s
def zBj (X:Cx) (r:V->Hp->(Bool->Hp->Prop)->Prop):Prop :=
 ∀ (pins:List (Addr×Obj)) (s:Shared) (σ:St) (H:Hp) (x:V) (v:Value) (Q:Bool->Hp->Prop),Inv X pins σ H s->zn x v->r x H Q ->
   wpAny (model X.prog X.w) X.A (truthy v) (TP X pins σ Q) X.xe s
def tOp (r:R2) (ta tb:TE):TE:=fun σ H Q=>ta σ H fun x H1=>tb σ H1 fun y H2=>r x y H2 Q
def tUn (r:V->Hp->VK->Prop) (ta:TE):TE:=fun σ H Q=>ta σ H fun x H1=>r x H1 Q
def rI (C:Int->Int->Prop) (g:Int->Int->V):R2:=fun x y H Q=>∃ i j,x = .int i∧y = .int j∧C i j∧Q (g i j) H
def rI0 (g:Int->Int->V):R2:=fun x y H Q=>∃ i j,x = .int i∧y = .int j∧Q (g i j) H
def rU (g:Int->V):V->Hp->VK->Prop:=fun x H Q=>∃ i,x = .int i∧Q (g i) H
section
variable {X:Cx}{a b c:Expr}{ta tb tc:TE}{pos:Pos}
theorem znO (ha:PE X a ta) (hb:PE X b tb) {pins:List (Addr×Obj)}{s:Shared}{σ:St}{H:Hp}{R:V->V->Hp->Prop} (I:Inv X pins σ H s)
   (h:ta σ H fun x H1=>tb σ H1 fun y H2=>R x y H2) {Q:Value->Shared->Prop} {f:Value->Value->Sem Value}
   (hf:∀ v u s2 x y H2,Inv X pins σ H2 s2->zn x v->zn y u->R x y H2->wpAny (model X.prog X.w) X.A (f v u) Q X.xe s2) :
   wpAny (model X.prog X.w) X.A (eval a X.env) (fun v s₁=>wpAny (model X.prog X.w) X.A (eval b X.env) (fun u s₂=>wpAny (model X.prog X.w) X.A (f v u) Q X.xe s₂) X.xe s₁) X.xe s:=by
 refine thn (ha pins s σ H _ I h) fun v s1 ⟨x,H1,I1,r1,q1⟩=>?_
 refine thn (hb pins s1 σ H1 _ I1 q1) fun u s2 ⟨y,H2,I2,r2,q2⟩=>?_
 exact hf v u s2 x y H2 I2 r1 r2 q2
theorem znT {op:Operator}{r:R2} (ho:OpR X (binaryOp op) r) (ha:PE X a ta) (hb:PE X b tb):PE X (.BinOp a op b pos) (tOp r ta tb):=by
 intro pins s σ H Q I h
 exact wpAny_BinOp (znO ha hb I h fun v u s2 x y H2 I2 rx ry q=>ho pins s2 σ H2 x y v u Q I2 rx ry q)
theorem zA2 {op:UnaryOp}{r:V->Hp->VK->Prop} (ho:UnR X (unaryOp op) r) (ha:PE X a ta):PE X (.UnaryOp op a pos) (tUn r ta):=by
 intro pins s σ H Q I h
 exact UnaryOp_ (thn (ha pins s σ H _ I h) fun v s1 ⟨x,H1,I1,r1,q1⟩=>ho pins s1 σ H1 x v Q I1 r1 q1)
theorem opI {f:Value->Value->Sem Value}{C:Int->Int->Prop}{g:Int->Int->Int}
   (rule:∀ (i j:Int) (t u:Tok) (s:Shared) (Q:Value->Shared->Prop) (E:Value->Shared->Prop),C i j->Q (.int (g i j) s.toks) { s with toks:=s.toks+1 }->wpAny (model X.prog X.w) X.A (f (.int i t) (.int j u)) Q E s) :
   OpR X f (rI C fun i j=> .int (g i j)):=by
 intro pins s σ H x y v u Q I rx ry h
 obtain ⟨i,j,rfl,rfl,hc,q⟩:=h
 obtain ⟨t,rfl⟩:=rx
 obtain ⟨t',rfl⟩:=ry
 exact rule i j t t' s _ _ hc ⟨.int (g i j),H,I.tok _,⟨_,rfl⟩,q⟩
theorem zoc {f:Value->Value->Sem Value}{g:Int->Int->Int}
   (rule:∀ (i j:Int) (t u:Tok) (s:Shared) (Q:Value->Shared->Prop) (E:Value->Shared->Prop),Q (.int (g i j) s.toks) { s with toks:=s.toks+1 }->wpAny (model X.prog X.w) X.A (f (.int i t) (.int j u)) Q E s) :
   OpR X f (rI0 fun i j=> .int (g i j)):=by
 intro pins s σ H x y v u Q I rx ry h
 obtain ⟨i,j,rfl,rfl,q⟩:=h
 obtain ⟨t,rfl⟩:=rx
 obtain ⟨t',rfl⟩:=ry
 exact rule i j t t' s _ _ ⟨.int (g i j),H,I.tok _,⟨_,rfl⟩,q⟩
theorem zok {f:Value->Value->Sem Value}{g:Int->Int->Bool}
   (rule:∀ (i j:Int) (t u:Tok) (s:Shared) (Q:Value->Shared->Prop) (E:Value->Shared->Prop),Q (.bool (g i j)) s->wpAny (model X.prog X.w) X.A (f (.int i t) (.int j u)) Q E s) :
   OpR X f (rI0 fun i j=> .bl (g i j)):=by
 intro pins s σ H x y v u Q I rx ry h
 obtain ⟨i,j,rfl,rfl,q⟩:=h
 obtain ⟨t,rfl⟩:=rx
 obtain ⟨t',rfl⟩:=ry
 exact rule i j t t' s _ _ ⟨.bl (g i j),H,I,rfl,q⟩
def zst (i j:Int):Prop:=0 < j∧j < 1073741824
def zhB (i j:Int):Prop:=(-(2 ^ 64) < i∧i < 2 ^ 64)∨(-(2 ^ 64) < j∧j < 2 ^ 64)
theorem zhB.ok {i j:Int} (h:zhB i j):IntMulOk i j:=by
 rcases h with ⟨h1,h2⟩ | ⟨h1,h2⟩
 . exact .of_left (intBits_le_64 h1 h2)
 . exact .of_right (intBits_le_64 h1 h2)
theorem zx6:OpR X (binaryOp .Add) (rI0 fun i j=> .int (i+j)):=zoc fun _ _ _ _ _ _ _ q=>add_int q
theorem zx7:OpR X (binaryOp .Sub) (rI0 fun i j=> .int (i - j)):=zoc fun _ _ _ _ _ _ _ q=>sub_int q
theorem zAG:OpR X (binaryOp .Mult) (rI zhB fun i j=> .int (i * j)):=opI fun _ _ _ _ _ _ _ hc q=>mul_int q hc.ok
theorem zCa:OpR X (binaryOp .FloorDiv) (rI zst fun i j=> .int (i / j)):=opI fun i j _ _ _ _ _ hc q=>by
 have h1:(0:Int) < j:=hc.1
 have h2:j < 1073741824:=hc.2
 exact floordiv_int (by omega) (by rw [Int.fdiv_eq_ediv_of_nonneg i (by omega)];exact q) (.inl (PyProof.noPylong_small (by omega)))
theorem zAM:OpR X (binaryOp .Mod) (rI (fun _ j=>0 < j) fun i j=> .int (i % j)):=opI fun i j _ _ _ _ _ hc q=>by
 have h1:(0:Int) < j:=hc
 exact mod_int' (by omega) (by rw [Int.fmod_eq_emod_of_nonneg i (by omega)];exact q)
theorem zAu:OpR X (inplaceOp .Add) (rI0 fun i j=> .int (i+j)):=zoc fun _ _ _ _ _ _ _ q=>iadd_int q
theorem unI {f:Value->Sem Value}{g:Int->Int}
   (rule:∀ (i:Int) (t:Tok) (s:Shared) (Q:Value->Shared->Prop) (E:Value->Shared->Prop),Q (.int (g i) s.toks) { s with toks:=s.toks+1 }->wpAny (model X.prog X.w) X.A (f (.int i t)) Q E s) :
   UnR X f (rU fun i=> .int (g i)):=by
 intro pins s σ H x v Q I rx h
 obtain ⟨i,rfl,q⟩:=h
 obtain ⟨t,rfl⟩:=rx
 exact rule i t s _ _ ⟨.int (g i),H,I.tok _,⟨_,rfl⟩,q⟩
theorem zyL:UnR X (unaryOp .USub) (rU fun i=> .int (-i)):=unI fun _ _ _ _ _ q=>neg_int q
end
section
variable {X:Cx}{a b c:Expr}{ta tb tc:TE}{pos:Pos}
theorem zsr {pins:List (Addr×Obj)}{σ:St}{H:Hp}{s:Shared}{Q:VK}{k k':Bool} (I:Inv X pins σ H s) (q:Q (.bl k) H) (e:k=k'):EP X pins σ Q (.bool k') s:=by
 subst e
 exact ⟨.bl k,H,I,rfl,q⟩
theorem zBE:OpR X (compareOp .Lt) (rI0 fun i j=> .bl (decide (i < j))):=zok fun _ _ _ _ _ _ _ q=>lt_int q
theorem zAv:OpR X (compareOp .LtE) (rI0 fun i j=> .bl (decide (i<=j))):=zok fun _ _ _ _ _ _ _ q=>le_int q
theorem zBS:OpR X (compareOp .Gt) (rI0 fun i j=> .bl (decide (j < i))):=zok fun _ _ _ _ _ _ _ q=>gt_int q
theorem zBV:OpR X (compareOp .Is) (fun x y H Q=>y = .non∧Q (.bl (decide (x = .non))) H):=by
 intro pins s σ H x y v u Q I rx ry h
 obtain ⟨rfl,q⟩:=h
 cases ry
 refine is_none_gen (zsr I q ?_)
 cases x <;> first
   | (cases rx;rfl)
   | (obtain ⟨t,rfl⟩:=rx;rfl)
theorem zCG:OpR X (compareOp .IsNot) (fun x y H Q=>y = .non∧Q (.bl (!decide (x = .non))) H):=by
 intro pins s σ H x y v u Q I rx ry h
 obtain ⟨rfl,q⟩:=h
 cases ry
 refine isnot_none_gen (zsr I q ?_)
 cases x <;> first
   | (cases rx;rfl)
   | (obtain ⟨t,rfl⟩:=rx;rfl)
def zC5:HO->Bool
 | .lst _=>true
 | .ins _ _ _=>true
 | _=>false
theorem OpR.or {f:Value->Value->Sem Value}{r r':R2} (h:OpR X f r) (h':OpR X f r'):OpR X f (fun x y H Q=>r x y H Q∨r' x y H Q):=by
 intro pins s σ H x y v u Q I rx ry q
 rcases q with q | q
 . exact h pins s σ H x y v u Q I rx ry q
 . exact h' pins s σ H x y v u Q I rx ry q
theorem zba (b:Expr) {op:CmpOp} (h:op ≠ .In:=by decide) (h2:op ≠ .NotIn:=by decide):behindInMarks op b=false:=by
 have e1:(op == CmpOp.In)=false:=by cases op <;> first | rfl | exact absurd rfl h
 have e2:(op == CmpOp.NotIn)=false:=by cases op <;> first | rfl | exact absurd rfl h2
 cases b <;> simp [behindInMarks,e1,e2]
theorem zyk {op:CmpOp}{r:R2} (ho:OpR X (compareOp op) r) (ha:PE X a ta) (hb:PE X b tb) (hm:behindInMarks op b=false):PE X (.Compare a [op] [b] pos) (tOp r ta tb):=by
 intro pins s σ H Q I h
 exact wpAny_Compare1 (znO ha hb I h fun v u s2 x y H2 I2 rx ry q=>ho pins s2 σ H2 x y v u Q I2 rx ry q) hm
def zxQ (t:TE):TT:=fun σ H Q=>t σ H fun x H'=>∃ k,x = .bl k∧Q k H'
theorem zAk {op:CmpOp}{r:R2} (ho:OpR X (compareOp op) r) (ha:PE X a ta) (hb:PE X b tb) (hm:behindInMarks op b=false):PT X (.Compare a [op] [b] pos) (zxQ (tOp r ta tb)):=by
 intro pins s σ H Q I h
 refine wpAny_isTrue_Compare1 (thn (ha pins s σ H _ I h) fun v s1 ⟨x,H1,I1,r1,q1⟩=>thn (hb pins s1 σ H1 _ I1 q1) fun u s2 ⟨y,H2,I2,r2,q2⟩ =>
   thn (ho pins s2 σ H2 x y v u _ I2 r1 r2 q2) fun c s3 ⟨z,H3,I3,r3,k,e,q3⟩=>?_) hm
 subst e
 cases r3
 exact wpAny_truthy_bool ⟨H3,I3,q3⟩
def zsN (r r':R2) (ta tb tc:TE):TE:=fun σ H Q=>ta σ H fun x H1=>tb σ H1 fun y H2=>r x y H2 fun z H3=>∃ k,z = .bl k ∧
 (if k=true then tc σ H3 fun w' H4=>r' y w' H4 Q else Q (.bl false) H3)
theorem zyw {op op':CmpOp}{r r':R2} (ho:OpR X (compareOp op) r) (ho':OpR X (compareOp op') r') (ha:PE X a ta) (hb:PE X b tb) (hc:PE X c tc)
   (hm:lastMarks [op,op'] [b,c]=false:=by with_unfolding_all rfl):PE X (.Compare a [op,op'] [b,c] pos) (zsN r r' ta tb tc):=by
 intro pins s σ H Q I h
 refine Compare_chain (thn (ha pins s σ H _ I h) fun v s1 ⟨x,H1,I1,r1,q1⟩=>chain_link (thn (hb pins s1 σ H1 _ I1 q1) fun u s2 ⟨y,H2,I2,r2,q2⟩ =>
   thn (ho pins s2 σ H2 x y v u _ I2 r1 r2 q2) fun d s3 ⟨z,H3,I3,r3,k,e,q3⟩=>?_)) hm
 subst e
 cases r3
 refine wpAny_truthy_bool ?_
 cases k with
 | false=>exact ite_ff ⟨.bl false,H3,I3,rfl,q3⟩
 | true=>exact ite_tt (chain_last (thn (hc pins s3 σ H3 _ I3 q3) fun w' s4 ⟨z',H4,I4,r4,q4⟩=>ho' pins s4 σ H4 y z' u w' Q I4 r2 r4 q4))
def zr7 (K:PySem.W.Frag) (x:V) (H:Hp) (k:Bool):Prop :=
 match x with
 | .non=>k=false
 | .bl b=>k=b
 | .int i=>k=(i != 0)
 | .str y=>y.length<=sizeLine∧k=((y.length:Int) != 0)
 | .byt y=>y.size<=sizeLine∧k=((y.size:Int) != 0)
 | .ref p=>(∃ xs,SqL K H p xs∧k=!xs.isEmpty)∨(∃ xs,SqT K H p xs∧k=!xs.isEmpty)∨∃ kvs,H p=some (.dK kvs)∧k=!kvs.isEmpty
 | _=>False
theorem zyQ {κ:Type}{kvs:List (κ×V)}{vs:List (κ×Value)} (r:KV kvs vs):(!vs.isEmpty)=!kvs.isEmpty:=by
 cases r <;> rfl
theorem zsQ {xs:List V}{its:List Value} (r:zp xs its):(!its.toArray.isEmpty)=!xs.isEmpty:=by
 cases r <;> simp
theorem zhg:(sizeLine:Nat) < 2 ^ 63:=by rw [sizeLine_eq];decide
theorem zz5:zBj X (fun x H Q=>∃ k,zr7 X.K x H k∧Q k H):=by
 intro pins s σ H x v Q I rx h
 obtain ⟨k,e,q⟩:=h
 have hl:=zhg
 have hs:sizeLine=16777216:=sizeLine_eq
 cases x with
 | non =>
   cases rx
   have e':k=false:=e
   subst e'
   exact truthy_none ⟨H,I,q⟩
 | bl b =>
   cases rx
   have e':k=b:=e
   subst e'
   exact wpAny_truthy_bool ⟨H,I,q⟩
 | int i =>
   obtain ⟨t,rfl⟩:=rx
   have e':k=(i != 0):=e
   subst e'
   exact PySem.P.truthy_int ⟨H,I,q⟩
 | str y =>
   obtain ⟨t,rfl⟩:=rx
   obtain ⟨hy,e'⟩:y.length<=sizeLine∧k=((y.length:Int) != 0):=e
   subst e'
   exact PySem.P.truthy_str (by omega) ⟨H,I.tok _,q⟩
 | byt y =>
   obtain ⟨t,rfl⟩:=rx
   obtain ⟨hy,e'⟩:y.size<=sizeLine∧k=((y.size:Int) != 0):=e
   subst e'
   exact PySem.W.truthy_bytes (by omega) ⟨H,I.tok _,q⟩
 | ref p =>
   cases rx
   have e':(∃ xs,SqL X.K H p xs∧k=!xs.isEmpty)∨(∃ xs,SqT X.K H p xs∧k=!xs.isEmpty)∨∃ kvs,H p=some (.dK kvs)∧k=!kvs.isEmpty:=e
   rcases e' with ⟨xs,hx,e'⟩ | ⟨xs,hx,e'⟩ | ⟨kvs,hx,e'⟩
   . subst e'
     obtain ⟨its,r,pl,hz⟩:=I.list hx
     have hlen:=r.length
     exact wpAny_truthy_list pl.isList (by simp only [List.size_toArray];omega) ⟨H,I.tok _,by rw [zsQ r];exact q⟩
   . subst e'
     obtain ⟨its,r,pl,hz⟩:=I.tuple hx
     have hlen:=r.length
     exact truthy_tuple pl (by simp only [List.size_toArray];omega) ⟨H,I.tok _,by rw [zsQ r];exact q⟩
   . subst e'
     obtain ⟨hz,hS,vs,r,m⟩:kvs.length<=sizeLine∧(p == sysModules)=false∧∃ vs,KV kvs vs∧s.heap.DictOf (zbS X.prog X.w) p vs:=I.hok p _ hx
     have hlen:kvs.length=vs.length:=Paired.length r
     exact wpAny_truthy_dict hS m (by omega) ⟨H,I.tok _,by rw [zyQ r];exact q⟩
 | _=>exact (show False from e).elim
theorem zCs (ha:PE X a ta) (he:∀ whole,isTrue a X.env whole=(do let v <- whole;standAt a.pos;holding [v] (truthy v))) :
   PT X a (fun σ H Q=>ta σ H fun x H'=>∃ k,zr7 X.K x H' k∧Q k H'):=by
 intro pins s σ H Q I h
 exact isTrue_plain (thn (ha pins s σ H _ I h) fun v s1 ⟨x,H1,I1,r1,q1⟩=>zz5 pins s1 σ H1 x v Q I1 r1 q1) (he _)
theorem zeF {x:V}{us:List Value} (r:zp [x] us):∃ u,us=[u]∧zn x u:=by
 cases r with
 | cons r1 r2=>cases r2;exact ⟨_,rfl,r1⟩
theorem zsj {x y:V}{us:List Value} (r:zp [x,y] us):∃ u w',us=[u,w']∧zn x u∧zn y w':=by
 cases r with
 | cons r1 r2 =>
   cases r2 with
   | cons r3 r4=>cases r4;exact ⟨_,_,rfl,r1,r3⟩
theorem zzX:zdE X (.builtin "abs") (fun xs H Q=>∃ i,xs=[.int i]∧Q (.int (if i < 0 then -i else i)) H):=by
 intro pins s σ H xs us Q I r h
 obtain ⟨i,rfl,q⟩:=h
 obtain ⟨u,rfl,t,rfl⟩:=zeF r
 exact call_abs_int fun u tk=>⟨.int (if i < 0 then -i else i),H,I.tok _,⟨_,rfl⟩,q⟩
end
end L2
namespace L2
open PySem PySem.Spec PyProof.Rows
structure zgk (h:Heap) (x dx C:Addr) (mA:Str->Option Value):Prop where
 obj:h.get? x=some (PySem.W.instObj C dx)
 ns:h.Ns1 dx mA
 ne:dx≠x
theorem zzr {h:Heap}{dx:Addr}{mA:Str->Option Value} (n:h.Ns1 dx mA):∃ od,h.get? dx=some od∧∀ name,PySem.W.lookIn name od=some (mA name):=by
 obtain ⟨o,es,ep,ho,hd,hk,_,hm⟩:=n
 refine ⟨o,ho,fun name=>?_⟩
 have e:=hm name
 unfold nsFind findBy at e
 rw [<- Array.find?_toList]at e
 unfold PySem.W.lookIn
 rw [hd]
 dsimp only
 split
 . rename_i y q
   rw [q]at e
   exact congrArg some e
 . rename_i q
   rw [q]at e
   have a:es.toList.any (·.refKey)=false:=by
     rw [List.any_eq_false]
     intro y hy
     obtain ⟨z,t,hkey⟩:=hk y (Array.mem_toList_iff.mp hy)
     simp [DictEntry.refKey,hkey]
   have a':¬ es.toList.any (·.refKey)=true:=by rw [a];exact Bool.false_ne_true
   rw [if_neg a']
   exact congrArg some e
theorem zgk.look {h:Heap}{x dx C:Addr}{mA:Str->Option Value} (I:zgk h x dx C mA):∃ od,PySem.W.InstAt h x (PySem.W.instObj C dx) C (some od)∧∀ name,PySem.W.lookIn name od=some (mA name) :=
 let ⟨od,ho,hl⟩:=zzr I.ns
 ⟨od,⟨I.obj,rfl,rfl,ho⟩,hl⟩
section
variable {prog:Program}{w:World}{A:Around}{E:Value->Shared->Prop}{s:Shared}{K:PySem.W.Frag}{x dx C f:Addr}{mA:Str->Option Value}{name:Str}{v:Value}
theorem zz8 {expr:Bool}{Q:Value->Shared->Prop} (X:K.In s.heap) (I:zgk s.heap x dx C mA) (hg:PySem.W.plainGet K C name=true) (hh:PySem.W.hasDictIn K C=true)
   (ha:PySem.W.findIn K (.ref C) name=some none) (hv:mA name=some v) (hv':PySem.W.handedIn v=true) (h:Q v { s with toks:=s.toks+1 }) :
   wpAny (model prog w) A (getAttr (.ref x) name expr) Q E s:=by
 obtain ⟨od,J,hl⟩:=I.look
 exact PySem.W.get_value X J (PySem.W.plainGet_of hg).1 (PySem.W.findObj_own hh ha rfl (by rw [hl,hv])) hv' h
theorem zAR {pl:Sem Bool}{Q:Value×List Value->Shared->Prop} (X:K.In s.heap) (I:zgk s.heap x dx C mA) (hg:PySem.W.plainGet K C name=true)
   (hf:PySem.W.findIn K (.ref C) name=some (some (.ref f))) (ht:PySem.W.isFn K (.ref f)=true) (hv:mA name=none) (h:Q (.ref f,[.ref x]) s) :
   wpAny (model prog w) A (getMethod (.ref x) name pl) Q E s:=by
 obtain ⟨od,J,hl⟩:=I.look
 exact PySem.W.method_fn X J (PySem.W.plainGet_of hg).1 (PySem.W.plainGet_of hg).2 hf (beq_iff_eq.mp ht) (by show (PySem.W.lookIn name od).map (·.isSome)=some false;rw [hl,hv];rfl) h
theorem zCX {ns:List Str}{Q:Unit->Shared->Prop} (X:K.In s.heap) (I:zgk s.heap x dx C mA)
   (hs:PySem.W.findIn K (.ref C) "__setattr__" = some (some (.builtin "object.__setattr__"))) (hp:PySem.W.plainOver K C=true) (ht:PySem.W.takerIn K C name=some none) (hh:PySem.W.hasDictIn K C=true)
   (hw:PySem.Within mA ns) (hsz:ns.length<=sizeLine)
   (h:∀ h',zgk h' x dx C (fun y=>if y=name then some v else mA y)->Heap.SameBut dx s.heap h'->Q () { s with heap:=h',toks:=s.toks+2 }) :
   wpAny (model prog w) A (setAttr (.ref x) name v) Q E s:=by
 obtain ⟨od,J,hl⟩:=I.look
 refine PySem.W.set_plain X J hs (PySem.W.osa_open (s:={ s with toks:=s.toks+1 }) (r:=none) X J hp ht fun b=>?_)
 obtain ⟨cd,hc,hd'⟩:=PySem.W.any_some hh
 have hx:s.heap.get? x=some ⟨.ref C,some dx,.plain,#[]⟩:=I.obj
 refine wpAny_bind (wpAny_pure (wpAny_bind (wpAny_bind (wpAny_loadPart hx (wpAny_bind (PySem.W.Looks.here (s:={ s with toks:=s.toks+1 }) (PySem.W.looks_clsIn X hc) ?_))))))
 rw [hd']
 refine wpAny_pure (a:=some dx) (wpAny_bind (wpAny_pure (wpAny_bind ?_)))
 refine wpAny_nsSet1 (s:={ s with toks:=s.toks+1 }) I.ns fun h' hn2 hs2=>?_
 obtain ⟨oD,esD,epD,hoD,hdD,hcD⟩:=hn2.count (PySem.Within.cons name v hw)
 refine wpAny_bind (wpAny_lookBehind hoD (by rw [hdD];exact pastItsLine_dict (Nat.le_trans hcD (by rw [List.length_cons];omega))) ?_)
 exact wpAny_pure (h _ ⟨(hs2.2 _ (Ne.symm I.ne)).trans I.obj,hn2,I.ne⟩ hs2)
theorem zxU {R:Result->Shared->Prop}{vs:List Value}{kw:List (Str×Value)} (X:K.In s.heap) (hm:PySem.W.makesIn K C=true)
   (hi:PySem.W.findIn K (.ref C) "__init__" = some (some (.ref f))) (hf:PySem.W.typeIn K (.ref f)=some (.type "function"))
   (h:codeAny (model prog w) (A.under (.builtin "type.__call__" ⟨.ref C :: vs,kw⟩)) (.call (.ref f) ⟨.ref (s.heap.objs.size+1) :: vs,kw⟩) (PySem.W.InitBack (s.heap.objs.size+1) R)
     { s with heap:=(s.heap.push PySem.W.emptyDict).push (PySem.W.instObj C s.heap.objs.size) }) :
   codeAny (model prog w) A (.call (.ref C) ⟨vs,kw⟩) R s:=by
 obtain ⟨hh,g,d,t,os⟩:=s
 exact PySem.W.make_core (PySem.W.makes_of X hm) (PySem.W.looks_findIn X hi) (fun self=>PySem.W.bind_fn X self hf) (.inl rfl) h
end
def zcj (f:Str) (v:V):List (Str×V)->List (Str×V)
 | []=>[(f,v)]
 | (g,x) :: r=>if g=f then (g,v) :: r else (g,x) :: zcj f v r
theorem zq6 (f g:Str) (v:V):∀ fs:List (Str×V),(zcj f v fs).lookup g=if g=f then some v else fs.lookup g
 | []=>by
   show List.lookup g [(f,v)]=_
   by_cases h:g=f
   . have hb:(g == f)=true:=beq_iff_eq.mpr h
     simp only [List.lookup,hb,if_pos h]
   . have hb:(g == f)=false:=beq_eq_false_iff_ne.mpr h
     simp only [List.lookup,hb,if_neg h]
 | (k,x) :: r=>by
   have ih:=zq6 f g v r
   rw [show zcj f v ((k,x) :: r)=(if k=f then (k,v) :: r else (k,x) :: zcj f v r) from rfl]
   by_cases hk:k=f
   . rw [if_pos hk]
     by_cases h:g=k
     . have hb:(g == k)=true:=beq_iff_eq.mpr h
       simp only [List.lookup,hb,if_pos (h.trans hk)]
     . have hb:(g == k)=false:=beq_eq_false_iff_ne.mpr h
       simp only [List.lookup,hb,if_neg (fun e:g=f=>h (e.trans hk.symm))]
   . rw [if_neg hk]
     by_cases h:g=k
     . have hb:(g == k)=true:=beq_iff_eq.mpr h
       simp only [List.lookup,hb,if_neg (fun e:g=f=>hk (h.symm.trans e))]
     . have hb:(g == k)=false:=beq_eq_false_iff_ne.mpr h
       simp only [List.lookup,hb]
       exact ih
theorem zod (f:Str) (v:V):∀ fs:List (Str×V),f∈(zcj f v fs).map (·.1)∧∀ g,g∈fs.map (·.1)->g∈(zcj f v fs).map (·.1)
 | []=>⟨by simp [zcj],fun g h=>by simp at h⟩
 | (k,x) :: r=>by
   obtain ⟨i1,i2⟩:=zod f v r
   rw [show zcj f v ((k,x) :: r)=(if k=f then (k,v) :: r else (k,x) :: zcj f v r) from rfl]
   by_cases hk:k=f
   . rw [if_pos hk]
     subst hk
     exact ⟨by simp,fun g h=>by simpa using h⟩
   . rw [if_neg hk]
     refine ⟨?_,fun g h=>?_⟩
     . rw [List.map_cons]
       exact List.mem_cons_of_mem _ i1
     . rw [List.map_cons]at h ⊢
       rcases List.mem_cons.mp h with e | e
       . exact List.mem_cons.mpr (.inl e)
       . exact List.mem_cons_of_mem _ (i2 g e)
theorem zre (f:Str) (v:V):∀ fs:List (Str×V),(zcj f v fs).length<=fs.length+1
 | []=>by simp [zcj]
 | (k,x) :: r=>by
   have ih:=zre f v r
   rw [show zcj f v ((k,x) :: r)=(if k=f then (k,v) :: r else (k,x) :: zcj f v r) from rfl]
   by_cases hk:k=f
   . rw [if_pos hk,List.length_cons,List.length_cons];omega
   . rw [if_neg hk,List.length_cons,List.length_cons];omega
theorem zcR.some_of {v:V}{o:Option Value} (r:zcR (some v) o):∃ u,o=some u∧zn v u:=by
 cases o with
 | none=>exact (show False from r).elim
 | some u=>exact ⟨u,rfl,r⟩
theorem zcR.none_of {o:Option Value} (r:zcR none o):o=none:=by
 cases o with
 | none=>rfl
 | some u=>exact (show False from r).elim
theorem zAB {v:V}{u:Value} (r:zn v u):PySem.W.handedIn u=true:=by
 cases v with
 | non=>cases (show u=Value.none from r);rfl
 | bl b=>cases (show u=Value.bool b from r);rfl
 | int i=>obtain ⟨t,e⟩:=(show ∃ t,u=Value.int i t from r);cases e;rfl
 | str x=>obtain ⟨t,e⟩:=(show ∃ t,u=Value.str x t from r);cases e;rfl
 | byt b=>obtain ⟨t,e⟩:=(show ∃ t,u=Value.bytes b t from r);cases e;rfl
 | flt b=>obtain ⟨t,e⟩:=(show ∃ t,u=Value.float b t from r);cases e;rfl
 | ref a=>cases (show u=Value.ref a from r);rfl
 | ty n=>cases (show u=Value.type n from r);rfl
section
variable {P:Program}{w:World}{H H':Hp}{h h':Heap}{a C dx:Addr}{fs fs':List (Str×V)}
theorem zhV (hok:HOk P w H h) (e:H a=some (.ins C dx fs)):∃ mA,zgk h a dx C mA∧(∀ f,zcR (fs.lookup f) (mA f))∧PySem.Within mA (fs.map (·.1))∧fs.length<=1000∧H dx=some (.own a):=by
 obtain ⟨d,z,ne,ob,mA,n,r,q⟩:=(show zbd P w H h a (.ins C dx fs) from hok a _ e)
 exact ⟨mA,⟨ob,n,ne⟩,r,q,z,d⟩
end
structure Cls (K:PySem.W.Frag) (C:Addr):Prop where
 pg:PySem.W.plainGet K C Str.empty=true
 hd:PySem.W.hasDictIn K C=true
 po:PySem.W.plainOver K C=true
 sa:PySem.W.findIn K (.ref C) "__setattr__" = some (some (.builtin "object.__setattr__"))
theorem Cls.get {K:PySem.W.Frag}{C:Addr} (c:Cls K C) (f:Str):PySem.W.plainGet K C f=true:=c.pg
def zbU (K:PySem.W.Frag) (C:Addr) (f:Str):Prop:=PySem.W.findIn K (.ref C) f=some none
theorem zbU.taker {K:PySem.W.Frag}{C:Addr}{f:Str} (n:zbU K C f):PySem.W.takerIn K C f=some none:=by
 unfold PySem.W.takerIn
 rw [show PySem.W.findIn K (.ref C) f=some none from n]
 rfl
structure zfz (K:PySem.W.Frag) (C:Addr) (m:Str) (f:Addr):Prop where
 at_:PySem.W.findIn K (.ref C) m=some (some (.ref f))
 fn:PySem.W.isFn K (.ref f)=true
 kp:PySem.W.keepIn K (.ref f)=true
section
variable {X:Cx}{pins:List (Addr×Obj)}{σ:St}{H:Hp}{s:Shared}{a C dx:Addr}{fs:List (Str×V)}{f:Str}{v:V}{A:Around}{E:Value->Shared->Prop}
theorem zyv {b:Bool}{Q:Value->Shared->Prop} (I:Inv X pins σ H s) (e:H a=some (.ins C dx fs)) (c:Cls X.K C) (n:zbU X.K C f) (l:fs.lookup f=some v)
   (h:∀ u s',Inv X pins σ H s'->zn v u->Q u s'):wpAny (model X.prog X.w) A (getAttr (.ref a) f b) Q E s:=by
 obtain ⟨mA,O,r,_,_,_⟩:=zhV I.hok e
 obtain ⟨u,hu,ru⟩:=zcR.some_of (v:=v) (o:=mA f) (by rw [<- l];exact r f)
 exact zz8 I.kIn O (c.get f) c.hd n hu (zAB ru) (h u _ (I.tok _) ru)
theorem zpe {m:Str}{g:Addr}{pl:Sem Bool}{Q:Value×List Value->Shared->Prop} (I:Inv X pins σ H s) (e:H a=some (.ins C dx fs)) (c:Cls X.K C) (k:zfz X.K C m g) (l:fs.lookup m=none)
   (h:Q (.ref g,[.ref a]) s):wpAny (model X.prog X.w) A (getMethod (.ref a) m pl) Q E s:=by
 obtain ⟨mA,O,r,_,_,_⟩:=zhV I.hok e
 have hn:mA m=none:=zcR.none_of (by rw [<- l];exact r m)
 exact zAR I.kIn O (c.get m) k.at_ k.fn hn h
theorem zzd {y:V}{u:Value}{Q:Unit->Shared->Prop} (I:Inv X pins σ H s) (e:H a=some (.ins C dx fs)) (c:Cls X.K C) (n:zbU X.K C f) (hl:fs.length < 1000) (ry:zn y u)
   (h:∀ s',Inv X pins σ (upd H a (.ins C dx (zcj f y fs))) s'->Q () s'):wpAny (model X.prog X.w) A (setAttr (.ref a) f u) Q E s:=by
 obtain ⟨mA,O,r,wi,_,ho⟩:=zhV I.hok e
 have hz:(fs.map (·.1)).length<=sizeLine:=by rw [List.length_map,sizeLine_eq];omega
 refine zCX I.kIn O c.sa c.po n.taker c.hd wi hz fun h' O' sb=>h _ ?_
 have hd:∃ o,h'.get? dx=some o:=let ⟨o,_,_,e',_⟩:=O'.ns;⟨o,e'⟩
 refine I.write (x:=a) (e:=dx) (by rw [e];exact True.intro) (.inr ho) (fun b q hb z=>(sb.2 b hb).trans z) hd ?_
 refine ⟨by rw [zy O.ne];exact ho,?_,O.ne,O'.obj,_,O'.ns,fun g=>?_,fun g hg=>?_⟩
 . have:=zre f y fs;omega
 . show zcR ((zcj f y fs).lookup g) (if g=f then some u else mA g)
   rw [zq6]
   by_cases q:g=f
   . rw [if_pos q,if_pos q];exact ry
   . rw [if_neg q,if_neg q];exact r g
 . by_cases q:g=f
   . rw [q];exact (zod f y fs).1
   . refine (zod f y fs).2 g (wi g fun z=>hg ?_)
     show (if g=f then some u else mA g)=none
     rw [if_neg q];exact z
theorem Inv.made (I:Inv X pins σ H s):Inv X pins σ (upd (upd H s.heap.objs.size (.own (s.heap.objs.size+1))) (s.heap.objs.size+1) (.ins C s.heap.objs.size []))
   { s with heap:=(s.heap.push PySem.W.emptyDict).push (PySem.W.instObj C s.heap.objs.size) }:=by
 have e1:(s.heap.push PySem.W.emptyDict).get? s.heap.objs.size=some PySem.W.emptyDict:=Heap.get?_push_size s.heap rfl
 have e2:((s.heap.push PySem.W.emptyDict).push (PySem.W.instObj C s.heap.objs.size)).get? (s.heap.objs.size+1)=some (PySem.W.instObj C s.heap.objs.size):=by
   have:=Heap.get?_push_size (s.heap.push PySem.W.emptyDict) (o:=PySem.W.instObj C s.heap.objs.size) rfl
   rwa [Heap.size_push]at this
 have e3:(s.heap.push PySem.W.emptyDict).Ns s.heap.objs.size (fun _=>none):=⟨PySem.W.emptyDict,#[],_,e1,rfl,(fun e he=>absurd he (by simp)),fun _=>rfl⟩
 have I1:=I.laid (a:=s.heap.objs.size) (o := .own (s.heap.objs.size+1)) (h':=s.heap.push PySem.W.emptyDict) (t':=s.toks) (fun b u q=>Heap.get?_push_of_some _ q) (Nat.le_refl _) ⟨_,e1⟩
 refine I1.laid (a:=s.heap.objs.size+1) (o := .ins C s.heap.objs.size []) (t':=s.toks) (fun b u q=>Heap.get?_push_of_some _ q) (Nat.le_of_eq (Heap.size_push _ _)) ?_
 have ne:s.heap.objs.size≠s.heap.objs.size+1:=Nat.ne_of_lt (Nat.lt_succ_self _)
 refine ⟨by rw [zy ne,zbQ],Nat.zero_le _,ne,e2,fun _=>none,(Heap.Ns1.of_empty e3).at fun o q=>Heap.get?_push_of_some _ q,fun _=>True.intro,fun y hy=>absurd rfl hy⟩
theorem zz7 {prog:Program}{w:World}{env:Env}{e:Expr}{f:Str}{pos:Pos}{s:Shared}{Q:Value->Shared->Prop} (hb:attributeBase e f env (eval e env)=eval e env)
   (h:wpAny (model prog w) A (eval e env) (fun o s₁=>wpAny (model prog w) A (getAttr o f true) Q E s₁) E s):wpAny (model prog w) A (eval (.Attribute e f pos) env) Q E s :=
 Attribute_any_ h (by rw [arm_eval_Attribute,hb])
end
def zyT (K:PySem.W.Frag) (ta:TE) (f:Str):TE:=fun σ H Q=>ta σ H fun x H1=>∃ a C dx fs v,x = .ref a∧H1 a=some (.ins C dx fs)∧Cls K C∧zbU K C f∧fs.lookup f=some v∧Q v H1
def zyJ (K:PySem.W.Frag) (ta tv:TE) (f:Str):TS:=fun D σ H=>tv σ H fun y H1=>ta σ H1 fun x H2=>∃ a C dx fs,x = .ref a∧H2 a=some (.ins C dx fs)∧Cls K C∧zbU K C f∧fs.length < 1000 ∧
 D.nx σ (upd H2 a (.ins C dx (zcj f y fs)))
section
variable {X:Cx}{o e value:Expr}{f:Str}{pos pos' tpos:Pos}{ta tv:TE}
theorem zzv (he:PE X e ta) (hb:attributeBase e f X.env (eval e X.env)=eval e X.env):PE X (.Attribute e f pos) (zyT X.K ta f):=by
 intro pins s σ H Q I h
 refine zz7 hb (thn (he pins s σ H _ I h) fun u s1 ⟨x,H1,I1,rx,a,C,dx,fs,v,ex,ea,c,n,l,q⟩=>?_)
 subst ex
 obtain rfl:u=Value.ref a:=rx
 exact zyv I1 ea c n l fun u' s2 I2 ru=>⟨v,H1,I2,ru,q⟩
theorem zxM (ha:PE X o ta) (hv:PE X value tv) (hs:swapsWith value (some (.Attribute o f pos')) pos.line X.env=pure false):PS X (.Assign [.Attribute o f pos'] value pos) (zyJ X.K ta tv f):=by
 intro pins s σ H D I h
 refine plainObj_wpAny_Assign_Attribute (thn (hv pins s σ H _ I h) fun u s1 ⟨y,H1,I1,ry,q⟩=>thn (ha pins s1 σ H1 _ I1 q) fun ov s2 ⟨x,H2,I2,rx,a,C,dx,fs,ex,ea,c,n,l,q2⟩=>?_) hs
 subst ex
 obtain rfl:ov=Value.ref a:=rx
 exact zzd I2 ea c n l ry fun s3 I3=>⟨σ,_,I3,q2⟩
theorem zDh {pl:Sem Bool}{m:Str}{apos:Pos}{args:List Expr}{pins:List (Addr×Obj)}{s:Shared}{σ:St}{H:Hp}{Q:Value->Shared->Prop}{te:TE} (he:PE X e te) (I:Inv X pins σ H s)
   (h:te σ H fun x H1=>∃ a C dx fs g,x = .ref a∧H1 a=some (.ins C dx fs)∧Cls X.K C∧zfz X.K C m g∧fs.lookup m=none ∧
     ∀ s1,Inv X pins σ H1 s1->wpAny (model X.prog X.w) X.A (callWith pos (.ref g) [.ref a] (backTo pos (starEach args X.env)) (backToKw pos (keywordEach [] X.env))) Q X.xe s1)
   (ht:eval (.Call (.Attribute e m apos) args [] pos) X.env=(do
     let ov <- eval e X.env
     standAt apos.atName
     let (f,first) <- holding [ov] (getMethod ov m pl)
     callWith pos f first (backTo pos (starEach args X.env)) (backToKw pos (keywordEach [] X.env)))) :
   wpAny (model X.prog X.w) X.A (eval (.Call (.Attribute e m apos) args [] pos) X.env) Q X.xe s:=by
 refine PySem.W.methodCall_KW (pl:=pl) (thn (he pins s σ H _ I h) fun u s1 ⟨x,H1,I1,rx,a,C,dx,fs,g,ex,ea,c,k,l,q⟩=>?_) ht
 subst ex
 obtain rfl:u=Value.ref a:=rx
 exact zpe I1 ea c k l (q s1 I1)
end
section
variable {X:Cx}{pins:List (Addr×Obj)}{σ:St}{H:Hp}{s:Shared}{A:Around}{E:Value->Shared->Prop}{Q:Value->Shared->Prop}{c:Value}{b:Bool}
inductive zdf (K:PySem.W.Frag) (H:Hp):V->Value->Prop where
 | non:zdf K H .non (.type "NoneType")
 | bl (x:Bool):zdf K H (.bl x) (.type "bool")
 | int (i:Int):zdf K H (.int i) (.type "int")
 | str (x:Str):zdf K H (.str x) (.type "str")
 | flt (x:UInt64):zdf K H (.flt x) (.type "float")
 | lst {a:Addr} {xs:List V} (e:H a=some (.lst xs)):zdf K H (.ref a) (.type "list")
 | frz {a:Addr} {o:Obj} {xs:List V} (e:H a=some (.frz o (.lst xs))):zdf K H (.ref a) (.type "list")
 | tup {a:Addr} {xs:List V} (e:H a=some (.tup xs)):zdf K H (.ref a) (.type "tuple")
 | dK {a:Addr} {kvs:List (Key×V)} (e:H a=some (.dK kvs)):zdf K H (.ref a) (.type "dict")
 | dT {a:Addr} {kvs:List (List Key×V)} (e:H a=some (.dT kvs)):zdf K H (.ref a) (.type "dict")
 | ins {a C dx:Addr} {fs:List (Str×V)} (e:H a=some (.ins C dx fs)) (cl:Cls K C) (ha:PySem.W.findIn K (.ref C) "__class__" = some (some (.builtin "object.__class__")))
     (hn:PySem.W.specialIn K (.builtin "object.__class__") "__get__" = some (some (.builtin "getset_descriptor.__get__"))) (htk:PySem.W.takesIn K (.builtin "object.__class__")=some true)
     (hm:PySem.W.mroIn K C (.type "object")=some true):zdf K H (.ref a) (.ref C)
theorem zro {x:V}{u t:Value} (I:Inv X pins σ H s) (rx:zn x u) (ty:zdf X.K H x t) (e:PySem.W.kitOne X.K t c=some b) (h:∀ tk,Q (.bool b) { s with toks:=tk }) :
   wpAny (model X.prog X.w) A (call (.builtin "isinstance") [u,c]) Q E s:=by
 cases ty with
 | non=>cases (show u=Value.none from rx);exact PySem.W.kia_one PySem.W.kitx_none I.kIn True.intro e (fun z=>nomatch z) h
 | bl y=>cases (show u=Value.bool y from rx);exact PySem.W.kia_one PySem.W.kitx_bool I.kIn True.intro e (fun z=>nomatch z) h
 | int i=>obtain ⟨t,q⟩:=(show ∃ t,u=Value.int i t from rx);cases q;exact PySem.W.kia_one PySem.W.kitx_int I.kIn True.intro e (fun z=>nomatch z) h
 | str y=>obtain ⟨t,q⟩:=(show ∃ t,u=Value.str y t from rx);cases q;exact PySem.W.kia_one PySem.W.kitx_str I.kIn True.intro e (fun z=>nomatch z) h
 | flt y=>obtain ⟨t,q⟩:=(show ∃ t,u=Value.float y t from rx);cases q;exact PySem.W.kia_one PySem.W.kitx_float I.kIn True.intro e (fun z=>nomatch z) h
 | @lst a xs ea =>
   cases (show u=Value.ref a from rx)
   obtain ⟨_,_,n,_,h1⟩:=(show zbd X.prog X.w H s.heap a (.lst xs) from I.hok a _ ea)
   exact PySem.W.kia_one PySem.W.kitx_list I.kIn ⟨_,h1,rfl⟩ e (fun z=>nomatch z) h
 | @frz a ob xs ea =>
   cases (show u=Value.ref a from rx)
   obtain ⟨_,_,_,n,_,h1⟩:=(show zbd X.prog X.w H s.heap a (.frz ob (.lst xs)) from I.hok a _ ea)
   exact PySem.W.kia_one PySem.W.kitx_list I.kIn ⟨_,h1,rfl⟩ e (fun z=>nomatch z) h
 | @tup a xs ea =>
   cases (show u=Value.ref a from rx)
   obtain ⟨_,_,_,p⟩:=(show zbd X.prog X.w H s.heap a (.tup xs) from I.hok a _ ea)
   obtain ⟨o,h1,h2,_⟩:=p
   exact PySem.W.kia_one PySem.W.kitx_tuple I.kIn ⟨o,h1,h2⟩ e (fun z=>nomatch z) h
 | @dK a kvs ea =>
   cases (show u=Value.ref a from rx)
   obtain ⟨_,_,vs,_,p⟩:=(show zbd X.prog X.w H s.heap a (.dK kvs) from I.hok a _ ea)
   obtain ⟨o,es,ep,h1,h2,_⟩:=p
   exact PySem.W.kia_one PySem.W.kitx_dict I.kIn ⟨o,h1,h2.1⟩ e (fun z=>nomatch z) h
 | @dT a kvs ea =>
   cases (show u=Value.ref a from rx)
   obtain ⟨_,_,xs,_,o,es,ep,h1,h2,_⟩:=(show zbd X.prog X.w H s.heap a (.dT kvs) from I.hok a _ ea)
   exact PySem.W.kia_one PySem.W.kitx_dict I.kIn ⟨o,h1,h2.1⟩ e (fun z=>nomatch z) h
 | @ins a C dx fs ea cl ha hn htk hm =>
   cases (show u=Value.ref a from rx)
   obtain ⟨mA,O,_⟩:=zhV I.hok ea
   obtain ⟨od,J,_⟩:=O.look
   exact PySem.W.kia_one (PySem.W.kitx_own (cl.get _) cl.hd ha hn htk hm) I.kIn J e (fun z=>nomatch z) h
end
end L2
namespace L2
open PySem PySem.Spec PyProof.Rows
structure zP (k:Nat) (A:Around):Prop where
 hd:A.handled=none
 dp:A.depth+3 * k+5 < recursionLimit
 un:A.units+16 * k+200 < cLine
theorem zP.mono {j k:Nat}{A:Around} (r:zP k A) (h:j<=k):zP j A:=⟨r.hd,by have:=r.dp;omega,by have:=r.un;omega⟩
theorem zP.deeper {k:Nat}{A:Around} (r:zP (k+1) A) (env:Env):zP k (A.deeper env) :=
 ⟨r.hd,by have:=r.dp;show A.depth+1+3 * k+5 < _;omega,by have:=r.un;show A.units+3+16 * k+200 < _;omega⟩
theorem zxE {A:Around}{C:Addr}{us:List Value}{kw:List (Str×Value)}:(A.under (.builtin "type.__call__" ⟨.ref C :: us,kw⟩)).depth=A.depth+1:=by
 first | rfl | simp [Around.under,Code.weight,Code.isCreation,Code.isGuard,Code.isCaller,Code.frames,Code.isFrame,guardIds]
theorem zxw {A:Around}{C:Addr}{us:List Value}{kw:List (Str×Value)}:(A.under (.builtin "type.__call__" ⟨.ref C :: us,kw⟩)).units=A.units+1:=by
 first | rfl | simp [Around.under,Code.cUnits,Code.frames,Code.isFrame]
theorem zP.make {k:Nat}{A:Around} (r:zP (k+1) A) (C:Addr) (us:List Value) (kw:List (Str×Value)):zP k (A.under (.builtin "type.__call__" ⟨.ref C :: us,kw⟩)) :=
 ⟨r.hd,by have:=r.dp;rw [zxE];omega,by have:=r.un;rw [zxw];omega⟩
theorem zP.depth {k:Nat}{A:Around} (r:zP k A):A.depth < recursionLimit:=by have:=r.dp;omega
theorem zP.units {k:Nat}{A:Around} (r:zP k A):A.units+64 < cLine:=by have:=r.un;omega
def zo6:TA:=fun _ H Q=>Q [] H
def zsy (ta:TE) (tr:TA):TA:=fun σ H Q=>ta σ H fun x H1=>tr σ H1 fun xs H2=>Q (x :: xs) H2
section
variable {X:Cx}{e:Expr}{es:List Expr}{te:TE}{t:TA}{pos:Pos}
theorem zcZ:PA X [] zo6:=fun _ _ _ _ H Q I h=>Calls.spliced_nil ⟨[],H,I,.nil,h⟩
theorem zcy (ha:PE X e te) (hr:PA X es t) (hs:starEach (e :: es) X.env=(false,eval e X.env) :: starEach es X.env:=by rfl):PA X (e :: es) (zsy te t):=by
 intro pos pins s σ H Q I h
 rw [hs]
 show wpAny _ _ (spliced ((false,eval e X.env) :: backTo pos (starEach es X.env))) _ _ s
 refine Calls.spliced_cons (thn (ha pins s σ H _ I h) fun u s1 ⟨x,H1,I1,r1,q1⟩=>?_)
 exact thn (hr pos pins s1 σ H1 _ I1 q1) fun us s2 ⟨xs,H2,I2,r2,q2⟩=>⟨x :: xs,H2,I2,.cons r1 r2,q2⟩
def zCA (t:TA):TE:=fun σ H Q=>t σ H fun xs H1=>xs.length<=sizeLine∧∀ p,H1 p=none->Q (.ref p) (upd H1 p (.tup xs))
def zCB (t:TA):TE:=fun σ H Q=>t σ H fun xs H1=>xs.length<=sizeLine∧∀ p,H1 p=none->Q (.ref p) (upd H1 p (.lst xs))
theorem zya {x1} (h:PA X es t):PE X (.Tuple es x1 pos) (zCA t):=by
 intro pins s σ H Q I hq
 refine wpAny_Tuple_spliced (thn (h pos pins s σ H _ I hq) fun us s1 ⟨xs,H1,I1,r,z,q⟩=>⟨by rw [<- r.length];exact z,?_⟩)
 have hf:H1 s1.heap.objs.size=none:=I1.hok.fresh (Nat.le_refl _)
 refine ⟨.ref s1.heap.objs.size,upd H1 s1.heap.objs.size (.tup xs),I1.laid (t':=s1.toks) (fun b u e=>Heap.get?_push_of_some _ e) (Nat.le_refl _) ?_,rfl,q _ hf⟩
 exact ⟨z,us,r,⟨_,Heap.get?_push_size _ rfl,rfl,_,rfl⟩⟩
theorem zCl (h:PA X es t):PE X (.List es pos) (zCB t):=by
 intro pins s σ H Q I hq
 refine wpAny_List_spliced (thn (h pos pins s σ H _ I hq) fun us s1 ⟨xs,H1,I1,r,z,q⟩=>⟨by rw [<- r.length];exact z,?_⟩)
 have hf:H1 s1.heap.objs.size=none:=I1.hok.fresh (Nat.le_refl _)
 refine ⟨.ref s1.heap.objs.size,upd H1 s1.heap.objs.size (.lst xs),I1.laid (t':=s1.toks) (fun b u e=>Heap.get?_push_of_some _ e) (Nat.le_refl _) ?_,rfl,q _ hf⟩
 exact ⟨z,us,0,r,Heap.get?_push_size _ rfl⟩
end
abbrev Sp:=List V->Hp->VK->XK->Prop
abbrev CXT:=List Env->Hp->Shared->XK->Value->Shared->Prop
structure zf9 (P:Program) (w:World) (K:PySem.W.Frag) (mg:Str->Option Value) (base:Heap) (A:Around) (outer:List Env) (s:Shared) (H:Hp):Prop where
 frames:A.frames=some outer
 mod:Mod K mg base
 bs:∀ b o,base.get? b=some o->s.heap.get? b=some o∧H b=none
 bsz:base.objs.size<=s.heap.objs.size
 funs:s.heap.FunFrames base outer
 frf:∀ b∈frs outer,H b=none
 hok:HOk P w H s.heap
 bare:AllBare s.gens
def CE (outer:List Env) (P:Program) (w:World) (H:Hp) (s:Shared) (Q:VK) (u:Value) (s':Shared):Prop :=
 ∃ v H',s'.os=s.os∧AllBare s'.gens∧Un (frs outer) [] H H' s.heap s'.heap∧HOk P w H' s'.heap∧zn v u∧Q v H'
def CR (CX:CXT) (outer:List Env) (P:Program) (w:World) (H:Hp) (s:Shared) (Q:VK) (E:XK) (r:Result) (s':Shared):Prop :=
 match r with
 | .ok (.ret u)=>CE outer P w H s Q u s'
 | .ok _=>False
 | .error e=>CX outer H s E e s'
structure zM (P:Program) (w:World) (K:PySem.W.Frag) (mg:Str->Option Value) (base:Heap) (CX:CXT) (k:Nat) (f:Addr) (fd:FuncData) (ps:List Str) (sp:Sp):Prop where
 len:∀ vs H Q E,sp vs H Q E->vs.length=ps.length
 run:∀ (A:Around) (outer:List Env) (s:Shared) (H:Hp) (args:Args) (us:List Value) (vs:List V) (Q:VK) (E:XK),zP k A->zf9 P w K mg base A outer s H->BindsTo s fd args (ps.zip us)->zp vs us->sp vs H Q E ->
   codeAny (model P w) A (.call (.ref f) args) (CR CX outer P w H s Q E) s
theorem zM.imp {P:Program}{w:World}{K:PySem.W.Frag}{mg:Str->Option Value}{base:Heap}{CX:CXT}{k:Nat}{f:Addr}{fd:FuncData}{ps:List Str}{sp sp':Sp} (F:zM P w K mg base CX k f fd ps sp)
   (h:∀ vs H Q E,sp' vs H Q E->sp vs H Q E):zM P w K mg base CX k f fd ps sp' :=
 ⟨fun vs H Q E q=>F.len vs H Q E (h _ _ _ _ q),fun A outer s H args us vs Q E hr he hb hv hs=>F.run A outer s H args us vs Q E hr he hb hv (h _ _ _ _ hs)⟩
theorem zf9.make {P:Program}{w:World}{K:PySem.W.Frag}{mg:Str->Option Value}{base:Heap}{A:Around}{outer:List Env}{s:Shared}{H:Hp} (e:zf9 P w K mg base A outer s H) (C:Addr) (us:List Value) (kw:List (Str×Value)) :
   zf9 P w K mg base (A.under (.builtin "type.__call__" ⟨.ref C :: us,kw⟩)) outer s H:=⟨by first | exact e.frames | (simpa [Around.under,Code.envs,Code.isFrame,pushEnvs] using e.frames),e.mod,e.bs,e.bsz,e.funs,e.frf,e.hok,e.bare⟩
section
variable {X:Cx}{pins:List (Addr×Obj)}{σ:St}{H:Hp}{s s':Shared}
theorem Inv.env0 (I:Inv X pins σ H s):zf9 X.prog X.w X.K X.mg X.base X.A X.stack s H :=
 ⟨I.ok.frames,I.ok.mod,I.bs,Nat.le_trans I.ok.bsz I.sz,I.stack,I.stkFree,I.hok,I.bare⟩
theorem Inv.after {Q:VK}{u:Value} (I:Inv X pins σ H s) (h:CE X.stack X.prog X.w H s Q u s'):EP X pins σ Q u s':=by
 obtain ⟨v,H',os,bare,un,hok,r,q⟩:=h
 obtain ⟨hh,g,d,t,os'⟩:=s'
 obtain rfl:os'=s.os:=os
 exact ⟨v,H',I.call (h':=hh) (g':=g) (d':=d) (t':=t) (ch:=[]) un hok bare (fun b z=>absurd z (by simp)),r,q⟩
end
def zzS (sp:Sp) (dvs:List V) (E:XK) (t:TA):TE:=fun σ H Q=>t σ H fun vs H1=>sp (vs++dvs) H1 Q E
def zom (C:Addr) (m:Str) (sp:Sp) (dvs:List V) (E:XK) (ta:TE) (t:TA):TE:=fun σ H Q=>ta σ H fun x H1=>∃ a dx fs,x = .ref a∧H1 a=some (.ins C dx fs)∧fs.lookup m=none ∧
 t σ H1 fun vs H2=>sp (x :: (vs++dvs)) H2 Q E
def zBF (C:Addr) (sp:Sp) (dvs:List V) (E:XK) (t:TA):TE:=fun σ H Q=>t σ H fun vs H1=>∀ x dx,H1 x=none->H1 dx=none->dx≠x ->
 sp (.ref x :: (vs++dvs)) (upd (upd H1 dx (.own x)) x (.ins C dx [])) (fun v H2=>v = .non∧Q (.ref x) H2) E
def zdg (K:PySem.W.Frag) (fd:FuncData) (ps:List Str) (ds:List Value):Prop :=
 ∀ (s:Shared) (us:List Value),K.In s.heap->(us++ds).length=ps.length->BindsTo s fd ⟨us,[]⟩ (ps.zip (us++ds))
theorem zdg.all {K:PySem.W.Frag}{fd:FuncData}{ps:List Str} (h:∀ us:List Value,us.length=ps.length->bindArgs fd ⟨us,[]⟩=pure (ps.zip us)):zdg K fd ps []:=fun s us _ hl=>by
 rw [List.append_nil]at hl ⊢
 exact .of_eq (h us hl)
def zgj (CX:CXT) (X:Cx) (E:XK):Prop:=∀ (pins:List (Addr×Obj)) (σ:St) (H:Hp) (s:Shared) (e:Value) (s':Shared),Inv X pins σ H s->CX X.stack H s E e s'->X.xe e s'
section
variable {X:Cx}{CX:CXT}{k:Nat}{f C:Addr}{fd:FuncData}{ps:List Str}{sp:Sp}{dvs:List V}{ds:List Value}{E:XK}{x m:Str}{p pos apos:Pos}{e o:Expr}{es:List Expr}{ta:TE}{t:TA}
theorem zoa {pins:List (Addr×Obj)}{σ:St}{H:Hp}{s:Shared}{Q:VK}{us:List Value}{vs:List V} (F:zM X.prog X.w X.K X.mg X.base CX k f fd ps sp) (hr:zP k X.A) (hb:zdg X.K fd ps ds) (hd:zp dvs ds) (hx:zgj CX X E)
   (I:Inv X pins σ H s) (r:zp vs us) (h:sp (vs++dvs) H Q E):wpAny (model X.prog X.w) X.A (call (.ref f) us) (EP X pins σ Q) X.xe s:=by
 have r2:zp (vs++dvs) (us++ds):=r.append hd
 have hl:(us++ds).length=ps.length:=by rw [<- r2.length];exact F.len _ _ _ _ h
 refine wpAny_call (codeAny_mono (F.run X.A X.stack s H ⟨us,[]⟩ (us++ds) (vs++dvs) Q E hr I.env0 (hb s us I.kIn hl) r2 h) fun r s' hq=>?_)
 cases r with
 | error e=>exact hx pins σ H s e s' I hq
 | ok fl =>
   cases fl with
   | ret u=>exact I.after hq
   | next=>exact False.elim hq
   | brk=>exact False.elim hq
   | cont=>exact False.elim hq
theorem zCh (F:zM X.prog X.w X.K X.mg X.base CX k f fd ps sp) (hr:zP k X.A) (hg:Gl X x) (hm:X.mg x=some (.ref f)) (hk:PySem.W.keepIn X.K (.ref f)=true) (hb:zdg X.K fd ps ds) (hd:zp dvs ds) (hx:zgj CX X E)
   (ha:PA X (e :: es) t) (hdb:(x == ("__debug__":Str))=false:=by decide) (he:starEach (e :: es) X.env=(false,eval e X.env) :: starEach es X.env:=by rfl) (hpl:(backTo pos (starEach es X.env)).any (·.1)=false:=by rfl) :
   PE X (.Call (.Name x p) (e :: es) [] pos) (zzS sp dvs E t):=by
 intro pins s σ H Q I h
 refine wpAny_Call_Name_kw (zoN I hg hm ?_ hdb)
 refine PySem.W.callWith_K (h₀:=X.base) I.ok.mod.kin hk (thn (ha pos pins s σ H _ I h) fun us s1 ⟨vs,H1,I1,r,q⟩=>⟨I1.kIn,?_⟩) he hpl
 exact zoa F hr hb hd hx I1 r q
theorem zAD {pl:Sem Bool} (he:PE X o ta) (c:Cls X.K C) (hm:zfz X.K C m f) (F:zM X.prog X.w X.K X.mg X.base CX k f fd ps sp) (hr:zP k X.A) (hb:zdg X.K fd ps ds) (hd:zp dvs ds) (hx:zgj CX X E) (ha:PA X (e :: es) t)
   (hst:starEach (e :: es) X.env=(false,eval e X.env) :: starEach es X.env:=by rfl) (hpl:(backTo pos (starEach es X.env)).any (·.1)=false:=by rfl)
   (ht:eval (.Call (.Attribute o m apos) (e :: es) [] pos) X.env=(do
     let ov <- eval o X.env
     standAt apos.atName
     let (f,first) <- holding [ov] (getMethod ov m pl)
     callWith pos f first (backTo pos (starEach (e :: es) X.env)) (backToKw pos (keywordEach [] X.env))):=by rfl) :
   PE X (.Call (.Attribute o m apos) (e :: es) [] pos) (zom C m sp dvs E ta t):=by
 intro pins s σ H Q I h
 refine PySem.W.methodCall_KW (pl:=pl) (thn (he pins s σ H _ I h) fun u s1 ⟨x,H1,I1,rx,a,dx,fs,ex,ea,l,q⟩=>?_) ht
 subst ex
 obtain rfl:u=Value.ref a:=rx
 refine zpe I1 ea c hm l ?_
 refine PySem.W.callWith_K (first:=[.ref a]) (h₀:=X.base) I.ok.mod.kin hm.kp (thn (ha pos pins s1 σ H1 _ I1 q) fun us s2 ⟨vs,H2,I2,r,q2⟩=>⟨I2.kIn,?_⟩) hst hpl
 exact zoa (us := .ref a :: us) (vs := .ref a :: vs) F hr hb hd hx I2 (.cons rfl r) q2
theorem zxz {pl:Sem Bool} (he:PE X o ta) (c:Cls X.K C) (hm:zfz X.K C m f) (F:zM X.prog X.w X.K X.mg X.base CX k f fd ps sp) (hr:zP k X.A) (hb:zdg X.K fd ps ds) (hd:zp dvs ds) (hx:zgj CX X E)
   (ht:eval (.Call (.Attribute o m apos) [] [] pos) X.env=(do
     let ov <- eval o X.env
     standAt apos.atName
     let (f,first) <- holding [ov] (getMethod ov m pl)
     callWith pos f first (backTo pos (starEach [] X.env)) (backToKw pos (keywordEach [] X.env))):=by rfl) :
   PE X (.Call (.Attribute o m apos) [] [] pos) (zom C m sp dvs E ta zo6):=by
 intro pins s σ H Q I h
 refine PySem.W.methodCall_KW (pl:=pl) (thn (he pins s σ H _ I h) fun u s1 ⟨x,H1,I1,rx,a,dx,fs,ex,ea,l,q⟩=>?_) ht
 subst ex
 obtain rfl:u=Value.ref a:=rx
 refine zpe I1 ea c hm l ?_
 exact PySem.W.callWith_K0 (first:=[.ref a]) I1.kIn hm.kp (zoa (us:=[.ref a]) (vs:=[.ref a]) F hr hb hd hx I1 (.cons rfl .nil) q)
structure Mk (K:PySem.W.Frag) (C f:Addr):Prop where
 makes:PySem.W.makesIn K C=true
 init:PySem.W.findIn K (.ref C) "__init__" = some (some (.ref f))
 fn:PySem.W.isFn K (.ref f)=true
 kp:PySem.W.keepIn K (.ref C)=true
theorem zyI {pins:List (Addr×Obj)}{σ:St}{H:Hp}{s:Shared}{Q:VK}{us:List Value}{vs:List V} (M:Mk X.K C f) (F:zM X.prog X.w X.K X.mg X.base CX k f fd ps sp) (hr:zP (k+1) X.A) (hb:zdg X.K fd ps ds) (hd:zp dvs ds)
   (hx:zgj CX X E) (I:Inv X pins σ H s) (r:zp vs us)
   (h:∀ x dx,H x=none->H dx=none->dx≠x->sp (.ref x :: (vs++dvs)) (upd (upd H dx (.own x)) x (.ins C dx [])) (fun v H2=>v = .non∧Q (.ref x) H2) E) :
   wpAny (model X.prog X.w) X.A (call (.ref C) us) (EP X pins σ Q) X.xe s:=by
 have hq:=h (s.heap.objs.size+1) s.heap.objs.size (I.hok.fresh (Nat.le_succ _)) (I.hok.fresh (Nat.le_refl _)) (Nat.ne_of_lt (Nat.lt_succ_self _))
 have I2:=Inv.made (C:=C) I
 have r2:zp (V.ref (s.heap.objs.size+1) :: (vs++dvs)) (Value.ref (s.heap.objs.size+1) :: (us++ds)) := .cons rfl (r.append hd)
 have hl:(Value.ref (s.heap.objs.size+1) :: us++ds).length=ps.length:=by
   have e:=r2.length
   rw [F.len _ _ _ _ hq]at e
   exact e.symm
 refine wpAny_call (zxU (f:=f) I.kIn M.makes M.init (beq_iff_eq.mp M.fn) (codeAny_mono (F.run _ X.stack _ _ ⟨Value.ref (s.heap.objs.size+1) :: us,[]⟩ (Value.ref (s.heap.objs.size+1) :: (us++ds)) _ _ E (hr.make C us [])
   (I2.env0.make C us []) (hb _ (Value.ref (s.heap.objs.size+1) :: us) I2.kIn hl) r2 hq) fun r s' hq'=>?_))
 cases r with
 | error e=>exact hx pins σ _ _ e s' I2 hq'
 | ok fl =>
   cases fl with
   | ret u =>
     obtain ⟨v,H',I3,rv,ev,q3⟩:=I2.after hq'
     subst ev
     exact ⟨rv,⟨V.ref (s.heap.objs.size+1),H',I3,rfl,q3⟩⟩
   | next=>exact False.elim hq'
   | brk=>exact False.elim hq'
   | cont=>exact False.elim hq'
theorem zyB (M:Mk X.K C f) (F:zM X.prog X.w X.K X.mg X.base CX k f fd ps sp) (hr:zP (k+1) X.A) (hg:Gl X x) (hm:X.mg x=some (.ref C)) (hb:zdg X.K fd ps ds) (hd:zp dvs ds) (hx:zgj CX X E)
   (ha:PA X (e :: es) t) (hdb:(x == ("__debug__":Str))=false:=by decide) (he:starEach (e :: es) X.env=(false,eval e X.env) :: starEach es X.env:=by rfl) (hpl:(backTo pos (starEach es X.env)).any (·.1)=false:=by rfl) :
   PE X (.Call (.Name x p) (e :: es) [] pos) (zBF C sp dvs E t):=by
 intro pins s σ H Q I h
 refine wpAny_Call_Name_kw (zoN I hg hm ?_ hdb)
 refine PySem.W.callWith_K (h₀:=X.base) I.ok.mod.kin M.kp (thn (ha pos pins s σ H _ I h) fun us s1 ⟨vs,H1,I1,r,q⟩=>⟨I1.kIn,?_⟩) he hpl
 exact zyI M F hr hb hd hx I1 r q
end
section
variable {X:Cx}{CX:CXT}{k:Nat}{f C:Addr}{fd:FuncData}{ps ks:List Str}{sp:Sp}{E:XK}{x m:Str}{p pos apos kpos:Pos}{e o:Expr}{es:List Expr}{kws:List Keyword}{te ta:TE}{t tk:TA}{nm:Option Str}
variable {g:List Value->List Value->List Value}{gV:List V->List V->List V}
end
structure zbj (N P:List Str) (sc:Scope):Prop where
 kind:sc.kind = .function
 co:sc.isCoroutine=false
 gen:sc.isGenerator=false
 nd:N.Nodup
 pre:N.take P.length=P
 par:∀ x∈P,sc.names.lookup x=some .local∨sc.names.lookup x=some .cell
 nofree:∀ y∈sc.names,y.2 ≠ .free
theorem zr8 {kindOf:Str->Option NameKind}{x:Str}:∀ {binds:List (Str×Value)}{m:Str->Option Value},(∀ v,(x,v)∉binds)->bindL kindOf binds m x=m x
 | [],_,_=>rfl
 | (n,v) :: r,m,h=>by
   unfold bindL
   rw [zr8 fun w hw=>h w (List.mem_cons_of_mem _ hw)]
   split
   . have:x≠n:=by rintro rfl;exact h v List.mem_cons_self
     simp [this]
   . rfl
theorem zqQ {kindOf:Str->Option NameKind}{x:Str}:∀ {binds:List (Str×Value)}{m:Str->Option Value},(∀ v,(x,v)∉binds)->bindC kindOf binds m x=m x
 | [],_,_=>rfl
 | (n,v) :: r,m,h=>by
   unfold bindC
   rw [zqQ fun w hw=>h w (List.mem_cons_of_mem _ hw)]
   split
   . rfl
   . have:x≠n:=by rintro rfl;exact h v List.mem_cons_self
     simp [this]
theorem zrl {kindOf:Str->Option NameKind}{x:Str}{v:Value}:∀ {P:List Str}{vs:List Value}{i:Nat}{m:Str->Option Value},P.Nodup->P[i]?=some x->vs[i]?=some v->kindOf x=some .local ->
   bindL kindOf (P.zip vs) m x=some v
 | [],_,_,_,_,h,_,_=>by simp at h
 | _ :: _,[],_,_,_,_,h,_=>by simp at h
 | p :: P,w :: vs,0,m,nd,h1,h2,hk=>by
   simp at h1 h2;subst h1;subst h2
   show bindL kindOf ((p,w) :: P.zip vs) m p=_
   unfold bindL
   rw [zr8 fun v hv=>(List.nodup_cons.mp nd).1 (List.of_mem_zip hv).1,if_pos hk]
   simp
 | p :: P,w :: vs,i+1,m,nd,h1,h2,hk=>by
   show bindL kindOf ((p,w) :: P.zip vs) m x=_
   unfold bindL
   exact zrl (i:=i) (List.nodup_cons.mp nd).2 (by simpa using h1) (by simpa using h2) hk
theorem zrQ {kindOf:Str->Option NameKind}{x:Str}{v:Value}:∀ {P:List Str}{vs:List Value}{i:Nat}{m:Str->Option Value},P.Nodup->P[i]?=some x->vs[i]?=some v->kindOf x≠some .local ->
   bindC kindOf (P.zip vs) m x=some v
 | [],_,_,_,_,h,_,_=>by simp at h
 | _ :: _,[],_,_,_,_,h,_=>by simp at h
 | p :: P,w :: vs,0,m,nd,h1,h2,hk=>by
   simp at h1 h2;subst h1;subst h2
   show bindC kindOf ((p,w) :: P.zip vs) m p=_
   unfold bindC
   rw [zqQ fun v hv=>(List.nodup_cons.mp nd).1 (List.of_mem_zip hv).1,if_neg hk]
   simp
 | p :: P,w :: vs,i+1,m,nd,h1,h2,hk=>by
   show bindC kindOf ((p,w) :: P.zip vs) m x=_
   unfold bindC
   exact zrQ (i:=i) (List.nodup_cons.mp nd).2 (by simpa using h1) (by simpa using h2) hk
def start (N:List Str) (vs:List V):St:=vs.map some++List.replicate (N.length - vs.length) none
def zgg (CX:CXT) (P:Program) (w:World) (K:PySem.W.Frag) (mg:Str->Option Value) (base:Heap) (N:List Str) (qual:Str) (scope:Scope) (f:Addr) (cd:Value) (A:Around) (outer:List Env) (s:Shared) (H:Hp) (E:XK):Cx where
 prog:=P
 w:=w
 K:=K
 mg:=mg
 base:=base
 A:=A.deeper (envOfC qual scope s.heap.objs.size f cd)
 N:=N
 s₀:=s
 H₀:=H
 env:=envOfC qual scope s.heap.objs.size f cd
 outer:=outer
 stack:=envOfC qual scope s.heap.objs.size f cd :: outer
 ex:=[]
 calm:=true
 fn:=fun _=>true
 pn:=[]
 xe:=fun e s'=>wpAny (model P w) (A.deeper (envOfC qual scope s.heap.objs.size f cd)) (leaving (envOfC qual scope s.heap.objs.size f cd) e) (fun _ s''=>CX outer H s E e s'') (fun e' s''=>CX outer H s E e' s'') s'
theorem zsv {sc:Scope}{n:Nat}{x:Str} (h:sc.names.lookup x=some .cell):∃ c,(cellsFrom n sc.names []).lookup x=some c:=by
 have q:=PySem.W.cellsFrom_some sc.names n [] (.inl h)
 exact Option.isSome_iff_exists.mp q
theorem zxS {CX:CXT}{P:Program}{w:World}{K:PySem.W.Frag}{mg:Str->Option Value}{base:Heap}{N ps:List Str}{qual:Str}{scope:Scope}{f:Addr}{cd:Value}{A:Around}{outer:List Env}{s s1:Shared}{H:Hp}{E:XK}{us:List Value}{vs:List V}
   (S:zbj N ps scope) (hd:A.handled=none) (e0:zf9 P w K mg base A outer s H) (hl:vs.length=ps.length) (r:zp vs us)
   (x:InCallC s s.heap.objs.size (bindL (envOfC qual scope s.heap.objs.size f cd).kindOf (ps.zip us) fun _=>none) (cellsFrom (s.heap.objs.size+1) scope.names []) (bindC (envOfC qual scope s.heap.objs.size f cd).kindOf (ps.zip us) fun _=>none) s1) :
   Inv (zgg CX P w K mg base N qual scope f cd A outer s H E) [] (start N vs) H s1:=by
 have hpl:ps.length<=N.length:=by have:=congrArg List.length S.pre;rw [List.length_take]at this;omega
 obtain ⟨h1,tk,rfl,hk⟩:=x.done
 have noA:∀ b:Addr,b∉(zgg CX P w K mg base N qual scope f cd A outer s H E).ex:=fun b z=>absurd (show b∈([]:List Addr) from z) (by simp)
 refine ⟨⟨e0.mod,S.kind,rfl,rfl,Nat.le_refl _,fun y z c h1 h2=>?_,fun y hy=>?_,fun y c _ h=>?_,fun _=>hd,Around.frames_deeper e0.frames,.inr ⟨rfl,rfl⟩,fun b z=>absurd z (noA b),e0.bs,e0.bsz,fun b _ _=>noA b,fun b z=>absurd z (noA b),e0.funs,e0.frf⟩,
   rfl,e0.bare,Un.kept hk,⟨_,x.toInCall.ns,fun i y v h1 h2 h3=>?_⟩,fun y c h=>⟨_,x.cell y c h⟩,e0.hok.fresh (Nat.le_refl _),fun y c h=>?_,fun p hp=>absurd (show p∈([]:List (Addr×Obj)) from hp) (by simp),e0.hok.kept hk,?_⟩
 . exact name_of_addr x.apart (PySem.mem_of_lookup h1) (PySem.mem_of_lookup h2)
 . have hy:scope.names.lookup y=some .cell∨scope.names.lookup y=some .free:=hy
   rcases hy with hy | hy
   . exact zsv hy
   . exact absurd rfl (S.nofree _ (PySem.mem_of_lookup hy))
 . exact Nat.le_of_lt (x.above y c (PySem.mem_of_lookup h))
 . have hi:i < vs.length:=by
     unfold start at h2
     by_cases hi:i < vs.length
     . exact hi
     . rw [List.getElem?_append_right (by simpa using hi)]at h2
       rw [List.getElem?_replicate]at h2
       split at h2 <;> cases h2
   have ha:vs[i]?=some v:=by
     unfold start at h2
     rw [List.getElem?_append_left (by simpa using hi),List.getElem?_map]at h2
     cases e:vs[i]? with
     | none=>rw [e]at h2;cases h2
     | some a=>rw [e]at h2;cases h2;rfl
   obtain ⟨u,hu,rv⟩:=r.get ha
   have hp:ps[i]?=some y:=by
     rw [<- S.pre,List.getElem?_take_of_lt (by omega)];exact h1
   have ndP:ps.Nodup:=by rw [<- S.pre];exact S.nd.sublist (List.take_sublist _ _)
   refine ⟨u,rv,?_⟩
   rcases S.par y (List.mem_of_getElem? hp) with k | k
   . exact .inl ⟨k,zrl ndP hp hu k⟩
   . obtain ⟨c,e⟩:=zsv (n:=s.heap.objs.size+1) k
     refine .inr ⟨.inl k,c,e,?_⟩
     have q:=x.cell y c e
     rw [zrQ ndP hp hu (by show scope.names.lookup y≠_;rw [k];decide)]at q
     exact q
 . exact e0.hok.fresh (Nat.le_of_lt (x.above y c (PySem.mem_of_lookup h)))
 . unfold start
   show _=N.length
   rw [List.length_append,List.length_map,List.length_replicate]
   omega
theorem zAb {CX:CXT}{P:Program}{w:World}{K:PySem.W.Frag}{mg:Str->Option Value}{base:Heap}{k:Nat}{f:Addr}{name qual:Str}{params:Arguments}{body:List Stmt}{scope:Scope}{dV kV doc pm cdv ct oc:Value}{an od:Option Addr}
   {osl:Array (Option Value)} {N ps:List Str} {sp:Sp} (lk:K.lookup f=some ⟨oc,od,.func (PySem.W.fnOf name qual params body scope dV kV doc pm an cdv ct),osl⟩) (hcd:PySem.W.codeIn K cdv qual=true) (S:zbj N ps scope)
   (len:∀ vs H Q E,sp vs H Q E->vs.length=ps.length)
   (hbody:∀ (A:Around) (outer:List Env) (s:Shared) (H:Hp) (vs:List V) (Q:VK) (E:XK),zP k (A.deeper (envOfC qual scope s.heap.objs.size f cdv))->sp vs H Q E ->
     ∃ t,PSs (zgg CX P w K mg base N qual scope f cdv A outer s H E) body t∧t { nx:=fun _ H'=>Q .non H',rt:=Q } (start N vs) H) :
   zM P w K mg base CX (k+1) f (PySem.W.fnOf name qual params body scope dV kV doc pm an cdv ct) ps sp:=by
 refine ⟨len,fun A outer s H args us vs Q E hr e0 hb r hsp=>?_⟩
 have hl:=len _ _ _ _ hsp
 have KX:K.In s.heap:=e0.mod.kin.keeps fun b o e=>(e0.bs b o e).1
 have lim:s.heap.NoLimit:=e0.mod.nolimit.keeps fun b o e=>(e0.bs b o e).1
 have hkind:∀ y∈ps.zip us,scope.names.lookup y.1=some .local∨(scope.names.lookup y.1=some .cell∧((cellsFrom (s.heap.objs.size+1) scope.names []).lookup y.1).isSome=true):=fun ⟨n,v⟩ hy=>by
   rcases S.par n (List.of_mem_zip hy).1 with q | q
   . exact .inl q
   . exact .inr ⟨q,PySem.W.cellsFrom_some _ _ _ (.inl q)⟩
 refine codeAny_call_function hr.depth (KX _ _ lk) rfl S.co S.gen rfl (PySem.W.codeRec_of KX hcd) (hb _ _ _ _ ?_)
 refine wpAny_newFunctionEnv_cells S.kind hkind fun env he s1 x=>?_
 subst he
 refine ⟨lim.keeps x.toInCall.keep,codeAny_func ?_⟩
 obtain ⟨t,ht,hq⟩:=hbody A outer s H vs Q E (hr.deeper _) hsp
 have I:Inv (zgg CX P w K mg base N qual scope f cdv A outer s H E) [] (start N vs) H s1:=zxS S hr.hd e0 hl r x
 refine wpAny_mono (ht [] s1 (start N vs) H _ I hq) (fun fl s' hs=>?_) fun e s' hs=>hs
 have fin:∀ {σ':St} {H':Hp} {v:V} {u:Value},Inv (zgg CX P w K mg base N qual scope f cdv A outer s H E) [] σ' H' s'->zn v u->Q v H'->CE outer P w H s Q u s' :=
   fun {σ' H' v u} J rv q=>⟨v,H',J.os,J.bare,J.base,J.hok,rv,q⟩
 cases fl with
 | ret u =>
   obtain ⟨v,σ',H',J,rv,q⟩:=hs
   exact fin J rv q
 | next =>
   obtain ⟨σ',H',J,q⟩:=hs
   exact fin (v:=V.non) (u:=Value.none) J rfl q
 | brk =>
   obtain ⟨_,_,_,q⟩:=hs
   exact False.elim q
 | cont =>
   obtain ⟨_,_,_,q⟩:=hs
   exact False.elim q
end L2
namespace L2
open PySem PySem.Spec PyProof.Rows
section
variable {X:Cx}{x:Str}{p pos:Pos}{e:Expr}{es:List Expr}{t:TA}{id T:String}{r:List V->Hp->VK->Prop}
def tCB (r:List V->Hp->VK->Prop) (t:TA):TE:=fun σ H Q=>t σ H fun vs H1=>r vs H1 Q
theorem zeW (hc:zdE X (.builtin id) r) (hg:Gl X x) (hm:X.mg x=none) (hv:bootBuiltins x=some (.builtin id)) (ha:PA X (e :: es) t) (hn:x ≠ "__name__":=by decide) (hdb:(x == ("__debug__":Str))=false:=by decide)
   (he:starEach (e :: es) X.env=(false,eval e X.env) :: starEach es X.env:=by rfl) (hpl:(backTo pos (starEach es X.env)).any (·.1)=false:=by rfl):PE X (.Call (.Name x p) (e :: es) [] pos) (tCB r t):=by
 intro pins s σ H Q I h
 refine wpAny_Call_Name_kw (zf5 I hg hm hv ?_ hn hdb)
 exact PyProof.Rows.callWith_builtin1 (thn (ha pos pins s σ H _ I h) fun us s1 ⟨vs,H1,I1,r1,q1⟩=>hc pins s1 σ H1 vs us Q I1 r1 q1) he hpl
theorem zoH (hc:zdE X (.type T) r) (hg:Gl X x) (hm:X.mg x=none) (hv:bootBuiltins x=some (.type T)) (ha:PA X (e :: es) t) (hn:x ≠ "__name__":=by decide) (hdb:(x == ("__debug__":Str))=false:=by decide)
   (he:starEach (e :: es) X.env=(false,eval e X.env) :: starEach es X.env:=by rfl) (hpl:(backTo pos (starEach es X.env)).any (·.1)=false:=by rfl):PE X (.Call (.Name x p) (e :: es) [] pos) (tCB r t):=by
 intro pins s σ H Q I h
 refine wpAny_Call_Name_kw (zf5 I hg hm hv ?_ hn hdb)
 exact PyProof.Rows.callWith_type1 (thn (ha pos pins s σ H _ I h) fun us s1 ⟨vs,H1,I1,r1,q1⟩=>hc pins s1 σ H1 vs us Q I1 r1 q1) he hpl
end
end L2
namespace HT
open PySem PyProof.Rows
section
open PySem.SeqAt
open PySem.AutoSeq1 (wpAny_loadPart')
open PySem.MeetsSeq PySem.MeetsSeq2 PySem.MeetsSeq3
end
section
variable {prog:Program}{w:World}{A:Around}{E:Value->Shared->Prop}{s:Shared}
def sIx (n d:Nat):Option Int->Nat
 | none=>d
 | some v=>if v < 0 then (v+(n:Int)).toNat else min v.toNat n
theorem clip_eq (v:Int) (n d:Nat):(if v < 0 then max (v+(n:Int)) 0 else min v (n:Int))=((sIx n d (some v):Nat):Int):=by
 show (if v < 0 then max (v+(n:Int)) 0 else min v (n:Int))=(((if v < 0 then (v+(n:Int)).toNat else min v.toNat n):Nat):Int)
 by_cases hv:v < 0
 . simp only [if_pos hv];omega
 . simp only [if_neg hv];omega
end
end HT
namespace L2
open PySem PySem.Spec PyProof.Rows
abbrev TO:=St->Hp->(Option Int->Hp->Prop)->Prop
def PO (X:Cx) (e:Option Expr) (t:TO):Prop :=
 ∀ (pins:List (Addr×Obj)) (s:Shared) (σ:St) (H:Hp) (Q:Option Int->Hp->Prop),Inv X pins σ H s->t σ H Q ->
   wpAny (model X.prog X.w) X.A (evalPart e X.env) (fun u s'=>∃ o H',Inv X pins σ H' s'∧IsPart u o∧Q o H') X.xe s
def zAP:TO:=fun _ H Q=>Q none H
def zBX (t:TE):TO:=fun σ H Q=>t σ H fun x H1=>∃ i,x = .int i∧Q (some i) H1
theorem zpd {ns:List Int}:∀ {us:List Value},zp (ns.map V.int) us->IntsAre us ns:=by
 induction ns with
 | nil=>intro us r;rw [List.map_nil]at r;cases r;exact .nil
 | cons n ns ih =>
   intro us r
   rw [List.map_cons]at r
   cases r with
   | cons r1 r2 =>
     obtain ⟨t,e⟩:=r1
     subst e
     exact .cons n t (ih r2)
section
variable {X:Cx}{e:Expr}{te:TE}{lo hi:Option Expr}{tl th:TO}{pos p2:Pos}
theorem zBb:PO X none zAP:=by
 intro pins s σ H Q I h
 rw [evalPart_none]
 exact wpAny_pure ⟨none,H,I,.none,h⟩
theorem zz6 (h:PE X e te):PO X (some e) (zBX te):=by
 intro pins s σ H Q I hw
 rw [evalPart_some]
 refine thn (h pins s σ H _ I hw) fun u s1 ⟨x,H1,I1,r1,q1⟩=>?_
 obtain ⟨i,rfl,q⟩:=q1
 obtain ⟨t,rfl⟩:=r1
 exact ⟨some i,H1,I1,.int i t,q⟩
def SlR (X:Cx) (r:V->Option Int->Option Int->Hp->VK->Prop):Prop :=
 ∀ (pins:List (Addr×Obj)) (s:Shared) (σ:St) (H:Hp) (x:V) (v vl vu:Value) (lo hi:Option Int) (sl:Addr) (Q:VK),Inv X pins σ H s->zn x v->s.heap.IsSliceOf sl vl vu .none->IsPart vl lo->IsPart vu hi->r x lo hi H Q ->
   ∃ T id,typeLookup (.type T) "__getitem__" = pure (some (.builtin id))∧s.TypeIs v T∧wpAny (model X.prog X.w) X.A (getItem v (.ref sl)) (EP X pins σ Q) X.xe s
def tSl (r:V->Option Int->Option Int->Hp->VK->Prop) (te:TE) (tl th:TO):TE:=fun σ H Q=>te σ H fun x H1=>tl σ H1 fun l H2=>th σ H2 fun u H3=>r x l u H3 Q
theorem zzq {r:V->Option Int->Option Int->Hp->VK->Prop} (hr:SlR X r) (he:PE X e te) (hl:PO X lo tl) (hu:PO X hi th):PE X (.Subscript e (.Slice lo hi none p2) pos) (tSl r te tl th):=by
 intro pins s σ H Q I h
 refine Subscript_ (thn (he pins s σ H _ I h) fun v s1 ⟨x,H1,I1,r1,q1⟩=>?_)
 refine wpAny_Slice (thn (hl pins s1 σ H1 _ I1 q1) fun vl s2 ⟨l,H2,I2,pl,q2⟩=>thn (hu pins s2 σ H2 _ I2 q2) fun vu s3 ⟨u,H3,I3,pu,q3⟩=>?_)
 rw [evalPart_none]
 refine wpAny_pure ?_
 have I4:Inv X pins σ H3 { s3 with heap:=s3.heap.push { cls := .type "slice",data := .fields #[vl,vu,.none] } }:=I3.kept (t':=s3.toks) fun b ob q=>Heap.get?_push_of_some _ q
 obtain ⟨T,id,hT,ht,hg⟩:=hr pins { s3 with heap:=s3.heap.push { cls := .type "slice",data := .fields #[vl,vu,.none] } } σ H3 x v vl vu l u s3.heap.objs.size Q I4 r1 (Heap.IsSliceOf.new ..) pl pu q3
 show wpAny (model X.prog X.w) X.A (subscriptTail e (.Slice lo hi none p2) v (.ref s3.heap.objs.size)) (EP X pins σ Q) X.xe { s3 with heap:=s3.heap.push { cls := .type "slice",data := .fields #[vl,vu,.none] } }
 exact tail_any (ops:=[.ref s3.heap.objs.size,v]) ht hT hg (by with_unfolding_all rfl)
def cutV (xs:List V) (lo hi:Option Int):List V:=(xs.drop (HT.sIx xs.length 0 lo)).take (HT.sIx xs.length xs.length hi - HT.sIx xs.length 0 lo)
theorem zBx (xs:List V) (lo hi:Option Int):(cutV xs lo hi).length<=xs.length:=by
 unfold cutV
 rw [List.length_take,List.length_drop]
 omega
end
end L2
namespace L2
open PySem PySem.Spec PyProof.Rows
def ixN (n:Nat) (i:Int):Option Nat:=if 0<=i then (if i < n then some i.toNat else none) else if -(n:Int)<=i then some (i+n).toNat else none
def atI {α:Type} (xs:List α) (i:Int):Option α:=(ixN xs.length i).bind fun j=>xs[j]?
theorem zrI {n:Nat}{i:Int}{j:Nat} (h:ixN n i=some j):seqIndex? i n=some j∧j < n∧-(n:Int)<=i∧i < n:=by
 unfold ixN at h
 by_cases h0:0<=i
 . rw [if_pos h0]at h
   by_cases h1:i < n
   . rw [if_pos h1]at h
     have e:i.toNat=j:=Option.some.inj h
     exact ⟨by rw [seqIndex_of h0 h1,e],by omega,by omega,h1⟩
   . rw [if_neg h1]at h;cases h
 . rw [if_neg h0]at h
   by_cases h1:-(n:Int)<=i
   . rw [if_pos h1]at h
     have e:(i+n).toNat=j:=Option.some.inj h
     exact ⟨by rw [seqIndex_neg (by omega) h1,e],by omega,h1,by omega⟩
   . rw [if_neg h1]at h;cases h
theorem zrF {α:Type}{xs:List α}{i:Int}{v:α} (h:atI xs i=some v):∃ j,seqIndex? i xs.length=some j∧xs[j]?=some v∧j < xs.length∧-(xs.length:Int)<=i∧i < xs.length:=by
 unfold atI at h
 cases e:ixN xs.length i with
 | none=>rw [e]at h;cases h
 | some j =>
   rw [e]at h
   obtain ⟨h1,h2,h3,h4⟩:=zrI e
   exact ⟨j,h1,h,h2,h3,h4⟩
def zss (b:Expr):Prop:=∀ o i,subscripted b false o i=operate [o,i] (getItem o i)
def IxR (X:Cx) (r:R2):Prop :=
 ∀ (value slice:Expr) (pins:List (Addr×Obj)) (s:Shared) (σ:St) (H:Hp) (x y:V) (v u:Value) (Q:VK),Inv X pins σ H s->zn x v->zn y u->r x y H Q ->
   subscripted slice false v u=operate [v,u] (getItem v u)->wpAny (model X.prog X.w) X.A (subscriptTail value slice v u) (EP X pins σ Q) X.xe s
def MtR (X:Cx) (id:String) (r:V->List V->Hp->VK->Prop):Prop :=
 ∀ (pins:List (Addr×Obj)) (s:Shared) (σ:St) (H:Hp) (x:V) (xs:List V) (v:Value) (us:List Value) (Q:VK),Inv X pins σ H s->zn x v->zp xs us->r x xs H Q ->
   wpAny (model X.prog X.w) X.A (call (.builtin id) (v :: us)) (EP X pins σ Q) X.xe s
section
variable {X:Cx}{a b:Expr}{ta tb:TE}{pos:Pos}
theorem IxR.or {r r':R2} (h:IxR X r) (h':IxR X r'):IxR X (fun x y H Q=>r x y H Q∨r' x y H Q):=by
 intro value slice pins s σ H x y v u Q I rx ry q hs
 rcases q with q | q
 . exact h value slice pins s σ H x y v u Q I rx ry q hs
 . exact h' value slice pins s σ H x y v u Q I rx ry q hs
theorem zBs {r:R2} (hr:IxR X r) (ha:PE X a ta) (hb:PE X b tb) (hs:zss b):PE X (.Subscript a b pos) (tOp r ta tb):=by
 intro pins s σ H Q I h
 exact Subscript_ (znO ha hb I h fun v u s2 x y H2 I2 rx ry q=>hr a b pins s2 σ H2 x y v u Q I2 rx ry q (hs _ _))
def zCn (K:PySem.W.Frag):R2:=fun x y H Q=>∃ p xs i v,x = .ref p∧y = .int i∧SqL K H p xs∧atI xs i=some v∧Q v H
def zAK (K:PySem.W.Frag):R2:=fun x y H Q=>∃ p xs i v,x = .ref p∧y = .int i∧SqT K H p xs∧atI xs i=some v∧Q v H
theorem zxV:IxR X (zCn X.K):=by
 intro value slice pins s σ H x y v u Q I rx ry h hs
 obtain ⟨p,xs,i,z,rfl,rfl,hq,he,q⟩:=h
 cases rx
 obtain ⟨t,rfl⟩:=ry
 obtain ⟨its,r,pl,hz⟩:=I.list hq
 obtain ⟨j,h1,h2,h3,h4,h5⟩:=zrF he
 obtain ⟨w,ew,rw'⟩:=r.get h2
 have hl:=r.length
 have hn:=zhg
 have fin:EP X pins σ Q w s:=⟨z,H,I,rw',q⟩
 by_cases h0:0<=i
 . have hj:i.toNat=j:=by
     rw [seqIndex_of h0 h5]at h1
     exact Option.some.inj h1
   exact item_listR pl.isList h0 (by omega) (by rw [hj];simpa using ew) fin hs
 . have hj:(i+(its.toArray.size:Int)).toNat=j:=by
     rw [seqIndex_neg (by omega) h4]at h1
     rw [List.size_toArray,<- hl]
     exact Option.some.inj h1
   exact subscriptTail_builtinR (x:=w) pl.isList.typeIs slot_list_getitem.lookup
     (wpAny_getItem_list_neg (Q:=fun r s'=>r=w∧EP X pins σ Q r s') pl.isList (by omega) (by rw [List.size_toArray] <;> omega) (by omega) (by rw [hj];simpa using ew) ⟨rfl,fin⟩) hs
theorem zCL:IxR X (zAK X.K):=by
 intro value slice pins s σ H x y v u Q I rx ry h hs
 obtain ⟨p,xs,i,z,rfl,rfl,hq,he,q⟩:=h
 cases rx
 obtain ⟨t,rfl⟩:=ry
 obtain ⟨its,r,pl,hz⟩:=I.tuple hq
 obtain ⟨j,h1,h2,h3,h4,h5⟩:=zrF he
 obtain ⟨w,ew,rw'⟩:=r.get h2
 have hl:=r.length
 have hn:=zhg
 have fin:EP X pins σ Q w s:=⟨z,H,I,rw',q⟩
 exact subscriptTail_builtinR (x:=w) pl.typeIs slot_tuple_getitem.lookup
   (getItem_tuple (j:=j) (Q:=fun r s'=>r=w∧EP X pins σ Q r s') pl (by omega) (by omega) (by rw [List.size_toArray,<- hl];exact h1) (by simpa using ew) ⟨rfl,fin⟩) hs
theorem zAx (its:List Value) (n j:Nat) (u:Value):Obj.mapSeq (·.setIfInBounds j u) { cls := .type "list",data := .seq its.toArray n }={ cls := .type "list",data := .seq (its.set j u).toArray n }:=by
 simp [Obj.mapSeq]
theorem Inv.lst {pins:List (Addr×Obj)}{σ:St}{H:Hp}{s:Shared}{p:Addr}{xs:List V} (I:Inv X pins σ H s) (h:H p=some (.lst xs)) :
   ∃ (its:List Value) (n:Nat),zp xs its∧s.heap.get? p=some { cls := .type "list",data := .seq its.toArray n }∧xs.length<=sizeLine:=by
 obtain ⟨z,its,n,r,e⟩:=I.hok p _ h
 exact ⟨its,n,r,e,z⟩
theorem Inv.lstUpd {pins:List (Addr×Obj)}{σ:St}{H:Hp}{s:Shared}{p:Addr}{xs ys:List V}{its its':List Value}{n n':Nat}{f:Obj->Obj} (I:Inv X pins σ H s) (h:H p=some (.lst xs))
   (ho:s.heap.get? p=some { cls := .type "list",data := .seq its.toArray n }) (hf:f { cls := .type "list",data := .seq its.toArray n }={ cls := .type "list",data := .seq its'.toArray n' }) (r:zp ys its') (hz:ys.length<=sizeLine) (t:Nat) :
   Inv X pins σ (upd H p (.lst ys)) { s with heap:=s.heap.update p f,toks:=t }:=by
 have e:(s.heap.update p f).get? p=some { cls := .type "list",data := .seq its'.toArray n' }:=by
   rw [Heap.get?_update_self f ho (by rw [hf] <;> rfl),hf]
 refine I.write (x:=p) (e:=p) (by rw [h];trivial) (.inl rfl) (fun b u hb q=>(Heap.get?_update_other _ _ (Ne.symm hb)).trans q) ⟨_,e⟩ ?_
 exact ⟨hz,its',n',r,e⟩
def zCf:V->V->V->Hp->(Hp->Prop)->Prop:=fun o i v H Q=>∃ p xs k j,o = .ref p∧i = .int k∧H p=some (.lst xs)∧ixN xs.length k=some j∧Q (upd H p (.lst (xs.set j v)))
theorem zy3:zgN X zCf:=by
 intro pins s σ H o i v ov iv u Q I ro ri rv h
 obtain ⟨p,xs,k,j,rfl,rfl,hp,hj,q⟩:=h
 cases ro
 obtain ⟨t,rfl⟩:=ri
 obtain ⟨its,n,r,ho,hz⟩:=I.lst hp
 obtain ⟨h1,h2,h3,h4⟩:=zrI hj
 have hl:=r.length
 have hn:=zhg
 have I':Inv X pins σ (upd H p (.lst (xs.set j v))) { s with heap:=s.heap.update p (Obj.mapSeq (·.setIfInBounds j u)) } :=
   I.lstUpd hp ho (zAx its n j u) (r.set rv j) (by rw [List.length_set];exact hz) s.toks
 by_cases h0:0<=k
 . have hk:k.toNat=j:=by
     rw [seqIndex_of h0 h4]at h1
     exact Option.some.inj h1
   exact PySem.W.ki_setAt ho h0 (by omega) (by rw [List.size_toArray,<- hl];exact h4) (by rw [hk];exact ⟨_,I',q⟩)
 . have hk:(k+(its.toArray.size:Int)).toNat=j:=by
     rw [seqIndex_neg (by omega) h3]at h1
     rw [List.size_toArray,<- hl]
     exact Option.some.inj h1
   exact PySem.W.ki_setBack ho (by omega) (by rw [List.size_toArray,<- hl];exact h3) (by omega) (by rw [hk];exact ⟨_,I',q⟩)
theorem zyY (lo hi:Option Int) (n:Nat):(sliceBounds lo hi none n).1=((HT.sIx n 0 lo:Nat):Int)∧(sliceBounds lo hi none n).2.1=((HT.sIx n n hi:Nat):Int)∧(sliceBounds lo hi none n).2.2=1:=by
 refine ⟨?_,?_,rfl⟩
 . cases lo with
   | none=>simp [sliceBounds,HT.sIx]
   | some i =>
     simp only [sliceBounds,HT.sIx,Option.getD_none,show (1:Int) > 0 by decide,if_true]
     by_cases h:i < 0
     . simp only [h,if_true] <;> omega
     . simp only [h,if_false] <;> omega
 . cases hi with
   | none=>simp [sliceBounds,HT.sIx]
   | some i =>
     simp only [sliceBounds,HT.sIx,Option.getD_none,show (1:Int) > 0 by decide,if_true]
     by_cases h:i < 0
     . simp only [h,if_true] <;> omega
     . simp only [h,if_false] <;> omega
theorem zB6 (its:List Value) (lo hi:Option Int):slicePick its.toArray lo hi none=((its.drop (HT.sIx its.length 0 lo)).take (HT.sIx its.length its.length hi - HT.sIx its.length 0 lo)).toArray:=by
 obtain ⟨h1,h2,h3⟩:=zyY lo hi its.toArray.size
 unfold slicePick
 rw [h1,h2,h3]
 simp only [sliceRange_one,pick_run,List.size_toArray] <;> rfl
def zyl (K:PySem.W.Frag):V->Option Int->Option Int->Hp->VK->Prop:=fun x lo hi H Q=>∃ a xs,x = .ref a∧SqL K H a xs∧∀ p,H p=none->Q (.ref p) (upd H p (.lst (cutV xs lo hi)))
theorem zB9:SlR X (zyl X.K):=by
 intro pins s σ H x v vl vu lo hi sl Q I rx hs pl pu h
 obtain ⟨a,xs,rfl,hx,q⟩:=h
 cases rx
 obtain ⟨its,r,ht,hz⟩:=I.list hx
 have hlen:=r.length
 refine ⟨"list",_,slot_list_getitem.lookup,ht.isList.typeIs,?_⟩
 refine wpAny_getItem_list_slice ht.isList hs pl pu .none (by simp) ?_ (by rw [List.size_toArray] <;> omega)
 rw [zB6,<- hlen]
 refine ⟨.ref s.heap.objs.size,_,I.laid (t':=s.toks) (o := .lst (cutV xs lo hi)) (fun b ob q=>Heap.get?_push_of_some _ q) (Nat.le_refl _) ?_,rfl,q _ (I.hok.fresh (Nat.le_refl _))⟩
 exact ⟨Nat.le_trans (zBx xs lo hi) hz,_,0,(r.drop (HT.sIx xs.length 0 lo)).take (HT.sIx xs.length xs.length hi - HT.sIx xs.length 0 lo),Heap.get?_push_size _ rfl⟩
def zbY:V->Bool
 | .non=>true
 | .bl _=>true
 | .int _=>true
 | .str _=>true
 | _=>false
def eqV:V->V->Bool
 | .non,.non=>true
 | .bl a,.bl b=>a == b
 | .bl a,.int b=>(if a then 1 else 0) == b
 | .int a,.bl b=>a == (if b then 1 else 0)
 | .int a,.int b=>a == b
 | .str a,.str b=>a == b
 | _,_=>false
theorem zog {A:Around}{s:Shared}{y x:V}{u v:Value} (ry:zn y u) (rx:zn x v) (fy:zbY y=true) (fx:zbY x=true):SeqAt.EqAt A s u v (eqV y x):=by
 cases y with
 | non =>
   cases ry
   cases x with
   | non=>cases rx;exact SeqAt.EqAt.same _
   | bl b=>cases rx;exact SeqAt.EqAt.none_bool b
   | int b=>obtain ⟨t,rfl⟩:=rx;exact SeqAt.EqAt.none_int b t
   | str b=>obtain ⟨t,rfl⟩:=rx;exact SeqAt.EqAt.none_str b t
   | _=>exact absurd (show false=true from fx) Bool.false_ne_true
 | bl a =>
   cases ry
   cases x with
   | non=>cases rx;exact SeqAt.EqAt.bool_none a
   | bl b=>cases rx;exact SeqAt.EqAt.bool_bool a b
   | int b=>obtain ⟨t,rfl⟩:=rx;exact SeqAt.EqAt.bool_int a b t
   | str b=>obtain ⟨t,rfl⟩:=rx;exact SeqAt.EqAt.bool_str a b t
   | _=>exact absurd (show false=true from fx) Bool.false_ne_true
 | int a =>
   obtain ⟨t',rfl⟩:=ry
   cases x with
   | non=>cases rx;exact SeqAt.EqAt.int_none a t'
   | bl b=>cases rx;exact SeqAt.EqAt.int_bool a t' b
   | int b=>obtain ⟨t,rfl⟩:=rx;exact SeqAt.EqAt.int_int a t' b t
   | str b=>obtain ⟨t,rfl⟩:=rx;exact SeqAt.EqAt.int_str a t' b t
   | _=>exact absurd (show false=true from fx) Bool.false_ne_true
 | str a =>
   obtain ⟨t',rfl⟩:=ry
   cases x with
   | non=>cases rx;exact SeqAt.EqAt.str_none a t'
   | bl b=>cases rx;exact SeqAt.EqAt.str_bool a t' b
   | int b=>obtain ⟨t,rfl⟩:=rx;exact SeqAt.EqAt.str_int a t' b t
   | str b=>obtain ⟨t,rfl⟩:=rx;exact SeqAt.EqAt.str_str a t' b t
   | _=>exact absurd (show false=true from fx) Bool.false_ne_true
 | _=>exact absurd (show false=true from fy) Bool.false_ne_true
def eqU (x:V) (u:Value):Bool:=match u with
 | .none=>eqV .non x
 | .bool b=>eqV (.bl b) x
 | .int i _=>eqV (.int i) x
 | .str z _=>eqV (.str z) x
 | _=>false
theorem zsP {x y:V}{u:Value} (r:zn y u) (f:zbY y=true):eqU x u=eqV y x:=by
 cases y with
 | non=>cases r;rfl
 | bl b=>cases r;rfl
 | int i=>obtain ⟨t,rfl⟩:=r;rfl
 | str z=>obtain ⟨t,rfl⟩:=r;rfl
 | _=>exact absurd (show false=true from f) Bool.false_ne_true
theorem zo3 {x:V}:∀ {xs:List V}{us:List Value},zp xs us->xs.all zbY=true->us.any (eqU x)=xs.any fun y=>eqV y x
 | _,_,.nil,_=>rfl
 | y :: xs,u :: us,.cons r t,f=>by
   rw [List.all_cons,Bool.and_eq_true]at f
   rw [List.any_cons,List.any_cons,zsP r f.1,zo3 t f.2]
theorem zow {A:Around}{s:Shared}{x:V}{v:Value} (rx:zn x v) (fx:zbY x=true):∀ {xs:List V}{us:List Value},zp xs us->xs.all zbY=true->∀ u∈us,SeqAt.EqAt A s u v (eqU x u)
 | _,_,.nil,_=>fun u hu=>by cases hu
 | y :: xs,u :: us,.cons r t,f=>fun u' hu=>by
   rw [List.all_cons,Bool.and_eq_true]at f
   rcases List.mem_cons.mp hu with rfl | hu
   . rw [zsP r f.1];exact zog r rx f.1 fx
   . exact zow rx fx t f.2 u' hu
def inV (x:V) (xs:List V):Bool:=xs.any fun y=>eqV y x
def rIn (K:PySem.W.Frag) (neg:Bool):R2:=fun x y H Q=>∃ p xs,y = .ref p∧(SqL K H p xs∨SqT K H p xs)∧zbY x=true∧xs.all zbY=true∧Q (.bl (if neg then !inV x xs else inV x xs)) H
theorem zCg:OpR X (compareOp .NotIn) (rIn X.K true):=by
 intro pins s σ H x y v u Q I rx ry h
 obtain ⟨p,xs,rfl,hq,fx,fs,q⟩:=h
 cases ry
 rcases hq with hq | hq
 . obtain ⟨its,r,pl,hz⟩:=I.list hq
   refine SeqAt.notIn_listAt (eqU x) pl.isList (fun w hw=>zow rx fx r fs w (by simpa using hw)) ⟨.bl _,H,I,rfl,?_⟩
   rw [show its.toArray.any (eqU x)=its.any (eqU x) by simp,zo3 r fs]
   exact q
 . obtain ⟨its,r,pl,hz⟩:=I.tuple hq
   refine SeqAt.notIn_tupleAt (eqU x) pl (fun w hw=>zow rx fx r fs w (by simpa using hw)) ⟨.bl _,H,I,rfl,?_⟩
   rw [show its.toArray.any (eqU x)=its.any (eqU x) by simp,zo3 r fs]
   exact q
theorem zA3:zdE X (.builtin "len") (fun xs H Q=>∃ p ys,xs=[.ref p]∧(SqL X.K H p ys∨SqT X.K H p ys)∧Q (.int ys.length) H):=by
 intro pins s σ H xs us Q I r h
 obtain ⟨p,ys,rfl,hq,q⟩:=h
 obtain ⟨u,rfl,rx⟩:=zeF r
 cases rx
 have hn:=zhg
 rcases hq with hq | hq
 . obtain ⟨its,r',pl,hz⟩:=I.list hq
   have hlen:=r'.length
   exact Calls.call_len_list pl.isList (by simp only [List.size_toArray] <;> omega) ⟨.int ys.length,H,I.tok _,⟨s.toks+1,by rw [List.size_toArray,hlen]⟩,q⟩
 . obtain ⟨its,r',pl,hz⟩:=I.tuple hq
   have hlen:=r'.length
   exact len_tuple pl (by simp only [List.size_toArray] <;> omega) ⟨.int ys.length,H,I.tok _,⟨s.toks+1,by rw [List.size_toArray,hlen]⟩,q⟩
theorem zzO:zdE X (.type "list") (fun xs H Q=>∃ p ys,xs=[.ref p]∧(SqL X.K H p ys∨SqT X.K H p ys)∧∀ l,H l=none->Q (.ref l) (upd H l (.lst ys))):=by
 intro pins s σ H xs us Q I r h
 obtain ⟨p,ys,rfl,hq,q⟩:=h
 obtain ⟨u,rfl,rx⟩:=zeF r
 cases rx
 have fin:∀ (its:List Value),zp ys its->ys.length<=sizeLine->∀ (h':Heap) (c':Nat),(∀ b o',s.heap.get? b=some o'->h'.get? b=some o') ->
     h'.get? s.heap.objs.size=some { cls := .type "list",dict:=none,data := .seq its.toArray c',slots:=#[] }->EP X pins σ Q (.ref s.heap.objs.size) { s with heap:=h' }:=fun its r' hz h' c' kp e =>
   ⟨.ref s.heap.objs.size,_,I.laid (t':=s.toks) kp (Nat.le_refl _) (show zbd X.prog X.w _ h' _ (.lst ys) from ⟨hz,its,c',r',e⟩),rfl,q _ (I.hok.fresh (Nat.le_refl _))⟩
 rcases hq with hq | hq
 . obtain ⟨its,r',pl,hz⟩:=I.list hq
   have hlen:=r'.length
   obtain ⟨o,ho,hc,n,hd⟩:=pl.isList
   exact call_list_seq p (.inl rfl) ho hc hd (fun h' c' kp e=>fin its r' hz h' c' kp e) (by simp only [List.size_toArray] <;> omega)
 . obtain ⟨its,r',pl,hz⟩:=I.tuple hq
   have hlen:=r'.length
   obtain ⟨o,ho,hc,n,hd⟩:=pl
   exact call_list_seq p (.inr rfl) ho hc hd (fun h' c' kp e=>fin its r' hz h' c' kp e) (by simp only [List.size_toArray] <;> omega)
def tyV (K:PySem.W.Frag) (T:String) (x:V) (H:Hp):Prop:=match x with
 | .str _=>T = "str"
 | .int _=>T = "int"
 | .ref p=>(T = "list" ∧ ∃ xs,SqL K H p xs)∨(T = "tuple" ∧ ∃ o,K.lookup p=some o∧o.cls = .type "tuple" ∧ o.dict=none) ∨
     (T = "dict" ∧ ((∃ kvs,H p=some (.dK kvs))∨∃ kvs,H p=some (.dT kvs)))∨(T = "set" ∧ ∃ S n,H p=some (.set S n))
 | _=>False
theorem zhZ {pins:List (Addr×Obj)}{σ:St}{H:Hp}{s:Shared}{T:String}{x:V}{v:Value} (I:Inv X pins σ H s) (r:zn x v) (ty:tyV X.K T x H) :
   s.TypeIs v T∧∀ a,v = .ref a->∃ ob,s.heap.get? a=some ob∧ob.dict=none:=by
 cases x with
 | str z =>
   obtain ⟨t,rfl⟩:=r
   cases (show T = "str" from ty)
   exact ⟨typeIs_str s z t,fun _ e=>nomatch e⟩
 | int i =>
   obtain ⟨t,rfl⟩:=r
   cases (show T = "int" from ty)
   exact ⟨typeIs_int s i t,fun _ e=>nomatch e⟩
 | ref p =>
   cases r
   rcases ty with ⟨rfl,xs,hq⟩ | ⟨rfl,o,hk,hc,hd⟩ | ⟨rfl,hk⟩ | ⟨rfl,S,n,hk⟩
   . obtain ⟨its,_,pl,_⟩:=I.list hq
     refine ⟨pl.isList.typeIs,fun a e=>?_⟩
     cases e
     obtain ⟨o,n,e,c,hd,_⟩:=pl
     exact ⟨o,e,hd⟩
   . refine ⟨⟨o,I.kIn p o hk,hc⟩,fun a e=>?_⟩
     cases e
     exact ⟨o,I.kIn _ o hk,hd⟩
   . have z:∃ o,s.heap.get? p=some o∧o.ExactDict:=by
       rcases hk with ⟨kvs,hk⟩ | ⟨kvs,hk⟩
       . obtain ⟨_,_,_,_,o,_,_,e,ex,_⟩:=I.hok p _ hk
         exact ⟨o,e,ex⟩
       . obtain ⟨_,_,_,_,o,_,_,e,ex,_⟩:=I.hok p _ hk
         exact ⟨o,e,ex⟩
     obtain ⟨o,e,ex⟩:=z
     refine ⟨⟨o,e,ex.1⟩,fun a e2=>?_⟩
     cases e2
     exact ⟨o,e,ex.2.1⟩
   . obtain ⟨o,_,_,_,e,ex,_⟩:=I.hok p _ hk
     refine ⟨⟨o,e,ex.1⟩,fun a e2=>?_⟩
     cases e2
     exact ⟨o,e,ex.2.1⟩
 | _=>exact False.elim ty
def zAU (K:PySem.W.Frag) (T:String) (r:V->List V->Hp->VK->Prop) (to:TE):TE:=fun σ H Q=>to σ H fun x H1=>tyV K T x H1∧r x [] H1 Q
def tBM (K:PySem.W.Frag) (T:String) (r:V->List V->Hp->VK->Prop) (to:TE) (t:TA):TE:=fun σ H Q=>to σ H fun x H1=>tyV K T x H1∧t σ H1 fun xs H2=>r x xs H2 Q
variable {o e:Expr}{es:List Expr}{to:TE}{t:TA}{name:Str}{apos cpos:Pos}{T id:String}{r:V->List V->Hp->VK->Prop}
theorem zzj (pa:PlainAttrs T) (slot:Slot T name id) (hty:typeOf (.builtin id)=pure (.type "method_descriptor")) (hm:MtR X id r) (ho:PE X o to)
   (hbase:attributeBase o name X.env (eval o X.env)=eval o X.env:=by rfl) (hline:(apos.endLine == cpos.line)=true:=by rfl):PE X (.Call (.Attribute o name apos) [] [] cpos) (zAU X.K T r to):=by
 intro pins s σ H Q I h
 refine wpAny_Call_method0_late hbase hline (thn (ho pins s σ H _ I h) fun v s1 ⟨x,H1,I1,r1,ty,q1⟩=>?_)
 obtain ⟨h1,h2⟩:=zhZ I1 r1 ty
 exact ⟨T,id,pa,slot,hty,h1,h2,Calls.callWith_builtin rfl (PySem.evalArgs_none (hm pins s1 σ H1 x [] v [] Q I1 r1 .nil q1))⟩
theorem zqT (pa:PlainAttrs T) (slot:Slot T name id) (hty:typeOf (.builtin id)=pure (.type "method_descriptor")) (hm:MtR X id r) (ho:PE X o to) (ha:PA X (e :: es) t)
   (hbase:attributeBase o name X.env (eval o X.env)=eval o X.env:=by rfl)
   (hfew:((backTo cpos (starEach (e :: es) X.env)).all (fun x=>!x.1) && (backToKw cpos (keywordEach [] X.env)).all (fun x=>x.1.isSome)
     && decide ((e :: es).length+([]:List Keyword).length+(if ([]:List Keyword).isEmpty then 0 else 1) < 30))=true:=by rfl)
   (hline:(apos.endLine == cpos.line)=true:=by rfl) (hs:starEach (e :: es) X.env=(false,eval e X.env) :: starEach es X.env:=by rfl) (hplain:(backTo cpos (starEach es X.env)).any (·.1)=false:=by rfl) :
   PE X (.Call (.Attribute o name apos) (e :: es) [] cpos) (tBM X.K T r to t):=by
 intro pins s σ H Q I h
 refine wpAny_Call_method_late hbase hfew hline rfl (thn (ho pins s σ H _ I h) fun v s1 ⟨x,H1,I1,r1,ty,q1⟩=>?_)
 obtain ⟨h1,h2⟩:=zhZ I1 r1 ty
 refine ⟨T,id,pa,slot,hty,h1,h2,?_⟩
 have hA:=ha cpos pins s1 σ H1 _ I1 q1
 rw [hs]at hA ⊢
 refine Calls.callWith_builtin (by show (false || (backTo cpos (starEach es X.env)).any (·.1))=false;rw [hplain] <;> rfl) (Calls.evalArgs_plain ?_)
 exact thn hA fun us s2 ⟨vs,H2,I2,r2,q2⟩=>hm pins s2 σ H2 x vs v us Q I2 r1 r2 q2
end
end L2
namespace L2
open PySem PySem.Spec PyProof.Rows
def MtM (X:Cx) (id:String) (r:V->List V->Hp->VK->Prop):Prop :=
 ∀ (pins:List (Addr×Obj)) (s:Shared) (σ:St) (H:Hp) (x:V) (xs:List V) (v:Value) (us:List Value) (Q:VK),Inv X pins σ H s->zn x v->zp xs us->r x xs H Q ->
   wpAny (model X.prog X.w) X.A (call (.builtin id) (v :: us)) (EP X pins σ Q) X.xe s
theorem zp.one:∀ {x:V}{us:List Value},zp [x] us->∃ u,us=[u]∧zn x u
 | _,_,.cons r .nil=>⟨_,rfl,r⟩
theorem zp.zero:∀ {us:List Value},zp [] us->us=[]
 | _,.nil=>rfl
theorem zp.dropLast {xs:List V}{us:List Value} (h:zp xs us):zp xs.dropLast us.dropLast:=by
 induction h with
 | nil=>exact .nil
 | cons r t ih =>
   cases t with
   | nil=>exact .nil
   | cons q t'=>exact .cons r ih
theorem zp.rep {xs:List V}{us:List Value} (h:zp xs us):∀ k:Nat,zp (List.replicate k xs).flatten (List.replicate k us).flatten
 | 0=> .nil
 | k+1=>by
   rw [List.replicate_succ,List.replicate_succ,List.flatten_cons,List.flatten_cons]
   exact zp.append h (zp.rep h k)
theorem zy9 {α:Type} (l:List α):l.eraseIdx (l.length - 1)=l.dropLast:=by
 induction l with
 | nil=>rfl
 | cons a r ih =>
   cases r with
   | nil=>rfl
   | cons b r =>
     have e:(a :: b :: r).length - 1=((b :: r).length - 1)+1:=by
       have h1:(a :: b :: r).length=r.length+2:=rfl
       have h2:(b :: r).length=r.length+1:=rfl
       omega
     rw [e,List.eraseIdx_cons_succ,ih]
     all_goals rfl
theorem zrj (its:List Value):∀ (k:Nat) (acc:List Value),
   List.foldl (fun x1 x2=>x1++x2) acc.toArray (List.replicate k its.toArray)=(acc++(List.replicate k its).flatten).toArray
 | 0,acc=>by simp
 | k+1,acc=>by
   have e:acc.toArray++its.toArray=(acc++its).toArray:=by simp
   have e2:(acc++its)++(List.replicate k its).flatten=acc++(List.replicate (k+1) its).flatten:=by
     rw [List.replicate_succ,List.flatten_cons,List.append_assoc]
   rw [<- e2,<- zrj its k (acc++its),<- e,List.replicate_succ,List.foldl_cons]
section
variable {X:Cx}{pins:List (Addr×Obj)}{σ:St}{H:Hp}{s:Shared}{l b:Addr}{xs ys zs:List V}
theorem Inv.lset {its its':List Value}{n:Nat}{f:Array Value->Array Value}{t':Nat} (I:Inv X pins σ H s) (hH:H l=some (.lst xs))
   (e:s.heap.get? l=some { cls := .type "list",data := .seq its.toArray n }) (hf:f its.toArray=its'.toArray) (hv:zp ys its') (hz:ys.length<=sizeLine) :
   Inv X pins σ (upd H l (.lst ys)) { s with heap:=s.heap.update l (Obj.mapSeq f),toks:=t' }:=by
 have q:=PySem.IsL.update e f
 rw [hf]at q
 refine I.write (x:=l) (e:=l) (by rw [hH];exact trivial) (.inl rfl) (fun b' u hb hu=>(Heap.get?_update_other s.heap (Obj.mapSeq f) (Ne.symm hb)).trans hu) ⟨_,q⟩ ?_
 exact ⟨hz,its',_,hv,q⟩
theorem Inv.lnew {its:List Value}{t':Nat} (I:Inv X pins σ H s) (hv:zp ys its) (hz:ys.length<=sizeLine) :
   Inv X pins σ (upd H s.heap.objs.size (.lst ys)) { s with heap:=s.heap.push { cls := .type "list",data := .seq its.toArray },toks:=t' } :=
 I.laid (fun _ _ q=>Heap.get?_push_of_some _ q) (Nat.le_refl _) ⟨hz,its,0,hv,Heap.get?_push_size _ rfl⟩
theorem Inv.fresh (I:Inv X pins σ H s):H s.heap.objs.size=none:=I.hok.fresh (Nat.le_refl _)
theorem Inv.lstM (I:Inv X pins σ H s) (hH:H l=some (.lst xs)):xs.length<=sizeLine∧∃ (its:List Value) (n:Nat),zp xs its∧xs.length=its.length∧s.heap.get? l=some { cls := .type "list",data := .seq its.toArray n }:=by
 obtain ⟨z,its,n,r,e⟩:=I.hok l _ hH
 exact ⟨z,its,n,r,r.length,e⟩
theorem zrZ {n:Nat} (h:n<=sizeLine):Builtin.List.listTooLong n=false:=by
 unfold Builtin.List.listTooLong
 exact decide_eq_false (by omega)
end
section
variable {X:Cx}
def zAO:V->List V->Hp->VK->Prop:=fun x vs H Q=>∃ l xs y,x = .ref l∧vs=[y]∧H l=some (.lst xs)∧xs.length < sizeLine∧Q .non (upd H l (.lst (xs++[y])))
theorem zqo:MtM X "list.append" zAO:=by
 intro pins s σ H x vs v us Q I rx rv h
 obtain ⟨l,xs,y,rfl,rfl,hH,hz,q⟩:=h
 cases rx
 obtain ⟨u,rfl,ru⟩:=rv.one
 obtain ⟨z,its,n,r,hl,e⟩:=I.lstM hH
 refine call_meets F.slot_list_append ⟨_,e,rfl⟩ F.entry_list_append (F.args_list_append_2 _ _) (PySem.list_append l its.toArray n u (by rw [List.size_toArray];omega)) ⟨e,?_⟩
 refine ⟨.non,_,I.lset (its':=its++[u]) hH e (by simp) (r.append (.cons ru .nil)) ?_,rfl,q⟩
 rw [List.length_append,List.length_singleton]
 omega
def zAA:V->List V->Hp->VK->Prop:=fun x vs H Q=>∃ l b xs zs,x = .ref l∧vs=[.ref b]∧H l=some (.lst xs)∧H b=some (.lst zs)∧xs.length+zs.length<=sizeLine∧Q .non (upd H l (.lst (xs++zs)))
theorem zBc:MtM X "list.extend" zAA:=by
 intro pins s σ H x vs v us Q I rx rv h
 obtain ⟨l,b,xs,zs,rfl,rfl,hH,hB,hz,q⟩:=h
 cases rx
 obtain ⟨u,rfl,ru⟩:=rv.one
 cases ru
 obtain ⟨z,its,n,r,hl,e⟩:=I.lstM hH
 obtain ⟨z2,its2,n2,r2,hl2,e2⟩:=I.lstM hB
 have hsz:its.toArray.size+its2.toArray.size<=sizeLine:=by rw [List.size_toArray,List.size_toArray];omega
 have hlong:¬ (!its.toArray.isEmpty && Builtin.List.listTooLong (its.toArray.size+its2.toArray.size))=true:=by
   rw [zrZ hsz,Bool.and_false]
   exact Bool.false_ne_true
 refine call_meets F.slot_list_extend ⟨_,e,rfl⟩ F.entry_list_extend (F.args_list_extend_2 _ _)
   (AutoSeq1.list_extend_list_list_0 l its.toArray n b its2.toArray n2 hlong (by rw [List.size_toArray];omega) (by omega)) ⟨e,e2,?_⟩
 refine ⟨.non,_,I.lset (its':=its++its2) hH e (by simp) (r.append r2) ?_,rfl,q⟩
 rw [List.length_append]
 omega
def zyx:V->List V->Hp->VK->Prop:=fun x vs H Q=>∃ l xs y,x = .ref l∧vs=[]∧H l=some (.lst xs)∧xs[xs.length - 1]?=some y∧Q y (upd H l (.lst xs.dropLast))
theorem zB7:MtM X "list.pop" zyx:=by
 intro pins s σ H x vs v us Q I rx rv h
 obtain ⟨l,xs,y,rfl,rfl,hH,hy,q⟩:=h
 cases rx
 have hus:=rv.zero
 subst hus
 obtain ⟨z,its,n,r,hl,e⟩:=I.lstM hH
 obtain ⟨u,hu,ru⟩:=r.get hy
 have hy':its.toArray[its.toArray.size - 1]?=some u:=by
   show its.toArray[its.length - 1]?=some u
   rw [<- Array.getElem?_toList,<- hl]
   exact hu
 refine call_meets F.slot_list_pop ⟨_,e,rfl⟩ F.entry_list_pop (F.args_list_pop_1 _) (MeetsSeq.list_pop_last l its.toArray n u hy' (by rw [List.size_toArray];omega)) ⟨e,?_⟩
 refine ⟨y,_,I.lset (its':=its.dropLast) hH e ?_ r.dropLast ?_,ru,q⟩
 . show its.toArray.eraseIdxIfInBounds (its.toArray.size - 1)=its.dropLast.toArray
   rw [List.size_toArray,List.eraseIdxIfInBounds_toArray,zy9]
 . rw [List.length_dropLast]
   omega
def zxG:R2:=fun x y H Q=>∃ l b xs zs,x = .ref l∧y = .ref b∧H l=some (.lst xs)∧H b=some (.lst zs)∧xs.length+zs.length<=sizeLine∧∀ p,H p=none->Q (.ref p) (upd H p (.lst (xs++zs)))
theorem zCm:OpR X (binaryOp .Add) zxG:=by
 intro pins s σ H x y v u Q I rx ry h
 obtain ⟨l,b,xs,zs,rfl,rfl,hH,hB,hz,q⟩:=h
 cases rx
 cases ry
 obtain ⟨z,its,n,r,hl,e⟩:=I.lstM hH
 obtain ⟨z2,its2,n2,r2,hl2,e2⟩:=I.lstM hB
 refine PySem.P.add_list e e2 ?_ (by rw [List.size_toArray,List.size_toArray];omega)
 have ea:its.toArray++its2.toArray=(its++its2).toArray:=by simp
 rw [ea]
 exact ⟨.ref _,_,I.lnew (t':=s.toks) (r.append r2) (by rw [List.length_append];omega),rfl,q _ I.fresh⟩
def zCJ:R2:=fun x y H Q=>∃ l k xs,x = .ref l∧y = .int k∧H l=some (.lst xs)∧-(2 ^ 63)<=k∧k < 2 ^ 63∧xs.length * k.toNat<=sizeLine ∧
 ∀ p,H p=none->Q (.ref p) (upd H p (.lst (List.replicate k.toNat xs).flatten))
theorem zyA {α:Type} (xs:List α) (k:Nat):(List.replicate k xs).flatten.length=k * xs.length:=by
 induction k with
 | zero=>simp
 | succ k ih=>rw [List.replicate_succ,List.flatten_cons,List.length_append,ih,Nat.succ_mul,Nat.add_comm]
theorem zAH:OpR X (binaryOp .Mult) zCJ:=by
 intro pins s σ H x y v u Q I rx ry h
 obtain ⟨l,k,xs,rfl,rfl,hH,h1,h2,hz,q⟩:=h
 cases rx
 obtain ⟨t,rfl⟩:=ry
 obtain ⟨z,its,n,r,hl,e⟩:=I.lstM hH
 have hlen:its.toArray.size * k.toNat<=sizeLine:=by rw [List.size_toArray,<- hl];exact hz
 have hcap:¬ its.toArray.size * k.toNat > (2 ^ 63 - 1) / 8:=by
   have:(sizeLine:Nat)<=(2 ^ 63 - 1) / 8:=by decide
   omega
 have hfit:¬ (!Builtin.List.listFitsIndex k)=true:=by
   rw [fitsIndex_both h1 h2]
   exact Bool.false_ne_true
 have hlong:¬ Builtin.List.listTooLong (its.toArray.size * k.toNat)=true:=by
   rw [zrZ hlen]
   exact Bool.false_ne_true
 have hnew:List.foldl (fun x1 x2=>x1++x2) #[] (List.replicate (if its.toArray.isEmpty=true then 0 else k.toNat) its.toArray)=(List.replicate k.toNat its).flatten.toArray:=by
   have f0:∀ m:Nat,List.foldl (fun x1 x2=>x1++x2) #[] (List.replicate m its.toArray)=(List.replicate m its).flatten.toArray:=fun m=>by
     have:=zrj its m []
     rw [List.nil_append]at this
     exact this
   rw [f0]
   cases its with
   | nil=>simp
   | cons a r'=>rw [if_neg (by simp)]
 refine wpAny_binaryOp_repeat_ref (T :="list") (U :="int") (by decide) ⟨_,e,rfl⟩ (fun s'=>typeIs_int s' k t) noFill_list_mul F.fills_int_mul F.slot_int_rmul repeat_list F.slot_int_index.lookup
   (call_meets F.slot_int_rmul (typeIs_int s k t) F.entry_int_rmul (F.args_int_rmul_2 _ _) (int___rmul___int_list k t l its.toArray n)
     ⟨e,rfl,⟨_,e,rfl⟩,call_meets F.slot_list_mul ⟨_,e,rfl⟩ F.entry_list_mul (F.args_list_mul_2 _ _) (AutoListH.list___mul___list_int_3 l its.toArray n k t hfit hcap hlong) ⟨e,?_⟩⟩)
 rw [hnew]
 exact ⟨.ref _,_,I.lnew (t':=s.toks) (r.rep k.toNat) (by rw [zyA,Nat.mul_comm];exact hz),rfl,q _ I.fresh⟩
end
section
variable {prog:Program}{w:World}{A:Around}{E:Value->Shared->Prop}{s:Shared}
end
section
variable {X:Cx}
end
end L2
namespace Att
open PySem PySem.W PySem.Calls PyProof.Rows
theorem zAl {P:Params}{h:Heap}:∀ (ns:List Int) (vs:List Value),WellAll P h vs (ns.map WData.int)->IntsAre vs ns:=by
 intro ns
 induction ns with
 | nil =>
   intro vs w
   rw [List.map_nil]at w
   cases w
   exact .nil
 | cons n ns ih =>
   intro vs w
   rw [List.map_cons]at w
   cases w with
   | cons a b =>
     cases a
     exact .cons _ _ (ih _ b)
theorem zBZ {l:OpenLaw}{n:Nat} (hn:l.most=some n) {P:Params}{h:Heap}{args:List WData}{vals:List Value}
   (hpre:l.row.toRowW.claim.pre args=true) (hwl:WellAll P h vals args) :
   ∃ a vs ns,vals=[Value.ref a]∧args=[WData.list (ns.map WData.int)]∧h.get? a=some { cls := .type "list",data := .seq vs.toArray }∧IntsAre vs ns∧ns.length<=n:=by
 have hsh:WShape.hasAll [] args [.list .int]=true:=(pre_splitW hpre).1
 have hc:l.pre.holds [] { args:=args }=true:=(pre_splitW hpre).2
 obtain ⟨d,r,rfl,h1,h2⟩:=hasAllW_cons hsh
 obtain rfl:=hasAllW_nil h2
 obtain ⟨xs,rfl,h3⟩:=hasW_list h1
 obtain ⟨ns,rfl⟩:=items_int h3
 have hlen:ns.length<=n:=by
   unfold OpenLaw.pre at hc
   have h4:(WTm.not (.lt (.lit (.int (n:Int))) (.len (.arg 0)))).holds [] { args:=[.list (ns.map .int)] }=true:=by
     have h4:=(holds_andW hc).1
     rw [hn]at h4
     exact h4
   have h5:=condW_of h4 (w_not (w_lt w_lit (w_len_list (w_arg rfl))))
   rw [List.length_map]at h5
   refine Nat.le_of_not_lt fun q=>?_
   have q':(n:Int) < ((ns.length:Nat):Int):=by omega
   first
     | (rw [decide_eq_true q']at h5;exact absurd h5 (by decide))
     | (simp at h5;omega)
 cases hwl with
 | cons w1 w2 =>
   cases w2
   cases w1 with
   | list ho hall=>exact ⟨_,_,ns,rfl,rfl,ho,zAl ns _ hall,hlen⟩
theorem zCe (l:OpenLaw) (args:List WData):l.row.toRowW.claim.post args (.bool true) args=true :=
 postW_of (r:=l.row.toRowW) (X:=(true == true))
   (show WShape.has [] (.bool true) .bool=true by first | rfl | decide | simp [WShape.has,WShape.arms,WShape.armsAll])
   (show (WTm.eq .res (.lit (.bool true))).value [] { args:=args,res:=some (.bool true),after:=args }=some (.bool (true == true)) from w_eq_bool (w_res rfl) w_lit) rfl
theorem attach_call {l:OpenLaw}{n:Nat}{q:Program}{loose:List Str}{XP:(Str->Option Value)->Heap->Prop}{YP:World->Heap->Prop}{d:DefRec}
   (hn:l.most=some n) (hdf:d.params.defaults=[])
   (call:∀ (w:World) (s₀ s₁:Shared) (mg mb:Str->Option Value) (fa:Addr) (o:Obj) (pm cd doc:Value) (a:Addr) (vs:List Value) (ns:List Int),
     Ground q loose [] XP w s₀ mg mb s₁.heap->YP w s₁.heap ->
     s₁.heap.get? fa=some o->o.data = .func (docDef d.name d.params d.body d.scope pm cd doc)->s₁.heap.CodeRec cd d.name->mg d.name=some (.ref fa) ->
     s₁.heap.get? a=some { cls := .type "list",data := .seq vs.toArray }->IntsAre vs ns->ns.length<=n->s₁.gens=#[] ->
     codeAny (model l.prog w) callerA (.call (.ref fa) ⟨[.ref a],[]⟩) (fun r s'=>r = .ok (.ret (.bool true))∧OldK s₁.heap s'.heap∧s'.os=s₁.os∧AllBare s'.gens) s₁) :
   WalkO q loose XP YP l.row.toRowW d [] (fun f vs=>PySem.call f vs):=by
 intro w s₀ s₁ mg mb G Y fa o pm cd doc dV kV ho hd hcd hD hmg hg args vals as hpre hlay hrd hwl hlo
 obtain rfl:dV = .none:=Dflts.none hD hdf
 obtain rfl:kV = .none:=Dflts.noKw hD
 obtain ⟨a,vs,ns,rfl,rfl,hobj,hints,hlen⟩:=zBZ hn hpre hwl
 refine enter_call (codeAny_mono (call w s₀ s₁ mg mb fa o pm cd doc a vs ns G Y ho (fd_plain hd) hcd hmg hobj hints hlen hg) fun r s' hq=>?_)
 obtain ⟨rfl,h2,h3,h4⟩:=hq
 exact ⟨.inl ⟨.bool true,.bool true,[],rfl,fun _=>rfl,.bool true,zCe l _,fun _=>⟨List.Pairwise.nil,fun _ hm=>(nomatch hm)⟩⟩,h2,h3,h4⟩
section
variable {prog:Program}{w:World}{A:Around}{E:Value->Shared->Prop}{s:Shared}{K:Frag}
theorem zDd {R:Result->Shared->Prop}{C fI:Addr}{rest:List Value}{kw:List (Str×Value)}
   (X:K.In s.heap) (hm:makesIn K C=true) (hi:findIn K (.ref C) "__init__" = some (some (.ref fI))) (hf:isFn K (.ref fI)=true)
   (h:codeAny (model prog w) (A.under (.builtin "type.__call__" ⟨.ref C :: rest,kw⟩)) (.call (.ref fI) ⟨.ref (s.heap.objs.size+1) :: rest,kw⟩) (InitBack (s.heap.objs.size+1) R)
     { s with heap:=(s.heap.push emptyDict).push (instObj C s.heap.objs.size) }):codeAny (model prog w) A (.call (.ref C) ⟨rest,kw⟩) R s:=by
 obtain ⟨hh,g,d,t,os⟩:=s
 exact make_core (makes_of X hm) (looks_findIn X hi) (fun self=>bind_fn X self (beq_iff_eq.mp hf)) (.inl rfl) h
theorem zE7 {x C:Addr}{ox:Obj}{es:List DictEntry}{n:Nat}{name:Str}{expr:Bool}{v:Value}{Q:Value->Shared->Prop}
   (X:K.In s.heap) (I:PySem.W.InstAt s.heap x ox C (some (dictOf es n))) (hg:plainGet K C name=true) (hh:hasDictIn K C=true) (ha:findIn K (.ref C) name=some none)
   (hl:getL name es=some (some v)) (hv:handedIn v=true) (h:Q v { s with toks:=s.toks+1 }):wpAny (model prog w) A (getAttr (.ref x) name expr) Q E s :=
 get_value X I (plainGet_of hg).1 (findObj_own hh ha rfl hl) hv h
end
end Att
namespace L2
open PySem PySem.Spec PyProof.Rows
theorem zio:∀ {vs:List Value}{ns:List Int},IntsAre vs ns->zp (ns.map V.int) vs
 | _,_,.nil=> .nil
 | _,_,.cons n t h=> .cons ⟨t,rfl⟩ (zio h)
def zhy (H:Hp):Prop:=∀ b,H b=none∨∃ o xs,H b=some (.frz o (.lst xs))
theorem zBv {P:Program}{w:World}{K:PySem.W.Frag}{mg mb:Str->Option Value}{CX:CXT}{k:Nat}{fa a:Addr}{fd:FuncData}{x:Str}{sp:Sp}{s₁:Shared}{vs:List Value}{ns:List Int}
   (KX:K.In s₁.heap) (hns:s₁.heap.Ns mainGlobals mg) (hb:s₁.heap.Ns builtinsNs mb) (hbb:∀ x:Str,x ≠ "__name__" -> mb x=bootBuiltins x) (hlim:s₁.heap.NoLimit) (hg:s₁.gens=#[])
   (ha:s₁.heap.get? a=some { cls := .type "list",data := .seq vs.toArray }) (hi:IntsAre vs ns) (hl:ns.length<=sizeLine) (hr:zP k callerA)
   (F:∀ base:Heap,K.In base->base.Ns mainGlobals mg->zM P w K mg base CX k fa fd [x] sp) (hbind:∀ (s:Shared) (u:Value),BindsTo s fd ⟨[u],[]⟩ [(x,u)])
   (hsp:∀ H:Hp,zhy H->SqL K H a (ns.map V.int)->sp [.ref a] H (fun v _=>v = .bl true) fun _ _ _=>False)
   (hCX:∀ H e s',CX [] H s₁ (fun _ _ _=>False) e s'->False) :
   codeAny (model P w) callerA (.call (.ref fa) ⟨[.ref a],[]⟩) (fun r s'=>r = .ok (.ret (.bool true))∧OldK s₁.heap s'.heap∧s'.os=s₁.os∧AllBare s'.gens) s₁:=by
 have rv:=zio hi
 have lenV:=hi.length
 have core:∀ H:Hp,zhy H->SqL K H a (ns.map V.int)->HOk P w H s₁.heap->(∀ b,H b≠none->b=a)->(H a≠none->K.lookup a=none) ->
     codeAny (model P w) callerA (.call (.ref fa) ⟨[.ref a],[]⟩) (fun r s'=>r = .ok (.ret (.bool true))∧OldK s₁.heap s'.heap∧s'.os=s₁.os∧AllBare s'.gens) s₁:=by
   intro H hO hS hok hA hK
   have base_of:∀ {b:Addr} {o:Obj},s₁.heap.get? b=some o->H b=none->(zfa s₁.heap H).get? b=some o:=fun e n=>zy1 e n
   have noA:∀ {b:Addr} {o:Obj} {es:Array DictEntry} {ep:Nat},s₁.heap.get? b=some o->o.data = .dict es ep->H b=none:=fun {b o es ep} e d=>by
     cases q:H b with
     | none=>rfl
     | some u =>
       have e':b=a:=hA b (by rw [q];simp)
       subst e'
       rw [ha]at e;cases e
       have d':Data.seq vs.toArray _=Data.dict es ep:=d
       cases d'
   have nsK:∀ {b:Addr} {m:Str->Option Value},s₁.heap.Ns b m->(zfa s₁.heap H).Ns b m:=fun {b m} ⟨o,es,ep,e,d,r⟩=>⟨o,es,ep,base_of e (noA e d),d,r⟩
   have hKb:K.In (zfa s₁.heap H):=fun b o e=>base_of (KX b o e) (by
     cases q:H b with
     | none=>rfl
     | some u =>
       have e':b=a:=hA b (by rw [q];simp)
       subst e'
       rw [hK (by rw [q];simp)]at e;cases e)
   have hM:Mod K mg (zfa s₁.heap H):=⟨hKb,nsK hns,⟨mb,nsK hb,hbb⟩,let ⟨mc,h1,h2⟩:=hlim;⟨mc,nsK h1,h2⟩⟩
   have e0:zf9 P w K mg (zfa s₁.heap H) callerA [] s₁ H:=⟨rfl,hM,fun b o e=>zzR e,Nat.le_of_eq (zCj _ _),trivial,fun b hb=>absurd (show b∈([]:List Addr) from hb) (by simp),hok,.of_eq hg⟩
   refine codeAny_mono ((F _ hKb (nsK hns)).run callerA [] s₁ H ⟨[.ref a],[]⟩ [.ref a] [.ref a] _ _ hr e0 (hbind s₁ (.ref a)) (.cons rfl .nil) (hsp H hO hS)) fun r s' h=>?_
   cases r with
   | error e=>exact (hCX H e s' h).elim
   | ok fl =>
     cases fl with
     | next=>exact False.elim h
     | brk=>exact False.elim h
     | cont=>exact False.elim h
     | ret u =>
       obtain ⟨v,H',os,bare,un,hok',r',q⟩:=h
       have q':v = .bl true:=q
       subst q'
       obtain rfl:u=Value.bool true:=r'
       refine ⟨rfl,OldK.of_keep fun b o e=>?_,os,bare⟩
       cases q:H b with
       | none=>exact un.keep b o e q (by intro z;exact absurd (show b∈([]:List Addr) from z) (by simp)) (by simp)
       | some u =>
         rcases hO b with z | ⟨ob,xs,z⟩
         . rw [q]at z;cases z
         . have z2:=un.frzs b ob _ z
           obtain ⟨e1,_⟩:=hok b _ z
           obtain ⟨e2,_⟩:=hok' b _ z2
           rw [e]at e1;cases e1
           exact e2
 cases hk:K.lookup a with
 | some o =>
   have e:=KX a o hk
   rw [ha]at e
   cases e
   refine core (fun _=>none) (fun _=> .inl rfl) (.inr ⟨_,vs.toArray,_,hk,rfl,rfl,rfl,by rw [List.size_toArray,lenV];exact hl,by simpa using rv⟩) (fun b u z=>by have z':(none:Option HO)=some u:=z;cases z') (fun b z=>absurd rfl z) fun z=>absurd rfl z
 | none =>
   refine core (fun b=>if b=a then some (.frz { cls := .type "list",data := .seq vs.toArray } (.lst (ns.map V.int))) else none) (fun b=>?_) (.inl (.inr ⟨{ cls := .type "list",data := .seq vs.toArray },if_pos rfl⟩)) (fun b u z=>?_) (fun b z=>?_) fun _=>hk
   . by_cases hb:b=a
     . exact .inr ⟨_,_,if_pos hb⟩
     . exact .inl (if_neg hb)
   . by_cases hb:b=a
     . have z':=(if_pos hb).symm.trans z
       cases z'
       subst hb
       exact ⟨ha,by rw [List.length_map];exact hl,vs,_,rv,ha⟩
     . have z':=(if_neg hb).symm.trans z
       cases z'
   . by_cases hb:b=a
     . exact hb
     . exact absurd (if_neg hb) z
end L2
namespace L2
open PySem PySem.Spec PyProof.Rows
theorem walk_of {l:PySem.W.OpenLaw}{n k:Nat}{q:Program}{loose:List Str}{XP:(Str->Option Value)->Heap->Prop}{YP:World->Heap->Prop}{d:DefRec}{K:Params->PySem.W.Frag}{CX:World->CXT}{sp:World->Sp}{x:Str}
   (hn:l.most=some n) (hn2:n<=sizeLine) (hdf:d.params.defaults=[]) (hr:zP k callerA)
   (hY:∀ (w:World) (h:Heap),YP w h->(K w.params).In h)
   (F:∀ (w:World) (mg:Str->Option Value) (fa:Addr) (h:Heap),(K w.params).In h->h.Ns mainGlobals mg->mg d.name=some (.ref fa) ->
     ∃ fd:FuncData,(∀ (s:Shared) (u:Value),BindsTo s fd ⟨[u],[]⟩ [(x,u)]) ∧
       ∀ base:Heap,(K w.params).In base->base.Ns mainGlobals mg->zM l.prog w (K w.params) mg base (CX w) k fa fd [x] (sp w))
   (hsp:∀ (w:World) (H:Hp) (a:Addr) (ns:List Int),ns.length<=n->zhy H->SqL (K w.params) H a (ns.map V.int)->sp w [.ref a] H (fun v _=>v = .bl true) fun _ _ _=>False)
   (hCX:∀ (w:World) (H:Hp) (s:Shared) (e:Value) (s':Shared),CX w [] H s (fun _ _ _=>False) e s'->False) :
   PySem.W.WalkO q loose XP YP l.row.toRowW d [] (fun f vs=>PySem.call f vs):=by
 refine Att.attach_call hn hdf fun w s₀ s₁ mg mb fa o pm cd doc a vs ns G Y ho hd hcd hmg hobj hints hlen hg=>?_
 have KX:=hY w _ Y
 obtain ⟨fd,hb,hF⟩:=F w mg fa _ KX G.T.g hmg
 exact zBv KX G.T.g G.T.b G.T.builtins G.T.nolimit hg hobj hints (Nat.le_trans hlen hn2) hr hF hb (fun H hO hS=>hsp w H a ns hlen hO hS) fun H e s'=>hCX w H s₁ e s'
end L2
namespace L2
open PySem PySem.Spec PyProof.Rows
def ziE (s:Stmt) (j:Nat):Stmt:=match s with
 | .ClassDef _ _ _ body _ _ _ _ _ _ _=>body.getD j (.Pass ⟨0,0,0,0⟩)
 | _=> .Pass ⟨0,0,0,0⟩
def zbi (s:Stmt):Arguments:=match s with
 | .FunctionDef _ a _ _ _ _ _ _ _ _=>a
 | _=>{ posonlyargs:=[],args:=[],vararg:=none,kwonlyargs:=[],kw_defaults:=[],kwarg:=none,defaults:=[] }
def zbc (s:Stmt):List Stmt:=match s with
 | .FunctionDef _ _ b _ _ _ _ _ _ _=>b
 | _=>[]
def zt (s:Stmt):Scope:=match s with
 | .FunctionDef _ _ _ _ _ _ sc _ _ _=>sc
 | _=>{ kind := .function,names:=[],isGenerator:=false,isCoroutine:=false }
abbrev CX0:CXT:=fun _ _ _ _ _ _=>False
abbrev E0:XK:=fun _ _ _=>False
theorem ziz {X:Cx}:zgj CX0 X E0:=fun _ _ _ _ _ _ _ h=>h.elim
structure Fun (K:PySem.W.Frag) (x qual:Str) (st:Stmt) (f:Addr) (fd:FuncData):Prop where
 ex:∃ (oc:Value) (od:Option Addr) (kV doc pm:Value) (an:Option Addr) (cdv ct:Value) (osl:Array (Option Value)),
   fd=PySem.W.fnOf x qual (zbi st) (zbc st) (zt st) .none kV doc pm an cdv ct∧K.lookup f=some ⟨oc,od,.func fd,osl⟩∧PySem.W.codeIn K cdv qual=true
 kp:PySem.W.keepIn K (.ref f)=true
section
variable {P:Program}{w:World}{K:PySem.W.Frag}{mg:Str->Option Value}{base:Heap}
theorem Fun.ok {x qual:Str}{st:Stmt}{f:Addr}{fd:FuncData}{N ps:List Str}{k:Nat}{sp:Sp} (F:Fun K x qual st f fd) (S:zbj N ps (zt st)) (len:∀ vs H Q E,sp vs H Q E->vs.length=ps.length)
   (hbody:∀ (cdv:Value) (A:Around) (outer:List Env) (s:Shared) (H:Hp) (vs:List V) (Q:VK) (E:XK),zP k (A.deeper (envOfC qual (zt st) s.heap.objs.size f cdv))->sp vs H Q E ->
     ∃ t,PSs (zgg CX0 P w K mg base N qual (zt st) f cdv A outer s H E).nox (zbc st) t∧t { nx:=fun _ H'=>Q .non H',rt:=Q } (start N vs) H):zM P w K mg base CX0 (k+1) f fd ps sp:=by
 obtain ⟨oc,od,kV,doc,pm,an,cdv,ct,osl,rfl,lk,hcd⟩:=F.ex
 refine zAb lk hcd S len fun A outer s H vs Q E hr hsp=>?_
 obtain ⟨t,h,q⟩:=hbody cdv A outer s H vs Q E hr hsp
 exact ⟨t,h.nox,q⟩
theorem Fun.binds {x qual:Str}{st:Stmt}{f:Addr}{fd:FuncData}{ps:List Str} (F:Fun K x qual st f fd)
   (h:∀ (kV doc pm:Value) (an:Option Addr) (cdv ct:Value) (us:List Value),us.length=ps.length->bindArgs (PySem.W.fnOf x qual (zbi st) (zbc st) (zt st) .none kV doc pm an cdv ct) ⟨us,[]⟩=pure (ps.zip us)):zdg K fd ps []:=by
 obtain ⟨oc,od,kV,doc,pm,an,cdv,ct,osl,rfl,lk,hcd⟩:=F.ex
 exact .all (h kV doc pm an cdv ct)
theorem zbI {x qual:Str}{st:Stmt}{f:Addr}{oc:Value}{od an:Option Addr}{osl:Array (Option Value)}{kV doc pm cdv ct:Value} (l:K.lookup f=some ⟨oc,od,.func (PySem.W.fnOf x qual (zbi st) (zbc st) (zt st) .none kV doc pm an cdv ct),osl⟩)
   (c:PySem.W.codeIn K cdv qual=true) (k:PySem.W.keepIn K (.ref f)=true):Fun K x qual st f (PySem.W.fnOf x qual (zbi st) (zbc st) (zt st) .none kV doc pm an cdv ct):=⟨⟨oc,od,kV,doc,pm,an,cdv,ct,osl,rfl,l,c⟩,k⟩
end
theorem zoE {A:Around}{k:Nat} (hr:zP k A):A.units+1 < cLine:=Nat.lt_of_le_of_lt (Nat.add_le_add_left (by decide:1<=64) _) hr.units
section
variable {X:Cx}
end
end L2
end
section
namespace L2
open PySem PySem.Spec PyProof.Rows
section
variable {κ:Type} [DecidableEq κ]
def zdk (kvs:List (κ×V)) (k:κ):Option V:=(kvs.find? fun kv=>decide (kv.1=k)).map (·.2)
def zc3 (kvs:List (κ×V)) (k:κ) (v:V):List (κ×V) :=
 if (kvs.any fun kv=>decide (kv.1=k))=true then kvs.map (fun kv=>if kv.1=k then (kv.1,v) else kv) else kvs++[(k,v)]
theorem zis {p:κ×V}{r:List (κ×V)}{k:κ} (e:p.1=k):zdk (p :: r) k=some p.2:=by simp [zdk,List.find?_cons,e]
theorem zhQ {p:κ×V}{r:List (κ×V)}{k:κ} (e:¬ p.1=k):zdk (p :: r) k=zdk r k:=by simp [zdk,List.find?_cons,e]
theorem zrp (k:κ):∀ kvs:List (κ×V),(kvs.any fun kv=>decide (kv.1=k))=(zdk kvs k).isSome
 | []=>rfl
 | p :: r=>by
   rw [List.any_cons]
   by_cases e:p.1=k
   . simp only [zis e,decide_eq_true e,Bool.true_or,Option.isSome_some]
   . rw [zhQ e,decide_eq_false e,Bool.false_or];exact zrp k r
theorem zqR (kvs:List (κ×V)) (k:κ) (v:V):(zc3 kvs k v).length<=kvs.length+1:=by
 unfold zc3
 split
 . rw [List.length_map];omega
 . rw [List.length_append,List.length_cons,List.length_nil];omega
theorem zcR.isSome_eq {o:Option V}{u:Option Value} (r:zcR o u):o.isSome=u.isSome:=by
 cases o with
 | none=>cases u with
   | none=>rfl
   | some _=>exact (show False from r).elim
 | some _=>cases u with
   | none=>exact (show False from r).elim
   | some _=>rfl
theorem KV.val {kvs:List (κ×V)}{vs:List (κ×Value)} (r:KV kvs vs) (k:κ):zcR (zdk kvs k) (valueAt vs k):=by
 unfold KV at r
 induction r with
 | nil=>exact True.intro
 | @cons p q ps qs h t ih =>
   obtain ⟨h1,h2⟩:=h
   by_cases e:p.1=k
   . have e':q.1=k:=h1.symm.trans e
     have b:valueAt (q :: qs) k=some q.2:=by simp [valueAt,List.find?_cons,e']
     rw [zis e,b];exact h2
   . have e':¬ q.1=k:=fun z=>e (h1.trans z)
     have b:valueAt (q :: qs) k=valueAt qs k:=by simp [valueAt,List.find?_cons,e']
     rw [zhQ e,b];exact ih
theorem KV.any {kvs:List (κ×V)}{vs:List (κ×Value)} (r:KV kvs vs) (k:κ):(kvs.any fun kv=>decide (kv.1=k))=vs.any fun kv=>decide (kv.1=k):=by
 unfold KV at r
 induction r with
 | nil=>rfl
 | cons h t ih=>rw [List.any_cons,List.any_cons,ih,h.1]
theorem KV.repl {kvs:List (κ×V)}{vs:List (κ×Value)} (r:KV kvs vs) (k:κ) {y:V}{u:Value} (ry:zn y u) :
   KV (kvs.map fun kv=>if kv.1=k then (kv.1,y) else kv) (vs.map fun kv=>if kv.1=k then (kv.1,u) else kv):=by
 unfold KV at r ⊢
 induction r with
 | nil=>exact .nil
 | @cons p q ps qs h t ih =>
   rw [List.map_cons,List.map_cons]
   refine .cons ?_ ih
   obtain ⟨h1,h2⟩:=h
   by_cases e:p.1=k
   . rw [if_pos e,if_pos (h1.symm.trans e)];exact ⟨h1,ry⟩
   . rw [if_neg e,if_neg (fun z=>e (h1.trans z))];exact ⟨h1,h2⟩
theorem KV.put {kvs:List (κ×V)}{vs:List (κ×Value)} (r:KV kvs vs) (k:κ) {y:V}{u:Value} (ry:zn y u):KV (zc3 kvs k y) (stored vs k u):=by
 unfold zc3 stored
 rw [r.any k]
 by_cases e:(vs.any fun kv=>decide (kv.1=k))=true
 . rw [if_pos e,if_pos e];exact r.repl k ry
 . rw [if_neg e,if_neg e];exact Paired.snoc r ⟨rfl,ry⟩
theorem KV.length {kvs:List (κ×V)}{vs:List (κ×Value)} (r:KV kvs vs):kvs.length=vs.length:=Paired.length r
end
theorem zh8 {P:Program}{w:World}{k:Key}{u:Value} (r:zn (kV k) u):(zbS P w).is k u=true:=by
 cases k with
 | inl i=>obtain ⟨t,e⟩:=(show ∃ t,u=Value.int i t from r);subst e;exact zxh P w i t
 | inr x=>obtain ⟨t,e⟩:=(show ∃ t,u=Value.str x t from r);subst e;exact zCR P w x t
theorem zsO {P:Program}{w:World}:∀ {ks:List Key}{us:List Value},zp (ks.map kV) us->ItemsAre (zbS P w) ks us
 | [],_,r=>by rw [List.map_nil]at r;cases r;exact .nil
 | k :: ks,_,r=>by
   rw [List.map_cons]at r
   cases r with
   | cons h t=>exact .cons (zh8 h) (zsO t)
abbrev KT (H:Hp):List (List Key×V)->List (List Key×Addr×Value)->Prop:=Paired fun p q=>p.1=q.1∧H q.2.1=some (.tup (p.1.map kV))∧zn p.2 q.2.2
theorem KT.val {H:Hp}{kvs:List (List Key×V)}{xs:List (List Key×Addr×Value)} (r:KT H kvs xs) (k:List Key):zcR (zdk kvs k) ((atKey xs k).map (·.2)):=by
 induction r with
 | nil=>exact True.intro
 | @cons p q ps qs h t ih =>
   obtain ⟨h1,_,h2⟩:=h
   by_cases e:p.1=k
   . have e':q.1=k:=h1.symm.trans e
     have b:atKey (q :: qs) k=some q.2:=by simp [atKey,List.find?_cons,e']
     rw [zis e,b];exact h2
   . have e':¬ q.1=k:=fun z=>e (h1.trans z)
     have b:atKey (q :: qs) k=atKey qs k:=by simp [atKey,List.find?_cons,e']
     rw [zhQ e,b];exact ih
theorem KT.repl {H:Hp}{kvs:List (List Key×V)}{xs:List (List Key×Addr×Value)} (r:KT H kvs xs) (k:List Key) {y:V}{u:Value} (ry:zn y u) :
   KT H (kvs.map fun kv=>if kv.1=k then (kv.1,y) else kv) (xs.map (putAt k u)):=by
 induction r with
 | nil=>exact .nil
 | @cons p q ps qs h t ih =>
   rw [List.map_cons,List.map_cons]
   refine .cons ?_ ih
   obtain ⟨h1,h2,h3⟩:=h
   unfold putAt
   by_cases e:p.1=k
   . rw [if_pos e,if_pos (h1.symm.trans e)];exact ⟨h1,h2,ry⟩
   . rw [if_neg e,if_neg (fun z=>e (h1.trans z))];exact ⟨h1,h2,h3⟩
theorem KT.put {H:Hp}{kvs:List (List Key×V)}{xs:List (List Key×Addr×Value)} (r:KT H kvs xs) (k:List Key) {b:Addr}{y:V}{u:Value} (hb:H b=some (.tup (k.map kV))) (ry:zn y u) :
   KT H (zc3 kvs k y) (storedH xs k b u):=by
 have e:(kvs.any fun kv=>decide (kv.1=k))=(atKey xs k).isSome:=by
   rw [zrp,(r.val k).isSome_eq,Option.isSome_map]
 unfold zc3 storedH
 rw [e]
 by_cases q:(atKey xs k).isSome=true
 . rw [if_pos q,if_pos q];exact r.repl k ry
 . rw [if_neg q,if_neg q];exact Paired.snoc r ⟨rfl,hb,ry⟩
theorem KT.keeps {H H':Hp}{kvs:List (List Key×V)}{xs:List (List Key×Addr×Value)} (r:KT H kvs xs) (ht:∀ b ys,H b=some (.tup ys)->H' b=some (.tup ys)):KT H' kvs xs :=
 Paired.mapP r fun _ _ z=>⟨z.1,ht _ _ z.2.1,z.2.2⟩
section
variable {P:Program}{w:World}{H:Hp}{h:Heap}{a:Addr}
theorem zrf {u:HO} (ok:HOk P w H h) (e:Rd H a u):zbd P w H h a u:=e.ok ok
theorem zig {kvs:List (Key×V)} (ok:HOk P w H h) (e:Rd H a (.dK kvs)):kvs.length<=sizeLine∧(a == sysModules)=false∧∃ vs,KV kvs vs∧h.DictOf (zbS P w) a vs :=
 show zbd P w H h a (.dK kvs) from zrf ok e
theorem zA4 {kvs:List (Key×V)} (ok:HOk P w H h) (e:H a=some (.dK kvs)):kvs.length<=sizeLine∧(a == sysModules)=false∧∃ vs,KV kvs vs∧h.DictOf (zbS P w) a vs:=zig ok (.inl e)
theorem zid {ks:List Key} (ok:HOk P w H h) (e:H a=some (.tup (ks.map kV))):(tupleKind (zbS P w)).is h ks a:=by
 obtain ⟨_,its,r,o,h1,h2,n,h3⟩:=(show zbd P w H h a (.tup (ks.map kV)) from ok a _ e)
 exact ⟨o,its.toArray,n,h1,h2,h3,by simpa using zsO r⟩
theorem zhX {kvs:List (List Key×V)} (ok:HOk P w H h) (e:Rd H a (.dT kvs)):kvs.length<=sizeLine∧(a == sysModules)=false ∧
   ∃ xs,KT H kvs xs∧h.DictOfH (tupleKind (zbS P w)) a xs:=by
 obtain ⟨z,y,xs,r,o,es,ep,h1,h2,h3,h4,h5⟩:=(show zbd P w H h a (.dT kvs) from zrf ok e)
 refine ⟨z,y,xs,r,o,es,ep,h1,h2,h3,h4,fun x hx=>?_,h5⟩
 have all:∀ {l:List (List Key×V)} {m:List (List Key×Addr×Value)},KT H l m->∀ x∈m,(tupleKind (zbS P w)).is h x.1 x.2.1:=by
   intro l m q
   induction q with
   | nil=>intro x hx;exact nomatch hx
   | @cons p q ps qs hq t ih =>
     intro x hx
     rcases List.mem_cons.mp hx with e | hx
     . subst e
       exact zid ok (by rw [<- hq.1];exact hq.2.1)
     . exact ih x hx
 exact all r x hx
theorem zC0 {kvs:List (List Key×V)} (ok:HOk P w H h) (e:H a=some (.dT kvs)):kvs.length<=sizeLine∧(a == sysModules)=false ∧
   ∃ xs,KT H kvs xs∧h.DictOfH (tupleKind (zbS P w)) a xs:=zhX ok (.inl e)
end
def zff (H:Hp) (a:Addr) (y:V) (r:Option V):Prop :=
 (∃ kvs k,Rd H a (.dK kvs)∧y=kV k∧r=zdk kvs k)∨∃ kvs k b,Rd H a (.dT kvs)∧y = .ref b∧H b=some (.tup (k.map kV))∧r=zdk kvs k
def zhm (H:Hp) (a:Addr) (y v:V) (H':Hp):Prop :=
 (∃ kvs k,H a=some (.dK kvs)∧y=kV k∧kvs.length < sizeLine∧H'=upd H a (.dK (zc3 kvs k v))) ∨
 ∃ kvs k b,H a=some (.dT kvs)∧y = .ref b∧H b=some (.tup (k.map kV))∧kvs.length < sizeLine∧H'=upd H a (.dT (zc3 kvs k v))
theorem zff.k {H:Hp}{a:Addr}{kvs:List (Key×V)}{k:Key} (e:H a=some (.dK kvs)):zff H a (kV k) (zdk kvs k) := .inl ⟨kvs,k,.inl e,rfl,rfl⟩
theorem zhm.k {H:Hp}{a:Addr}{kvs:List (Key×V)}{k:Key}{v:V} (e:H a=some (.dK kvs)) (hl:kvs.length < sizeLine):zhm H a (kV k) v (upd H a (.dK (zc3 kvs k v))) := .inl ⟨kvs,k,e,rfl,hl,rfl⟩
section
variable {X:Cx}{pins:List (Addr×Obj)}{σ:St}{H:Hp}{s:Shared}{a:Addr}{y v:V}{u r:Value}{o:Option V}{A:Around}{E:Value->Shared->Prop}
theorem Inv.big (I:Inv X pins σ H s):sysModules < s.heap.objs.size:=by
 have h:mainGlobals < s.heap.objs.size:=(I.mod.glob.keeps I.bk).lt
 exact Nat.lt_trans (by decide) h
theorem zCo {Q:Value->Shared->Prop} (hu:A.units+1 < cLine) (I:Inv X pins σ H s) (g:zff H a y (some v)) (ry:zn y u) (h:∀ w' s',Inv X pins σ H s'->zn v w'->Q w' s') :
   wpAny (model X.prog X.w) A (getItem (.ref a) u) Q E s:=by
 rcases g with ⟨kvs,k,e,ey,l⟩ | ⟨kvs,k,b,e,ey,eb,l⟩
 . subst ey
   obtain ⟨z,hd,vs,rel,dd⟩:=zig I.hok e
   obtain ⟨w',hw,rw'⟩:=zcR.some_of (v:=v) (o:=valueAt vs k) (by rw [l];exact rel.val k)
   exact wpAny_getItem_of (zh8 ry) dd.mapOf hw (h w' _ (I.tok _) rw')
 . subst ey
   cases (show u=Value.ref b from ry)
   obtain ⟨z,hd,xs,rel,dd⟩:=zhX I.hok e
   obtain ⟨w',hw,rw'⟩:=zcR.some_of (v:=v) (o:=(atKey xs k).map (·.2)) (by rw [l];exact rel.val k)
   obtain ⟨p,hp,hp2⟩:=Option.map_eq_some_iff.mp hw
   refine wpAny_getItem_heap (tupleKind_room_in1 hu) (zid I.hok eb) dd hp ?_
   rw [hp2]
   exact h w' _ (I.tok _) rw'
theorem zCi {Q:Value->Shared->Prop} (hu:A.units+1 < cLine) (I:Inv X pins σ H s) (g:zff H a y o) (ry:zn y u) (h:∀ s',Inv X pins σ H s'->Q (.bool (!o.isSome)) s') :
   wpAny (model X.prog X.w) A (compareOp .NotIn u (.ref a)) Q E s:=by
 rcases g with ⟨kvs,k,e,ey,l⟩ | ⟨kvs,k,b,e,ey,eb,l⟩
 . subst ey
   obtain ⟨z,hd,vs,rel,dd⟩:=zig I.hok e
   refine wpAny_notIn_of (zh8 ry) hd dd.mapOf ?_
   rw [<- (rel.val k).isSome_eq,<- l]
   exact h _ (I.tok _)
 . subst ey
   cases (show u=Value.ref b from ry)
   obtain ⟨z,hd,xs,rel,dd⟩:=zhX I.hok e
   refine wpAny_notIn_heap (tupleKind_room_in1 hu) (zid I.hok eb) hd dd ?_
   have q:=(rel.val k).isSome_eq
   rw [Option.isSome_map]at q
   rw [<- q,<- l]
   exact h _ (I.tok _)
theorem zrL {h':Heap}{t':Nat}{ob:HO} (I:Inv X pins σ H s) (mu:Mut (H a)) (hs:Heap.SameBut a s.heap h') (he:∃ q,h'.get? a=some q) (new:zbd X.prog X.w (upd H a ob) h' a ob) :
   Inv X pins σ (upd H a ob) { s with heap:=h',toks:=t' } :=
 I.write (x:=a) (e:=a) mu (.inl rfl) (fun b q hb z=>(hs.2 b hb).trans z) he new
theorem zzn {P:Program}{w:World}{H':Hp}{h':Heap}{kvs:List (Key×V)}{vs:List (Key×Value)} (z:kvs.length<=sizeLine) (hd:(a == sysModules)=false) (rel:KV kvs vs) (dd:h'.DictOf (zbS P w) a vs) :
   zbd P w H' h' a (.dK kvs):=⟨z,hd,vs,rel,dd⟩
theorem zyK {H':Hp}{Q:Unit->Shared->Prop} (hu:A.units+1 < cLine) (I:Inv X pins σ H s) (g:zhm H a y v H') (ry:zn y u) (rv:zn v r) (h:∀ s',Inv X pins σ H' s'->Q () s') :
   wpAny (model X.prog X.w) A (setItem (.ref a) u r) Q E s:=by
 rcases g with ⟨kvs,k,e,ey,l,eH⟩ | ⟨kvs,k,b,e,ey,eb,l,eH⟩
 . subst ey eH
   obtain ⟨z,hd,vs,rel,dd⟩:=zA4 I.hok e
   have hz:vs.length<=sizeLine:=by rw [<- rel.length];exact z
   have hl:(zc3 kvs k v).length<=sizeLine:=by have:=zqR kvs k v;omega
   refine wpAny_setItem_pairs (hsz:=hz) (zh8 ry) dd fun h' dd' hs=>h _ ?_
   have he:∃ q,h'.get? a=some q:=let ⟨q,_,_,hq,_⟩:=dd';⟨q,hq⟩
   exact zrL I (by rw [e];exact True.intro) hs he (zzn hl hd (rel.put k rv) dd')
 . subst ey eH
   cases (show u=Value.ref b from ry)
   obtain ⟨z,hd,xs,rel,dd⟩:=zC0 I.hok e
   have hz:xs.length<=sizeLine:=by rw [<- Paired.length rel];exact z
   have hl:(zc3 kvs k v).length<=sizeLine:=by have:=zqR kvs k v;omega
   refine wpAny_setItem_heap (hsz:=hz) (tupleKind_room_in1 hu) (zid I.hok eb) dd fun h' dd' hs=>h _ ?_
   obtain ⟨q,es,ep,hq,h2,h3,h4,_,h5⟩:=dd'
   refine zrL I (by rw [e];exact True.intro) hs ⟨q,hq⟩ ⟨hl,hd,_,(rel.put k eb rv).keeps fun c ys ec=>?_,q,es,ep,hq,h2,h3,h4,h5⟩
   rw [zy (zCV ec e (fun z=>nomatch z))]
   exact ec
end
section
variable {X:Cx}{pins:List (Addr×Obj)}{σ:St}{H:Hp}{s:Shared}{a:Addr}{kvs:List (Key×V)}{k:Key}{u:Value}{A:Around}{E:Value->Shared->Prop}
end
theorem zCy {X:Cx}{pins:List (Addr×Obj)}{σ:St}{H:Hp}{s:Shared}{a:Addr}{y:V}{o:Option V} (I:Inv X pins σ H s) (g:zff H a y o):s.TypeIs (.ref a) "dict":=by
 rcases g with ⟨kvs,k,e,_,_⟩ | ⟨kvs,k,b,e,_,_,_⟩
 . obtain ⟨_,_,vs,_,dd⟩:=zig I.hok e
   exact dd.typeIs
 . obtain ⟨_,_,xs,_,dd⟩:=zhX I.hok e
   exact dd.typeIs
section
variable {X:Cx}{o i e value:Expr}{pos pos' tpos:Pos}{td ty tv:TE}
end
theorem zAE {P:Program}{w:World}{H:Hp} (h:Heap) (hb:sysModules < h.objs.size):zbd P w H (h.push { cls := .type "dict",data := .dict #[] }) h.objs.size (.dK []) :=
 ⟨Nat.zero_le _,beq_eq_false_iff_ne.mpr (Ne.symm (Nat.ne_of_lt hb)),[],.nil,Heap.DictOf.new h⟩
def zCC:TE:=fun _ H Q=>∀ p,H p=none->Q (.ref p) (upd H p (.dK []))
section
variable {X:Cx}{pos:Pos}
theorem zzg:PE X (.Dict [] [] pos) zCC:=fun pins s σ H Q I h =>
 wpAny_Dict_empty ⟨.ref s.heap.objs.size,_,I.laid (a:=s.heap.objs.size) (o := .dK []) (t':=s.toks) (fun _ _ q=>Heap.get?_push_of_some _ q) (Nat.le_refl _) (zAE s.heap I.big),rfl,h _ (I.hok.fresh (Nat.le_refl _))⟩
end
section
variable {X:Cx}{pins:List (Addr×Obj)}{σ:St}{H:Hp}{s:Shared}{a:Addr}{y d:V}{u r:Value}{o:Option V}{A:Around}{E:Value->Shared->Prop}
end
section
variable {X:Cx}{o e f:Expr}{apos cpos:Pos}{td ty tx:TE}
end
section
variable {X:Cx}{pins:List (Addr×Obj)}{σ:St}{H:Hp}{s:Shared}{a:Addr}{kvs:List (Key×V)}{A:Around}{E:Value->Shared->Prop}
end
section
variable {X:Cx}{pins:List (Addr×Obj)}{σ:St}{H:Hp}{s:Shared}{a:Addr}{y:V}{u:Value}{A:Around}{E:Value->Shared->Prop}
end
end L2
end
section
namespace L2
open PySem PySem.Spec PyProof.Rows
theorem zpa {env:Env}:∀ (names:List (Str×NameKind)) (acc:List (Str×Addr)),(∀ x∈names,x.2 = .free->∃ c,env.cells.lookup x.1=some c) ->
   ∃ cl:List (Str×Addr),(forIn names acc fun (x:Str×NameKind) (cs:List (Str×Addr))=>if (x.2 == NameKind.free)=true then (do let a <- cellOf env x.1;pure (ForInStep.yield ((x.1,a) :: cs)):Sem _) else pure (ForInStep.yield cs))=pure cl ∧
     (∀ x c,(x,c)∈cl->(x,c)∈acc∨((x,NameKind.free)∈names∧env.cells.lookup x=some c)) ∧
     (∀ x c,(x,c)∈acc∨((x,NameKind.free)∈names∧env.cells.lookup x=some c)->(x,c)∈cl)
 | [],acc,_=>⟨acc,rfl,fun x c h=> .inl h,fun x c h=>h.elim id fun z=>nomatch z.1⟩
 | (n,k) :: r,acc,h=>by
   have hr:∀ x∈r,x.2=NameKind.free->∃ c,env.cells.lookup x.1=some c:=fun x hx=>h x (List.mem_cons_of_mem _ hx)
   by_cases hk:k=NameKind.free
   . subst hk
     obtain ⟨c,hc⟩:=h (n,NameKind.free) List.mem_cons_self rfl
     obtain ⟨cl,e,h1,h2⟩:=zpa r ((n,c) :: acc) hr
     refine ⟨cl,?_,fun x d hx=>?_,fun x d hx=>?_⟩
     . rw [List.forIn_cons]
       have e1:cellOf env n=(pure c:Sem Addr):=by unfold cellOf;rw [hc]
       simp only [beq_self_eq_true,if_true,e1]
       exact e
     . rcases h1 x d hx with z | ⟨z,z'⟩
       . rcases List.mem_cons.mp z with z | z
         . cases z;exact .inr ⟨List.mem_cons_self,hc⟩
         . exact .inl z
       . exact .inr ⟨List.mem_cons_of_mem _ z,z'⟩
     . apply h2
       rcases hx with z | ⟨z,z'⟩
       . exact .inl (List.mem_cons_of_mem _ z)
       . rcases List.mem_cons.mp z with z | z
         . cases z
           rw [hc]at z';cases z'
           exact .inl List.mem_cons_self
         . exact .inr ⟨z,z'⟩
   . obtain ⟨cl,e,h1,h2⟩:=zpa r acc hr
     have hb:(k == NameKind.free)=false:=by simpa using hk
     refine ⟨cl,?_,fun x d hx=>?_,fun x d hx=>?_⟩
     . rw [List.forIn_cons]
       simp only [hb,Bool.false_eq_true,if_false]
       exact e
     . rcases h1 x d hx with z | ⟨z,z'⟩
       . exact .inl z
       . exact .inr ⟨List.mem_cons_of_mem _ z,z'⟩
     . apply h2
       rcases hx with z | ⟨z,z'⟩
       . exact .inl z
       . rcases List.mem_cons.mp z with z | z
         . cases z;exact absurd rfl hk
         . exact .inr ⟨z,z'⟩
theorem zr5 {α:Type}:∀ {l:List (Str×α)}{x:Str}{c:α},(x,c)∈l->∃ d,l.lookup x=some d∧(x,d)∈l
 | (n,k) :: r,x,c,h=>by
   cases e:x == n with
   | true =>
     have e':x=n:=by simpa using e
     subst e'
     exact ⟨k,by simp [List.lookup_cons],List.mem_cons_self⟩
   | false =>
     rcases List.mem_cons.mp h with z | z
     . cases z;simp at e
     . obtain ⟨d,h1,h2⟩:=zr5 z
       exact ⟨d,by rw [List.lookup_cons,e];exact h1,List.mem_cons_of_mem _ h2⟩
theorem mem_of_lookup {α:Type}:∀ {l:List (Str×α)}{x:Str}{c:α},l.lookup x=some c->(x,c)∈l
 | (n,k) :: r,x,c,h=>by
   rw [List.lookup_cons]at h
   cases e:x == n with
   | true =>
     have e':x=n:=by simpa using e
     subst e'
     rw [e]at h;cases h
     exact List.mem_cons_self
   | false =>
     rw [e]at h
     exact List.mem_cons_of_mem _ (mem_of_lookup h)
theorem zyM {scope:Scope}{env:Env} (h:∀ x∈scope.names,x.2 = .free->∃ c,env.cells.lookup x.1=some c) :
   ∃ cl:List (Str×Addr),closureFor scope env=pure cl∧(∀ x c,cl.lookup x=some c->(x,NameKind.free)∈scope.names∧env.cells.lookup x=some c) ∧
     (∀ x c,(x,NameKind.free)∈scope.names->env.cells.lookup x=some c->cl.lookup x=some c):=by
 obtain ⟨cl,e,h1,h2⟩:=zpa (env:=env) scope.names [] h
 have g1:∀ x c,cl.lookup x=some c->(x,NameKind.free)∈scope.names∧env.cells.lookup x=some c:=fun x c z=>by
   rcases h1 x c (mem_of_lookup z) with q | q
   . exact nomatch q
   . exact q
 refine ⟨cl,?_,g1,fun x c z z'=>?_⟩
 . unfold closureFor
   show (forIn scope.names [] _ >>= _)=_
   have e2:=congrArg (fun m:Sem (List (Str×Addr))=>m >>= fun cs=>pure cs) e
   refine Eq.trans ?_ (Eq.trans e2 ?_)
   . congr 1
   . rfl
 . obtain ⟨d,e1,_⟩:=zr5 (h2 x c (.inr ⟨z,z'⟩))
   have:=(g1 x d e1).2
   rw [z']at this;cases this
   exact e1
theorem zsI {env:Env}:∀ {names:List (Str×NameKind)}{x:Str},names.lookup x=some .free ->
   (names.map fun (n,k)=>if (k == NameKind.free && env.scope.kind == .function && env.kindOf n == some .cell) then (n,NameKind.cell) else (n,k)).lookup x=some .cell ∨
   (names.map fun (n,k)=>if (k == NameKind.free && env.scope.kind == .function && env.kindOf n == some .cell) then (n,NameKind.cell) else (n,k)).lookup x=some .free
 | [],_,h=>by simp at h
 | (n,k) :: r,x,h=>by
   have ih:=@zsI env r x
   rw [List.map_cons]
   by_cases hc:(k == NameKind.free && env.scope.kind == .function && env.kindOf n == some .cell)=true
   . simp only [hc,if_true]
     cases hx:x == n with
     | true=>left;simp [List.lookup_cons,hx]
     | false =>
       simp only [List.lookup_cons,hx]at h ⊢
       exact ih h
   . simp only [hc,if_false,Bool.false_eq_true]
     cases hx:x == n with
     | true =>
       simp only [List.lookup_cons,hx]at h ⊢
       cases h
       right;rfl
     | false =>
       simp only [List.lookup_cons,hx]at h ⊢
       exact ih h
theorem zq0 {env:Env}:∀ {names:List (Str×NameKind)}{x:Str},(∀ y∈names,y.2 ≠ .cell) ->
   ((names.map fun (n,k)=>if (k == NameKind.free && env.scope.kind == .function && env.kindOf n == some .cell) then (n,NameKind.cell) else (n,k)).lookup x=some .cell ∨
   (names.map fun (n,k)=>if (k == NameKind.free && env.scope.kind == .function && env.kindOf n == some .cell) then (n,NameKind.cell) else (n,k)).lookup x=some .free)->names.lookup x=some .free
 | [],_,_,h=>by simp at h
 | (n,k) :: r,x,hn,h=>by
   have ih:=@zq0 env r x fun y hy=>hn y (List.mem_cons_of_mem _ hy)
   have hk:=hn (n,k) List.mem_cons_self
   rw [List.map_cons]at h
   by_cases hc:(k == NameKind.free && env.scope.kind == .function && env.kindOf n == some .cell)=true
   . simp only [hc,if_true]at h
     have hf:k = .free:=by
       simp only [Bool.and_eq_true,beq_iff_eq]at hc
       exact hc.1.1
     cases hx:x == n with
     | true=>simp [List.lookup_cons,hx,hf]
     | false =>
       simp only [List.lookup_cons,hx]at h ⊢
       exact ih h
   . simp only [hc,if_false,Bool.false_eq_true]at h
     cases hx:x == n with
     | true =>
       simp only [List.lookup_cons,hx]at h ⊢
       rcases h with h | h
       . cases h;exact absurd rfl hk
       . exact h
     | false =>
       simp only [List.lookup_cons,hx]at h ⊢
       exact ih h
def zb9 (X:Cx) (scope:Scope) (N:List Str) (cl:List (Str×Addr)) (s₀:Shared) (H₀:Hp) (fp:List Addr):Cx :=
 { X with N:=N,s₀:=s₀,H₀:=H₀,env:=compEnvC scope cl s₀.heap.objs.size X.env,outer:=X.stack,ex:=fp,fn:=fun x=>scope.names.lookup x == some .local,pn:=[],xe:=fun _ _=>False }
def zgh (js:List (Option Nat)) (σ:St):St:=js.map fun j=>j.bind fun k=>(σ[k]?).join
structure zbZ (X:Cx) (scope:Scope) (N:List Str) (js:List (Option Nat)):Prop where
 kind:scope.kind = .function
 cell:∀ y∈scope.names,y.2 ≠ .cell
 names:∀ y∈scope.names,scope.names.lookup y.1=some y.2
 free:∀ y∈scope.names,y.2 = .free->X.env.kindOf y.1=some .cell∨X.env.kindOf y.1=some .free
 len:js.length=N.length
 slot:∀ (i k:Nat),js[i]?=some (some k)->∃ x,N[i]?=some x∧X.N[k]?=some x∧scope.names.lookup x=some .free
section
variable {X:Cx}{pins:List (Addr×Obj)}{σ:St}{H:Hp}{s:Shared}{scope:Scope}{N:List Str}{js:List (Option Nat)}{cl:List (Str×Addr)}{fp:List Addr}
theorem zA5 (S:zbZ X scope N js) (I:Inv X pins σ H s) (hf:∀ b∈fp,zdh X pins H b) (hlt:∀ b∈fp,b < s.heap.objs.size)
   (h1:∀ x c,cl.lookup x=some c->(x,NameKind.free)∈scope.names∧X.env.cells.lookup x=some c)
   (h2:∀ x c,(x,NameKind.free)∈scope.names->X.env.cells.lookup x=some c->cl.lookup x=some c):(zb9 X scope N cl s H fp).Ok where
 mod:=I.ok.mod
 kind:=S.kind
 glob:=I.ok.glob
 blt:=I.ok.blt
 above:=Nat.le_refl _
 inj:=fun x y c hx hy=>I.ok.inj x y c (h1 x c hx).2 (h1 y c hy).2
 has:=fun x hx=>by
   have e:scope.names.lookup x=some .free:=zq0 S.cell hx
   have hm:=mem_of_lookup e
   obtain ⟨c,hc⟩:=I.ok.has x (S.free (x,.free) hm rfl)
   exact ⟨c,h2 x c hm hc⟩
 cab:=fun x c hx hc=>by
   have hm:=(h1 x c hc).1
   have e:=S.names (x,.free) hm
   have hx':(scope.names.lookup x == some NameKind.local)=true:=hx
   rw [e]at hx'
   have hx2:(some NameKind.free == some NameKind.local)=true:=hx'
   exact absurd hx2 (by decide)
 hd:=I.ok.hd
 frames:=I.ok.frames
 stk := .inl rfl
 exf:=fun b hb=>⟨Nat.ne_of_lt (hlt b hb),fun x c hc=>(hf b hb).2.2.2.2.1 x c (h1 x c hc).2⟩
 bs:=I.bs
 bsz:=Nat.le_trans I.ok.bsz I.sz
 noex:=fun b o e hb=>by
   rcases (hf b hb).2.2.2.1 with z | z
   . exact I.ok.noex b o e z
   . exact absurd (Nat.lt_of_lt_of_le (Heap.lt_size e) (Nat.le_trans I.ok.bsz z)) (Nat.lt_irrefl _)
 exfs:=fun b hb z=>by
   rcases List.mem_cons.mp (I.stkSub b z) with e | e
   . exact (hf b hb).2.1 e
   . exact (hf b hb).2.2.1 e
 funs:=I.stack
 frf:=I.stkFree
theorem zzJ {h':Heap}{t':Nat}{m':Str->Option Value} (S:zbZ X scope N js) (I:Inv X pins σ H s) (hf:∀ b∈fp,zdh X pins H b) (hlt:∀ b∈fp,b < s.heap.objs.size)
   (h1:∀ x c,cl.lookup x=some c->(x,NameKind.free)∈scope.names∧X.env.cells.lookup x=some c)
   (h2:∀ x c,(x,NameKind.free)∈scope.names->X.env.cells.lookup x=some c->cl.lookup x=some c)
   (hn:h'.Ns s.heap.objs.size m') (hk:∀ b o,s.heap.get? b=some o->h'.get? b=some o) :
   Inv (zb9 X scope N cl s H fp) [] (zgh js σ) H { s with heap:=h',toks:=t' }:=by
 refine ⟨zA5 S I hf hlt h1 h2,rfl,I.bare,Un.kept hk,⟨m',hn,fun i x v e1 e2 e3=>?_⟩,fun x c e=>?_,I.hok.fresh (Nat.le_refl _),fun x c e=>I.freeC x c (h1 x c e).2,fun p hp=>(List.not_mem_nil (show p∈([]:List (Addr×Obj)) from hp)).elim,I.hok.kept hk,?_⟩
 . have e2':(js.map fun j=>j.bind fun k=>(σ[k]?).join)[i]?=some (some v):=e2
   rw [List.getElem?_map]at e2'
   cases ej:js[i]? with
   | none=>rw [ej]at e2';cases e2'
   | some j =>
     rw [ej]at e2'
     cases j with
     | none=>cases e2'
     | some k =>
       have e4:(σ[k]?).join=some v:=Option.some.inj e2'
       have e5:σ[k]?=some (some v):=by
         cases eσ:σ[k]? with
         | none=>rw [eσ]at e4;cases e4
         | some o=>rw [eσ]at e4;exact congrArg some e4
       obtain ⟨x',hx1,hx2,hx3⟩:=S.slot i k ej
       have e1':N[i]?=some x:=e1
       rw [hx1]at e1';cases e1'
       have hm:=mem_of_lookup hx3
       have hfr:=S.free (x,.free) hm rfl
       obtain ⟨m,hns,hl⟩:=I.loc
       obtain ⟨u,r,l⟩:=hl k x v hx2 e5 (hfr.elim (fun z=> .inr (.inl z)) fun z=> .inr (.inr z))
       refine ⟨u,r,.inr ⟨zsI hx3,?_⟩⟩
       rcases l with ⟨z,_⟩ | ⟨_,c,hc,o,ho,hd⟩
       . rcases hfr with y | y
         . have y':X.env.kindOf x=some .cell:=y
           rw [z]at y';cases y'
         . have y':X.env.kindOf x=some .free:=y
           rw [z]at y';cases y'
       . exact ⟨c,h2 x c hm hc,o,hk c o ho,hd⟩
 . obtain ⟨v,o,ho,hd⟩:=I.cell x c (h1 x c e).2
   exact ⟨v,o,hk c o ho,hd⟩
 . show (js.map _).length=N.length
   rw [List.length_map,S.len]
theorem zCw {H':Hp}{s':Shared}{σ':St} (I:Inv X pins σ H s) (hf:∀ b∈fp,zdh X pins H b) (J:Inv (zb9 X scope N cl s H fp) [] σ' H' s'):Inv X pins σ H' s' :=
 I.call' (ch:=fp) J.os J.base J.hok J.bare fun b hb=>by
   obtain ⟨f0,f1,f2,f3,f4,f5⟩:=hf b hb
   exact ⟨f3,f1,f4,f5⟩
theorem zqJ {C:Addr}{H':Hp}{s':Shared}{σ':St}{h'':Heap} (I:Inv X pins σ H s) (hC:C=s.heap.objs.size) (hn:H' C=none) (J:Inv X pins σ' H' s') (hs:Heap.SameBut C s'.heap h''):Inv X pins σ' H' { s' with heap:=h'' }:=by
 have J1:=J.turned (h':=h'') (t':=s'.toks) (it:=C) (fun b o hb e=>(hs.2 b hb).trans e) hn (by rw [hC];exact Nat.ne_of_gt I.lt) (.inr (by rw [hC];exact I.sz))
   (fun x c e z=>by
     obtain ⟨v,o,ho,_⟩:=I.cell x c e
     have:=Heap.lt_size ho
     rw [z,hC]at this
     exact absurd this (Nat.lt_irrefl _))
   (fun p hp z=>by
     have:=Heap.lt_size (I.pin p hp).1
     rw [z,hC]at this
     exact absurd this (Nat.lt_irrefl _))
 exact J1
end
def zgY (Y:Cx) (ifs:List Expr) (t:TT):Prop :=
 ∀ (pins:List (Addr×Obj)) (s:Shared) (σ:St) (H:Hp) (Q:Bool->Hp->Prop) ,Inv Y pins σ H s->t σ H Q ->
   wpAny (model Y.prog Y.w) Y.A (forIn ifs true fun c r=>if r=true then do let ok <- isTrue c Y.env (eval c Y.env);pure (ForInStep.yield ok) else pure (ForInStep.yield r)) (TP Y pins σ Q) Y.xe s
def zx0:TT:=fun _ H Q=>Q true H
theorem zxn {Y:Cx}:zgY Y [] zx0:=fun pins s σ H Q I h=>wpAny_tests_nil ⟨H,I,h⟩
theorem zBP {Y:Cx}{c:Expr}{t:TT} (hc:PT Y c t):zgY Y [c] t:=fun pins s σ H Q I h=>wpAny_tests_one (hc pins s σ H Q I h)
def znU (J:It) (g:TG) (tc:TT) (te:TE) (D:Addr) (σ:St) (H1:Hp) (js:List (Option Nat)) (Q:VK):Prop :=
 ∃ W:Nat->Nat->St->Hp->Prop,(∃ m,W 0 m (zgh js σ) (upd H1 D (.lst [])))∧∀ i m σ' H',W i m σ' H' ->
   (J.stop i H'∧Q (.ref D) H')∨(J.go i H'∧∀ x H2,J.yld i H' x H2->g x σ' H2 fun σ2 H3=>tc σ2 H3 fun b H4 =>
     if b=true then te σ2 H4 fun y H5=>∃ xs,H5 D=some (.lst xs)∧xs.length < sizeLine∧∃ m',m' < m∧W (i+1) m' σ2 (upd H5 D (.lst (xs++[y])))
     else ∃ m',m' < m∧W (i+1) m' σ2 H4)
def zil (js:List (Option Nat)) (wi:TI) (g:TG) (tc:TT) (te:TE):TE:=fun σ H Q=>wi σ H fun J H1=>∀ D,H1 D=none->znU J g tc te D σ H1 js Q
section
variable {X:Cx}{scope:Scope}{N:List Str}{js:List (Option Nat)}{tg iter elt:Expr}{ifs:List Expr}{wi:TI}{g:TG}{tc:TT}{te:TE}{pos:Pos}
structure zoY (X:Cx) (scope:Scope) (N:List Str) (tg elt:Expr) (ifs:List Expr) (g:TG) (tc:TT) (te:TE):Prop where
 run:∀ (cl:List (Str×Addr)) (s₀:Shared) (H₀:Hp) (fp:List Addr),PG (zb9 X scope N cl s₀ H₀ fp) tg g∧zgY (zb9 X scope N cl s₀ H₀ fp) ifs tc∧PE (zb9 X scope N cl s₀ H₀ fp) elt te
theorem zrM {E:Value->Shared->Prop}{RR:Value->Addr->Result->Shared->Prop}{Q:VK}{pins:List (Addr×Obj)}{σ:St}{H1:Hp}{s2:Shared}{J:It}{it:Addr}{fp:List Addr}{tn:Nat->Heap->Prop}
   {cl:List (Str×Addr)} (hc:X.calm=true) (S:zbZ X scope N js) (Pt:zoY X scope N tg elt ifs g tc te) (hcl:closureFor scope X.env=pure cl)
   (h1:∀ x c,cl.lookup x=some c->(x,NameKind.free)∈scope.names∧X.env.cells.lookup x=some c)
   (h2:∀ x c,(x,NameKind.free)∈scope.names->X.env.cells.lookup x=some c->cl.lookup x=some c)
   (I2:Inv X pins σ H1 s2) (T:zgl X.prog X.w X.K tg J fp it tn) (st2:tn 0 s2.heap) (f2:∀ b∈fp,zdh X pins H1 b)
   (h:∀ D,H1 D=none->znU J g tc te D σ H1 js Q)
   (hRR:∀ (D C:Addr) (s0 s':Shared) (H0 H':Hp) (m:Str->Option Value),Inv X pins σ H0 s0->C=s0.heap.objs.size->H' C=none->s'.heap.Ns C m->Inv X pins σ H' s'->Q (.ref D) H'->RR (.ref D) C (.ok .next) s') :
   wpAny (model X.prog X.w) X.A (newList []) (fun acc s₃=>wpAny (model X.prog X.w) X.A (newFunctionEnv scope X.env.globals cl [] X.env.qual none .none (some X.env)) (fun cenv s₄ =>
     codeAny (model X.prog X.w) X.A (.compStart (.ListComp elt [⟨tg,iter,ifs,0⟩] scope pos) 0 (.ref it) acc { cenv with scope:=relabel scope X.env }) (RR acc cenv.locals) s₄) E s₃) E s2:=by
 obtain ⟨W,⟨m0,w0⟩,turn⟩:=h s2.heap.objs.size (I2.hok.fresh (Nat.le_refl _))
 refine wpAny_newObj_type (wpAny_newFunctionEnv S.cell (by intro y hy;simp at hy) (fun h₁ hns₁ hsb₁=>?_) S.kind)
 dsimp only at hns₁ hsb₁ ⊢
 have I3:Inv X pins σ (upd H1 s2.heap.objs.size (.lst [])) { s2 with heap:=s2.heap.push { cls := .type "list",dict:=none,data := .seq ([]:List Value).toArray } } :=
   I2.lnew (its:=[]) (t':=s2.toks) .nil (Nat.zero_le _)
 generalize hH3:(upd H1 s2.heap.objs.size (.lst []))=H3 at I3 w0
 generalize hs3:({ s2 with heap:=s2.heap.push { cls := .type "list",dict:=none,data := .seq ([]:List Value).toArray } }:Shared)=s3 at I3
 have e3:s2.heap.push { cls := .type "list",dict:=none,data := .seq ([]:List Value).toArray }=s3.heap:=by rw [<- hs3]
 rw [e3]at hns₁ hsb₁ ⊢
 have hsz:s3.heap.objs.size=s2.heap.objs.size+1:=by rw [<- e3,Heap.size_push]
 have hlt2:∀ b∈fp,b < s2.heap.objs.size:=fun b hb=>by
   obtain ⟨o,ho,_⟩:=T.obj 0 _ st2 b hb
   exact Heap.lt_size ho
 have hlt3:∀ b∈fp,b < s3.heap.objs.size:=fun b hb=>by rw [hsz];exact Nat.lt_succ_of_lt (hlt2 b hb)
 have f3:∀ b∈fp,zdh X pins H3 b:=fun b hb=>⟨by rw [<- hH3,zy (Nat.ne_of_lt (hlt2 b hb))];exact (f2 b hb).1,(f2 b hb).2⟩
 have old:∀ b o,s3.heap.get? b=some o->h₁.get? b=some o:=fun b o e=>hsb₁.extBut b o (Nat.ne_of_lt (Heap.lt_size e)) (Heap.get?_push_of_some _ e)
 have old2:∀ b o,s2.heap.get? b=some o->h₁.get? b=some o:=fun b o e=>old b o (by rw [<- e3];exact Heap.get?_push_of_some _ e)
 have st4:tn 0 h₁:=T.keep 0 _ _ st2 fun b _ o e=>old2 b o e
 have I4:∀ t',Inv (zb9 X scope N cl s3 H3 fp) [] (zgh js σ) H3 { s3 with heap:=h₁,toks:=t' }:=fun t'=>zzJ S I3 f3 hlt3 h1 h2 hns₁ old
 obtain ⟨pg,pif,pe⟩:=Pt.run cl s3 H3 fp
 have stat:∀ {H':Hp} {pl:List (Addr×Obj)},(∀ b∈fp,H' b=none)->pl=[]->∀ b∈fp,zdh (zb9 X scope N cl s3 H3 fp) pl H' b:=fun hn e b hb=>by
   subst e
   refine ⟨hn b hb,Nat.ne_of_lt (hlt3 b hb),fun z=>?_,.inl hb,fun x c hc=>(f3 b hb).2.2.2.2.1 x c (h1 x c hc).2,fun p hp=>(List.not_mem_nil (show p∈([]:List (Addr×Obj)) from hp)).elim⟩
   rcases List.mem_cons.mp (I3.stkSub b z) with e | e
   . exact (f3 b hb).2.1 e
   . exact (f3 b hb).2.2.1 e
 have loop:∀ s₄:Shared,s₄={ s3 with heap:=h₁,toks:=s2.toks+([]:List (Str×Value)).length } ->
     codeAny (model X.prog X.w) X.A (.compLoop (.ListComp elt [⟨tg,iter,ifs,0⟩] scope pos) 0 (.ref it) (.ref s2.heap.objs.size) (compEnvC scope cl s3.heap.objs.size X.env)) (RR (.ref s2.heap.objs.size) s3.heap.objs.size) s₄:=by
   rintro s₄ rfl
   refine codeAny_loop rfl (fun n s'=>∃ i σ' H',Inv (zb9 X scope N cl s3 H3 fp) [] σ' H' s'∧tn i s'.heap∧(∀ b∈fp,H' b=none)∧W i n σ' H') ?_ m0 ⟨0,zgh js σ,H3,I4 _,st4,fun b hb=>(f3 b hb).1,w0⟩
   rintro n s5 ⟨i,σ5,H5,I5,st5,fr5,w5⟩
   show wpAny _ X.A ((compTurn (.ListComp elt [⟨tg,iter,ifs,0⟩] scope pos) 0 (.ref it) (.ref s2.heap.objs.size) (compEnvC scope cl s3.heap.objs.size X.env)).onRaise (fun x=>do noteFrame x (compEnvC scope cl s3.heap.objs.size X.env);theTreesLotGoes x)) _ _ s5
   refine wpAny_noted ?_
   rw [compTurn_list]
   have nox:∀ {α:Type} {t:Sem α} {Q:α->Shared->Prop} {E':Value->Shared->Prop} {s':Shared},wpAny (model X.prog X.w) X.A t Q (fun _ _=>False) s'->wpAny (model X.prog X.w) X.A t Q E' s':=fun h=>wpAny_mono h (fun _ _ x=>x) fun _ _ x=>x.elim
   refine wpAny_bind (wpAny_standAt (wpAny_bind ?_))
   rcases turn i n σ5 H5 w5 with ⟨stop,qn⟩ | ⟨go,step⟩
   . refine nox (thn (T.done (zb9 X scope N cl s3 H3 fp) rfl rfl rfl hc i [] s5 σ5 H5 _ I5 (stat fr5 rfl) st5 stop) fun r s6 ⟨hr,I6⟩=>?_)
     subst hr
     obtain ⟨m6,hn6,_⟩:=id I6.loc
     exact wpAny_pure (hRR _ _ s3 s6 H3 H5 m6 I3 rfl I6.free hn6 (zCw I3 f3 I6) qn)
   . refine nox (thn (T.item (zb9 X scope N cl s3 H3 fp) rfl rfl rfl hc i [] s5 σ5 H5 _ I5 (stat fr5 rfl) st5 go) fun r s6 ⟨u,hr,h6⟩=>?_)
     subst hr
     refine wpAny_bind (nox (thn h6 fun _ s7 ⟨x,H7,I7,r7,y7,st7,fr7⟩=>?_))
     have I7':=I7.pinned (stat fr7 rfl) (T.obj _ _ st7)
     refine wpAny_bind (nox (thn (pg _ s7 σ5 H7 x u _ I7' r7 (step x H7 y7)) fun _ s8 ⟨σ8,H8,I8,q8⟩=>?_))
     refine wpAny_bind (nox (thn (pif _ s8 σ8 H8 _ I8 q8) fun ok s9 ⟨H9,I9,q9⟩=>?_))
     have again:∀ {σa:St} {Ha:Hp} {sa:Shared} {m':Nat},Inv (zb9 X scope N cl s3 H3 fp) ([]++zho fp s7.heap) σa Ha sa->m' < n->W (i+1) m' σa Ha->∃ m,m < n∧∃ i σ' H',Inv (zb9 X scope N cl s3 H3 fp) [] σ' H' sa∧tn i sa.heap∧(∀ b∈fp,H' b=none)∧W i m σ' H':=fun {σa Ha sa m'} Ia hm wa=>by
       refine ⟨m',hm,i+1,σa,Ha,Ia.unpinned,T.keep _ _ _ st7 fun b hb o e=>(Ia.pin (b,o) (List.mem_append_right _ (List.mem_append_right _ (zhU hb e)))).1,fun b hb=>?_,wa⟩
       obtain ⟨o,e,d⟩:=T.obj _ _ st7 b hb
       exact (Ia.pin (b,o) (List.mem_append_right _ (List.mem_append_right _ (zhU hb e)))).2.1
     cases ok with
     | false =>
       obtain ⟨m',hm,wa⟩:=q9
       exact wpAny_pure ⟨rfl,again I9 hm wa⟩
     | true =>
       refine wpAny_bind (wpAny_bind (nox (thn (pe _ s9 σ8 H9 _ I9 q9) fun y sa ⟨vy,Ha,Ia,ra,xs,hD,hz,m',hm,wa⟩=>?_)))
       refine wpAny_bind (nox (thn (zqo _ sa σ8 Ha (.ref s2.heap.objs.size) [vy] (.ref s2.heap.objs.size) [y] (fun _ H'=>H'=upd Ha s2.heap.objs.size (.lst (xs++[vy]))) Ia rfl (.cons ra .nil) ⟨_,_,_,rfl,rfl,hD,hz,rfl⟩) fun z sb ⟨vz,Hb,Ib,rb,eb⟩=>?_))
       subst eb
       exact wpAny_pure (wpAny_pure ⟨rfl,again Ib hm wa⟩)
 exact codeAny_compStart_list (loop _ (by rw [<- hs3])) (T.self _ 0 _ _ _ st4 (loop _ (by rw [<- hs3])))
end
end L2
end
section
namespace L2
open PySem PySem.Spec PyProof.Rows
section
variable {X:Cx}{scope:Scope}{N:List Str}{js:List (Option Nat)}{tg iter elt:Expr}{ifs:List Expr}{wi:TI}{g:TG}{tc:TT}{te:TE}{pos:Pos}
theorem zbZ.clos (S:zbZ X scope N js) {pins:List (Addr×Obj)}{σ:St}{H:Hp}{s:Shared} (I:Inv X pins σ H s) :
   ∃ cl:List (Str×Addr),closureFor scope X.env=pure cl∧(∀ x c,cl.lookup x=some c->(x,NameKind.free)∈scope.names∧X.env.cells.lookup x=some c) ∧
     (∀ x c,(x,NameKind.free)∈scope.names->X.env.cells.lookup x=some c->cl.lookup x=some c) :=
 zyM fun x hx hf=>I.ok.has x.1 (S.free x hx hf)
theorem zr4 (hc:X.calm=true) (S:zbZ X scope N js) (hi:PI X tg iter wi) (Pt:zoY X scope N tg elt ifs g tc te) (hs:∀ x,foldedSetIterable iter X.env x=pure x:=by intro _;rfl) :
   PE X (.ListComp elt [⟨tg,iter,ifs,0⟩] scope pos) (zil js wi g tc te):=by
 intro pins s σ H Q I h
 obtain ⟨cl,hcl,h1,h2⟩:=S.clos I
 rw [eval_ListComp]
 refine wpAny_comprehension_free (use:=none) (cl:=cl) rfl hs hcl S.kind (fun x hx hl=>by rw [S.names x hx,hl]) ?_
 refine wpAny_mono (hi pins s σ H _ I h) (fun v s1 p1=>wpAny_mono p1 (fun itv s2 p2=>?_) fun _ _ e=>e) fun _ _ e=>e
 obtain ⟨it,fp,tn,J,H2,e,I2,T,st2,f2,r2⟩:=p2
 subst e
 refine zrM (RR:=fun acc C=>compPost (model X.prog X.w) X.A X.xe none (EP X pins σ Q) acc C) hc S Pt hcl h1 h2 I2 T st2 f2 r2 ?_
 intro D C s0 s' H0 H' m I0 hC hn hns I' q
 exact ⟨m,hns,fun h' hs'=>⟨.ref D,H',zqJ I0 hC hn I' hs',rfl,q⟩⟩
theorem zzE {j:Nat}{y:Str}{py spos:Pos} (hc:X.calm=true) (hN:X.N.Nodup) (hj:X.N[j]?=some y) (hy:X.env.scope.names.lookup y=some .local) (S:zbZ X scope N js) (hi:PI X tg iter wi) (Pt:zoY X scope N tg elt ifs g tc te)
   (hsw:swapsWith (.ListComp elt [⟨tg,iter,ifs,0⟩] scope pos) (some (.Name y py)) spos.line X.env=pure true:=by rfl) (hs:∀ x,foldedSetIterable iter X.env x=pure x:=by intro _;rfl) :
   PS X (.Assign [.Name y py] (.ListComp elt [⟨tg,iter,ifs,0⟩] scope pos) spos) (zoA (zil js wi g tc te) (zh5 j)):=by
 intro pins s σ H D I h
 obtain ⟨cl,hcl,h1,h2⟩:=S.clos I
 rw [exec_Assign_Name_used _ _ _ _ hsw]
 refine wpAny_bind (wpAny_standAt (wpAny_bind ?_))
 show wpAny _ X.A (do let _ <- comprehension (.ListComp elt [⟨tg,iter,ifs,0⟩] scope pos) scope X.env _ (newList []) false (eval iter X.env) (some (assign (.Name y py) X.env))) _ _ s
 refine wpAny_bind (wpAny_mono (wpAny_comprehension_free (use:=some (assign (.Name y py) X.env)) (Q:=fun _ s'=>SP X pins D .next s') (cl:=cl) rfl hs hcl S.kind (fun x hx hl=>by rw [S.names x hx,hl]) ?_) (fun _ s' hq=>wpAny_pure (wpAny_pure hq)) fun _ _ e=>e)
 refine wpAny_mono (hi pins s σ H _ I h) (fun v s1 p1=>wpAny_mono p1 (fun itv s2 p2=>?_) fun _ _ e=>e) fun _ _ e=>e
 obtain ⟨it,fp,tn,J,H2,e,I2,T,st2,f2,r2⟩:=p2
 subst e
 refine zrM (Q:=fun x H1=>zh5 j x σ H1 D.nx) (RR:=fun acc C=>compPost (model X.prog X.w) X.A X.xe (some (assign (.Name y py) X.env)) (fun _ s'=>SP X pins D .next s') acc C) hc S Pt hcl h1 h2 I2 T st2 f2 r2 ?_
 intro D' C s0 s' H0 H' m I0 hC hn hns I' q
 show wpAny _ X.A (assign (.Name y py) X.env (.ref D')) _ _ _
 refine wpAny_assign_Name (zrC I' hN hj (.inl hy) (v := .ref D') rfl (fun s'' I'' ⟨a,sb,ha⟩=>?_) (.inr hy))
 have hCa:C≠a:=by
   rcases ha with ha | ha
   . rw [ha,hC];exact Nat.ne_of_gt I0.lt
   . obtain ⟨v,o,ho,_⟩:=I0.cell y a ha
     rw [hC];exact Nat.ne_of_gt (Heap.lt_size ho)
 exact ⟨m,hns.sameBut sb hCa,fun h' hs'=>⟨_,_,zqJ I0 hC hn I'' hs',q⟩⟩
end
end L2
end
section
namespace L2
open PySem PySem.Spec PyProof.Rows
inductive D where
 | non | bl (b:Bool) | int (i:Int) | str (x:Str) | lst (ds:List D) | tup (ds:List D)
mutual
def Dat (H:Hp):D->V->Prop
 | .non,v=>v = .non
 | .bl b,v=>v = .bl b
 | .int i,v=>v = .int i
 | .str x,v=>v = .str x
 | .lst ds,v=>∃ a xs,v = .ref a∧Rd H a (.lst xs)∧zbD H ds xs
 | .tup ds,v=>∃ a xs,v = .ref a∧H a=some (.tup xs)∧zbD H ds xs
def zbD (H:Hp):List D->List V->Prop
 | [],xs=>xs=[]
 | d :: ds,xs=>∃ x r,xs=x :: r∧Dat H d x∧zbD H ds r
end
mutual
def dpt:D->Nat
 | .lst ds=>zch ds+1
 | .tup ds=>zch ds+1
 | _=>0
def zch:List D->Nat
 | []=>0
 | d :: r=>max (dpt d) (zch r)
end
mutual
def eqD:D->D->Bool
 | .lst a,.lst b=>zb7 a b
 | .tup a,.tup b=>zb7 a b
 | .non,.non=>true
 | .bl a,.bl b=>a == b
 | .bl a,.int b=>(if a then 1 else 0) == b
 | .int a,.bl b=>a == (if b then 1 else 0)
 | .int a,.int b=>a == b
 | .str a,.str b=>a == b
 | _,_=>false
def zb7:List D->List D->Bool
 | [],[]=>true
 | a :: r,b :: q=>eqD a b && zb7 r q
 | _,_=>false
end
theorem zbD.length {H:Hp}:∀ {ds:List D}{xs:List V},zbD H ds xs->ds.length=xs.length
 | [],xs,h=>by unfold zbD at h;subst h;rfl
 | d :: ds,xs,h=>by
   unfold zbD at h
   obtain ⟨x,r,h1,h2,h3⟩:=h
   subst h1
   simp [zbD.length h3]
theorem zbD.get {H:Hp}:∀ {ds:List D}{xs:List V}{i:Nat}{x:V},zbD H ds xs->xs[i]?=some x->∃ d,ds[i]?=some d∧Dat H d x
 | [],xs,i,x,h,e=>by unfold zbD at h;subst h;simp at e
 | d :: ds,xs,i,x,h,e=>by
   unfold zbD at h
   obtain ⟨y,r,h1,h2,h3⟩:=h
   subst h1
   cases i with
   | zero=>simp at e;subst e;exact ⟨d,rfl,h2⟩
   | succ i =>
     obtain ⟨d',e1,e2⟩:=zbD.get (i:=i) h3 (by simpa using e)
     exact ⟨d',by simpa using e1,e2⟩
theorem zsm:∀ {ds:List D}{i:Nat}{d:D},ds[i]?=some d->dpt d<=zch ds
 | [],_,_,e=>by simp at e
 | d' :: ds,0,d,e=>by simp at e;subst e;unfold zch;omega
 | d' :: ds,i+1,d,e=>by
   have:=zsm (ds:=ds) (i:=i) (d:=d) (by simpa using e)
   unfold zch;omega
theorem zga:∀ (a b:List D),a.length=b.length->((List.range a.length).all fun j=>eqD (a.getD j .non) (b.getD j .non))=zb7 a b
 | [],[],_=>by simp [zb7]
 | x :: a,y :: b,h=>by
   have ih:=zga a b (by simpa using h)
   rw [List.length_cons,List.range_succ_eq_map,List.all_cons,List.all_map]
   show (eqD x y && (List.range a.length).all fun j=>eqD (a.getD j .non) (b.getD j .non))=zb7 (x :: a) (y :: b)
   rw [ih,zb7]
theorem zf8:∀ (a b:List D),a.length≠b.length->zb7 a b=false
 | [],[],h=>absurd rfl h
 | [],_ :: _,_=>by unfold zb7;rfl
 | _ :: _,[],_=>by unfold zb7;rfl
 | x :: a,y :: b,h=>by
   rw [zb7,zf8 a b (by simpa using h),Bool.and_false]
end L2
end
section
namespace L2
open PySem PySem.Spec PyProof.Rows
section
variable {X:Cx}{pins:List (Addr×Obj)}{σ:St}{H:Hp}{s:Shared}
theorem Inv.noboth (I:Inv X pins σ H s) {a:Addr}{xs ys:List V} (h:Rd H a (.lst xs)) (h':H a=some (.tup ys)):False:=by
 rcases h with h | ⟨o,h⟩
 . rw [h]at h';cases h'
 . rw [h]at h';cases h'
mutual
theorem zol (I:Inv X pins σ H s):∀ (d d':D) (v:V),Dat H d v->Dat H d' v->eqD d d'=true
 | .non,d',v,h,h'=>by
   unfold Dat at h;subst h
   cases d' <;> simp [Dat]at h' <;> simp [eqD]
 | .bl b,d',v,h,h'=>by
   unfold Dat at h;subst h
   cases d' <;> simp [Dat]at h' <;> simp [eqD,h']
 | .int b,d',v,h,h'=>by
   unfold Dat at h;subst h
   cases d' <;> simp [Dat]at h' <;> simp [eqD,h']
 | .str b,d',v,h,h'=>by
   unfold Dat at h;subst h
   cases d' <;> simp [Dat]at h' <;> simp [eqD,h']
 | .lst ds,d',v,h,h'=>by
   unfold Dat at h
   obtain ⟨a,xs,rfl,h1,h2⟩:=h
   cases d' with
   | lst ds' =>
     unfold Dat at h'
     obtain ⟨b,ys,e,h3,h4⟩:=h'
     cases e
     have e:=I.list_inj (.inl h1) (.inl h3)
     subst e
     unfold eqD
     exact zn6 I ds ds' xs h2 h4
   | tup ds' =>
     unfold Dat at h'
     obtain ⟨b,ys,e,h3,h4⟩:=h'
     cases e
     exact (I.noboth h1 h3).elim
   | _=>simp [Dat]at h'
 | .tup ds,d',v,h,h'=>by
   unfold Dat at h
   obtain ⟨a,xs,rfl,h1,h2⟩:=h
   cases d' with
   | tup ds' =>
     unfold Dat at h'
     obtain ⟨b,ys,e,h3,h4⟩:=h'
     cases e
     have e:=I.tuple_inj (SqT.of h1) (SqT.of h3)
     subst e
     unfold eqD
     exact zn6 I ds ds' xs h2 h4
   | lst ds' =>
     unfold Dat at h'
     obtain ⟨b,ys,e,h3,h4⟩:=h'
     cases e
     exact (I.noboth h3 h1).elim
   | _=>simp [Dat]at h'
theorem zn6 (I:Inv X pins σ H s):∀ (ds ds':List D) (vs:List V),zbD H ds vs->zbD H ds' vs->zb7 ds ds'=true
 | [],ds',vs,h,h'=>by
   unfold zbD at h;subst h
   cases ds' with
   | nil=>simp [zb7]
   | cons d r=>simp [zbD]at h'
 | d :: ds,ds',vs,h,h'=>by
   unfold zbD at h
   obtain ⟨x,r,rfl,h1,h2⟩:=h
   cases ds' with
   | nil=>simp [zbD]at h'
   | cons d' r' =>
     unfold zbD at h'
     obtain ⟨y,q,e,h3,h4⟩:=h'
     cases e
     unfold zb7
     rw [zol I d d' x h1 h3,zn6 I ds r' r h2 h4]
     rfl
end
theorem Dat.flat {d:D}{v:V} (h:Dat H d v):(zbY v=true∧∀ d' v',Dat H d' v'->zbY v'=true->eqD d d'=eqV v v')∨(∃ ds a xs,d = .lst ds∧v = .ref a∧Rd H a (.lst xs)∧zbD H ds xs)∨(∃ ds a xs,d = .tup ds∧v = .ref a∧H a=some (.tup xs)∧zbD H ds xs):=by
 cases d with
 | lst ds=>unfold Dat at h;obtain ⟨a,xs,e,h1,h2⟩:=h;exact .inr (.inl ⟨ds,a,xs,rfl,e,h1,h2⟩)
 | tup ds=>unfold Dat at h;obtain ⟨a,xs,e,h1,h2⟩:=h;exact .inr (.inr ⟨ds,a,xs,rfl,e,h1,h2⟩)
 | _ =>
   unfold Dat at h;subst h
   refine .inl ⟨rfl,fun d' v' h' f=>?_⟩
   cases d' with
   | lst ds=>unfold Dat at h';obtain ⟨a,xs,rfl,_⟩:=h';cases f
   | tup ds=>unfold Dat at h';obtain ⟨a,xs,rfl,_⟩:=h';cases f
   | _=>unfold Dat at h';subst h';simp [eqD,eqV]
theorem zgO {A:Around}{ds ds':List D}{xs ys:List V}{us ws:List Value}
   (ih:∀ (d d':D) (x y:V) (u v:Value),dpt d<=zch ds->Dat H d x->Dat H d' y->zn x u->zn y v->SeqAt.EqAt A s u v (eqD d d'))
   (h:zbD H ds xs) (h':zbD H ds' ys) (r:zp xs us) (r':zp ys ws) (j:Nat) (h1:j < us.toArray.size) (h2:j < ws.toArray.size) :
   SeqAt.EqAt A s us.toArray[j] ws.toArray[j] (eqD (ds.getD j .non) (ds'.getD j .non)):=by
 have l1:=r.length
 have l2:=r'.length
 have k1:=h.length
 have k2:=h'.length
 have h1':j < us.length:=by simpa using h1
 have h2':j < ws.length:=by simpa using h2
 have e1:xs[j]?=some xs[j]:=List.getElem?_eq_getElem (by omega)
 have e2:ys[j]?=some ys[j]:=List.getElem?_eq_getElem (by omega)
 obtain ⟨d,ed,hd⟩:=h.get e1
 obtain ⟨d',ed',hd'⟩:=h'.get e2
 obtain ⟨u,eu,ru⟩:=r.get e1
 obtain ⟨w,ew,rw'⟩:=r'.get e2
 have g1:ds.getD j .non=d:=by rw [List.getD_eq_getElem?_getD,ed];rfl
 have g2:ds'.getD j .non=d':=by rw [List.getD_eq_getElem?_getD,ed'];rfl
 have g3:us.toArray[j]=u:=by
   have:us[j]?=some us[j]:=List.getElem?_eq_getElem h1'
   rw [eu]at this;simpa using (Option.some.inj this).symm
 have g4:ws.toArray[j]=w:=by
   have:ws[j]?=some ws[j]:=List.getElem?_eq_getElem h2'
   rw [ew]at this;simpa using (Option.some.inj this).symm
 rw [g1,g2,g3,g4]
 exact ih d d' _ _ u w (zsm ed) hd hd' ru rw'
theorem zy7 {A:Around}{y x:V}{u v:Value} (ry:zn y u) (rx:zn x v) (fy:zbY y=true) (fx:zbY x=true):SeqAt.RcAt A s u v (eqV y x):=by
 cases y with
 | non =>
   cases ry
   cases x with
   | non =>
     cases rx
     exact SeqAt.RcAt.none_none
   | bl b =>
     cases rx
     exact SeqAt.RcAt.none_bool _
   | int b =>
     obtain ⟨_,rfl⟩:=rx
     exact SeqAt.RcAt.none_int _ _
   | str b =>
     obtain ⟨_,rfl⟩:=rx
     exact SeqAt.RcAt.none_str _ _
   | _=>exact absurd (show false=true from fx) Bool.false_ne_true
 | bl a =>
   cases ry
   cases x with
   | non =>
     cases rx
     exact SeqAt.RcAt.bool_none _
   | bl b =>
     cases rx
     exact SeqAt.RcAt.bool_bool _ _
   | int b =>
     obtain ⟨_,rfl⟩:=rx
     exact SeqAt.RcAt.bool_int _ _ _
   | str b =>
     obtain ⟨_,rfl⟩:=rx
     exact SeqAt.RcAt.bool_str _ _ _
   | _=>exact absurd (show false=true from fx) Bool.false_ne_true
 | int a =>
   obtain ⟨_,rfl⟩:=ry
   cases x with
   | non =>
     cases rx
     exact SeqAt.RcAt.int_none _ _
   | bl b =>
     cases rx
     exact SeqAt.RcAt.int_bool _ _ _
   | int b =>
     obtain ⟨_,rfl⟩:=rx
     exact SeqAt.RcAt.int_int _ _ _ _
   | str b =>
     obtain ⟨_,rfl⟩:=rx
     exact SeqAt.RcAt.int_str _ _ _ _
   | _=>exact absurd (show false=true from fx) Bool.false_ne_true
 | str a =>
   obtain ⟨_,rfl⟩:=ry
   cases x with
   | non =>
     cases rx
     exact SeqAt.RcAt.str_none _ _
   | bl b =>
     cases rx
     exact SeqAt.RcAt.str_bool _ _ _
   | int b =>
     obtain ⟨_,rfl⟩:=rx
     exact SeqAt.RcAt.str_int _ _ _ _
   | str b =>
     obtain ⟨_,rfl⟩:=rx
     exact SeqAt.RcAt.str_str _ _ _ _
   | _=>exact absurd (show false=true from fx) Bool.false_ne_true
 | _=>exact absurd (show false=true from fy) Bool.false_ne_true
theorem zxq {A:Around}{y x:V}{u v:Value} (ry:zn y u) (rx:zn x v) (fy:zbY y=true) (fx:zbY x=true):SeqAt.RcNeAt A s u v (!eqV y x):=by
 cases y with
 | non =>
   cases ry
   cases x with
   | non =>
     cases rx
     exact SeqAt.RcNeAt.none_none
   | bl b =>
     cases rx
     exact SeqAt.RcNeAt.none_bool _
   | int b =>
     obtain ⟨_,rfl⟩:=rx
     exact SeqAt.RcNeAt.none_int _ _
   | str b =>
     obtain ⟨_,rfl⟩:=rx
     exact SeqAt.RcNeAt.none_str _ _
   | _=>exact absurd (show false=true from fx) Bool.false_ne_true
 | bl a =>
   cases ry
   cases x with
   | non =>
     cases rx
     exact SeqAt.RcNeAt.bool_none _
   | bl b =>
     cases rx
     exact SeqAt.RcNeAt.bool_bool _ _
   | int b =>
     obtain ⟨_,rfl⟩:=rx
     exact SeqAt.RcNeAt.bool_int _ _ _
   | str b =>
     obtain ⟨_,rfl⟩:=rx
     exact SeqAt.RcNeAt.bool_str _ _ _
   | _=>exact absurd (show false=true from fx) Bool.false_ne_true
 | int a =>
   obtain ⟨_,rfl⟩:=ry
   cases x with
   | non =>
     cases rx
     exact SeqAt.RcNeAt.int_none _ _
   | bl b =>
     cases rx
     exact SeqAt.RcNeAt.int_bool _ _ _
   | int b =>
     obtain ⟨_,rfl⟩:=rx
     exact SeqAt.RcNeAt.int_int _ _ _ _
   | str b =>
     obtain ⟨_,rfl⟩:=rx
     exact SeqAt.RcNeAt.int_str _ _ _ _
   | _=>exact absurd (show false=true from fx) Bool.false_ne_true
 | str a =>
   obtain ⟨_,rfl⟩:=ry
   cases x with
   | non =>
     cases rx
     exact SeqAt.RcNeAt.str_none _ _
   | bl b =>
     cases rx
     exact SeqAt.RcNeAt.str_bool _ _ _
   | int b =>
     obtain ⟨_,rfl⟩:=rx
     exact SeqAt.RcNeAt.str_int _ _ _ _
   | str b =>
     obtain ⟨_,rfl⟩:=rx
     exact SeqAt.RcNeAt.str_str _ _ _ _
   | _=>exact absurd (show false=true from fx) Bool.false_ne_true
 | _=>exact absurd (show false=true from fy) Bool.false_ne_true
theorem zoj {A:Around}{y:V}{u:Value}{a:Addr}{its:Array Value} (hu:A.units < cLine) (ry:zn y u) (fy:zbY y=true) (p:s.heap.IsList a its):SeqAt.EqAt A s u (.ref a) false∧SeqAt.EqAt A s (.ref a) u false:=by
 cases y with
 | non =>
   cases ry
   exact ⟨SeqAt.EqAt.none_list p hu,SeqAt.EqAt.list_none p hu⟩
 | bl a =>
   cases ry
   exact ⟨SeqAt.EqAt.bool_list _ p hu,SeqAt.EqAt.list_bool _ p hu⟩
 | int a =>
   obtain ⟨_,rfl⟩:=ry
   exact ⟨SeqAt.EqAt.int_list _ _ p hu,SeqAt.EqAt.list_int _ _ p hu⟩
 | str a =>
   obtain ⟨_,rfl⟩:=ry
   exact ⟨SeqAt.EqAt.str_list _ _ p hu,SeqAt.EqAt.list_str _ _ p hu⟩
 | _=>exact absurd (show false=true from fy) Bool.false_ne_true
theorem znS {A:Around}{y:V}{u:Value}{a:Addr}{its:Array Value} (hu:A.units < cLine) (ry:zn y u) (fy:zbY y=true) (p:s.heap.IsTuple a its):SeqAt.EqAt A s u (.ref a) false∧SeqAt.EqAt A s (.ref a) u false:=by
 cases y with
 | non =>
   cases ry
   exact ⟨SeqAt.EqAt.none_tuple p hu,SeqAt.EqAt.tuple_none p hu⟩
 | bl a =>
   cases ry
   exact ⟨SeqAt.EqAt.bool_tuple _ p hu,SeqAt.EqAt.tuple_bool _ p hu⟩
 | int a =>
   obtain ⟨_,rfl⟩:=ry
   exact ⟨SeqAt.EqAt.int_tuple _ _ p hu,SeqAt.EqAt.tuple_int _ _ p hu⟩
 | str a =>
   obtain ⟨_,rfl⟩:=ry
   exact ⟨SeqAt.EqAt.str_tuple _ _ p hu,SeqAt.EqAt.tuple_str _ _ p hu⟩
 | _=>exact absurd (show false=true from fy) Bool.false_ne_true
theorem zrT {A:Around}{y:V}{u:Value}{a:Addr}{its:Array Value} (hu:A.units < cLine) (ry:zn y u) (fy:zbY y=true) (p:s.heap.IsList a its):SeqAt.RcAt A s u (.ref a) false∧SeqAt.RcAt A s (.ref a) u false:=by
 cases y with
 | non =>
   cases ry
   exact ⟨SeqAt.RcAt.none_list p hu,SeqAt.RcAt.list_none p hu⟩
 | bl a =>
   cases ry
   exact ⟨SeqAt.RcAt.bool_list _ p hu,SeqAt.RcAt.list_bool _ p hu⟩
 | int a =>
   obtain ⟨_,rfl⟩:=ry
   exact ⟨SeqAt.RcAt.int_list _ _ p hu,SeqAt.RcAt.list_int _ _ p hu⟩
 | str a =>
   obtain ⟨_,rfl⟩:=ry
   exact ⟨SeqAt.RcAt.str_list _ _ p hu,SeqAt.RcAt.list_str _ _ p hu⟩
 | _=>exact absurd (show false=true from fy) Bool.false_ne_true
theorem zse {A:Around}{y:V}{u:Value}{a:Addr}{its:Array Value} (hu:A.units < cLine) (ry:zn y u) (fy:zbY y=true) (p:s.heap.IsTuple a its):SeqAt.RcAt A s u (.ref a) false∧SeqAt.RcAt A s (.ref a) u false:=by
 cases y with
 | non =>
   cases ry
   exact ⟨SeqAt.RcAt.none_tuple p hu,SeqAt.RcAt.tuple_none p hu⟩
 | bl a =>
   cases ry
   exact ⟨SeqAt.RcAt.bool_tuple _ p hu,SeqAt.RcAt.tuple_bool _ p hu⟩
 | int a =>
   obtain ⟨_,rfl⟩:=ry
   exact ⟨SeqAt.RcAt.int_tuple _ _ p hu,SeqAt.RcAt.tuple_int _ _ p hu⟩
 | str a =>
   obtain ⟨_,rfl⟩:=ry
   exact ⟨SeqAt.RcAt.str_tuple _ _ p hu,SeqAt.RcAt.tuple_str _ _ p hu⟩
 | _=>exact absurd (show false=true from fy) Bool.false_ne_true
theorem zr2 {A:Around}{y:V}{u:Value}{a:Addr}{its:Array Value} (hu:A.units < cLine) (ry:zn y u) (fy:zbY y=true) (p:s.heap.IsList a its):SeqAt.RcNeAt A s u (.ref a) true∧SeqAt.RcNeAt A s (.ref a) u true:=by
 cases y with
 | non =>
   cases ry
   exact ⟨SeqAt.RcNeAt.none_list p hu,SeqAt.RcNeAt.list_none p hu⟩
 | bl a =>
   cases ry
   exact ⟨SeqAt.RcNeAt.bool_list _ p hu,SeqAt.RcNeAt.list_bool _ p hu⟩
 | int a =>
   obtain ⟨_,rfl⟩:=ry
   exact ⟨SeqAt.RcNeAt.int_list _ _ p hu,SeqAt.RcNeAt.list_int _ _ p hu⟩
 | str a =>
   obtain ⟨_,rfl⟩:=ry
   exact ⟨SeqAt.RcNeAt.str_list _ _ p hu,SeqAt.RcNeAt.list_str _ _ p hu⟩
 | _=>exact absurd (show false=true from fy) Bool.false_ne_true
theorem zrc {A:Around}{y:V}{u:Value}{a:Addr}{its:Array Value} (hu:A.units < cLine) (ry:zn y u) (fy:zbY y=true) (p:s.heap.IsTuple a its):SeqAt.RcNeAt A s u (.ref a) true∧SeqAt.RcNeAt A s (.ref a) u true:=by
 cases y with
 | non =>
   cases ry
   exact ⟨SeqAt.RcNeAt.none_tuple p hu,SeqAt.RcNeAt.tuple_none p hu⟩
 | bl a =>
   cases ry
   exact ⟨SeqAt.RcNeAt.bool_tuple _ p hu,SeqAt.RcNeAt.tuple_bool _ p hu⟩
 | int a =>
   obtain ⟨_,rfl⟩:=ry
   exact ⟨SeqAt.RcNeAt.int_tuple _ _ p hu,SeqAt.RcNeAt.tuple_int _ _ p hu⟩
 | str a =>
   obtain ⟨_,rfl⟩:=ry
   exact ⟨SeqAt.RcNeAt.str_tuple _ _ p hu,SeqAt.RcNeAt.tuple_str _ _ p hu⟩
 | _=>exact absurd (show false=true from fy) Bool.false_ne_true
theorem zdr {d:D}{v:V} (h:Dat H d v) (f:zbY v=true) (ds:List D):eqD d (.lst ds)=false∧eqD d (.tup ds)=false∧eqD (.lst ds) d=false∧eqD (.tup ds) d=false:=by
 cases d with
 | lst e=>unfold Dat at h;obtain ⟨_,_,rfl,_⟩:=h;cases f
 | tup e=>unfold Dat at h;obtain ⟨_,_,rfl,_⟩:=h;cases f
 | _=>simp [eqD]
theorem zh4 (I:Inv X pins σ H s):∀ (n:Nat) (A:Around) (d d':D) (x y:V) (u v:Value),A.units+n < cLine->dpt d<=n->Dat H d x->Dat H d' y->zn x u->zn y v->SeqAt.EqAt A s u v (eqD d d'):=by
 intro n
 induction n with
 | zero =>
   intro A d d' x y u v hu hn h h' r r'
   rcases h.flat with ⟨f,q⟩ | ⟨ds,a,xs,rfl,rfl,h1,h2⟩ | ⟨ds,a,xs,rfl,rfl,h1,h2⟩
   . rcases h'.flat with ⟨f',q'⟩ | ⟨ds,a,xs,rfl,rfl,h1,h2⟩ | ⟨ds,a,xs,rfl,rfl,h1,h2⟩
     . rw [q d' y h' f'];exact zog r r' f f'
     . cases r'
       obtain ⟨its,_,p,_⟩:=I.list (.inl h1)
       rw [(zdr h f ds).1];exact (zoj (by omega) r f p.isList).1
     . cases r'
       obtain ⟨its,_,p,_⟩:=I.tuple (SqT.of h1)
       rw [(zdr h f ds).2.1];exact (znS (by omega) r f (show s.heap.IsTuple a its.toArray from p)).1
   . unfold dpt at hn;omega
   . unfold dpt at hn;omega
 | succ n ih =>
   intro A d d' x y u v hu hn h h' r r'
   rcases h.flat with ⟨f,q⟩ | ⟨ds,a,xs,rfl,rfl,h1,h2⟩ | ⟨ds,a,xs,rfl,rfl,h1,h2⟩
   . rcases h'.flat with ⟨f',q'⟩ | ⟨ds,a,xs,rfl,rfl,h1,h2⟩ | ⟨ds,a,xs,rfl,rfl,h1,h2⟩
     . rw [q d' y h' f'];exact zog r r' f f'
     . cases r'
       obtain ⟨its,_,p,_⟩:=I.list (.inl h1)
       rw [(zdr h f ds).1];exact (zoj (by omega) r f p.isList).1
     . cases r'
       obtain ⟨its,_,p,_⟩:=I.tuple (SqT.of h1)
       rw [(zdr h f ds).2.1];exact (znS (by omega) r f (show s.heap.IsTuple a its.toArray from p)).1
   . cases r
     obtain ⟨its,rv,p,_⟩:=I.list (.inl h1)
     rcases h'.flat with ⟨f',q'⟩ | ⟨ds',b,ys,rfl,rfl,h3,h4⟩ | ⟨ds',b,ys,rfl,rfl,h3,h4⟩
     . rw [(zdr h' f' ds).2.2.1];exact (zoj (by omega) r' f' p.isList).2
     . cases r'
       obtain ⟨its',rv',p',_⟩:=I.list (.inl h3)
       by_cases hab:a=b
       . subst hab
         rw [zol I _ _ _ h h'];exact SeqAt.EqAt.same _
       . refine SeqAt.EqAt.of_refs hab ?_
         by_cases hl:ds.length=ds'.length
         . have e:=SeqAt.RcAt.lists (A:=A) p.isList p'.isList (by simp [<- rv.length,<- rv'.length,<- h2.length,<- h4.length,hl]) (by omega)
             (fun j j1 j2=>zgO (fun d d' x y u v hd a1 a2 a3 a4=>ih A.in1 d d' x y u v (by show A.units+1+n < cLine;omega) (by unfold dpt at hn;omega) a1 a2 a3 a4) h2 h4 rv rv' j j1 j2)
           have e2:its.toArray.size=ds.length:=by simp [<- rv.length,<- h2.length]
           rw [e2,zga ds ds' hl]at e
           unfold eqD;exact e
         . unfold eqD
           rw [zf8 _ _ hl]
           exact SeqAt.RcAt.lists_lengths p.isList p'.isList (by simpa [<- rv.length,<- rv'.length,<- h2.length,<- h4.length] using hl) (by omega)
     . cases r'
       obtain ⟨its',rv',p',_⟩:=I.tuple (SqT.of h3)
       unfold eqD
       exact SeqAt.EqAt.list_tuple p.isList (show s.heap.IsTuple b its'.toArray from p') (by omega)
   . cases r
     obtain ⟨its,rv,p0,_⟩:=I.tuple (SqT.of h1)
     have p:s.heap.IsTuple a its.toArray:=p0
     rcases h'.flat with ⟨f',q'⟩ | ⟨ds',b,ys,rfl,rfl,h3,h4⟩ | ⟨ds',b,ys,rfl,rfl,h3,h4⟩
     . rw [(zdr h' f' ds).2.2.2];exact (znS (by omega) r' f' p).2
     . cases r'
       obtain ⟨its',rv',p',_⟩:=I.list (.inl h3)
       unfold eqD
       exact SeqAt.EqAt.tuple_list p p'.isList (by omega)
     . cases r'
       obtain ⟨its',rv',p0',_⟩:=I.tuple (SqT.of h3)
       have p':s.heap.IsTuple b its'.toArray:=p0'
       by_cases hab:a=b
       . subst hab
         rw [zol I _ _ _ h h'];exact SeqAt.EqAt.same _
       . refine SeqAt.EqAt.of_refs hab ?_
         have e:=SeqAt.RcAt.tuples (A:=A) p p' (by omega)
           (fun j j1 j2=>zgO (fun d d' x y u v hd a1 a2 a3 a4=>ih A.in1 d d' x y u v (by show A.units+1+n < cLine;omega) (by unfold dpt at hn;omega) a1 a2 a3 a4) h2 h4 rv rv' j j1 j2)
         have e2:its.toArray.size=ds.length:=by simp [<- rv.length,<- h2.length]
         have e3:its'.toArray.size=ds'.length:=by simp [<- rv'.length,<- h4.length]
         rw [e2,e3]at e
         unfold eqD
         by_cases hl:ds.length=ds'.length
         . rw [show min ds.length ds'.length=ds.length by omega,zga ds ds' hl,beq_iff_eq.mpr hl,Bool.and_true]at e
           exact e
         . rw [beq_eq_false_iff_ne.mpr hl,Bool.and_false]at e
           rw [zf8 _ _ hl];exact e
theorem zxZ (I:Inv X pins σ H s) {A:Around}{d d':D}{x y:V}{u v:Value} (hu:A.units+dpt d < cLine) (h:Dat H d x) (h':Dat H d' y) (r:zn x u) (r':zn y v):SeqAt.RcAt A s u v (eqD d d'):=by
 rcases h.flat with ⟨f,q⟩ | ⟨ds,a,xs,rfl,rfl,h1,h2⟩ | ⟨ds,a,xs,rfl,rfl,h1,h2⟩
 . rcases h'.flat with ⟨f',q'⟩ | ⟨ds,a,xs,rfl,rfl,h1,h2⟩ | ⟨ds,a,xs,rfl,rfl,h1,h2⟩
   . rw [q d' y h' f'];exact zy7 r r' f f'
   . cases r'
     obtain ⟨its,_,p,_⟩:=I.list (.inl h1)
     rw [(zdr h f ds).1];exact (zrT (by omega) r f p.isList).1
   . cases r'
     obtain ⟨its,_,p,_⟩:=I.tuple (SqT.of h1)
     rw [(zdr h f ds).2.1];exact (zse (by omega) r f (show s.heap.IsTuple a its.toArray from p)).1
 . cases r
   obtain ⟨its,rv,p,_⟩:=I.list (.inl h1)
   rcases h'.flat with ⟨f',q'⟩ | ⟨ds',b,ys,rfl,rfl,h3,h4⟩ | ⟨ds',b,ys,rfl,rfl,h3,h4⟩
   . rw [(zdr h' f' ds).2.2.1];exact (zrT (by omega) r' f' p.isList).2
   . cases r'
     obtain ⟨its',rv',p',_⟩:=I.list (.inl h3)
     by_cases hl:ds.length=ds'.length
     . have e:=SeqAt.RcAt.lists (A:=A) p.isList p'.isList (by simp [<- rv.length,<- rv'.length,<- h2.length,<- h4.length,hl]) (by omega)
         (fun j j1 j2=>zgO (fun d d' x y u v hd a1 a2 a3 a4=>zh4 I (zch ds) A.in1 d d' x y u v (by unfold dpt at hu;show A.units+1+zch ds < cLine;omega) hd a1 a2 a3 a4) h2 h4 rv rv' j j1 j2)
       have e2:its.toArray.size=ds.length:=by simp [<- rv.length,<- h2.length]
       rw [e2,zga ds ds' hl]at e
       unfold eqD;exact e
     . unfold eqD
       rw [zf8 _ _ hl]
       exact SeqAt.RcAt.lists_lengths p.isList p'.isList (by simpa [<- rv.length,<- rv'.length,<- h2.length,<- h4.length] using hl) (by omega)
   . cases r'
     obtain ⟨its',rv',p',_⟩:=I.tuple (SqT.of h3)
     unfold eqD
     exact SeqAt.RcAt.list_tuple p.isList (show s.heap.IsTuple b its'.toArray from p') (by omega)
 . cases r
   obtain ⟨its,rv,p0,_⟩:=I.tuple (SqT.of h1)
   have p:s.heap.IsTuple a its.toArray:=p0
   rcases h'.flat with ⟨f',q'⟩ | ⟨ds',b,ys,rfl,rfl,h3,h4⟩ | ⟨ds',b,ys,rfl,rfl,h3,h4⟩
   . rw [(zdr h' f' ds).2.2.2];exact (zse (by omega) r' f' p).2
   . cases r'
     obtain ⟨its',rv',p',_⟩:=I.list (.inl h3)
     unfold eqD
     exact SeqAt.RcAt.tuple_list p p'.isList (by omega)
   . cases r'
     obtain ⟨its',rv',p0',_⟩:=I.tuple (SqT.of h3)
     have p':s.heap.IsTuple b its'.toArray:=p0'
     have e:=SeqAt.RcAt.tuples (A:=A) p p' (by omega)
       (fun j j1 j2=>zgO (fun d d' x y u v hd a1 a2 a3 a4=>zh4 I (zch ds) A.in1 d d' x y u v (by unfold dpt at hu;show A.units+1+zch ds < cLine;omega) hd a1 a2 a3 a4) h2 h4 rv rv' j j1 j2)
     have e2:its.toArray.size=ds.length:=by simp [<- rv.length,<- h2.length]
     have e3:its'.toArray.size=ds'.length:=by simp [<- rv'.length,<- h4.length]
     rw [e2,e3]at e
     unfold eqD
     by_cases hl:ds.length=ds'.length
     . rw [show min ds.length ds'.length=ds.length by omega,zga ds ds' hl,beq_iff_eq.mpr hl,Bool.and_true]at e
       exact e
     . rw [beq_eq_false_iff_ne.mpr hl,Bool.and_false]at e
       rw [zf8 _ _ hl];exact e
theorem zy5 (I:Inv X pins σ H s) {A:Around}{d d':D}{x y:V}{u v:Value} (hu:A.units+dpt d < cLine) (h:Dat H d x) (h':Dat H d' y) (r:zn x u) (r':zn y v):SeqAt.RcNeAt A s u v (!eqD d d'):=by
 rcases h.flat with ⟨f,q⟩ | ⟨ds,a,xs,rfl,rfl,h1,h2⟩ | ⟨ds,a,xs,rfl,rfl,h1,h2⟩
 . rcases h'.flat with ⟨f',q'⟩ | ⟨ds,a,xs,rfl,rfl,h1,h2⟩ | ⟨ds,a,xs,rfl,rfl,h1,h2⟩
   . rw [q d' y h' f'];exact zxq r r' f f'
   . cases r'
     obtain ⟨its,_,p,_⟩:=I.list (.inl h1)
     rw [(zdr h f ds).1];exact (zr2 (by omega) r f p.isList).1
   . cases r'
     obtain ⟨its,_,p,_⟩:=I.tuple (SqT.of h1)
     rw [(zdr h f ds).2.1];exact (zrc (by omega) r f (show s.heap.IsTuple a its.toArray from p)).1
 . cases r
   obtain ⟨its,rv,p,_⟩:=I.list (.inl h1)
   rcases h'.flat with ⟨f',q'⟩ | ⟨ds',b,ys,rfl,rfl,h3,h4⟩ | ⟨ds',b,ys,rfl,rfl,h3,h4⟩
   . rw [(zdr h' f' ds).2.2.1];exact (zr2 (by omega) r' f' p.isList).2
   . cases r'
     obtain ⟨its',rv',p',_⟩:=I.list (.inl h3)
     by_cases hl:ds.length=ds'.length
     . have e:=SeqAt.RcNeAt.lists (A:=A) p.isList p'.isList (by simp [<- rv.length,<- rv'.length,<- h2.length,<- h4.length,hl]) (by omega)
         (fun j j1 j2=>zgO (fun d d' x y u v hd a1 a2 a3 a4=>zh4 I (zch ds) A.in1 d d' x y u v (by unfold dpt at hu;show A.units+1+zch ds < cLine;omega) hd a1 a2 a3 a4) h2 h4 rv rv' j j1 j2)
       have e2:its.toArray.size=ds.length:=by simp [<- rv.length,<- h2.length]
       rw [e2,zga ds ds' hl]at e
       unfold eqD;exact e
     . unfold eqD
       rw [zf8 _ _ hl]
       exact SeqAt.RcNeAt.lists_lengths p.isList p'.isList (by simpa [<- rv.length,<- rv'.length,<- h2.length,<- h4.length] using hl) (by omega)
   . cases r'
     obtain ⟨its',rv',p',_⟩:=I.tuple (SqT.of h3)
     unfold eqD
     exact SeqAt.RcNeAt.list_tuple p.isList (show s.heap.IsTuple b its'.toArray from p') (by omega)
 . cases r
   obtain ⟨its,rv,p0,_⟩:=I.tuple (SqT.of h1)
   have p:s.heap.IsTuple a its.toArray:=p0
   rcases h'.flat with ⟨f',q'⟩ | ⟨ds',b,ys,rfl,rfl,h3,h4⟩ | ⟨ds',b,ys,rfl,rfl,h3,h4⟩
   . rw [(zdr h' f' ds).2.2.2];exact (zrc (by omega) r' f' p).2
   . cases r'
     obtain ⟨its',rv',p',_⟩:=I.list (.inl h3)
     unfold eqD
     exact SeqAt.RcNeAt.tuple_list p p'.isList (by omega)
   . cases r'
     obtain ⟨its',rv',p0',_⟩:=I.tuple (SqT.of h3)
     have p':s.heap.IsTuple b its'.toArray:=p0'
     have e:=SeqAt.RcNeAt.tuples (A:=A) p p' (by omega)
       (fun j j1 j2=>zgO (fun d d' x y u v hd a1 a2 a3 a4=>zh4 I (zch ds) A.in1 d d' x y u v (by unfold dpt at hu;show A.units+1+zch ds < cLine;omega) hd a1 a2 a3 a4) h2 h4 rv rv' j j1 j2)
     have e2:its.toArray.size=ds.length:=by simp [<- rv.length,<- h2.length]
     have e3:its'.toArray.size=ds'.length:=by simp [<- rv'.length,<- h4.length]
     rw [e2,e3]at e
     unfold eqD
     by_cases hl:ds.length=ds'.length
     . rw [show min ds.length ds'.length=ds.length by omega,zga ds ds' hl,beq_iff_eq.mpr hl,Bool.and_true]at e
       exact e
     . rw [beq_eq_false_iff_ne.mpr hl,Bool.and_false]at e
       rw [zf8 _ _ hl];exact e
end
section
variable {X:Cx}
def zh0:R2:=fun x y H Q=>∃ d d',Dat H d x∧Dat H d' y∧dpt d<=100∧Q (.bl (eqD d d')) H
def zik:R2:=fun x y H Q=>∃ d d',Dat H d x∧Dat H d' y∧dpt d<=100∧Q (.bl (!eqD d d')) H
theorem zzf {k:Nat} (hr:zP k X.A):OpR X (compareOp .Eq) zh0:=by
 intro pins s σ H x y v u Q I r r' h
 obtain ⟨d,d',h1,h2,h3,q⟩:=h
 exact zxZ I (by have:=hr.un;omega) h1 h2 r r' _ _ _ _ ⟨.bl _,H,I,rfl,q⟩
theorem zAJ {k:Nat} (hr:zP k X.A):OpR X (compareOp .NotEq) zik:=by
 intro pins s σ H x y v u Q I r r' h
 obtain ⟨d,d',h1,h2,h3,q⟩:=h
 exact zy5 I (by have:=hr.un;omega) h1 h2 r r' _ _ _ _ ⟨.bl _,H,I,rfl,q⟩
end
end L2
end
section
namespace L2
open PySem PySem.Spec PyProof.Rows
section
variable {X:Cx}
def zBK (K:PySem.W.Frag):List V->Hp->VK->Prop:=fun xs H Q=>∃ x t b,zdf K H x t∧((∃ n,xs=[x,.ty n]∧PySem.W.kitOne K t (.type n)=some b)∨(∃ C,xs=[x,.ref C]∧PySem.W.kitOne K t (.ref C)=some b))∧Q (.bl b) H
theorem zr3:zdE X (.builtin "isinstance") (zBK X.K):=by
 intro pins s σ H xs us Q I r h
 obtain ⟨x,t,b,ty,h | h,q⟩:=h
 . obtain ⟨n,rfl,hk⟩:=h
   obtain ⟨u,c,rfl,ru,rc⟩:=zsj r
   cases rc
   exact zro I ru ty hk fun tk=>⟨.bl b,H,I.tok _,rfl,q⟩
 . obtain ⟨C,rfl,hk⟩:=h
   obtain ⟨u,c,rfl,ru,rc⟩:=zsj r
   cases rc
   exact zro I ru ty hk fun tk=>⟨.bl b,H,I.tok _,rfl,q⟩
theorem zB5:OpR X (compareOp .Is) (fun x y H Q=>∃ b c,x = .bl b∧y = .bl c∧Q (.bl (b == c)) H):=by
 intro pins s σ H x y v u Q I r r' h
 obtain ⟨b,c,rfl,rfl,q⟩:=h
 cases r;cases r'
 refine wpAny_is_plain rfl ⟨.bl (b == c),H,I,?_,q⟩
 cases b <;> cases c <;> rfl
theorem zAw:OpR X (compareOp .IsNot) (fun x y H Q=>∃ b c,x = .bl b∧y = .bl c∧Q (.bl (!(b == c))) H):=by
 intro pins s σ H x y v u Q I r r' h
 obtain ⟨b,c,rfl,rfl,q⟩:=h
 cases r;cases r'
 refine wpAny_isNot_plain rfl ⟨.bl (!(b == c)),H,I,?_,q⟩
 cases b <;> cases c <;> rfl
theorem zxC {xs:List V}{us:List Value} (r:zp xs us) {i:Nat}{v:Value} (e:us.toArray[i]?=some v):∃ x,xs[i]?=some x∧zn x v:=by
 have e':us[i]?=some v:=by simpa using e
 have hi:i < us.length:=(List.getElem?_eq_some_iff.mp e').1
 have l:=r.length
 have ex:xs[i]?=some xs[i]:=List.getElem?_eq_getElem (by omega)
 obtain ⟨u,eu,ru⟩:=r.get ex
 rw [e']at eu;cases eu
 exact ⟨_,ex,ru⟩
theorem zxj (bs:List Bool):((List.range bs.length).all fun i=>bs.getD i false)=bs.all id:=by
 rw [Bool.eq_iff_iff,List.all_eq_true,List.all_eq_true]
 constructor
 . intro q b hb
   obtain ⟨i,hi,e⟩:=List.getElem_of_mem hb
   have:=q i (List.mem_range.mpr hi)
   rw [List.getD_eq_getElem?_getD,List.getElem?_eq_getElem hi,e]at this
   exact this
 . intro q i hi
   have hi':=List.mem_range.mp hi
   rw [List.getD_eq_getElem?_getD,List.getElem?_eq_getElem hi']
   exact q _ (List.getElem_mem hi')
theorem zBM (bs:List Bool):((List.range bs.length).any fun i=>bs.getD i false)=bs.any id:=by
 rw [Bool.eq_iff_iff,List.any_eq_true,List.any_eq_true]
 constructor
 . rintro ⟨i,hi,q⟩
   have hi':=List.mem_range.mp hi
   rw [List.getD_eq_getElem?_getD,List.getElem?_eq_getElem hi']at q
   exact ⟨_,List.getElem_mem hi',q⟩
 . rintro ⟨b,hb,q⟩
   obtain ⟨i,hi,e⟩:=List.getElem_of_mem hb
   refine ⟨i,List.mem_range.mpr hi,?_⟩
   rw [List.getD_eq_getElem?_getD,List.getElem?_eq_getElem hi,e]
   exact q
theorem zq8 {pins:List (Addr×Obj)}{σ:St}{H:Hp}{s:Shared}{a:Addr}{its:Array Value} (I:Inv X pins σ H s) {h':Heap}{tk:Nat}
   (hk:∀ b o,b∉[s.heap.objs.size]->(s.heap.push { cls := .type "list_iterator",data := .fields #[.ref a,.int 0 0] }).get? b=some o->h'.get? b=some o):Inv X pins σ H { s with heap:=h',toks:=tk } :=
 I.kept fun b o e=>hk b o (by simpa using Nat.ne_of_lt (Heap.lt_size e)) (Heap.get?_push_of_some _ e)
theorem zrv {A:Around}{bs:List Bool}{its:List Value} (rv:zp (bs.map V.bl) its):TruthOf X.prog X.w A (fun i v=>its.toArray[i]?=some v) (fun i=>bs.getD i false):=by
 intro i v s Q E hp hq
 obtain ⟨x,ex,rx⟩:=zxC rv hp
 rw [List.getElem?_map]at ex
 cases eb:bs[i]? with
 | none=>rw [eb]at ex;cases ex
 | some b =>
   rw [eb]at ex
   cases ex
   cases rx
   have hq':Q (bs.getD i false) s:=hq
   rw [List.getD_eq_getElem?_getD,eb]at hq'
   exact wpAny_truthy_bool hq'
theorem zBi (hc:X.calm=true):zdE X (.builtin "all") (fun xs H Q=>∃ (a:Addr) (bs:List Bool),xs=[.ref a]∧SqL X.K H a (bs.map V.bl)∧Q (.bl (bs.all id)) H):=by
 intro pins s σ H xs us Q I r h
 obtain ⟨a,bs,rfl,hq,q⟩:=h
 obtain ⟨u,rfl,ru⟩:=zeF r
 cases ru
 obtain ⟨its,rv,p,_⟩:=I.list hq
 refine call_all_walk (wpAny_pyIter_list p.isList ?_)
 obtain ⟨o,ho,_⟩:=id p.isList
 refine ⟨s.heap.objs.size,_,_,_,_,_,_,rfl,Walks.list (A:=X.A.in1) (I.ok.hd hc) _ a (Nat.ne_of_lt (Heap.lt_size ho)) its.toArray,⟨⟨_,Heap.get?_push_size _ rfl,rfl,rfl⟩,p.isList.at fun o e=>Heap.get?_push_of_some _ e⟩,zrv (A:=X.A.in1) rv,fun h' tk hk=>?_⟩
 refine ⟨.bl (bs.all id),H,zq8 (a:=a) (its:=its.toArray) I hk,?_,q⟩
 have e:its.toArray.size=bs.length:=by simp [<- rv.length]
 rw [e,zxj];rfl
theorem zBC (hc:X.calm=true):zdE X (.builtin "any") (fun xs H Q=>∃ (a:Addr) (bs:List Bool),xs=[.ref a]∧SqL X.K H a (bs.map V.bl)∧Q (.bl (bs.any id)) H):=by
 intro pins s σ H xs us Q I r h
 obtain ⟨a,bs,rfl,hq,q⟩:=h
 obtain ⟨u,rfl,ru⟩:=zeF r
 cases ru
 obtain ⟨its,rv,p,_⟩:=I.list hq
 refine call_any_walk (wpAny_pyIter_list p.isList ?_)
 obtain ⟨o,ho,_⟩:=id p.isList
 refine ⟨s.heap.objs.size,_,_,_,_,_,_,rfl,Walks.list (A:=X.A.in1) (I.ok.hd hc) _ a (Nat.ne_of_lt (Heap.lt_size ho)) its.toArray,⟨⟨_,Heap.get?_push_size _ rfl,rfl,rfl⟩,p.isList.at fun o e=>Heap.get?_push_of_some _ e⟩,zrv (A:=X.A.in1) rv,fun h' tk hk=>?_⟩
 refine ⟨.bl (bs.any id),H,zq8 (a:=a) (its:=its.toArray) I hk,?_,q⟩
 have e:its.toArray.size=bs.length:=by simp [<- rv.length]
 rw [e,zBM];rfl
def zcp (ns:List Int):List Int:=firstMet (fun i=>ns.getD i 0) ns.length
theorem zyF (hc:X.calm=true):zdE X (.type "set") (fun xs H Q=>∃ (a:Addr) (ns:List Int),xs=[.ref a]∧SqL X.K H a (ns.map V.int)∧ns.length < 4000∧∀ p,H p=none->Q (.ref p) (upd H p (.set (fun k=>(zcp ns).any (· == k)) (zcp ns).length))):=by
 intro pins s σ H xs us Q I r h
 obtain ⟨a,ns,rfl,hq,hn,q⟩:=h
 obtain ⟨u,rfl,ru⟩:=zeF r
 cases ru
 obtain ⟨its,rv,p,_⟩:=I.list hq
 have e:its.toArray.size=ns.length:=by simp [<- rv.length]
 refine call_set_list (items:=its.toArray) (ns:=ns) (I.ok.hd hc) p.isList (by simpa using zpd rv) (by rw [e];unfold scanBound;omega) fun h' tk hS hk=>?_
 rw [e]at hS
 exact ⟨.ref s.heap.objs.size,_,I.laid (a:=s.heap.objs.size) (o := .set (fun k=>(zcp ns).any (· == k)) (zcp ns).length) (fun b o eb=>hk b o (Heap.lt_size eb) eb) (Nat.le_refl _) hS,rfl,q _ (I.hok.fresh (Nat.le_refl _))⟩
theorem zx3:zdE X (.builtin "len") (fun xs H Q=>∃ p S n,xs=[.ref p]∧H p=some (.set S n)∧Q (.int n) H):=by
 intro pins s σ H xs us Q I r h
 obtain ⟨p,S,n,rfl,hp,q⟩:=h
 obtain ⟨u,rfl,ru⟩:=zeF r
 cases ru
 obtain ⟨o,es,ep,t,ho,hex,hd,_,_,hb,hf,hn⟩:=I.hok p _ hp
 refine call_len_set ho hex hd hf (by unfold scanBound at hb;omega) ⟨.int n,H,I.tok _,⟨_,by rw [hn]⟩,q⟩
end
end L2
end
section
namespace L2
open PySem PySem.Spec PyProof.Rows
def zsD (osc scope:Scope) (N0 N:List Str) (js:List (Option Nat)):Bool :=
 decide (scope.kind = .function) && scope.names.all (fun y=>decide (y.2 ≠ .cell) && decide (scope.names.lookup y.1=some y.2) && (decide (y.2 ≠ .free) || decide (osc.names.lookup y.1=some .cell) || decide (osc.names.lookup y.1=some .free))) &&
   decide (js.length=N.length) && (List.range js.length).all fun i=>match js[i]? with
     | some (some k)=>match N[i]?,N0[k]? with
       | some x,some y=>decide (x=y) && decide (scope.names.lookup x=some .free)
       | _,_=>false
     | _=>true
theorem zbZ.of {X:Cx}{osc scope:Scope}{N0 N:List Str}{js:List (Option Nat)} (hs:X.env.scope=osc) (hN:X.N=N0) (hc:zsD osc scope N0 N js=true):zbZ X scope N js:=by
 unfold zsD at hc
 rw [Bool.and_eq_true,Bool.and_eq_true,Bool.and_eq_true]at hc
 obtain ⟨⟨⟨h1,h2⟩,h3⟩,h4⟩:=hc
 rw [List.all_eq_true]at h2 h4
 have g:∀ y∈scope.names,y.2 ≠ .cell∧scope.names.lookup y.1=some y.2∧(y.2 ≠ .free∨osc.names.lookup y.1=some .cell∨osc.names.lookup y.1=some .free):=fun y hy=>by
   have:=h2 y hy
   simp only [Bool.and_eq_true,Bool.or_eq_true,decide_eq_true_eq]at this
   exact ⟨this.1.1,this.1.2,by rcases this.2 with (z | z) | z <;> simp [z]⟩
 refine ⟨of_decide_eq_true h1,fun y hy=>(g y hy).1,fun y hy=>(g y hy).2.1,fun y hy hf=>?_,of_decide_eq_true h3,fun i k e=>?_⟩
 . rcases (g y hy).2.2 with z | z | z
   . exact absurd hf z
   . left;show X.env.scope.names.lookup y.1=_;rw [hs];exact z
   . right;show X.env.scope.names.lookup y.1=_;rw [hs];exact z
 . have hi:i < js.length:=(List.getElem?_eq_some_iff.mp e).1
   have q:=h4 i (List.mem_range.mpr hi)
   rw [e]at q
   cases e1:N[i]? with
   | none=>rw [e1]at q;cases q
   | some x =>
     cases e2:N0[k]? with
     | none =>
       rw [e1]at q
       dsimp only at q
       rw [e2]at q
       cases q
     | some y =>
       rw [e1]at q
       dsimp only at q
       rw [e2]at q
       simp only [Bool.and_eq_true,decide_eq_true_eq]at q
       exact ⟨x,rfl,by rw [hN,e2,q.1],q.2⟩
section
variable {K:PySem.W.Frag}{a D:Addr}{xs:List V}{g:TG}{tc:TT}{te:TE}{σ:St}{H1:Hp}{js:List (Option Nat)}{Q:VK}
end
section
variable {prog:Program}{w:World}{A:Around}{E:Value->Shared->Prop}{s:Shared}
end
section
variable {X:Cx}{e st:Expr}{te:TE}{lo hi:Option Expr}{tl th ts:TO}{pos p2:Pos}
end
end L2
namespace L2
open PySem PySem.Spec PyProof.Rows
structure zr6 (K:PySem.W.Frag) (C:Addr):Prop where
 ha:PySem.W.findIn K (.ref C) "__class__" = some (some (.builtin "object.__class__"))
 hn:PySem.W.specialIn K (.builtin "object.__class__") "__get__" = some (some (.builtin "getset_descriptor.__get__"))
 htk:PySem.W.takesIn K (.builtin "object.__class__")=some true
 hm:PySem.W.mroIn K C (.type "object")=some true
structure DF (K:PySem.W.Frag) (x q:Str) (st:Stmt) (ps:List Str) where
 a:Addr
 d:FuncData
 F:Fun K x q st a d
 b:zdg K d ps []
structure CF (K:PySem.W.Frag) (mg:Str->Option Value) (x:Str) where
 c:Addr
 m:mg x=some (.ref c)
 cl:Cls K c
 ic:zr6 K c
structure VF (mg:Str->Option Value) (x:Str) (v:V) where
 u:Value
 m:mg x=some u
 r:zn v u
def Isa (K:PySem.W.Frag) (C C':Addr) (b:Bool):Prop:=PySem.W.kitOne K (.ref C) (.ref C')=some b
end L2
namespace L2
open PySem
section
variable {env:Env}{es:List Expr}
theorem zG {c j p}:starEach (.Constant c j p :: es) env=(false,eval (.Constant c j p) env) :: starEach es env:=rfl
theorem zk {x p}:starEach (.Name x p :: es) env=(false,eval (.Name x p) env) :: starEach es env:=rfl
theorem zdB {a o b p}:starEach (.BinOp a o b p :: es) env=(false,eval (.BinOp a o b p) env) :: starEach es env:=rfl
theorem zoT {o a p}:starEach (.UnaryOp o a p :: es) env=(false,eval (.UnaryOp o a p) env) :: starEach es env:=rfl
theorem zbe {f a k p}:starEach (.Call f a k p :: es) env=(false,eval (.Call f a k p) env) :: starEach es env:=rfl
theorem zdz {o a p}:starEach (.Attribute o a p :: es) env=(false,eval (.Attribute o a p) env) :: starEach es env:=rfl
theorem zcs {o a p}:starEach (.Subscript o a p :: es) env=(false,eval (.Subscript o a p) env) :: starEach es env:=rfl
theorem zn5 {a k p}:starEach (.Tuple a k p :: es) env=(false,eval (.Tuple a k p) env) :: starEach es env:=rfl
theorem zfb {a g sc p}:starEach (.ListComp a g sc p :: es) env=(false,eval (.ListComp a g sc p) env) :: starEach es env:=rfl
end
end L2
namespace L2
open PySem
end L2
namespace L2
open PySem
end L2
namespace L2
open PySem
end L2
end
section
namespace L2
open PySem PySem.Spec PyProof.Rows
section
variable {X:Cx}{pins:List (Addr×Obj)}{σ:St}{H:Hp}{s:Shared}{h':Heap}
theorem Inv.turnedL {t':Nat}{fp:List Addr} (I:Inv X pins σ H s) (hf:∀ b∈fp,zdh X pins H b) (k:∀ b o,b∉fp->s.heap.get? b=some o->h'.get? b=some o):Inv X pins σ H { s with heap:=h',toks:=t' }:=by
 have nit:∀ b u,H b=some u->b∉fp:=fun b u e z=>by rw [(hf b z).1]at e;cases e
 refine I.step (g':=s.gens) (d':=s.drawn) (ch:=fp) (fun b hb=>?_) (fun b o _ _ hc e _=>k b o hc e) (fun b o _ _ hc e _=>⟨o.slots,k b o hc e⟩) (fun _ _ _ _ n=>n)
   (fun b o hc e=>⟨o,k b o hc e⟩) (fun _ _ e=>e) (fun _ _ _ e=>e) (fun b ps e=>⟨#[],by rw [e];simp⟩) (fun m hm=>?_) (fun b u e=>?_) I.bare
 . obtain ⟨f0,f1,f2,f3,f4,f5⟩:=hf b hb
   exact ⟨f3,f1,f4,f5⟩
 . obtain ⟨o,es,ep,ho,r⟩:=hm
   exact ⟨o,es,ep,k _ o (fun z=>(hf _ z).2.1 rfl) ho,r⟩
 . refine (I.hok b u e).stay (fun c v hc q=>k c v ?_ q) (fun _ q=>q) fun _ _ q=>q
   rcases hc with z | z
   . rw [z];exact nit b u e
   . exact nit c _ z
theorem Inv.turnNew {t':Nat}{fp:List Addr}{T:Addr}{u:HO} (I:Inv X pins σ H s) (hf:∀ b∈fp,zdh X pins H b) (k:∀ b o,b∉fp->s.heap.get? b=some o->h'.get? b=some o) (hT:s.heap.objs.size<=T)
   (new:zbd X.prog X.w (upd H T u) h' T u):Inv X pins σ (upd H T u) { s with heap:=h',toks:=t' }:=by
 have nit:∀ b u,H b=some u->b∉fp:=fun b u e z=>by rw [(hf b z).1]at e;cases e
 have hn:H T=none:=I.hok.fresh hT
 refine I.step (g':=s.gens) (d':=s.drawn) (ch:=fp) (fun b hb=>?_) (fun b o _ _ hc e _=>k b o hc e) (fun b o _ _ hc e _=>⟨o.slots,k b o hc e⟩) (fun b o _ e n=>by rw [zy (Nat.ne_of_lt (Nat.lt_of_lt_of_le (Heap.lt_size e) hT))];exact n)
   (fun b o hc e=>⟨o,k b o hc e⟩) (fun b xs e=>by rw [zy (zdF e hn)];exact e) (fun b o xs e=>by rw [zy (zdF e hn)];exact e) (fun b ps e=>⟨#[],by rw [zy (zdF e hn),e];simp⟩) (fun m hm=>?_) (fun b v e=>?_) I.bare
 . obtain ⟨f0,f1,f2,f3,f4,f5⟩:=hf b hb
   exact ⟨f3,f1,f4,f5⟩
 . obtain ⟨o,es,ep,ho,r⟩:=hm
   exact ⟨o,es,ep,k _ o (fun z=>(hf _ z).2.1 rfl) ho,r⟩
 . by_cases hb:b=T
   . subst hb;rw [zbQ]at e;cases e;exact new
   . rw [zy hb]at e
     refine (I.hok b v e).stay (fun c v hc q=>k c v ?_ q) (fun c q=>by rw [zy (zdF q hn)];exact q) fun c xs q=>by rw [zy (zdF q hn)];exact q
     rcases hc with z | z
     . rw [z];exact nit b _ e
     . exact nit c _ z
end
section
variable {X:Cx}{es:List Expr}{k:Nat}{tp p pos:Pos}{l l2 o:Expr}{tl tl2 to:TE}
end
def Itz (K:PySem.W.Frag) (a b:Addr):It :=
 ⟨fun i H=>∃ xs ys x y,SqL K H a xs∧SqL K H b ys∧xs[i]?=some x∧ys[i]?=some y,
  fun i H x H'=>∃ T v u,x = .ref T∧H T=none∧H'=upd H T (.tup [v,u])∧(∀ xs,SqL K H a xs->xs[i]?=some v)∧∀ ys,SqL K H b ys->ys[i]?=some u,
  fun i H=>∃ xs ys,SqL K H a xs∧SqL K H b ys∧min xs.length ys.length<=i⟩
def zz1 (z TI TO i1 i2 l1 l2:Addr) (i:Nat) (h:Heap):Prop:=IsZip h z TI TO .none∧IsPair h TI (.ref i1) (.ref i2)∧(∃ a b,IsPair h TO a b)∧h.IsListIter i1 l1 i∧h.IsListIter i2 l2 i
theorem zyr {P:Program}{w:World}{K:PySem.W.Frag}{es:List Expr}{k:Nat}{tp:Pos} (z TI TO i1 i2 l1 l2:Addr) (TIz:TI≠z) (TOz:TO≠z) (i1z:i1≠z) (i2z:i2≠z) (TITO:TI≠TO) (TIi1:TI≠i1) (TIi2:TI≠i2) (TOi1:TO≠i1) (TOi2:TO≠i2) (i12:i1≠i2) :
   zgl P w K (.Tuple es k tp) (Itz K l1 l2) [z,TI,TO,i1,i2] z (zz1 z TI TO i1 i2 l1 l2) where
 mem:=by simp
 obj:=fun i h ⟨h1,h2,⟨a,b,h3⟩,h4,h5⟩ c hc=>by
   simp only [List.mem_cons,List.not_mem_nil,or_false]at hc
   rcases hc with rfl | rfl | rfl | rfl | rfl
   . exact ⟨_,h1,fun v z=>nomatch z⟩
   . exact ⟨_,h2,fun v z=>nomatch z⟩
   . exact ⟨_,h3,fun v z=>nomatch z⟩
   . obtain ⟨o,e,_,d⟩:=h4;exact ⟨o,e,fun v z=>by rw [d]at z;cases z⟩
   . obtain ⟨o,e,_,d⟩:=h5;exact ⟨o,e,fun v z=>by rw [d]at z;cases z⟩
 keep:=fun i h h' ⟨h1,h2,⟨a,b,h3⟩,h4,h5⟩ kk=>⟨kk z (by simp) _ h1,kk TI (by simp) _ h2,⟨a,b,kk TO (by simp) _ h3⟩,h4.at fun o x=>kk i1 (by simp) o x,h5.at fun o x=>kk i2 (by simp) o x⟩
 item:=by
   intro X hP hw hK hc i pins s σ H E I hf ⟨h1,h2,⟨a,b,h3⟩,h4,h5⟩ ⟨xs,ys,x,y,hq,hq2,hx,hy⟩
   subst hP hw hK
   obtain ⟨its,rv,p,hz⟩:=I.list hq
   obtain ⟨its2,rv2,p2,hz2⟩:=I.list hq2
   obtain ⟨u,hu,ru⟩:=rv.get hx
   obtain ⟨u2,hu2,ru2⟩:=rv2.get hy
   have nl:∀ {l:Addr} {xs:List V} {c:Addr},SqL X.K H l xs->c∈[z,TI,TO,i1,i2]->(∃ o,s.heap.get? c=some o∧o.cls ≠ .type "list")->l≠c:=fun {l xs c} hl hc hn e=>by
     subst e
     obtain ⟨_,_,pp,_⟩:=I.list hl
     obtain ⟨o,ho,hcl⟩:=hn
     obtain ⟨o2,_,e2,c2,_⟩:=pp
     rw [ho]at e2;cases e2
     exact hcl c2
   have cz:∃ o,s.heap.get? z=some o∧o.cls ≠ .type "list":=⟨_,h1,by show Value.type "zip" ≠ .type "list";decide +kernel⟩
   have cO:∃ o,s.heap.get? TO=some o∧o.cls ≠ .type "list":=⟨_,h3,by show Value.type "tuple" ≠ .type "list";decide +kernel⟩
   have c1:∃ o,s.heap.get? i1=some o∧o.cls ≠ .type "list":=by obtain ⟨o,e,c,_⟩:=h4;exact ⟨o,e,by rw [c];decide +kernel⟩
   have c2:∃ o,s.heap.get? i2=some o∧o.cls ≠ .type "list":=by obtain ⟨o,e,c,_⟩:=h5;exact ⟨o,e,by rw [c];decide +kernel⟩
   have D:ZipApart z TI TO i1 i2 l1 l2:=⟨TIz,TOz,i1z,i2z,TITO,TIi1,TIi2,TOi1,TOi2,i12,nl hq (by simp) cz,nl hq (by simp) cO,nl hq (by simp) c1,nl hq (by simp) c2,nl hq2 (by simp) cz,nl hq2 (by simp) cO,nl hq2 (by simp) c1,nl hq2 (by simp) c2⟩
   refine wpAny_pyNext_zip_item D h1 h2 h3 h4 h5 p.isList p2.isList (x:=u) (y:=u2) (by simpa using hu) (by simpa using hu2) fun h' a1 a2 a3 a4 a5 a6 hk=>⟨_,rfl,?_⟩
   refine wpAny_letOwnedTupleGo_zip a1 fun h2' hz' hs2=>?_
   have hlt:∀ {c o},s.heap.get? c=some o->c < s.heap.objs.size:=fun e=>Heap.lt_size e
   have kk:∀ b o,b∉[z,TI,TO,i1,i2]->s.heap.get? b=some o->h2'.get? b=some o:=fun b o hb eb=>(hs2.2 b (fun q=>hb (by simp [q]))).trans (hk b o (fun q=>hb (by simp [q])) (fun q=>hb (by simp [q])) (fun q=>hb (by simp [q])) (fun q=>hb (by simp [q])) eb)
   have hT2:h2'.get? s.heap.objs.size=some { cls := .type "tuple",data := .seq #[u,u2] }:=(hs2.2 _ (Nat.ne_of_gt (hlt h1))).trans a5
   have I2:Inv X pins σ (upd H s.heap.objs.size (.tup [x,y])) { s with heap:=h2',toks:=s.toks }:=I.turnNew hf kk (Nat.le_refl _) ⟨by show 2<=sizeLine;decide,[u,u2],.cons ru (.cons ru2 .nil),⟨_,hT2,rfl,_,rfl⟩⟩
   refine ⟨.ref s.heap.objs.size,_,I2,rfl,⟨s.heap.objs.size,x,y,rfl,I.hok.fresh (Nat.le_refl _),rfl,fun zs hzs=>by rw [I.list_inj hzs hq];exact hx,fun zs hzs=>by rw [I.list_inj hzs hq2];exact hy⟩,
     ⟨hz',hs2.extBut _ _ TIz (hk _ _ TIz TITO TIi1 TIi2 h2),⟨_,_,hs2.extBut _ _ TOz a2⟩,a3.extBut hs2.extBut i1z,a4.extBut hs2.extBut i2z⟩,fun b hb=>?_⟩
   rw [zy]
   . exact (hf b hb).1
   . simp only [List.mem_cons,List.not_mem_nil,or_false]at hb
     rcases hb with rfl | rfl | rfl | rfl | rfl
     . exact Nat.ne_of_lt (hlt h1)
     . exact Nat.ne_of_lt (hlt h2)
     . exact Nat.ne_of_lt (hlt h3)
     . obtain ⟨_,e,_⟩:=h4;exact Nat.ne_of_lt (hlt e)
     . obtain ⟨_,e,_⟩:=h5;exact Nat.ne_of_lt (hlt e)
 done:=by
   intro X hP hw hK hc i pins s σ H E I hf ⟨h1,h2,⟨a,b,h3⟩,h4,h5⟩ ⟨xs,ys,hq,hq2,hl⟩
   subst hP hw hK
   obtain ⟨its,rv,p,hz⟩:=I.list hq
   obtain ⟨its2,rv2,p2,hz2⟩:=I.list hq2
   have hlen:=rv.length
   have hlen2:=rv2.length
   have nl:∀ {l:Addr} {xs:List V} {c:Addr},SqL X.K H l xs->(∃ o,s.heap.get? c=some o∧o.cls ≠ .type "list")->l≠c:=fun {l xs c} hl hn e=>by
     subst e
     obtain ⟨_,_,pp,_⟩:=I.list hl
     obtain ⟨o,ho,hcl⟩:=hn
     obtain ⟨o2,_,e2,c2,_⟩:=pp
     rw [ho]at e2;cases e2
     exact hcl c2
   have cz:∃ o,s.heap.get? z=some o∧o.cls ≠ .type "list":=⟨_,h1,by show Value.type "zip" ≠ .type "list";decide +kernel⟩
   have cO:∃ o,s.heap.get? TO=some o∧o.cls ≠ .type "list":=⟨_,h3,by show Value.type "tuple" ≠ .type "list";decide +kernel⟩
   have c1:∃ o,s.heap.get? i1=some o∧o.cls ≠ .type "list":=by obtain ⟨o,e,c,_⟩:=h4;exact ⟨o,e,by rw [c];decide +kernel⟩
   have c2:∃ o,s.heap.get? i2=some o∧o.cls ≠ .type "list":=by obtain ⟨o,e,c,_⟩:=h5;exact ⟨o,e,by rw [c];decide +kernel⟩
   have D:ZipApart z TI TO i1 i2 l1 l2:=⟨TIz,TOz,i1z,i2z,TITO,TIi1,TIi2,TOi1,TOi2,i12,nl hq cz,nl hq cO,nl hq c1,nl hq c2,nl hq2 cz,nl hq2 cO,nl hq2 c1,nl hq2 c2⟩
   have hend:its.toArray[i]?=none∨its2.toArray[i]?=none:=by
     rcases Nat.le_total xs.length ys.length with q | q
     . exact .inl (Array.getElem?_eq_none (by simp;omega))
     . exact .inr (Array.getElem?_eq_none (by simp;omega))
   exact wpAny_pyNext_zip_end (I.ok.hd hc) D h1 h2 h3 h4 h5 p.isList p2.isList hend fun h' hk=>⟨rfl,I.turnedL (t':=s.toks) hf fun b o hb y=>hk b o (fun q=>hb (by simp [q])) (fun q=>hb (by simp [q])) (fun q=>hb (by simp [q])) (fun q=>hb (by simp [q])) y⟩
 self:=fun _ _ _ _ _ ⟨h1,_⟩ h=>wpAny_pyIter_zip h1 h
def zzm (K:PySem.W.Frag) (tl tl2:TE):TI:=fun σ H R=>tl σ H fun x H1=>tl2 σ H1 fun y H2=>∃ a b,x = .ref a∧y = .ref b∧(∃ xs,SqL K H2 a xs)∧(∃ ys,SqL K H2 b ys)∧R (Itz K a b) H2
section
variable {X:Cx}{es:List Expr}{k:Nat}{tp p pos apos:Pos}{l l2 o:Expr}{tl tl2 to:TE}
theorem zyj (hg:Gl X "zip") (hm:X.mg "zip" = none) (hl:PE X l tl) (hl2:PE X l2 tl2) (hs:starEach [l,l2] X.env=(false,eval l X.env) :: starEach [l2] X.env) (hs2:starEach [l2] X.env=(false,eval l2 X.env) :: starEach [] X.env) :
   PI X (.Tuple es k tp) (.Call (.Name "zip" p) [l,l2] [] pos) (zzm X.K tl tl2):=by
 intro pins s σ H R I h
 have hb:bootBuiltins ("zip":Str)=some (.type "zip"):=by decide +kernel
 refine Call_ (zf5 I hg hm hb (callWith_type1 ?_ hs (by rw [hs2];rfl)))
 rw [hs]
 show wpAny _ _ (spliced ((false,eval l X.env) :: backTo pos (starEach [l2] X.env))) _ _ s
 refine Calls.spliced_cons (thn (hl pins s σ H _ I h) fun u s1 ⟨x,H1,I1,r1,q1⟩=>?_)
 rw [hs2]
 show wpAny _ _ (spliced ((false,eval l2 X.env) :: backTo pos (starEach [] X.env))) _ _ s1
 refine Calls.spliced_cons (thn (hl2 pins s1 σ H1 _ I1 q1) fun u2 s2 ⟨y,H2,I2,r2,q2⟩=>Calls.spliced_nil ?_)
 obtain ⟨a,b,rfl,rfl,⟨xs,hq⟩,⟨ys,hq2⟩,q⟩:=q2
 cases r1;cases r2
 obtain ⟨its,rv,pl,hz⟩:=I2.list hq
 obtain ⟨its2,rv2,pl2,hz2⟩:=I2.list hq2
 refine call_zip_2 pl.isList pl2.isList fun h' g1 g2 g3 g4 g5 hsz hk=>?_
 refine wpAny_pyIter_zip g1 ?_
 refine ⟨s2.heap.objs.size+4,[s2.heap.objs.size+4,s2.heap.objs.size+2,s2.heap.objs.size+3,s2.heap.objs.size,s2.heap.objs.size+1],_,_,H2,rfl,I2.kept (t':=s2.toks) hk,
   zyr (s2.heap.objs.size+4) (s2.heap.objs.size+2) (s2.heap.objs.size+3) s2.heap.objs.size (s2.heap.objs.size+1) a b (show (s2.heap.objs.size+2:Nat)≠(s2.heap.objs.size+4:Nat) by omega) (show (s2.heap.objs.size+3:Nat)≠(s2.heap.objs.size+4:Nat) by omega) (show (s2.heap.objs.size:Nat)≠(s2.heap.objs.size+4:Nat) by omega) (show (s2.heap.objs.size+1:Nat)≠(s2.heap.objs.size+4:Nat) by omega) (show (s2.heap.objs.size+2:Nat)≠(s2.heap.objs.size+3:Nat) by omega) (show (s2.heap.objs.size+2:Nat)≠(s2.heap.objs.size:Nat) by omega) (show (s2.heap.objs.size+2:Nat)≠(s2.heap.objs.size+1:Nat) by omega) (show (s2.heap.objs.size+3:Nat)≠(s2.heap.objs.size:Nat) by omega) (show (s2.heap.objs.size+3:Nat)≠(s2.heap.objs.size+1:Nat) by omega) (show (s2.heap.objs.size:Nat)≠(s2.heap.objs.size+1:Nat) by omega),⟨g1,g2,⟨_,_,g3⟩,g4,g5⟩,fun c hc=>?_,q⟩
 have hle:s2.heap.objs.size<=c:=by
   simp only [List.mem_cons,List.not_mem_nil,or_false]at hc
   rcases hc with rfl | rfl | rfl | rfl | rfl
   . exact Nat.le_add_right _ 4
   . exact Nat.le_add_right _ 2
   . exact Nat.le_add_right _ 3
   . exact Nat.le_refl _
   . exact Nat.le_add_right _ 1
 exact I2.fpOk hle (I2.hok.fresh hle)
def zeY (X:Cx) (a:Addr):Prop:=∀ o u,X.H₀ a≠some (.frz o u)
theorem Inv.freeze {pins:List (Addr×Obj)}{σ:St}{H:Hp}{s:Shared}{a:Addr}{kvs:List (Key×V)} (I:Inv X pins σ H s) (ha:H a=some (.dK kvs)):zeY X a∧∃ o,s.heap.get? a=some o∧Inv X pins σ (upd H a (.frz o (.dK kvs))) s:=by
 have nf:zeY X a:=fun o u z=>by have:=I.base.frzs a o u z;rw [ha]at this;cases this
 have x:=I.hok a _ ha
 obtain ⟨o,ho⟩:∃ o,s.heap.get? a=some o:=by obtain ⟨_,_,_,_,o,_,_,e,_⟩:=x;exact ⟨o,e⟩
 refine ⟨nf,o,ho,?_⟩
 have tp:∀ b xs,H b=some (.tup xs)->upd H a (.frz o (.dK kvs)) b=some (.tup xs):=fun b xs z=>by
   rw [zy]
   . exact z
   . intro q;subst q;rw [ha]at z;cases z
 have st:∀ {b u},H b=some u->zbd X.prog X.w (upd H a (.frz o (.dK kvs))) s.heap b u:=fun {b u} e=>(I.hok b u e).stay (fun _ _ _ q=>q) (fun c q=>by
   rw [zy]
   . exact q
   . intro z;subst z;rw [ha]at q;cases q) tp
 refine ⟨I.ok,I.os,I.bare,⟨I.base.keep,I.base.slot,fun b ob e n hx=>?_,I.base.there,fun b xs e=>tp b xs (I.base.tups b xs e),fun b ob u e=>?_,fun b ps e=>?_⟩,I.loc,I.cell,?_,fun x c e=>?_,fun q hq=>?_,fun b u e=>?_,I.len⟩
 . rw [zy]
   . exact I.base.free b ob e n hx
   . intro z;subst z;have:=I.base.free _ ob e n hx;rw [ha]at this;cases this
 . rw [zy]
   . exact I.base.frzs b ob u e
   . intro z;subst z;exact nf _ _ e
 . obtain ⟨m,e1⟩:=I.base.tbls b ps e
   refine ⟨m,?_⟩
   rw [zy]
   . exact e1
   . intro z;subst z;rw [ha]at e1;cases e1
 . rw [zy]
   . exact I.free
   . intro z;have:=I.free;rw [z,ha]at this;cases this
 . rw [zy]
   . exact I.freeC x c e
   . intro z;have:=I.freeC x c e;rw [z,ha]at this;cases this
 . obtain ⟨e,n,r⟩:=I.pin q hq
   refine ⟨e,?_,r⟩
   rw [zy]
   . exact n
   . intro z;rw [z,ha]at n;cases n
 . by_cases hb:b=a
   . subst hb
     rw [zbQ]at e;cases e
     exact ⟨ho,st ha⟩
   . rw [zy hb]at e
     exact st e
theorem Inv.thaw {pins:List (Addr×Obj)}{σ:St}{H:Hp}{s:Shared}{a:Addr}{o:Obj}{kvs:List (Key×V)} (I:Inv X pins σ H s) (nf:zeY X a) (ha:H a=some (.frz o (.dK kvs))):Inv X pins σ (upd H a (.dK kvs)) s:=by
 have tp:∀ b xs,H b=some (.tup xs)->upd H a (.dK kvs) b=some (.tup xs):=fun b xs z=>by
   rw [zy]
   . exact z
   . intro q;subst q;rw [ha]at z;cases z
 have st:∀ {b u},zbd X.prog X.w H s.heap b u->zbd X.prog X.w (upd H a (.dK kvs)) s.heap b u:=fun {b u} e=>e.stay (fun _ _ _ q=>q) (fun c q=>by
   rw [zy]
   . exact q
   . intro z;subst z;rw [ha]at q;cases q) tp
 refine ⟨I.ok,I.os,I.bare,⟨I.base.keep,I.base.slot,fun b ob e n hx=>?_,I.base.there,fun b xs e=>tp b xs (I.base.tups b xs e),fun b ob u e=>?_,fun b ps e=>?_⟩,I.loc,I.cell,?_,fun x c e=>?_,fun q hq=>?_,fun b u e=>?_,I.len⟩
 . rw [zy]
   . exact I.base.free b ob e n hx
   . intro z;subst z;have:=I.base.free _ ob e n hx;rw [ha]at this;cases this
 . rw [zy]
   . exact I.base.frzs b ob u e
   . intro z;subst z;exact nf _ _ e
 . obtain ⟨m,e1⟩:=I.base.tbls b ps e
   refine ⟨m,?_⟩
   rw [zy]
   . exact e1
   . intro z;subst z;rw [ha]at e1;cases e1
 . rw [zy]
   . exact I.free
   . intro z;have:=I.free;rw [z,ha]at this;cases this
 . rw [zy]
   . exact I.freeC x c e
   . intro z;have:=I.freeC x c e;rw [z,ha]at this;cases this
 . obtain ⟨e,n,r⟩:=I.pin q hq
   refine ⟨e,?_,r⟩
   rw [zy]
   . exact n
   . intro z;rw [z,ha]at n;cases n
 . by_cases hb:b=a
   . subst hb
     rw [zbQ]at e;cases e
     obtain ⟨_,q⟩:=(show zbd X.prog X.w H s.heap b (.frz o (.dK kvs)) from I.hok b _ ha)
     exact st q
   . rw [zy hb]at e
     exact st (I.hok b u e)
def zdi (X:Cx) (R:Hp->Prop) (H':Hp):Prop:=∃ a o kvs,H' a=some (.frz o (.dK kvs))∧zeY X a∧R (upd H' a (.dK kvs))
theorem zzk {e:Expr}{t:TE} (h:PE X e t):PE X e (fun σ H Q=>t σ H fun v H'=>zdi X (Q v) H'):=fun pins s σ H Q I hw=>by
 refine thn (h pins s σ H _ I hw) fun v s1 ⟨x,H1,I1,r,a,o,kvs,ha,nf,q⟩=>⟨x,_,I1.thaw nf ha,r,q⟩
theorem zBQ {st:Stmt}{t:TS} (h:PS X st t):PS X st (fun D σ H=>t { nx:=fun σ' H'=>zdi X (D.nx σ') H',rt:=fun v H'=>zdi X (D.rt v) H',bk:=fun σ' H'=>zdi X (D.bk σ') H',ct:=fun σ' H'=>zdi X (D.ct σ') H' } σ H):=fun pins s σ H D I hw=>by
 refine thn (h pins s σ H _ I hw) fun f s1 q=>?_
 cases f with
 | next=>obtain ⟨σ',H',I',a,o,kvs,ha,nf,q⟩:=q;exact ⟨σ',_,I'.thaw nf ha,q⟩
 | brk=>obtain ⟨σ',H',I',a,o,kvs,ha,nf,q⟩:=q;exact ⟨σ',_,I'.thaw nf ha,q⟩
 | cont=>obtain ⟨σ',H',I',a,o,kvs,ha,nf,q⟩:=q;exact ⟨σ',_,I'.thaw nf ha,q⟩
 | ret u=>obtain ⟨v,σ',H',I',r,a,o,kvs,ha,nf,q⟩:=q;exact ⟨v,σ',_,I'.thaw nf ha,r,q⟩
def Iti (o:Obj) (a:Addr) (kvs:List (Key×V)):It :=
 ⟨fun i H=>H a=some (.frz o (.dK kvs))∧i < kvs.length,fun i H x H'=>∃ T kk v,kvs[i]?=some (kk,v)∧x = .ref T∧H T=none∧H'=upd H T (.tup [kV kk,v]),fun i H=>H a=some (.frz o (.dK kvs))∧kvs.length<=i⟩
def Itv (o:Obj) (a:Addr) (kvs:List (Key×V)):It :=
 ⟨fun i H=>H a=some (.frz o (.dK kvs))∧i < kvs.length,fun i H x H'=>H'=H∧∃ kk,kvs[i]?=some (kk,x),fun i H=>H a=some (.frz o (.dK kvs))∧kvs.length<=i⟩
theorem KV.get {κ:Type}:∀ {kvs:List (κ×V)}{vs:List (κ×Value)}{i:Nat}{kk:κ}{v:V},KV kvs vs->kvs[i]?=some (kk,v)->∃ u,vs[i]?=some (kk,u)∧zn v u:=by
 intro kvs vs i kk v r
 unfold KV at r
 induction r generalizing i with
 | nil=>intro e;simp at e
 | @cons p q ps qs h t ih =>
   intro e
   cases i with
   | zero =>
     simp at e;subst e
     obtain ⟨h1,h2⟩:=h
     obtain ⟨q1,q2⟩:=q
     have h1':kk=q1:=h1
     subst h1'
     exact ⟨q2,rfl,h2⟩
   | succ i=>exact ih (by simpa using e)
theorem zAy {P:Program}{w:World}{kk:Key}{u:Value} (h:(zbS P w).is kk u=true):zn (kV kk) u:=by
 rcases zer (k:=kk) (v:=u) h with ⟨i,t,rfl,rfl⟩ | ⟨x,t,rfl,rfl⟩
 . exact ⟨t,rfl⟩
 . exact ⟨t,rfl⟩
theorem zoX {pins:List (Addr×Obj)}{σ:St}{H:Hp}{s:Shared}{a:Addr}{ob:Obj}{kvs:List (Key×V)} (I:Inv X pins σ H s) (ha:H a=some (.frz ob (.dK kvs))) :
   s.heap.get? a=some ob∧∃ vs,KV kvs vs∧∃ ep,s.heap.DictAt (zbS X.prog X.w) a vs ep:=by
 obtain ⟨e,_,_,vs,r,dd⟩:=(show zbd X.prog X.w H s.heap a (.frz ob (.dK kvs)) from I.hok a _ ha)
 exact ⟨e,vs,r,dd.dictAt⟩
theorem zCx {P:Program}{w:World}{h h':Heap}{a:Addr}{ob:Obj}{vs vs':List (Key×Value)}{ep ep':Nat} (e:h.get? a=some ob) (e':h'.get? a=some ob) (d:h.DictAt (zbS P w) a vs ep) (d':h'.DictAt (zbS P w) a vs' ep'):ep=ep':=by
 obtain ⟨o,es,h1,h2,h3,_⟩:=d
 obtain ⟨o',es',h1',h2',h3',_⟩:=d'
 rw [e]at h1;cases h1
 rw [e']at h1';cases h1'
 rw [h3]at h3'
 injection h3'
theorem zyc {P:Program}{w:World}{K:PySem.W.Frag}{es:List Expr}{k:Nat}{tp:Pos} (ob:Obj) (a it:Addr) (kvs:List (Key×V)) (ep:Nat) (hep:∀ (X:Cx) pins σ H s,X.prog=P->X.w=w->Inv X pins σ H s->H a=some (.frz ob (.dK kvs))->∃ vs,KV kvs vs∧s.heap.DictAt (zbS X.prog X.w) a vs ep) :
   zgl P w K (.Tuple es k tp) (Iti ob a kvs) [it] it (fun i h=>∃ ok ov,IsItemIter h it a i kvs.length ep ok ov) where
 mem:=by simp
 obj:=fun i h ⟨ok,ov,st⟩ b hb=>by
   have e:b=it:=by simpa using hb
   subst e
   exact ⟨_,st,fun v z=>nomatch z⟩
 keep:=fun i h h' ⟨ok,ov,st⟩ kk=>⟨ok,ov,kk it (by simp) _ st⟩
 item:=by
   intro X hP hw hK hc i pins s σ H E I hf ⟨ok,ov,st⟩ ⟨ha,hi⟩
   obtain ⟨vs,r,dat⟩:=hep X pins σ H s hP hw I ha
   subst hP hw hK
   obtain ⟨⟨kk,v⟩,hx⟩:∃ p,kvs[i]?=some p:=⟨kvs[i],by simp [hi]⟩
   obtain ⟨u,hu,ru⟩:=r.get hx
   rw [r.length]at st
   refine wpAny_pyNext_items_item st dat hu fun key h' hkey ho hT hsz hk=>⟨_,rfl,?_⟩
   refine wpAny_letOwnedTupleGo_items ho fun h2 he2 hs2=>?_
   have hlt:it < s.heap.objs.size:=Heap.lt_size st
   have kk2:∀ b o,b∉[it]->s.heap.get? b=some o->h2.get? b=some o:=fun b o hb eb=>(hs2.2 b (fun z=>hb (by simp [z]))).trans (hk b o (fun z=>hb (by simp [z])) eb)
   have hT2:h2.get? s.heap.objs.size=some { cls := .type "tuple",data := .seq #[key,u] }:=(hs2.2 _ (Nat.ne_of_gt hlt)).trans hT
   have I2:Inv X pins σ (upd H s.heap.objs.size (.tup [kV kk,v])) { s with heap:=h2,toks:=s.toks }:=I.turnNew hf kk2 (Nat.le_refl _) ⟨by show 2<=sizeLine;decide,[key,u],.cons (zAy hkey) (.cons ru .nil),⟨_,hT2,rfl,_,rfl⟩⟩
   refine ⟨.ref s.heap.objs.size,_,I2,rfl,⟨s.heap.objs.size,kk,v,hx,rfl,I.hok.fresh (Nat.le_refl _),rfl⟩,⟨_,_,by rw [r.length];exact he2⟩,fun b hb=>?_⟩
   have eb:b=it:=by simpa using hb
   subst eb
   rw [zy (Nat.ne_of_lt hlt)]
   exact (hf b hb).1
 done:=by
   intro X hP hw hK hc i pins s σ H E I hf ⟨ok,ov,st⟩ ⟨ha,hi⟩
   obtain ⟨vs,r,dat⟩:=hep X pins σ H s hP hw I ha
   subst hP hw hK
   rw [r.length]at st hi
   exact wpAny_pyNext_items_end (I.ok.hd hc) st dat (List.getElem?_eq_none hi) fun h' hx=>⟨rfl,I.turnedL (t':=s.toks) hf fun b o hb y=>hx b o (fun z=>hb (by simp [z])) y⟩
 self:=fun _ _ _ _ _ ⟨ok,ov,st⟩ h=>PySem.W.kcp_self st h
theorem zCt {P:Program}{w:World}{K:PySem.W.Frag}{tg:Expr} (ob:Obj) (a it:Addr) (kvs:List (Key×V)) (ep:Nat) (hep:∀ (X:Cx) pins σ H s,X.prog=P->X.w=w->Inv X pins σ H s->H a=some (.frz ob (.dK kvs))->∃ vs,KV kvs vs∧s.heap.DictAt (zbS X.prog X.w) a vs ep) :
   zgl P w K tg (Itv ob a kvs) [it] it (fun i h=>h.IsValIter it a i kvs.length ep) where
 mem:=by simp
 obj:=fun i h st b hb=>by
   have e:b=it:=by simpa using hb
   subst e
   obtain ⟨o,e,c,d⟩:=st
   exact ⟨o,e,fun v z=>by rw [d]at z;cases z⟩
 keep:=fun i h h' st kk=>st.at fun o e=>kk it (by simp) o e
 item:=by
   intro X hP hw hK hc i pins s σ H E I hf st ⟨ha,hi⟩
   obtain ⟨vs,r,dat⟩:=hep X pins σ H s hP hw I ha
   subst hP hw hK
   obtain ⟨⟨kk,v⟩,hx⟩:∃ p,kvs[i]?=some p:=⟨kvs[i],by simp [hi]⟩
   obtain ⟨u,hu,ru⟩:=r.get hx
   rw [r.length]at st
   refine wpAny_pyNext_values_item st dat hu fun h' st' sb=>?_
   have I1:Inv X pins σ H { s with heap:=h' }:=I.turnedL (t':=s.toks) hf fun b o hb e=>(sb.2 b (fun z=>hb (by simp [z]))).trans e
   obtain ⟨o,e,c,d⟩:=id st'
   exact ⟨u,rfl,zn4 (s:={ s with heap:=h' }) e c d (by decide) ⟨v,H,I1,ru,⟨rfl,kk,hx⟩,by rw [r.length];exact st',fun b hb=>(hf b hb).1⟩⟩
 done:=by
   intro X hP hw hK hc i pins s σ H E I hf st ⟨ha,hi⟩
   obtain ⟨vs,r,dat⟩:=hep X pins σ H s hP hw I ha
   subst hP hw hK
   rw [r.length]at st hi
   exact wpAny_pyNext_values_end (I.ok.hd hc) st dat (List.getElem?_eq_none hi) fun h' hx=>⟨rfl,I.turnedL (t':=s.toks) hf fun b o hb y=>hx b o (fun z=>hb (by simp [z])) y⟩
 self:=fun _ _ _ _ _ st h=>wpAny_pyIter_valiter st h
theorem zrE {s:Shared}{a:Addr}{ob:Obj}{kvs:List (Key×V)}{vs:List (Key×Value)}{ep:Nat} (e:s.heap.get? a=some ob) (d:s.heap.DictAt (zbS X.prog X.w) a vs ep) :
   ∀ (Y:Cx) pins σ H s',Y.prog=X.prog->Y.w=X.w->Inv Y pins σ H s'->H a=some (.frz ob (.dK kvs))->∃ vs,KV kvs vs∧s'.heap.DictAt (zbS Y.prog Y.w) a vs ep:=fun Y pins σ H s' hP hw I ha=>by
 obtain ⟨e',vs',r,ep',d'⟩:=zoX I ha
 have d2:s'.heap.DictAt (zbS X.prog X.w) a vs' ep':=by rw [<- hP,<- hw];exact d'
 have:=zCx e e' d d2
 subst this
 exact ⟨vs',r,d'⟩
def zxt (X:Cx) (to:TE):TI:=fun σ H R=>to σ H fun x H1=>∃ a kvs,x = .ref a∧H1 a=some (.dK kvs)∧∀ ob,zeY X a->R (Iti ob a kvs) (upd H1 a (.frz ob (.dK kvs)))
def zz9 (X:Cx) (to:TE):TI:=fun σ H R=>to σ H fun x H1=>∃ a kvs,x = .ref a∧H1 a=some (.dK kvs)∧∀ ob,zeY X a->R (Itv ob a kvs) (upd H1 a (.frz ob (.dK kvs)))
theorem zzh {cpos:Pos} (ho:PE X o to) (hbase:attributeBase o "items" X.env (eval o X.env)=eval o X.env:=by rfl) (hline:(apos.endLine == cpos.line)=true:=by rfl):PI X (.Tuple es k tp) (.Call (.Attribute o "items" apos) [] [] cpos) (zxt X to):=by
 intro pins s σ H R I h
 refine wpAny_Call_method0_late hbase hline (thn (ho pins s σ H _ I h) fun v s1 ⟨x,H1,I1,r1,a,kvs,ex,ha,q⟩=>?_)
 subst ex
 cases r1
 obtain ⟨nf,ob,eob,I2⟩:=I1.freeze ha
 obtain ⟨_,vs,rv,ep,dat⟩:=zoX I2 zbQ
 obtain ⟨h1,h2⟩:=zhZ (T :="dict") (x := .ref a) (v := .ref a) I1 rfl (.inr (.inr (.inl ⟨rfl,.inl ⟨kvs,ha⟩⟩)))
 obtain ⟨_,hd,_⟩:=(show zbd X.prog X.w H1 s1.heap a (.dK kvs) from I1.hok a _ ha)
 refine ⟨"dict", "dict.items",F.plainAttrs_dict,F.slot_dict_items,F.type_dict_items,h1,h2,Calls.callWith_builtin rfl (PySem.evalArgs_none ?_)⟩
 refine call_meetsIn F.slot_dict_items dat.dictOf.typeIs F.entry_dict_items (F.args_dict_items_1 _) (meets_dict_items (zbS X.prog X.w) a hd) ⟨⟨vs,dat.dictOf⟩,?_⟩
 refine wpAny_pyIter_items (d:=a) ⟨_,Heap.get?_push_size _ rfl,rfl,rfl⟩ (dat.push _) ?_
 have I3:Inv X pins σ (upd H1 a (.frz ob (.dK kvs))) { s1 with heap:=s1.heap.push { cls := .type "dict_items",data := .fields #[.ref a] } }:=I2.kept (t':=s1.toks) fun b o e=>Heap.get?_push_of_some _ e
 refine ⟨_,[_],_,_,_,rfl,I3.kept (t':=s1.toks) fun b o e=>Heap.get?_push_of_some _ e,zyc ob a _ kvs ep (zrE eob dat),⟨.none,.none,?_⟩,fun b hb=>?_,q ob nf⟩
 . rw [rv.length];exact Heap.get?_push_size _ rfl
 . have eb:=List.mem_singleton.mp hb
   subst eb
   exact I3.fpOk (Nat.le_refl _) (I3.hok.fresh (Nat.le_refl _))
theorem zxl {tg:Expr}{cpos:Pos} (ho:PE X o to) (hbase:attributeBase o "values" X.env (eval o X.env)=eval o X.env:=by rfl) (hline:(apos.endLine == cpos.line)=true:=by rfl):PI X tg (.Call (.Attribute o "values" apos) [] [] cpos) (zz9 X to):=by
 intro pins s σ H R I h
 refine wpAny_Call_method0_late hbase hline (thn (ho pins s σ H _ I h) fun v s1 ⟨x,H1,I1,r1,a,kvs,ex,ha,q⟩=>?_)
 subst ex
 cases r1
 obtain ⟨nf,ob,eob,I2⟩:=I1.freeze ha
 obtain ⟨_,vs,rv,ep,dat⟩:=zoX I2 zbQ
 obtain ⟨h1,h2⟩:=zhZ (T :="dict") (x := .ref a) (v := .ref a) I1 rfl (.inr (.inr (.inl ⟨rfl,.inl ⟨kvs,ha⟩⟩)))
 obtain ⟨_,hd,_⟩:=(show zbd X.prog X.w H1 s1.heap a (.dK kvs) from I1.hok a _ ha)
 refine ⟨"dict", "dict.values",F.plainAttrs_dict,F.slot_dict_values,F.type_dict_values,h1,h2,Calls.callWith_builtin rfl (PySem.evalArgs_none ?_)⟩
 refine call_meetsIn F.slot_dict_values dat.dictOf.typeIs F.entry_dict_values (F.args_dict_values_1 _) (meets_dict_values (zbS X.prog X.w) a hd) ⟨⟨vs,dat.dictOf⟩,?_⟩
 refine wpAny_pyIter_values (d:=a) ⟨_,Heap.get?_push_size _ rfl,rfl,rfl⟩ (dat.push _) ?_
 have I3:Inv X pins σ (upd H1 a (.frz ob (.dK kvs))) { s1 with heap:=s1.heap.push { cls := .type "dict_values",data := .fields #[.ref a] } }:=I2.kept (t':=s1.toks) fun b o e=>Heap.get?_push_of_some _ e
 refine ⟨_,[_],_,_,_,rfl,I3.kept (t':=s1.toks) fun b o e=>Heap.get?_push_of_some _ e,zCt ob a _ kvs ep (zrE eob dat),⟨_,Heap.get?_push_size _ rfl,rfl,by rw [rv.length];rfl⟩,fun b hb=>?_,q ob nf⟩
 have eb:=List.mem_singleton.mp hb
 subst eb
 exact I3.fpOk (Nat.le_refl _) (I3.hok.fresh (Nat.le_refl _))
end
end L2
end
section
namespace L2
open PySem PySem.Spec PyProof.Rows
def zci (xs:Array Nat):Prop:=xs.toList.Pairwise (· < ·)
theorem zci.lt {xs:Array Nat} (h:zci xs) {i j:Nat}{a b:Nat} (hi:xs[i]?=some a) (hj:xs[j]?=some b) (q:i < j):a < b:=by
 unfold zci at h
 rw [List.pairwise_iff_getElem]at h
 rw [<- Array.getElem?_toList]at hi hj
 obtain ⟨h1,e1⟩:=List.getElem?_eq_some_iff.mp hi
 obtain ⟨h2,e2⟩:=List.getElem?_eq_some_iff.mp hj
 have:=h i j h1 h2 q
 rw [e1,e2]at this
 exact this
theorem zoq {xs:Array Nat}{j:Nat} (h:zci xs):∀ (fuel lo hi:Nat),hi<=xs.size->lo<=hi->hi - lo<=fuel->(∀ i a,i < lo->xs[i]?=some a->a < j)->(∀ i a,hi<=i->xs[i]?=some a->j<=a) ->
   let r:=SetTable.below.go xs j fuel lo hi
   r<=xs.size∧(∀ i a,i < r->xs[i]?=some a->a < j)∧(∀ i a,r<=i->xs[i]?=some a->j<=a)
 | 0,lo,hi,h1,h2,h3,h4,h5=>by
   unfold SetTable.below.go
   have e:lo=hi:=by omega
   subst e
   exact ⟨h1,h4,h5⟩
 | fuel+1,lo,hi,h1,h2,h3,h4,h5=>by
   unfold SetTable.below.go
   dsimp only
   by_cases c:lo < hi
   . rw [if_pos c]
     have hm:(lo+hi) / 2 < xs.size:=by omega
     have em:xs[(lo+hi) / 2]?=some xs[(lo+hi) / 2]:=Array.getElem?_eq_getElem hm
     have ed:xs.getD ((lo+hi) / 2) j=xs[(lo+hi) / 2]:=by simp [Array.getD,hm]
     by_cases d:xs.getD ((lo+hi) / 2) j < j
     . rw [if_pos d]
       refine zoq h fuel _ _ h1 (by omega) (by omega) (fun i a q e=>?_) h5
       by_cases z:i=(lo+hi) / 2
       . subst z;rw [em]at e;cases e;rw [ed]at d;exact d
       . have:=h.lt e em (by omega)
         rw [ed]at d;omega
     . rw [if_neg d]
       refine zoq h fuel _ _ (by omega) (by omega) (by omega) h4 (fun i a q e=>?_)
       by_cases z:i=(lo+hi) / 2
       . subst z;rw [em]at e;cases e;rw [ed]at d;omega
       . have:=h.lt em e (by omega)
         rw [ed]at d;omega
   . rw [if_neg c]
     have e:lo=hi:=by omega
     subst e
     exact ⟨h1,h4,h5⟩
theorem zo8 {xs:Array Nat}{j:Nat} (h:zci xs):SetTable.below xs j<=xs.size∧(∀ i a,i < SetTable.below xs j->xs[i]?=some a->a < j)∧(∀ i a,SetTable.below xs j<=i->xs[i]?=some a->j<=a) :=
 zoq h _ _ _ (Nat.le_refl _) (Nat.zero_le _) (by omega) (fun i a q=>by omega) (fun i a q e=>by have:=(Array.getElem?_eq_some_iff.mp e).1;omega)
theorem zAX {xs:Array Nat}{j:Nat} (h:zci xs) (n:xs[SetTable.below xs j]?≠some j):∀ i:Nat,xs[i]?≠some j:=fun i e=>by
 obtain ⟨h1,h2,h3⟩:=zo8 (j:=j) h
 by_cases c:i < SetTable.below xs j
 . have:=h2 i j c e;omega
 . by_cases d:i=SetTable.below xs j
   . subst d;exact n e
   . have hb:SetTable.below xs j < xs.size:=by have:=(Array.getElem?_eq_some_iff.mp e).1;omega
     have eb:xs[SetTable.below xs j]?=some xs[SetTable.below xs j]:=Array.getElem?_eq_getElem hb
     have q1:=h3 _ _ (Nat.le_refl _) eb
     have q2:=h.lt eb e (by omega)
     omega
theorem zci.insert {xs:Array Nat}{j:Nat} (h:zci xs) (n:∀ i:Nat,xs[i]?≠some j):zci (SetTable.insertAt xs (SetTable.below xs j) j):=by
 obtain ⟨h1,h2,h3⟩:=zo8 (j:=j) h
 generalize SetTable.below xs j=b at h1 h2 h3
 have h':=h
 unfold zci at h ⊢
 rw [SetTable.toList_insertAt]
 rw [<- List.take_append_drop b xs.toList,List.pairwise_append]at h
 obtain ⟨p1,p2,p3⟩:=h
 have lo:∀ a∈xs.toList.take b,a < j:=fun a ha=>by
   obtain ⟨i,hi,e⟩:=List.mem_iff_getElem.mp ha
   rw [List.length_take]at hi
   rw [List.getElem_take]at e
   exact h2 i a (by omega) (by rw [<- Array.getElem?_toList,<- e];exact List.getElem?_eq_getElem _)
 have hi:∀ a∈xs.toList.drop b,j < a:=fun a ha=>by
   obtain ⟨i,hi,e⟩:=List.mem_iff_getElem.mp ha
   rw [List.getElem_drop]at e
   rw [List.length_drop]at hi
   have e':xs[b+i]?=some a:=by rw [<- Array.getElem?_toList,<- e];exact List.getElem?_eq_getElem _
   have:=h3 (b+i) a (by omega) e'
   have:=n (b+i)
   have:a≠j:=fun z=>this (z ▸ e')
   omega
 rw [List.pairwise_append]
 refine ⟨p1,List.pairwise_cons.mpr ⟨hi,p2⟩,fun a ha c hc=>?_⟩
 rcases List.mem_cons.mp hc with rfl | hc
 . exact lo a ha
 . exact p3 a ha c hc
theorem zci.range (n:Nat):zci (Array.range n):=by
 unfold zci
 simpa using List.pairwise_lt_range
theorem zsB {t:SetTable}{j:Nat} (h:zci t.place) (e:∀ i,t.slot j ≠ .live i):∀ i:Nat,t.place[i]?≠some j:=by
 refine zAX h fun q=>e (SetTable.below t.place j) ?_
 unfold SetTable.slot
 dsimp only
 rw [q]
 simp
theorem zor {t:SetTable}{f:Nat->Int}{h:Int} (r:zci t.place):∀ (fuel:Nat) (p:SetTable.Probe) (j:Nat) (d:Option Nat),(∀ x,p.dummy=some x->∀ i:Nat,t.place[i]?≠some x) ->
   SetTable.probe.go t f h fuel p=some (.empty j d)->(∀ i:Nat,t.place[i]?≠some j)∧∀ x,d=some x->∀ i:Nat,t.place[i]?≠some x
 | 0,p,j,d,hd,e=>by unfold SetTable.probe.go at e;cases e
 | fuel+1,p,j,d,hd,e=>by
   have adv:∀ q:SetTable.Probe,(t.advance q).dummy=q.dummy:=fun q=>by unfold SetTable.advance;split <;> rfl
   unfold SetTable.probe.go at e
   cases es:t.slot p.j with
   | empty =>
     rw [es]at e
     cases e
     exact ⟨zsB r fun i=>by rw [es];simp,hd⟩
   | dummy =>
     rw [es]at e
     refine zor r fuel _ j d (fun x hx=>?_) e
     rw [adv]at hx
     cases hx
     exact zsB r fun i=>by rw [es];simp
   | live i =>
     rw [es]at e
     dsimp only at e
     split at e
     . cases e
     . exact zor r fuel _ j d (fun x hx=>by rw [adv]at hx;exact hd x hx) e
theorem zzT {t:SetTable}{h:Int}{j:Nat}{b:Bool} (r:zci t.place) (e:t.freeSlot h=some (j,b)):∀ i:Nat,t.place[i]?≠some j:=by
 unfold SetTable.freeSlot at e
 cases ep:t.probe (fun _=>h+1) h (t.probeStart h) with
 | none=>rw [ep]at e;cases e
 | some m =>
   rw [ep]at e
   cases m with
   | candidate=>cases e
   | empty k d =>
     unfold SetTable.probe at ep
     have:=zor r _ _ _ _ (fun x hx=>by cases hx) ep
     cases d with
     | none=>cases e;exact this.1
     | some x=>cases e;exact this.2 x rfl
structure zcr (L:Bool) (t:SetTable):Prop where
 led:L=true->t.led=true
 rise:zci t.place
theorem zcr.stand {L:Bool}{t:SetTable} (h:zcr L t) (n:Nat):zcr L (t.standIn n):=⟨h.led,zci.range n⟩
theorem zcr.orStand {L:Bool}{t:SetTable} (h:zcr L t) (n:Nat):zcr L (t.orStandIn n):=by unfold SetTable.orStandIn;split;exact h;exact h.stand n
theorem zcr.off {L:Bool}{t:SetTable} (h:zcr L t):zcr L { t with plain:=false }:=⟨h.led,h.rise⟩
theorem zcr.new {L:Bool}{t:SetTable} (k:zcr L t) (es:Array (Int×Value)) (h:Int) (x:Value):zcr L (layNew t es h x).2.1:=by
 unfold layNew
 split
 . rename_i j b e
   refine zcr.orStand (t:=(t.put j).1) ⟨k.led,?_⟩ _
   exact k.rise.insert (zzT k.rise e)
 . exact k.stand _
theorem zqt (f:Nat->Option Nat):∀ (l:List Nat),l.Pairwise (· < ·)->(((l.filterMap fun j=>(f j).map (j,·)).map (·.1)).Pairwise (· < ·))∧∀ a∈(l.filterMap fun j=>(f j).map (j,·)).map (·.1),a∈l
 | [],_=>by simp
 | x :: l,h=>by
   obtain ⟨h1,h2⟩:=List.pairwise_cons.mp h
   obtain ⟨i1,i2⟩:=zqt f l h2
   cases e:f x with
   | none =>
     rw [List.filterMap_cons_none (by rw [e];rfl)]
     exact ⟨i1,fun a ha=>List.mem_cons_of_mem _ (i2 a ha)⟩
   | some y =>
     rw [List.filterMap_cons_some (b:=(x,y)) (by rw [e];rfl),List.map_cons]
     refine ⟨List.pairwise_cons.mpr ⟨fun a ha=>h1 a (i2 a ha),i1⟩,fun a ha=>?_⟩
     rcases List.mem_cons.mp ha with rfl | ha
     . exact List.mem_cons_self
     . exact List.mem_cons_of_mem _ (i2 a ha)
theorem zcr.relay {L:Bool}{t:SetTable} (k:zcr L t) (es:Array (Int×Value)) (n:Nat):zcr L (relayAll t es n).2.1:=by
 unfold relayAll
 split
 . rename_i t' order e
   dsimp only
   split
   . unfold SetTable.relaid SetTable.laid at e
     cases ec:SetTable.layClean (SetTable.sizeAbove n - 1) (es.map (·.1)) with
     | none=>rw [ec]at e;cases e
     | some ow =>
       rw [ec]at e
       cases e
       refine ⟨k.led,?_⟩
       unfold zci
       exact (zqt _ _ List.pairwise_lt_range).1
   . exact k.stand _
 . exact k.stand _
end L2
end
section
namespace L2
open PySem PySem.Spec PyProof.Rows
def zcJ (P:Program) (w:World) (L:Bool) (h:Heap) (a:Addr) (ns:List Int):Prop :=
 ∃ o es ep t,h.get? a=some o∧o.ExactSet∧o.data = .set es ep t∧ElemsOf (intKind P w) es.toList∧es.size < scanBound∧t.fits es.size=true∧zcr L t∧∃ ms,IntsAre (es.toList.map (·.2)) ms∧ms.Perm ns
section
variable {P:Program}{w:World}{A:Around}{E:Value->Shared->Prop}{s:Shared}{L:Bool}{a:Addr}{ns:List Int}
theorem zcJ.keep {h h':Heap} (S:zcJ P w L h a ns) (k:∀ o,h.get? a=some o->h'.get? a=some o):zcJ P w L h' a ns:=by
 obtain ⟨o,es,ep,t,ho,r⟩:=S
 exact ⟨o,es,ep,t,k o ho,r⟩
theorem zpf {vs us:List Value} (p:vs.Perm us):∀ {ms:List Int},IntsAre us ms->∃ ks,IntsAre vs ks∧ks.Perm ms:=by
 induction p with
 | nil=>intro ms h;cases h;exact ⟨[],.nil,.nil⟩
 | cons x p ih =>
   intro ms h
   cases h with
   | cons n t hr=>obtain ⟨ks,h1,h2⟩:=ih hr;exact ⟨n :: ks,.cons n t h1,h2.cons n⟩
 | swap x y l =>
   intro ms h
   cases h with
   | cons n t hr=>cases hr with
     | cons m u hq=>exact ⟨m :: n :: _,.cons m u (.cons n t hq),.swap _ _ _⟩
 | trans p q ip iq =>
   intro ms h
   obtain ⟨ks,h1,h2⟩:=iq h
   obtain ⟨js,h3,h4⟩:=ip h1
   exact ⟨js,h3,h4.trans h2⟩
theorem zqr:∀ {vs:List Value}{ms:List Int}{k:Int}{t:Tok},IntsAre vs ms->IntsAre (vs++[.int k t]) (ms++[k])
 | _,_,k,t,.nil=> .cons k t .nil
 | _,_,k,t,.cons n u hr=> .cons n u (zqr hr)
theorem zrV {k m:Int}{t:Tok}:(intKind P w).is k (.int m t)=decide (k=m):=KeyKind.is_eq_decide (intKind_is _ _ _ _) k
theorem zsJ {es:List (Int×Value)}{ms:List Int} (h:IntsAre (es.map (·.2)) ms) (k:Int):(∃ e∈es,(intKind P w).is k e.2=true)↔k∈ms:=by
 induction es generalizing ms with
 | nil=>cases h;simp
 | cons x es ih =>
   obtain ⟨hx,v⟩:=x
   cases h with
   | cons n t hr =>
     have:=ih hr
     constructor
     . rintro ⟨e,he,q⟩
       rcases List.mem_cons.mp he with rfl | he
       . rw [zrV]at q
         rw [of_decide_eq_true q];exact List.mem_cons_self
       . exact List.mem_cons_of_mem _ (this.mp ⟨e,he,q⟩)
     . intro q
       rcases List.mem_cons.mp q with rfl | q
       . exact ⟨_,List.mem_cons_self,by rw [zrV];simp⟩
       . obtain ⟨e,he,q⟩:=this.mpr q
         exact ⟨e,List.mem_cons_of_mem _ he,q⟩
theorem zn1 (b:Bool) {s₁:Shared}{R:Unit->Shared->Prop} (hq:R () s₁):wpAny (model P w) A (match b with | true=>rule "set.scan.the-table-gave-way" | false=>pure ()) R E s₁:=by
 cases b
 . exact wpAny_pure hq
 . exact wpAny_rule hq
theorem zqV {h:Heap}{o:Obj}{es:Array (Int×Value)}{ep:Nat}{t:SetTable} (fs:Array (Int×Value)) (u:SetTable) (ho:h.get? a=some o) (hd:o.data = .set es ep t) :
   (h.update a (Obj.putSet fs u)).get? a=some { o with data := .set fs (ep+1) u }:=by
 have g:=Heap.get?_update_self (Obj.putSet fs u) ho (by rw [putSet_of fs u hd];rfl)
 rw [putSet_of fs u hd]at g
 exact g
theorem zrB {g:Bool->Sem Unit} (hg:∀ (b:Bool) (s₁:Shared) (R:Unit->Shared->Prop),R () s₁->wpAny (model P w) A (g b) R E s₁) {o:Obj}{es fs:Array (Int×Value)}{ep:Nat}{t u:SetTable}{c:Bool}{R:Option Bool->Shared->Prop}{ms:List Int}
   (ho:s.heap.get? a=some o) (hex:o.ExactSet) (hd:o.data = .set es ep t) (hel:ElemsOf (intKind P w) fs.toList) (hb:fs.size < scanBound) (hf:u.fits fs.size=true) (hu:zcr L u) (hI:IntsAre (fs.toList.map (·.2)) ms) (hp:ms.Perm ns)
   (h:∀ h',Heap.SameBut a s.heap h'->zcJ P w L h' a ns->R (some true) { s with heap:=h' }) :
   wpAny (model P w) A (do
       storeSet a fs u
       if (!c && u.tooFull)=true then do
           g (relayAll u fs (SetTable.grown fs.size)).2.2
           storeSet a (relayAll u fs (SetTable.grown fs.size)).1 (relayAll u fs (SetTable.grown fs.size)).2.1
           pure (some true)
         else pure (some true)) R E s:=by
 refine wpAny_bind (wpAny_storeSet_of ho hd ?_ (fits_of_scanBound hb))
 have h1:=zqV fs u ho hd
 have sb:=Heap.SameBut.update s.heap a (Obj.putSet fs u)
 split
 . have pm:=relayAll_perm u fs (SetTable.grown fs.size)
   have fr:=relayAll_fits u fs (SetTable.grown fs.size)
   have tk:=hu.relay fs (SetTable.grown fs.size)
   generalize relayAll u fs (SetTable.grown fs.size)=Z at pm fr tk ⊢
   obtain ⟨gs,v,b⟩:=Z
   dsimp only at pm fr tk ⊢
   have hz:gs.size=fs.size:=by rw [<- Array.length_toList,pm.length_eq,Array.length_toList]
   refine wpAny_bind (hg _ _ _ ?_)
   refine wpAny_bind (wpAny_storeSet_of h1 rfl ?_ (fits_of_scanBound (by rw [hz];exact hb)))
   have h2:=zqV gs v h1 rfl
   obtain ⟨ks,k1,k2⟩:=zpf (pm.map (·.2)) hI
   exact wpAny_pure (h _ (sb.trans (Heap.SameBut.update _ a _)) ⟨_,gs,_,v,h2,hex,rfl,hel.perm pm,by rw [hz];exact hb,fr,tk,ks,k1,k2.trans hp⟩)
 . exact wpAny_pure (h _ sb ⟨_,fs,_,u,h1,hex,rfl,hel,hb,hf,hu,ms,hI,hp⟩)
theorem zCP {k:Int}{tk:Tok}{Q:Bool->Shared->Prop} (S:zcJ P w L s.heap a ns) (room:ns.length+1 < scanBound) (h:∀ b h',Heap.SameBut a s.heap h'->zcJ P w L h' a (step_dedup ns k)->Q b { s with heap:=h' }) :
   wpAny (model P w) A (setAddHashed a (.int k tk) ((intKind P w).hash k)) Q E s:=by
 obtain ⟨o,es,ep,t,ho,hex,hd,hel,hb,hf,hT,ms,hI,hp⟩:=S
 have hsz:es.size=ns.length:=by rw [<- hp.length_eq,<- hI.length,List.length_map,Array.length_toList]
 have hk:(intKind P w).is k (Value.int k tk)=true:=intKind_is _ _ _ _
 have hs:(Value.int k tk).scannable=true:=rfl
 have hany:(ns.any (· == k))=decide (k∈ms):=by
   rw [Bool.eq_iff_iff,decide_eq_true_eq,hp.mem_iff];simp
 unfold setAddHashed setAddHashedIn
 refine wpAny_holding (wpAny_bind (wpAny_setState_of ho hd hf ?_))
 dsimp only
 rw [byScan_of hs hb hel]
 simp only [↓reduceIte]
 unfold setAddByScan
 refine wpAny_bind (wpAny_bind (wpAny_rule ?_))
 refine wpAny_bind (wpAny_setScan_of hk ho hd hf hel ?_)
 cases hr:List.findIdx? (fun e=>(intKind P w).is k e.2) es.toList with
 | some j =>
   dsimp only
   obtain ⟨hj,hpj,_⟩:=List.findIdx?_eq_some_iff_getElem.mp hr
   have hin:k∈ms:=(zsJ (P:=P) (w:=w) hI k).mp ⟨es.toList[j],List.getElem_mem hj,hpj⟩
   refine wpAny_pure (wpAny_pure ?_)
   have e:s={ s with heap:=s.heap }:=by cases s;rfl
   rw [e]
   refine h _ _ (Heap.SameBut.refl a s.heap) ?_
   unfold step_dedup
   rw [hany,if_pos (by simpa using hin)]
   exact ⟨o,es,ep,t,ho,hex,hd,hel,hb,hf,hT,ms,hI,hp⟩
 | none =>
   dsimp only
   have hout:k∉ms:=fun q=>by
     obtain ⟨e,he,z⟩:=(zsJ (P:=P) (w:=w) hI k).mpr q
     have:=List.findIdx?_eq_none_iff.mp hr e he
     rw [z]at this;cases this
   have pm:=layNew_perm t es ((intKind P w).hash k) (.int k tk)
   have fr:=layNew_fits t es ((intKind P w).hash k) (.int k tk)
   have hN:=hT.new es ((intKind P w).hash k) (.int k tk)
   generalize layNew t es ((intKind P w).hash k) (.int k tk)=Z at pm fr hN ⊢
   obtain ⟨fs,u,c,b⟩:=Z
   dsimp only at pm fr hN ⊢
   rw [Array.toList_push]at pm
   have hz:fs.size=es.size+1:=by rw [<- Array.length_toList,pm.length_eq,List.length_append,Array.length_toList];rfl
   have el:ElemsOf (intKind P w) fs.toList:=(hel.push hk hs).perm pm
   have hI1:IntsAre ((es.toList++[((intKind P w).hash k,Value.int k tk)]).map (·.2)) (ms++[k]):=by rw [List.map_append];exact zqr hI
   obtain ⟨ks,k1,k2⟩:=zpf (pm.map (·.2)) hI1
   have hperm:ks.Perm (step_dedup ns k):=by
     unfold step_dedup
     rw [hany,if_neg (by simpa using hout)]
     exact k2.trans (hp.append_right _)
   have hb1:fs.size < scanBound:=by omega
   refine wpAny_bind (zn1 _ ?_)
   split
   . refine wpAny_bind ?_
     rw [hashByValue_scannable 8 hs]
     refine wpAny_pure ?_
     refine zrB (L:=L) (ns:=step_dedup ns k) ?_ ho hex hd el hb1 ?_ ?_ k1 hperm ?_
     . intro b s₁ R hq;exact zn1 b hq
     . split
       . exact fr
       . exact SetTable.fits_plain_off fr
     . split
       . exact hN
       . exact hN.off
     . intro h' hsb hS;dsimp only;exact wpAny_pure (h _ h' hsb hS)
   . refine wpAny_bind (wpAny_pure ?_)
     simp only [↓reduceIte]
     refine zrB (L:=L) (ns:=step_dedup ns k) ?_ ho hex hd el hb1 fr hN k1 hperm ?_
     . intro b s₁ R hq;exact zn1 b hq
     . intro h' hsb hS;dsimp only;exact wpAny_pure (h _ h' hsb hS)
end
end L2
end
section
namespace L2
open PySem PySem.Spec PyProof.Rows
section
variable {P:Program}{w:World}{A:Around}{R:Result->Shared->Prop}{I:Addr}{fp wr:List Addr}{G:Array GenState->Array GenState->Prop}{n:Nat}{V:Nat->Value->Prop}{St:Nat->Shared->Prop}{L:Bool}
theorem zzK (W:WalksS P w A.in1 I fp wr G n V St) (a:Addr) (ha:a∉fp) (val:Nat->Int) (hval:∀ i v,V i v->∃ t,v = .int (val i) t) (hb:n+1 < scanBound) :
   ∀ (k i:Nat) (s:Shared),n - i=k->i<=n->St i s->zcJ P w L s.heap a (firstMet val i) ->
     (∀ s',Moved (a :: wr) G s s'->zcJ P w L s'.heap a (firstMet val n)->R (.ok (.ret .none)) s') ->
     codeAny (model P w) A (.builtin "set.update.loop" ⟨[.ref a,.ref I],[]⟩) R s:=by
 have haw:a∉wr:=fun z=>ha (W.sub _ z)
 have up:∀ b∈wr,b∈a :: wr:=fun b z=>List.mem_cons_of_mem _ z
 intro k
 induction k with
 | zero =>
   intro i s hk hi st S fin
   obtain rfl:i=n:=by omega
   refine codeAny_builtin PyProof.Rows.F.entry_set_update_loop ?_
   rw [Around.under_plainId PyProof.Rows.F.plain_set_update_loop _]
   refine wpAny_bind (m:=pyNext (.ref I)) (W.done s _ _ st fun s1 m=>?_)
   exact wpAny_pure (fin s1 (m.mono up) (S.keep fun o e=>m.heap a o haw e))
 | succ k ih =>
   intro i s hk hi st S fin
   have lt:i < n:=by omega
   refine codeAny_builtin PyProof.Rows.F.entry_set_update_loop ?_
   rw [Around.under_plainId PyProof.Rows.F.plain_set_update_loop _]
   refine wpAny_bind (m:=pyNext (.ref I)) (W.item i s _ _ lt st fun v s1 hv st1 m=>?_)
   obtain ⟨t,rfl⟩:=hval i v hv
   have S1:zcJ P w L s1.heap a (firstMet val i):=S.keep fun o e=>m.heap a o haw e
   refine wpAny_bind (m:=holding [Value.int (val i) t] (setAdd a (.int (val i) t))) (wpAny_holding ?_)
   unfold setAdd
   refine wpAny_holding (wpAny_bind ((intKind P w).pyHash (k:=val i) (intKind_is _ _ _ _) ?_))
   have room:(firstMet val i).length+1 < scanBound:=by have:=firstMet_length_le val i;omega
   refine zCP (s:={ s1 with toks:=s1.toks+1 }) S1 room fun b h' sb S2=>?_
   rw [<- firstMet_succ]at S2
   refine wpAny_pure ⟨plainId_quiet PyProof.Rows.F.plain_set_update_loop _,ih (i+1) _ (by omega) lt (W.frame _ s1 _ _ st1 (Nat.le_succ _) fun c hc o e=>?_) S2 fun s2 m2 S3=>?_⟩
   . rw [sb.2 c (fun z:c=a=>ha (by rw [<- z];exact hc))];exact e
   . refine fin s2 (Moved.trans W.gtrans ((m.mono up).then_heap (Nat.le_succ _) fun c o hc e=>?_) m2) S3
     rw [sb.2 c (fun z:c=a=>hc (by rw [z];exact List.mem_cons_self))];exact e
end
section
variable {P:Program}{w:World}{A:Around}{E:Value->Shared->Prop}{s:Shared}
def zcz (w:World):Bool:=!(w.params.followText "set-order")
theorem zCD (a:Value) {Q:Value->Shared->Prop} (h:Q (.ref s.heap.objs.size) { s with heap:=s.heap.push { cls := .type "set",dict:=none,data := .set #[] 0 (.fresh 0 0 (zcz w)) } }) :
   codeAny (model P w) A (.call (.builtin "set.__new__") ⟨[.type "set",a],[]⟩) (wants Q E) s:=by
 refine codeAny_of_tree ?_
 refine wpAny_bind (m:=checkBuiltinCall "set.__new__" ⟨[.type "set",a],[]⟩) (wpAny_of_eq (PySem.F.newCall_set_1 a) ?_)
 refine wpAny_pure ⟨plainId_quiet PySem.F.plain_set_new _,codeAny_builtin PySem.F.entry_set_new ?_⟩
 rw [Around.under_plainId PySem.F.plain_set_new _]
 unfold Builtin.«set.__new__» Builtin.Frozenset.newClass
 have hsub:=sub_set_self
 obtain ⟨hp,g,d,tk,os⟩:=s
 dsimp only
 wp_walk
 refine wpAny_askSetting (wpAny_pure ?_)
 dsimp only
 simp only [newObj]
 exact wpAny_bind (wpAny_alloc (wpAny_pure (wpAny_pure h)))
theorem zA6 {h:Heap}{a:Addr}{L b:Bool} (hb:L=true->b=true) (e:h.get? a=some { cls := .type "set",dict:=none,data := .set #[] 0 (.fresh 0 0 b) }):zcJ P w L h a [] :=
 ⟨_,#[],0,_,e,⟨rfl,rfl,rfl⟩,rfl,fun x hx=>by simp at hx,by decide,by rfl,⟨hb,.nil⟩,[],.nil,.nil⟩
set_option maxHeartbeats 3200000 in
theorem zzi {l:Addr}{items:Array Value}{ns:List Int}{Q:Value->Shared->Prop} (hh:A.handled=none) (hl:s.heap.IsList l items) (hi:IntsAre items.toList ns) (hb:items.size+1 < scanBound)
   (h:∀ (h':Heap) (tk:Nat),zcJ P w (zcz w) h' s.heap.objs.size (firstMet (fun i=>ns.getD i 0) items.size)->(∀ b o,b < s.heap.objs.size->s.heap.get? b=some o->h'.get? b=some o)->Q (.ref s.heap.objs.size) { s with heap:=h',toks:=tk }) :
   wpAny (model P w) A (call (.type "set") [.ref l]) Q E s:=by
 obtain ⟨c,tl,hmro⟩:=PySem.F.called_set.mro
 have z1:=PySem.F.called_set.made
 have z2:=PySem.F.called_set.sub
 refine wpAny_call (codeAny_of_tree ?_)
 show wpAny (model P w) _ (callAny (.type "set") _) _ _ s
 refine wpAny_pure ⟨Code.quiet_builtin _ (by decide +kernel),codeAny_builtin PySem.F.entry_type_call ?_⟩
 rw [Around.under_plain (weight_type_call_type "set" [.ref l] []) rfl]
 have z3:=PySem.F.called_set.notType
 have z4:=PySem.F.called_set.canCreate
 have z5:=PySem.F.typeCall_set_1 (.ref l)
 repeat (any_goals (first | assumption | wp_step))
 refine codeAny_mono (zCD (.ref l) (E:=E) (Q:=fun v s1=>v = .ref s.heap.objs.size∧s1={ s with heap:=s.heap.push { cls := .type "set",dict:=none,data := .set #[] 0 (.fresh 0 0 (zcz w)) } }) ⟨rfl,rfl⟩) fun r s1 hr=>?_
 cases r with
 | error e=>exact hr
 | ok fl =>
   cases fl with
   | ret v =>
     obtain ⟨rfl,rfl⟩:=hr
     have hS:(s.heap.push { cls := .type "set",dict:=none,data := .set #[] 0 (.fresh 0 0 (zcz w)) }).get? s.heap.objs.size=some { cls := .type "set",dict:=none,data := .set #[] 0 (.fresh 0 0 (zcz w)) }:=Heap.get?_push_size _ rfl
     have hT:Shared.TypeIs { s with heap:=s.heap.push { cls := .type "set",dict:=none,data := .set #[] 0 (.fresh 0 0 (zcz w)) } } (.ref s.heap.objs.size) "set":=⟨_,hS,rfl⟩
     have y1:=PySem.F.called_set.init.lookup
     have y2:=PySem.F.called_set.init.bind (.ref s.heap.objs.size)
     repeat (any_goals (first | assumption | wp_step))
     refine codeAny_mono (codeAny_call_builtin (R:=wants (fun r s2=>r = .none∧∃ h' tk,s2={ s with heap:=h',toks:=tk }∧zcJ P w (zcz w) h' s.heap.objs.size (firstMet (fun i=>ns.getD i 0) items.size) ∧
         (∀ b o,b < s.heap.objs.size->s.heap.get? b=some o->h'.get? b=some o)) E) PySem.F.called_set.init.plain PySem.F.entry_set_init (check_set_init_1 hT ?_)) fun r2 s2 hr2=>?_
     . obtain ⟨ol,hol,hcl,nl,hdl⟩:=hl
       obtain ⟨oc,od,oa,osl⟩:=ol
       simp only at hcl hdl
       subst hcl;subst hdl
       have x1:(s.heap.push { cls := .type "set",dict:=none,data := .set #[] 0 (.fresh 0 0 (zcz w)) }).get? l=some { cls := .type "list",dict:=od,data := .seq items nl,slots:=osl }:=Heap.get?_push_of_some _ hol
       have x2:=PySem.F.sub_list_set
       have x3:=PySem.F.sub_list_frozenset
       have x4:(Value.type "list" == Value.type "dict")=false:=by decide
       have x5:(s.heap.push { cls := .type "set",dict:=none,data := .set #[] 0 (.fresh 0 0 (zcz w)) }).IsList l items:=⟨_,x1,rfl,nl,rfl⟩
       unfold Builtin.«set.__init__» noKeywords Builtin.Frozenset.updateFrom
       generalize hPI:pyIter=PI
       wp_walk
       subst hPI
       refine wpAny_pyIter_list x5 (wpAny_bind (wpAny_runValue ?_))
       have x6:l < s.heap.objs.size:=Heap.lt_size hol
       have x7:A.in1.in1.in1.handled=none:=by simp [hh]
       have x8:l≠(s.heap.push { cls := .type "set",dict:=none,data := .set #[] 0 (.fresh 0 0 (zcz w)) }).objs.size:=by
         rw [Heap.size_push];exact Nat.ne_of_lt (Nat.lt_succ_of_lt x6)
       have x9:s.heap.objs.size∉[(s.heap.push { cls := .type "set",dict:=none,data := .set #[] 0 (.fresh 0 0 (zcz w)) }).objs.size,l]:=by
         rw [Heap.size_push]
         intro z
         rcases List.mem_cons.mp z with z | z
         . omega
         . exact Nat.ne_of_gt x6 (List.mem_singleton.mp z)
       refine zzK (L:=zcz w) ((Walks.list x7 _ l x8 items).toS) s.heap.objs.size x9 (fun i=>ns.getD i 0) (fun i v hv=>IntsAre.int_at hi i v (by rw [Array.getElem?_toList];exact hv)) hb (items.size - 0) 0 _ (by omega) (Nat.zero_le _)
         ⟨⟨_,Heap.get?_push_size _ rfl,rfl,rfl⟩,(x5.push _)⟩ (zA6 (fun q=>q) (Heap.get?_push_of_some _ hS)) ?_
       intro s3 m S3
       obtain ⟨h3,g3,d3,t3,o3⟩:=s3
       obtain rfl:g3=s.gens:=m.gens
       obtain rfl:d3=s.drawn:=m.drawn
       obtain rfl:o3=s.os:=m.os
       refine wpAny_pure (wpAny_pure ⟨rfl,h3,t3,rfl,S3,fun b o hb e=>?_⟩)
       refine m.heap b o (fun z=>?_) (Heap.get?_push_of_some _ (Heap.get?_push_of_some _ e))
       rw [Heap.size_push]at z
       rcases List.mem_cons.mp z with z | z
       . exact Nat.ne_of_lt hb z
       . exact Nat.ne_of_lt (Nat.lt_succ_of_lt hb) (List.mem_singleton.mp z)
     . cases r2 with
       | error e=>exact hr2
       | ok f2 =>
         cases f2 with
         | ret r =>
           obtain ⟨rfl,h',tk,rfl,S',k'⟩:=hr2
           repeat (any_goals (first | assumption | wp_step))
           exact h _ _ S' k'
         | _=>exact hr2.elim
   | _=>exact hr.elim
end
end L2
end
section
namespace L2
open PySem PySem.Spec PyProof.Rows
theorem zel:Slot "set_iterator" "__next__" "set_iterator.__next__" :=
 .of (owner :="set_iterator") (n :="__next__") (by rw [typeLookup_type,builtinLookup_eq_fast];kernel_rfl) (by decide +kernel) (by decide +kernel) (by decide +kernel) (by first | exact .inl (by decide +kernel) | exact .inr (by decide +kernel)) (by rw [isSubtype_type];kernel_rfl)
theorem zih:entryFor table "set_iterator.__next__" = some Builtin.«set_iterator.__next__»:=entryFor_of_tree (by kernel_rfl)
theorem zhS (a:Value):argsOk "set_iterator.__next__" ⟨[a],[]⟩:=by unfold argsOk;kernel_rfl
theorem zCu:entryFor table "set.__iter__" = some Builtin.«frozenset.__iter__» :=
 entryFor_alias (id' :="frozenset.__iter__") (by kernel_rfl) rfl (by decide +kernel) (by kernel_rfl)
theorem zqX {α:Type} (l:List α) (i:Nat) (hi:i < l.length):(l[i] :: l.eraseIdx i).Perm l:=by
 rw [List.eraseIdx_eq_take_drop_succ]
 have e:l=l.take i++l[i] :: l.drop (i+1):=by rw [<- List.drop_eq_getElem_cons hi,List.take_append_drop]
 exact (List.perm_middle.symm).trans (by rw [<- e])
section
variable {M:Model}{A:Around}{E:Value->Shared->Prop}{s:Shared}
theorem zBd {src:Source}{n:Nat}{Q:Nat->Shared->Prop} (h0:0 < n) (h:∀ i,i < n->Q i { s with drawn:=s.drawn.bump src }):wpAny M A (choose src n) Q E s:=fun Γ p hΓ=>by
 unfold choose
 rw [Sem.wp_choose]
 exact ⟨by omega,h _ (Nat.mod_lt _ h0)⟩
theorem zrz {α:Type}:∀ (n:Nat) (xs:List α) {s:Shared}{Q:List α->Shared->Prop},xs.length=n->(∀ ys d,ys.Perm xs->Q ys { s with drawn:=d })->wpAny M A (drawOrder n xs) Q E s
 | 0,[],s,Q,hl,h=>by
   unfold drawOrder
   exact wpAny_pure (h [] s.drawn .nil)
 | n+1,[],s,Q,hl,h=>by cases hl
 | n+1,x :: xs,s,Q,hl,h=>by
   unfold drawOrder
   refine wpAny_bind (zBd (by simp) fun i hi=>?_)
   have ei:(x :: xs)[i]?=some ((x :: xs)[i]):=List.getElem?_eq_getElem hi
   rw [ei]
   dsimp only
   refine wpAny_bind (zrz n _ (by rw [List.length_eraseIdx_of_lt hi];omega) fun ys d hp=>?_)
   refine wpAny_pure (h _ d ?_)
   exact (hp.cons _).trans (zqX _ i hi)
end
end L2
end
section
namespace L2
open PySem PySem.Spec PyProof.Rows
def zde (h:Heap) (it a:Addr) (first:Value) (i n ep:Nat):Prop:=∃ o,h.get? it=some o∧o.cls = .type "set_iterator" ∧ o.data = .fields #[first,.int i 0,.ref a,.int n 0,.int ep 0]
def zbW (h:Heap) (a:Addr) (es:Array (Int×Value)) (ep:Nat) (t:SetTable):Prop:=∃ o,h.get? a=some o∧o.cls = .type "set" ∧ o.data = .set es ep t∧t.fits es.size=true
theorem zde.keep {h h':Heap}{it a:Addr}{first:Value}{i n ep:Nat} (x:zde h it a first i n ep) (k:∀ o,h.get? it=some o->h'.get? it=some o):zde h' it a first i n ep:=let ⟨o,e,r⟩:=x;⟨o,k o e,r⟩
theorem zbW.keep {h h':Heap}{a:Addr}{es:Array (Int×Value)}{ep:Nat}{t:SetTable} (x:zbW h a es ep t) (k:∀ o,h.get? a=some o->h'.get? a=some o):zbW h' a es ep t:=let ⟨o,e,r⟩:=x;⟨o,k o e,r⟩
section
variable {P:Program}{w:World}{A:Around}{E:Value->Shared->Prop}{s:Shared}{it a T:Addr}{es:Array (Int×Value)}{ep i slot nx:Nat}{t:SetTable}{x:Value}{Q:Option Value->Shared->Prop}
theorem zde.typeIs {first:Value}{n:Nat} (h:zde s.heap it a first i n ep):s.TypeIs (.ref it) "set_iterator":=let ⟨o,e,c,_⟩:=h;⟨o,e,c⟩
theorem zAN (hit:zde s.heap it a (.int slot 0) i es.size ep) (hs:zbW s.heap a es ep t) (hn:∀ (R:Option (Value×Nat)->Shared->Prop) E,R (some (x,nx)) s->wpAny (model P w) A.in1 (setNext a slot i ep) R E s)
   (hQ:∀ h',zde h' it a (.int nx 0) (i+1) es.size ep->Heap.SameBut it s.heap h'->Q (some x) { s with heap:=h' }):wpAny (model P w) A (pyNext (.ref it)) Q E s:=by
 obtain ⟨o,ho,hc,hd⟩:=id hit
 obtain ⟨oa,hoa,hca,hda,hf⟩:=id hs
 unfold pyNext
 refine wpAny_bind (wpAny_attempt (wpAny_callSpecial?_slot (name:=Str.ofString "__next__") hit.typeIs zel (wpAny_call_entry zel hit.typeIs zih ?_ (zhS _))))
 unfold Builtin.«set_iterator.__next__»
 refine wpAny_bind (m:=slotArgs "__next__" 0 _) (wpAny_pure ?_)
 refine wpAny_bind (wpAny_fieldsOf ho hd ?_)
 try dsimp only
 refine wpAny_bind (wpAny_setEntries_of hoa hda hf ?_)
 rw [if_neg (by simp)]
 try dsimp only
 refine wpAny_bind (hn _ _ ?_)
 try dsimp only
 refine wpAny_bind (wpAny_setField ho hd (by simp) ?_)
 have g1:=Heap.get?_update_self (Obj.mapFields (·.setIfInBounds 0 (rawInt nx))) ho (Obj.isFreed_of_fields (Obj.data_mapFields hd _))
 have d1:=Obj.data_mapFields hd (·.setIfInBounds 0 (rawInt nx))
 refine wpAny_bind (wpAny_setField g1 d1 (by simp) ?_)
 have g2:=Heap.get?_update_self (Obj.mapFields (·.setIfInBounds 1 (rawInt ((i:Int)+1)))) g1 (Obj.isFreed_of_fields (Obj.data_mapFields d1 _))
 have d2:=Obj.data_mapFields d1 (·.setIfInBounds 1 (rawInt ((i:Int)+1)))
 refine wpAny_pure ⟨x,rfl,wpAny_pure (hQ _ ⟨_,g2,?_,?_⟩ ((Heap.SameBut.update ..).trans (Heap.SameBut.update ..)))⟩
 . rw [Obj.cls_mapFields,Obj.cls_mapFields];exact hc
 . rw [d2];simp [rawInt]
theorem zrg (hh:A.handled=none) {first:Value}{o:Obj}{vs:Array Value} (ho:s.heap.get? it=some o) (hd:o.data = .fields vs) (hv:vs.size=5) {R:Value->Shared->Prop}{h1:Heap} (h1e:Heap.ExtBut it s.heap h1)
   (hR:∀ e h',Shared.TypeIs { s with heap:=h' } e "StopIteration" -> Heap.ExtBut it s.heap h'->R e { s with heap:=h' }) :
   wpAny (model P w) A.in1 (do raiseNew (<- newExc (.type "StopIteration") []):Sem Fin) (fun _ _=>False) R { s with heap:=h1 }:=by
 refine wpAny_bind ?_
 simp only [newExc,newTuple]
 refine wpAny_bind (wpAny_newObj_type ?_ (by size_fits))
 refine wpAny_bind (m:=firstArgMember _ _) (wpAny_of_eq (a:=Value.none) (by first | rfl | (simp only [firstArgMember];rfl)) ?_)
 refine wpAny_newObj_type ?_ (by size_fits)
 simp only [raiseNew]
 refine wpAny_bind (wpAny_handled ?_)
 rw [show A.in1.handled=none by exact hh]
 refine wpAny_bind (wpAny_pure (wpAny_throw ?_))
 exact hR _ _ ⟨_,Heap.get?_push_size _ rfl,rfl⟩ ((h1e.push _).push _)
theorem zCr (hh:A.handled=none) (hit:zde s.heap it a (.int slot 0) i es.size ep) (hs:zbW s.heap a es ep t) (hn:∀ (R:Option (Value×Nat)->Shared->Prop) E,R none s->wpAny (model P w) A.in1 (setNext a slot i ep) R E s)
   (hQ:∀ h',Heap.ExtBut it s.heap h'->Q none { s with heap:=h' }):wpAny (model P w) A (pyNext (.ref it)) Q E s:=by
 obtain ⟨o,ho,hc,hd⟩:=id hit
 obtain ⟨oa,hoa,hca,hda,hf⟩:=id hs
 unfold pyNext
 refine wpAny_bind (wpAny_attempt (wpAny_callSpecial?_slot (name:=Str.ofString "__next__") hit.typeIs zel (wpAny_call_entry zel hit.typeIs zih ?_ (zhS _))))
 unfold Builtin.«set_iterator.__next__»
 refine wpAny_bind (m:=slotArgs "__next__" 0 _) (wpAny_pure ?_)
 refine wpAny_bind (wpAny_fieldsOf ho hd ?_)
 try dsimp only
 refine wpAny_bind (wpAny_setEntries_of hoa hda hf ?_)
 rw [if_neg (by simp)]
 try dsimp only
 refine wpAny_bind (hn _ _ ?_)
 try dsimp only
 refine wpAny_bind (wpAny_setField ho hd (by simp) ?_)
 refine wpAny_mono (zrg hh (first := .none) ho hd rfl (Heap.SameBut.update ..).extBut (R:=_) fun e h' te ex=>?_) (fun _ _ z=>z.elim) fun _ _ z=>z
 exact wpAny_bind (wpAny_isInstance te isSubtype_stop (wpAny_pure (hQ h' ex)))
end
end L2
end
section
namespace L2
open PySem PySem.Spec PyProof.Rows
theorem zrS {α:Type} (next:Nat->Nat):∀ (fuel k:Nat) (left:List α) (out:Array α),left.length=fuel->∃ l,l.Perm left∧(pickOrder.go next fuel k left out).toList=out.toList++l
 | 0,k,[],out,h=>⟨[],.nil,by unfold pickOrder.go;simp⟩
 | 0,k,_ :: _,out,h=>by cases h
 | fuel+1,k,left,out,h=>by
   unfold pickOrder.go
   have hi:next k % left.length < left.length:=Nat.mod_lt _ (by omega)
   rw [List.getElem?_eq_getElem hi]
   dsimp only
   obtain ⟨l,h1,h2⟩:=zrS next fuel (k+1) (left.eraseIdx (next k % left.length)) (out.push left[next k % left.length]) (by rw [List.length_eraseIdx_of_lt hi];omega)
   refine ⟨left[next k % left.length] :: l,(h1.cons _).trans (zqX _ _ hi),?_⟩
   rw [h2,Array.toList_push,List.append_assoc]
   rfl
theorem zyX {α:Type} (next:Nat->Nat) (xs:Array α):(pickOrder next xs).toList.Perm xs.toList:=by
 obtain ⟨l,h1,h2⟩:=zrS next xs.size 0 xs.toList #[] (by simp)
 unfold pickOrder
 rw [h2]
 simpa using h1
section
variable {P:Program}{w:World}{A:Around}{s:Shared}{a:Addr}{es:Array (Int×Value)}{ep i slot:Nat}{t:SetTable}
theorem zhO {E:Value->Shared->Prop}{R:Bool->Shared->Prop} (h:R (w.params.followText "set-order") s):wpAny (model P w) A setsByText R E s:=by
 unfold setsByText
 exact wpAny_bind (wpAny_askSetting (wpAny_pure h))
theorem zzu (ht:w.params.followText "set-order" = true) (hs:zbW s.heap a es ep t):∀ (R:Option (Value×Nat)->Shared->Prop) E,R (((pickOrder (w.params.setOrder a ep) es)[i]?).map fun e=>(e.2,slot)) s->wpAny (model P w) A (setNext a slot i ep) R E s:=by
 intro R E h
 obtain ⟨oa,hoa,hca,hda,hf⟩:=hs
 unfold setNext
 refine wpAny_bind (wpAny_setState_of hoa hda hf ?_)
 dsimp only
 refine wpAny_bind (zhO ?_)
 rw [ht,if_pos rfl,if_neg (by simp)]
 refine wpAny_bind ?_
 unfold setWalk
 refine wpAny_bind (wpAny_setState_of hoa hda hf ?_)
 dsimp only
 refine wpAny_bind (zhO ?_)
 rw [ht,if_pos rfl]
 exact wpAny_bind (wpAny_askSetting (wpAny_pure (wpAny_pure h)))
theorem zBh (ht:w.params.followText "set-order" = false) (hp:t.plain=true∨es.size<=1) (hl:t.led=true) (hs:zbW s.heap a es ep t):∀ (R:Option (Value×Nat)->Shared->Prop) E,
   R (match es[SetTable.below t.place slot]?,t.place[SetTable.below t.place slot]? with | some (_,x),some j=>some (x,j+1) | _,_=>none) s->wpAny (model P w) A (setNext a slot i ep) R E s:=by
 intro R E h
 obtain ⟨oa,hoa,hca,hda,hf⟩:=hs
 unfold setNext
 refine wpAny_bind (wpAny_setState_of hoa hda hf ?_)
 dsimp only
 refine wpAny_bind (zhO ?_)
 rw [ht,if_neg (by simp)]
 split
 . rename_i hc
   have hc:(!t.plain && decide (es.size > 1))=true:=hc
   rcases hp with q | q
   . rw [q]at hc;cases hc
   . rw [decide_eq_false (by omega)]at hc;simp at hc
 . refine wpAny_bind ?_
   show wpAny _ _ (if (!t.led && !es.isEmpty)=true then unsupported "set:maker-not-led" else pure ()) _ _ _
   rw [hl,if_neg (by simp)]
   exact wpAny_pure (wpAny_pure h)
def zfF (t:SetTable) (i:Nat):Nat:=if i=0 then 0 else t.place.getD (i - 1) 0+1
theorem zA8 (h:zci t.place) (hi:i<=t.place.size):SetTable.below t.place (zfF t i)=i:=by
 obtain ⟨h1,h2,h3⟩:=zo8 (j:=zfF t i) h
 unfold zfF at *
 by_cases c:i=0
 . subst c
   rw [if_pos rfl]at *
   by_cases d:SetTable.below t.place 0=0
   . exact d
   . have hz:0 < t.place.size:=by omega
     have:=h2 0 _ (by omega) (Array.getElem?_eq_getElem hz)
     omega
 . rw [if_neg c]at *
   have hz:i - 1 < t.place.size:=by omega
   have e1:t.place[i - 1]?=some t.place[i - 1]:=Array.getElem?_eq_getElem hz
   have e2:t.place.getD (i - 1) 0=t.place[i - 1]:=by simp [Array.getD,hz]
   rw [e2]at h1 h2 h3 ⊢
   rcases Nat.lt_trichotomy (SetTable.below t.place (t.place[i - 1]+1)) i with q | q | q
   . exfalso
     have hb:SetTable.below t.place (t.place[i - 1]+1) < t.place.size:=by omega
     have e3:=Array.getElem?_eq_getElem hb
     have z:=h3 _ _ (Nat.le_refl _) e3
     by_cases d:SetTable.below t.place (t.place[i - 1]+1)=i - 1
     . simp only [d]at z;omega
     . have:=h.lt e3 e1 (by omega)
       omega
   . exact q
   . exfalso
     have hb:i < t.place.size:=by omega
     have e3:t.place[i]?=some t.place[i]:=Array.getElem?_eq_getElem hb
     have z:=h2 _ _ q e3
     have:=h.lt e1 e3 (by omega)
     omega
theorem zAs (ht:w.params.followText "set-order" = false) (hp:t.plain=true∨es.size<=1) (k:zcr (zcz w) t) (hs:zbW s.heap a es ep t) (hi:i<=es.size):∀ (R:Option (Value×Nat)->Shared->Prop) E,
   R (es[i]?.map fun e=>(e.2,zfF t (i+1))) s->wpAny (model P w) A (setNext a (zfF t i) i ep) R E s:=by
 intro R E h
 have hl:t.led=true:=k.led (by unfold zcz;rw [ht];rfl)
 have hsz:t.place.size=es.size:=by
   obtain ⟨_,_,_,_,hf⟩:=hs
   simp only [SetTable.fits,Bool.and_eq_true,beq_iff_eq]at hf
   exact hf.1
 refine zBh ht hp hl hs R E ?_
 rw [zA8 k.rise (by omega)]
 by_cases c:i < es.size
 . have c2:i < t.place.size:=by omega
   rw [Array.getElem?_eq_getElem c]at h ⊢
   rw [Array.getElem?_eq_getElem c2]
   have e:zfF t (i+1)=t.place[i]+1:=by unfold zfF;simp [Array.getD,c2]
   rw [e]at h
   exact h
 . rw [Array.getElem?_eq_none (by omega)]at h ⊢
   exact h
end
end L2
end
section
namespace L2
open PySem PySem.Spec PyProof.Rows
theorem zri:Slot "set_iterator" "__iter__" "set_iterator.__iter__" :=
 .of (owner :="set_iterator") (n :="__iter__") (by rw [typeLookup_type,builtinLookup_eq_fast];kernel_rfl) (by decide +kernel) (by decide +kernel) (by decide +kernel) (by first | exact .inl (by decide +kernel) | exact .inr (by decide +kernel)) (by rw [isSubtype_type];kernel_rfl)
theorem zyU:entryFor table "set_iterator.__iter__" = some Builtin.«dict_keyiterator.__iter__» :=
 entryFor_alias (id' :="dict_keyiterator.__iter__") (by kernel_rfl) rfl (by decide +kernel) (by kernel_rfl)
theorem zBU (a:Value):argsOk "set_iterator.__iter__" ⟨[a],[]⟩:=by unfold argsOk;kernel_rfl
def zoP (h:Heap) (T:Addr) (ys:List Nat):Prop:=∃ o n,h.get? T=some o∧o.data = .seq (ys.map fun (k:Nat)=>Value.int k 0).toArray n
section
variable {P:Program}{w:World}{A:Around}{E:Value->Shared->Prop}{s:Shared}{it a T:Addr}{es:Array (Int×Value)}{ep i k:Nat}{t:SetTable}{x:Int×Value}{ys:List Nat}{Q:Option Value->Shared->Prop}
theorem zx2 (hit:zde s.heap it a (.ref T) i es.size ep) (hs:zbW s.heap a es ep t) (hT:zoP s.heap T ys) (hy:ys[i]?=some k) (hx:es[k]?=some x)
   (hQ:∀ h',zde h' it a (.ref T) (i+1) es.size ep->Heap.SameBut it s.heap h'->Q (some x.2) { s with heap:=h' }):wpAny (model P w) A (pyNext (.ref it)) Q E s:=by
 obtain ⟨o,ho,hc,hd⟩:=id hit
 obtain ⟨oa,hoa,hca,hda,hf⟩:=id hs
 obtain ⟨oT,nT,hoT,hdT⟩:=hT
 unfold pyNext
 refine wpAny_bind (wpAny_attempt (wpAny_callSpecial?_slot (name:=Str.ofString "__next__") hit.typeIs zel (wpAny_call_entry zel hit.typeIs zih ?_ (zhS _))))
 unfold Builtin.«set_iterator.__next__»
 refine wpAny_bind (m:=slotArgs "__next__" 0 _) (wpAny_pure ?_)
 refine wpAny_bind (wpAny_fieldsOf ho hd ?_)
 dsimp only
 refine wpAny_bind (wpAny_setEntries_of hoa hda hf ?_)
 rw [if_neg (by simp)]
 try dsimp only
 refine wpAny_bind (wpAny_seqItems hoT hdT ?_)
 dsimp only
 have e1:((ys.map fun (k:Nat)=>Value.int k 0).toArray)[(i:Int).toNat]?=some (.int k 0):=by simp [hy]
 rw [e1]
 dsimp only
 refine wpAny_bind ?_
 unfold setNextDrawn
 refine wpAny_bind (wpAny_setState_of hoa hda hf ?_)
 dsimp only
 rw [if_neg (by simp)]
 have e2:es[(k:Int).toNat]?=some x:=by simpa using hx
 rw [e2]
 refine wpAny_pure ?_
 refine wpAny_bind (wpAny_setField ho hd (by simp) ?_)
 have g1:=Heap.get?_update_self (Obj.mapFields (·.setIfInBounds 1 (rawInt ((i:Int)+1)))) ho (Obj.isFreed_of_fields (Obj.data_mapFields hd _))
 have d1:=Obj.data_mapFields hd (·.setIfInBounds 1 (rawInt ((i:Int)+1)))
 refine wpAny_pure ⟨x.2,rfl,wpAny_pure (hQ _ ⟨_,g1,?_,?_⟩ (Heap.SameBut.update ..))⟩
 . rw [Obj.cls_mapFields];exact hc
 . rw [d1];simp [rawInt]
theorem zzQ (hh:A.handled=none) (hit:zde s.heap it a (.ref T) i es.size ep) (hs:zbW s.heap a es ep t) (hT:zoP s.heap T ys) (hy:ys[i]?=none)
   (hQ:∀ h',Heap.ExtBut it s.heap h'->Q none { s with heap:=h' }):wpAny (model P w) A (pyNext (.ref it)) Q E s:=by
 obtain ⟨o,ho,hc,hd⟩:=id hit
 obtain ⟨oa,hoa,hca,hda,hf⟩:=id hs
 obtain ⟨oT,nT,hoT,hdT⟩:=hT
 unfold pyNext
 refine wpAny_bind (wpAny_attempt (wpAny_callSpecial?_slot (name:=Str.ofString "__next__") hit.typeIs zel (wpAny_call_entry zel hit.typeIs zih ?_ (zhS _))))
 unfold Builtin.«set_iterator.__next__»
 refine wpAny_bind (m:=slotArgs "__next__" 0 _) (wpAny_pure ?_)
 refine wpAny_bind (wpAny_fieldsOf ho hd ?_)
 dsimp only
 refine wpAny_bind (wpAny_setEntries_of hoa hda hf ?_)
 rw [if_neg (by simp)]
 try dsimp only
 refine wpAny_bind (wpAny_seqItems hoT hdT ?_)
 dsimp only
 have e1:((ys.map fun (k:Nat)=>Value.int k 0).toArray)[(i:Int).toNat]?=none:=by simpa using hy
 rw [e1]
 dsimp only
 refine wpAny_bind (wpAny_setField ho hd (by simp) ?_)
 have g1:=Heap.get?_update_self (Obj.mapFields (·.setIfInBounds 0 (rawInt 0))) ho (Obj.isFreed_of_fields (Obj.data_mapFields hd _))
 have d1:=Obj.data_mapFields hd (·.setIfInBounds 0 (rawInt 0))
 refine wpAny_bind (wpAny_setField g1 d1 (by simp) ?_)
 refine wpAny_mono (zrg hh (first := .none) ho hd rfl ((Heap.SameBut.update ..).trans (Heap.SameBut.update ..)).extBut (R:=_) fun e h' te ex=>?_) (fun _ _ z=>z.elim) fun _ _ z=>z
 exact wpAny_bind (wpAny_isInstance te isSubtype_stop (wpAny_pure (hQ h' ex)))
end
theorem zrq {P:Program}{w:World}{A:Around}{E:Value->Shared->Prop}{s:Shared}{it a:Addr}{first:Value}{i n ep:Nat}{Q:Value->Shared->Prop} (hit:zde s.heap it a first i n ep) (h:Q (.ref it) s):wpAny (model P w) A (pyIter (.ref it)) Q E s:=by
 refine wpAny_pyIter_slot hit.typeIs zri (wpAny_call_entry zri hit.typeIs zyU ?_ (zBU _))
 show wpAny (model P w) _ (ret (.ref it)) _ _ s
 exact wpAny_pure ⟨_,rfl, "set_iterator",_,hit.typeIs,zel.lookup,h⟩
abbrev Gq:Array GenState->Array GenState->Prop:=fun g g'=>g'=g
theorem zhM {it:Addr}{s:Shared}{h':Heap} (k:Heap.ExtBut it s.heap h'):Moved [it] Gq s { s with heap:=h' } :=
 ⟨fun b o hb e=>k b o (fun z=>hb (by simp [z])) e,rfl,rfl,rfl,Nat.le_refl _⟩
theorem zAF {P:Program}{w:World}{A:Around} (hh:A.handled=none) {it a:Addr} (ne:a≠it) {es:Array (Int×Value)}{ep:Nat}{t:SetTable}{ord:List (Int×Value)} (hl:ord.length=es.size) (sl:Nat->Nat)
   (hn:∀ (B:Around) (s:Shared) (i:Nat),i<=es.size->zbW s.heap a es ep t->∀ (R:Option (Value×Nat)->Shared->Prop) E,R (ord[i]?.map fun e=>(e.2,sl (i+1))) s->wpAny (model P w) B (setNext a (sl i) i ep) R E s) :
   WalksS P w A it [it,a] [it] Gq es.size (fun i v=>∃ e,ord[i]?=some e∧v=e.2) (fun i s=>zde s.heap it a (.int (sl i) 0) i es.size ep∧zbW s.heap a es ep t) where
 sub:=fun b hb=>by simp at hb;simp [hb]
 grefl:=fun _=>rfl
 gtrans:=fun _ _ _ x y=>y.trans x
 frame:=fun i s h' tk st _ hk=>⟨st.1.keep fun o e=>hk it (by simp) o e,st.2.keep fun o e=>hk a (by simp) o e⟩
 item:=fun i s Q E hi st hQ=>by
   have e:ord[i]?=some ord[i]:=List.getElem?_eq_getElem (by omega)
   refine zAN (x:=ord[i].2) (nx:=sl (i+1)) st.1 st.2 (fun R E h=>hn _ s i (by omega) st.2 R E (by rw [e];exact h)) fun h' k1 k2=>?_
   exact hQ _ _ ⟨_,e,rfl⟩ ⟨k1,st.2.keep fun o z=>k2.extBut a o ne z⟩ (zhM k2.extBut)
 done:=fun s Q E st hQ=>zCr hh st.1 st.2 (fun R E h=>hn _ s _ (Nat.le_refl _) st.2 R E (by rw [List.getElem?_eq_none (by omega)];exact h)) fun h' k=>hQ _ (zhM k)
 self:=fun i s Q E st h=>zrq st.1 h
theorem zqI {es:Array (Int×Value)}:∀ (ys:List Nat) (i:Nat),(∀ k∈ys,k < es.size)->(ys.filterMap (es[·]?))[i]?=(ys[i]?).bind (es[·]?)
 | [],i,_=>by simp
 | y :: ys,i,h=>by
   have hy:=h y List.mem_cons_self
   rw [List.filterMap_cons_some (b:=es[y]) (Array.getElem?_eq_getElem hy)]
   cases i with
   | zero=>simp [hy]
   | succ i=>simpa using zqI ys i fun k hk=>h k (List.mem_cons_of_mem _ hk)
theorem zzl {P:Program}{w:World}{A:Around} (hh:A.handled=none) {it a T:Addr} (ne:a≠it) (nT:T≠it) {es:Array (Int×Value)}{ep:Nat}{t:SetTable}{ys:List Nat} (hp:ys.Perm (List.range es.size)) :
   WalksS P w A it [it,a,T] [it] Gq es.size (fun i v=>∃ e,(ys.filterMap (es[·]?))[i]?=some e∧v=e.2) (fun i s=>zde s.heap it a (.ref T) i es.size ep∧zbW s.heap a es ep t∧zoP s.heap T ys) where
 sub:=fun b hb=>by simp at hb;simp [hb]
 grefl:=fun _=>rfl
 gtrans:=fun _ _ _ x y=>y.trans x
 frame:=fun i s h' tk st _ hk=>⟨st.1.keep fun o e=>hk it (by simp) o e,st.2.1.keep fun o e=>hk a (by simp) o e,by
   obtain ⟨o,n,e,d⟩:=st.2.2
   exact ⟨o,n,hk T (by simp) o e,d⟩⟩
 item:=fun i s Q E hi st hQ=>by
   have hl:ys.length=es.size:=by rw [hp.length_eq,List.length_range]
   have e:ys[i]?=some ys[i]:=List.getElem?_eq_getElem (by omega)
   have hm:ys[i] < es.size:=List.mem_range.mp (hp.mem_iff.mp (List.getElem_mem _))
   have e2:es[ys[i]]?=some es[ys[i]]:=Array.getElem?_eq_getElem hm
   have e3:(ys.filterMap (es[·]?))[i]?=some es[ys[i]]:=by
     rw [zqI ys i fun k hk=>List.mem_range.mp (hp.mem_iff.mp hk),e]
     exact e2
   refine zx2 st.1 st.2.1 st.2.2 e e2 fun h' k1 k2=>?_
   refine hQ _ _ ⟨_,e3,rfl⟩ ⟨k1,st.2.1.keep fun o z=>k2.extBut a o ne z,?_⟩ (zhM k2.extBut)
   obtain ⟨o,n,q,d⟩:=st.2.2
   exact ⟨o,n,k2.extBut T o nT q,d⟩
 done:=fun s Q E st hQ=>zzQ hh st.1 st.2.1 st.2.2 (List.getElem?_eq_none (by rw [hp.length_eq,List.length_range];exact Nat.le_refl _)) fun h' k=>hQ _ (zhM k)
 self:=fun i s Q E st h=>zrq st.1 h
end L2
end
section
namespace L2
open PySem PySem.Spec PyProof.Rows
section
variable {P:Program}{w:World}{A:Around}{E:Value->Shared->Prop}{s:Shared}{a:Addr}{es:Array (Int×Value)}{ep:Nat}{t:SetTable}
theorem zbW.typeIs (hs:zbW s.heap a es ep t):s.TypeIs (.ref a) "set":=let ⟨o,e,c,_⟩:=hs;⟨o,e,c⟩
def zfq (first:Value) (a:Addr) (n ep:Nat):Obj:={ cls := .type "set_iterator",data := .fields #[first,.int 0 0,.ref a,.int n 0,.int ep 0] }
def zeU (ys:List Nat):Obj:={ cls := .type "tuple",data := .seq (ys.map fun (k:Nat)=>Value.int k 0).toArray }
theorem zzP {Q:Value->Shared->Prop} (hs:zbW s.heap a es ep t) (hz:es.size<=sizeLine)
   (hP:(w.params.followText "set-order" = true∨(w.params.followText "set-order" = false∧(t.plain=true∨es.size<=1)))->Q (.ref s.heap.objs.size) { s with heap:=s.heap.push (zfq (.int 0 0) a es.size ep) })
   (hD:∀ ys d,ys.Perm (List.range es.size)->Q (.ref (s.heap.objs.size+1)) { s with heap:=(s.heap.push (zeU ys)).push (zfq (.ref s.heap.objs.size) a es.size ep),drawn:=d }) :
   wpAny (model P w) A (pyIter (.ref a)) Q E s:=by
 obtain ⟨o,ho,hc,hd,hf⟩:=id hs
 refine wpAny_pyIter_slot hs.typeIs PySem.F.slot_set_iter (wpAny_call_entry PySem.F.slot_set_iter hs.typeIs zCu ?_ (PySem.F.args_set_iter_1 _))
 unfold Builtin.«frozenset.__iter__»
 refine wpAny_bind (m:=Builtin.Frozenset.slot0 "__iter__" _) (wpAny_pure ?_)
 unfold Builtin.Frozenset.sizeOf
 refine wpAny_bind (wpAny_bind (wpAny_setEntries_of ho hd hf (wpAny_pure ?_)))
 unfold setDrawn
 refine wpAny_bind (wpAny_bind (wpAny_setState_of ho hd hf ?_))
 dsimp only
 refine wpAny_bind (zhO (wpAny_pure ?_))
 split
 . refine wpAny_bind (zrz es.size _ (by simp) fun ys d hp=>?_)
   have hl:ys.length=es.size:=by rw [hp.length_eq,List.length_range]
   refine wpAny_bind (wpAny_newObj_type (T :="tuple") ?_ (by show (ys.map fun (k:Nat)=>rawInt k).toArray.size<=sizeLine;simp [hl];exact hz))
   have ho1:(s.heap.push (zeU ys)).get? a=some o:=Heap.get?_push_of_some _ ho
   refine wpAny_bind (wpAny_setEpoch_of (s:={ s with heap:=s.heap.push (zeU ys),drawn:=d }) ho1 hd hf ?_)
   refine wpAny_bind (wpAny_newObj_type (T :="set_iterator") (wpAny_pure ⟨_,rfl, "set_iterator",_,⟨_,Heap.get?_push_size _ rfl,rfl⟩,zel.lookup,?_⟩))
   have:=hD ys d hp
   have e:(s.heap.push (zeU ys)).objs.size=s.heap.objs.size+1:=size_push' _ _
   rw [<- e]at this
   exact this
 . rename_i hc
   have hc:¬ ((!(w.params.followText "set-order") && (!t.plain && decide (es.size > 1)))=true):=hc
   refine wpAny_bind (wpAny_pure ?_)
   refine wpAny_bind (wpAny_setEpoch_of ho hd hf ?_)
   refine wpAny_bind (wpAny_newObj_type (T :="set_iterator") (wpAny_pure ⟨_,rfl, "set_iterator",_,⟨_,Heap.get?_push_size _ rfl,rfl⟩,zel.lookup,?_⟩))
   refine hP ?_
   cases hw:w.params.followText "set-order" with
   | true=>exact .inl rfl
   | false =>
     rw [hw]at hc
     refine .inr ⟨rfl,?_⟩
     cases hp:t.plain with
     | true=>exact .inl rfl
     | false =>
       rw [hp]at hc
       simp at hc
       exact .inr hc
end
end L2
end
section
namespace L2
open PySem PySem.Spec PyProof.Rows
section
variable {P:Program}{w:World}{A:Around}{E:Value->Shared->Prop}{s:Shared}{a:Addr}
theorem zsH {R:Bool->Shared->Prop} (hT:s.TypeIs (.ref a) "set") (h:R false s):wpAny (model P w) A (Builtin.List.listLengthHint (.ref a)) R E s:=by
 unfold Builtin.List.listLengthHint
 refine wpAny_bind (wpAny_specialOf hT PySem.F.slot_set_len.lookup ?_)
 have e1:splitId "set.__len__" = some ("set", "__len__"):=by decide +kernel
 dsimp only
 rw [e1]
 dsimp only
 refine wpAny_bind (wpAny_isInstance hT sub_set_self ?_)
 rw [if_neg (show ¬ ((!true)=true) by decide)]
 refine iteInduction (motive:=fun m=>wpAny (model P w) A m R E s) (fun _=>?_) (fun hc=>absurd (by decide +kernel) hc)
 refine wpAny_bind (wpAny_typeOf hT ?_)
 exact wpAny_pure h
def zbM (xs:Array Value) (c:Nat):Obj:={ cls := .type "list",dict:=none,data := .seq xs c,slots:=#[] }
theorem zsA {I L:Addr}{fp wr:List Addr}{n:Nat}{V:Nat->Value->Prop}{St:Nat->Shared->Prop}{R:Result->Shared->Prop} (W:WalksS P w A.in1 I fp wr Gq n V St) (hst:St 0 s) (hL:s.heap.get? L=some (zbM #[] 0)) (hf:L∉fp) (hn:n<=sizeLine)
   (hR:∀ s' acc c,Moved (L :: wr) Gq s s'->s'.heap.get? L=some (zbM acc c)->ItemsOf V acc n->R (.ok (.ret (.ref L))) s') (b:Bool) (hb:b=true) {Q:Fin->Shared->Prop}
   (hQ:∀ s',codeAny (model P w) A (.builtin "list.extend.loop" ⟨[.ref L,.ref I,.ref L],[]⟩) R s'->Q (.again (.builtin "list.extend.loop" ⟨[.ref L,.ref I,.ref L],[]⟩)) s') :
   wpAny (model P w) A.in1 (do
     if b=true then do rule "list.extend.makes-room";Builtin.List.listTouch (.ref L)
     again (.builtin "list.extend.loop" ⟨[.ref L,.ref I,.ref L],[]⟩)) Q E s:=by
 subst hb
 rw [if_pos rfl]
 refine wpAny_bind (wpAny_rule ?_)
 refine wpAny_bind ?_
 show wpAny _ A.in1 (updateSeq L (·.push .none) >>= fun _=>updateSeq L (·.pop)) _ _ _
 refine wpAny_bind (wpAny_updateSeq hL rfl ?_)
 have h2:=Heap.get?_update_self (Obj.mapSeq (·.push Value.none)) hL rfl
 refine wpAny_updateSeq h2 rfl ?_
 have h3:=Heap.get?_update_self (Obj.mapSeq (·.pop)) h2 rfl
 have oth:∀ b o,b≠L->s.heap.get? b=some o->((s.heap.update L (Obj.mapSeq (·.push Value.none))).update L (Obj.mapSeq (·.pop))).get? b=some o :=
   fun b o hb e=>(Heap.get?_update_other _ _ (Ne.symm hb)).trans ((Heap.get?_update_other _ _ (Ne.symm hb)).trans e)
 refine wpAny_pure (hQ _ ?_)
 refine codeAny_extend_loopS W hn L hf _ n 0 _ _ _ rfl (Nat.zero_le _) (W.frame 0 s _ s.toks hst (Nat.le_refl _) fun b hb o e=>oth b o (fun z=>hf (z ▸ hb)) e) h3 (ItemsOf.nil V) fun s' acc c m e i=>?_
 exact hR s' acc c (Moved.trans W.gtrans ((Moved.refl W.grefl).then_heap (Nat.le_refl _) fun b o hb e=>oth b o (fun z=>hb (z ▸ List.mem_cons_self)) e) m) e i
end
end L2
end
section
namespace L2
open PySem PySem.Spec PyProof.Rows
theorem zAo {ord:List (Int×Value)}{acc:Array Value}{n:Nat} (hl:ord.length=n) (h:ItemsOf (fun i v=>∃ e,ord[i]?=some e∧v=e.2) acc n):acc.toList=ord.map (·.2):=by
 apply List.ext_getElem?
 intro i
 rw [Array.getElem?_toList,List.getElem?_map]
 by_cases c:i < n
 . have hi:i < acc.size:=by rw [h.1];exact c
   have e:=Array.getElem?_eq_getElem hi
   obtain ⟨x,h1,h2⟩:=h.2 i _ e
   rw [e,h1,h2];rfl
 . rw [Array.getElem?_eq_none (by rw [h.1];omega),List.getElem?_eq_none (by omega)];rfl
section
variable {P:Program}{w:World}{A:Around}{E:Value->Shared->Prop}{s:Shared}{a:Addr}{ns:List Int}
theorem zAp {Q:List Value->Shared->Prop} (hh:A.handled=none) (S:zcJ P w (zcz w) s.heap a ns) (hb:ns.length < 4000)
   (hQ:∀ s' vs ms,(∀ b o,s.heap.get? b=some o->s'.heap.get? b=some o)->s.heap.objs.size<=s'.heap.objs.size->s'.gens=s.gens->s'.os=s.os->IntsAre vs ms->ms.Perm ns->Q vs s') :
   wpAny (model P w) A (collect (.ref a)) Q E s:=by
 obtain ⟨o,es,ep,t,ho,hex,hd,hel,hsb,hf,hT,ms,hI,hp⟩:=S
 have hsz:es.size=ns.length:=by rw [<- hp.length_eq,<- hI.length,List.length_map,Array.length_toList]
 have hln:es.size<=sizeLine:=by rw [sizeLine_eq];omega
 have hs:zbW s.heap a es ep t:=⟨o,ho,hex.1,hd,hf⟩
 have ha:a < s.heap.objs.size:=Heap.lt_size ho
 have hh1:A.in1.handled=none:=hh
 unfold collect
 refine wpAny_bind (wpAny_runValue (codeAny_builtin PySem.F.entry_proto_collect ?_))
 rw [Around.under_plainId PySem.F.plain_proto_collect _]
 show wpAny _ A.in1 (newList [] >>= fun l=>again (.builtin "list.__iadd__" ⟨[l,.ref a],[]⟩)) _ _ s
 refine wpAny_bind (wpAny_newObj_type ?_)
 refine wpAny_pure ⟨plainId_quiet PySem.F.plain_list_iadd _,codeAny_builtin PySem.F.entry_list_iadd ?_⟩
 rw [Around.under_plainId PySem.F.plain_list_iadd _]
 have hs1:zbW (s.heap.push (zbM #[] 0)) a es ep t:=hs.keep fun o e=>Heap.get?_push_of_some _ e
 have hz1:(s.heap.push (zbM #[] 0)).objs.size=s.heap.objs.size+1:=size_push' _ _
 have hL1:(s.heap.push (zbM #[] 0)).get? s.heap.objs.size=some (zbM #[] 0):=Heap.get?_push_size _ rfl
 show wpAny _ A.in1 (Builtin.List.listExtendWith (.ref s.heap.objs.size) (.ref a) (.ref s.heap.objs.size)) _ _ { s with heap:=s.heap.push (zbM #[] 0) }
 unfold Builtin.List.listExtendWith
 refine wpAny_bind (wpAny_typeOf (T :="set") (s:={ s with heap:=s.heap.push (zbM #[] 0) }) (zbW.typeIs hs1) ?_)
 have q1:Builtin.List.listSameRef (.ref s.heap.objs.size) (.ref a)=false:=by simp [Builtin.List.listSameRef];exact Nat.ne_of_gt ha
 have q2:(Value.type "set" == Value.type "list")=false:=by decide
 have q3:(Value.type "set" == Value.type "tuple")=false:=by decide
 rw [q1,q2,q3,if_neg (by decide)]
 have tail:∀ (s':Shared) (acc:Array Value) (c:Nat) (ord:List (Int×Value)),ord.Perm es.toList->(∀ b o,s.heap.get? b=some o->s'.heap.get? b=some o)->s'.gens=s.gens->s'.os=s.os ->
     s'.heap.get? s.heap.objs.size=some (zbM acc c)->ItemsOf (fun i v=>∃ e,ord[i]?=some e∧v=e.2) acc es.size->Q acc.toList s':=fun s' acc c ord pm k g os e i=>by
   have hlo:ord.length=es.size:=by rw [pm.length_eq,Array.length_toList]
   have em:=zAo hlo i
   obtain ⟨ks,k1,k2⟩:=zpf (pm.map (·.2)) hI
   rw [em]
   exact hQ s' _ ks k (Nat.le_of_lt (Heap.lt_size e)) g os k1 (k2.trans hp)
 have mvk:∀ {I:Addr} {s1 s2:Shared} (h1:Heap),s1.heap=h1->(∀ b o,s.heap.get? b=some o->h1.get? b=some o)->s.heap.objs.size < I->Moved [s.heap.objs.size,I] Gq s1 s2->∀ b o,s.heap.get? b=some o->s2.heap.get? b=some o:=fun {I s1 s2} h1 e k hI m b o eb=>by
   have hlt:b < s.heap.objs.size:=Heap.lt_size eb
   refine m.heap b o (fun z=>?_) (by rw [e];exact k b o eb)
   rcases List.mem_cons.mp z with z | z
   . exact Nat.ne_of_lt hlt z
   . exact Nat.ne_of_lt (Nat.lt_trans hlt hI) (List.mem_singleton.mp z)
 refine wpAny_bind (zzP (s:={ s with heap:=s.heap.push (zbM #[] 0) }) hs1 hln (fun hm=>?_) (fun ys d hy=>?_))
 . obtain ⟨ord,sl,pm,h0,hn⟩:∃ (ord:List (Int×Value)) (sl:Nat->Nat),ord.Perm es.toList∧sl 0=0 ∧
       (∀ (B:Around) (s:Shared) (i:Nat),i<=es.size->zbW s.heap a es ep t->∀ (R:Option (Value×Nat)->Shared->Prop) E,R (ord[i]?.map fun e=>(e.2,sl (i+1))) s->wpAny (model P w) B (setNext a (sl i) i ep) R E s):=by
     rcases hm with ht | ⟨ht,hpl⟩
     . exact ⟨_,(fun _=>0),zyX (w.params.setOrder a ep) es,rfl,fun B s i hi hs R E h=>zzu ht hs R E (by rw [<- Array.getElem?_toList];exact h)⟩
     . exact ⟨es.toList,zfF t,.refl _,rfl,fun B s i hi hs R E h=>zAs ht hpl hT hs hi R E (by rw [<- Array.getElem?_toList];exact h)⟩
   have hlo:ord.length=es.size:=by rw [pm.length_eq,Array.length_toList]
   have hI:a≠(s.heap.push (zbM #[] 0)).objs.size:=by rw [hz1];exact Nat.ne_of_lt (Nat.lt_succ_of_lt ha)
   have hs2:zbW ((s.heap.push (zbM #[] 0)).push (zfq (.int 0 0) a es.size ep)) a es ep t:=hs1.keep fun o e=>Heap.get?_push_of_some _ e
   refine wpAny_bind (wpAny_holding (zsH (zbW.typeIs (s:={ s with heap:=(s.heap.push (zbM #[] 0)).push (zfq (.int 0 0) a es.size ep) }) hs2) ?_))
   refine zsA (L:=s.heap.objs.size) (zAF hh1 hI hlo sl hn) ⟨⟨_,Heap.get?_push_size _ rfl,rfl,by rw [h0];rfl⟩,hs2⟩ (Heap.get?_push_of_some _ hL1) ?_ hln (fun s' acc c m e i=>?_) _ (by decide +kernel) (fun s' h=>⟨plainId_quiet PySem.F.plain_extend_loop _,h⟩)
   . intro z
     rw [hz1]at z
     rcases List.mem_cons.mp z with z | z
     . exact absurd z (Nat.ne_of_lt (Nat.lt_succ_self _))
     . exact Nat.ne_of_gt ha (List.mem_singleton.mp z)
   . refine wpAny_bind (m:=load s.heap.objs.size) (wpAny_load e (wpAny_pure (tail s' acc c ord pm (mvk _ rfl (fun b o q=>Heap.get?_push_of_some _ (Heap.get?_push_of_some _ q)) (by rw [hz1];exact Nat.lt_succ_self _) m) ?_ ?_ e i)))
     . exact m.gens
     . exact m.os
 . have hz2:((s.heap.push (zbM #[] 0)).push (zeU ys)).objs.size=s.heap.objs.size+1+1:=by rw [size_push',hz1]
   have n1:a≠(s.heap.push (zbM #[] 0)).objs.size+1:=by rw [hz1];exact Nat.ne_of_lt (Nat.lt_succ_of_lt (Nat.lt_succ_of_lt ha))
   have n2:(s.heap.push (zbM #[] 0)).objs.size≠(s.heap.push (zbM #[] 0)).objs.size+1:=Nat.ne_of_lt (Nat.lt_succ_self _)
   have hs2:zbW (((s.heap.push (zbM #[] 0)).push (zeU ys)).push (zfq (.ref (s.heap.push (zbM #[] 0)).objs.size) a es.size ep)) a es ep t:=hs1.keep fun o e=>Heap.get?_push_of_some _ (Heap.get?_push_of_some _ e)
   have hit:(((s.heap.push (zbM #[] 0)).push (zeU ys)).push (zfq (.ref (s.heap.push (zbM #[] 0)).objs.size) a es.size ep)).get? ((s.heap.push (zbM #[] 0)).objs.size+1)=some (zfq (.ref (s.heap.push (zbM #[] 0)).objs.size) a es.size ep):=by
     have e:(s.heap.push (zbM #[] 0)).objs.size+1=((s.heap.push (zbM #[] 0)).push (zeU ys)).objs.size:=by rw [hz2,hz1]
     rw [e];exact Heap.get?_push_size _ rfl
   refine wpAny_bind (wpAny_holding (zsH (zbW.typeIs (s:={ s with heap:=((s.heap.push (zbM #[] 0)).push (zeU ys)).push (zfq (.ref (s.heap.push (zbM #[] 0)).objs.size) a es.size ep),drawn:=d }) hs2) ?_))
   refine zsA (L:=s.heap.objs.size) (zzl hh1 n1 n2 hy) ⟨⟨_,hit,rfl,rfl⟩,hs2,_,_,Heap.get?_push_of_some _ (Heap.get?_push_size _ rfl),rfl⟩ (Heap.get?_push_of_some _ (Heap.get?_push_of_some _ hL1)) ?_ hln (fun s' acc c m e i=>?_) _ (by decide +kernel) (fun s' h=>⟨plainId_quiet PySem.F.plain_extend_loop _,h⟩)
   . intro z
     rw [hz1]at z
     rcases List.mem_cons.mp z with z | z
     . exact absurd z (Nat.ne_of_lt (Nat.lt_succ_of_lt (Nat.lt_succ_self _)))
     . rcases List.mem_cons.mp z with z | z
       . exact Nat.ne_of_gt ha z
       . exact absurd (List.mem_singleton.mp z) (Nat.ne_of_lt (Nat.lt_succ_self _))
   . have pm:(ys.filterMap (es[·]?)).Perm es.toList:=(hy.filterMap _).trans (by rw [filterMap_getElem?_range])
     refine wpAny_bind (m:=load s.heap.objs.size) (wpAny_load e (wpAny_pure (tail s' acc c _ pm (mvk _ rfl (fun b o q=>Heap.get?_push_of_some _ (Heap.get?_push_of_some _ (Heap.get?_push_of_some _ q))) (by rw [hz1];exact Nat.lt_succ_of_lt (Nat.lt_succ_self _)) m) ?_ ?_ e i)))
     . exact m.gens
     . exact m.os
end
end L2
end
section
namespace MI
open PySem PySem.Spec L2
structure GP where
 K:PySem.W.Frag
 cm:List Addr
 an:List Str
structure GP.Ok (G:GP) (sub att:Nat->Nat->Bool):Prop where
 cls:∀ (c:Nat) C,G.cm[c]?=some C->Cls G.K C∧zr6 G.K C
 noat:∀ (c:Nat) C (k:Nat) f,G.cm[c]?=some C->att c k=true->G.an[k]?=some f->zbU G.K C f
 nd:G.an.Nodup
 isa:∀ (c c':Nat) C C',G.cm[c]?=some C->G.cm[c']?=some C'->Isa G.K C C' (sub c c')
mutual
def RD (ρ:List Addr) (H:Hp):D->V->Prop
 | .non,v=>v = .non
 | .bl b,v=>v = .bl b
 | .int i,v=>v = .int i
 | .str x,v=>v = .str x
 | .tup ds,v=>∃ a vs,v = .ref a∧H a=some (.tup vs)∧RDs ρ H ds vs
 | .obj n,v=>∃ a,v = .ref a∧ρ[n]?=some a
def RDs (ρ:List Addr) (H:Hp):List D->List V->Prop
 | [],vs=>vs=[]
 | d :: ds,vs=>∃ x r,vs=x :: r∧RD ρ H d x∧RDs ρ H ds r
end
structure Ext (F:Addr->Prop) (ρ ρ1:List Addr) (H H1:Hp):Prop where
 pre:∃ t,ρ1=ρ++t
 tup:∀ b xs,H b=some (.tup xs)->H1 b=some (.tup xs)
 frm:∀ b,F b->H1 b=H b
theorem Ext.refl {F:Addr->Prop}{ρ:List Addr}{H:Hp}:Ext F ρ ρ H H:=⟨⟨[],by simp⟩,fun _ _ h=>h,fun _ _=>rfl⟩
theorem Ext.trans {F:Addr->Prop}{ρ ρ1 ρ2:List Addr}{H H1 H2:Hp} (a:Ext F ρ ρ1 H H1) (b:Ext F ρ1 ρ2 H1 H2):Ext F ρ ρ2 H H2:=by
 obtain ⟨t,rfl⟩:=a.pre
 obtain ⟨u,rfl⟩:=b.pre
 exact ⟨⟨t++u,by simp⟩,fun c xs h=>b.tup c xs (a.tup c xs h),fun c hc=>(b.frm c hc).trans (a.frm c hc)⟩
theorem Ext.get {F:Addr->Prop}{ρ ρ1:List Addr}{H H1:Hp} (e:Ext F ρ ρ1 H H1) {n:Nat}{a:Addr} (h:ρ[n]?=some a):ρ1[n]?=some a:=by
 obtain ⟨t,rfl⟩:=e.pre
 rw [List.getElem?_append_left (List.getElem?_eq_some_iff.mp h).1];exact h
mutual
theorem RD.ext {F:Addr->Prop}{ρ ρ1:List Addr}{H H1:Hp} (e:Ext F ρ ρ1 H H1):∀ (d:D) (v:V),RD ρ H d v->RD ρ1 H1 d v
 | .non,v,h=>by unfold RD at h ⊢;exact h
 | .bl b,v,h=>by unfold RD at h ⊢;exact h
 | .int i,v,h=>by unfold RD at h ⊢;exact h
 | .str x,v,h=>by unfold RD at h ⊢;exact h
 | .tup ds,v,h=>by
   unfold RD at h ⊢
   obtain ⟨a,vs,h1,h2,h3⟩:=h
   exact ⟨a,vs,h1,e.tup _ _ h2,RDs.ext e ds vs h3⟩
 | .obj n,v,h=>by
   unfold RD at h ⊢
   obtain ⟨a,h1,h2⟩:=h
   exact ⟨a,h1,e.get h2⟩
theorem RDs.ext {F:Addr->Prop}{ρ ρ1:List Addr}{H H1:Hp} (e:Ext F ρ ρ1 H H1):∀ (ds:List D) (vs:List V),RDs ρ H ds vs->RDs ρ1 H1 ds vs
 | [],vs,h=>by unfold RDs at h ⊢;exact h
 | d :: ds,vs,h=>by
   unfold RDs at h ⊢
   obtain ⟨x,r,h1,h2,h3⟩:=h
   exact ⟨x,r,h1,RD.ext e d x h2,RDs.ext e ds r h3⟩
end
mutual
def D.bd (n:Nat):D->Prop
 | .obj m=>m < n
 | .tup ds=>bds n ds
 | _=>True
def bds (n:Nat):List D->Prop
 | []=>True
 | d :: r=>d.bd n∧bds n r
end
mutual
theorem RD.bd {ρ:List Addr}{H:Hp}:∀ (d:D) (v:V),RD ρ H d v->d.bd ρ.length
 | .non,v,h=>by simp [D.bd]
 | .bl b,v,h=>by simp [D.bd]
 | .int i,v,h=>by simp [D.bd]
 | .str x,v,h=>by simp [D.bd]
 | .tup ds,v,h=>by
   unfold RD at h;unfold D.bd
   obtain ⟨a,vs,h1,h2,h3⟩:=h
   exact RDs.bd ds vs h3
 | .obj n,v,h=>by
   unfold RD at h;unfold D.bd
   obtain ⟨a,h1,h2⟩:=h
   exact (List.getElem?_eq_some_iff.mp h2).1
theorem RDs.bd {ρ:List Addr}{H:Hp}:∀ (ds:List D) (vs:List V),RDs ρ H ds vs->bds ρ.length ds
 | [],vs,h=>by simp [bds]
 | d :: ds,vs,h=>by
   unfold RDs at h;unfold bds
   obtain ⟨x,r,h1,h2,h3⟩:=h
   exact ⟨RD.bd d x h2,RDs.bd ds r h3⟩
end
mutual
theorem D.nr_bd {n:Nat}:∀ (d:D),d.nr=true->d.bd n
 | .non,h=>by simp [D.bd]
 | .bl b,h=>by simp [D.bd]
 | .int i,h=>by simp [D.bd]
 | .str x,h=>by simp [D.bd]
 | .tup ds,h=>by unfold D.nr at h;unfold D.bd;exact znZ ds h
 | .obj n,h=>by simp [D.nr]at h
theorem znZ {n:Nat}:∀ (ds:List D),nrs ds=true->bds n ds
 | [],h=>by simp [bds]
 | d :: ds,h=>by
   unfold nrs at h;unfold bds
   rw [Bool.and_eq_true]at h
   exact ⟨D.nr_bd d h.1,znZ ds h.2⟩
end
mutual
theorem RD.cut {ρ ρ1:List Addr}{H:Hp}{n:Nat} (e:∀ m,m < n->ρ1[m]?=ρ[m]?):∀ (d:D) (v:V),d.bd n->RD ρ H d v->RD ρ1 H d v
 | .non,v,_,h=>by unfold RD at h ⊢;exact h
 | .bl b,v,_,h=>by unfold RD at h ⊢;exact h
 | .int i,v,_,h=>by unfold RD at h ⊢;exact h
 | .str x,v,_,h=>by unfold RD at h ⊢;exact h
 | .tup ds,v,b,h=>by
   unfold RD at h ⊢;unfold D.bd at b
   obtain ⟨a,vs,h1,h2,h3⟩:=h
   exact ⟨a,vs,h1,h2,RDs.cut e ds vs b h3⟩
 | .obj m,v,b,h=>by
   unfold RD at h ⊢;unfold D.bd at b
   obtain ⟨a,h1,h2⟩:=h
   exact ⟨a,h1,by rw [e m b];exact h2⟩
theorem RDs.cut {ρ ρ1:List Addr}{H:Hp}{n:Nat} (e:∀ m,m < n->ρ1[m]?=ρ[m]?):∀ (ds:List D) (vs:List V),bds n ds->RDs ρ H ds vs->RDs ρ1 H ds vs
 | [],vs,_,h=>by unfold RDs at h ⊢;exact h
 | d :: ds,vs,b,h=>by
   unfold RDs at h ⊢;unfold bds at b
   obtain ⟨x,r,h1,h2,h3⟩:=h
   exact ⟨x,r,h1,RD.cut e d x b.1 h2,RDs.cut e ds r b.2 h3⟩
end
section
variable {ρ:List Addr}{H:Hp}
theorem RDs.length:∀ {ds:List D}{vs:List V},RDs ρ H ds vs->ds.length=vs.length
 | [],vs,h=>by unfold RDs at h;subst h;rfl
 | d :: ds,vs,h=>by
   unfold RDs at h
   obtain ⟨x,r,h1,h2,h3⟩:=h
   subst h1;simp [RDs.length h3]
theorem RDs.get:∀ {ds:List D}{vs:List V}{i:Nat}{d:D},RDs ρ H ds vs->ds[i]?=some d->∃ v,vs[i]?=some v∧RD ρ H d v
 | [],vs,i,d,h,e=>by simp at e
 | x :: ds,vs,i,d,h,e=>by
   unfold RDs at h
   obtain ⟨y,r,h1,h2,h3⟩:=h
   subst h1
   cases i with
   | zero=>simp at e;subst e;exact ⟨y,rfl,h2⟩
   | succ i =>
     obtain ⟨v,e1,e2⟩:=RDs.get (i:=i) h3 (by simpa using e)
     exact ⟨v,by simpa using e1,e2⟩
theorem RDs.nil:RDs ρ H [] []:=by unfold RDs;rfl
theorem RDs.cons {d:D}{v:V}{ds:List D}{vs:List V} (h:RD ρ H d v) (hs:RDs ρ H ds vs):RDs ρ H (d :: ds) (v :: vs):=by
 unfold RDs;exact ⟨v,vs,rfl,h,hs⟩
theorem RDs.append {ds2:List D}{vs2:List V} (h:RDs ρ H ds2 vs2):∀ {ds:List D}{vs:List V},RDs ρ H ds vs->RDs ρ H (ds++ds2) (vs++vs2)
 | [],vs,hs=>by unfold RDs at hs;subst hs;exact h
 | d :: ds,vs,hs=>by
   unfold RDs at hs
   obtain ⟨y,r,h1,h2,h3⟩:=hs
   subst h1
   exact RDs.cons h2 (RDs.append h h3)
theorem RDs.snoc {d:D}{v:V}{ds:List D}{vs:List V} (hs:RDs ρ H ds vs) (h:RD ρ H d v):RDs ρ H (ds++[d]) (vs++[v]):=RDs.append (RDs.cons h RDs.nil) hs
theorem RDs.take:∀ (n:Nat) {ds:List D}{vs:List V},RDs ρ H ds vs->RDs ρ H (ds.take n) (vs.take n)
 | 0,_,_,h=>by simp;exact RDs.nil
 | n+1,[],vs,h=>by unfold RDs at h;subst h;simp;exact RDs.nil
 | n+1,d :: ds,vs,h=>by
   unfold RDs at h
   obtain ⟨y,r,h1,h2,h3⟩:=h
   subst h1
   exact RDs.cons h2 (RDs.take n h3)
theorem RDs.drop:∀ (n:Nat) {ds:List D}{vs:List V},RDs ρ H ds vs->RDs ρ H (ds.drop n) (vs.drop n)
 | 0,_,_,h=>h
 | n+1,[],vs,h=>by unfold RDs at h;subst h;simp;exact RDs.nil
 | n+1,d :: ds,vs,h=>by
   unfold RDs at h
   obtain ⟨y,r,h1,h2,h3⟩:=h
   subst h1
   exact RDs.drop n h3
theorem RDs.set {d:D}{v:V} (h:RD ρ H d v):∀ (i:Nat) {ds:List D}{vs:List V},RDs ρ H ds vs->RDs ρ H (ds.set i d) (vs.set i v)
 | _,[],vs,hs=>by unfold RDs at hs;subst hs;simp;exact RDs.nil
 | 0,x :: ds,vs,hs=>by
   unfold RDs at hs
   obtain ⟨y,r,h1,h2,h3⟩:=hs
   subst h1
   exact RDs.cons h h3
 | i+1,x :: ds,vs,hs=>by
   unfold RDs at hs
   obtain ⟨y,r,h1,h2,h3⟩:=hs
   subst h1
   exact RDs.cons h2 (RDs.set h i h3)
theorem RDs.rep {ds:List D}{vs:List V} (h:RDs ρ H ds vs):∀ k:Nat,RDs ρ H (List.replicate k ds).flatten (List.replicate k vs).flatten
 | 0=>by simp;exact RDs.nil
 | k+1=>by
   rw [List.replicate_succ,List.replicate_succ,List.flatten_cons,List.flatten_cons]
   exact RDs.append (RDs.rep h k) h
theorem RDs.ints:∀ ns:List Int,RDs ρ H (ns.map D.int) (ns.map V.int)
 | []=>by simp;exact RDs.nil
 | n :: r=>RDs.cons (by unfold RD;rfl) (RDs.ints r)
theorem RDs.of_ints:∀ {ds:List D}{ns:List Int}{vs:List V},zb4 ds=some ns->RDs ρ H ds vs->vs=ns.map V.int
 | [],ns,vs,e,h=>by
   unfold RDs at h;subst h
   simp [zb4]at e;subst e;rfl
 | d :: ds,ns,vs,e,h=>by
   unfold RDs at h
   obtain ⟨y,r,h1,h2,h3⟩:=h
   cases d with
   | int i =>
     rw [zb4,Option.map_eq_some_iff]at e
     obtain ⟨ms,e1,rfl⟩:=e
     unfold RD at h2
     subst h1 h2
     rw [RDs.of_ints e1 h3];rfl
   | _=>simp [zb4]at e
theorem RDs.of_bools:∀ {ds:List D}{ns:List Bool}{vs:List V},zcA ds=some ns->RDs ρ H ds vs->vs=ns.map V.bl
 | [],ns,vs,e,h=>by
   unfold RDs at h;subst h
   simp [zcA]at e;subst e;rfl
 | d :: ds,ns,vs,e,h=>by
   unfold RDs at h
   obtain ⟨y,r,h1,h2,h3⟩:=h
   cases d with
   | bl i =>
     rw [zcA,Option.map_eq_some_iff]at e
     obtain ⟨ms,e1,rfl⟩:=e
     unfold RD at h2
     subst h1 h2
     rw [RDs.of_bools e1 h3];rfl
   | _=>simp [zcA]at e
end
def KRs (ρ:List Addr) (H:Hp):List (Int×D)->List (Key×V)->Prop
 | [],vs=>vs=[]
 | p :: r,vs=>∃ v q,vs=(Sum.inl p.1,v) :: q∧RD ρ H p.2 v∧KRs ρ H r q
def FRs (G:GP) (ρ:List Addr) (H:Hp) (C:Addr):List (Nat×D)->List (Str×V)->Prop
 | [],vs=>vs=[]
 | p :: r,vs=>∃ f v q,vs=(f,v) :: q∧G.an[p.1]?=some f∧zbU G.K C f∧RD ρ H p.2 v∧FRs G ρ H C r q
def KL (K:PySem.W.Frag) (a:Addr) (xs:List V):Prop :=
 ∃ (o:Obj) (its:Array Value) (n:Nat),K.lookup a=some o∧o.cls = .type "list" ∧ o.dict=none∧o.data = .seq its n∧its.size<=sizeLine∧zp xs its.toList
def RO (G:GP) (ρ:List Addr) (H:Hp) (a:Addr):O->Prop
 | .lst xs=>∃ vs,H a=some (.lst vs)∧RDs ρ H xs vs
 | .scr xs=>∃ vs,((∃ o,H a=some (.frz o (.lst vs)))∨KL G.K a vs)∧RDs ρ H xs vs
 | .dic kvs=>∃ vs,H a=some (.dK vs)∧KRs ρ H kvs vs
 | .hole=>True
 | .set xs=>∃ S n,H a=some (.set S n)∧n=xs.length∧∀ x,S x=decide (x∈xs)
 | .ins c fs=>∃ C dx vs,G.cm[c]?=some C∧H a=some (.ins C dx vs)∧FRs G ρ H C fs vs
theorem KRs.map {ρ ρ1:List Addr}{H H1:Hp}:∀ {kvs:List (Int×D)}{vs:List (Key×V)},KRs ρ H kvs vs->(∀ p∈kvs,∀ v,RD ρ H p.2 v->RD ρ1 H1 p.2 v)->KRs ρ1 H1 kvs vs
 | [],vs,h,_=>h
 | p :: r,vs,h,f=>by
   unfold KRs at h ⊢
   obtain ⟨v,q,h1,h2,h3⟩:=h
   exact ⟨v,q,h1,f p List.mem_cons_self v h2,KRs.map h3 fun x hx=>f x (List.mem_cons_of_mem _ hx)⟩
theorem FRs.map {G:GP}{ρ ρ1:List Addr}{H H1:Hp}{C:Addr}:∀ {kvs:List (Nat×D)}{vs:List (Str×V)},FRs G ρ H C kvs vs->(∀ p∈kvs,∀ v,RD ρ H p.2 v->RD ρ1 H1 p.2 v)->FRs G ρ1 H1 C kvs vs
 | [],vs,h,_=>h
 | p :: r,vs,h,f=>by
   unfold FRs at h ⊢
   obtain ⟨g,v,q,h1,h2,h3,h4,h5⟩:=h
   exact ⟨g,v,q,h1,h2,h3,f p List.mem_cons_self v h4,FRs.map h5 fun x hx=>f x (List.mem_cons_of_mem _ hx)⟩
theorem RO.map {G:GP}{ρ ρ1:List Addr}{H H1:Hp}{a:Addr}{o:O} (h:RO G ρ H a o) (ha:∀ u,H a=some u->H1 a=some u) (f:∀ d v,RD ρ H d v->RD ρ1 H1 d v) (fs:∀ ds vs,RDs ρ H ds vs->RDs ρ1 H1 ds vs):RO G ρ1 H1 a o:=by
 cases o with
 | lst xs=>obtain ⟨vs,h1,h2⟩:=h;exact ⟨vs,ha _ h1,fs _ _ h2⟩
 | scr xs =>
   obtain ⟨vs,h1,h2⟩:=h
   refine ⟨vs,?_,fs _ _ h2⟩
   rcases h1 with ⟨o,h1⟩ | h1
   . exact .inl ⟨o,ha _ h1⟩
   . exact .inr h1
 | dic kvs=>obtain ⟨vs,h1,h2⟩:=h;exact ⟨vs,ha _ h1,h2.map fun p _ v=>f _ _⟩
 | hole=>trivial
 | set xs=>obtain ⟨S,n,h1,h2⟩:=h;exact ⟨S,n,ha _ h1,h2⟩
 | ins c fs=>obtain ⟨C,dx,vs,h1,h2,h3⟩:=h;exact ⟨C,dx,vs,h1,ha _ h2,h3.map fun p _ v=>f _ _⟩
def O.isScr:O->Bool
 | .scr _=>true
 | .hole=>true
 | _=>false
structure HR (F:Addr->Prop) (G:GP) (ρ:List Addr) (h:MH) (H:Hp):Prop where
 pro:∀ b,F b->(∃ u,H b=some u)∧∀ (m:Nat) o,ρ[m]?=some b->h[m]?=some o->o.isScr=true
 nd:∀ (n m:Nat) a o o',n≠m->ρ[n]?=some a->ρ[m]?=some a->h[n]?=some o->h[m]?=some o'->o.isScr=true∨o'.isScr=true
 len:ρ.length=h.length
 all:∀ (n:Nat) o,h[n]?=some o->∃ a,ρ[n]?=some a∧RO G ρ H a o
theorem HR.at {F:Addr->Prop}{G:GP}{ρ:List Addr}{h:MH}{H:Hp} (r:HR F G ρ h H) {n:Nat}{o:O}{a:Addr} (e:h[n]?=some o) (ea:ρ[n]?=some a):RO G ρ H a o:=by
 obtain ⟨b,e1,e2⟩:=r.all n o e
 rw [ea]at e1;cases e1;exact e2
structure zT (ρ:List Addr) (H:Hp) (env:zw) (σ:St):Prop where
 len:env.length=σ.length
 all:∀ (i:Nat) d,env[i]?=some (some d)->∃ v,σ[i]?=some (some v)∧RD ρ H d v
theorem zT.ext {F:Addr->Prop}{ρ ρ1:List Addr}{H H1:Hp}{env:zw}{σ:St} (h:zT ρ H env σ) (e:Ext F ρ ρ1 H H1):zT ρ1 H1 env σ :=
 ⟨h.len,fun i d q=>let ⟨v,q1,q2⟩:=h.all i d q;⟨v,q1,RD.ext e _ _ q2⟩⟩
theorem zT.set {ρ:List Addr}{H:Hp}{env:zw}{σ:St} (h:zT ρ H env σ) {d:D}{v:V} (r:RD ρ H d v) (i:Nat):zT ρ H (env.set i (some d)) (σ.set i (some v)):=by
 refine ⟨by simp [h.len],fun j d' q=>?_⟩
 by_cases hj:i=j
 . subst hj
   have hi:i < env.length:=by
     have:=(List.getElem?_eq_some_iff.mp q).1
     simpa using this
   rw [List.getElem?_set_self hi]at q
   cases q
   exact ⟨v,by rw [List.getElem?_set_self (by rw [<- h.len];exact hi)],r⟩
 . rw [List.getElem?_set_ne hj]at q ⊢
   exact h.all j d' q
section
variable {F:Addr->Prop}{G:GP}{ρ:List Addr}{h:MH}{H:Hp}
theorem zcB (hr:HR F G ρ h H) {p:Addr}{u:HO} (hp:H p=none):Ext F ρ ρ H (upd H p u):=⟨⟨[],by simp⟩,fun b xs e=>by rw [zy (zdF e hp)];exact e,fun b hb=>by
 obtain ⟨⟨v,hv⟩,_⟩:=hr.pro b hb
 rw [zy (zdF hv hp)]⟩
theorem zyV {p:Addr}{u:HO} (hp:H p=none) {a:Addr}{o:HO} (e:H a=some o):upd H p u a=some o:=by rw [zy (zdF e hp)];exact e
theorem HR.grow {H1:Hp} (r:HR F G ρ h H) (k:∀ a o,H a=some o->H1 a=some o):HR F G ρ h H1:=by
 have e:Ext F ρ ρ H H1:=⟨⟨[],by simp⟩,fun b xs q=>k _ _ q,fun b hb=>by obtain ⟨⟨v,hv⟩,_⟩:=r.pro b hb;rw [hv];exact k _ _ hv⟩
 exact ⟨fun b hb=>let ⟨⟨v,hv⟩,z⟩:=r.pro b hb;⟨⟨v,k _ _ hv⟩,z⟩,r.nd,r.len,fun n o q=>let ⟨a,q1,q2⟩:=r.all n o q;⟨a,q1,q2.map (fun u=>k a u) (RD.ext e) (RDs.ext e)⟩⟩
theorem HR.new (r:HR F G ρ h H) {p:Addr}{u:HO} (hp:H p=none):HR F G ρ h (upd H p u):=r.grow fun a o e=>zyV hp e
def zfE (F:Addr->Prop) (ρ:List Addr) (h:MH) (a:Addr):Prop:=¬ F a∧∀ (m:Nat) o,ρ[m]?=some a->h[m]?=some o->o.isScr=true
theorem RO.some_of {a:Addr}{o:O} (r:RO G ρ H a o):o.isScr=true∨∃ u,H a=some u:=by
 cases o with
 | lst xs=>obtain ⟨vs,z,_⟩:=r;exact .inr ⟨_,z⟩
 | scr xs=>exact .inl rfl
 | dic xs=>obtain ⟨vs,z,_⟩:=r;exact .inr ⟨_,z⟩
 | hole=>exact .inl rfl
 | set xs=>obtain ⟨S,n,z,_⟩:=r;exact .inr ⟨_,z⟩
 | ins c fs=>obtain ⟨C,dx,vs,_,z,_⟩:=r;exact .inr ⟨_,z⟩
theorem HR.fresh (r:HR F G ρ h H) {a:Addr} (ha:H a=none):zfE F ρ h a:=by
 refine ⟨fun z=>?_,fun m o e1 e2=>?_⟩
 . obtain ⟨⟨v,hv⟩,_⟩:=r.pro a z
   rw [ha]at hv;cases hv
 . rcases (r.at e2 e1).some_of with z | ⟨u,z⟩
   . exact z
   . rw [ha]at z;cases z
theorem getElem?_snoc {α:Type}{l:List α}{x y:α}{n:Nat} (h:(l++[x])[n]?=some y):(l[n]?=some y)∨(n=l.length∧x=y):=by
 by_cases hn:n < l.length
 . rw [List.getElem?_append_left hn]at h;exact .inl h
 . rw [List.getElem?_append_right (by omega)]at h
   have:n - l.length=0:=by
     by_cases z:n - l.length=0
     . exact z
     . rw [List.getElem?_eq_none (by simp;omega)]at h;cases h
   rw [this]at h
   simp at h
   exact .inr ⟨by omega,h⟩
theorem RD.snoc {b:Addr} (d:D) (v:V) (h:RD ρ H d v):RD (ρ++[b]) H d v:=RD.ext (F:=fun _=>False) ⟨⟨[b],rfl⟩,fun _ _ z=>z,fun _ z=>z.elim⟩ _ _ h
theorem RDs.snocρ {b:Addr} (d:List D) (v:List V) (h:RDs ρ H d v):RDs (ρ++[b]) H d v:=RDs.ext (F:=fun _=>False) ⟨⟨[b],rfl⟩,fun _ _ z=>z,fun _ z=>z.elim⟩ _ _ h
theorem HR.named (r:HR F G ρ h H) {a:Addr}{o:O} (fr:zfE F ρ h a) (ro:RO G (ρ++[a]) H a o):HR F G (ρ++[a]) (h++[o]) H:=by
 refine ⟨fun b hb=>⟨(r.pro b hb).1,fun m x z1 z2=>?_⟩,fun n m b x y hne h1 h2 h3 h4=>?_,by simp [r.len],fun n x hx=>?_⟩
 . rcases getElem?_snoc z1 with z1 | ⟨e1,f1⟩
   . have hm:m < h.length:=by rw [<- r.len];exact (List.getElem?_eq_some_iff.mp z1).1
     rw [List.getElem?_append_left hm]at z2
     exact (r.pro b hb).2 m x z1 z2
   . subst f1;exact absurd hb fr.1
 . rcases getElem?_snoc h1 with h1 | ⟨e1,f1⟩
   . rcases getElem?_snoc h2 with h2 | ⟨e2,f2⟩
     . have hn:n < h.length:=by rw [<- r.len];exact (List.getElem?_eq_some_iff.mp h1).1
       have hm:m < h.length:=by rw [<- r.len];exact (List.getElem?_eq_some_iff.mp h2).1
       rw [List.getElem?_append_left hn]at h3
       rw [List.getElem?_append_left hm]at h4
       exact r.nd n m b x y hne h1 h2 h3 h4
     . have hn:n < h.length:=by rw [<- r.len];exact (List.getElem?_eq_some_iff.mp h1).1
       rw [List.getElem?_append_left hn]at h3
       subst f2
       exact .inl (fr.2 n x h1 h3)
   . rcases getElem?_snoc h2 with h2 | ⟨e2,f2⟩
     . have hm:m < h.length:=by rw [<- r.len];exact (List.getElem?_eq_some_iff.mp h2).1
       rw [List.getElem?_append_left hm]at h4
       subst f1
       exact .inr (fr.2 m y h2 h4)
     . exact absurd (e1.trans e2.symm) hne
 . rcases getElem?_snoc hx with hx | ⟨e,f⟩
   . obtain ⟨b,e1,e2⟩:=r.all n x hx
     exact ⟨b,by rw [List.getElem?_append_left (List.getElem?_eq_some_iff.mp e1).1];exact e1,e2.map (fun _ z=>z) RD.snoc RDs.snocρ⟩
   . subst f
     exact ⟨a,by rw [e,<- r.len];simp,ro⟩
theorem HR.write (r:HR F G ρ h H) {n:Nat}{a:Addr}{o o1:O}{u0 u:HO} (e:h[n]?=some o) (ea:ρ[n]?=some a) (hs:o.isScr=false) (hs1:o1.isScr=false) (eu:H a=some u0) (mu:Mut (some u0))
   (ro:RO G ρ (upd H a u) a o1):Ext F ρ ρ H (upd H a u)∧HR F G ρ (h.set n o1) (upd H a u):=by
 have hn:n < h.length:=(List.getElem?_eq_some_iff.mp e).1
 have tp:∀ b xs,H b=some (.tup xs)->upd H a u b=some (.tup xs):=fun b xs q=>by
   rw [zy]
   . exact q
   . intro z;subst z;rw [eu]at q;cases q;exact mu
 have hb0:∀ b,F b->b≠a:=fun b hb z=>by have:=(r.pro b hb).2 n o (by rw [z];exact ea) e;rw [hs]at this;cases this
 have ex:Ext F ρ ρ H (upd H a u):=⟨⟨[],by simp⟩,tp,fun b hb=>zy (hb0 b hb)⟩
 refine ⟨ex,fun b hb=>⟨by rw [zy (hb0 b hb)];exact (r.pro b hb).1,fun m x z1 z2=>?_⟩,fun i j b x y hne h1 h2 h3 h4=>?_,by simp [r.len],fun m x hx=>?_⟩
 . by_cases hm:n=m
   . subst hm
     rw [ea]at z1;cases z1
     exact absurd rfl (hb0 _ hb)
   . rw [List.getElem?_set_ne hm]at z2
     exact (r.pro b hb).2 m x z1 z2
 . have sc:∀ (k:Nat) z,(h.set n o1)[k]?=some z->∃ z0,h[k]?=some z0∧z0.isScr=z.isScr:=fun k z hz=>by
     by_cases hk:n=k
     . subst hk
       rw [List.getElem?_set_self hn]at hz
       cases hz
       exact ⟨o,e,hs.trans hs1.symm⟩
     . rw [List.getElem?_set_ne hk]at hz
       exact ⟨z,hz,rfl⟩
   obtain ⟨x0,hx0,ex0⟩:=sc i x h3
   obtain ⟨y0,hy0,ey0⟩:=sc j y h4
   rw [<- ex0,<- ey0]
   exact r.nd i j b x0 y0 hne h1 h2 hx0 hy0
 . by_cases hm:n=m
   . subst hm
     rw [List.getElem?_set_self hn]at hx
     cases hx
     exact ⟨a,ea,ro⟩
   . rw [List.getElem?_set_ne hm]at hx
     obtain ⟨b,e1,e2⟩:=r.all m x hx
     refine ⟨b,e1,?_⟩
     by_cases hb:b=a
     . subst hb
       have hsc:x.isScr=true:=by
         rcases r.nd n m b o x hm ea e1 e hx with z | z
         . rw [hs]at z;cases z
         . exact z
       cases x with
       | scr xs =>
         obtain ⟨vs,z,w⟩:=e2
         refine ⟨vs,?_,RDs.ext ex _ _ w⟩
         rcases z with ⟨o',z⟩ | z
         . rw [eu]at z;cases z;exact mu.elim
         . exact .inr z
       | hole=>trivial
       | _=>cases hsc
     . exact e2.map (fun w z=>by rw [zy hb];exact z) (RD.ext ex) (RDs.ext ex)
theorem HR.sub {F':Addr->Prop} (r:HR F' G ρ h H) (hs:∀ b,F b->F' b):HR F G ρ h H:=⟨fun b hb=>r.pro b (hs b hb),r.nd,r.len,r.all⟩
theorem Ext.sub {F':Addr->Prop}{ρ1:List Addr}{H1:Hp} (r:Ext F' ρ ρ1 H H1) (hs:∀ b,F b->F' b):Ext F ρ ρ1 H H1:=⟨r.pre,r.tup,fun b hb=>r.frm b (hs b hb)⟩
theorem HR.upd_free (r:HR F G ρ h H) {a:Addr}{xs ys:List V} (fr:zfE F ρ h a) (ha:H a=some (.lst xs)):Ext F ρ ρ H (upd H a (.lst ys))∧HR F G ρ h (upd H a (.lst ys)):=by
 have hb0:∀ b,F b->b≠a:=fun b hb z=>fr.1 (z ▸ hb)
 have tp:∀ b xs,H b=some (.tup xs)->upd H a (.lst ys) b=some (.tup xs):=fun b xs q=>by
   rw [zy]
   . exact q
   . intro z;subst z;rw [ha]at q;cases q
 have ex:Ext F ρ ρ H (upd H a (.lst ys)):=⟨⟨[],by simp⟩,tp,fun b hb=>zy (hb0 b hb)⟩
 refine ⟨ex,fun b hb=>⟨by rw [zy (hb0 b hb)];exact (r.pro b hb).1,(r.pro b hb).2⟩,r.nd,r.len,fun n o q=>?_⟩
 obtain ⟨b,q1,q2⟩:=r.all n o q
 refine ⟨b,q1,?_⟩
 by_cases hb:b=a
 . subst hb
   have hsc:=fr.2 n o q1 q
   cases o with
   | scr xs =>
     obtain ⟨vs,z,w⟩:=q2
     refine ⟨vs,?_,RDs.ext ex _ _ w⟩
     rcases z with ⟨o',z⟩ | z
     . rw [ha]at z;cases z
     . exact .inr z
   | hole=>trivial
   | _=>cases hsc
 . exact q2.map (fun w z=>by rw [zy hb];exact z) (RD.ext ex) (RDs.ext ex)
end
end MI
end
section
namespace MI
open PySem PySem.Spec L2
section
variable {α β γ δ:Type}
abbrev RL (α β:Type):=(Addr->Prop)->List Addr->MH->Hp->α->β->Prop
def wp (F:Addr->Prop) (W:Nat->Hp->Prop) (G:GP) (Rl:RL α β) (env:zw) (σ:L2.St) (ρ:List Addr) (H:Hp) (r:R α) (Q:β->Hp->Prop):Prop:=match r with
 | .ok v h1=>∀ ρ1 H1 v1,Ext F ρ ρ1 H H1->zT ρ1 H1 env σ->HR F G ρ1 h1 H1->Rl F ρ1 h1 H1 v v1->Q v1 H1
 | .ex c h1=>∀ ρ1 H1,Ext F ρ ρ1 H H1->HR F G ρ1 h1 H1->W c H1
 | .bad=>False
def tG (W:Nat->Hp->Prop) (G:GP) (Rl:RL α β) (m:ME α):L2.St->Hp->(β->Hp->Prop)->Prop:=fun σ H Q =>
 ∃ F ρ env h,zT ρ H env σ∧HR F G ρ h H∧wp F W G Rl env σ ρ H (m env h) Q
variable {W:Nat->Hp->Prop}{F:Addr->Prop}{G:GP}{Rl:RL α β}{Rl':RL γ δ}{env:zw}{σ:L2.St}{ρ ρ1:List Addr}{H H1:Hp}{h h1:MH}
theorem wp.mono {r:R α}{Q:β->Hp->Prop} (w:wp F W G Rl env σ ρ H r Q) (e:Ext F ρ ρ1 H H1):wp F W G Rl env σ ρ1 H1 r Q:=by
 cases r with
 | ok v h1=>exact fun ρ2 H2 v1 e2=>w ρ2 H2 v1 (e.trans e2)
 | ex c h1=>exact fun ρ2 H2 e2=>w ρ2 H2 (e.trans e2)
 | bad=>exact w
theorem zE {m:ME α}{k:α->ME γ}{Q:δ->Hp->Prop}{P:β->Hp->Prop} (w:wp F W G Rl' env σ ρ H (zl m k env h) Q)
   (f:∀ x h1 ρ1 H1 y,Ext F ρ ρ1 H H1->zT ρ1 H1 env σ->HR F G ρ1 h1 H1->Rl F ρ1 h1 H1 x y->wp F W G Rl' env σ ρ1 H1 (k x env h1) Q->P y H1):wp F W G Rl env σ ρ H (m env h) P:=by
 unfold zl at w
 cases e:m env h with
 | ok v h1 =>
   rw [e]at w
   exact fun ρ1 H1 y ex er hr rl=>f v h1 ρ1 H1 y ex er hr rl (w.mono ex)
 | ex c h1=>rw [e]at w;exact w
 | bad=>rw [e]at w;exact w
end
theorem zU {X:Cx}{e:Expr}{t t':TE} (h:PE X e t) (i:∀ σ H Q,t' σ H Q->t σ H Q):PE X e t':=fun pins s σ H Q I hw=>h pins s σ H Q I (i _ _ _ hw)
theorem zoI {X:Cx}{e:Expr}{t t':TT} (h:PT X e t) (i:∀ σ H Q,t' σ H Q->t σ H Q):PT X e t':=fun pins s σ H Q I hw=>h pins s σ H Q I (i _ _ _ hw)
theorem zqw {X:Cx}{e:Expr}{t t':TT} (h:PW X e t) (i:∀ σ H Q,t' σ H Q->t σ H Q):PW X e t':=fun wh pins s σ H Q I hw=>h wh pins s σ H Q I (i _ _ _ hw)
theorem zrD {X:Cx}{e:List Expr}{t t':TA} (h:PA X e t) (i:∀ σ H Q,t' σ H Q->t σ H Q):PA X e t':=fun pos pins s σ H Q I hw=>h pos pins s σ H Q I (i _ _ _ hw)
theorem zsU {X:Cx}{e:Option Expr}{t t':TO} (h:PO X e t) (i:∀ σ H Q,t' σ H Q->t σ H Q):PO X e t':=fun pins s σ H Q I hw=>h pins s σ H Q I (i _ _ _ hw)
theorem zoD {X:Cx}{tg e:Expr}{t t':TI} (h:PI X tg e t) (i:∀ σ H Q,t' σ H Q->t σ H Q):PI X tg e t':=fun pins s σ H Q I hw=>h pins s σ H Q I (i _ _ _ hw)
abbrev rV:RL D V:=fun _ ρ _ H d v=>RD ρ H d v
abbrev rB:RL Bool Bool:=fun _ _ _ _ a b=>a=b
abbrev rO:RL (Option Int) (Option Int):=fun _ _ _ _ a b=>a=b
abbrev rA:RL (List D) (List V):=fun _ ρ _ H d v=>RDs ρ H d v
def rL (K:PySem.W.Frag):RL (List D) V:=fun _ ρ _ H xs v=>∃ a vs,v = .ref a∧H a=some (.lst vs)∧RDs ρ H xs vs
def rN (K:PySem.W.Frag):RL (List D) V:=fun F ρ h H xs v=>∃ a vs,v = .ref a∧H a=some (.lst vs)∧zfE F ρ h a∧RDs ρ H xs vs
abbrev tE (W:Nat->Hp->Prop) (G:GP) (m:ME D):TE:=tG W G rV m
abbrev tT (W:Nat->Hp->Prop) (G:GP) (m:ME Bool):TT:=tG W G rB m
abbrev tA (W:Nat->Hp->Prop) (G:GP) (m:ME (List D)):TA:=tG W G rA m
abbrev tO (W:Nat->Hp->Prop) (G:GP) (m:ME (Option Int)):TO:=tG W G rO m
abbrev tL (W:Nat->Hp->Prop) (G:GP) (m:ME (List D)):TE:=tG W G (rL G.K) m
abbrev tN (W:Nat->Hp->Prop) (G:GP) (m:ME (List D)):TE:=tG W G (rN G.K) m
@[irreducible] def JE (X:Cx) (e:Expr) (t:TE):Prop:=PE X e t
@[irreducible] def JT (X:Cx) (e:Expr) (t:TT):Prop:=PT X e t
@[irreducible] def JW (X:Cx) (e:Expr) (t:TT):Prop:=PW X e t
@[irreducible] def JA (X:Cx) (e:List Expr) (t:TA):Prop:=PA X e t
@[irreducible] def JO (X:Cx) (e:Option Expr) (t:TO):Prop:=PO X e t
theorem JE.to {X:Cx}{e:Expr}{t:TE} (h:JE X e t):PE X e t:=by unfold JE at h;exact h
theorem JE.of {X:Cx}{e:Expr}{t:TE} (h:PE X e t):JE X e t:=by unfold JE;exact h
theorem JT.to {X:Cx}{e:Expr}{t:TT} (h:JT X e t):PT X e t:=by unfold JT at h;exact h
theorem JT.of {X:Cx}{e:Expr}{t:TT} (h:PT X e t):JT X e t:=by unfold JT;exact h
theorem JW.to {X:Cx}{e:Expr}{t:TT} (h:JW X e t):PW X e t:=by unfold JW at h;exact h
theorem JW.of {X:Cx}{e:Expr}{t:TT} (h:PW X e t):JW X e t:=by unfold JW;exact h
theorem JA.to {X:Cx}{e:List Expr}{t:TA} (h:JA X e t):PA X e t:=by unfold JA at h;exact h
theorem JA.of {X:Cx}{e:List Expr}{t:TA} (h:PA X e t):JA X e t:=by unfold JA;exact h
theorem JO.to {X:Cx}{e:Option Expr}{t:TO} (h:JO X e t):PO X e t:=by unfold JO at h;exact h
theorem JO.of {X:Cx}{e:Option Expr}{t:TO} (h:PO X e t):JO X e t:=by unfold JO;exact h
section
variable {W:Nat->Hp->Prop}{X:Cx}{F:Addr->Prop}{G:GP}{env:zw}{σ:L2.St}{ρ:List Addr}{H:Hp}{h:MH}{a b c:Expr}{ma mb mc:ME D}{pos:Pos}{Q:VK}
theorem wp.done {α β:Type}{Rl:RL α β}{x:α}{y:β}{Q:β->Hp->Prop} (w:wp F W G Rl env σ ρ H (.ok x h) Q) (er:zT ρ H env σ) (hr:HR F G ρ h H) (r:Rl F ρ h H x y):Q y H:=w ρ H y Ext.refl er hr r
theorem wp.made {α β:Type}{Rl:RL α β}{x:α}{y:β}{Q:β->Hp->Prop}{p:Addr}{u:HO} (w:wp F W G Rl env σ ρ H (.ok x h) Q) (er:zT ρ H env σ) (hr:HR F G ρ h H) (hp:H p=none) (r:Rl F ρ h (upd H p u) x y):Q y (upd H p u) :=
 w ρ _ y (zcB hr hp) (er.ext (zcB hr hp)) (hr.new hp) r
theorem zc (i:Nat) {x:Str}{pos:Pos} (hN:X.N[i]?=some x:=by rfl) (hv:Vis X.env.scope x:=by first | exact Or.inl rfl | exact Or.inr (Or.inl rfl) | exact Or.inr (Or.inr rfl)) (hd:(x == ("__debug__":Str))=false:=by decide)
   (hcd:(x == ("__classdict__":Str))=false:=by decide):JE X (.Name x pos) (tE W G (var i)) :=
 .of (zU (zys hN hv hd hcd) fun σ H Q ⟨F,ρ,env,h,er,hr,w⟩=>by
   unfold var at w
   cases e:env[i]? with
   | none=>rw [e]at w;exact w.elim
   | some o =>
     cases o with
     | none=>rw [e]at w;exact w.elim
     | some d =>
       rw [e]at w
       obtain ⟨v,h1,h2⟩:=er.all i d e
       exact ⟨v,h1,w.done er hr h2⟩)
theorem q_c {e:Expr}{v:V}{d:D} (h:PE X e (tC v)) (r:∀ ρ H,RD ρ H d v):JE X e (tE W G (za d)) :=
 .of (zU h fun σ H Q ⟨F,ρ,env,h,er,hr,w⟩=>wp.done (h:=h) w er hr (r ρ H))
theorem zg {i j pos}:JE X (.Constant (.int i) j pos) (tE W G (za (.int i))):=q_c zA9 fun _ _=>by unfold RD;rfl
theorem zcq {i j pos}:JE X (.Constant (.bool i) j pos) (tE W G (za (.bl i))):=q_c zAI fun _ _=>by unfold RD;rfl
theorem zoR {j pos}:JE X (.Constant .none j pos) (tE W G (za .non)):=q_c zxL fun _ _=>by unfold RD;rfl
theorem zf6 {x:Str}{i:Int}{u:Value}{pos:Pos} (hg:Gl X x) (hm:X.mg x=some u) (r:zn (.int i) u) (hd:(x == ("__debug__":Str))=false:=by decide):JE X (.Name x pos) (tE W G (za (.int i))) :=
 q_c (zrd hg hm r hd) fun _ _=>by unfold RD;rfl
def OpM (W:Nat->Hp->Prop) (G:GP) (f:D->D->ME D) (r:R2):Prop:=∀ (F:Addr->Prop) (ρ:List Addr) (h:MH) (H:Hp) (env:zw) (σ:L2.St) (x y:D) (v u:V) (Q:VK),zT ρ H env σ->HR F G ρ h H->RD ρ H x v->RD ρ H y u ->
 wp F W G rV env σ ρ H (f x y env h) Q->r v u H Q
theorem zhr {op:Operator}{r:R2}{f:D->D->ME D} (ho:OpR X (binaryOp op) r) (hf:OpM W G f r) (ha:JE X a (tE W G ma)) (hb:JE X b (tE W G mb)):JE X (.BinOp a op b pos) (tE W G (bin f ma mb)) :=
 .of (zU (znT ho ha.to hb.to) fun σ H Q ⟨F,ρ,env,h,er,hr,w⟩=>⟨F,ρ,env,h,er,hr,zE w fun x h1 ρ1 H1 y e1 er1 hr1 r1 w1=>⟨F,ρ1,env,h1,er1,hr1,zE w1 fun x2 h2 ρ2 H2 y2 e2 er2 hr2 r2 w2 =>
   hf F ρ2 h2 H2 env σ x x2 y y2 Q er2 hr2 (RD.ext e2 _ _ r1) r2 w2⟩⟩)
theorem zfB {op:CmpOp}{r:R2}{f:D->D->ME D} (ho:OpR X (compareOp op) r∧OpM W G f r) (ha:JE X a (tE W G ma)) (hb:JE X b (tE W G mb)) (hm:behindInMarks op b=false):JE X (.Compare a [op] [b] pos) (tE W G (bin f ma mb)) :=
 .of (zU (zyk ho.1 ha.to hb.to hm) fun σ H Q ⟨F,ρ,env,h,er,hr,w⟩=>⟨F,ρ,env,h,er,hr,zE w fun x h1 ρ1 H1 y e1 er1 hr1 r1 w1=>⟨F,ρ1,env,h1,er1,hr1,zE w1 fun x2 h2 ρ2 H2 y2 e2 er2 hr2 r2 w2 =>
   ho.2 F ρ2 h2 H2 env σ x x2 y y2 Q er2 hr2 (RD.ext e2 _ _ r1) r2 w2⟩⟩)
theorem zCY {m:ME D}{Q:Bool->Hp->Prop} (w:wp F W G rB env σ ρ H (tst m env h) Q):wp F W G rV env σ ρ H (m env h) (fun v H1=>∃ k,v = .bl k∧Q k H1) :=
 zE w fun d h1 ρ1 H1 y e1 er1 hr1 r1 w1=>by
   cases d with
   | bl k =>
     have r1:RD ρ1 H1 (.bl k) y:=r1
     unfold RD at r1
     exact ⟨k,r1,wp.done (h:=h1) w1 er1 hr1 rfl⟩
   | _=>exact w1.elim
theorem zbK {op:CmpOp}{r:R2}{f:D->D->ME D} (ho:OpR X (compareOp op) r∧OpM W G f r) (ha:JE X a (tE W G ma)) (hb:JE X b (tE W G mb)) (hm:behindInMarks op b=false):JT X (.Compare a [op] [b] pos) (tT W G (tst (bin f ma mb))) :=
 .of (zoI (zAk ho.1 ha.to hb.to hm) fun σ H Q ⟨F,ρ,env,h,er,hr,w⟩=>⟨F,ρ,env,h,er,hr,zE (zCY (m:=bin f ma mb) w) fun x h1 ρ1 H1 y e1 er1 hr1 r1 w1=>⟨F,ρ1,env,h1,er1,hr1,zE w1 fun x2 h2 ρ2 H2 y2 e2 er2 hr2 r2 w2 =>
   ho.2 F ρ2 h2 H2 env σ x x2 y y2 _ er2 hr2 (RD.ext e2 _ _ r1) r2 w2⟩⟩)
theorem zxx {r r':R2}{f g:D->D->ME D}{Q:VK} (hf:OpM W G f r) (hg:OpM W G g r') (w:tE W G (zgm f g ma mb mc) σ H Q):zsN r r' (tE W G ma) (tE W G mb) (tE W G mc) σ H Q:=by
 obtain ⟨F,ρ,env,h,er,hr,w⟩:=w
 refine ⟨F,ρ,env,h,er,hr,zE w fun x h1 ρ1 H1 y e1 er1 hr1 r1 w1=>⟨F,ρ1,env,h1,er1,hr1,zE w1 fun x2 h2 ρ2 H2 y2 e2 er2 hr2 r2 w2=>?_⟩⟩
 refine hf F ρ2 h2 H2 env σ x x2 y y2 _ er2 hr2 (RD.ext e2 _ _ r1) r2 ?_
 refine zE (Rl:=rV) w2 fun d h3 ρ3 H3 z e3 er3 hr3 r3 w3=>?_
 cases d with
 | bl k =>
   have r3:RD ρ3 H3 (.bl k) z:=r3
   unfold RD at r3
   refine ⟨k,r3,?_⟩
   cases k with
   | true =>
     rw [if_pos rfl]
     exact ⟨F,ρ3,env,h3,er3,hr3,zE w3 fun x4 h4 ρ4 H4 y4 e4 er4 hr4 r4 w4=>hg F ρ4 h4 H4 env σ x2 x4 y2 y4 Q er4 hr4 (RD.ext (e3.trans e4) _ _ r2) r4 w4⟩
   | false =>
     rw [if_neg (by decide)]
     exact wp.done (h:=h3) w3 er3 hr3 (by unfold RD;rfl)
 | _=>exact w3.elim
theorem zsd {op op':CmpOp}{r r':R2}{f g:D->D->ME D} (ho:OpR X (compareOp op) r∧OpM W G f r) (ho':OpR X (compareOp op') r'∧OpM W G g r') (ha:JE X a (tE W G ma)) (hb:JE X b (tE W G mb)) (hc:JE X c (tE W G mc))
   (hm:lastMarks [op,op'] [b,c]=false:=by with_unfolding_all rfl):JE X (.Compare a [op,op'] [b,c] pos) (tE W G (zgm f g ma mb mc)) :=
 .of (zU (zyw ho.1 ho'.1 ha.to hb.to hc.to hm) fun σ H Q w=>zxx ho.2 ho'.2 w)
theorem zyi {op:UnaryOp}{r:V->Hp->VK->Prop}{f:D->ME D} (ho:UnR X (unaryOp op) r)
   (hf:∀ (F:Addr->Prop) (ρ:List Addr) (h:MH) (H:Hp) (env:zw) (σ:L2.St) (x:D) (v:V) (Q:VK),zT ρ H env σ->HR F G ρ h H->RD ρ H x v->wp F W G rV env σ ρ H (f x env h) Q->r v H Q) (ha:JE X a (tE W G ma)):JE X (.UnaryOp op a pos) (tE W G (un f ma)) :=
 .of (zU (zA2 ho ha.to) fun σ H Q ⟨F,ρ,env,h,er,hr,w⟩=>⟨F,ρ,env,h,er,hr,zE w fun x h1 ρ1 H1 y e1 er1 hr1 r1 w1=>hf F ρ1 h1 H1 env σ x y Q er1 hr1 r1 w1⟩)
theorem zfg (ha:JE X a (tE W G ma)):JE X (.UnaryOp .USub a pos) (tE W G (un z9 ma)):=zyi zyL (fun F ρ h H env σ x v Q er hr r w=>by
 cases x with
 | int i=>unfold RD at r;exact ⟨i,r,wp.done (h:=h) w er hr (by unfold RD;rfl)⟩
 | _=>exact w.elim) ha
theorem zoK {f:D->D->ME D}{C:Int->Int->Prop}{g:Int->Int->V}{k:Int->Int->D} (hk:∀ i j ρ H,RD ρ H (k i j) (g i j)) (hf:∀ x y env h,(∃ i j,x = .int i∧y = .int j∧((C i j∧f x y env h = .ok (k i j) h)∨f x y env h = .bad))∨f x y env h = .bad):OpM W G f (rI C g):=by
 intro F ρ h H env σ x y v u Q er hr r1 r2 w
 rcases hf x y env h with ⟨i,j,rfl,rfl,⟨hc,e⟩ | e⟩ | e
 . rw [e]at w
   unfold RD at r1 r2
   exact ⟨i,j,r1,r2,hc,w.done er hr (hk i j ρ H)⟩
 . rw [e]at w;exact w.elim
 . rw [e]at w;exact w.elim
theorem znX {f:D->D->ME D}{g:Int->Int->V}{k:Int->Int->D} (hk:∀ i j ρ H,RD ρ H (k i j) (g i j)) (hf:∀ x y env h,(∃ i j,x = .int i∧y = .int j∧f x y env h = .ok (k i j) h)∨f x y env h = .bad):OpM W G f (rI0 g):=by
 intro F ρ h H env σ x y v u Q er hr r1 r2 w
 rcases hf x y env h with ⟨i,j,rfl,rfl,e⟩ | e
 . rw [e]at w
   unfold RD at r1 r2
   exact ⟨i,j,r1,r2,w.done er hr (hk i j ρ H)⟩
 . rw [e]at w;exact w.elim
theorem zrA:OpM W G zF (rI0 fun i j=> .int (i+j)):=znX (k:=fun i j=> .int (i+j)) (fun _ _ _ _=>by unfold RD;rfl) fun x y env h=>by cases x <;> cases y <;> first | exact .inr rfl | exact .inl ⟨_,_,rfl,rfl,rfl⟩
theorem zyN:OpM W G zQ (rI0 fun i j=> .int (i - j)):=znX (k:=fun i j=> .int (i - j)) (fun _ _ _ _=>by unfold RD;rfl) fun x y env h=>by cases x <;> cases y <;> first | exact .inr rfl | exact .inl ⟨_,_,rfl,rfl,rfl⟩
theorem zAW:OpM W G zb3 (rI zhB fun i j=> .int (i * j)):=zoK (k:=fun i j=> .int (i * j)) (fun _ _ _ _=>by unfold RD;rfl) fun x y env h=>by
 cases x <;> cases y <;> first | exact .inr rfl | skip
 rename_i i j
 refine .inl ⟨i,j,rfl,rfl,?_⟩
 show (_∧(if (zcI i || zcI j)=true then za (.int (i * j)) else zI:ME D) env h=_)∨(if (zcI i || zcI j)=true then za (.int (i * j)) else zI:ME D) env h=_
 by_cases e:(zcI i || zcI j)=true
 . left
   rw [if_pos e]
   refine ⟨?_,rfl⟩
   unfold zhB
   simp only [zcI,Bool.or_eq_true,Bool.and_eq_true,decide_eq_true_eq]at e
   exact e
 . right;rw [if_neg e];rfl
theorem zxi:OpM W G zdl (rI zst fun i j=> .int (i / j)):=zoK (k:=fun i j=> .int (i / j)) (fun _ _ _ _=>by unfold RD;rfl) fun x y env h=>by
 cases x <;> cases y <;> first | exact .inr rfl | skip
 rename_i i j
 refine .inl ⟨i,j,rfl,rfl,?_⟩
 show (_∧(if 0 < j∧j < 1073741824 then za (.int (i / j)) else zI:ME D) env h=_)∨(if 0 < j∧j < 1073741824 then za (.int (i / j)) else zI:ME D) env h=_
 by_cases e:0 < j∧j < 1073741824
 . left;rw [if_pos e];exact ⟨e,rfl⟩
 . right;rw [if_neg e];rfl
theorem zB3:OpM W G zbE (rI (fun _ j=>0 < j) fun i j=> .int (i % j)):=zoK (k:=fun i j=> .int (i % j)) (fun _ _ _ _=>by unfold RD;rfl) fun x y env h=>by
 cases x <;> cases y <;> first | exact .inr rfl | skip
 rename_i i j
 refine .inl ⟨i,j,rfl,rfl,?_⟩
 show (_∧(if 0 < j then za (.int (i % j)) else zI:ME D) env h=_)∨(if 0 < j then za (.int (i % j)) else zI:ME D) env h=_
 by_cases e:0 < j
 . left;rw [if_pos e];exact ⟨e,rfl⟩
 . right;rw [if_neg e];rfl
theorem zoG (p:Int->Int->Bool):OpM W G (zhC p) (rI0 fun i j=> .bl (p i j)):=znX (k:=fun i j=> .bl (p i j)) (fun _ _ _ _=>by unfold RD;rfl) fun x y env h=>by cases x <;> cases y <;> first | exact .inr rfl | exact .inl ⟨_,_,rfl,rfl,rfl⟩
theorem zcQ (ha:JE X a (tE W G ma)) (hb:JE X b (tE W G mb)):JE X (.BinOp a .Add b pos) (tE W G (bin zF ma mb)):=zhr zx6 zrA ha hb
theorem zdy (ha:JE X a (tE W G ma)) (hb:JE X b (tE W G mb)):JE X (.BinOp a .Sub b pos) (tE W G (bin zQ ma mb)):=zhr zx7 zyN ha hb
theorem zhn (ha:JE X a (tE W G ma)) (hb:JE X b (tE W G mb)):JE X (.BinOp a .Mult b pos) (tE W G (bin zb3 ma mb)):=zhr zAG zAW ha hb
theorem ziw (ha:JE X a (tE W G ma)) (hb:JE X b (tE W G mb)):JE X (.BinOp a .FloorDiv b pos) (tE W G (bin zdl ma mb)):=zhr zCa zxi ha hb
theorem ze9 (ha:JE X a (tE W G ma)) (hb:JE X b (tE W G mb)):JE X (.BinOp a .Mod b pos) (tE W G (bin zbE ma mb)):=zhr zAM zB3 ha hb
end
end MI
end
section
namespace MI
open PySem PySem.Spec L2
mutual
def cv:D->L2.D
 | .non=> .non
 | .bl b=> .bl b
 | .int i=> .int i
 | .str x=> .str x
 | .tup ds=> .tup (cvs ds)
 | .obj _=> .non
def cvs:List D->List L2.D
 | []=>[]
 | d :: r=>cv d :: cvs r
end
def cvC:Cmp->L2.D
 | .d x=>cv x
 | .l xs=> .lst (cvs xs)
theorem zrm {ρ:List Addr}{H:Hp}:∀ (n:Nat),(∀ (d:D) (v:V),d.pl n=true->RD ρ H d v->Dat H (cv d) v∧dpt (cv d)<=n)∧(∀ (ds:List D) (vs:List V),ds.all (D.pl n)=true->RDs ρ H ds vs->zbD H (cvs ds) vs∧zch (cvs ds)<=n):=by
 intro n
 induction n with
 | zero =>
   have one:∀ (d:D) (v:V),d.pl 0=true->RD ρ H d v->Dat H (cv d) v∧dpt (cv d)<=0:=fun d v p r=>by
     cases d <;> first
       | (simp [D.pl]at p;done)
       | (unfold RD at r;simp [cv,Dat,dpt,r])
   refine ⟨one,fun ds=>?_⟩
   induction ds with
   | nil=>intro vs _ r;unfold RDs at r;simp [cvs,zbD,zch,r]
   | cons d ds ih =>
     intro vs p r
     rw [List.all_cons,Bool.and_eq_true]at p
     unfold RDs at r
     obtain ⟨x,q,rfl,r1,r2⟩:=r
     obtain ⟨h1,h2⟩:=one d x p.1 r1
     obtain ⟨h3,h4⟩:=ih q p.2 r2
     unfold cvs zbD zch
     exact ⟨⟨x,q,rfl,h1,h3⟩,by omega⟩
 | succ n ihn =>
   have one:∀ (d:D) (v:V),d.pl (n+1)=true->RD ρ H d v->Dat H (cv d) v∧dpt (cv d)<=n+1:=fun d v p r=>by
     cases d with
     | tup ds =>
       unfold D.pl at p
       unfold RD at r
       obtain ⟨a,vs,rfl,h1,h2⟩:=r
       obtain ⟨h3,h4⟩:=ihn.2 ds vs p h2
       unfold cv Dat dpt
       exact ⟨⟨a,vs,rfl,h1,h3⟩,by omega⟩
     | obj m=>simp [D.pl]at p
     | _=>unfold RD at r;simp [cv,Dat,dpt,r]
   refine ⟨one,fun ds=>?_⟩
   induction ds with
   | nil=>intro vs _ r;unfold RDs at r;simp [cvs,zbD,zch,r]
   | cons d ds ih =>
     intro vs p r
     rw [List.all_cons,Bool.and_eq_true]at p
     unfold RDs at r
     obtain ⟨x,q,rfl,r1,r2⟩:=r
     obtain ⟨h1,h2⟩:=one d x p.1 r1
     obtain ⟨h3,h4⟩:=ih q p.2 r2
     unfold cvs zbD zch
     exact ⟨⟨x,q,rfl,h1,h3⟩,by omega⟩
theorem zrY:∀ (n:Nat),(∀ (a b:D),a.pl n=true->b.pl n=true->eqD (cv a) (cv b)=peq a b)∧(∀ (a b:List D),a.all (D.pl n)=true->b.all (D.pl n)=true->zb7 (cvs a) (cvs b)=zbT a b):=by
 intro n
 have many:(∀ (a b:D),a.pl n=true->b.pl n=true->eqD (cv a) (cv b)=peq a b)->(∀ (a b:List D),a.all (D.pl n)=true->b.all (D.pl n)=true->zb7 (cvs a) (cvs b)=zbT a b):=by
   intro one a
   induction a with
   | nil=>intro b _ _;cases b <;> simp [cvs,zb7,zbT]
   | cons x a ih =>
     intro b p q
     cases b with
     | nil=>simp [cvs,zb7,zbT]
     | cons y b =>
       rw [List.all_cons,Bool.and_eq_true]at p q
       unfold cvs zb7 zbT
       rw [one x y p.1 q.1,ih b p.2 q.2]
 induction n with
 | zero =>
   have one:∀ (a b:D),a.pl 0=true->b.pl 0=true->eqD (cv a) (cv b)=peq a b:=fun a b p q=>by
     cases a <;> first
       | (simp [D.pl]at p;done)
       | (cases b <;> first
         | (simp [D.pl]at q;done)
         | simp [cv,eqD,peq])
   exact ⟨one,many one⟩
 | succ n ihn =>
   have one:∀ (a b:D),a.pl (n+1)=true->b.pl (n+1)=true->eqD (cv a) (cv b)=peq a b:=fun a b p q=>by
     cases a with
     | tup as =>
       cases b with
       | tup bs =>
         unfold D.pl at p q
         unfold cv eqD peq
         refine (ihn ?_).2 as bs p q
         intro one a
         induction a with
         | nil=>intro b _ _;cases b <;> simp [cvs,zb7,zbT]
         | cons x a ih =>
           intro b p q
           cases b with
           | nil=>simp [cvs,zb7,zbT]
           | cons y b =>
             rw [List.all_cons,Bool.and_eq_true]at p q
             unfold cvs zb7 zbT
             rw [one x y p.1 q.1,ih b p.2 q.2]
       | obj m=>simp [D.pl]at q
       | _=>simp [cv,eqD,peq]
     | obj m=>simp [D.pl]at p
     | _ =>
       cases b with
       | obj m=>simp [D.pl]at q
       | _=>simp [cv,eqD,peq]
   exact ⟨one,many one⟩
section
variable {W:Nat->Hp->Prop}{X:Cx}{F:Addr->Prop}{G:GP}{env:zw}{σ:L2.St}{ρ:List Addr}{H:Hp}{h:MH}{a b c:Expr}{ma mb mc:ME D}{pos:Pos}{Q:VK}{k:Nat}
theorem HR.lst (hr:HR F G ρ h H) {n:Nat}{v:V}{xs:List D} (r:RD ρ H (.obj n) v) (e:h[n]?=some (.lst xs)):∃ a vs,v = .ref a∧ρ[n]?=some a∧H a=some (.lst vs)∧RDs ρ H xs vs:=by
 unfold RD at r
 obtain ⟨a,rfl,ea⟩:=r
 obtain ⟨vs,h1,h2⟩:=hr.at e ea
 exact ⟨a,vs,rfl,ea,h1,h2⟩
theorem HR.scr (hr:HR F G ρ h H) {n:Nat}{v:V}{xs:List D} (r:RD ρ H (.obj n) v) (e:h[n]?=some (.scr xs)):∃ a vs,v = .ref a∧ρ[n]?=some a∧SqL G.K H a vs∧RDs ρ H xs vs:=by
 unfold RD at r
 obtain ⟨a,rfl,ea⟩:=r
 obtain ⟨vs,h1,h2⟩:=hr.at e ea
 refine ⟨a,vs,rfl,ea,?_,h2⟩
 rcases h1 with ⟨o,h1⟩ | h1
 . exact .inl (.inr ⟨o,h1⟩)
 . exact .inr h1
theorem HR.dic (hr:HR F G ρ h H) {n:Nat}{v:V}{xs:List (Int×D)} (r:RD ρ H (.obj n) v) (e:h[n]?=some (.dic xs)):∃ a vs,v = .ref a∧ρ[n]?=some a∧H a=some (.dK vs)∧KRs ρ H xs vs:=by
 unfold RD at r
 obtain ⟨a,rfl,ea⟩:=r
 obtain ⟨vs,h1,h2⟩:=hr.at e ea
 exact ⟨a,vs,rfl,ea,h1,h2⟩
theorem HR.ins (hr:HR F G ρ h H) {n c:Nat}{v:V}{xs:List (Nat×D)} (r:RD ρ H (.obj n) v) (e:h[n]?=some (.ins c xs)):∃ a C dx vs,v = .ref a∧ρ[n]?=some a∧G.cm[c]?=some C∧H a=some (.ins C dx vs)∧FRs G ρ H C xs vs:=by
 unfold RD at r
 obtain ⟨a,rfl,ea⟩:=r
 obtain ⟨C,dx,vs,h1,h2,h3⟩:=hr.at e ea
 exact ⟨a,C,dx,vs,rfl,ea,h1,h2,h3⟩
theorem zry {x:D}{k:Cmp} (e:zcb h x=some k):(∃ n xs,x = .obj n∧h[n]?=some (.lst xs)∧xs.all (D.pl 5)=true∧k = .l xs)∨(x.pl 5=true∧k = .d x):=by
 have fin:∀ {y:D},(if y.pl 5=true then some (Cmp.d y) else none)=some k->y.pl 5=true∧k = .d y:=fun {y} e=>by
   by_cases p:y.pl 5=true
   . rw [if_pos p]at e;cases e;exact ⟨p,rfl⟩
   . rw [if_neg p]at e;cases e
 cases x with
 | obj n =>
   simp only [zcb]at e
   cases q:h[n]? with
   | none=>rw [q]at e;cases e
   | some o =>
     rw [q]at e
     cases o with
     | lst xs =>
       dsimp only at e
       by_cases p:xs.all (D.pl 5)=true
       . rw [if_pos p]at e;cases e;exact .inl ⟨n,xs,rfl,q,p,rfl⟩
       . rw [if_neg p]at e;cases e
     | _=>cases e
 | _=>exact .inr (fin e)
theorem ziq (hr:HR F G ρ h H) {x:D}{v:V}{k:Cmp} (r:RD ρ H x v) (e:zcb h x=some k):Dat H (cvC k) v∧dpt (cvC k)<=100:=by
 rcases zry e with ⟨n,xs,rfl,q,p,rfl⟩ | ⟨p,rfl⟩
 . obtain ⟨a,vs,rfl,ea,h1,h2⟩:=hr.lst r q
   obtain ⟨h3,h4⟩:=(zrm 5).2 xs vs p h2
   unfold cvC Dat dpt
   exact ⟨⟨a,vs,rfl,.inl h1,h3⟩,by omega⟩
 . obtain ⟨h1,h2⟩:=(zrm 5).1 _ v p r
   exact ⟨h1,Nat.le_trans h2 (by decide)⟩
theorem zqL {x:D}{k:Cmp} (e:zcb h x=some k):match k with
   | .d y=>y.pl 5=true
   | .l ys=>ys.all (D.pl 5)=true:=by
 rcases zry e with ⟨n,xs,rfl,q,p,rfl⟩ | ⟨p,rfl⟩
 . exact p
 . exact p
theorem zsf (xs:List L2.D) (y:D):eqD (.lst xs) (cv y)=false∧eqD (cv y) (.lst xs)=false:=by
 cases y <;> simp [cv,eqD]
theorem zqN {x y:D}{k l:Cmp} (e:zcb h x=some k) (e':zcb h y=some l):eqD (cvC k) (cvC l)=k.eq l:=by
 have p:=zqL e
 have q:=zqL e'
 cases k with
 | d x =>
   cases l with
   | d y=>exact (zrY 5).1 x y p q
   | l ys=>exact (zsf _ _).2
 | l xs =>
   cases l with
   | d y=>exact (zsf _ _).1
   | l ys =>
     show eqD (.lst (cvs xs)) (.lst (cvs ys))=zbT xs ys
     unfold eqD
     exact (zrY 5).2 xs ys p q
theorem zBq:OpM W G eqV zh0:=fun F ρ h H env σ x y v u Q er hr r1 r2 w=>by
 unfold eqV at w
 cases e1:zcb h x with
 | none=>rw [e1]at w;exact w.elim
 | some k =>
   cases e2:zcb h y with
   | none=>rw [e1,e2]at w;exact w.elim
   | some l =>
     rw [e1,e2]at w
     obtain ⟨h1,h2⟩:=ziq hr r1 e1
     obtain ⟨h3,h4⟩:=ziq hr r2 e2
     exact ⟨_,_,h1,h3,h2,w.done er hr (by rw [zqN e1 e2];unfold RD;rfl)⟩
theorem zye:OpM W G neV zik:=fun F ρ h H env σ x y v u Q er hr r1 r2 w=>by
 unfold neV at w
 cases e1:zcb h x with
 | none=>rw [e1]at w;exact w.elim
 | some k =>
   cases e2:zcb h y with
   | none=>rw [e1,e2]at w;exact w.elim
   | some l =>
     rw [e1,e2]at w
     obtain ⟨h1,h2⟩:=ziq hr r1 e1
     obtain ⟨h3,h4⟩:=ziq hr r2 e2
     exact ⟨_,_,h1,h3,h2,w.done er hr (by rw [zqN e1 e2];unfold RD;rfl)⟩
theorem zfN (hr:zP k X.A):OpR X (compareOp .Lt) (rI0 fun i j=> .bl (decide (i < j)))∧OpM W G ltV (rI0 fun i j=> .bl (decide (i < j))):=⟨zBE,zoG _⟩
theorem zoU (hr:zP k X.A):OpR X (compareOp .LtE) (rI0 fun i j=> .bl (decide (i<=j)))∧OpM W G leV (rI0 fun i j=> .bl (decide (i<=j))):=⟨zAv,zoG _⟩
theorem zo2 (hr:zP k X.A):OpR X (compareOp .Gt) (rI0 fun i j=> .bl (decide (j < i)))∧OpM W G gtV (rI0 fun i j=> .bl (decide (j < i))):=⟨zBS,zoG _⟩
theorem zfd (hr:zP k X.A):OpR X (compareOp .Eq) zh0∧OpM W G eqV zh0:=⟨zzf hr,zBq⟩
theorem zeu (hr:zP k X.A):OpR X (compareOp .NotEq) zik∧OpM W G neV zik:=⟨zAJ hr,zye⟩
theorem zsM {d:D}{v:V} (r:RD ρ H d v) (f:zcv d=true):zbY v=true:=by
 cases d <;> first | (simp [zcv]at f;done) | (unfold RD at r;subst r;rfl)
theorem zqO:∀ {ds:List D}{vs:List V},RDs ρ H ds vs->ds.all zcv=true->vs.all zbY=true
 | [],vs,r,_=>by unfold RDs at r;subst r;rfl
 | d :: ds,vs,r,f=>by
   unfold RDs at r
   obtain ⟨x,q,rfl,r1,r2⟩:=r
   rw [List.all_cons,Bool.and_eq_true]at f
   rw [List.all_cons,zsM r1 f.1,zqO r2 f.2];rfl
theorem zBR {d e:D}{v u:V} (r:RD ρ H d v) (r':RD ρ H e u) (f:zcv d=true) (f':zcv e=true):L2.eqV v u=peq d e:=by
 cases d <;> first
   | (simp [zcv]at f;done)
   | (cases e <;> first
     | (simp [zcv]at f';done)
     | (unfold RD at r r';subst r r';simp [L2.eqV,peq]))
theorem zsa {d:D}{v:V} (r:RD ρ H d v) (f:zcv d=true):∀ {ds:List D}{vs:List V},RDs ρ H ds vs->ds.all zcv=true->L2.inV v vs=inB d ds
 | [],vs,r',_=>by unfold RDs at r';subst r';rfl
 | e :: ds,vs,r',f'=>by
   unfold RDs at r'
   obtain ⟨x,q,rfl,r1,r2⟩:=r'
   rw [List.all_cons,Bool.and_eq_true]at f'
   have ih:=zsa r f r2 f'.2
   unfold L2.inV inB at ih ⊢
   rw [List.any_cons,List.any_cons,ih,zBR r1 r f'.1 f]
theorem zo5:∀ {kvs:List (Int×D)}{vs:List (Key×V)}{k:Int},KRs ρ H kvs vs->match look k kvs with
   | some d=>∃ v,zdk vs (Sum.inl k)=some v∧RD ρ H d v
   | none=>zdk vs (Sum.inl k)=none
 | [],vs,k,r=>by unfold KRs at r;subst r;rfl
 | p :: kvs,vs,k,r=>by
   unfold KRs at r
   obtain ⟨v,q,rfl,r1,r2⟩:=r
   unfold look
   by_cases e:p.1=k
   . rw [if_pos e]
     exact ⟨v,zis (by rw [e]),r1⟩
   . rw [if_neg e,zhQ (fun z=>e (Sum.inl.inj z))]
     exact zo5 r2
def zhs (neg:Bool):R2:=fun x y H Q=>∃ a o,y = .ref a∧zff H a x o∧Q (.bl (if neg then !o.isSome else o.isSome)) H
theorem zzD (hr:zP k X.A):OpR X (compareOp .NotIn) (zhs true):=fun pins s σ H x y v u Q I rx ry ⟨a,o,e,g,q⟩=>by
 subst e;cases ry
 exact zCi (zoE hr) I g rx fun s' I'=>⟨.bl (!o.isSome),H,I',rfl,q⟩
theorem zzC {x y:D}:(∃ b,inV x y env h = .ok (.bl b) h)∨inV x y env h = .bad:=by
 cases y with
 | tup ds =>
   simp only [inV]
   split
   . exact .inl ⟨_,rfl⟩
   . exact .inr rfl
 | obj n =>
   simp only [inV]
   cases q:h[n]? with
   | none=>exact .inr rfl
   | some o =>
     cases o with
     | lst xs =>
       dsimp only
       split
       . exact .inl ⟨_,rfl⟩
       . exact .inr rfl
     | scr xs =>
       dsimp only
       split
       . exact .inl ⟨_,rfl⟩
       . exact .inr rfl
     | dic kvs=>cases x <;> first | exact .inl ⟨_,rfl⟩ | exact .inr rfl
     | _=>exact .inr rfl
 | _=>exact .inr rfl
theorem zyD {x y:D}{v u:V}{neg b:Bool}{Q:VK} (hK:X.K=G.K) (hr:HR F G ρ h H) (r1:RD ρ H x v) (r2:RD ρ H y u) (w:inV x y env h = .ok (.bl b) h) (q0:Q (.bl (if neg then !b else b)) H) :
   rIn X.K neg v u H Q∨zhs neg v u H Q:=by
 have seq:∀ {p:Addr} {vs:List V} {ds:List D},u = .ref p->(SqL X.K H p vs∨SqT X.K H p vs)->RDs ρ H ds vs->(if (zcv x && ds.all zcv)=true then R.ok (.bl (inB x ds)) h else .bad:R D) = .ok (.bl b) h->rIn X.K neg v u H Q:=fun {p vs ds} e sq rs w=>by
   by_cases f:(zcv x && ds.all zcv)=true
   . rw [if_pos f]at w
     cases w
     rw [Bool.and_eq_true]at f
     refine ⟨p,vs,e,sq,zsM r1 f.1,zqO rs f.2,?_⟩
     rw [zsa r1 f.1 rs f.2]
     exact q0
   . rw [if_neg f]at w;cases w
 cases y with
 | tup ds =>
   simp only [inV]at w
   unfold RD at r2
   obtain ⟨p,vs,e,hp,rs⟩:=r2
   exact .inl (seq e (.inr (.inl (.inl hp))) rs w)
 | obj n =>
   simp only [inV]at w
   cases q:h[n]? with
   | none=>rw [q]at w;cases w
   | some o =>
     rw [q]at w
     cases o with
     | lst xs =>
       obtain ⟨a,vs,e,ea,h1,h2⟩:=hr.lst r2 q
       exact .inl (seq e (.inl (SqL.of h1)) h2 w)
     | scr xs =>
       obtain ⟨a,vs,e,ea,h1,h2⟩:=hr.scr r2 q
       exact .inl (seq e (.inl (by rw [hK];exact h1)) h2 w)
     | dic kvs =>
       obtain ⟨a,vs,e,ea,h1,h2⟩:=hr.dic r2 q
       cases x with
       | int i =>
         dsimp only at w
         unfold RD at r1
         subst r1
         refine .inr ⟨a,zdk vs (Sum.inl i),e,zff.k (k:=Sum.inl i) h1,?_⟩
         have lv:=zo5 (k:=i) h2
         cases el:look i kvs with
         | none=>rw [el]at lv w;cases w;rw [lv];exact q0
         | some d =>
           rw [el]at lv w
           obtain ⟨v',e',_⟩:=lv
           cases w
           rw [e'];exact q0
       | _=>cases w
     | _=>cases w
 | _=>cases w
def ROr (r r':R2):R2:=fun x y H Q=>r x y H Q∨r' x y H Q
theorem zxW (hK:X.K=G.K):OpM W G zd8 (ROr (rIn X.K true) (zhs true)):=fun F ρ h H env σ x y v u Q er hr r1 r2 w=>by
 unfold zd8 zl at w
 rcases zzC (x:=x) (y:=y) (env:=env) (h:=h) with ⟨b,e⟩ | e
 . rw [e]at w
   exact zyD (neg:=true) hK hr r1 r2 e (wp.done (h:=h) w er hr (by unfold RD;rfl))
 . rw [e]at w;exact w.elim
theorem zqx (hr:zP k X.A) (hK:X.K=G.K:=by rfl):OpR X (compareOp .NotIn) (ROr (rIn X.K true) (zhs true))∧OpM W G zd8 (ROr (rIn X.K true) (zhs true)):=⟨zCg.or (zzD hr),zxW hK⟩
theorem RD.non_iff {d:D}{v:V} (r:RD ρ H d v):(v = .non)↔(d = .non):=by
 cases d <;> unfold RD at r <;> first
   | (subst r;simp;done)
   | (obtain ⟨a,vs,rfl,_⟩:=r;simp;done)
   | (obtain ⟨a,rfl,_⟩:=r;simp;done)
def rIs (neg:Bool):R2:=ROr (fun x y H Q=>y = .non∧Q (.bl (if neg then !decide (x = .non) else decide (x = .non))) H) (fun x y H Q=>∃ b c,x = .bl b∧y = .bl c∧Q (.bl (if neg then !(b == c) else (b == c))) H)
theorem zCU:OpM W G isN (rIs false):=fun F ρ h H env σ x y v u Q er hr r1 r2 w=>by
 cases y with
 | non =>
   unfold RD at r2
   refine .inl ⟨r2,?_⟩
   have e:decide (v = .non)=decide (x = .non):=decide_eq_decide.mpr r1.non_iff
   have w':wp F W G rV env σ ρ H (.ok (.bl (decide (x = .non))) h) Q:=by cases x <;> exact w
   exact w'.done er hr (by rw [e];unfold RD;rfl)
 | bl c =>
   cases x with
   | bl b=>unfold RD at r1 r2;exact .inr ⟨b,c,r1,r2,wp.done (h:=h) w er hr (by unfold RD;rfl)⟩
   | _=>exact w.elim
 | _=>cases x <;> exact w.elim
theorem zzF:OpM W G zce (rIs true):=fun F ρ h H env σ x y v u Q er hr r1 r2 w=>by
 cases y with
 | non =>
   unfold RD at r2
   refine .inl ⟨r2,?_⟩
   have e:decide (v = .non)=decide (x = .non):=decide_eq_decide.mpr r1.non_iff
   have w':wp F W G rV env σ ρ H (.ok (.bl (!decide (x = .non))) h) Q:=by cases x <;> exact w
   exact w'.done er hr (by rw [e];unfold RD;rfl)
 | bl c =>
   cases x with
   | bl b=>unfold RD at r1 r2;exact .inr ⟨b,c,r1,r2,wp.done (h:=h) w er hr (by unfold RD;rfl)⟩
   | _=>exact w.elim
 | _=>cases x <;> exact w.elim
theorem zxs (hr:zP k X.A):OpR X (compareOp .Is) (rIs false)∧OpM W G isN (rIs false):=⟨zBV.or zB5,zCU⟩
theorem zin (hr:zP k X.A):OpR X (compareOp .IsNot) (rIs true)∧OpM W G zce (rIs true):=⟨zCG.or zAw,zzF⟩
theorem zhR (ha:JE X a (tE W G ma)):JE X (.UnaryOp .Not a pos) (tE W G (un zfC ma)) :=
 .of (zU (zzN ha.to) fun σ H Q ⟨F,ρ,env,h,er,hr,w⟩=>⟨F,ρ,env,h,er,hr,zE w fun x h1 ρ1 H1 y e1 er1 hr1 r1 w1=>by
   cases x with
   | bl b=>have r1:RD ρ1 H1 (.bl b) y:=r1;unfold RD at r1;exact ⟨b,r1,wp.done (h:=h1) w1 er1 hr1 (by unfold RD;rfl)⟩
   | _=>exact w1.elim⟩)
variable {rest:List Expr}
theorem zgV {op} (ha:JE X a (tE W G ma)):JE X (.BoolOp op [a] pos) (tE W G ma) := .of (zCQ ha.to)
theorem zg6 (ha:JE X a (tE W G ma)) (hb:JE X (.BoolOp .And (b :: rest) pos) (tE W G mb)):JE X (.BoolOp .And (a :: b :: rest) pos) (tE W G (ze8 ma mb)) :=
 .of (zU (zxK ha.to hb.to) fun σ H Q ⟨F,ρ,env,h,er,hr,w⟩=>⟨F,ρ,env,h,er,hr,zE w fun x h1 ρ1 H1 y e1 er1 hr1 r1 w1=>by
   cases x with
   | bl b =>
     have r1:RD ρ1 H1 (.bl b) y:=r1
     unfold RD at r1
     refine ⟨b,r1,?_⟩
     cases b with
     | true=>rw [if_pos rfl];exact ⟨F,ρ1,env,h1,er1,hr1,w1⟩
     | false=>rw [if_neg (by decide)];exact wp.done (h:=h1) w1 er1 hr1 (by unfold RD;rfl)
   | _=>exact w1.elim⟩)
theorem zx5 (ha:JE X a (tE W G ma)) (hb:JE X (.BoolOp .Or (b :: rest) pos) (tE W G mb)):JE X (.BoolOp .Or (a :: b :: rest) pos) (tE W G (orV ma mb)) :=
 .of (zU (zCN ha.to hb.to) fun σ H Q ⟨F,ρ,env,h,er,hr,w⟩=>⟨F,ρ,env,h,er,hr,zE w fun x h1 ρ1 H1 y e1 er1 hr1 r1 w1=>by
   cases x with
   | bl b =>
     have r1:RD ρ1 H1 (.bl b) y:=r1
     unfold RD at r1
     refine ⟨b,r1,?_⟩
     cases b with
     | false=>rw [if_neg (by decide)];exact ⟨F,ρ1,env,h1,er1,hr1,w1⟩
     | true=>rw [if_pos rfl];exact wp.done (h:=h1) w1 er1 hr1 (by unfold RD;rfl)
   | _=>exact w1.elim⟩)
variable {ta tb:ME Bool}
theorem zir (hc:JT X c (tT W G ta)) (ha:JE X a (tE W G ma)) (hb:JE X b (tE W G mb)):JE X (.IfExp c a b pos) (tE W G (ifE ta ma mb)) :=
 .of (zU (zzz hc.to ha.to hb.to) fun σ H Q ⟨F,ρ,env,h,er,hr,w⟩=>⟨F,ρ,env,h,er,hr,zE w fun x h1 ρ1 H1 y e1 er1 hr1 r1 w1=>by
   obtain rfl:x=y:=r1
   cases x with
   | true=>rw [if_pos rfl]at w1 ⊢;exact ⟨F,ρ1,env,h1,er1,hr1,w1⟩
   | false=>rw [if_neg (by decide)]at w1 ⊢;exact ⟨F,ρ1,env,h1,er1,hr1,w1⟩⟩)
theorem zcS (ha:JT X a (tT W G ta)):JT X (.UnaryOp .Not a pos) (tT W G (z8 ta)) :=
 .of (zoI (zBL ha.to) fun σ H Q ⟨F,ρ,env,h,er,hr,w⟩=>⟨F,ρ,env,h,er,hr,zE w fun x h1 ρ1 H1 y e1 er1 hr1 r1 w1=>by
   obtain rfl:x=y:=r1
   exact wp.done (h:=h1) w1 er1 hr1 rfl⟩)
theorem zsE (ha:JT X a (tT W G ta)):JW X (.BoolOp .And [a] pos) (tT W G ta) := .of (zzp ha.to)
theorem ze2 (ha:JT X a (tT W G ta)):JW X (.BoolOp .Or [a] pos) (tT W G ta) := .of (zzt ha.to)
theorem zpg (ha:JT X a (tT W G ta)) (hb:JW X (.BoolOp .And (b :: rest) pos) (tT W G tb)):JW X (.BoolOp .And (a :: b :: rest) pos) (tT W G (zbV ta tb)) :=
 .of (zqw (zyS ha.to hb.to) fun σ H Q ⟨F,ρ,env,h,er,hr,w⟩=>⟨F,ρ,env,h,er,hr,zE w fun x h1 ρ1 H1 y e1 er1 hr1 r1 w1=>by
   obtain rfl:x=y:=r1
   cases x with
   | true=>rw [if_pos rfl]at w1 ⊢;exact ⟨F,ρ1,env,h1,er1,hr1,w1⟩
   | false=>rw [if_neg (by decide)]at w1 ⊢;exact wp.done (h:=h1) w1 er1 hr1 rfl⟩)
theorem zeG (ha:JT X a (tT W G ta)) (hb:JW X (.BoolOp .Or (b :: rest) pos) (tT W G tb)):JW X (.BoolOp .Or (a :: b :: rest) pos) (tT W G (orT ta tb)) :=
 .of (zqw (zAC ha.to hb.to) fun σ H Q ⟨F,ρ,env,h,er,hr,w⟩=>⟨F,ρ,env,h,er,hr,zE w fun x h1 ρ1 H1 y e1 er1 hr1 r1 w1=>by
   obtain rfl:x=y:=r1
   cases x with
   | false=>rw [if_neg (by decide)]at w1 ⊢;exact ⟨F,ρ1,env,h1,er1,hr1,w1⟩
   | true=>rw [if_pos rfl]at w1 ⊢;exact wp.done (h:=h1) w1 er1 hr1 rfl⟩)
theorem t_w (h:JW X a (tT W G ta)):JT X a (tT W G ta) := .of (PW.pt h.to)
theorem zck (ha:JE X a (tE W G ma)) (he:∀ whole,isTrue a X.env whole=(do let v <- whole;standAt a.pos;holding [v] (truthy v))) (hK:X.K=G.K:=by rfl):JT X a (tT W G (tru ma)) :=
 .of (zoI (zCs ha.to he) fun σ H Q ⟨F,ρ,env,h,er,hr,w⟩=>⟨F,ρ,env,h,er,hr,zE w fun x h1 ρ1 H1 y e1 er1 hr1 r1 w1=>by
   unfold zgR at w1
   have r1:RD ρ1 H1 x y:=r1
   cases x with
   | non=>unfold RD at r1;subst r1;exact ⟨false,rfl,wp.done (h:=h1) w1 er1 hr1 rfl⟩
   | bl b=>unfold RD at r1;subst r1;exact ⟨b,rfl,wp.done (h:=h1) w1 er1 hr1 rfl⟩
   | int i=>unfold RD at r1;subst r1;exact ⟨i != 0,rfl,wp.done (h:=h1) w1 er1 hr1 rfl⟩
   | tup ds =>
     unfold RD at r1
     obtain ⟨p,vs,rfl,hp,rs⟩:=r1
     refine ⟨!ds.isEmpty,.inr (.inl ⟨vs,.inl (.inl hp),?_⟩),wp.done (h:=h1) w1 er1 hr1 rfl⟩
     have:=rs.length
     cases ds <;> cases vs <;> first | rfl | simp at this
   | obj n =>
     dsimp only at w1
     cases q:h1[n]? with
     | none=>rw [q]at w1;exact w1.elim
     | some o =>
       rw [q]at w1
       cases o with
       | lst xs =>
         obtain ⟨p,vs,rfl,ea,hp,rs⟩:=hr1.lst r1 q
         refine ⟨!xs.isEmpty,.inl ⟨vs,SqL.of hp,?_⟩,wp.done (h:=h1) w1 er1 hr1 rfl⟩
         have:=rs.length
         cases xs <;> cases vs <;> first | rfl | simp at this
       | scr xs =>
         obtain ⟨p,vs,rfl,ea,hp,rs⟩:=hr1.scr r1 q
         refine ⟨!xs.isEmpty,.inl ⟨vs,by rw [hK];exact hp,?_⟩,wp.done (h:=h1) w1 er1 hr1 rfl⟩
         have:=rs.length
         cases xs <;> cases vs <;> first | rfl | simp at this
       | dic kvs =>
         obtain ⟨p,vs,rfl,ea,hp,rs⟩:=hr1.dic r1 q
         refine ⟨!kvs.isEmpty,.inr (.inr ⟨vs,hp,?_⟩),wp.done (h:=h1) w1 er1 hr1 rfl⟩
         cases kvs with
         | nil=>unfold KRs at rs;subst rs;rfl
         | cons p r=>unfold KRs at rs;obtain ⟨v,q,rfl,_⟩:=rs;rfl
       | _=>exact w1.elim
   | _=>exact w1.elim⟩)
end
end MI
end
section
namespace MI
open PySem PySem.Spec L2
section
variable {α β γ δ:Type}{W:Nat->Hp->Prop}{F:Addr->Prop}{G:GP}{Rl:RL α β}{Rl':RL γ δ}{env:zw}{σ:L2.St}{ρ:List Addr}{H:Hp}{h:MH}
theorem zrs {r:R α}{Rl2:RL α δ}{Q:δ->Hp->Prop}{P:β->Hp->Prop} (w:wp F W G Rl2 env σ ρ H r Q)
   (f:∀ x h1 ρ1 H1 y,Ext F ρ ρ1 H H1->zT ρ1 H1 env σ->HR F G ρ1 h1 H1->Rl F ρ1 h1 H1 x y->wp F W G Rl2 env σ ρ1 H1 (.ok x h1) Q->P y H1):wp F W G Rl env σ ρ H r P:=by
 cases r with
 | ok v h1=>exact fun ρ1 H1 y ex er hr rl=>f v h1 ρ1 H1 y ex er hr rl (w.mono ex)
 | ex c h1=>exact w
 | bad=>exact w
end
section
variable {W:Nat->Hp->Prop}{X:Cx}{F:Addr->Prop}{G:GP}{env:zw}{σ:L2.St}{ρ:List Addr}{H:Hp}{h:MH}{a b c e:Expr}{es:List Expr}{ma mb mc:ME D}{ml ml':ME (List D)}{pos p p1 p2:Pos}{Q:VK}{k:Nat}
theorem zo:JA X [] (tA W G zd) := .of (zrD zcZ fun σ H Q ⟨F,ρ,env,h,er,hr,w⟩=>wp.done (h:=h) w er hr RDs.nil)
theorem ze (ha:JE X e (tE W G ma)) (hr:JA X es (tA W G ml)) (hs:starEach (e :: es) X.env=(false,eval e X.env) :: starEach es X.env):JA X (e :: es) (tA W G (zb ma ml)) :=
 .of (zrD (zcy ha.to hr.to hs) fun σ H Q ⟨F,ρ,env,h,er,hr,w⟩=>⟨F,ρ,env,h,er,hr,zE w fun x h1 ρ1 H1 y e1 er1 hr1 r1 w1=>⟨F,ρ1,env,h1,er1,hr1,zE w1 fun xs h2 ρ2 H2 ys e2 er2 hr2 r2 w2 =>
   wp.done (h:=h2) w2 er2 hr2 (RDs.cons (RD.ext e2 _ _ r1) r2)⟩⟩)
theorem zgS {n:Nat} (h:n<=1000000):n<=sizeLine:=by rw [sizeLine_eq];omega
theorem zek {x1} (ha:JA X es (tA W G ml)):JE X (.Tuple es x1 pos) (tE W G (zca ml)) :=
 .of (zU (zya ha.to) fun σ H Q ⟨F,ρ,env,h,er,hr,w⟩=>⟨F,ρ,env,h,er,hr,zE w fun xs h1 ρ1 H1 ys e1 er1 hr1 r1 w1=>by
   by_cases hl:xs.length<=1000
   . rw [if_pos hl]at w1
     have r1:RDs ρ1 H1 xs ys:=r1
     refine ⟨zgS (by rw [<- r1.length];omega),fun p hp=>?_⟩
     refine wp.made (h:=h1) w1 er1 hr1 hp ?_
     show RD ρ1 (upd H1 p (.tup ys)) (.tup xs) (.ref p)
     unfold RD
     exact ⟨p,ys,rfl,zbQ,RDs.ext (zcB hr1 hp) _ _ r1⟩
   . rw [if_neg hl]at w1;exact w1.elim⟩)
theorem zfM {p:Addr}{xs:List D}{vs:List V} (hr:HR F G ρ h H) (hp:H p=none) (r:RDs ρ H xs vs):rN G.K F ρ h (upd H p (.lst vs)) xs (.ref p):=⟨p,vs,rfl,zbQ,hr.fresh hp,RDs.ext (zcB hr hp) _ _ r⟩
theorem zem (ha:JA X es (tA W G ml)):JE X (.List es pos) (tN W G (zbA ml)) :=
 .of (zU (zCl ha.to) fun σ H Q ⟨F,ρ,env,h,er,hr,w⟩=>⟨F,ρ,env,h,er,hr,zE w fun xs h1 ρ1 H1 ys e1 er1 hr1 r1 w1=>by
   by_cases hl:xs.length<=1000
   . rw [if_pos hl]at w1
     have r1:RDs ρ1 H1 xs ys:=r1
     exact ⟨zgS (by rw [<- r1.length];omega),fun p hp=>wp.made (h:=h1) w1 er1 hr1 hp (zfM hr1 hp r1)⟩
   . rw [if_neg hl]at w1;exact w1.elim⟩)
theorem zsR {a:Addr}{vs:List V}{xs:List D}{Q:VK} (w:wp F W G rV env σ ρ H (zg1 (.lst xs) env h) Q) (er:zT ρ H env σ) (hr:HR F G ρ h H) (ha:H a=some (.lst vs)) (fr:zfE F ρ h a) (r:RDs ρ H xs vs):Q (.ref a) H:=by
 have ex:Ext F ρ (ρ++[a]) H H:=⟨⟨[a],rfl⟩,fun _ _ z=>z,fun _ _=>rfl⟩
 refine w (ρ++[a]) H (.ref a) ex (er.ext ex) (hr.named fr ⟨vs,ha,RDs.snocρ _ _ r⟩) ?_
 show RD _ _ (.obj h.length) (.ref a)
 unfold RD
 exact ⟨a,rfl,by rw [<- hr.len];simp⟩
theorem zbO (ha:JE X e (tN W G ml)):JE X e (tE W G (zH ml)) :=
 .of (zU ha.to fun σ H Q ⟨F,ρ,env,h,er,hr,w⟩=>⟨F,ρ,env,h,er,hr,zE w fun xs h1 ρ1 H1 y e1 er1 hr1 ⟨a,vs,ey,ha,fr,r1⟩ w1=>by
   subst ey;exact zsR w1 er1 hr1 ha fr r1⟩)
theorem zgn (ha:JE X e (tN W G ml)):JE X e (tL W G ml) :=
 .of (zU ha.to fun σ H Q ⟨F,ρ,env,h,er,hr,w⟩=>⟨F,ρ,env,h,er,hr,zrs w fun x h1 ρ1 H1 y e1 er1 hr1 ⟨a,vs,ey,ha,fr,r1⟩ w1=>by
   subst ey;exact w1.done er1 hr1 ⟨a,vs,rfl,ha,r1⟩⟩)
theorem zzL {n:Nat}{y:V}{P:Prop}{β:Type}{Rl:RL (List D) β}{Q:β->Hp->Prop} (w:wp F W G Rl env σ ρ H (zcc n env h) Q) (hr:HR F G ρ h H) (r:RD ρ H (.obj n) y)
   (f:∀ a vs xs,y = .ref a->ρ[n]?=some a->H a=some (.lst vs)->RDs ρ H xs vs->h[n]?=some (.lst xs)->wp F W G Rl env σ ρ H (.ok xs h) Q->P):P:=by
 simp only [zcc]at w
 cases q:h[n]? with
 | none=>rw [q]at w;exact w.elim
 | some o =>
   rw [q]at w
   cases o with
   | lst xs=>obtain ⟨a,vs,ea,e1,h1,h2⟩:=hr.lst r q;exact f a vs xs ea e1 h1 h2 q w
   | _=>exact w.elim
theorem zov {γ δ:Type}{Rl':RL γ δ}{n:Nat}{y:V}{P:Prop}{Q:δ->Hp->Prop}{kk:List D->ME γ} (w:wp F W G Rl' env σ ρ H (zl (zcc n) kk env h) Q) (hr:HR F G ρ h H) (r:RD ρ H (.obj n) y)
   (f:∀ a vs xs,y = .ref a->ρ[n]?=some a->H a=some (.lst vs)->RDs ρ H xs vs->h[n]?=some (.lst xs)->wp F W G Rl' env σ ρ H (kk xs env h) Q->P):P:=by
 simp only [zl,zcc]at w
 cases q:h[n]? with
 | none=>rw [q]at w;exact w.elim
 | some o =>
   rw [q]at w
   cases o with
   | lst xs=>obtain ⟨a,vs,ea,e1,h1,h2⟩:=hr.lst r q;exact f a vs xs ea e1 h1 h2 q w
   | _=>exact w.elim
theorem zfH (ha:JE X e (tE W G ma)):JE X e (tL W G (zcn ma)) :=
 .of (zU ha.to fun σ H Q ⟨F,ρ,env,h,er,hr,w⟩=>⟨F,ρ,env,h,er,hr,zE w fun x h1 ρ1 H1 y e1 er1 hr1 r1 w1=>by
   cases x with
   | obj n=>exact zzL w1 hr1 r1 fun a vs xs ey _ ha rs _ w2=>by subst ey;exact w2.done er1 hr1 ⟨a,vs,rfl,ha,rs⟩
   | _=>exact w1.elim⟩)
theorem RDs.atI {xs:List D}{vs:List V}{i:Int}{d:D} (r:RDs ρ H xs vs) (e:MI.atI xs i=some d):∃ v,L2.atI vs i=some v∧RD ρ H d v:=by
 unfold MI.atI at e
 unfold L2.atI
 rw [Option.bind_eq_some_iff]at e
 obtain ⟨j,e1,e2⟩:=e
 obtain ⟨v,e3,e4⟩:=r.get e2
 exact ⟨v,by rw [<- r.length];show (MI.ixN xs.length i).bind _=_;rw [e1];exact e3,e4⟩
def zxA:R2:=fun x y H Q=>∃ a v,x = .ref a∧zff H a y (some v)∧Q v H
theorem zxk (hr:zP k X.A):IxR X zxA:=by
 intro value slice pins s σ H x y v u Q I rx ry h hs
 obtain ⟨a,z,rfl,g,q⟩:=h
 cases rx
 have hT:=zCy I g
 unfold PyProof.Rows.subscriptTail
 refine wpAny_bind ?_
 rw [getitemInPython_of_ne hT.not_modules]
 refine wpAny_bind (wpAny_specialOf hT PySem.F.slot_dict_getitem.lookup ?_)
 have fin:wpAny (model X.prog X.w) X.A (subscripted slice false (.ref a) u) (fun r s₃=>wpAny (model X.prog X.w) X.A (letTemporaryGo value (.ref a) r >>= fun _=>pure r) (EP X pins σ Q) X.xe s₃) X.xe s:=by
   rw [hs]
   exact wpAny_operating (zCo (zoE hr) I g ry fun w' s3 I3 rw'=>wpAny_bind (wpAny_letTemporaryGo (wpAny_pure ⟨z,H,I3,rw',q⟩)))
 first
   | exact wpAny_pure (wpAny_bind fin)
   | exact wpAny_bind (wpAny_pure (wpAny_bind fin))
   | exact wpAny_bind fin
theorem zO (rm:zP k X.A) (ha:JE X a (tE W G ma)) (hb:JE X b (tE W G mb)) (hs:zss b) (hK:X.K=G.K:=by rfl):JE X (.Subscript a b pos) (tE W G (bin zi ma mb)) :=
 .of (zU (zBs (zxV.or (zCL.or (zxk rm))) ha.to hb.to hs) fun σ H Q ⟨F,ρ,env,h,er,hr,w⟩=>⟨F,ρ,env,h,er,hr,zE w fun x h1 ρ1 H1 y e1 er1 hr1 r1 w1=>⟨F,ρ1,env,h1,er1,hr1,zE w1 fun x2 h2 ρ2 H2 y2 e2 er2 hr2 r2 w2=>by
   have r1:RD ρ2 H2 x y:=RD.ext e2 _ _ r1
   have r2:RD ρ2 H2 x2 y2:=r2
   cases x with
   | tup ds =>
     cases x2 with
     | int i =>
       simp only [zi]at w2
       unfold RD at r1 r2
       obtain ⟨p,vs,rfl,hp,rs⟩:=r1
       cases q:MI.atI ds i with
       | none=>rw [q]at w2;exact w2.elim
       | some d =>
         rw [q]at w2
         obtain ⟨v,e3,e4⟩:=rs.atI q
         exact .inr (.inl ⟨p,vs,i,v,rfl,r2,SqT.of hp,e3,w2.done er2 hr2 e4⟩)
     | _=>exact w2.elim
   | obj n =>
     cases x2 with
     | int i =>
       simp only [zi]at w2
       have r2':=r2
       unfold RD at r2'
       cases qo:h2[n]? with
       | none=>rw [qo]at w2;exact w2.elim
       | some o =>
         rw [qo]at w2
         cases o with
         | lst xs =>
           obtain ⟨p,vs,rfl,ea,hp,rs⟩:=hr2.lst r1 qo
           dsimp only at w2
           cases q:MI.atI xs i with
           | none=>rw [q]at w2;exact w2.elim
           | some d =>
             rw [q]at w2
             obtain ⟨v,e3,e4⟩:=rs.atI q
             exact .inl ⟨p,vs,i,v,rfl,r2',SqL.of hp,e3,w2.done er2 hr2 e4⟩
         | scr xs =>
           obtain ⟨p,vs,rfl,ea,hp,rs⟩:=hr2.scr r1 qo
           dsimp only at w2
           cases q:MI.atI xs i with
           | none=>rw [q]at w2;exact w2.elim
           | some d =>
             rw [q]at w2
             obtain ⟨v,e3,e4⟩:=rs.atI q
             exact .inl ⟨p,vs,i,v,rfl,r2',by rw [hK];exact hp,e3,w2.done er2 hr2 e4⟩
         | dic kvs =>
           obtain ⟨p,vs,rfl,ea,hp,rs⟩:=hr2.dic r1 qo
           dsimp only at w2
           have lv:=zo5 (k:=i) rs
           cases q:look i kvs with
           | none=>rw [q]at w2;exact w2.elim
           | some d =>
             rw [q]at w2 lv
             obtain ⟨v,e3,e4⟩:=lv
             subst r2'
             exact .inr (.inr ⟨p,v,rfl,by rw [<- e3];exact zff.k (k:=Sum.inl i) hp,w2.done er2 hr2 e4⟩)
         | _=>exact w2.elim
     | _=>exact w2.elim
   | _=>cases x2 <;> exact w2.elim⟩⟩)
theorem zn8:JO X none (tO W G noP) := .of (zsU zBb fun σ H Q ⟨F,ρ,env,h,er,hr,w⟩=>wp.done (h:=h) w er hr rfl)
theorem zoi (ha:JE X a (tE W G ma)):JO X (some a) (tO W G (zdp ma)) :=
 .of (zsU (zz6 ha.to) fun σ H Q ⟨F,ρ,env,h,er,hr,w⟩=>⟨F,ρ,env,h,er,hr,zE w fun x h1 ρ1 H1 y e1 er1 hr1 r1 w1=>by
   cases x with
   | int i=>have r1:RD ρ1 H1 (.int i) y:=r1;unfold RD at r1;exact ⟨i,r1,wp.done (h:=h1) w1 er1 hr1 rfl⟩
   | _=>exact w1.elim⟩)
variable {lo hi:Option Expr}{ol oh:ME (Option Int)}
theorem zq2 (n d:Nat) (o:Option Int):MI.sIx n d o=HT.sIx n d o:=by
 cases o with
 | none=>rfl
 | some v =>
   show (if v < 0 then max (v+(n:Int)) 0 else min v (n:Int)).toNat=_
   rw [HT.clip_eq v n d]
   simp
theorem RDs.cutV {xs:List D}{vs:List V} (r:RDs ρ H xs vs) (l u:Option Int):RDs ρ H (MI.cut xs l u) (L2.cutV vs l u):=by
 unfold MI.cut L2.cutV
 rw [zq2,zq2,r.length]
 exact (r.drop _).take _
theorem znQ (ha:JE X a (tE W G ma)) (hl:JO X lo (tO W G ol)) (hh:JO X hi (tO W G oh)):JE X (.Subscript a (.Slice lo hi none p2) pos) (tN W G (zdo ma ol oh)) :=
 .of (zU (zzq zB9 ha.to hl.to hh.to) fun σ H Q ⟨F,ρ,env,h,er,hr,w⟩=>⟨F,ρ,env,h,er,hr,zE w fun x h1 ρ1 H1 y e1 er1 hr1 r1 w1=>⟨F,ρ1,env,h1,er1,hr1,zE w1 fun l h2 ρ2 H2 l' e2 er2 hr2 r2 w2 =>
   ⟨F,ρ2,env,h2,er2,hr2,zE w2 fun u h3 ρ3 H3 u' e3 er3 hr3 r3 w3=>by
     have r1:RD ρ3 H3 x y:=RD.ext (e2.trans e3) _ _ r1
     obtain rfl:l=l':=r2
     obtain rfl:u=u':=r3
     cases x with
     | obj n =>
       exact zov w3 hr3 r1 fun p vs xs ey _ hp rs eq w4=>⟨p,vs,ey,SqL.of hp,fun q hq=>wp.made (h:=h3) w4 er3 hr3 hq (zfM hr3 hq (rs.cutV l u))⟩
     | _=>exact w3.elim⟩⟩⟩)
end
end MI
end
section
namespace MI
open PySem PySem.Spec L2
section
variable {W:Nat->Hp->Prop}{X:Cx}{F:Addr->Prop}{G:GP}{env:zw}{σ:L2.St}{ρ:List Addr}{H:Hp}{h:MH}{a b c e o:Expr}{es:List Expr}{ma mb mc:ME D}{ml ml':ME (List D)}{pos p p1 p2 apos:Pos}{Q:VK}{k:Nat}
theorem zqB (ha:JE X a (tE W G ma)) (hb:JE X b (tL W G ml)):JE X (.BinOp a .Add b pos) (tN W G (zdu ma ml)) :=
 .of (zU (znT zCm ha.to hb.to) fun σ H Q ⟨F,ρ,env,h,er,hr,w⟩=>⟨F,ρ,env,h,er,hr,zE w fun x h1 ρ1 H1 y e1 er1 hr1 r1 w1=>⟨F,ρ1,env,h1,er1,hr1,zE w1 fun ys h2 ρ2 H2 y2 e2 er2 hr2 ⟨q,us,ey,hq,rs2⟩ w2=>by
   subst ey
   have r1:RD ρ2 H2 x y:=RD.ext e2 _ _ r1
   cases x with
   | obj n =>
     refine zov w2 hr2 r1 fun p vs xs ey _ hp rs eq w3=>?_
     by_cases hl:xs.length+ys.length<=1000000
     . rw [if_pos hl]at w3
       exact ⟨p,q,vs,us,ey,rfl,hp,hq,zgS (by rw [<- rs.length,<- rs2.length];exact hl),fun d hd=>wp.made (h:=h2) w3 er2 hr2 hd (zfM hr2 hd (RDs.append rs2 rs))⟩
     . rw [if_neg hl]at w3;exact w3.elim
   | _=>exact w2.elim⟩⟩)
theorem zr9 (ha:JE X a (tE W G ma)) (hb:JE X b (tE W G mb)):JE X (.BinOp a .Mult b pos) (tN W G (zhA ma mb)) :=
 .of (zU (znT zAH ha.to hb.to) fun σ H Q ⟨F,ρ,env,h,er,hr,w⟩=>⟨F,ρ,env,h,er,hr,zE w fun x h1 ρ1 H1 y e1 er1 hr1 r1 w1=>⟨F,ρ1,env,h1,er1,hr1,zE w1 fun x2 h2 ρ2 H2 y2 e2 er2 hr2 r2 w2=>by
   have r1:RD ρ2 H2 x y:=RD.ext e2 _ _ r1
   have r2:RD ρ2 H2 x2 y2:=r2
   cases x with
   | obj n =>
     cases x2 with
     | int i =>
       unfold RD at r2
       refine zov w2 hr2 r1 fun p vs xs ey _ hp rs eq w3=>?_
       by_cases hl:-1000000<=i∧i<=1000000∧xs.length * i.toNat<=1000000
       . rw [if_pos hl]at w3
         exact ⟨p,i,vs,ey,r2,hp,by omega,by omega,zgS (by rw [<- rs.length];exact hl.2.2),fun d hd=>wp.made (h:=h2) w3 er2 hr2 hd (zfM hr2 hd (RDs.rep rs _))⟩
       . rw [if_neg hl]at w3;exact w3.elim
     | _=>exact w2.elim
   | _=>cases x2 <;> exact w2.elim⟩⟩)
theorem zee {α:Type}{Rl:RL α V}{m:ME α}{P:List V->Hp->Prop} (hw:tG W G Rl m σ H (fun y H1=>P [y] H1)):zsy (tG W G Rl m) zo6 σ H P:=hw
theorem zn0 (hg:Gl X "all") (hm:X.mg "all" = none) (ha:JE X e (tL W G ml)) (hs:starEach [e] X.env=(false,eval e X.env) :: starEach [] X.env) (hc:X.calm=true:=by rfl):JE X (.Call (.Name "all" p) [e] [] pos) (tE W G (zg5 ml)) :=
 .of (zU (zeW (zBi hc) hg hm (by decide +kernel) (zcy ha.to zcZ hs) (he:=hs)) fun σ H Q ⟨F,ρ,env,h,er,hr,w⟩=>zee ⟨F,ρ,env,h,er,hr,zE w fun xs h1 ρ1 H1 y e1 er1 hr1 ⟨q,us,ey,hq,rs⟩ w1=>by
   subst ey
   cases eb:zcA xs with
   | none=>rw [eb]at w1;exact w1.elim
   | some bs =>
     rw [eb]at w1
     have e2:=RDs.of_bools eb rs
     subst e2
     exact ⟨q,bs,rfl,SqL.of hq,wp.done (h:=h1) w1 er1 hr1 (by unfold RD;rfl)⟩⟩)
theorem zoJ (hg:Gl X "any") (hm:X.mg "any" = none) (ha:JE X e (tL W G ml)) (hs:starEach [e] X.env=(false,eval e X.env) :: starEach [] X.env) (hc:X.calm=true:=by rfl):JE X (.Call (.Name "any" p) [e] [] pos) (tE W G (zey ml)) :=
 .of (zU (zeW (zBC hc) hg hm (by decide +kernel) (zcy ha.to zcZ hs) (he:=hs)) fun σ H Q ⟨F,ρ,env,h,er,hr,w⟩=>zee ⟨F,ρ,env,h,er,hr,zE w fun xs h1 ρ1 H1 y e1 er1 hr1 ⟨q,us,ey,hq,rs⟩ w1=>by
   subst ey
   cases eb:zcA xs with
   | none=>rw [eb]at w1;exact w1.elim
   | some bs =>
     rw [eb]at w1
     have e2:=RDs.of_bools eb rs
     subst e2
     exact ⟨q,bs,rfl,SqL.of hq,wp.done (h:=h1) w1 er1 hr1 (by unfold RD;rfl)⟩⟩)
theorem zdv (hg:Gl X "len") (hm:X.mg "len" = none) (ha:JE X e (tE W G ma)) (hs:starEach [e] X.env=(false,eval e X.env) :: starEach [] X.env) (hK:X.K=G.K:=by rfl):JE X (.Call (.Name "len" p) [e] [] pos) (tE W G (zbP (zbN ma))) :=
 .of (zU (zeW zA3 hg hm PySem.boot_len (zcy ha.to zcZ hs) (he:=hs)) fun σ H Q ⟨F,ρ,env,h,er,hr,w⟩=>zee ⟨F,ρ,env,h,er,hr,by
   have w':wp F W G rV env σ ρ H (zl ma (fun x=>zl (fun _ h=>match x with
     | .obj n=>(match h[n]? with
       | some (.lst xs)=>R.ok xs h
       | some (.scr xs)=> .ok xs h
       | _=> .bad)
     | .tup ds=> .ok ds h
     | _=> .bad) fun xs=>za (.int xs.length)) env h) Q:=by
     have e:zbP (zbN ma) env h=(zl ma (fun x=>zl (fun _ h=>match x with
       | .obj n=>(match h[n]? with
         | some (.lst xs)=>R.ok xs h
         | some (.scr xs)=> .ok xs h
         | _=> .bad)
       | .tup ds=> .ok ds h
       | _=> .bad) fun xs=>za (.int xs.length)) env h):=by
       unfold zbP zbN zl
       cases ma env h <;> rfl
     rw [<- e];exact w
   refine zE w' fun x h1 ρ1 H1 y e1 er1 hr1 r1 w1=>?_
   have r1:RD ρ1 H1 x y:=r1
   cases x with
   | tup ds =>
     unfold RD at r1
     obtain ⟨q,vs,rfl,hp,rs⟩:=r1
     exact ⟨q,vs,rfl,.inr (SqT.of hp),wp.done (h:=h1) w1 er1 hr1 (by rw [rs.length];unfold RD;rfl)⟩
   | obj n =>
     simp only [zl]at w1
     cases qo:h1[n]? with
     | none=>rw [qo]at w1;exact w1.elim
     | some o =>
       rw [qo]at w1
       cases o with
       | lst xs =>
         obtain ⟨q,vs,rfl,ea,hp,rs⟩:=hr1.lst r1 qo
         exact ⟨q,vs,rfl,.inl (SqL.of hp),wp.done (h:=h1) w1 er1 hr1 (by rw [rs.length];unfold RD;rfl)⟩
       | scr xs =>
         obtain ⟨q,vs,rfl,ea,hp,rs⟩:=hr1.scr r1 qo
         exact ⟨q,vs,rfl,.inl (by rw [hK];exact hp),wp.done (h:=h1) w1 er1 hr1 (by rw [rs.length];unfold RD;rfl)⟩
       | _=>exact w1.elim
   | _=>exact w1.elim⟩)
theorem zoe (hg:Gl X "list") (hm:X.mg "list" = none) (ha:JE X e (tL W G ml)) (hs:starEach [e] X.env=(false,eval e X.env) :: starEach [] X.env):JE X (.Call (.Name "list" p) [e] [] pos) (tN W G ml) :=
 .of (zU (zoH zzO hg hm (by decide +kernel) (zcy ha.to zcZ hs) (he:=hs)) fun σ H Q ⟨F,ρ,env,h,er,hr,w⟩=>zee ⟨F,ρ,env,h,er,hr,zrs w fun xs h1 ρ1 H1 y e1 er1 hr1 ⟨q,us,ey,hq,rs⟩ w1=>by
   subst ey
   exact ⟨q,us,rfl,.inl (SqL.of hq),fun d hd=>w1.made er1 hr1 hd (zfM hr1 hd rs)⟩⟩)
theorem zx9 (hg:Gl X "abs") (hm:X.mg "abs" = none) (ha:JE X e (tE W G ma)) (hs:starEach [e] X.env=(false,eval e X.env) :: starEach [] X.env):JE X (.Call (.Name "abs" p) [e] [] pos) (tE W G (zeq ma)) :=
 .of (zU (zeW zzX hg hm (by decide +kernel) (zcy ha.to zcZ hs) (he:=hs)) fun σ H Q ⟨F,ρ,env,h,er,hr,w⟩=>zee ⟨F,ρ,env,h,er,hr,zE w fun x h1 ρ1 H1 y e1 er1 hr1 r1 w1=>by
   cases x with
   | int i=>have r1:RD ρ1 H1 (.int i) y:=r1;unfold RD at r1;subst r1;exact ⟨i,rfl,wp.done (h:=h1) w1 er1 hr1 (by unfold RD;rfl)⟩
   | _=>exact w1.elim⟩)
end
end MI
end
section
namespace MI
open PySem PySem.Spec L2
theorem zop:∀ (ns acc seen:List Int),(∀ x,x∈seen↔x∈acc)->ns.foldl PyProof.Rows.step_dedup acc=acc++zY seen ns
 | [],acc,seen,_=>by simp [zY]
 | n :: ns,acc,seen,hs=>by
   rw [List.foldl_cons]
   unfold zY
   by_cases hn:n∈acc
   . rw [if_pos ((hs n).mpr hn)]
     have e:PyProof.Rows.step_dedup acc n=acc:=by
       unfold PyProof.Rows.step_dedup
       rw [if_pos (by simpa using hn)]
     rw [e]
     exact zop ns acc seen hs
   . rw [if_neg (fun z=>hn ((hs n).mp z))]
     have e:PyProof.Rows.step_dedup acc n=acc++[n]:=by
       unfold PyProof.Rows.step_dedup
       rw [if_neg (by simpa using hn)]
     rw [e,zop ns (acc++[n]) (n :: seen) (fun x=>by simp [hs x,or_comm])]
     simp
theorem zsi (ns:List Int):zcp ns=zY [] ns:=by
 unfold zcp PyProof.Rows.firstMet
 have e:(List.range ns.length).map (fun i=>ns.getD i 0)=ns:=by
   apply List.ext_getElem?
   intro i
   rw [List.getElem?_map]
   by_cases hi:i < ns.length
   . simp [hi]
   . simp [hi]
 rw [e,zop ns [] [] (fun _=>Iff.rfl)]
 simp
theorem zo7 (x:Int):∀ l:List Int,(zcl x l).Perm (x :: l)
 | []=>by simp [zcl]
 | y :: r=>by
   unfold zcl
   by_cases h:x<=y
   . rw [if_pos h]
   . rw [if_neg h]
     exact ((zo7 x r).cons y).trans (List.Perm.swap x y r)
theorem sortI_perm:∀ l:List Int,(sortI l).Perm l
 | []=>by simp [sortI]
 | y :: r=>by
   show (zcl y (sortI r)).Perm _
   exact (zo7 y _).trans ((sortI_perm r).cons y)
theorem zq9 (x:Int):∀ l:List Int,l.Pairwise (· <= ·)->(zcl x l).Pairwise (· <= ·)
 | [],_=>by simp [zcl]
 | y :: r,h=>by
   unfold zcl
   rw [List.pairwise_cons]at h
   by_cases hx:x<=y
   . rw [if_pos hx]
     refine List.pairwise_cons.mpr ⟨fun z hz=>?_,List.pairwise_cons.mpr h⟩
     rcases List.mem_cons.mp hz with e | hz
     . rw [e];exact hx
     . exact Int.le_trans hx (h.1 z hz)
   . rw [if_neg hx]
     refine List.pairwise_cons.mpr ⟨fun z hz=>?_,zq9 x r h.2⟩
     rcases List.mem_cons.mp ((zo7 x r).mem_iff.mp hz) with e | hz
     . rw [e];omega
     . exact h.1 z hz
theorem sortI_sorted:∀ l:List Int,(sortI l).Pairwise (· <= ·)
 | []=>by simp [sortI]
 | y :: r=>zq9 y _ (sortI_sorted r)
theorem sorted_unique:∀ {l m:List Int},l.Perm m->l.Pairwise (· <= ·)->m.Pairwise (· <= ·)->l=m
 | [],m,p,_,_=>by simpa using p
 | x :: l,m,p,hl,hm=>by
   cases m with
   | nil=>simp at p
   | cons y m =>
     rw [List.pairwise_cons]at hl hm
     have h1:x∈y :: m:=p.mem_iff.mp List.mem_cons_self
     have h2:y∈x :: l:=p.mem_iff.mpr List.mem_cons_self
     have e:x=y:=by
       rcases List.mem_cons.mp h1 with e | h1
       . exact e
       . rcases List.mem_cons.mp h2 with e | h2
         . exact e.symm
         . have a:=hl.1 y h2
           have b:=hm.1 x h1
           omega
     subst e
     rw [sorted_unique (List.perm_cons x |>.mp p) hl.2 hm.2]
section
variable {W:Nat->Hp->Prop}{X:Cx}{F:Addr->Prop}{G:GP}{env:zw}{σ:L2.St}{ρ:List Addr}{H:Hp}{h:MH}{a b c e o:Expr}{es:List Expr}{ma mb mc:ME D}{ml ml':ME (List D)}{pos p p1 p2 apos:Pos}{Q:VK}{k:Nat}
theorem zsK (hg:Gl X "len") (hm:X.mg "len" = none) (hg':Gl X "set") (hm':X.mg "set" = none) (ha:JE X e (tL W G ml)) (hs:starEach [e] X.env=(false,eval e X.env) :: starEach [] X.env) (hc:X.calm=true:=by rfl) :
   JE X (.Call (.Name "len" p) [.Call (.Name "set" p1) [e] [] p2] [] pos) (tE W G (zhh ml)) :=
 .of (zU (zeW zx3 hg hm PySem.boot_len (zcy (zoH (zyF hc) hg' hm' (by decide +kernel) (zcy ha.to zcZ hs) (he:=hs)) zcZ zbe) (he:=zbe)) fun σ H Q ⟨F,ρ,env,h,er,hr,w⟩=>by
   refine zee (Rl:=rL G.K) (m:=ml) (P:=fun vs H1=>∃ (a:Addr) (ns:List Int),vs=[.ref a]∧SqL X.K H1 a (ns.map V.int)∧ns.length < 4000∧∀ p,H1 p=none->(∃ p' S n,[V.ref p]=[.ref p']∧(upd H1 p (.set (fun k=>(zcp ns).any (· == k)) (zcp ns).length)) p'=some (.set S n)∧Q (.int n) (upd H1 p (.set (fun k=>(zcp ns).any (· == k)) (zcp ns).length)))) ⟨F,ρ,env,h,er,hr,?_⟩
   refine zE w fun xs h1 ρ1 H1 y e1 er1 hr1 ⟨q,us,ey,hq,rs⟩ w1=>?_
   subst ey
   cases eb:zb4 xs with
   | none=>rw [eb]at w1;exact w1.elim
   | some ns =>
     rw [eb]at w1
     have e2:=RDs.of_ints eb rs
     subst e2
     by_cases hl:ns.length < 4000
     . dsimp only at w1
       rw [if_pos hl]at w1
       refine ⟨q,ns,rfl,SqL.of hq,hl,fun d hd=>⟨d,_,_,rfl,zbQ,?_⟩⟩
       exact wp.made (h:=h1) w1 er1 hr1 hd (by rw [zsi];unfold RD;rfl)
     . dsimp only at w1
       rw [if_neg hl]at w1;exact w1.elim)
theorem zBT:zdE X (.builtin "sorted") (fun xs H Q=>∃ (a:Addr) (ns:List Int),xs=[.ref a]∧SqL X.K H a (ns.map V.int)∧ns.length < 64∧∀ p,H p=none->Q (.ref p) (upd H p (.lst ((sortI ns).map V.int)))):=by
 intro pins s σ H xs us Q I r h
 obtain ⟨a,ns,rfl,hq,hn,q⟩:=h
 obtain ⟨u,rfl,ru⟩:=zeF r
 cases ru
 obtain ⟨its,rv,pl,hz⟩:=I.list hq
 have hlen:=rv.length
 rw [List.length_map]at hlen
 refine PyProof.Rows.sorted_ints (ns:=ns) pl.isList (zpd rv) (by omega) fun out ns' h1 h2 h3=>?_
 have e:ns'=sortI ns:=sorted_unique (h2.trans (sortI_perm ns).symm) h3 (sortI_sorted ns)
 subst e
 obtain ⟨ep,he⟩:=PyProof.Rows.sortedAll_at s.heap its out
 refine ⟨.ref (s.heap.objs.size+1),_,I.laid (t':=s.toks) (a:=s.heap.objs.size+1) (o := .lst ((sortI ns).map V.int)) (fun b o e=>PyProof.Rows.sortedAll_old e) (Nat.le_succ _) ?_,rfl,q _ (I.hok.fresh (Nat.le_succ _))⟩
 refine ⟨?_,out.toList,ep,zio h1,?_⟩
 . rw [List.length_map,(sortI_perm ns).length_eq,hlen,<- hlen,<- List.length_map (f:=V.int)];exact hz
 . rw [Array.toArray_toList];exact he
theorem zx4 (rm:zP k X.A) (hg:Gl X "sorted") (hm:X.mg "sorted" = none) (ha:JE X e (tL W G ml)) (hs:starEach [e] X.env=(false,eval e X.env) :: starEach [] X.env):JE X (.Call (.Name "sorted" p) [e] [] pos) (tN W G (ziy ml)) :=
 .of (zU (zeW zBT hg hm (by decide +kernel) (zcy ha.to zcZ hs) (he:=hs)) fun σ H Q ⟨F,ρ,env,h,er,hr,w⟩=>zee ⟨F,ρ,env,h,er,hr,zE w fun xs h1 ρ1 H1 y e1 er1 hr1 ⟨q,us,ey,hq,rs⟩ w1=>by
   subst ey
   cases eb:zb4 xs with
   | none=>rw [eb]at w1;exact w1.elim
   | some ns =>
     rw [eb]at w1
     have e2:=RDs.of_ints eb rs
     subst e2
     by_cases hl:ns.length < 64
     . dsimp only at w1
       rw [if_pos hl]at w1
       exact ⟨q,ns,rfl,SqL.of hq,hl,fun d hd=>wp.made (h:=h1) w1 er1 hr1 hd (zfM hr1 hd (RDs.ints _))⟩
     . dsimp only at w1
       rw [if_neg hl]at w1;exact w1.elim⟩)
theorem zxR {a:Expr}{ta:TE} (hc:X.calm=true) (hg:Gl X "list") (hm:X.mg "list" = none) (hg':Gl X "range") (hm':X.mg "range" = none) (ha:PE X a ta) (hs:starEach [a] X.env=(false,eval a X.env) :: starEach [] X.env) :
   PE X (.Call (.Name "list" p) [.Call (.Name "range" p1) [a] [] p2] [] pos) (fun σ H Q=>ta σ H fun x H1=>∃ j:Int,x = .int j∧-1000000<=j∧j<=1000000∧∀ q,H1 q=none->Q (.ref q) (upd H1 q (.lst ((List.range j.toNat).map fun (k:Nat)=>V.int k)))):=by
 intro pins s σ H Q I h
 have hbl:bootBuiltins ("list":Str)=some (.type "list"):=by decide +kernel
 have hbr:bootBuiltins ("range":Str)=some (.type "range"):=by decide +kernel
 refine wpAny_Call_Name_kw (zf5 I hg hm hbl ?_ (by decide) (by decide))
 refine PyProof.Rows.callWith_type1 (pos:=pos) ?_ zbe rfl
 rw [zbe]
 refine Calls.spliced_cons (wpAny_Call_Name_kw (zf5 I hg' hm' hbr ?_ (by decide) (by decide)))
 refine PyProof.Rows.callWith_type1 (pos:=p2) ?_ hs rfl
 rw [hs]
 refine Calls.spliced_cons (thn (ha pins s σ H _ I h) fun v s1 ⟨x,H1,I1,r1,q1⟩=>Calls.spliced_nil ?_)
 obtain ⟨j,e,j1,j2,q⟩:=q1
 subst e
 obtain ⟨t,rfl⟩:=r1
 refine call_range_1 (Calls.spliced_nil ?_)
 have hsz:Builtin.Range.rangeSize 0 j 1=(j.toNat:Nat):=by rw [rangeSize_one];split <;> omega
 have I2:Inv X pins σ H1 { s1 with heap:=s1.heap.push { cls := .type "range",data := .fields #[.int 0 s1.toks,.int j t,.int 1 (s1.toks+1)] },toks:=s1.toks+1+1 }:=I1.kept fun b o e=>Heap.get?_push_of_some _ e
 refine call_list_range (n:=j.toNat) (I.ok.hd hc) (IsRange.new ..) (small_one (by omega) (by omega) (by omega) (by omega)) hsz (by omega) fun h' tk acc' c' hk hat hit=>?_
 refine ⟨.ref _,_,I2.laid (h':=h') (t':=tk) (o := .lst ((List.range j.toNat).map fun (k:Nat)=>V.int k)) hk (Nat.le_refl _) ?_,rfl,q _ (I2.hok.fresh (Nat.le_refl _))⟩
 refine ⟨?_,acc'.toList,c',?_,by rw [Array.toArray_toList];exact hat⟩
 . rw [List.length_map,List.length_range];exact zgS (by omega)
 . obtain ⟨hs1,hs2⟩:=hit
   have key:∀ (n:Nat) (l:List Value),l.length=n->(∀ (i:Nat) v,l[i]?=some v->∃ t,v=Value.int (i:Int) t)->zp ((List.range n).map fun (k:Nat)=>V.int k) l:=by
     intro n
     induction n with
     | zero=>intro l hl _;cases l <;> simp at hl;exact .nil
     | succ n ih =>
       intro l hl hv
       have e:l=l.dropLast++[l.getLast (by intro z;rw [z]at hl;cases hl)]:=(List.dropLast_concat_getLast _).symm
       rw [List.range_succ,List.map_append,e]
       refine zp.append (ih _ (by rw [List.length_dropLast];omega) fun i v hi=>hv i v ?_) ?_
       . rw [e,List.getElem?_append_left (List.getElem?_eq_some_iff.mp hi).1];exact hi
       . have hne:l≠[]:=by intro z;rw [z]at hl;cases hl
         obtain ⟨t',ht'⟩:=hv n (l.getLast hne) (by rw [List.getLast_eq_getElem];simp [hl])
         exact .cons ⟨t',ht'⟩ .nil
   refine key _ _ (by rw [Array.length_toList];exact hs1) fun i v hi=>?_
   obtain ⟨t',ht'⟩:=hs2 i v (by simpa using hi)
   exact ⟨t',by rw [ht'];simp⟩
theorem zCd (hg:Gl X "list") (hm:X.mg "list" = none) (hg':Gl X "range") (hm':X.mg "range" = none) (ha:JE X e (tE W G ma)) (hs:starEach [e] X.env=(false,eval e X.env) :: starEach [] X.env) (hc:X.calm=true:=by rfl) :
   JE X (.Call (.Name "list" p) [.Call (.Name "range" p1) [e] [] p2] [] pos) (tN W G (zh1 ma)) :=
 .of (zU (zxR hc hg hm hg' hm' ha.to hs) fun σ H Q ⟨F,ρ,env,h,er,hr,w⟩=>⟨F,ρ,env,h,er,hr,zE w fun x h1 ρ1 H1 y e1 er1 hr1 r1 w1=>by
   cases x with
   | int i =>
     have r1:RD ρ1 H1 (.int i) y:=r1
     unfold RD at r1
     by_cases hl:-1000000<=i∧i<=1000000
     . dsimp only at w1
       rw [if_pos hl]at w1
       refine ⟨i,r1,hl.1,hl.2,fun d hd=>wp.made (h:=h1) w1 er1 hr1 hd (zfM hr1 hd ?_)⟩
       have:=RDs.ints (ρ:=ρ1) (H:=H1) ((List.range i.toNat).map fun (k:Nat)=>(k:Int))
       rw [List.map_map,List.map_map]at this
       exact this
     . dsimp only at w1
       rw [if_neg hl]at w1;exact w1.elim
   | _=>exact w1.elim⟩)
end
end MI
end
section
namespace MI
open PySem PySem.Spec L2
def tyN:Ty->String
 | .int => "int"
 | .bool => "bool"
 | .str => "str"
 | .list => "list"
 | .tuple => "tuple"
 | .dict => "dict"
section
variable {W:Nat->Hp->Prop}{X:Cx}{F:Addr->Prop}{G:GP}{env:zw}{σ:L2.St}{ρ:List Addr}{H:Hp}{h:MH}{a b c e o:Expr}{es:List Expr}{ma mb mc mo:ME D}{ml ml':ME (List D)}{pos p p1 p2 apos cpos:Pos}{Q:VK}{k:Nat}
theorem zAL {t:Ty}{x:D}{v:V}{b:Bool} (hr:HR F G ρ h H) (r:RD ρ H x v) (e:zdm h t x=some b):∃ u,zdf X.K H v u∧PySem.W.kitOne X.K u (.type (tyN t))=some b:=by
 cases x with
 | non=>unfold RD at r;subst r;cases e;exact ⟨_,.non,by cases t <;> rfl⟩
 | bl x=>unfold RD at r;subst r;cases e;exact ⟨_,.bl x,by cases t <;> rfl⟩
 | int x=>unfold RD at r;subst r;cases e;exact ⟨_,.int x,by cases t <;> rfl⟩
 | str x=>unfold RD at r;subst r;cases e;exact ⟨_,.str x,by cases t <;> rfl⟩
 | tup ds =>
   unfold RD at r
   obtain ⟨q,vs,rfl,hq,_⟩:=r
   cases e;exact ⟨_,.tup hq,by cases t <;> rfl⟩
 | obj n =>
   simp only [zdm]at e
   cases qo:h[n]? with
   | none=>rw [qo]at e;cases e
   | some o =>
     rw [qo]at e
     cases o with
     | lst xs =>
       obtain ⟨q,vs,rfl,_,hq,_⟩:=hr.lst r qo
       cases e;exact ⟨_,.lst hq,by cases t <;> rfl⟩
     | dic xs =>
       obtain ⟨q,vs,rfl,_,hq,_⟩:=hr.dic r qo
       cases e;exact ⟨_,.dK hq,by cases t <;> rfl⟩
     | _=>cases e
theorem zfe {t:Ty}{x:Str} (hg:Gl X "isinstance") (hm:X.mg "isinstance" = none) (hg':Gl X x) (hm':X.mg x=none) (ha:JE X e (tE W G ma)) (hs:starEach [e,.Name x p1] X.env=(false,eval e X.env) :: starEach [.Name x p1] X.env)
   (hv:bootBuiltins x=some (.type (tyN t)):=by decide +kernel) (hn:x ≠ "__name__":=by decide) (hd:(x == ("__debug__":Str))=false:=by decide):JE X (.Call (.Name "isinstance" p) [e,.Name x p1] [] pos) (tE W G (zdq t ma)) :=
 .of (zU (zeW zr3 hg hm (by decide +kernel) (zcy ha.to (zcy (zz0 (v := .ty (tyN t)) hg' hm' hv rfl hn hd) zcZ zk) hs) (he:=hs) (hpl:=by rw [zk];rfl)) fun σ H Q ⟨F,ρ,env,h,er,hr,w⟩=>by
   refine ⟨F,ρ,env,h,er,hr,zE w fun x' h1 ρ1 H1 y e1 er1 hr1 r1 w1=>?_⟩
   cases eb:zdm h1 t x' with
   | none=>rw [eb]at w1;exact w1.elim
   | some b =>
     rw [eb]at w1
     obtain ⟨u,h2,h3⟩:=zAL (X:=X) hr1 r1 eb
     exact ⟨y,u,b,h2,.inl ⟨_,rfl,h3⟩,wp.done (h:=h1) w1 er1 hr1 (by unfold RD;rfl)⟩)
theorem zez {sub att:Nat->Nat->Bool}{ci:Nat}{C:Addr}{x:Str} (ok:G.Ok sub att) (hC:G.cm[ci]?=some C) (hg:Gl X "isinstance") (hm:X.mg "isinstance" = none) (hg':Gl X x) (hm':X.mg x=some (.ref C)) (ha:JE X e (tE W G ma))
   (hs:starEach [e,.Name x p1] X.env=(false,eval e X.env) :: starEach [.Name x p1] X.env) (hK:X.K=G.K:=by rfl) (hd:(x == ("__debug__":Str))=false:=by decide):JE X (.Call (.Name "isinstance" p) [e,.Name x p1] [] pos) (tE W G (zK sub ci ma)) :=
 .of (zU (zeW zr3 hg hm (by decide +kernel) (zcy ha.to (zcy (zrd (v := .ref C) hg' hm' rfl hd) zcZ zk) hs) (he:=hs) (hpl:=by rw [zk];rfl)) fun σ H Q ⟨F,ρ,env,h,er,hr,w⟩=>by
   refine ⟨F,ρ,env,h,er,hr,zE w fun x' h1 ρ1 H1 y e1 er1 hr1 r1 w1=>?_⟩
   have r1:RD ρ1 H1 x' y:=r1
   cases x' with
   | obj n =>
     dsimp only at w1
     cases qo:h1[n]? with
     | none=>rw [qo]at w1;exact w1.elim
     | some o =>
       rw [qo]at w1
       cases o with
       | ins c fs =>
         obtain ⟨q,C',dx,vs,rfl,_,hC',hq,_⟩:=hr1.ins r1 qo
         obtain ⟨h2,h3⟩:=ok.cls c C' hC'
         refine ⟨.ref q,.ref C',sub c ci,.ins hq (by rw [hK];exact h2) (by rw [hK];exact h3.ha) (by rw [hK];exact h3.hn) (by rw [hK];exact h3.htk) (by rw [hK];exact h3.hm),.inr ⟨C,rfl,?_⟩,wp.done (h:=h1) w1 er1 hr1 (by unfold RD;rfl)⟩
         rw [hK];exact ok.isa c ci C' C hC' hC
       | _=>exact w1.elim
   | _=>exact w1.elim)
theorem zsY {l:List Str} (hl:l.Nodup) {i j:Nat}{x:Str} (h1:l[i]?=some x) (h2:l[j]?=some x):i=j:=zoh hl h1 h2
theorem FRs.lookup {C:Addr} (nd:G.an.Nodup) {f:Str}{kk:Nat} (hf:G.an[kk]?=some f):∀ {fs:List (Nat×D)}{vs:List (Str×V)}{d:D},FRs G ρ H C fs vs->fs.lookup kk=some d->∃ v,vs.lookup f=some v∧RD ρ H d v∧zbU G.K C f
 | [],vs,d,r,e=>by simp at e
 | p :: fs,vs,d,r,e=>by
   unfold FRs at r
   obtain ⟨g,v,q,rfl,h1,h2,h3,h4⟩:=r
   obtain ⟨i,d'⟩:=p
   rw [List.lookup_cons]at e
   by_cases hi:kk=i
   . subst hi
     simp at e
     subst e
     rw [hf]at h1;cases h1
     exact ⟨v,by rw [List.lookup_cons];simp,h3,h2⟩
   . have b:(kk == i)=false:=by simpa using hi
     rw [b]at e
     obtain ⟨v',e1,e2,e3⟩:=FRs.lookup nd hf h4 e
     refine ⟨v',?_,e2,e3⟩
     have hne:¬ f=g:=fun z=>hi (zsY nd (z ▸ hf) h1)
     have b':(f == g)=false:=by simpa using hne
     rw [List.lookup_cons,b']
     exact e1
theorem FRs.none {C:Addr}{f:Str} (hf:∀ kk:Nat,G.an[kk]?≠some f):∀ {fs:List (Nat×D)}{vs:List (Str×V)},FRs G ρ H C fs vs->vs.lookup f=none
 | [],vs,r=>by unfold FRs at r;subst r;rfl
 | p :: fs,vs,r=>by
   unfold FRs at r
   obtain ⟨g,v,q,rfl,h1,h2,h3,h4⟩:=r
   have hne:¬ f=g:=fun z=>hf p.1 (z ▸ h1)
   have b':(f == g)=false:=by simpa using hne
   rw [List.lookup_cons,b']
   exact FRs.none hf h4
theorem FRs.put {C:Addr} (nd:G.an.Nodup) {f:Str}{kk:Nat}{d:D}{v:V} (hf:G.an[kk]?=some f) (hn:zbU G.K C f) (rd:RD ρ H d v):∀ {fs:List (Nat×D)}{vs:List (Str×V)},FRs G ρ H C fs vs->FRs G ρ H C (zfK kk d fs) (zcj f v vs)
 | [],vs,r=>by
   unfold FRs at r;subst r
   show FRs G ρ H C [(kk,d)] [(f,v)]
   unfold FRs
   exact ⟨f,v,[],rfl,hf,hn,rd,by unfold FRs;rfl⟩
 | p :: fs,vs,r=>by
   unfold FRs at r
   obtain ⟨g,u,q,rfl,h1,h2,h3,h4⟩:=r
   unfold zfK zcj
   by_cases hi:p.1=kk
   . rw [if_pos hi]
     rw [hi,hf]at h1;cases h1
     rw [if_pos rfl]
     unfold FRs
     exact ⟨f,v,q,rfl,hf,hn,rd,h4⟩
   . rw [if_neg hi]
     have hne:¬ g=f:=fun z=>hi (zsY nd (z ▸ h1) hf)
     rw [if_neg hne]
     unfold FRs
     exact ⟨g,u,_,rfl,h1,h2,h3,FRs.put nd hf hn rd h4⟩
theorem zbB {sub att:Nat->Nat->Bool}{kk:Nat}{f:Str} (ok:G.Ok sub att) (hf:G.an[kk]?=some f) (ha:JE X e (tE W G ma)) (hb:attributeBase e f X.env (eval e X.env)=eval e X.env) (hK:X.K=G.K:=by rfl):JE X (.Attribute e f pos) (tE W G (fld kk ma)) :=
 .of (zU (zzv ha.to hb) fun σ H Q ⟨F,ρ,env,h,er,hr,w⟩=>⟨F,ρ,env,h,er,hr,zE w fun x h1 ρ1 H1 y e1 er1 hr1 r1 w1=>by
   have r1:RD ρ1 H1 x y:=r1
   cases x with
   | obj n =>
     dsimp only at w1
     cases qo:h1[n]? with
     | none=>rw [qo]at w1;exact w1.elim
     | some o =>
       rw [qo]at w1
       cases o with
       | ins c fs =>
         dsimp only at w1
         obtain ⟨q,C,dx,vs,rfl,_,hC,hq,rs⟩:=hr1.ins r1 qo
         cases ql:fs.lookup kk with
         | none=>rw [ql]at w1;exact w1.elim
         | some d =>
           rw [ql]at w1
           obtain ⟨v,h2,h3,h4⟩:=rs.lookup ok.nd hf ql
           exact ⟨q,C,dx,vs,v,rfl,hq,by rw [hK];exact (ok.cls c C hC).1,by rw [hK];exact h4,h2,wp.done (h:=h1) w1 er1 hr1 h3⟩
       | _=>exact w1.elim
   | _=>exact w1.elim⟩)
theorem zAe {q:Addr}{u:HO}{ob:O}{Q:VK} (w:wp F W G rV env σ ρ H (zg1 ob env h) Q) (er:zT ρ H env σ) (hr:HR F G ρ h H) (hq:H q=none) (ro:RO G (ρ++[q]) (upd H q u) q ob):Q (.ref q) (upd H q u):=by
 have ex:Ext F ρ (ρ++[q]) H (upd H q u):=⟨⟨[q],rfl⟩,(zcB hr hq).tup,(zcB hr hq).frm⟩
 refine w (ρ++[q]) _ (.ref q) ex (er.ext ex) ((hr.new hq).named (hr.fresh hq) ro) ?_
 show RD _ _ (.obj h.length) (.ref q)
 unfold RD
 exact ⟨q,rfl,by rw [<- hr.len];simp⟩
theorem zBr:JE X (.Dict [] [] pos) (tE W G zoZ) :=
 .of (zU zzg fun σ H Q ⟨F,ρ,env,h,er,hr,w⟩=>fun q hq=>zAe w er hr hq ⟨[],zbQ,by unfold KRs;rfl⟩)
theorem zo4 {n:Nat}{q:Addr}{xs ys:List D}{us vs:List V}{Q:VK}{d:D}{v:V} (w:wp F W G rV env σ ρ H (.ok d (h.set n (.lst ys))) Q) (er:zT ρ H env σ) (hr:HR F G ρ h H) (e:h[n]?=some (.lst xs)) (eq:ρ[n]?=some q) (hq:H q=some (.lst us))
   (rs:RDs ρ H ys vs) (rd:RD ρ H d v):Q v (upd H q (.lst vs)):=by
 have tp:Ext (fun _=>False) ρ ρ H (upd H q (.lst vs)):=by
   refine ⟨⟨[],by simp⟩,fun b xs z=>?_,fun _ z=>z.elim⟩
   rw [zy]
   . exact z
   . intro zz;subst zz;rw [hq]at z;cases z
 obtain ⟨ex,hr'⟩:=hr.write (o1 := .lst ys) (u := .lst vs) e eq rfl rfl hq trivial ⟨vs,zbQ,RDs.ext tp _ _ rs⟩
 exact w ρ _ v ex (er.ext ex) hr' (RD.ext ex _ _ rd)
theorem zrR {x:D}{kk:Unit->ME D}{Q:VK} (w:wp F W G rV env σ ρ H (zl (isL x) kk env h) Q):∃ n xs,x = .obj n∧h[n]?=some (.lst xs)∧wp F W G rV env σ ρ H (kk () env h) Q:=by
 cases x with
 | obj n =>
   simp only [zl,isL]at w
   cases qo:h[n]? with
   | none=>rw [qo]at w;exact w.elim
   | some o =>
     rw [qo]at w
     cases o with
     | lst xs=>exact ⟨n,xs,rfl,qo,w⟩
     | _=>exact w.elim
 | _=>exact w.elim
theorem zgi (ho:JE X o (tE W G mo)) (ha:JE X e (tE W G ma)) (hs:starEach [e] X.env=(false,eval e X.env) :: starEach [] X.env) (hbase:attributeBase o "append" X.env (eval o X.env)=eval o X.env:=by rfl)
   (hfew:((backTo cpos (starEach [e] X.env)).all (fun x=>!x.1) && (backToKw cpos (keywordEach [] X.env)).all (fun x=>x.1.isSome) && decide (([e]:List Expr).length+([]:List Keyword).length+(if ([]:List Keyword).isEmpty then 0 else 1) < 30))=true:=by rfl)
   (hline:(apos.endLine == cpos.line)=true:=by rfl):JE X (.Call (.Attribute o "append" apos) [e] [] cpos) (tE W G (zbJ mo ma)) :=
 .of (zU (zqT PySem.F.plainAttrs_list PySem.F.slot_list_append PySem.F.type_list_append zqo ho.to (zcy ha.to zcZ hs) hbase hfew hline hs) fun σ H Q ⟨F,ρ,env,h,er,hr,w⟩=>⟨F,ρ,env,h,er,hr,zE w fun x h1 ρ1 H1 y e1 er1 hr1 r1 w1=>by
   obtain ⟨n,xs,rfl,qo,w2⟩:=zrR w1
   obtain ⟨q,vs,rfl,_,hq,_⟩:=hr1.lst r1 qo
   refine ⟨.inl ⟨rfl,_,SqL.of hq⟩,zee ⟨F,ρ1,env,h1,er1,hr1,zE w2 fun z h2 ρ2 H2 yz e2 er2 hr2 r2 w3=>?_⟩⟩
   dsimp only at w3
   cases qo2:h2[n]? with
   | none=>rw [qo2]at w3;exact w3.elim
   | some o2 =>
     rw [qo2]at w3
     cases o2 with
     | lst xs2 =>
       dsimp only at w3
       by_cases hl:xs2.length < 1000000
       . rw [if_pos hl]at w3
         obtain ⟨q2,vs2,ev,eq2,hq2,rs2⟩:=hr2.lst (RD.ext e2 _ _ r1) qo2
         cases ev
         exact ⟨q,vs2,yz,rfl,rfl,hq2,by rw [<- rs2.length,sizeLine_eq];omega,zo4 w3 er2 hr2 qo2 eq2 hq2 (rs2.snoc r2) (by unfold RD;rfl)⟩
       . rw [if_neg hl]at w3;exact w3.elim
     | _=>exact w3.elim⟩)
theorem zzY (ho:JE X o (tE W G mo)) (ha:JE X e (tE W G ma)) (hs:starEach [e] X.env=(false,eval e X.env) :: starEach [] X.env) (hbase:attributeBase o "extend" X.env (eval o X.env)=eval o X.env:=by rfl)
   (hfew:((backTo cpos (starEach [e] X.env)).all (fun x=>!x.1) && (backToKw cpos (keywordEach [] X.env)).all (fun x=>x.1.isSome) && decide (([e]:List Expr).length+([]:List Keyword).length+(if ([]:List Keyword).isEmpty then 0 else 1) < 30))=true:=by rfl)
   (hline:(apos.endLine == cpos.line)=true:=by rfl):JE X (.Call (.Attribute o "extend" apos) [e] [] cpos) (tE W G (zgb mo ma)) :=
 .of (zU (zqT PySem.F.plainAttrs_list PySem.F.slot_list_extend PySem.F.type_list_extend zBc ho.to (zcy ha.to zcZ hs) hbase hfew hline hs) fun σ H Q ⟨F,ρ,env,h,er,hr,w⟩=>⟨F,ρ,env,h,er,hr,zE w fun x h1 ρ1 H1 y e1 er1 hr1 r1 w1=>by
   obtain ⟨n,xs,rfl,qo,w2⟩:=zrR w1
   obtain ⟨q,vs,rfl,_,hq,_⟩:=hr1.lst r1 qo
   refine ⟨.inl ⟨rfl,_,SqL.of hq⟩,zee ⟨F,ρ1,env,h1,er1,hr1,zE w2 fun z h2 ρ2 H2 yz e2 er2 hr2 r2 w3=>?_⟩⟩
   cases z with
   | obj m =>
     dsimp only at w3
     cases qo2:h2[n]? with
     | none=>rw [qo2]at w3;exact w3.elim
     | some o2 =>
       cases o2 with
       | lst xs2 =>
         cases qo3:h2[m]? with
         | none=>rw [qo2,qo3]at w3;exact w3.elim
         | some o3 =>
           cases o3 with
           | lst xs3 =>
             rw [qo2,qo3]at w3
             dsimp only at w3
             by_cases hl:xs2.length+xs3.length<=1000000
             . rw [if_pos hl]at w3
               obtain ⟨q2,vs2,ev,eq2,hq2,rs2⟩:=hr2.lst (RD.ext e2 _ _ r1) qo2
               cases ev
               obtain ⟨q3,vs3,ev3,eq3,hq3,rs3⟩:=hr2.lst r2 qo3
               subst ev3
               exact ⟨q,q3,vs2,vs3,rfl,rfl,hq2,hq3,zgS (by rw [<- rs2.length,<- rs3.length];exact hl),zo4 w3 er2 hr2 qo2 eq2 hq2 (RDs.append rs3 rs2) (by unfold RD;rfl)⟩
             . rw [if_neg hl]at w3;exact w3.elim
           | _=>rw [qo2,qo3]at w3;exact w3.elim
       | _=>rw [qo2]at w3;exact w3.elim
   | _=>exact w3.elim⟩)
theorem RDs.dropLast {xs:List D}{vs:List V} (r:RDs ρ H xs vs):RDs ρ H xs.dropLast vs.dropLast:=by
 rw [List.dropLast_eq_take,List.dropLast_eq_take,r.length]
 exact r.take _
theorem zCZ (ho:JE X o (tE W G mo)) (hbase:attributeBase o "pop" X.env (eval o X.env)=eval o X.env:=by rfl) (hline:(apos.endLine == cpos.line)=true:=by rfl):JE X (.Call (.Attribute o "pop" apos) [] [] cpos) (tE W G (zgf mo)) :=
 .of (zU (zzj PySem.F.plainAttrs_list PySem.F.slot_list_pop PySem.F.type_list_pop zB7 ho.to hbase hline) fun σ H Q ⟨F,ρ,env,h,er,hr,w⟩=>⟨F,ρ,env,h,er,hr,zE w fun x h1 ρ1 H1 y e1 er1 hr1 r1 w1=>by
   cases x with
   | obj n =>
     dsimp only at w1
     cases qo:h1[n]? with
     | none=>rw [qo]at w1;exact w1.elim
     | some o =>
       rw [qo]at w1
       cases o with
       | lst xs =>
         obtain ⟨q,vs,rfl,eq,hq,rs⟩:=hr1.lst r1 qo
         dsimp only at w1
         cases ql:xs[xs.length - 1]? with
         | none=>rw [ql]at w1;exact w1.elim
         | some d =>
           rw [ql]at w1
           obtain ⟨v,e3,e4⟩:=rs.get ql
           rw [rs.length]at e3
           exact ⟨.inl ⟨rfl,_,SqL.of hq⟩,q,vs,v,rfl,rfl,hq,e3,zo4 w1 er1 hr1 qo eq hq rs.dropLast e4⟩
       | _=>exact w1.elim
   | _=>exact w1.elim⟩)
end
end MI
end
section
namespace MI
open PySem PySem.Spec L2
def wpS (F:Addr->Prop) (W:Nat->Hp->Prop) (G:GP) (ρ:List Addr) (H:Hp) (r:RS) (E:zeE):Prop:=match r with
 | .nx e h1=>∀ ρ1 H1 σ1,Ext F ρ ρ1 H H1->zT ρ1 H1 e σ1->HR F G ρ1 h1 H1->E.nx σ1 H1
 | .bk e h1=>∀ ρ1 H1 σ1,Ext F ρ ρ1 H H1->zT ρ1 H1 e σ1->HR F G ρ1 h1 H1->E.bk σ1 H1
 | .ct e h1=>∀ ρ1 H1 σ1,Ext F ρ ρ1 H H1->zT ρ1 H1 e σ1->HR F G ρ1 h1 H1->E.ct σ1 H1
 | .rt v h1=>∀ ρ1 H1 v1,Ext F ρ ρ1 H H1->HR F G ρ1 h1 H1->RD ρ1 H1 v v1->E.rt v1 H1
 | .ex c h1=>∀ ρ1 H1,Ext F ρ ρ1 H H1->HR F G ρ1 h1 H1->W c H1
 | .bad=>False
def tS (W:Nat->Hp->Prop) (G:GP) (m:MS):TS:=fun E σ H=>∃ F ρ env h,zT ρ H env σ∧HR F G ρ h H∧wpS F W G ρ H (m env h) E
section
variable {F:Addr->Prop}{W:Nat->Hp->Prop}{G:GP}{env:zw}{σ:L2.St}{ρ ρ1:List Addr}{H H1:Hp}{h h1:MH}{E:zeE}
theorem wpS.mono {r:RS} (w:wpS F W G ρ H r E) (e:Ext F ρ ρ1 H H1):wpS F W G ρ1 H1 r E:=by
 cases r with
 | nx v h1=>exact fun ρ2 H2 v1 e2=>w ρ2 H2 v1 (e.trans e2)
 | bk v h1=>exact fun ρ2 H2 v1 e2=>w ρ2 H2 v1 (e.trans e2)
 | ct v h1=>exact fun ρ2 H2 v1 e2=>w ρ2 H2 v1 (e.trans e2)
 | rt v h1=>exact fun ρ2 H2 v1 e2=>w ρ2 H2 v1 (e.trans e2)
 | ex c h1=>exact fun ρ2 H2 e2=>w ρ2 H2 (e.trans e2)
 | bad=>exact w
theorem zc0 {α β:Type}{Rl:RL α β}{m:ME α}{k:α->MS}{P:β->Hp->Prop} (w:wpS F W G ρ H (zcH m k env h) E)
   (f:∀ x h1 ρ1 H1 y,Ext F ρ ρ1 H H1->zT ρ1 H1 env σ->HR F G ρ1 h1 H1->Rl F ρ1 h1 H1 x y->wpS F W G ρ1 H1 (k x env h1) E->P y H1):wp F W G Rl env σ ρ H (m env h) P:=by
 unfold zcH at w
 cases e:m env h with
 | ok v h1 =>
   rw [e]at w
   exact fun ρ1 H1 y ex er hr rl=>f v h1 ρ1 H1 y ex er hr rl (w.mono ex)
 | ex c h1=>rw [e]at w;exact w
 | bad=>rw [e]at w;exact w
theorem wpS.done {e:zw}{σ1:L2.St} (w:wpS F W G ρ H (.nx e h) E) (er:zT ρ H e σ1) (hr:HR F G ρ h H):E.nx σ1 H:=w ρ H σ1 Ext.refl er hr
end
@[irreducible] def JS (X:Cx) (e:Stmt) (t:TS):Prop:=PS X e t
@[irreducible] def JSs (X:Cx) (e:List Stmt) (t:TS):Prop:=PSs X e t
@[irreducible] def JG (X:Cx) (e:Expr) (t:TG):Prop:=PG X e t
@[irreducible] def JGs (X:Cx) (e:List Expr) (t:TGs):Prop:=PGs X e t
@[irreducible] def JI (X:Cx) (tg e:Expr) (t:TI):Prop:=PI X tg e t
@[irreducible] def zei (X:Cx) (e:List Expr) (t:TT):Prop:=zgY X e t
theorem JS.to {X:Cx}{e:Stmt}{t:TS} (h:JS X e t):PS X e t:=by unfold JS at h;exact h
theorem JS.of {X:Cx}{e:Stmt}{t:TS} (h:PS X e t):JS X e t:=by unfold JS;exact h
theorem JSs.to {X:Cx}{e:List Stmt}{t:TS} (h:JSs X e t):PSs X e t:=by unfold JSs at h;exact h
theorem JSs.of {X:Cx}{e:List Stmt}{t:TS} (h:PSs X e t):JSs X e t:=by unfold JSs;exact h
theorem JG.to {X:Cx}{e:Expr}{t:TG} (h:JG X e t):PG X e t:=by unfold JG at h;exact h
theorem JG.of {X:Cx}{e:Expr}{t:TG} (h:PG X e t):JG X e t:=by unfold JG;exact h
theorem JGs.to {X:Cx}{e:List Expr}{t:TGs} (h:JGs X e t):PGs X e t:=by unfold JGs at h;exact h
theorem JGs.of {X:Cx}{e:List Expr}{t:TGs} (h:PGs X e t):JGs X e t:=by unfold JGs;exact h
theorem JI.to {X:Cx}{tg e:Expr}{t:TI} (h:JI X tg e t):PI X tg e t:=by unfold JI at h;exact h
theorem JI.of {X:Cx}{tg e:Expr}{t:TI} (h:PI X tg e t):JI X tg e t:=by unfold JI;exact h
theorem zei.to {X:Cx}{e:List Expr}{t:TT} (h:zei X e t):zgY X e t:=by unfold zei at h;exact h
theorem zei.of {X:Cx}{e:List Expr}{t:TT} (h:zgY X e t):zei X e t:=by unfold zei;exact h
theorem zdn {X:Cx}{e:Stmt}{t t':TS} (h:PS X e t) (i:∀ E σ H,t' E σ H->t E σ H):PS X e t':=fun pins s σ H E I hw=>h pins s σ H E I (i _ _ _ hw)
theorem zqC {X:Cx}{e:List Stmt}{t t':TS} (h:PSs X e t) (i:∀ E σ H,t' E σ H->t E σ H):PSs X e t':=fun pins s σ H E I hw=>h pins s σ H E I (i _ _ _ hw)
theorem zq7 {X:Cx}{e:Expr}{t t':TG} (h:PG X e t) (i:∀ v σ H Q,t' v σ H Q->t v σ H Q):PG X e t':=fun pins s σ H v u Q I r hw=>h pins s σ H v u Q I r (i _ _ _ _ hw)
theorem zrk {X:Cx}{e:List Expr}{t t':TGs} (h:PGs X e t) (i:∀ v σ H Q,t' v σ H Q->t v σ H Q):PGs X e t':=fun pins s σ H v u Q I r hw=>h pins s σ H v u Q I r (i _ _ _ _ hw)
section
variable {W:Nat->Hp->Prop}{X:Cx}{F:Addr->Prop}{G:GP}{env:zw}{σ:L2.St}{ρ:List Addr}{H:Hp}{h:MH}{a b c e o:Expr}{es:List Expr}{st:Stmt}{rest bd bd2:List Stmt}{ma mb mc mo:ME D}{ml ml':ME (List D)}{mt:ME Bool}{m1 m2:MS}{pos p p1 p2 tpos:Pos}{k i:Nat}{x:Str}
theorem zbH:JSs X [] (tS W G zq) := .of (zqC zBW fun E σ H ⟨F,ρ,env,h,er,hr,w⟩=>wpS.done (h:=h) w er hr)
theorem zC (h1:JS X st (tS W G m1)):JSs X [st] (tS W G m1) := .of (zze h1.to)
theorem zr (h1:JS X st (tS W G m1)) (h2:JSs X rest (tS W G m2)):JSs X (st :: rest) (tS W G (zf m1 m2)) :=
 .of (zqC (zBf h1.to h2.to) fun E σ H ⟨F,ρ,env,h,er,hr,w⟩=>⟨F,ρ,env,h,er,hr,by
   unfold zf at w
   cases e:m1 env h with
   | nx e1 h1 =>
     rw [e]at w
     exact fun ρ1 H1 σ1 ex er1 hr1=>⟨F,ρ1,e1,h1,er1,hr1,w.mono ex⟩
   | bk e1 h1=>rw [e]at w;exact w
   | ct e1 h1=>rw [e]at w;exact w
   | rt v h1=>rw [e]at w;exact w
   | ex c h1=>rw [e]at w;exact w
   | bad=>rw [e]at w;exact w⟩)
theorem zia:JS X st (tS W G zg4) := .of (zdn zAa fun E σ H ⟨F,ρ,env,h,er,hr,w⟩=>w)
theorem zfc (ha:JE X e (tE W G ma)) (hs:swapsWith e none pos.line X.env=pure false:=by rfl):JS X (.Expr e pos) (tS W G (zbb ma)) :=
 .of (zdn (zy2 ha.to hs) fun E σ H ⟨F,ρ,env,h,er,hr,w⟩=>⟨F,ρ,env,h,er,hr,zc0 w fun x h1 ρ1 H1 y e1 er1 hr1 r1 w1=>wpS.done (h:=h1) w1 er1 hr1⟩)
theorem zS (ha:JE X e (tE W G ma)):JS X (.Return (some e) pos) (tS W G (zx ma)) :=
 .of (zdn (zzx ha.to) fun E σ H ⟨F,ρ,env,h,er,hr,w⟩=>⟨F,ρ,env,h,er,hr,zc0 w fun x h1 ρ1 H1 y e1 er1 hr1 r1 w1=>w1 ρ1 H1 y Ext.refl hr1 r1⟩)
theorem zbF (hc:JT X c (tT W G mt)) (ha:JSs X bd (tS W G m1)) (hb:JSs X bd2 (tS W G m2)):JS X (.If c bd bd2 pos) (tS W G (ifS mt m1 m2)) :=
 .of (zdn (zyq hc.to ha.to hb.to) fun E σ H ⟨F,ρ,env,h,er,hr,w⟩=>⟨F,ρ,env,h,er,hr,zc0 w fun x h1 ρ1 H1 y e1 er1 hr1 r1 w1=>by
   obtain rfl:x=y:=r1
   cases x with
   | true=>rw [if_pos rfl]at w1 ⊢;exact ⟨F,ρ1,env,h1,er1,hr1,w1⟩
   | false=>rw [if_neg (by decide)]at w1 ⊢;exact ⟨F,ρ1,env,h1,er1,hr1,w1⟩⟩)
def tTg (G:GP) (t:Tg):TG:=fun v σ H Q=>∃ F ρ env h d env1,zT ρ H env σ∧HR F G ρ h H∧RD ρ H d v∧zdG t d env=some env1∧∀ σ1,zT ρ H env1 σ1->Q σ1 H
def zij (l:List Nat):TGs:=fun vs σ H Q=>∃ ρ env ds env1,zT ρ H env σ∧RDs ρ H ds vs∧zej l ds env=some env1∧∀ σ1,zT ρ H env1 σ1->Q σ1 H
theorem zcG (hN:X.N.Nodup) (hi:X.N[i]?=some x) (hx:Loc X.env.scope x) (hf:X.fn x=true∨X.env.scope.names.lookup x=some .local:=by first | exact .inl rfl | exact .inr rfl | assumption):JG X (.Name x pos) (tTg G (.nm i)) :=
 .of (zq7 (zrG hN hi hx hf) fun v σ H Q ⟨F,ρ,env,h,d,env1,er,hr,r,e,q⟩=>by
   cases e
   exact q _ (er.set r i))
theorem zoB:JGs X [] (zij []) := .of (zrk zAm fun v σ H Q ⟨ρ,env,ds,env1,er,r,e,q⟩=>by
 cases ds with
 | nil=>unfold RDs at r;cases e;exact ⟨r,q σ er⟩
 | cons d ds=>cases e)
theorem zgc {l:List Nat} (hN:X.N.Nodup) (hi:X.N[i]?=some x) (hx:Loc X.env.scope x) (h2:JGs X es (zij l)) (hf:X.fn x=true∨X.env.scope.names.lookup x=some .local:=by first | exact .inl rfl | exact .inr rfl | assumption)
   (hs:(assignEach (.Name x pos :: es) X.env).map (·.2)=assign (.Name x pos) X.env :: (assignEach es X.env).map (·.2):=by rfl):JGs X (.Name x pos :: es) (zij (i :: l)) :=
 .of (zrk (zzG (zrG hN hi hx hf) h2.to hs) fun v σ H Q ⟨ρ,env,ds,env1,er,r,e,q⟩=>by
   cases ds with
   | nil=>cases e
   | cons d ds =>
     unfold RDs at r
     obtain ⟨y,vs,rfl,r1,r2⟩:=r
     exact ⟨y,vs,rfl,ρ,_,ds,env1,er.set r1 i,r2,e,q⟩)
theorem zAc:∀ (l:List Nat) {ds:List D}{e e1:zw},zej l ds e=some e1->ds.length=l.length:=by
 intro l
 induction l with
 | nil=>intro ds e e1 h;cases ds <;> first | rfl | cases h
 | cons i l ih =>
   intro ds e e1 h
   cases ds with
   | nil=>cases h
   | cons d ds=>simp [ih (ds:=ds) h]
theorem zoO {l:List Nat}{n k:Nat} (hc:X.calm=true) (h:JGs X es (zij l)) (hl:n=l.length:=by rfl) (hn:(assignEach es X.env).length=n:=by rfl) (hst:(assignEach es X.env).findIdx? (·.1)=none:=by rfl):JG X (.Tuple es k pos) (tTg G (.tp l)) :=
 .of (zq7 (zCq hc h.to hn hst) fun v σ H Q ⟨F,ρ,env,hh,d,env1,er,hr,r,e,q⟩=>by
   cases d with
   | tup ds =>
     unfold RD at r
     obtain ⟨a,vs,rfl,ha,rs⟩:=r
     exact ⟨a,vs,rfl,SqT.of ha,by rw [<- rs.length,hl];exact zAc l e,ρ,env,ds,env1,er,rs,e,q⟩
   | _=>cases e)
theorem zZ (hN:X.N.Nodup) (hi:X.N[i]?=some x) (hx:Loc X.env.scope x) (ha:JE X e (tE W G ma)) (hs:swapsWith e (some (.Name x p)) pos.line X.env=pure false:=by rfl) (hf:X.fn x=true∨X.env.scope.names.lookup x=some .local:=by first | exact .inl rfl | exact .inr rfl | assumption) :
   JS X (.Assign [.Name x p] e pos) (tS W G (zm (.nm i) ma)) :=
 .of (zdn (zxD hN hi hx ha.to hs hf) fun E σ H ⟨F,ρ,env,h,er,hr,w⟩=>⟨F,ρ,env,h,er,hr,zc0 w fun x h1 ρ1 H1 y e1 er1 hr1 r1 w1=>wpS.done (h:=h1) w1 (er1.set r1 i) hr1⟩)
theorem zCW {tg:Expr}{t:Tg} (ha:JE X e (tE W G ma)) (hg:JG X tg (tTg G t)) (hs:swapsWithSole [tg] e pos.line X.env=pure false:=by rfl) (hw:swappedStores [tg] e X.env=pure none:=by rfl)
   (h1:(assignEach [tg] X.env).map (·.2)=[assign tg X.env]:=by rfl):JS X (.Assign [tg] e pos) (tS W G (zm t ma)) :=
 .of (zdn (zq4 ha.to hg.to hs hw h1) fun E σ H ⟨F,ρ,env,h,er,hr,w⟩=>⟨F,ρ,env,h,er,hr,zc0 w fun x h1 ρ1 H1 y e1 er1 hr1 r1 w1=>by
   unfold zhq at w1
   cases eb:zdG t x env with
   | none=>rw [eb]at w1;exact w1.elim
   | some env1 =>
     rw [eb]at w1
     exact ⟨F,ρ1,env,h1,x,env1,er1,hr1,r1,eb,fun σ1 er2=>w1.done er2 hr1⟩⟩)
theorem zxv {op:Operator}{r:R2}{f:D->D->ME D} (hN:X.N.Nodup) (hi:X.N[i]?=some x) (hx:Loc X.env.scope x) (ho:OpR X (inplaceOp op) r) (hf:OpM W G f r) (ha:JE X e (tE W G ma))
   (hfn:X.fn x=true∨X.env.scope.names.lookup x=some .local):JS X (.AugAssign (.Name x p) op e pos) (tS W G (zfA f i ma)) :=
 .of (zdn (zCk (ti:=r) hN hi hx ha.to ho hfn) fun E σ H ⟨F,ρ,env,h,er,hr,w⟩=>by
   have w':wp F W G rV env σ ρ H ((zl (var i) fun x=>zl ma fun y=>f x y) env h) (fun z H2=>E.nx (σ.set i (some z)) H2):=zc0 w fun x h1 ρ1 H1 y e1 er1 hr1 r1 w1=>wpS.done (h:=h1) w1 (er1.set r1 i) hr1
   unfold zl var at w'
   cases ev:env[i]? with
   | none=>simp only [ev]at w';exact w'.elim
   | some od =>
     cases od with
     | none=>simp only [ev]at w';exact w'.elim
     | some d =>
       simp only [ev]at w'
       obtain ⟨v,h1,h2⟩:=er.all i d ev
       refine ⟨v,h1,F,ρ,env,h,er,hr,zE (k:=fun y=>f d y) w' fun y h1 ρ1 H1 u e1 er1 hr1 r1 w1=>?_⟩
       exact hf F ρ1 h1 H1 env σ d y v u _ er1 hr1 (RD.ext e1 _ _ h2) r1 w1)
theorem zqE (hN:X.N.Nodup) (hi:X.N[i]?=some x) (hx:Loc X.env.scope x) (ha:JE X e (tE W G ma)) (hfn:X.fn x=true∨X.env.scope.names.lookup x=some .local:=by first | exact .inl rfl | exact .inr rfl | assumption) :
   JS X (.AugAssign (.Name x p) .Add e pos) (tS W G (zfA zF i ma)):=zxv hN hi hx zAu zrA ha hfn
theorem FRs.length {C:Addr}:∀ {fs:List (Nat×D)}{vs:List (Str×V)},FRs G ρ H C fs vs->vs.length=fs.length
 | [],vs,r=>by unfold FRs at r;subst r;rfl
 | p :: fs,vs,r=>by
   unfold FRs at r
   obtain ⟨g,v,q,rfl,h1,h2,h3,h4⟩:=r
   simp [FRs.length h4]
theorem zhd {sub att:Nat->Nat->Bool}{kk:Nat}{f:Str} (ok:G.Ok sub att) (hf:G.an[kk]?=some f) (ho:JE X o (tE W G mo)) (ha:JE X e (tE W G ma)) (hs:swapsWith e (some (.Attribute o f p)) pos.line X.env=pure false) (hK:X.K=G.K:=by rfl) :
   JS X (.Assign [.Attribute o f p] e pos) (tS W G (zfs att kk mo ma)) :=
 .of (zdn (zxM ho.to ha.to hs) fun E σ H ⟨F,ρ,env,h,er,hr,w⟩=>⟨F,ρ,env,h,er,hr,zc0 w fun y h1 ρ1 H1 vy e1 er1 hr1 r1 w1=>⟨F,ρ1,env,h1,er1,hr1,zc0 w1 fun x h2 ρ2 H2 vx e2 er2 hr2 r2 w2=>by
   have r1:RD ρ2 H2 y vy:=RD.ext e2 _ _ r1
   have r2:RD ρ2 H2 x vx:=r2
   cases x with
   | obj n =>
     dsimp only at w2
     cases qo:h2[n]? with
     | none=>rw [qo]at w2;exact w2.elim
     | some o =>
       rw [qo]at w2
       cases o with
       | ins c fs =>
         dsimp only at w2
         obtain ⟨q,C,dx,vs,rfl,eq,hC,hq,rs⟩:=hr2.ins r2 qo
         by_cases hl:(att c kk && decide (fs.length < 100))=true
         . rw [if_pos hl]at w2
           rw [Bool.and_eq_true,decide_eq_true_eq]at hl
           have hn:=ok.noat c C kk f hC hl.1 hf
           refine ⟨q,C,dx,vs,rfl,hq,by rw [hK];exact (ok.cls c C hC).1,by rw [hK];exact hn,by rw [rs.length];omega,?_⟩
           have tp:Ext (fun _=>False) ρ2 ρ2 H2 (upd H2 q (.ins C dx (zcj f vy vs))):=by
             refine ⟨⟨[],by simp⟩,fun b xs z=>?_,fun _ z=>z.elim⟩
             rw [zy]
             . exact z
             . intro zz;subst zz;rw [hq]at z;cases z
           obtain ⟨ex,hr'⟩:=hr2.write (o1 := .ins c (zfK kk y fs)) (u := .ins C dx (zcj f vy vs)) qo eq rfl rfl hq trivial ⟨C,dx,_,hC,zbQ,FRs.put ok.nd hf hn (RD.ext tp _ _ r1) (rs.map fun p _ v=>RD.ext tp _ _)⟩
           exact w2 ρ2 _ σ ex (er2.ext ex) hr'
         . rw [if_neg hl]at w2;exact w2.elim
       | _=>exact w2.elim
   | _=>exact w2.elim⟩⟩)
def zyt:zhl:=fun o i v H Q=>∃ a H',o = .ref a∧zhm H a i v H'∧Q H'
theorem zyO (hr:zP k X.A):zgN X zyt:=fun pins s σ H o i v ov iv u Q I ro ri rv ⟨a,H',e,g,q⟩=>by
 subst e;cases ro
 exact zyK (zoE hr) I g ri rv fun s' I'=>⟨H',I',q⟩
theorem zyu {t t':zhl} (h:zgN X t) (h':zgN X t'):zgN X (fun o i v H Q=>t o i v H Q∨t' o i v H Q):=fun pins s σ H o i v ov iv u Q I ro ri rv q=>by
 rcases q with q | q
 . exact h pins s σ H o i v ov iv u Q I ro ri rv q
 . exact h' pins s σ H o i v ov iv u Q I ro ri rv q
theorem KRs.any {kk:Int}:∀ {kvs:List (Int×D)}{vs:List (Key×V)},KRs ρ H kvs vs->(kvs.any fun p=>decide (p.1=kk))=(vs.any fun kv=>decide (kv.1=(Sum.inl kk:Key)))
 | [],vs,r=>by unfold KRs at r;subst r;rfl
 | p :: kvs,vs,r=>by
   unfold KRs at r
   obtain ⟨u,q,rfl,r1,r2⟩:=r
   rw [List.any_cons,List.any_cons,KRs.any r2]
   congr 1
   exact decide_eq_decide.mpr ⟨fun z=>by rw [z],fun z=>Sum.inl.inj z⟩
theorem KRs.repl {kk:Int}{d:D}{v:V} (rd:RD ρ H d v):∀ {kvs:List (Int×D)}{vs:List (Key×V)},KRs ρ H kvs vs->KRs ρ H (kvs.map fun p=>if p.1=kk then (p.1,d) else p) (vs.map fun kv=>if kv.1=Sum.inl kk then (kv.1,v) else kv)
 | [],vs,r=>by unfold KRs at r;subst r;simp [KRs]
 | p :: kvs,vs,r=>by
   unfold KRs at r
   obtain ⟨u,q,rfl,r1,r2⟩:=r
   rw [List.map_cons,List.map_cons]
   unfold KRs
   by_cases e:p.1=kk
   . rw [if_pos e,if_pos (by rw [e])]
     exact ⟨v,_,rfl,rd,KRs.repl rd r2⟩
   . rw [if_neg e,if_neg (fun z=>e (Sum.inl.inj z))]
     exact ⟨u,_,rfl,r1,KRs.repl rd r2⟩
theorem KRs.snoc {kk:Int}{d:D}{v:V} (rd:RD ρ H d v):∀ {kvs:List (Int×D)}{vs:List (Key×V)},KRs ρ H kvs vs->KRs ρ H (kvs++[(kk,d)]) (vs++[(Sum.inl kk,v)])
 | [],vs,r=>by
   unfold KRs at r;subst r
   show KRs ρ H [(kk,d)] [(Sum.inl kk,v)]
   unfold KRs
   exact ⟨v,[],rfl,rd,by unfold KRs;rfl⟩
 | p :: kvs,vs,r=>by
   unfold KRs at r
   obtain ⟨u,q,rfl,r1,r2⟩:=r
   rw [List.cons_append,List.cons_append]
   unfold KRs
   exact ⟨u,_,rfl,r1,KRs.snoc rd r2⟩
theorem KRs.put {kk:Int}{d:D}{v:V} (rd:RD ρ H d v) {kvs:List (Int×D)}{vs:List (Key×V)} (r:KRs ρ H kvs vs):KRs ρ H (zeZ kk d kvs) (zc3 vs (Sum.inl kk) v):=by
 unfold zeZ zc3
 rw [r.any]
 by_cases e:(vs.any fun kv=>decide (kv.1=(Sum.inl kk:Key)))=true
 . rw [if_pos e,if_pos e];exact r.repl rd
 . rw [if_neg e,if_neg e];exact r.snoc rd
theorem KRs.length:∀ {kvs:List (Int×D)}{vs:List (Key×V)},KRs ρ H kvs vs->kvs.length=vs.length
 | [],vs,r=>by unfold KRs at r;subst r;rfl
 | p :: kvs,vs,r=>by
   unfold KRs at r
   obtain ⟨u,q,rfl,r1,r2⟩:=r
   simp [KRs.length r2]
theorem zgM (rm:zP k X.A) (ho:JE X o (tE W G mo)) (hb:JE X b (tE W G mb)) (ha:JE X e (tE W G ma)) (hs:swapsWithSole [.Subscript o b p] e pos.line X.env=pure false:=by rfl) (hw:swappedStores [.Subscript o b p] e X.env=pure none:=by rfl)
   (h1:(assignEach [.Subscript o b p] X.env).map (·.2)=[assign (.Subscript o b p) X.env]:=by rfl)
   (hq:∀ v,assign (.Subscript o b p) X.env v=(do
     let ov <- holding [v] (eval o X.env)
     let iv <- holding [v,ov] (eval b X.env)
     standAt p
     holding [v,ov,iv] (setItem ov iv v)
     release [v,ov,iv] []):=by intro _;rfl):JS X (.Assign [.Subscript o b p] e pos) (tS W G (zb0 mo mb ma)) :=
 .of (zdn (zq4 ha.to (zAZ ho.to hb.to (zyu zy3 (zyO rm)) hq) hs hw h1) fun E σ H ⟨F,ρ,env,h,er,hr,w⟩=>⟨F,ρ,env,h,er,hr,zc0 w fun y h1 ρ1 H1 vy e1 er1 hr1 r1 w1=>⟨F,ρ1,env,h1,er1,hr1,zc0 w1 fun x h2 ρ2 H2 vx e2 er2 hr2 r2 w2=>⟨F,ρ2,env,h2,er2,hr2,zc0 w2 fun z h3 ρ3 H3 vz e3 er3 hr3 r3 w3=>by
   have r1:RD ρ3 H3 y vy:=RD.ext (e2.trans e3) _ _ r1
   have r2:RD ρ3 H3 x vx:=RD.ext e3 _ _ r2
   have r3:RD ρ3 H3 z vz:=r3
   cases x with
   | obj n =>
     cases z with
     | int j =>
       unfold RD at r3
       dsimp only at w3
       cases qo:h3[n]? with
       | none=>rw [qo]at w3;exact w3.elim
       | some o =>
         rw [qo]at w3
         cases o with
         | lst xs =>
           dsimp only at w3
           obtain ⟨q,vs,rfl,eq,hq,rs⟩:=hr3.lst r2 qo
           cases ej:ixN xs.length j with
           | none=>rw [ej]at w3;exact w3.elim
           | some jj =>
             rw [ej]at w3
             refine .inl ⟨q,vs,j,jj,rfl,r3,hq,by rw [<- rs.length];exact ej,?_⟩
             have tp:Ext (fun _=>False) ρ3 ρ3 H3 (upd H3 q (.lst (vs.set jj vy))):=by
               refine ⟨⟨[],by simp⟩,fun b xs z=>?_,fun _ z=>z.elim⟩
               rw [zy]
               . exact z
               . intro zz;subst zz;rw [hq]at z;cases z
             obtain ⟨ex,hr'⟩:=hr3.write (o1 := .lst (xs.set jj y)) (u := .lst (vs.set jj vy)) qo eq rfl rfl hq trivial ⟨_,zbQ,RDs.ext tp _ _ (RDs.set r1 jj rs)⟩
             exact w3 ρ3 _ σ ex (er3.ext ex) hr'
         | dic kvs =>
           dsimp only at w3
           obtain ⟨q,vs,rfl,eq,hq,rs⟩:=hr3.dic r2 qo
           by_cases hl:kvs.length < 1000000
           . rw [if_pos hl]at w3
             subst r3
             refine .inr ⟨q,_,rfl,zhm.k (k:=Sum.inl j) hq (by rw [<- rs.length,sizeLine_eq];omega),?_⟩
             have tp:Ext (fun _=>False) ρ3 ρ3 H3 (upd H3 q (.dK (zc3 vs (Sum.inl j) vy))):=by
               refine ⟨⟨[],by simp⟩,fun b xs z=>?_,fun _ z=>z.elim⟩
               rw [zy]
               . exact z
               . intro zz;subst zz;rw [hq]at z;cases z
             obtain ⟨ex,hr'⟩:=hr3.write (o1 := .dic (zeZ j y kvs)) (u := .dK (zc3 vs (Sum.inl j) vy)) qo eq rfl rfl hq trivial ⟨_,zbQ,KRs.put (RD.ext tp _ _ r1) (rs.map fun p _ v=>RD.ext tp _ _)⟩
             exact w3 ρ3 _ σ ex (er3.ext ex) hr'
           . rw [if_neg hl]at w3;exact w3.elim
         | _=>exact w3.elim
     | _=>exact w3.elim
   | _=>cases z <;> exact w3.elim⟩⟩⟩)
end
end MI
end
section
namespace MI
open PySem PySem.Spec L2
def zfO (G:GP) (F:Addr->Prop) (ρ:List Addr) (H:Hp) (J:It) (p:Src):Prop :=
 ∀ (F':Addr->Prop) (ρ':List Addr) (h':MH) (H':Hp) (i:Nat),Ext F ρ ρ' H H'->HR F' G ρ' h' H'->guard p.2 h'=true ->
   (∀ d,p.1[i]?=some d->J.go i H'∧∀ x H2,J.yld i H' x H2->Ext F' ρ' ρ' H' H2∧HR F' G ρ' h' H2∧RD ρ' H2 d x)∧(p.1.length<=i->J.stop i H')
def rI (G:GP):RL Src It:=fun F ρ _ H p J=>zfO G F ρ H J p
abbrev tI (W:Nat->Hp->Prop) (G:GP) (m:ME Src):TI:=tG W G (rI G) m
section
variable {W:Nat->Hp->Prop}{X:Cx}{F:Addr->Prop}{G:GP}{env:zw}{σ:L2.St}{ρ:List Addr}{H:Hp}{h:MH}{a b c e o tg:Expr}{ma mb:ME D}{pos p p1:Pos}{k:Nat}
theorem znR {n:Nat}{ob:O}{gs:List (Nat×O)} (g:guard gs h=true) (hm:(n,ob)∈gs):h[n]?=some ob:=by
 unfold guard at g
 rw [List.all_eq_true]at g
 exact of_decide_eq_true (g (n,ob) hm)
theorem zxT {n:Nat}{q:Addr}{xs:List D} (hK:X.K=G.K) (eq:ρ[n]?=some q):zfO G F ρ H (Itl X.K q) (xs,[(n,.lst xs)]):=by
 intro F' ρ' h' H' i ex hr g
 have e:=znR g (List.mem_singleton.mpr rfl)
 have eq':=ex.get eq
 obtain ⟨vs,hq,rs⟩:=hr.at e eq'
 refine ⟨fun d hd=>?_,fun hl=>⟨vs,SqL.of hq,by rw [<- rs.length];exact hl⟩⟩
 obtain ⟨v,e1,e2⟩:=rs.get hd
 refine ⟨⟨vs,v,SqL.of hq,e1⟩,fun x H2 ⟨y1,y2⟩=>?_⟩
 subst y1
 have:=y2 vs (SqL.of hq)
 rw [e1]at this;cases this
 exact ⟨Ext.refl,hr,e2⟩
theorem zeC (ha:JE X a (tE W G ma)) (hK:X.K=G.K:=by rfl):JI X tg a (tI W G (itL ma)) :=
 .of (zoD (zz3 ha.to) fun σ H Q ⟨F,ρ,env,h,er,hr,w⟩=>⟨F,ρ,env,h,er,hr,zE w fun x h1 ρ1 H1 y e1 er1 hr1 r1 w1=>by
   cases x with
   | obj n =>
     simp only [zn7]at w1
     cases qo:h1[n]? with
     | none=>rw [qo]at w1;exact w1.elim
     | some o =>
       rw [qo]at w1
       cases o with
       | lst xs =>
         obtain ⟨q,vs,rfl,eq,hq,rs⟩:=hr1.lst r1 qo
         exact ⟨q,rfl,⟨vs,SqL.of hq⟩,w1.done er1 hr1 (zxT hK eq)⟩
       | _=>exact w1.elim
   | _=>exact w1.elim⟩)
theorem zgT (hg:Gl X "range") (hm:X.mg "range" = none) (ha:JE X a (tE W G ma)) (hs:starEach [a] X.env=(false,eval a X.env) :: starEach [] X.env):JI X tg (.Call (.Name "range" p) [a] [] pos) (tI W G (itR ma)) :=
 .of (zoD (zA1 hg hm (zcy ha.to zcZ hs) (hs.trans (by rfl))) fun σ H Q ⟨F,ρ,env,h,er,hr,w⟩=>zee ⟨F,ρ,env,h,er,hr,zE w fun x h1 ρ1 H1 y e1 er1 hr1 r1 w1=>by
   have r1:RD ρ1 H1 x y:=r1
   cases x with
   | int i =>
     unfold RD at r1
     subst r1
     by_cases hl:-1000000<=i∧i<=1000000
     . dsimp only at w1
       rw [if_pos hl]at w1
       refine ⟨i,rfl,by omega,by omega,w1 ρ1 H1 (Itr 0 i.toNat) Ext.refl er1 hr1 ?_⟩
       intro F' ρ' h' H' j _ hr' _
       refine ⟨fun d hd=>?_,fun hj=>by rw [List.length_map,List.length_range]at hj;exact hj⟩
       have hj:j < i.toNat:=by
         have:=(List.getElem?_eq_some_iff.mp hd).1
         simpa using this
       refine ⟨hj,fun x H2 ⟨y1,y2⟩=>?_⟩
       subst y1 y2
       rw [List.getElem?_map,List.getElem?_range hj]at hd
       cases hd
       exact ⟨Ext.refl,hr',by unfold RD;simp⟩
     . dsimp only at w1
       rw [if_neg hl]at w1;exact w1.elim
   | _=>exact w1.elim⟩)
variable {mt:ME Bool}{m1:MS}{bd:List Stmt}{E:zeE}{r:RS}{kk:MS}
theorem zrx {N:L2.St->Hp->Prop} (w:wpS F W G ρ H (zfw r kk) E) (f:∀ e1 h1 ρ1 H1 σ1,Ext F ρ ρ1 H H1->zT ρ1 H1 e1 σ1->HR F G ρ1 h1 H1->wpS F W G ρ1 H1 (kk e1 h1) E->N σ1 H1):wpS F W G ρ H r { E with nx:=N,ct:=N,bk:=E.nx }:=by
 cases r with
 | nx e1 h1=>exact fun ρ1 H1 σ1 ex er hr=>f e1 h1 ρ1 H1 σ1 ex er hr (wpS.mono (r:=kk e1 h1) w ex)
 | ct e1 h1=>exact fun ρ1 H1 σ1 ex er hr=>f e1 h1 ρ1 H1 σ1 ex er hr (wpS.mono (r:=kk e1 h1) w ex)
 | bk e1 h1=>exact w
 | rt v h1=>exact w
 | ex c h1=>exact w
 | bad=>exact w
theorem zrU (hp:PassesOwn (model X.prog X.w) X.A X.env X.xe) (hc:JT X c (tT W G mt)) (hb:JSs X bd (tS W G m1)):JS X (.While c bd [] pos) (tS W G (ze3 mt m1)) :=
 .of (zdn (zz4 hp hc.to hb.to) fun E σ H ⟨F,ρ,env,h,er,hr,w⟩=>by
   refine ⟨fun n σ H=>∃ ρ env h,zT ρ H env σ∧HR F G ρ h H∧wpS F W G ρ H (zfG mt m1 n env h) E,⟨1000000,ρ,env,h,er,hr,w⟩,?_⟩
   rintro n σ H ⟨ρ,env,h,er,hr,w⟩
   cases n with
   | zero=>exact w.elim
   | succ n =>
     refine ⟨F,ρ,env,h,er,hr,zc0 w fun x h1 ρ1 H1 y e1 er1 hr1 r1 w1=>?_⟩
     obtain rfl:x=y:=r1
     cases x with
     | true =>
       rw [if_pos rfl]at w1 ⊢
       exact ⟨_,fun σ' H' z=>z,F,ρ1,env,h1,er1,hr1,zrx w1 fun e2 h2 ρ2 H2 σ2 ex2 er2 hr2 w2=>⟨n,Nat.lt_succ_self n,ρ2,e2,h2,er2,hr2,w2⟩⟩
     | false =>
       rw [if_neg (by decide)]at w1 ⊢
       exact wpS.done (h:=h1) w1 er1 hr1)
variable {ms:ME Src}{t:Tg}{iter:Expr}
theorem zrK {p:Src}{J:It}{ρ1:List Addr}{H1:Hp}{h1:MH} (src:zfO G F ρ1 H1 J p) (er1:zT ρ1 H1 env σ) (hr1:HR F G ρ1 h1 H1) (w1:wpS F W G ρ1 H1 (zcV t p.2 m1 p.1 env h1) E) :
   ∃ Wv:Nat->Nat->L2.St->Hp->Prop,(∃ m,Wv 0 m σ H1)∧∀ i m σ H,Wv i m σ H ->
     (J.stop i H∧E.nx σ H)∨(J.go i H∧∃ N:L2.St->Hp->Prop,(∀ σ' H',N σ' H'->∃ m',m' < m∧Wv (i+1) m' σ' H')∧∀ x H',J.yld i H x H'->tTg G t x σ H' fun σ2 H2=>tS W G m1 { E with nx:=N,ct:=N,bk:=E.nx } σ2 H2):=by
 refine ⟨fun i m σ H=>∃ ρ env h,Ext F ρ1 ρ H1 H∧zT ρ H env σ∧HR F G ρ h H∧m=p.1.length - i∧i<=p.1.length∧wpS F W G ρ H (zcV t p.2 m1 (p.1.drop i) env h) E,⟨p.1.length,ρ1,env,h1,Ext.refl,er1,hr1,by simp,Nat.zero_le _,by simpa using w1⟩,?_⟩
 rintro i m σ H ⟨ρ,env,h,ex,er,hr,rfl,hi,w⟩
 by_cases hlt:i < p.1.length
 . right
   have ed:p.1.drop i=p.1[i] :: p.1.drop (i+1):=List.drop_eq_getElem_cons hlt
   rw [ed]at w
   simp only [zcV]at w
   by_cases g:guard p.2 h=true
   . rw [if_pos g]at w
     obtain ⟨s1,_⟩:=src F ρ h H i ex hr g
     obtain ⟨go,yl⟩:=s1 p.1[i] (List.getElem?_eq_getElem hlt)
     refine ⟨go,_,fun σ' H' z=>z,fun x H' hy=>?_⟩
     obtain ⟨ex2,hr2,rd⟩:=yl x H' hy
     cases eb:zdG t p.1[i] env with
     | none=>rw [eb]at w;exact w.elim
     | some env1 =>
       rw [eb]at w
       refine ⟨F,ρ,env,h,p.1[i],env1,er.ext ex2,hr2,rd,eb,fun σ1 er3=>⟨F,ρ,env1,h,er3,hr2,zrx (wpS.mono (r:=zfw (m1 env1 h) (zcV t p.2 m1 (p.1.drop (i+1)))) w ex2) fun e4 h4 ρ4 H4 σ4 ex4 er4 hr4 w4=>?_⟩⟩
       exact ⟨p.1.length - (i+1),by omega,ρ4,e4,h4,(ex.trans ex2).trans ex4,er4,hr4,rfl,hlt,w4⟩
   . rw [if_neg g]at w;exact w.elim
 . left
   have ei:i=p.1.length:=by omega
   rw [List.drop_eq_nil_of_le (by omega)]at w
   simp only [zcV]at w
   by_cases g:guard p.2 h=true
   . rw [if_pos g]at w
     exact ⟨(src F ρ h H i ex hr g).2 (by omega),w.done er hr⟩
   . rw [if_neg g]at w;exact w.elim
theorem zgd (hp:PassesOwn (model X.prog X.w) X.A X.env X.xe) (hi:JI X tg iter (tI W G ms)) (hg:JG X tg (tTg G t)) (hb:JSs X bd (tS W G m1)) (hc:X.calm=true:=by rfl) (hs:∀ x,foldedSetIterable iter X.env x=pure x:=by intro _;rfl) :
   JS X (.For tg iter bd [] pos) (tS W G (zea t ms m1)) :=
 .of (zdn (zsx hp hc hi.to hg.to hb.to hs) fun E σ H ⟨F,ρ,env,h,er,hr,w⟩=>⟨F,ρ,env,h,er,hr,zc0 w fun p h1 ρ1 H1 J e1 er1 hr1 src w1=>zrK src er1 hr1 w1⟩)
theorem zrw {α β γ δ:Type}{Rl:RL α β}{Rl':RL γ δ}{F':Addr->Prop}{env1:zw}{σ1:L2.St} (sub:∀ b,F b->F' b) {m:ME α}{k:α->ME γ}{Q:δ->Hp->Prop}{P:β->Hp->Prop} (w:wp F W G Rl' env σ ρ H (zl m k env1 h) Q)
   (f:∀ x h1 ρ1 H1 y,Ext F' ρ ρ1 H H1->zT ρ1 H1 env1 σ1->HR F' G ρ1 h1 H1->Rl F' ρ1 h1 H1 x y->wp F W G Rl' env σ ρ1 H1 (k x env1 h1) Q->P y H1):wp F' W G Rl env1 σ1 ρ H (m env1 h) P:=by
 unfold zl at w
 cases e:m env1 h with
 | ok v h1 =>
   rw [e]at w
   exact fun ρ1 H1 y ex er hr rl=>f v h1 ρ1 H1 y ex er hr rl (w.mono (ex.sub sub))
 | ex c h1=>rw [e]at w;exact fun ρ1 H1 ex hr=>w ρ1 H1 (ex.sub sub) (hr.sub sub)
 | bad=>rw [e]at w;exact w
theorem zxp {js:List (Option Nat)} (er:zT ρ H env σ):zT ρ H (zb6 js env) (zgh js σ):=by
 refine ⟨by simp [zb6,zgh],fun i d e=>?_⟩
 unfold zb6 at e
 unfold zgh
 rw [List.getElem?_map]at e ⊢
 cases ej:js[i]? with
 | none=>rw [ej]at e;cases e
 | some j =>
   rw [ej]at e
   cases j with
   | none=>cases e
   | some kk =>
     have e2:(env[kk]?).join=some d:=Option.some.inj e
     cases ek:env[kk]? with
     | none=>rw [ek]at e2;cases e2
     | some od =>
       rw [ek]at e2
       have e3:od=some d:=e2
       subst e3
       obtain ⟨v,h1,h2⟩:=er.all kk d ek
       refine ⟨v,?_,h2⟩
       show some ((σ[kk]?).join)=_
       rw [h1];rfl
variable {N:List Str}{js:List (Option Nat)}{scope:Scope}{elt:Expr}{ifs:List Expr}{cond:ME Bool}{me:ME D}
theorem zqY {t:Tg}{Q:VK}{p:Src}{J:It}{ρ1:List Addr}{H1:Hp}{h1:MH} (hlen:p.1.length<=1000000) (src:zfO G F ρ1 H1 J p) (er1:zT ρ1 H1 env σ) (hr1:HR F G ρ1 h1 H1) (w1:wp F W G (rN G.K) env σ ρ1 H1 (zcg t p.2 cond me p.1 [] (zb6 js env) h1) Q) (D:Addr) (hD:H1 D=none) :
   znU J (tTg G t) (tT W G cond) (tE W G me) D σ H1 js Q:=by
 have nF:¬ F D:=(hr1.fresh hD).1
 have hr1':HR F G ρ1 h1 (upd H1 D (.lst [])):=hr1.new hD
 have frD:=hr1.fresh hD
 refine ⟨fun i m σ' H'=>∃ ρ' env' h' acc vs,Ext F ρ1 ρ' H1 H'∧zT ρ' H' env' σ'∧HR F G ρ' h' H'∧H' D=some (.lst vs)∧zfE F ρ' h' D∧RDs ρ' H' acc vs∧acc.length<=i∧m=p.1.length - i∧i<=p.1.length ∧
   wp F W G (rN G.K) env σ ρ' H' (zcg t p.2 cond me (p.1.drop i) acc env' h') Q,⟨p.1.length,ρ1,zb6 js env,h1,[],[],zcB hr1 hD,zxp (er1.ext (zcB hr1 hD)),hr1',zbQ,frD,RDs.nil,Nat.le_refl _,by simp,Nat.zero_le _,by simpa using w1.mono (zcB hr1 hD)⟩,?_⟩
 rintro i m σ' H' ⟨ρ',env',h',acc,vs,ex,er',hr',hD',fr,rs,hal,rfl,hi,w⟩
 have sub:∀ b,F b->(F b∨b=D):=fun b hb=> .inl hb
 have hrF:HR (fun b=>F b∨b=D) G ρ' h' H':=⟨fun b hb=>by
   rcases hb with hb | rfl
   . exact hr'.pro b hb
   . exact ⟨⟨_,hD'⟩,fr.2⟩,hr'.nd,hr'.len,hr'.all⟩
 by_cases hlt:i < p.1.length
 . right
   have ed:p.1.drop i=p.1[i] :: p.1.drop (i+1):=List.drop_eq_getElem_cons hlt
   rw [ed]at w
   simp only [zcg]at w
   by_cases g:guard p.2 h'=true
   . rw [if_pos g]at w
     obtain ⟨s1,_⟩:=src _ ρ' h' H' i ex hrF g
     obtain ⟨go,yl⟩:=s1 p.1[i] (List.getElem?_eq_getElem hlt)
     refine ⟨go,fun x H2 hy=>?_⟩
     obtain ⟨ex2,hr2,rd⟩:=yl x H2 hy
     cases eb:zdG t p.1[i] env' with
     | none=>rw [eb]at w;exact w.elim
     | some env1 =>
       rw [eb]at w
       refine ⟨_,ρ',env',h',p.1[i],env1,er'.ext ex2,hr2,rd,eb,fun σ2 er3=>⟨_,ρ',env1,h',er3,hr2,zrw sub (w.mono (ex2.sub sub)) fun b h3 ρ3 H3 b' ex3 er3' hr3 rb w3=>?_⟩⟩
       obtain rfl:b=b':=rb
       have hD3:H3 D=some (.lst vs):=by rw [ex3.frm D (.inr rfl),ex2.frm D (.inr rfl)];exact hD'
       cases b with
       | true =>
         rw [if_pos rfl]at w3 ⊢
         refine ⟨_,ρ3,env1,h3,er3',hr3,zrw sub w3 fun y h4 ρ4 H4 vy ex4 er4 hr4 ry w4=>?_⟩
         have hD4:H4 D=some (.lst vs):=by rw [ex4.frm D (.inr rfl)];exact hD3
         have fr4:zfE F ρ4 h4 D:=⟨nF,(hr4.pro D (.inr rfl)).2⟩
         have exA:Ext F ρ' ρ4 H' H4:=((ex2.trans ex3).trans ex4).sub sub
         have rs4:RDs ρ4 H4 acc vs:=RDs.ext exA _ _ rs
         obtain ⟨ex5,hr5⟩:=(hr4.sub sub).upd_free (ys:=vs++[vy]) fr4 hD4
         refine ⟨vs,hD4,by have:=rs.length;rw [sizeLine_eq];omega,p.1.length - (i+1),by omega,ρ4,env1,h4,acc++[y],vs++[vy],(ex.trans exA).trans ex5,er4.ext ex5,hr5,zbQ,fr4,RDs.ext ex5 _ _ (rs4.snoc ry),by simp;omega,rfl,hlt,w4.mono ex5⟩
       | false =>
         rw [if_neg (by decide)]at w3 ⊢
         have exA:Ext F ρ' ρ3 H' H3:=(ex2.trans ex3).sub sub
         exact ⟨p.1.length - (i+1),by omega,ρ3,env1,h3,acc,vs,ex.trans exA,er3',hr3.sub sub,hD3,⟨nF,(hr3.pro D (.inr rfl)).2⟩,RDs.ext exA _ _ rs,by omega,rfl,hlt,w3⟩
   . rw [if_neg g]at w;exact w.elim
 . left
   rw [List.drop_eq_nil_of_le (by omega)]at w
   simp only [zcg]at w
   by_cases g:guard p.2 h'=true
   . rw [if_pos g]at w
     exact ⟨(src F ρ' h' H' i ex hr' g).2 (by omega),w.done (er1.ext ex) hr' ⟨D,vs,rfl,hD',fr,rs⟩⟩
   . rw [if_neg g]at w;exact w.elim
theorem zrn {t:Tg}{Q:VK} (w:tN W G (zcY js t ms cond me) σ H Q):zil js (tI W G ms) (tTg G t) (tT W G cond) (tE W G me) σ H Q:=by
 obtain ⟨F,ρ,env,h,er,hr,w⟩:=w
 refine ⟨F,ρ,env,h,er,hr,zE w fun p h1 ρ1 H1 J e1 er1 hr1 src w1=>fun D hD=>?_⟩
 by_cases hlen:p.1.length<=1000000
 . rw [if_pos hlen]at w1
   exact zqY hlen src er1 hr1 w1 D hD
 . rw [if_neg hlen]at w1;exact w1.elim
theorem zes:zei X [] (tT W G zcX) := .of (fun pins s σ H Q I ⟨F,ρ,env,h,er,hr,w⟩=>zxn pins s σ H Q I (wp.done (h:=h) w er hr rfl))
theorem zxH (hc:JT X c (tT W G cond)):zei X [c] (tT W G cond) := .of (zBP hc.to)
theorem ze0 {t:Tg} (hc:X.calm=true) (S:zbZ X scope N js) (hi:JI X tg iter (tI W G ms)) (hg:∀ cl s₀ H₀ fp,JG (zb9 X scope N cl s₀ H₀ fp) tg (tTg G t)) (hf:∀ cl s₀ H₀ fp,zei (zb9 X scope N cl s₀ H₀ fp) ifs (tT W G cond))
   (he:∀ cl s₀ H₀ fp,JE (zb9 X scope N cl s₀ H₀ fp) elt (tE W G me)) (hs:∀ x,foldedSetIterable iter X.env x=pure x:=by intro _;rfl):JE X (.ListComp elt [⟨tg,iter,ifs,0⟩] scope pos) (tN W G (zcY js t ms cond me)) :=
 .of (zU (zr4 hc S hi.to ⟨fun cl s₀ H₀ fp=>⟨(hg cl s₀ H₀ fp).to,(hf cl s₀ H₀ fp).to,(he cl s₀ H₀ fp).to⟩⟩ hs) fun σ H Q w=>zrn w)
theorem zBH {t:Tg}{j:Nat}{y:Str}{py spos:Pos} (hc:X.calm=true) (hN:X.N.Nodup) (hj:X.N[j]?=some y) (hy:X.env.scope.names.lookup y=some .local) (S:zbZ X scope N js) (hi:JI X tg iter (tI W G ms))
   (hg:∀ cl s₀ H₀ fp,JG (zb9 X scope N cl s₀ H₀ fp) tg (tTg G t)) (hf:∀ cl s₀ H₀ fp,zei (zb9 X scope N cl s₀ H₀ fp) ifs (tT W G cond)) (he:∀ cl s₀ H₀ fp,JE (zb9 X scope N cl s₀ H₀ fp) elt (tE W G me))
   (hsw:swapsWith (.ListComp elt [⟨tg,iter,ifs,0⟩] scope pos) (some (.Name y py)) spos.line X.env=pure true:=by rfl) (hs:∀ x,foldedSetIterable iter X.env x=pure x:=by intro _;rfl) :
   JS X (.Assign [.Name y py] (.ListComp elt [⟨tg,iter,ifs,0⟩] scope pos) spos) (tS W G (zm (.nm j) (zH (zcY js t ms cond me)))) :=
 .of (zdn (zzE hc hN hj hy S hi.to ⟨fun cl s₀ H₀ fp=>⟨(hg cl s₀ H₀ fp).to,(hf cl s₀ H₀ fp).to,(he cl s₀ H₀ fp).to⟩⟩ hsw hs) fun E σ H ⟨F,ρ,env,h,er,hr,w⟩=>zrn ⟨F,ρ,env,h,er,hr,by
   have w':wp F W G rV env σ ρ H (zH (zcY js t ms cond me) env h) (fun z H2=>E.nx (σ.set j (some z)) H2):=zc0 w fun x h1 ρ1 H1 y e1 er1 hr1 r1 w1=>wpS.done (h:=h1) w1 (er1.set r1 j) hr1
   exact zE w' fun xs h1 ρ1 H1 y e1 er1 hr1 ⟨q,vs,ey,hq,fr,rs⟩ w1=>by subst ey;exact zsR w1 er1 hr1 hq fr rs⟩)
end
end MI
end
section
namespace MI
open PySem PySem.Spec L2
def O.bd (n:Nat):O->Prop
 | .lst xs=>bds n xs
 | .scr xs=>bds n xs
 | .dic kvs=>∀ p∈kvs,p.2.bd n
 | .hole=>True
 | .set _=>True
 | .ins _ fs=>∀ p∈fs,p.2.bd n
section
variable {F:Addr->Prop}{G:GP}{ρ ρ1 ρ2 ρ':List Addr}{H H1 H2:Hp}{h h1 h2:MH}{a:Addr}{o:O}{n:Nat}
theorem KRs.mem {kvs:List (Int×D)}:∀ {vs:List (Key×V)},KRs ρ H kvs vs->∀ p∈kvs,∃ v,RD ρ H p.2 v:=by
 induction kvs with
 | nil=>intro vs r p hp;cases hp
 | cons q kvs ih =>
   intro vs r p hp
   unfold KRs at r
   obtain ⟨v,w,rfl,r1,r2⟩:=r
   rcases List.mem_cons.mp hp with rfl | hp
   . exact ⟨v,r1⟩
   . exact ih r2 p hp
theorem FRs.mem {C:Addr}{kvs:List (Nat×D)}:∀ {vs:List (Str×V)},FRs G ρ H C kvs vs->∀ p∈kvs,∃ v,RD ρ H p.2 v:=by
 induction kvs with
 | nil=>intro vs r p hp;cases hp
 | cons q kvs ih =>
   intro vs r p hp
   unfold FRs at r
   obtain ⟨f,v,w,rfl,_,_,r1,r2⟩:=r
   rcases List.mem_cons.mp hp with rfl | hp
   . exact ⟨v,r1⟩
   . exact ih r2 p hp
theorem RO.bd (r:RO G ρ H a o):o.bd ρ.length:=by
 cases o with
 | lst xs=>obtain ⟨vs,_,r⟩:=r;exact RDs.bd _ _ r
 | scr xs=>obtain ⟨vs,_,r⟩:=r;exact RDs.bd _ _ r
 | dic kvs=>obtain ⟨vs,_,r⟩:=r;exact fun p hp=>let ⟨v,q⟩:=r.mem p hp;RD.bd _ _ q
 | hole=>trivial
 | set xs=>trivial
 | ins c fs=>obtain ⟨C,dx,vs,_,_,r⟩:=r;exact fun p hp=>let ⟨v,q⟩:=r.mem p hp;RD.bd _ _ q
theorem zsn:∀ {ds:List D},nrs ds=true->∀ d∈ds,d.nr=true
 | [],_,d,hd=>by cases hd
 | x :: ds,h,d,hd=>by
   unfold nrs at h
   rw [Bool.and_eq_true]at h
   rcases List.mem_cons.mp hd with rfl | hd
   . exact h.1
   . exact zsn h.2 d hd
theorem O.flat_bd (f:o.flat=true):o.bd n:=by
 cases o with
 | lst xs=>exact znZ xs f
 | scr xs=>cases f
 | dic kvs=>exact fun p hp=>D.nr_bd _ (zsn f _ (List.mem_map_of_mem hp))
 | hole=>cases f
 | set xs=>trivial
 | ins c fs=>cases f
theorem KRs.cut {kvs:List (Int×D)} (e:∀ m,m < n->ρ1[m]?=ρ[m]?):∀ {vs:List (Key×V)},KRs ρ H kvs vs->(∀ p∈kvs,p.2.bd n)->KRs ρ1 H kvs vs:=by
 induction kvs with
 | nil=>intro vs r _;exact r
 | cons q kvs ih =>
   intro vs r b
   unfold KRs at r ⊢
   obtain ⟨v,w,e1,r1,r2⟩:=r
   exact ⟨v,w,e1,RD.cut e _ _ (b q List.mem_cons_self) r1,ih r2 fun p hp=>b p (List.mem_cons_of_mem _ hp)⟩
theorem FRs.cut {C:Addr}{kvs:List (Nat×D)} (e:∀ m,m < n->ρ1[m]?=ρ[m]?):∀ {vs:List (Str×V)},FRs G ρ H C kvs vs->(∀ p∈kvs,p.2.bd n)->FRs G ρ1 H C kvs vs:=by
 induction kvs with
 | nil=>intro vs r _;exact r
 | cons q kvs ih =>
   intro vs r b
   unfold FRs at r ⊢
   obtain ⟨f,v,w,e1,e2,e3,r1,r2⟩:=r
   exact ⟨f,v,w,e1,e2,e3,RD.cut e _ _ (b q List.mem_cons_self) r1,ih r2 fun p hp=>b p (List.mem_cons_of_mem _ hp)⟩
theorem RO.cut (r:RO G ρ H a o) (b:o.bd n) (e:∀ m,m < n->ρ1[m]?=ρ[m]?):RO G ρ1 H a o:=by
 cases o with
 | lst xs=>obtain ⟨vs,h1,r⟩:=r;exact ⟨vs,h1,RDs.cut e _ _ b r⟩
 | scr xs=>obtain ⟨vs,h1,r⟩:=r;exact ⟨vs,h1,RDs.cut e _ _ b r⟩
 | dic kvs=>obtain ⟨vs,h1,r⟩:=r;exact ⟨vs,h1,r.cut e b⟩
 | hole=>exact r
 | set xs=>exact r
 | ins c fs=>obtain ⟨C,dx,vs,h1,h2,r⟩:=r;exact ⟨C,dx,vs,h1,h2,r.cut e b⟩
theorem HR.select (hr:HR F G ρ2 h2 H2) {os:List Nat}{objs:MH}{ρ':List Addr} (nd:os.Nodup) (hl:objs.length=os.length) (hl':ρ'.length=os.length) (ha:∀ (j i:Nat),os[j]?=some i->ρ'[j]?=ρ2[i]?)
   (hA:∀ (j i:Nat) ob,os[j]?=some i->objs[j]?=some ob->∃ a ob2,ρ2[i]?=some a∧h2[i]?=some ob2∧ob.isScr=ob2.isScr∧RO G ρ' H2 a ob):HR F G ρ' objs H2:=by
 have org:∀ (j:Nat) b ob,ρ'[j]?=some b->objs[j]?=some ob->∃ i ob2,os[j]?=some i∧ρ2[i]?=some b∧h2[i]?=some ob2∧ob.isScr=ob2.isScr∧RO G ρ' H2 b ob:=fun j b ob e1 e2=>by
   have hj:j < os.length:=by rw [<- hl];exact (List.getElem?_eq_some_iff.mp e2).1
   have ei:=List.getElem?_eq_getElem hj
   obtain ⟨a,ob2,h3,h4,h5,h6⟩:=hA j _ ob ei e2
   have:=ha j _ ei
   rw [e1,h3]at this;cases this
   exact ⟨_,ob2,ei,h3,h4,h5,h6⟩
 refine ⟨fun b hb=>⟨(hr.pro b hb).1,fun m ob e1 e2=>?_⟩,fun m m' b ob ob' hne e1 e2 e3 e4=>?_,by rw [hl,hl'],fun m ob e=>?_⟩
 . obtain ⟨i,ob2,_,h3,h4,h5,_⟩:=org m b ob e1 e2
   rw [h5];exact (hr.pro b hb).2 i ob2 h3 h4
 . obtain ⟨i,ob2,f1,h3,h4,h5,_⟩:=org m b ob e1 e3
   obtain ⟨i',ob2',f1',h3',h4',h5',_⟩:=org m' b ob' e2 e4
   rw [h5,h5']
   refine hr.nd i i' b ob2 ob2' (fun z=>hne ?_) h3 h3' h4 h4'
   subst z
   obtain ⟨g1,g2⟩:=List.getElem?_eq_some_iff.mp f1
   obtain ⟨g1',g2'⟩:=List.getElem?_eq_some_iff.mp f1'
   exact (List.getElem_inj nd).mp (g2.trans g2'.symm)
 . have hm:m < os.length:=by rw [<- hl];exact (List.getElem?_eq_some_iff.mp e).1
   obtain ⟨a,ob2,h3,h4,h5,h6⟩:=hA m _ ob (List.getElem?_eq_getElem hm) e
   exact ⟨a,by rw [ha m _ (List.getElem?_eq_getElem hm)];exact h3,h6⟩
def RlP (n b:Nat) (h2:MH) (ds:List D) (ms:List Nat) (ds':List D) (ms':List Nat):Prop:=(∃ t,ms'=ms++t)∧ms'.Nodup∧(∀ m∈ms',n<=m∧∃ o,h2[m]?=some o∧o.flat=true) ∧
   ∀ (ρ2 ρ':List Addr) (H:Hp) (vs:List V),(∀ i,i < n->ρ'[i]?=ρ2[i]?)->(∀ (j m:Nat),ms'[j]?=some m->ρ'[b+j]?=ρ2[m]?)->RDs ρ2 H ds vs->RDs ρ' H ds' vs
theorem ziA {b:Nat}:∀ {ds:List D}{ms:List Nat}{ds':List D}{ms':List Nat},zcu n b h2 ds ms=some (ds',ms')->ms.Nodup->(∀ m∈ms,n<=m∧∃ o,h2[m]?=some o∧o.flat=true)->RlP n b h2 ds ms ds' ms'
 | [],ms,ds',ms',e,nd,hm=>by
   simp only [zcu]at e
   cases e
   exact ⟨⟨[],by simp⟩,nd,hm,fun ρ2 ρ' H vs _ _ r=>by unfold RDs at r ⊢;exact r⟩
 | d :: ds,ms,ds',ms',e,nd,hm=>by
   have plain:∀ {q:List D×List Nat},d.bd n->zcu n b h2 ds ms=some q->ds'=d :: q.1->ms'=q.2->RlP n b h2 (d :: ds) ms ds' ms':=fun {q} hd e' e1 e2=>by
     subst e1 e2
     obtain ⟨h3,h4,h5,h6⟩:=ziA (ds':=q.1) (ms':=q.2) e' nd hm
     refine ⟨h3,h4,h5,fun ρ2 ρ' H vs g1 g2 r=>?_⟩
     unfold RDs at r ⊢
     obtain ⟨x,w,e3,r1,r2⟩:=r
     exact ⟨x,w,e3,RD.cut g1 _ _ hd r1,h6 ρ2 ρ' H w g1 g2 r2⟩
   have byNr:d.nr=true->(if d.nr=true then (zcu n b h2 ds ms).map fun p=>(d :: p.1,p.2) else none)=some (ds',ms')->RlP n b h2 (d :: ds) ms ds' ms':=fun hn e=>by
     rw [if_pos hn,Option.map_eq_some_iff]at e
     obtain ⟨q,e1,e2⟩:=e
     cases e2
     exact plain (D.nr_bd d hn) e1 rfl rfl
   cases d with
   | obj m =>
     simp only [zcu]at e
     by_cases h1:m < n
     . rw [if_pos h1,Option.map_eq_some_iff]at e
       obtain ⟨q,e1,e2⟩:=e
       cases e2
       exact plain (by unfold D.bd;exact h1) e1 rfl rfl
     . rw [if_neg h1]at e
       by_cases h3:m∈ms
       . rw [if_pos h3]at e;cases e
       . rw [if_neg h3]at e
         cases q:h2[m]? with
         | none=>rw [q]at e;cases e
         | some ob =>
           rw [q]at e
           dsimp only at e
           by_cases h4:ob.flat=true
           . rw [if_pos h4,Option.map_eq_some_iff]at e
             obtain ⟨w,e1,e2⟩:=e
             cases e2
             have nd':(ms++[m]).Nodup:=by
               rw [List.nodup_append]
               exact ⟨nd,by simp,fun x hx y hy=>by simp at hy;subst hy;exact fun z=>h3 (z ▸ hx)⟩
             obtain ⟨⟨t,et⟩,g4,g5,g6⟩:=ziA (ds':=w.1) (ms':=w.2) e1 nd' (fun x hx=>by
               rcases List.mem_append.mp hx with hx | hx
               . exact hm x hx
               . simp at hx;subst hx;exact ⟨by omega,ob,q,h4⟩)
             refine ⟨⟨m :: t,by rw [et];simp⟩,g4,g5,fun ρ2 ρ' H vs g1 g2 r=>?_⟩
             unfold RDs at r ⊢
             obtain ⟨x,w',e3,r1,r2⟩:=r
             refine ⟨x,w',e3,?_,g6 ρ2 ρ' H w' g1 g2 r2⟩
             unfold RD at r1 ⊢
             obtain ⟨a,ea,eb⟩:=r1
             refine ⟨a,ea,?_⟩
             rw [g2 ms.length m (by rw [et];simp)]
             exact eb
           . rw [if_neg h4]at e;cases e
   | non=>exact byNr rfl e
   | bl x=>exact byNr rfl e
   | int x=>exact byNr rfl e
   | str x=>exact byNr rfl e
   | tup xs =>
     have e':(if (D.tup xs).nr=true then (zcu n b h2 ds ms).map fun p=>(D.tup xs :: p.1,p.2) else none)=some (ds',ms'):=e
     by_cases hn:(D.tup xs).nr=true
     . exact byNr hn e'
     . rw [if_neg hn]at e';cases e'
theorem zB0 (hr1:HR F G ρ1 h1 H1) (ok:zef h1 h2=true) {i:Nat}{ob:O} (hi:i < h1.length) (e:h2[i]?=some ob):ob.bd ρ1.length:=by
 unfold zef at ok
 rw [List.all_eq_true]at ok
 have:=ok i (List.mem_range.mpr hi)
 rw [Bool.or_eq_true,decide_eq_true_eq]at this
 rcases this with z | z
 . obtain ⟨a,e1,e2⟩:=hr1.all i ob (by rw [<- z];exact e)
   exact e2.bd
 . rw [e]at z
   exact O.flat_bd z
theorem HR.keepSome {t:List Addr} (hr1:HR F G ρ1 h1 H1) (hr2:HR F G (ρ1++t) h2 H2) (ok:zef h1 h2=true) {os:List Nat}{obs:MH} (nd:os.Nodup) (hge:∀ m∈os,h1.length<=m) (hl:obs.length=os.length)
   (hA:∀ (j i:Nat) ob,os[j]?=some i->obs[j]?=some ob->∃ a ob2,(ρ1++t)[i]?=some a∧h2[i]?=some ob2∧ob.isScr=ob2.isScr∧RO G (ρ1++os.map fun i=>(ρ1++t).getD i 0) H2 a ob) :
   HR F G (ρ1++os.map fun i=>(ρ1++t).getD i 0) (h2.take h1.length++obs) H2:=by
 have hl2:h1.length<=h2.length:=by rw [<- hr1.len,<- hr2.len];simp
 have hpre:∀ m,m < ρ1.length->(ρ1++os.map fun i=>(ρ1++t).getD i 0)[m]?=(ρ1++t)[m]?:=fun m hm=>by rw [List.getElem?_append_left hm,List.getElem?_append_left hm]
 have hio:∀ (j i:Nat),(List.range h1.length++os)[j]?=some i->(j < h1.length∧i=j)∨(h1.length<=j∧os[j - h1.length]?=some i):=fun j i e=>by
   by_cases hj:j < h1.length
   . rw [List.getElem?_append_left (by simpa using hj),List.getElem?_range hj]at e
     cases e;exact .inl ⟨hj,rfl⟩
   . rw [List.getElem?_append_right (by simp;omega)]at e
     simp only [List.length_range]at e
     exact .inr ⟨by omega,e⟩
 refine hr2.select (os:=List.range h1.length++os) ?_ ?_ ?_ (fun j i e=>?_) (fun j i ob e1 e2=>?_)
 . rw [List.nodup_append]
   refine ⟨List.nodup_range,nd,fun x hx y hy z=>?_⟩
   have:=hge y hy
   rw [List.mem_range]at hx
   omega
 . rw [List.length_append,List.length_append,List.length_range,hl,List.length_take];omega
 . rw [List.length_append,List.length_append,List.length_range,List.length_map,hr1.len]
 . rcases hio j i e with ⟨hj,rfl⟩ | ⟨hj,e⟩
   . exact hpre i (by rw [hr1.len];exact hj)
   . rw [List.getElem?_append_right (by rw [hr1.len];exact hj),List.getElem?_map,hr1.len,e]
     have hi:i < (ρ1++t).length:=by
       have ho:j - h1.length < obs.length:=by rw [hl];exact (List.getElem?_eq_some_iff.mp e).1
       obtain ⟨a,_,h3,_⟩:=hA _ _ _ e (List.getElem?_eq_getElem ho)
       exact (List.getElem?_eq_some_iff.mp h3).1
     rw [List.getElem?_eq_getElem hi]
     simp [List.getD,List.getElem?_eq_getElem hi]
 . rcases hio j i e1 with ⟨hj,rfl⟩ | ⟨hj,e1⟩
   . have hlt:i < (h2.take h1.length).length:=by rw [List.length_take];omega
     rw [List.getElem?_append_left hlt,List.getElem?_take_of_lt hj]at e2
     obtain ⟨a,h3,h4⟩:=hr2.all i ob e2
     exact ⟨a,ob,h3,e2,rfl,h4.cut (zB0 hr1 ok hj e2) hpre⟩
   . have hlt:(h2.take h1.length).length=h1.length:=by rw [List.length_take];omega
     rw [List.getElem?_append_right (by rw [hlt];exact hj),hlt]at e2
     exact hA _ _ _ e1 e2
theorem RO.flat (r:RO G ρ H a o) (f:o.flat=true):RO G ρ' H a o:=r.cut (n:=0) (O.flat_bd f) fun m hm=>absurd hm (Nat.not_lt_zero m)
theorem zso:∀ {fs:List (Nat×D)}{ds:List D}{vs:List (Str×V)}{C:Addr}{us:List V},FRs G ρ H C fs vs->vs.map (·.2)=us->RDs ρ' H ds us->FRs G ρ' H C ((fs.map (·.1)).zip ds) vs
 | [],ds,vs,C,us,r,e,rs=>by unfold FRs at r;subst r;simp [FRs]
 | p :: fs,ds,vs,C,us,r,e,rs=>by
   unfold FRs at r
   obtain ⟨f,v,q,rfl,h1,h2,h3,h4⟩:=r
   subst e
   rw [List.map_cons]at rs
   cases ds with
   | nil=>unfold RDs at rs;cases rs
   | cons d ds =>
     unfold RDs at rs
     obtain ⟨x,w,e1,r1,r2⟩:=rs
     cases e1
     rw [List.map_cons,List.zip_cons_cons]
     unfold FRs
     exact ⟨f,v,q,rfl,h1,h2,r1,zso h4 rfl r2⟩
theorem FRs.vals:∀ {fs:List (Nat×D)}{vs:List (Str×V)}{C:Addr},FRs G ρ H C fs vs->RDs ρ H (fs.map (·.2)) (vs.map (·.2))
 | [],vs,C,r=>by unfold FRs at r;subst r;simp;exact RDs.nil
 | p :: fs,vs,C,r=>by
   unfold FRs at r
   obtain ⟨f,v,q,rfl,h1,h2,h3,h4⟩:=r
   exact RDs.cons h3 (FRs.vals h4)
theorem zAT {v:D}{v2:V}{t:List Addr} (hr1:HR F G ρ1 h1 H1) (hr2:HR F G (ρ1++t) h2 H2) (rd:RD (ρ1++t) H2 v v2) (ok:zef h1 h2=true) :
   ∃ t',HR F G (ρ1++t') (gcV h1.length v h2).2 H2∧RD (ρ1++t') H2 (gcV h1.length v h2).1 v2:=by
 have none':HR F G ρ1 (h2.take h1.length) H2:=by
   have:=hr1.keepSome hr2 ok (os:=[]) (obs:=[]) (by simp) (by simp) rfl (fun j i ob e=>by simp at e)
   simpa using this
 have low:∀ {d:D} {u:V},d.bd h1.length->RD (ρ1++t) H2 d u->RD ρ1 H2 d u:=fun {d u} hb r=>RD.cut (n:=h1.length) (fun m hm=>by rw [List.getElem?_append_left (by rw [hr1.len];exact hm)]) d u hb r
 have flatOs:∀ {ms:List Nat},(∀ m∈ms,h1.length<=m∧∃ o,h2[m]?=some o∧o.flat=true)->∀ (ρ':List Addr) (j i:Nat) ob,ms[j]?=some i->(ms.map fun k=>h2.getD k (.lst []))[j]?=some ob->∃ a ob2,(ρ1++t)[i]?=some a∧h2[i]?=some ob2∧ob.isScr=ob2.isScr∧RO G ρ' H2 a ob:=fun {ms} hm ρ' j i ob e1 e2=>by
   obtain ⟨_,o,ho,hf⟩:=hm i (List.mem_of_getElem? e1)
   rw [List.getElem?_map,e1]at e2
   have e3:h2.getD i (.lst [])=ob:=Option.some.inj e2
   rw [List.getD_eq_getElem?_getD,ho]at e3
   have e4:o=ob:=e3
   subst e4
   obtain ⟨a,g1,g2⟩:=hr2.all i o ho
   exact ⟨a,o,g1,ho,rfl,g2.flat hf⟩
 cases v with
 | obj m =>
   simp only [gcV]
   by_cases hm:m < h1.length
   . rw [if_pos hm]
     exact ⟨[],by simpa using none',by simpa using low (by unfold D.bd;exact hm) rd⟩
   . rw [if_neg hm]
     cases q:h2[m]? with
     | none=>exact ⟨t,hr2,rd⟩
     | some ob =>
       have flatCase:ob.flat=true->∃ t',HR F G (ρ1++t') (h2.take h1.length++[ob]) H2∧RD (ρ1++t') H2 (.obj h1.length) v2:=fun hf=>by
         have hh:=hr1.keepSome hr2 ok (os:=[m]) (obs:=[ob]) (by simp) (by simp;omega) rfl (fun j i x e1 e2=>by
           refine flatOs (ms:=[m]) (fun k hk=>?_) _ j i x e1 ?_
           . have e:k=m:=by simpa using hk
             subst e;exact ⟨by omega,ob,q,hf⟩
           . simp only [List.map_cons,List.map_nil,List.getD_eq_getElem?_getD,q];exact e2)
         refine ⟨_,hh,?_⟩
         unfold RD at rd ⊢
         obtain ⟨a,e1,e2⟩:=rd
         refine ⟨a,e1,?_⟩
         rw [List.getElem?_append_right (by rw [hr1.len];exact Nat.le_refl _),hr1.len]
         simp [List.getD_eq_getElem?_getD,e2]
       cases ob with
       | ins c fs =>
         dsimp only
         cases qr:zcu h1.length (h1.length+1) h2 (fs.map (·.2)) [] with
         | none=>exact ⟨t,hr2,rd⟩
         | some pr =>
           obtain ⟨ds,ms⟩:=pr
           obtain ⟨_,nd,hms,rel⟩:=ziA qr (by simp) (by simp)
           dsimp only
           have hge:∀ k∈m :: ms,h1.length<=k:=fun k hk=>by
             rcases List.mem_cons.mp hk with rfl | hk
             . omega
             . exact (hms k hk).1
           have ndm:(m :: ms).Nodup:=by
             rw [List.nodup_cons]
             refine ⟨fun z=>?_,nd⟩
             obtain ⟨_,o,ho,hf⟩:=hms m z
             rw [q]at ho;cases ho;cases hf
           have hlen:∀ k∈ms,k < (ρ1++t).length:=fun k hk=>by
             obtain ⟨_,o,ho,_⟩:=hms k hk
             rw [hr2.len];exact (List.getElem?_eq_some_iff.mp ho).1
           have hml:m < (ρ1++t).length:=by rw [hr2.len];exact (List.getElem?_eq_some_iff.mp q).1
           have hh:=hr1.keepSome hr2 ok (os:=m :: ms) (obs := .ins c ((fs.map (·.1)).zip ds) :: ms.map fun k=>h2.getD k (.lst [])) ndm hge (by simp) (fun j i x e1 e2=>by
             cases j with
             | zero =>
               cases e1;cases e2
               obtain ⟨a,g1,g2⟩:=hr2.all m _ q
               refine ⟨a,_,g1,q,rfl,?_⟩
               obtain ⟨C,dx,vs,k1,k2,k3⟩:=g2
               refine ⟨C,dx,vs,k1,k2,zso k3 rfl (rel (ρ1++t) _ H2 _ (fun i hi=>?_) (fun j k ek=>?_) k3.vals)⟩
               . rw [List.getElem?_append_left (by rw [hr1.len];exact hi),List.getElem?_append_left (by rw [hr1.len];exact hi)]
               . rw [List.getElem?_append_right (by rw [hr1.len];omega),hr1.len]
                 have e5:h1.length+1+j - h1.length=j+1:=by omega
                 rw [e5,List.map_cons,List.getElem?_cons_succ,List.getElem?_map,ek]
                 have hk:=hlen k (List.mem_of_getElem? ek)
                 rw [List.getElem?_eq_getElem hk]
                 simp [List.getD_eq_getElem?_getD,List.getElem?_eq_getElem hk]
             | succ j=>exact flatOs hms _ j i x (by simpa using e1) (by simpa using e2))
           refine ⟨_,hh,?_⟩
           unfold RD at rd ⊢
           obtain ⟨a,e1,e2⟩:=rd
           refine ⟨a,e1,?_⟩
           rw [List.getElem?_append_right (by rw [hr1.len];exact Nat.le_refl _),hr1.len]
           simp [List.getD_eq_getElem?_getD,e2]
       | lst xs =>
         dsimp only
         by_cases hf:(O.lst xs).flat=true
         . rw [if_pos hf];exact flatCase hf
         . rw [if_neg hf];exact ⟨t,hr2,rd⟩
       | scr xs =>
         dsimp only
         by_cases hf:(O.scr xs).flat=true
         . rw [if_pos hf];exact flatCase hf
         . rw [if_neg hf];exact ⟨t,hr2,rd⟩
       | dic xs =>
         dsimp only
         by_cases hf:(O.dic xs).flat=true
         . rw [if_pos hf];exact flatCase hf
         . rw [if_neg hf];exact ⟨t,hr2,rd⟩
       | hole =>
         dsimp only
         by_cases hf:O.hole.flat=true
         . rw [if_pos hf];exact flatCase hf
         . rw [if_neg hf];exact ⟨t,hr2,rd⟩
       | set xs =>
         dsimp only
         by_cases hf:(O.set xs).flat=true
         . rw [if_pos hf];exact flatCase hf
         . rw [if_neg hf];exact ⟨t,hr2,rd⟩
 | tup ds =>
   simp only [gcV]
   cases qr:zcu h1.length h1.length h2 ds [] with
   | none=>exact ⟨t,hr2,rd⟩
   | some pr =>
     obtain ⟨ds',ms⟩:=pr
     obtain ⟨_,nd,hms,rel⟩:=ziA qr (by simp) (by simp)
     dsimp only
     have hlen:∀ k∈ms,k < (ρ1++t).length:=fun k hk=>by
       obtain ⟨_,o,ho,_⟩:=hms k hk
       rw [hr2.len];exact (List.getElem?_eq_some_iff.mp ho).1
     have hh:=hr1.keepSome hr2 ok (os:=ms) (obs:=ms.map fun k=>h2.getD k (.lst [])) nd (fun k hk=>(hms k hk).1) (by simp) (fun j i x e1 e2=>flatOs hms _ j i x e1 e2)
     refine ⟨_,hh,?_⟩
     unfold RD at rd ⊢
     obtain ⟨a,vs,e1,e2,rs⟩:=rd
     refine ⟨a,vs,e1,e2,rel (ρ1++t) _ H2 vs (fun i hi=>?_) (fun j k ek=>?_) rs⟩
     . rw [List.getElem?_append_left (by rw [hr1.len];exact hi),List.getElem?_append_left (by rw [hr1.len];exact hi)]
     . rw [List.getElem?_append_right (by rw [hr1.len];omega),hr1.len]
       have e5:h1.length+j - h1.length=j:=by omega
       rw [e5,List.getElem?_map,ek]
       have hk:=hlen k (List.mem_of_getElem? ek)
       rw [List.getElem?_eq_getElem hk]
       simp [List.getD_eq_getElem?_getD,List.getElem?_eq_getElem hk]
 | non=>exact ⟨[],by simpa [gcV] using none',by simpa [gcV] using low (by simp [D.bd]) rd⟩
 | bl x=>exact ⟨[],by simpa [gcV] using none',by simpa [gcV] using low (by simp [D.bd]) rd⟩
 | int x=>exact ⟨[],by simpa [gcV] using none',by simpa [gcV] using low (by simp [D.bd]) rd⟩
 | str x=>exact ⟨[],by simpa [gcV] using none',by simpa [gcV] using low (by simp [D.bd]) rd⟩
end
end MI
end
section
namespace MI
open PySem PySem.Spec L2
abbrev W0:Nat->Hp->Prop:=fun _ _=>False
def wpF (F:Addr->Prop) (G:GP) (ρ:List Addr) (H:Hp) (r:R D) (Q:VK):Prop:=match r with
 | .ok v h1=>∀ ρ1 H1 v1,Ext F ρ ρ1 H H1->HR F G ρ1 h1 H1->RD ρ1 H1 v v1->Q v1 H1
 | .ex c h1=>∀ ρ1 H1,Ext F ρ ρ1 H H1->HR F G ρ1 h1 H1->False
 | .bad=>False
def spM (G:GP) (n:Nat) (f:MF):Sp:=fun vs H Q _=>∃ F ρ ds h,HR F G ρ h H∧RDs ρ H ds vs∧ds.length=n∧wpF F G ρ H (f ds h) Q
def Ar (n:Nat) (f:MF):Prop:=∀ ds h,ds.length≠n->f ds h = .bad
theorem ziC {np nl:Nat}{m:MS}:Ar np (zbf np nl m):=fun ds h hn=>if_neg hn
section
variable {P:Program}{w:World}{K:PySem.W.Frag}{mg:Str->Option Value}{base:Heap}{G:GP}
theorem zzs {F:Addr->Prop}{ρ:List Addr}{H:Hp}{N:List Str}{ds:List D}{vs:List V}{nl np:Nat} (r:RDs ρ H ds vs) (h1:N.length=nl) (h2:ds.length=np) (h3:np<=nl):zT ρ H (ds.map some++List.replicate (nl - np) none) (L2.start N vs):=by
 have hl:=r.length
 unfold L2.start
 refine ⟨by simp;omega,fun i d e=>?_⟩
 by_cases hi:i < ds.length
 . rw [List.getElem?_append_left (by simpa using hi),List.getElem?_map]at e
   rw [List.getElem?_append_left (by simp;omega),List.getElem?_map]
   cases ei:ds[i]? with
   | none=>rw [ei]at e;cases e
   | some d' =>
     rw [ei]at e
     have e':d'=d:=by simpa using e
     subst e'
     obtain ⟨v,g1,g2⟩:=r.get ei
     exact ⟨v,by rw [g1];rfl,g2⟩
 . rw [List.getElem?_append_right (by simpa using hi)]at e
   have:=List.mem_of_getElem? e
   rw [List.mem_replicate]at this
   cases this.2
theorem zbL {x qual:Str}{st:Stmt}{f:Addr}{fd:FuncData}{N ps:List Str}{k np nl:Nat}{m:MS} (Fn:Fun K x qual st f fd) (S:zbj N ps (zt st)) (hnl:N.length=nl) (hnp:ps.length=np) (hle:np<=nl)
   (body:∀ (cdv:Value) (A:Around) (outer:List Env) (s:Shared) (H:Hp) (E:XK),zP k (A.deeper (PyProof.Rows.envOfC qual (zt st) s.heap.objs.size f cdv)) ->
     JSs (zgg CX0 P w K mg base N qual (zt st) f cdv A outer s H E).nox (zbc st) (tS W0 G m)):zM P w K mg base CX0 (k+1) f fd ps (spM G np (zbf np nl m)):=by
 refine Fn.ok S (fun vs H Q E h=>?_) (fun cdv A outer s H vs Q E hr h=>?_)
 . obtain ⟨F,ρ,ds,h,_,r,hl,_⟩:=h
   rw [<- r.length,hl,hnp]
 . obtain ⟨F,ρ,ds,h,hrr,r,hl,w⟩:=h
   refine ⟨_,(body cdv A outer s H E hr).to,F,ρ,_,h,zzs (F:=F) r hnl hl hle,hrr,?_⟩
   unfold zbf at w
   rw [if_pos hl]at w
   cases e:m (ds.map some++List.replicate (nl - np) none) h with
   | nx e1 h1=>rw [e]at w;exact fun ρ1 H1 σ1 ex er hr'=>w ρ1 H1 .non ex hr' (by unfold RD;rfl)
   | rt v h1=>rw [e]at w;exact w
   | ex c h1=>rw [e]at w;exact w
   | bk e1 h1=>rw [e]at w;exact w.elim
   | ct e1 h1=>rw [e]at w;exact w.elim
   | bad=>rw [e]at w;exact w.elim
end
section
variable {X:Cx}{F:Addr->Prop}{G:GP}{env:zw}{σ:L2.St}{ρ:List Addr}{H:Hp}{h:MH}{e o:Expr}{es:List Expr}{mo:ME D}{ml:ME (List D)}{pos p apos:Pos}{k n:Nat}{x m:Str}{f C:Addr}{fd:FuncData}{ps:List Str}{mf:MF}
theorem zqz {ds:List D}{Q:VK} (er:zT ρ H env σ) (hr:HR F G ρ h H) (w:wp F W0 G rV env σ ρ H (app mf ds h) Q):wpF F G ρ H (mf ds h) Q:=by
 unfold app gc at w
 cases e:mf ds h with
 | ok v h2 =>
   rw [e]at w
   intro ρ2 H2 v2 ex hr2 rd
   dsimp only at w
   by_cases ok:zef h h2=true
   . rw [if_pos ok]at w
     obtain ⟨t,rfl⟩:=ex.pre
     obtain ⟨t',g1,g2⟩:=zAT hr hr2 rd ok
     have ex':Ext F ρ (ρ++t') H H2:=⟨⟨t',rfl⟩,ex.tup,ex.frm⟩
     exact w (ρ++t') H2 v2 ex' (er.ext ex') g1 g2
   . rw [if_neg ok]at w
     exact w ρ2 H2 v2 ex (er.ext ex) hr2 rd
 | ex c h2=>rw [e]at w;exact w
 | bad=>rw [e]at w;exact w
theorem zon {ds:List D}{vs:List V}{Q:VK}{E:XK} (ar:Ar n mf) (er:zT ρ H env σ) (hr:HR F G ρ h H) (rs:RDs ρ H ds vs) (w:wp F W0 G rV env σ ρ H (app mf ds h) Q):spM G n mf vs H Q E:=by
 by_cases hl:ds.length=n
 . exact ⟨F,ρ,ds,h,hr,rs,hl,zqz er hr w⟩
 . unfold app gc at w
   rw [ar ds h hl]at w
   exact w.elim
theorem zJ (Fo:zM X.prog X.w X.K X.mg X.base CX0 k f fd ps (spM G n mf)) (hr:zP k X.A) (hg:Gl X x) (hm:X.mg x=some (.ref f)) (hk:PySem.W.keepIn X.K (.ref f)=true) (hb:zdg X.K fd ps []) (ha:JA X (e :: es) (tA W0 G ml))
   (ar:Ar n mf:=by exact ziC) (he:starEach (e :: es) X.env=(false,eval e X.env) :: starEach es X.env:=by rfl) (hpl:(backTo pos (starEach es X.env)).any (·.1)=false:=by rfl) (hdb:(x == ("__debug__":Str))=false:=by decide) :
   JE X (.Call (.Name x p) (e :: es) [] pos) (tE W0 G (zh mf ml)) :=
 .of (zU (zCh (dvs:=[]) (E:=E0) Fo hr hg hm hk hb .nil ziz ha.to hdb he hpl) fun σ H Q ⟨F,ρ,env,h,er,hrr,w⟩=>⟨F,ρ,env,h,er,hrr,zE w fun ds h1 ρ1 H1 vs e1 er1 hr1 rs w1=>by
   rw [List.append_nil]
   exact zon ar er1 hr1 rs w1⟩)
theorem zhL {c ni:Nat} (hC:G.cm[c]?=some C) (M:Mk X.K C f) (Fo:zM X.prog X.w X.K X.mg X.base CX0 k f fd ps (spM G ni mf)) (hr:zP (k+1) X.A) (hg:Gl X x) (hm:X.mg x=some (.ref C)) (hb:zdg X.K fd ps []) (ha:JA X (e :: es) (tA W0 G ml))
   (ar:Ar ni mf:=by exact ziC) (he:starEach (e :: es) X.env=(false,eval e X.env) :: starEach es X.env:=by rfl) (hpl:(backTo pos (starEach es X.env)).any (·.1)=false:=by rfl) (hdb:(x == ("__debug__":Str))=false:=by decide) :
   JE X (.Call (.Name x p) (e :: es) [] pos) (tE W0 G (zh (mkF c mf) ml)) :=
 .of (zU (zyB (dvs:=[]) (E:=E0) M Fo hr hg hm hb .nil ziz ha.to hdb he hpl) fun σ H Q ⟨F,ρ,env,h,er,hrr,w⟩=>⟨F,ρ,env,h,er,hrr,zE w fun ds h1 ρ1 H1 vs e1 er1 hr1 rs w1=>fun q dx hq hdx hne=>by
   have w2:=zqz er1 hr1 w1
   rw [List.append_nil]
   have hnq:upd H1 dx (.own q) q=none:=by rw [zy (Ne.symm hne)];exact hq
   have hra:HR F G ρ1 h1 (upd H1 dx (.own q)):=hr1.new hdx
   have hrb:HR F G ρ1 h1 (upd (upd H1 dx (.own q)) q (.ins C dx [])):=hra.new hnq
   have exa:Ext F ρ1 ρ1 H1 (upd (upd H1 dx (.own q)) q (.ins C dx [])):=(zcB hr1 hdx).trans (zcB hra hnq)
   have frq:zfE F ρ1 h1 q:=hr1.fresh hq
   have hrc:HR F G (ρ1++[q]) (h1++[.ins c []]) (upd (upd H1 dx (.own q)) q (.ins C dx [])):=hrb.named frq ⟨C,dx,[],hC,zbQ,by unfold FRs;rfl⟩
   have exb:Ext F ρ1 (ρ1++[q]) H1 (upd (upd H1 dx (.own q)) q (.ins C dx [])):=⟨⟨[q],rfl⟩,exa.tup,exa.frm⟩
   have hql:(ρ1++[q])[h1.length]?=some q:=by rw [<- hr1.len];simp
   by_cases hl:(D.obj h1.length :: ds).length=ni
   . refine ⟨F,ρ1++[q],.obj h1.length :: ds,h1++[.ins c []],hrc,RDs.cons (by unfold RD;exact ⟨q,rfl,hql⟩) (RDs.ext exb _ _ rs),hl,?_⟩
     unfold mkF at w2
     cases em:mf (.obj h1.length :: ds) (h1++[.ins c []]) with
     | ok v h2 =>
       rw [em]at w2
       cases v with
       | non =>
         intro ρ3 H3 v3 ex3 hr3 r3
         unfold RD at r3
         exact ⟨r3,w2 ρ3 H3 (.ref q) (exb.trans ex3) hr3 (by unfold RD;exact ⟨q,rfl,ex3.get hql⟩)⟩
       | _=>exact w2.elim
     | ex c h2=>rw [em]at w2;exact fun ρ3 H3 ex3 hr3=>w2 ρ3 H3 (exb.trans ex3) hr3
     | bad=>rw [em]at w2;exact w2
   . unfold mkF at w2
     rw [ar _ _ hl]at w2
     exact w2.elim⟩)
def JMs (X:Cx) (G:GP) (ex:Expr) (mo:ME D) (ml:ME (List D)) (tbl:List (Nat×MF)) (cs:List Nat):Prop :=
 ∀ (c:Nat) (mf:MF),c∈cs->tbl.lookup c=some mf->PE X ex (fun σ H Q=>∃ F ρ env h,zT ρ H env σ∧HR F G ρ h H∧(∀ v h1,mo env h = .ok v h1->∃ n fs,v = .obj n∧h1[n]?=some (.ins c fs))∧wp F W0 G rV env σ ρ H (zV tbl mo ml env h) Q)
theorem zex {ex:Expr}{tbl:List (Nat×MF)}:JMs X G ex mo ml tbl []:=fun _ _ hc=>nomatch hc
theorem zBp {c:Nat}{tbl:List (Nat×MF)}{Q:VK}{hn:∀ kk:Nat,G.an[kk]?≠some m} (hC:G.cm[c]?=some C) (ht:tbl.lookup c=some mf) (ar:Ar n mf) (w:∃ F ρ env h,zT ρ H env σ∧HR F G ρ h H∧(∀ v h1,mo env h = .ok v h1->∃ n fs,v = .obj n∧h1[n]?=some (.ins c fs))∧wp F W0 G rV env σ ρ H (zV tbl mo ml env h) Q) :
   zom C m (spM G n mf) [] E0 (tE W0 G mo) (tA W0 G ml) σ H Q:=by
 obtain ⟨F,ρ,env,h,er,hr,hcl,w⟩:=w
 refine ⟨F,ρ,env,h,er,hr,?_⟩
 cases em:mo env h with
 | ex c h1=>unfold zV zl at w;simp only [em]at w;exact w
 | bad=>unfold zV zl at w;simp only [em]at w;exact w
 | ok v0 h1 =>
 obtain ⟨i,fs,rfl,ei⟩:=hcl v0 h1 em
 have w':wp F W0 G rV env σ ρ H (zl ml (fun ds=>fun _ h=>app mf (.obj i :: ds) h) env h1) Q:=by
   unfold zV zl at w
   simp only [em,ei,ht]at w
   exact w
 intro ρ1 H1 v1 ex1 er1 hr1 r1
 obtain ⟨q,C',dx,vs,rfl,eq,hC',hq,rs⟩:=hr1.ins r1 ei
 rw [hC]at hC';cases hC'
 refine ⟨q,dx,vs,rfl,hq,rs.none hn,F,ρ1,env,h1,er1,hr1,zE (w'.mono ex1) fun ds h2 ρ2 H2 us e2 er2 hr2 rs2 w2=>?_⟩
 rw [List.append_nil]
 exact zon ar er2 hr2 (RDs.cons (RD.ext e2 _ _ r1) rs2) w2
theorem zif {c:Nat}{cs:List Nat}{tbl:List (Nat×MF)}{pl:Sem Bool} (hC:G.cm[c]?=some C) (cl:Cls X.K C) (hm:zfz X.K C m f) (Fo:zM X.prog X.w X.K X.mg X.base CX0 k f fd ps (spM G n mf)) (hr:zP k X.A) (hb:zdg X.K fd ps []) (ho:JE X o (tE W0 G mo)) (ha:JA X (e :: es) (tA W0 G ml))
   (rest:JMs X G (.Call (.Attribute o m apos) (e :: es) [] pos) mo ml tbl cs) (hn:∀ kk:Nat,G.an[kk]?≠some m) (ht:tbl.lookup c=some mf:=by rfl) (ar:Ar n mf:=by exact ziC)
   (hst:starEach (e :: es) X.env=(false,eval e X.env) :: starEach es X.env:=by rfl) (hpl:(backTo pos (starEach es X.env)).any (·.1)=false:=by rfl)
   (hev:eval (.Call (.Attribute o m apos) (e :: es) [] pos) X.env=(do
     let ov <- eval o X.env
     standAt apos.atName
     let (f,first) <- holding [ov] (getMethod ov m pl)
     callWith pos f first (backTo pos (starEach (e :: es) X.env)) (backToKw pos (keywordEach [] X.env))):=by rfl):JMs X G (.Call (.Attribute o m apos) (e :: es) [] pos) mo ml tbl (c :: cs):=fun c' mf' hc' ht'=>by
 rcases List.mem_cons.mp hc' with rfl | hc'
 . rw [ht]at ht';cases ht'
   exact zU (zAD (dvs:=[]) (E:=E0) ho.to cl hm Fo hr hb .nil ziz ha.to hst hpl hev) fun σ H Q w=>zBp (hn:=hn) hC ht ar w
 . exact rest c' mf' hc' ht'
theorem zg7 {c:Nat}{cs:List Nat}{tbl:List (Nat×MF)}{pl:Sem Bool} (hC:G.cm[c]?=some C) (cl:Cls X.K C) (hm:zfz X.K C m f) (Fo:zM X.prog X.w X.K X.mg X.base CX0 k f fd ps (spM G n mf)) (hr:zP k X.A) (hb:zdg X.K fd ps []) (ho:JE X o (tE W0 G mo))
   (rest:JMs X G (.Call (.Attribute o m apos) [] [] pos) mo zd tbl cs) (hn:∀ kk:Nat,G.an[kk]?≠some m) (ht:tbl.lookup c=some mf:=by rfl) (ar:Ar n mf:=by exact ziC)
   (hev:eval (.Call (.Attribute o m apos) [] [] pos) X.env=(do
     let ov <- eval o X.env
     standAt apos.atName
     let (f,first) <- holding [ov] (getMethod ov m pl)
     callWith pos f first (backTo pos (starEach [] X.env)) (backToKw pos (keywordEach [] X.env))):=by rfl):JMs X G (.Call (.Attribute o m apos) [] [] pos) mo zd tbl (c :: cs):=fun c' mf' hc' ht'=>by
 rcases List.mem_cons.mp hc' with rfl | hc'
 . rw [ht]at ht';cases ht'
   refine zU (zxz (dvs:=[]) (E:=E0) ho.to cl hm Fo hr hb .nil ziz hev) fun σ H Q w=>?_
   obtain ⟨F,ρ,env,h,er,hr,hcl,w⟩:=w
   refine ⟨F,ρ,env,h,er,hr,?_⟩
   cases em:mo env h with
   | ex c h1=>unfold zV zl at w;simp only [em]at w;exact w
   | bad=>unfold zV zl at w;simp only [em]at w;exact w
   | ok v0 h1 =>
   obtain ⟨i,fs,rfl,ei⟩:=hcl v0 h1 em
   have w':wp F W0 G rV env σ ρ H (app mf [.obj i] h1) Q:=by
     unfold zV zl at w
     simp only [em,ei,ht]at w
     exact w
   intro ρ1 H1 v1 ex1 er1 hr1 r1
   obtain ⟨q,C',dx,vs,rfl,eq,hC',hq,rs⟩:=hr1.ins r1 ei
   rw [hC]at hC';cases hC'
   refine ⟨q,dx,vs,rfl,hq,rs.none hn,?_⟩
   show spM G n mf (.ref q :: ([]++[])) H1 Q E0
   exact zon ar er1 hr1 (RDs.cons r1 RDs.nil) (w'.mono ex1)
 . exact rest c' mf' hc' ht'
theorem znY:∀ {tbl:List (Nat×MF)}{c:Nat}{mf:MF},tbl.lookup c=some mf->c∈tbl.map (·.1)
 | [],c,mf,h=>by cases h
 | p :: r,c,mf,h=>by
   rw [List.lookup_cons]at h
   by_cases e:c=p.1
   . rw [e];simp
   . have b:(c == p.1)=false:=by simpa using e
     rw [b]at h
     exact List.mem_cons_of_mem _ (znY h)
theorem zeA {ex:Expr}{tbl:List (Nat×MF)}{c0:Nat}{mf0:MF} (h:JMs X G ex mo ml tbl (tbl.map (·.1))) (h0:tbl.lookup c0=some mf0:=by rfl):JE X ex (tE W0 G (zV tbl mo ml)) :=
 .of (fun pins s σ H Q I ⟨F,ρ,env,hh,er,hr,w⟩=>by
   cases em:mo env hh with
   | ex c h1=>exact h c0 mf0 (znY h0) h0 pins s σ H Q I ⟨F,ρ,env,hh,er,hr,(fun v h1' e=>by rw [em]at e;cases e),w⟩
   | bad=>unfold zV zl at w;simp only [em]at w;exact w.elim
   | ok v h1 =>
     have w':=w
     unfold zV zl at w'
     simp only [em]at w'
     cases v with
     | obj n =>
       dsimp only at w'
       cases qo:h1[n]? with
       | none=>rw [qo]at w';exact w'.elim
       | some o =>
         rw [qo]at w'
         cases o with
         | ins c fs =>
           dsimp only at w'
           cases ht:tbl.lookup c with
           | none=>rw [ht]at w';exact w'.elim
           | some mf=>exact h c mf (znY ht) ht pins s σ H Q I ⟨F,ρ,env,hh,er,hr,(fun v h1' e=>by rw [em]at e;cases e;exact ⟨n,fs,rfl,qo⟩),w⟩
         | _=>exact w'.elim
     | _=>exact w'.elim)
theorem zet {l:List Str}{m:Str} (h:l.contains m=false) (kk:Nat):l[kk]?≠some m:=fun e=>by
 have:=List.mem_of_getElem? e
 rw [<- List.contains_iff_mem,h]at this
 cases this
end
end MI
end
section
namespace MI
open PySem PySem.Spec L2
def zgL (K:PySem.W.Frag):Sp:=fun vs H Q _=>∃ (a:Addr) (ns:List Int),vs=[.ref a]∧ns.length<=63∧zhy H∧SqL K H a (ns.map V.int)∧∀ H',Q (.bl true) H'
theorem zxg {G:GP}{mf:MF} (hl:∀ ns:List Int,ns.length<=63->∃ h',mf [.obj 0] [.scr (ns.map .int)] = .ok (.bl true) h') (vs:List V) (H:Hp) (Q:VK) (E:XK) (h:zgL G.K vs H Q E):spM G 1 mf vs H Q E:=by
 obtain ⟨a,ns,rfl,hn,ho,hs,q⟩:=h
 obtain ⟨h',e⟩:=hl ns hn
 refine ⟨fun _=>False,[a],[.obj 0],[.scr (ns.map .int)],⟨fun b z=>z.elim,fun n m b o o' hne h1 h2 h3 h4=>?_,rfl,fun n o e=>?_⟩,RDs.cons (by unfold RD;exact ⟨a,rfl,rfl⟩) RDs.nil,rfl,?_⟩
 . have e1:n=0:=by have:=(List.getElem?_eq_some_iff.mp h3).1;simp at this;exact this
   have e2:m=0:=by have:=(List.getElem?_eq_some_iff.mp h4).1;simp at this;exact this
   exact absurd (e1.trans e2.symm) hne
 . have e1:n=0:=by have:=(List.getElem?_eq_some_iff.mp e).1;simp at this;exact this
   subst e1
   cases e
   refine ⟨a,rfl,ns.map V.int,?_,RDs.ints ns⟩
   rcases hs with hs | hs
   . rcases hs with hs | ⟨o,hs⟩
     . rcases ho a with z | ⟨o,xs,z⟩
       . rw [z]at hs;cases hs
       . rw [z]at hs;cases hs
     . exact .inl ⟨o,hs⟩
   . exact .inr hs
 . rw [e]
   intro ρ1 H1 v1 _ _ r
   unfold RD at r
   subst r
   exact q H1
theorem law_start {K:PySem.W.Frag}{H:Hp}{a:Addr}{ns:List Int} (ho:zhy H) (hl:ns.length<=63) (hS:SqL K H a (ns.map V.int)):zgL K [.ref a] H (fun v _=>v = .bl true) fun _ _ _=>False:=⟨a,ns,rfl,hl,ho,hS,fun _=>rfl⟩
end MI
end
section
namespace MI
open PySem PySem.Spec L2
section
variable {W:Nat->Hp->Prop}{X:Cx}{F:Addr->Prop}{G:GP}{env:zw}{σ:L2.St}{ρ:List Addr}{H:Hp}{h:MH}{a b c e o tg:Expr}{es:List Expr}{ma mb mo:ME D}{pos p p1 tp apos cpos:Pos}{k:Nat}
theorem zqW:∀ {xs ys:List D}{i:Nat}{d:D},(zcP xs ys)[i]?=some d->∃ x y,xs[i]?=some x∧ys[i]?=some y∧d = .tup [x,y]
 | [],ys,i,d,e=>by simp [zcP]at e
 | x :: xs,[],i,d,e=>by simp [zcP]at e
 | x :: xs,y :: ys,0,d,e=>by simp [zcP]at e;exact ⟨x,y,rfl,rfl,e.symm⟩
 | x :: xs,y :: ys,i+1,d,e=>by
   have e':(zcP xs ys)[i]?=some d:=by simpa [zcP] using e
   obtain ⟨x',y',h1,h2,h3⟩:=zqW e'
   exact ⟨x',y',by simpa using h1,by simpa using h2,h3⟩
theorem zqs:∀ (xs ys:List D),(zcP xs ys).length=min xs.length ys.length
 | [],ys=>by simp [zcP]
 | x :: xs,[]=>by simp [zcP]
 | x :: xs,y :: ys=>by simp [zcP,zqs xs ys]
theorem zyd (hg:Gl X "zip") (hm:X.mg "zip" = none) (ha:JE X a (tE W G ma)) (hb:JE X b (tE W G mb)) (hs:starEach [a,b] X.env=(false,eval a X.env) :: starEach [b] X.env) (hs2:starEach [b] X.env=(false,eval b X.env) :: starEach [] X.env) (hK:X.K=G.K:=by rfl) :
   JI X (.Tuple es k tp) (.Call (.Name "zip" p) [a,b] [] pos) (tI W G (itZ ma mb)) :=
 .of (zoD (zyj hg hm ha.to hb.to hs hs2) fun σ H Q ⟨F,ρ,env,h,er,hr,w⟩=>⟨F,ρ,env,h,er,hr,zE w fun x h1 ρ1 H1 y e1 er1 hr1 r1 w1=>⟨F,ρ1,env,h1,er1,hr1,zE w1 fun x2 h2 ρ2 H2 y2 e2 er2 hr2 r2 w2=>by
   have r1:RD ρ2 H2 x y:=RD.ext e2 _ _ r1
   have r2:RD ρ2 H2 x2 y2:=r2
   cases x with
   | obj n =>
     cases x2 with
     | obj m =>
       dsimp only at w2
       cases qo:h2[n]? with
       | none=>simp only [qo]at w2;exact w2.elim
       | some o =>
         cases o with
         | lst xs =>
           cases qo2:h2[m]? with
           | none=>simp only [qo,qo2]at w2;exact w2.elim
           | some o2 =>
             cases o2 with
             | lst ys =>
               simp only [qo,qo2]at w2
               obtain ⟨q,vs,rfl,eq,hq,rs⟩:=hr2.lst r1 qo
               obtain ⟨q2,vs2,rfl,eq2,hq2,rs2⟩:=hr2.lst r2 qo2
               refine ⟨q,q2,rfl,rfl,⟨vs,SqL.of hq⟩,⟨vs2,SqL.of hq2⟩,w2 ρ2 H2 (Itz X.K q q2) Ext.refl er2 hr2 ?_⟩
               intro F' ρ' h' H' i ex hr' g
               have ea:=znR (n:=n) (ob := .lst xs) g (by simp)
               have eb:=znR (n:=m) (ob := .lst ys) g (by simp)
               obtain ⟨us,hus,rus⟩:=hr'.at ea (ex.get eq)
               obtain ⟨us2,hus2,rus2⟩:=hr'.at eb (ex.get eq2)
               refine ⟨fun d hd=>?_,fun hl=>⟨us,us2,SqL.of hus,SqL.of hus2,by rw [<- rus.length,<- rus2.length];rw [zqs]at hl;exact hl⟩⟩
               obtain ⟨x',y',hx,hy,ed⟩:=zqW hd
               obtain ⟨v,g1,g2⟩:=rus.get hx
               obtain ⟨v2,g3,g4⟩:=rus2.get hy
               refine ⟨⟨us,us2,v,v2,SqL.of hus,SqL.of hus2,g1,g3⟩,fun z H3 ⟨T,w',u',y1,y2,y3,y4,y5⟩=>?_⟩
               subst y1 y3 ed
               have:=y4 us (SqL.of hus)
               rw [g1]at this;cases this
               have:=y5 us2 (SqL.of hus2)
               rw [g3]at this;cases this
               refine ⟨zcB hr' y2,hr'.new y2,?_⟩
               unfold RD
               exact ⟨T,_,rfl,zbQ,RDs.cons (RD.ext (zcB hr' y2) _ _ g2) (RDs.cons (RD.ext (zcB hr' y2) _ _ g4) RDs.nil)⟩
             | _=>simp only [qo,qo2]at w2;exact w2.elim
         | _=>simp only [qo]at w2;exact w2.elim
     | _=>exact w2.elim
   | _=>cases x2 <;> exact w2.elim⟩⟩)
theorem HR.freeze {n:Nat}{q:Addr}{kvs:List (Int×D)}{vs:List (Key×V)}{ob:Obj} (hr:HR F G ρ h H) (e:h[n]?=some (.dic kvs)) (eq:ρ[n]?=some q) (hq:H q=some (.dK vs)) :
   HR (fun b=>F b∨b=q) G ρ (h.set n .hole) (upd H q (.frz ob (.dK vs)))∧Ext F ρ ρ H (upd H q (.frz ob (.dK vs))):=by
 have hn:n < h.length:=(List.getElem?_eq_some_iff.mp e).1
 have nF:∀ b,F b->b≠q:=fun b hb z=>by have:=(hr.pro b hb).2 n _ (z ▸ eq) e;cases this
 have ex:Ext F ρ ρ H (upd H q (.frz ob (.dK vs))):=by
   refine ⟨⟨[],by simp⟩,fun b xs z=>?_,fun b hb=>zy (nF b hb)⟩
   rw [zy]
   . exact z
   . intro zz;subst zz;rw [hq]at z;cases z
 have at':∀ (m:Nat) x,(h.set n .hole)[m]?=some x->(n=m∧x = .hole)∨(n≠m∧h[m]?=some x):=fun m x hx=>by
   by_cases hm:n=m
   . subst hm;rw [List.getElem?_set_self hn]at hx;cases hx;exact .inl ⟨rfl,rfl⟩
   . rw [List.getElem?_set_ne hm]at hx;exact .inr ⟨hm,hx⟩
 refine ⟨⟨fun b hb=>⟨?_,fun m x e1 e2=>?_⟩,fun i j b x y hne h1 h2 h3 h4=>?_,by simp [hr.len],fun m x hx=>?_⟩,ex⟩
 . rcases hb with hb | rfl
   . rw [zy (nF b hb)];exact (hr.pro b hb).1
   . exact ⟨_,zbQ⟩
 . rcases at' m x e2 with ⟨_,rfl⟩ | ⟨hm,e2⟩
   . rfl
   . rcases hb with hb | rfl
     . exact (hr.pro b hb).2 m x e1 e2
     . rcases hr.nd n m b _ x hm eq e1 e e2 with z | z
       . cases z
       . exact z
 . rcases at' i x h3 with ⟨_,rfl⟩ | ⟨_,h3⟩
   . exact .inl rfl
   . rcases at' j y h4 with ⟨_,rfl⟩ | ⟨_,h4⟩
     . exact .inr rfl
     . exact hr.nd i j b x y hne h1 h2 h3 h4
 . rcases at' m x hx with ⟨rfl,rfl⟩ | ⟨hm,hx⟩
   . exact ⟨q,eq,trivial⟩
   . obtain ⟨b,e1,e2⟩:=hr.all m x hx
     refine ⟨b,e1,?_⟩
     by_cases hb:b=q
     . subst hb
       have hsc:x.isScr=true:=by
         rcases hr.nd n m b _ x hm eq e1 e hx with z | z
         . cases z
         . exact z
       cases x with
       | scr xs =>
         obtain ⟨us,z,w⟩:=e2
         refine ⟨us,?_,RDs.ext ex _ _ w⟩
         rcases z with ⟨o',z⟩ | z
         . rw [hq]at z;cases z
         . exact .inr z
       | hole=>trivial
       | _=>cases hsc
     . exact e2.map (fun w z=>by rw [zy hb];exact z) (RD.ext ex) (RDs.ext ex)
theorem HR.thaw {n:Nat}{q:Addr}{kvs:List (Int×D)}{vs:List (Key×V)}{ob:Obj} (nq:¬ F q) (hr:HR (fun b=>F b∨b=q) G ρ h H) (e:h[n]?=some .hole) (eq:ρ[n]?=some q) (hq:H q=some (.frz ob (.dK vs))) (r:KRs ρ H kvs vs) :
   HR F G ρ (h.set n (.dic kvs)) (upd H q (.dK vs))∧Ext F ρ ρ H (upd H q (.dK vs)):=by
 have hn:n < h.length:=(List.getElem?_eq_some_iff.mp e).1
 have nF:∀ b,F b->b≠q:=fun b hb z=>nq (z ▸ hb)
 have ex:Ext F ρ ρ H (upd H q (.dK vs)):=by
   refine ⟨⟨[],by simp⟩,fun b xs z=>?_,fun b hb=>zy (nF b hb)⟩
   rw [zy]
   . exact z
   . intro zz;subst zz;rw [hq]at z;cases z
 have at':∀ (m:Nat) x,(h.set n (.dic kvs))[m]?=some x->(n=m∧x = .dic kvs)∨(n≠m∧h[m]?=some x):=fun m x hx=>by
   by_cases hm:n=m
   . subst hm;rw [List.getElem?_set_self hn]at hx;cases hx;exact .inl ⟨rfl,rfl⟩
   . rw [List.getElem?_set_ne hm]at hx;exact .inr ⟨hm,hx⟩
 have scq:∀ (m:Nat) x,ρ[m]?=some q->h[m]?=some x->x.isScr=true:=fun m x e1 e2=>(hr.pro q (.inr rfl)).2 m x e1 e2
 refine ⟨⟨fun b hb=>⟨?_,fun m x e1 e2=>?_⟩,fun i j b x y hne h1 h2 h3 h4=>?_,by simp [hr.len],fun m x hx=>?_⟩,ex⟩
 . rw [zy (nF b hb)];exact (hr.pro b (.inl hb)).1
 . rcases at' m x e2 with ⟨rfl,rfl⟩ | ⟨hm,e2⟩
   . rw [eq]at e1;cases e1;exact absurd hb nq
   . exact (hr.pro b (.inl hb)).2 m x e1 e2
 . rcases at' i x h3 with ⟨rfl,rfl⟩ | ⟨_,h3⟩
   . rcases at' j y h4 with ⟨z,rfl⟩ | ⟨_,h4⟩
     . exact absurd z hne
     . rw [eq]at h1;cases h1
       exact .inr (scq j y h2 h4)
   . rcases at' j y h4 with ⟨rfl,rfl⟩ | ⟨_,h4⟩
     . rw [eq]at h2;cases h2
       exact .inl (scq i x h1 h3)
     . exact hr.nd i j b x y hne h1 h2 h3 h4
 . rcases at' m x hx with ⟨rfl,rfl⟩ | ⟨hm,hx⟩
   . exact ⟨q,eq,vs,zbQ,r.map fun p _ v=>RD.ext ex _ _⟩
   . obtain ⟨b,e1,e2⟩:=hr.all m x hx
     refine ⟨b,e1,?_⟩
     by_cases hb:b=q
     . subst hb
       have hsc:=scq m x e1 hx
       cases x with
       | scr xs =>
         obtain ⟨us,z,w⟩:=e2
         refine ⟨us,?_,RDs.ext ex _ _ w⟩
         rcases z with ⟨o',z⟩ | z
         . rw [hq]at z;cases z
         . exact .inr z
       | hole=>trivial
       | _=>cases hsc
     . exact e2.map (fun w z=>by rw [zy hb];exact z) (RD.ext ex) (RDs.ext ex)
theorem KRs.items:∀ {kvs:List (Int×D)}{vs:List (Key×V)}{i:Nat}{d:D},KRs ρ H kvs vs->(zeD kvs)[i]?=some d->∃ p v,kvs[i]?=some p∧vs[i]?=some (Sum.inl p.1,v)∧d = .tup [.int p.1,p.2]∧RD ρ H p.2 v
 | [],vs,i,d,r,e=>by simp [zeD]at e
 | p :: kvs,vs,0,d,r,e=>by
   unfold KRs at r
   obtain ⟨v,q,rfl,r1,r2⟩:=r
   simp [zeD]at e
   exact ⟨p,v,rfl,rfl,e.symm,r1⟩
 | p :: kvs,vs,i+1,d,r,e=>by
   unfold KRs at r
   obtain ⟨v,q,rfl,r1,r2⟩:=r
   obtain ⟨p',v',h1,h2,h3,h4⟩:=KRs.items (i:=i) (d:=d) r2 (by simpa [zeD] using e)
   exact ⟨p',v',by simpa using h1,by simpa using h2,h3,h4⟩
theorem zAd {q:Addr}{kvs:List (Int×D)}{vs:List (Key×V)}{ob:Obj} (hq:H q=some (.frz ob (.dK vs))) (Fq:F q) (r:KRs ρ H kvs vs):zfO G F ρ H (Iti ob q vs) (zeD kvs,[]):=by
 intro F' ρ' h' H' i ex hr' _
 have hq':H' q=some (.frz ob (.dK vs)):=by rw [ex.frm q Fq];exact hq
 have r':KRs ρ' H' kvs vs:=r.map fun p _ v=>RD.ext ex _ _
 have hl:=r.length
 refine ⟨fun d hd=>?_,fun hle=>⟨hq',by rw [<- hl];simpa [zeD] using hle⟩⟩
 obtain ⟨p,v,h1,h2,rfl,h4⟩:=r'.items hd
 refine ⟨⟨hq',(List.getElem?_eq_some_iff.mp h2).1⟩,fun x H2 ⟨T,kk,u,y1,y2,y3,y4⟩=>?_⟩
 rw [h2]at y1;cases y1
 subst y2 y4
 refine ⟨zcB hr' y3,hr'.new y3,?_⟩
 unfold RD
 exact ⟨T,_,rfl,zbQ,RDs.cons (by unfold RD;rfl) (RDs.cons (RD.ext (zcB hr' y3) _ _ h4) RDs.nil)⟩
theorem KRs.vals:∀ {kvs:List (Int×D)}{vs:List (Key×V)}{i:Nat}{d:D},KRs ρ H kvs vs->(zew kvs)[i]?=some d->∃ kk v,vs[i]?=some (kk,v)∧RD ρ H d v
 | [],vs,i,d,r,e=>by simp [zew]at e
 | p :: kvs,vs,0,d,r,e=>by
   unfold KRs at r
   obtain ⟨v,q,rfl,r1,r2⟩:=r
   simp [zew]at e
   subst e
   exact ⟨_,v,rfl,r1⟩
 | p :: kvs,vs,i+1,d,r,e=>by
   unfold KRs at r
   obtain ⟨v,q,rfl,r1,r2⟩:=r
   obtain ⟨kk,v',h1,h2⟩:=KRs.vals (i:=i) (d:=d) r2 (by simpa [zew] using e)
   exact ⟨kk,v',by simpa using h1,h2⟩
theorem zyC {q:Addr}{kvs:List (Int×D)}{vs:List (Key×V)}{ob:Obj} (hq:H q=some (.frz ob (.dK vs))) (Fq:F q) (r:KRs ρ H kvs vs):zfO G F ρ H (Itv ob q vs) (zew kvs,[]):=by
 intro F' ρ' h' H' i ex hr' _
 have hq':H' q=some (.frz ob (.dK vs)):=by rw [ex.frm q Fq];exact hq
 have r':KRs ρ' H' kvs vs:=r.map fun p _ v=>RD.ext ex _ _
 have hl:=r.length
 refine ⟨fun d hd=>?_,fun hle=>⟨hq',by rw [<- hl];simpa [zew] using hle⟩⟩
 obtain ⟨kk,v,h1,h2⟩:=r'.vals hd
 refine ⟨⟨hq',(List.getElem?_eq_some_iff.mp h1).1⟩,fun x H2 ⟨y1,kk',y2⟩=>?_⟩
 subst y1
 rw [h1]at y2;cases y2
 exact ⟨Ext.refl,hr',h2⟩
structure zn9 (X:Cx) (F:Addr->Prop) (G:GP) (ρ:List Addr) (H:Hp) (n:Nat) (q:Addr) (ob:Obj) (kvs:List (Int×D)) (vs:List (Key×V)):Prop where
 nf:zeY X q
 nq:¬ F q
 eq:ρ[n]?=some q
 hq:H q=some (.dK vs)
 rs:KRs ρ H kvs vs
theorem zhp {n:Nat}{q:Addr}{ob:Obj}{kvs:List (Int×D)}{vs:List (Key×V)}{ρ2:List Addr}{H2:Hp}{h2:MH} (Z:zn9 X F G ρ H n q ob kvs vs) (e1:Ext F ρ ρ H (upd H q (.frz ob (.dK vs)))) (ex:Ext (fun b=>F b∨b=q) ρ ρ2 (upd H q (.frz ob (.dK vs))) H2) (hr2:HR (fun b=>F b∨b=q) G ρ2 h2 H2) (hh:h2[n]?=some .hole) :
   H2 q=some (.frz ob (.dK vs))∧HR F G ρ2 (h2.set n (.dic kvs)) (upd H2 q (.dK vs))∧Ext F ρ ρ2 H (upd H2 q (.dK vs))∧Ext F ρ2 ρ2 H2 (upd H2 q (.dK vs)):=by
 have hq2:H2 q=some (.frz ob (.dK vs)):=by rw [ex.frm q (.inr rfl)];exact zbQ
 have exF:Ext F ρ ρ2 H H2:=e1.trans (ex.sub fun b hb=> .inl hb)
 obtain ⟨g1,g2⟩:=HR.thaw Z.nq hr2 hh (ex.get Z.eq) hq2 (Z.rs.map fun p _ v=>RD.ext exF _ _)
 exact ⟨hq2,g1,exF.trans g2,g2⟩
theorem zAj {n:Nat}{q:Addr}{ob:Obj}{kvs:List (Int×D)}{vs:List (Key×V)}{r:RS}{E:zeE} (Z:zn9 X F G ρ H n q ob kvs vs) (e1:Ext F ρ ρ H (upd H q (.frz ob (.dK vs)))) (w:wpS F W G ρ H (zfx n kvs r) E) :
   wpS (fun b=>F b∨b=q) W G ρ (upd H q (.frz ob (.dK vs))) r { nx:=fun σ' H'=>zdi X (E.nx σ') H',rt:=fun v H'=>zdi X (E.rt v) H',bk:=fun σ' H'=>zdi X (E.bk σ') H',ct:=fun σ' H'=>zdi X (E.ct σ') H' }:=by
 cases r with
 | nx e h2 =>
   intro ρ2 H2 σ2 ex er hr2
   simp only [zfx]at w
   by_cases hh:h2[n]?=some .hole
   . rw [if_pos hh]at w
     obtain ⟨g0,g1,g2,g3⟩:=zhp Z e1 ex hr2 hh
     exact ⟨q,ob,vs,g0,Z.nf,w ρ2 _ σ2 g2 (er.ext g3) g1⟩
   . rw [if_neg hh]at w;exact w.elim
 | bk e h2 =>
   intro ρ2 H2 σ2 ex er hr2
   simp only [zfx]at w
   by_cases hh:h2[n]?=some .hole
   . rw [if_pos hh]at w
     obtain ⟨g0,g1,g2,g3⟩:=zhp Z e1 ex hr2 hh
     exact ⟨q,ob,vs,g0,Z.nf,w ρ2 _ σ2 g2 (er.ext g3) g1⟩
   . rw [if_neg hh]at w;exact w.elim
 | ct e h2 =>
   intro ρ2 H2 σ2 ex er hr2
   simp only [zfx]at w
   by_cases hh:h2[n]?=some .hole
   . rw [if_pos hh]at w
     obtain ⟨g0,g1,g2,g3⟩:=zhp Z e1 ex hr2 hh
     exact ⟨q,ob,vs,g0,Z.nf,w ρ2 _ σ2 g2 (er.ext g3) g1⟩
   . rw [if_neg hh]at w;exact w.elim
 | rt v h2 =>
   intro ρ2 H2 v2 ex hr2 rd
   simp only [zfx]at w
   by_cases hh:h2[n]?=some .hole
   . rw [if_pos hh]at w
     obtain ⟨g0,g1,g2,g3⟩:=zhp Z e1 ex hr2 hh
     exact ⟨q,ob,vs,g0,Z.nf,w ρ2 _ v2 g2 g1 (RD.ext g3 _ _ rd)⟩
   . rw [if_neg hh]at w;exact w.elim
 | ex c h2=>exact w.elim
 | bad=>exact w.elim
variable {m1:MS}{t:Tg}{bd:List Stmt}{cond:ME Bool}{me:ME D}{N:List Str}{js:List (Option Nat)}{scope:Scope}{elt:Expr}{ifs:List Expr}
theorem zx1 {pr:List (Int×D)->List D}{It':Obj->Addr->List (Key×V)->It}{E:zeE} (src:∀ {F:Addr->Prop}{ρ:List Addr}{H:Hp}{q:Addr}{kvs:List (Int×D)}{vs:List (Key×V)}{ob:Obj},H q=some (.frz ob (.dK vs))->F q->KRs ρ H kvs vs->zfO G F ρ H (It' ob q vs) (pr kvs,[]))
   (w:tS W G (zht pr t mo m1) E σ H):zqH (fun σ H R=>tE W G mo σ H fun x H1=>∃ a kvs,x = .ref a∧H1 a=some (.dK kvs)∧∀ ob,zeY X a->R (It' ob a kvs) (upd H1 a (.frz ob (.dK kvs)))) (tTg G t) (tS W G m1)
     { nx:=fun σ' H'=>zdi X (E.nx σ') H',rt:=fun v H'=>zdi X (E.rt v) H',bk:=fun σ' H'=>zdi X (E.bk σ') H',ct:=fun σ' H'=>zdi X (E.ct σ') H' } σ H:=by
 obtain ⟨F,ρ,env,h,er,hr,w⟩:=w
 refine ⟨F,ρ,env,h,er,hr,zc0 w fun x h1 ρ1 H1 y e1 er1 hr1 r1 w1=>?_⟩
 cases x with
 | obj n =>
   dsimp only at w1
   cases qo:h1[n]? with
   | none=>rw [qo]at w1;exact w1.elim
   | some o =>
     rw [qo]at w1
     cases o with
     | dic kvs =>
       obtain ⟨q,vs,rfl,eq,hq,rs⟩:=hr1.dic r1 qo
       refine ⟨q,vs,rfl,hq,fun ob nf=>?_⟩
       obtain ⟨g1,g2⟩:=hr1.freeze (ob:=ob) qo eq hq
       have nq:¬ F q:=fun z=>by have:=(hr1.pro q z).2 n _ eq qo;cases this
       exact zrK (src zbQ (.inr rfl) (rs.map fun p _ v=>RD.ext g2 _ _)) (er1.ext g2) g1 (zAj ⟨nf,nq,eq,hq,rs⟩ g2 w1)
     | _=>exact w1.elim
 | _=>exact w1.elim
theorem zzb (hp:PassesOwn (model X.prog X.w) X.A X.env X.xe) (ho:JE X o (tE W G mo)) (hg:JG X (.Tuple es k tp) (tTg G t)) (hb:JSs X bd (tS W G m1)) (hc:X.calm=true:=by rfl) (hbase:attributeBase o "items" X.env (eval o X.env)=eval o X.env:=by rfl) (hline:(apos.endLine == cpos.line)=true:=by rfl)
   (hs:∀ x,foldedSetIterable (.Call (.Attribute o "items" apos) [] [] cpos) X.env x=pure x:=by intro _;rfl):JS X (.For (.Tuple es k tp) (.Call (.Attribute o "items" apos) [] [] cpos) bd [] pos) (tS W G (zht zeD t mo m1)) :=
 .of (zdn (zBQ (zsx hp hc (zzh ho.to hbase hline) hg.to hb.to hs)) fun E σ H w=>zx1 (fun h1 h2 h3=>zAd h1 h2 h3) w)
theorem zAr {pr:List (Int×D)->List D}{It':Obj->Addr->List (Key×V)->It}{Q:VK} (src:∀ {F:Addr->Prop}{ρ:List Addr}{H:Hp}{q:Addr}{kvs:List (Int×D)}{vs:List (Key×V)}{ob:Obj},H q=some (.frz ob (.dK vs))->F q->KRs ρ H kvs vs->zfO G F ρ H (It' ob q vs) (pr kvs,[]))
   (w:tN W G (zhi pr js t mo cond me) σ H Q):zil js (fun σ H R=>tE W G mo σ H fun x H1=>∃ a kvs,x = .ref a∧H1 a=some (.dK kvs)∧∀ ob,zeY X a->R (It' ob a kvs) (upd H1 a (.frz ob (.dK kvs)))) (tTg G t) (tT W G cond) (tE W G me) σ H (fun v H'=>zdi X (Q v) H'):=by
 obtain ⟨F,ρ,env,h,er,hr,w⟩:=w
 refine ⟨F,ρ,env,h,er,hr,zE w fun x h1 ρ1 H1 y e1 er1 hr1 r1 w1=>?_⟩
 cases x with
 | obj n =>
   dsimp only at w1
   cases qo:h1[n]? with
   | none=>rw [qo]at w1;exact w1.elim
   | some o =>
     rw [qo]at w1
     cases o with
     | dic kvs =>
       dsimp only at w1
       obtain ⟨q,vs,rfl,eq,hq,rs⟩:=hr1.dic r1 qo
       refine ⟨q,vs,rfl,hq,fun ob nf=>?_⟩
       intro D hD
       obtain ⟨g1,g2⟩:=hr1.freeze (ob:=ob) qo eq hq
       have nq:¬ F q:=fun z=>by have:=(hr1.pro q z).2 n _ eq qo;cases this
       by_cases hlen:(pr kvs).length<=1000000
       . rw [if_pos hlen]at w1
         refine zqY (F:=fun b=>F b∨b=q) (p:=(pr kvs,[])) (t:=t) hlen (src zbQ (.inr rfl) (rs.map fun p _ v=>RD.ext g2 _ _)) (er1.ext g2) g1 ?_ D hD
         cases ec:zcg t [] cond me (pr kvs) [] (zb6 js env) (h1.set n .hole) with
         | ok xs h2 =>
           rw [ec]at w1
           simp only [zhW]at w1
           intro ρ2 H2 v2 ex er2 hr2 ⟨d,us,ev,hd,fr,rus⟩
           by_cases hh:h2[n]?=some .hole
           . rw [if_pos hh]at w1
             have Z:zn9 X F G ρ1 H1 n q ob kvs vs:=⟨nf,nq,eq,hq,rs⟩
             obtain ⟨k0,k1,k2,k3⟩:=zhp Z g2 ex hr2 hh
             have dq:d≠q:=fun z=>by rw [z,k0]at hd;cases hd
             refine ⟨q,ob,vs,k0,nf,w1 ρ2 _ v2 k2 (er2.ext k3) k1 ⟨d,us,ev,by rw [zy dq];exact hd,⟨fun z=>fr.1 (.inl z),fun m x z1 z2=>?_⟩,RDs.ext k3 _ _ rus⟩⟩
             by_cases hm:n=m
             . subst hm
               rw [ex.get eq]at z1;cases z1;exact absurd rfl dq
             . rw [List.getElem?_set_ne hm]at z2
               exact fr.2 m x z1 z2
           . rw [if_neg hh]at w1;exact w1.elim
         | ex c h2=>rw [ec]at w1;exact w1.elim
         | bad=>rw [ec]at w1;exact w1.elim
       . rw [if_neg hlen]at w1;exact w1.elim
     | _=>exact w1.elim
 | _=>exact w1.elim
theorem zBO (hc:X.calm=true) (S:zbZ X scope N js) (ho:JE X o (tE W G mo)) (hg:∀ cl s₀ H₀ fp,JG (zb9 X scope N cl s₀ H₀ fp) tg (tTg G t)) (hf:∀ cl s₀ H₀ fp,zei (zb9 X scope N cl s₀ H₀ fp) ifs (tT W G cond)) (he:∀ cl s₀ H₀ fp,JE (zb9 X scope N cl s₀ H₀ fp) elt (tE W G me))
   (hbase:attributeBase o "values" X.env (eval o X.env)=eval o X.env:=by rfl) (hline:(apos.endLine == cpos.line)=true:=by rfl) (hs:∀ x,foldedSetIterable (.Call (.Attribute o "values" apos) [] [] cpos) X.env x=pure x:=by intro _;rfl) :
   JE X (.ListComp elt [⟨tg,.Call (.Attribute o "values" apos) [] [] cpos,ifs,0⟩] scope pos) (tN W G (zhi zew js t mo cond me)) :=
 .of (zU (zzk (zr4 hc S (zxl ho.to hbase hline) ⟨fun cl s₀ H₀ fp=>⟨(hg cl s₀ H₀ fp).to,(hf cl s₀ H₀ fp).to,(he cl s₀ H₀ fp).to⟩⟩ hs)) fun σ H Q w=>zAr (fun h1 h2 h3=>zyC h1 h2 h3) w)
end
end MI
end
section
namespace L2
open PySem PySem.Spec PyProof.Rows
theorem zCp {P:Program}{w:World}{A:Around}{E:Value->Shared->Prop}{s:Shared}{a:Addr}{ns:List Int}{Q:Value->Shared->Prop} (hh:A.handled=none) (S:zcJ P w (zcz w) s.heap a ns) (h64:ns.length < 64)
   (hQ:∀ s' p (out:Array Value) ms e,(∀ b o,s.heap.get? b=some o->s'.heap.get? b=some o)->s.heap.objs.size<=p->s'.gens=s.gens->s'.os=s.os->s'.heap.get? p=some (seqObj "list" out e)->IntsAre out.toList ms->ms.Perm ns->ms.Pairwise (· <= ·)->Q (.ref p) s') :
   wpAny (model P w) A (call (.builtin "sorted") [.ref a]) Q E s:=by
 refine Calls.call_function_entry kind_sorted plain_sorted entry_sorted (args_sorted1 _) ?_
 unfold Builtin.«sorted»
 refine wpAny_bind (m:=checkCount "sorted" 1 1 _) (wpAny_pure ?_)
 refine wpAny_bind (zAp hh S (by omega) fun s1 vs ms k sz g os hI hp=>?_)
 have hv:vs.length < 64:=by rw [hI.length,hp.length_eq];exact h64
 refine wpAny_bind (wpAny_newList ?_)
 have hL:(s1.heap.push (seqObj "list" vs.toArray 0)).get? s1.heap.objs.size=some (seqObj "list" vs.toArray 0):=Heap.get?_push_size _ rfl
 show wpAny (model P w) _ _ _ _ { s1 with heap:=s1.heap.push (seqObj "list" vs.toArray 0) }
 refine wpAny_bind (wpAny_holding (wpAny_call_entry slot_list_sort ⟨_,hL,rfl⟩ entry_list_sort (list_sort_tree hL hI hv fun out ks k1 k2 k3=>⟨_,rfl,?_⟩) (args_list_sort _)))
 obtain ⟨e,he⟩:=sortedHeap_at (out:=out) hL
 refine wpAny_pure ⟨_,rfl,hQ _ s1.heap.objs.size out ks e (fun b o q=>?_) sz g os he k1 (k2.trans hp) k3⟩
 have q1:=k b o q
 have lt:b < s1.heap.objs.size:=Heap.lt_size q1
 show (sortedHeap (s1.heap.push (seqObj "list" vs.toArray 0)) s1.heap.objs.size vs out).get? b=some o
 rw [sortedHeap_old (Nat.ne_of_lt lt) (by rw [size_push'];exact Nat.lt_succ_of_lt lt)]
 exact Heap.get?_push_of_some _ q1
theorem Inv.drw {X:Cx}{pins:List (Addr×Obj)}{σ:St}{H:Hp}{s:Shared} (I:Inv X pins σ H s) (d:Drawn):Inv X pins σ H { s with drawn:=d } :=
 ⟨I.ok,I.os,I.bare,I.base,I.loc,I.cell,I.free,I.freeC,I.pin,I.hok,I.len⟩
def ze1 (X:Cx) (p:Addr) (ns:List Int):HO := .ext fun h=>zcJ X.prog X.w (zcz X.w) h p ns
section
variable {X:Cx}
theorem zxJ (hc:X.calm=true):zdE X (.type "set") (fun xs H Q=>∃ (a:Addr) (ns:List Int),xs=[.ref a]∧SqL X.K H a (ns.map V.int)∧ns.length < 4000∧∀ p,H p=none->Q (.ref p) (upd H p (ze1 X p (zcp ns)))):=by
 intro pins s σ H xs us Q I r h
 obtain ⟨a,ns,rfl,hq,hn,q⟩:=h
 obtain ⟨u,rfl,ru⟩:=zeF r
 cases ru
 obtain ⟨its,rv,p,_⟩:=I.list hq
 have e:its.toArray.size=ns.length:=by simp [<- rv.length]
 refine zzi (items:=its.toArray) (ns:=ns) (I.ok.hd hc) p.isList (by simpa using zpd rv) (by rw [e];unfold scanBound;omega) fun h' tk hS hk=>?_
 rw [e]at hS
 refine ⟨.ref s.heap.objs.size,_,I.laid (t':=tk) (a:=s.heap.objs.size) (o:=ze1 X s.heap.objs.size (zcp ns)) (fun b o eb=>hk b o (Heap.lt_size eb) eb) (Nat.le_refl _) ⟨hS,?_,fun h1 h2 z k=>zcJ.keep z k⟩,rfl,q _ (I.hok.fresh (Nat.le_refl _))⟩
 obtain ⟨o,_,_,_,eo,_⟩:=hS
 exact ⟨o,eo⟩
theorem zCM (hc:X.calm=true):zdE X (.builtin "sorted") (fun xs H Q=>∃ (a:Addr) (ns:List Int),xs=[.ref a]∧H a=some (ze1 X a ns)∧ns.length < 64∧∀ p,H p=none->Q (.ref p) (upd H p (.lst ((MI.sortI ns).map V.int)))):=by
 intro pins s σ H xs us Q I r h
 obtain ⟨a,ns,rfl,hq,hn,q⟩:=h
 obtain ⟨u,rfl,ru⟩:=zeF r
 cases ru
 have hS:zcJ X.prog X.w (zcz X.w) s.heap a ns:=(I.hok a _ hq).1
 refine zCp (I.ok.hd hc) hS hn fun s' p out ms e k hp g os he hI pm srt=>?_
 have em:ms=MI.sortI ns:=MI.sorted_unique (pm.trans (MI.sortI_perm ns).symm) srt (MI.sortI_sorted ns)
 subst em
 obtain ⟨h',g',d',t',o'⟩:=s'
 obtain rfl:g'=s.gens:=g
 obtain rfl:o'=s.os:=os
 refine ⟨.ref p,_,(I.laid (t':=t') (a:=p) (o := .lst ((MI.sortI ns).map V.int)) k hp ?_).drw d',rfl,q _ (I.hok.fresh hp)⟩
 refine ⟨?_,out.toList,e,zio hI,?_⟩
 . rw [List.length_map,(MI.sortI_perm ns).length_eq,sizeLine_eq];omega
 . rw [Array.toArray_toList];exact he
end
end L2
end
section
namespace L2
open PySem PySem.Spec PyProof.Rows
def zBk (i j l:Nat) (t:TA):TS:=fun D σ H=>t σ H fun vs H1=>∃ x y z,vs=[x,y,z]∧D.nx (((σ.set i (some x)).set j (some y)).set l (some z)) H1
theorem zzB {X:Cx}{pos:Pos}{i j l:Nat}{x y z:Str}{a b c:Expr}{ta:TA}{px py pz pt:Pos}{kt k2 pt2} (hc:X.calm=true) (hN:X.N.Nodup) (hi:X.N[i]?=some x) (hj:X.N[j]?=some y) (hl:X.N[l]?=some z) (hij:i≠j) (hil:i≠l) (hjl:j≠l)
   (hx:X.env.scope.names.lookup x=some .local) (hy:X.env.scope.names.lookup y=some .local) (hz:X.env.scope.names.lookup z=some .local) (ha:PA X [a,b,c] ta)
   (hw:swappedStores [.Tuple [.Name x px,.Name y py,.Name z pz] kt pt] (.Tuple [a,b,c] k2 pt2) X.env=pure (some [x,y,z]))
   (hs:swapsWithSole [.Tuple [.Name x px,.Name y py,.Name z pz] kt pt] (.Tuple [a,b,c] k2 pt2) pos.line X.env=pure false:=by rfl) :
   PS X (.Assign [.Tuple [.Name x px,.Name y py,.Name z pz] kt pt] (.Tuple [a,b,c] k2 pt2) pos) (zBk i j l ta):=by
 intro pins s σ H D I h
 rw [exec_Assign_arm]
 refine wpAny_bind (wpAny_standAt ?_)
 rw [hs]
 refine wpAny_bind (wpAny_pure ?_)
 rw [if_neg (by decide)]
 refine wpAny_bind (Tuple_ (thn (ha _ pins s σ H _ I h) fun us s1 ⟨vs,H1,I1,r1,q1⟩=>?_))
 obtain ⟨v1,v2,v3,e1,q1⟩:=q1
 subst e1
 obtain ⟨u1,u2,u3,rfl,r1,r2,r3⟩:∃ u1 u2 u3,us=[u1,u2,u3]∧zn v1 u1∧zn v2 u2∧zn v3 u3:=by
   cases r1 with
   | cons p q=>cases q with
     | cons p' q'=>cases q' with
       | cons p2 q2=>cases q2;exact ⟨_,_,_,rfl,p,p',p2⟩
 refine wpAny_newObj_type ?_ (by show 3<=sizeLine;decide)
 have I2:Inv X pins σ H1 { s1 with heap:=s1.heap.push { cls := .type "tuple",data := .seq [u1,u2,u3].toArray } }:=I1.kept (t':=s1.toks) fun b o e=>Heap.get?_push_of_some _ e
 rw [hw]
 refine wpAny_bind (wpAny_pure ?_)
 show wpAny (model X.prog X.w) X.A (do rule "assign.swapped-stores";let items <- unpackItems (.ref s1.heap.objs.size) 3 none;assignInOrder [fun v=>bindName X.env z v,fun v=>bindName X.env y v,fun v=>bindName X.env x v] items.reverse;pure Flow.next) _ _ _
 refine wpAny_bind (wpAny_rule (wpAny_bind (unpackItems_tuple (items:=#[u1,u2,u3]) (I.ok.hd hc) (IsTup.new s1.heap _) fun h' hx'=>?_)))
 have I3:=I2.kept (h':=h') (t':=s1.toks) fun b o e=>hx' b o (Nat.ne_of_lt (Heap.lt_size e)) e
 show wpAny _ _ (assignInOrder [fun v=>bindName X.env z v,fun v=>bindName X.env y v,fun v=>bindName X.env x v] [u3,u2,u1] >>= fun _=>pure Flow.next) _ _ _
 refine wpAny_bind (assignInOrder_cons (wpAny_bindName (zg0 I3 hN hl (.inl hz) r3 (fun s2 I4=>?_) (.inr hz))))
 refine assignInOrder_cons (wpAny_bindName (zg0 I4 hN hj (.inl hy) r2 (fun s3 I5=>?_) (.inr hy)))
 refine assignInOrder_cons (wpAny_bindName (zg0 I5 hN hi (.inl hx) r1 (fun s4 I6=>assignInOrder_nil (wpAny_pure ?_)) (.inr hx)))
 rw [List.set_comm _ _ (Ne.symm hij),List.set_comm _ _ (Ne.symm hil)]at I6
 rw [List.set_comm _ _ (Ne.symm hjl)]at I6
 exact ⟨_,H1,I6,q1⟩
end L2
namespace MI
open PySem PySem.Spec L2
section
variable {W:Nat->Hp->Prop}{X:Cx}{F:Addr->Prop}{G:GP}{env:zw}{σ:L2.St}{ρ:List Addr}{H:Hp}{h:MH}{a b c e o:Expr}{es:List Expr}{ma mb mc:ME D}{ml ml':ME (List D)}{pos p p1 p2 apos:Pos}{Q:VK}{k i:Nat}{x:Str}
theorem zBn (rm:zP k X.A) (hg:Gl X "sorted") (hm:X.mg "sorted" = none) (hg':Gl X "set") (hm':X.mg "set" = none) (ha:JE X e (tL W G ml)) (hs:starEach [e] X.env=(false,eval e X.env) :: starEach [] X.env) (hc:X.calm=true:=by rfl) :
   JE X (.Call (.Name "sorted" p) [.Call (.Name "set" p1) [e] [] p2] [] pos) (tN W G (zix ml)) :=
 .of (zU (zeW (zCM hc) hg hm (by decide +kernel) (zcy (zoH (zxJ hc) hg' hm' (by decide +kernel) (zcy ha.to zcZ hs) (he:=hs)) zcZ zbe) (he:=zbe)) fun σ H Q ⟨F,ρ,env,h,er,hr,w⟩=>by
   refine zee (Rl:=rL G.K) (m:=ml) (P:=fun vs H1=>∃ (a:Addr) (ns:List Int),vs=[.ref a]∧SqL X.K H1 a (ns.map V.int)∧ns.length < 4000∧∀ p,H1 p=none->(∃ (b:Addr) (ks:List Int),[V.ref p]=[.ref b]∧(upd H1 p (ze1 X p (zcp ns))) b=some (ze1 X b ks)∧ks.length < 64 ∧
     ∀ q,(upd H1 p (ze1 X p (zcp ns))) q=none->Q (.ref q) (upd (upd H1 p (ze1 X p (zcp ns))) q (.lst ((sortI ks).map V.int))))) ⟨F,ρ,env,h,er,hr,?_⟩
   refine zE w fun xs h1 ρ1 H1 y e1 er1 hr1 ⟨q,us,ey,hq,rs⟩ w1=>?_
   subst ey
   cases eb:zb4 xs with
   | none=>rw [eb]at w1;exact w1.elim
   | some ns =>
     rw [eb]at w1
     have e2:=RDs.of_ints eb rs
     subst e2
     by_cases hl:ns.length < 64
     . dsimp only at w1
       rw [if_pos hl]at w1
       have hd64:(zcp ns).length < 64:=Nat.lt_of_le_of_lt (PyProof.Rows.firstMet_length_le _ _) hl
       refine ⟨q,ns,rfl,SqL.of hq,by omega,fun d hd=>⟨d,_,rfl,zbQ,hd64,fun d2 hd2=>?_⟩⟩
       have x1:=zcB (F:=F) (ρ:=ρ1) (u:=ze1 X d (zcp ns)) hr1 hd
       have hr2:=hr1.new (u:=ze1 X d (zcp ns)) hd
       have x2:=zcB (F:=F) (ρ:=ρ1) (u:=HO.lst ((sortI (zcp ns)).map V.int)) hr2 hd2
       rw [zsi]at *
       exact w1 ρ1 _ (.ref d2) (x1.trans x2) ((er1.ext x1).ext x2) (hr2.new hd2) (zfM hr2 hd2 (RDs.ints _))
     . dsimp only at w1
       rw [if_neg hl]at w1;exact w1.elim)
theorem zxu {j k:Nat}{y z:Str}{px py pz pt:Pos}{kt k2 pt2} (hN:X.N.Nodup) (hi:X.N[i]?=some x) (hj:X.N[j]?=some y) (hl:X.N[k]?=some z) (ha:JA X [a,b,c] (tA W G ml)) (hij:i≠j:=by decide) (hil:i≠k:=by decide) (hjl:j≠k:=by decide)
   (hx:X.env.scope.names.lookup x=some .local:=by rfl) (hy:X.env.scope.names.lookup y=some .local:=by rfl) (hz:X.env.scope.names.lookup z=some .local:=by rfl) (hc:X.calm=true:=by rfl)
   (hw:swappedStores [.Tuple [.Name x px,.Name y py,.Name z pz] kt pt] (.Tuple [a,b,c] k2 pt2) X.env=pure (some [x,y,z]):=by rfl)
   (hs:swapsWithSole [.Tuple [.Name x px,.Name y py,.Name z pz] kt pt] (.Tuple [a,b,c] k2 pt2) pos.line X.env=pure false:=by rfl) :
   JS X (.Assign [.Tuple [.Name x px,.Name y py,.Name z pz] kt pt] (.Tuple [a,b,c] k2 pt2) pos) (tS W G (ziv [i,j,k] ml)) :=
 .of (zdn (zzB hc hN hi hj hl hij hil hjl hx hy hz ha.to hw hs) fun E σ H ⟨F,ρ,env,h,er,hr,w⟩=>⟨F,ρ,env,h,er,hr,zc0 w fun xs h1 ρ1 H1 ys e1 er1 hr1 r1 w1=>by
   have r1:RDs ρ1 H1 xs ys:=r1
   match xs,w1 with
   | [u,v,t],w1 =>
     unfold RDs at r1
     obtain ⟨u',q,rfl,ru,r1⟩:=r1
     unfold RDs at r1
     obtain ⟨v',q,rfl,rv,r1⟩:=r1
     unfold RDs at r1
     obtain ⟨t',q,rfl,rt,r1⟩:=r1
     unfold RDs at r1
     subst r1
     exact ⟨u',v',t',rfl,wpS.done (h:=h1) w1 (((er1.set ru i).set rv j).set rt k) hr1⟩
   | [],w1=>exact w1.elim
   | [_],w1=>exact w1.elim
   | [_,_],w1=>exact w1.elim
   | _ :: _ :: _ :: _ :: _,w1=>exact w1.elim⟩)
end
end MI
end
section
open PySem L2 MI
namespace My
def top (i:Nat):Stmt:=PySem.Challenge.pw_closering_k04_whole_fewest.main.body.getD i (.Pass ⟨0,0,0,0⟩)
abbrev zfU:Stmt:=top 5
theorem zsZ:zbj ["value"] ["value"] (zt zfU):=⟨rfl,rfl,rfl,by decide +kernel,rfl,by decide +kernel,by decide +kernel⟩
abbrev zfV:Stmt:=top 6
theorem zs0:zbj ["value", "least", "most"] ["value", "least", "most"] (zt zfV):=⟨rfl,rfl,rfl,by decide +kernel,rfl,by decide +kernel,by decide +kernel⟩
abbrev zfW:Stmt:=top 7
theorem zs1:zbj ["points", "value"] ["points", "value"] (zt zfW):=⟨rfl,rfl,rfl,by decide +kernel,rfl,by decide +kernel,by decide +kernel⟩
abbrev zfX:Stmt:=top 8
theorem zs2:zbj ["points", "value"] ["points", "value"] (zt zfX):=⟨rfl,rfl,rfl,by decide +kernel,rfl,by decide +kernel,by decide +kernel⟩
abbrev zfk:Stmt:=top 9
theorem zs3:zbj ["points", "value"] ["points", "value"] (zt zfk):=⟨rfl,rfl,rfl,by decide +kernel,rfl,by decide +kernel,by decide +kernel⟩
abbrev zfZ:Stmt:=ziE (top 12) 0
theorem zs4:zbj ["self", "points", "ties", "turn"] ["self", "points", "ties", "turn"] (zt zfZ):=⟨rfl,rfl,rfl,by decide +kernel,rfl,by decide +kernel,by decide +kernel⟩
abbrev zds:Stmt:=ziE (top 12) 1
theorem zs5:zbj ["self"] ["self"] (zt zds):=⟨rfl,rfl,rfl,by decide +kernel,rfl,by decide +kernel,by decide +kernel⟩
abbrev zfY:Stmt:=top 13
theorem zs6:zbj ["tie"] ["tie"] (zt zfY):=⟨rfl,rfl,rfl,by decide +kernel,rfl,by decide +kernel,by decide +kernel⟩
abbrev zeM:Stmt:=top 14
theorem zs7:zbj ["web"] ["web"] (zt zeM):=⟨rfl,rfl,rfl,by decide +kernel,rfl,by decide +kernel,by decide +kernel⟩
abbrev zfl:Stmt:=top 20
theorem zpi:zbj ["ties", "step", "tie"] ["ties", "step"] (zt zfl):=⟨rfl,rfl,rfl,by decide +kernel,rfl,by decide +kernel,by decide +kernel⟩
abbrev zeO:Stmt:=top 25
theorem zs8:zbj ["web"] ["web"] (zt zeO):=⟨rfl,rfl,rfl,by decide +kernel,rfl,by decide +kernel,by decide +kernel⟩
abbrev zeP:Stmt:=top 26
theorem zhF:zbj ["web", "chosen", "ties", "found", "place"] ["web", "chosen"] (zt zeP):=⟨rfl,rfl,rfl,by decide +kernel,rfl,by decide +kernel,by decide +kernel⟩
abbrev zfm:Stmt:=top 27
theorem zf0:zbj ["ties", "onward", "start", "arrived", "waiting", "place", "here", "step", "there"] ["ties", "onward", "start", "arrived"] (zt zfm):=⟨rfl,rfl,rfl,by decide +kernel,rfl,by decide +kernel,by decide +kernel⟩
abbrev zfn:Stmt:=top 28
theorem zha:zbj ["web", "chosen", "ties", "onward", "arrived", "point"] ["web", "chosen"] (zt zfn):=⟨rfl,rfl,rfl,by decide +kernel,rfl,by decide +kernel,by decide +kernel⟩
abbrev zeQ:Stmt:=top 29
theorem zs9:zbj ["arrived"] ["arrived"] (zt zeQ):=⟨rfl,rfl,rfl,by decide +kernel,rfl,by decide +kernel,by decide +kernel⟩
abbrev zeR:Stmt:=top 30
theorem zgp:zbj ["web", "arrived", "numbers", "begun", "point", "step"] ["web", "arrived"] (zt zeR):=⟨rfl,rfl,rfl,by decide +kernel,rfl,by decide +kernel,by decide +kernel⟩
abbrev zeN:Stmt:=top 32
theorem zta:zbj ["values", "count"] ["values", "count"] (zt zeN):=⟨rfl,rfl,rfl,by decide +kernel,rfl,by decide +kernel,by decide +kernel⟩
abbrev zep:Stmt:=top 33
theorem ztb:zbj ["values", "count"] ["values", "count"] (zt zep):=⟨rfl,rfl,rfl,by decide +kernel,rfl,by decide +kernel,by decide +kernel⟩
abbrev zgq:Stmt:=ziE (top 39) 0
theorem ztc:zbj ["self", "kept", "parts"] ["self", "kept", "parts"] (zt zgq):=⟨rfl,rfl,rfl,by decide +kernel,rfl,by decide +kernel,by decide +kernel⟩
abbrev zfo:Stmt:=ziE (top 39) 1
theorem ztd:zbj ["self", "web"] ["self", "web"] (zt zfo):=⟨rfl,rfl,rfl,by decide +kernel,rfl,by decide +kernel,by decide +kernel⟩
abbrev zeS:Stmt:=top 47
theorem zpj:zbj ["web", "arrived"] ["web"] (zt zeS):=⟨rfl,rfl,rfl,by decide +kernel,rfl,by decide +kernel,by decide +kernel⟩
abbrev zgr:Stmt:=top 49
theorem zte:zbj ["_law_script", "_law_k"] ["_law_script", "_law_k"] (zt zgr):=⟨rfl,rfl,rfl,by decide +kernel,rfl,by decide +kernel,by decide +kernel⟩
abbrev zgs:Stmt:=top 50
theorem zpk:zbj ["_law_cell", "_law_k", "_law_many", "_law_primes"] ["_law_cell", "_law_k", "_law_many"] (zt zgs):=⟨rfl,rfl,rfl,by decide +kernel,rfl,by decide +kernel,by decide +kernel⟩
abbrev zgt:Stmt:=top 51
theorem zcx:zbj ["_law_script", "_law_few", "_law_points", "_law_turn", "_law_most", "_law_wrong", "_law_halves", "_law_ties", "_law_k", "_law_one", "_law_other", "_law_low", "_law_many", "_law_by", "_law_number"] ["_law_script"] (zt zgt):=⟨rfl,rfl,rfl,by decide +kernel,rfl,by decide +kernel,by decide +kernel⟩
abbrev zf1:Stmt:=top 54
theorem ztf:zbj ["_law_found"] ["_law_found"] (zt zf1):=⟨rfl,rfl,rfl,by decide +kernel,rfl,by decide +kernel,by decide +kernel⟩
abbrev zf2:Stmt:=top 55
theorem zf3:zbj ["_law_points", "_law_ties", "_law_near", "_law_found", "_law_many", "_law_tie", "_law_point", "_law_left", "_law_now"] ["_law_points", "_law_ties"] (zt zf2):=⟨rfl,rfl,rfl,by decide +kernel,rfl,by decide +kernel,by decide +kernel⟩
abbrev zfp:Stmt:=top 56
theorem zpl:zbj ["_law_points", "_law_ties", "_law_found", "_law_parts_here"] ["_law_points", "_law_ties", "_law_found"] (zt zfp):=⟨rfl,rfl,rfl,by decide +kernel,rfl,by decide +kernel,by decide +kernel⟩
abbrev zgu:Stmt:=top 57
theorem zeT:zbj ["_law_script", "_law_points", "_law_ties", "_law_turn", "_law_web_here", "_law_again", "_law_found", "_law_others"] ["_law_script"] (zt zgu):=⟨rfl,rfl,rfl,by decide +kernel,rfl,by decide +kernel,by decide +kernel⟩
def anL:List Str:=["points", "turn", "triples", "heights", "steps", "kept", "parts", "camps", "tie"]
theorem zyz:anL.Nodup:=by decide +kernel
theorem zgZ:anL.contains "ties" = false:=by decide +kernel
theorem zic:anL.contains "shows" = false:=by decide +kernel
set_option maxHeartbeats 4000000 in
structure TX (K:PySem.W.Frag) (mg:Str->Option Value) where
 zc5:DF K "is_number" "is_number" zfU ["value"]
 zen:mg "is_number" = some (.ref zc5.a)
 zcf:DF K "is_within" "is_within" zfV ["value", "least", "most"]
 zcL:mg "is_within" = some (.ref zcf.a)
 zc6:DF K "is_point" "is_point" zfW ["points", "value"]
 zeI:mg "is_point" = some (.ref zc6.a)
 zdK:DF K "is_tie" "is_tie" zfX ["points", "value"]
 zfP:mg "is_tie" = some (.ref zdK.a)
 zdL:DF K "own_tie" "own_tie" zfk ["points", "value"]
 zfh:mg "own_tie" = some (.ref zdL.a)
 zc7:DF K "__init__" "Web.__init__" zfZ ["self", "points", "ties", "turn"]
 zcD:DF K "ties" "Web.ties" zds ["self"]
 zc8:DF K "turned" "turned" zfY ["tie"]
 zeo:mg "turned" = some (.ref zc8.a)
 zdM:DF K "about" "about" zeM ["web"]
 zec:mg "about" = some (.ref zdM.a)
 zdN:DF K "leg" "leg" zfl ["ties", "step"]
 zeJ:mg "leg" = some (.ref zdN.a)
 zc9:DF K "every_tie" "every_tie" zeO ["web"]
 zeK:mg "every_tie" = some (.ref zc9.a)
 zdO:DF K "steps_from" "steps_from" zeP ["web", "chosen"]
 zfQ:mg "steps_from" = some (.ref zdO.a)
 zdP:DF K "spread" "spread" zfm ["ties", "onward", "start", "arrived"]
 zfi:mg "spread" = some (.ref zdP.a)
 zcM:DF K "reach_all" "reach_all" zfn ["web", "chosen"]
 zdI:mg "reach_all" = some (.ref zcM.a)
 zdQ:DF K "ties_taken" "ties_taken" zeQ ["arrived"]
 zfR:mg "ties_taken" = some (.ref zdQ.a)
 zcN:DF K "part_numbers" "part_numbers" zeR ["web", "arrived"]
 zdJ:mg "part_numbers" = some (.ref zcN.a)
 zdR:DF K "are_numbers" "are_numbers" zeN ["values", "count"]
 zfS:mg "are_numbers" = some (.ref zdR.a)
 zdS:DF K "are_rising" "are_rising" zep ["values", "count"]
 zfT:mg "are_rising" = some (.ref zdS.a)
 zdT:DF K "__init__" "Fewest.__init__" zgq ["self", "kept", "parts"]
 zc1:DF K "shows" "Fewest.shows" zfo ["self", "web"]
 zda:DF K "fewest" "fewest" zeS ["web"]
 zcC:mg "fewest" = some (.ref zda.a)
 zb2:DF K "_law_cell_at" "_law_cell_at" zgr ["_law_script", "_law_k"]
 zcw:mg "_law_cell_at" = some (.ref zb2.a)
 z6:DF K "_law_draw" "_law_draw" zgs ["_law_cell", "_law_k", "_law_many"]
 zD:mg "_law_draw" = some (.ref z6.a)
 zdU:DF K "_law_web" "_law_web" zgt ["_law_script"]
 zfj:mg "_law_web" = some (.ref zdU.a)
 zdV:DF K "_law_numbers" "_law_numbers" zf1 ["_law_found"]
 zed:mg "_law_numbers" = some (.ref zdV.a)
 zdb:DF K "_law_parts" "_law_parts" zf2 ["_law_points", "_law_ties"]
 zeL:mg "_law_parts" = some (.ref zdb.a)
 zdc:DF K "_law_due" "_law_due" zfp ["_law_points", "_law_ties", "_law_found"]
 zcm:mg "_law_due" = some (.ref zdc.a)
 zdd:DF K "law" "law" zgu ["_law_script"]
 zg9:mg "law" = some (.ref zdd.a)
 zR:CF K mg "Web"
 zhG:Mk K zR.c zc7.a
 zf4:zfz K zR.c "ties" zcD.a
 zgv:zbU K zR.c "points"
 zgw:zbU K zR.c "turn"
 zgx:zbU K zR.c "triples"
 zbC:CF K mg "Answer"
 zbs:CF K mg "Heights"
 zgy:zbU K zbs.c "heights"
 zbt:CF K mg "Ring"
 zgz:zbU K zbt.c "steps"
 zW:CF K mg "Fewest"
 zpm:Mk K zW.c zdT.a
 zhb:zfz K zW.c "shows" zc1.a
 zgA:zbU K zW.c "kept"
 zgB:zbU K zW.c "parts"
 zbu:CF K mg "Camps"
 zgC:zbU K zbu.c "camps"
 zbk:CF K mg "Quarrel"
 zgD:zbU K zbk.c "tie"
 zgE:zbU K zbk.c "steps"
 zbv:CF K mg "Way"
 zgF:zbU K zbv.c "steps"
 zbw:CF K mg "Apart"
 zgG:zbU K zbw.c "points"
 zbx:CF K mg "Around"
 zgH:zbU K zbx.c "steps"
 zby:CF K mg "Held"
 zgI:zbU K zby.c "points"
 n_list:mg "list" = none
 n_range:mg "range" = none
 n_sorted:mg "sorted" = none
 n_all:mg "all" = none
 n_dict:mg "dict" = none
 n_isinstance:mg "isinstance" = none
 n_int:mg "int" = none
 n_len:mg "len" = none
 n_any:mg "any" = none
 n_bool:mg "bool" = none
 n_tuple:mg "tuple" = none
 n_set:mg "set" = none
 n_zip:mg "zip" = none
 n_sum:mg "sum" = none
 n_abs:mg "abs" = none
 v_MOST:VF mg "MOST" (.int (1000000))
 v_FORTH:VF mg "FORTH" (.int (1))
 v_BACK:VF mg "BACK" (.int (-1))
 zdW:Isa K zR.c zR.c true∧Isa K zR.c zbC.c false∧Isa K zR.c zbs.c false∧Isa K zR.c zbt.c false∧Isa K zR.c zW.c false∧Isa K zR.c zbu.c false∧Isa K zR.c zbk.c false∧Isa K zR.c zbv.c false∧Isa K zR.c zbw.c false∧Isa K zR.c zbx.c false∧Isa K zR.c zby.c false
 zdX:Isa K zbC.c zR.c false∧Isa K zbC.c zbC.c true∧Isa K zbC.c zbs.c false∧Isa K zbC.c zbt.c false∧Isa K zbC.c zW.c false∧Isa K zbC.c zbu.c false∧Isa K zbC.c zbk.c false∧Isa K zbC.c zbv.c false∧Isa K zbC.c zbw.c false∧Isa K zbC.c zbx.c false∧Isa K zbC.c zby.c false
 zdY:Isa K zbs.c zR.c false∧Isa K zbs.c zbC.c true∧Isa K zbs.c zbs.c true∧Isa K zbs.c zbt.c false∧Isa K zbs.c zW.c false∧Isa K zbs.c zbu.c false∧Isa K zbs.c zbk.c false∧Isa K zbs.c zbv.c false∧Isa K zbs.c zbw.c false∧Isa K zbs.c zbx.c false∧Isa K zbs.c zby.c false
 zdZ:Isa K zbt.c zR.c false∧Isa K zbt.c zbC.c true∧Isa K zbt.c zbs.c false∧Isa K zbt.c zbt.c true∧Isa K zbt.c zW.c false∧Isa K zbt.c zbu.c false∧Isa K zbt.c zbk.c false∧Isa K zbt.c zbv.c false∧Isa K zbt.c zbw.c false∧Isa K zbt.c zbx.c false∧Isa K zbt.c zby.c false
 zd0:Isa K zW.c zR.c false∧Isa K zW.c zbC.c true∧Isa K zW.c zbs.c false∧Isa K zW.c zbt.c false∧Isa K zW.c zW.c true∧Isa K zW.c zbu.c false∧Isa K zW.c zbk.c false∧Isa K zW.c zbv.c false∧Isa K zW.c zbw.c false∧Isa K zW.c zbx.c false∧Isa K zW.c zby.c false
 zd1:Isa K zbu.c zR.c false∧Isa K zbu.c zbC.c true∧Isa K zbu.c zbs.c false∧Isa K zbu.c zbt.c false∧Isa K zbu.c zW.c false∧Isa K zbu.c zbu.c true∧Isa K zbu.c zbk.c false∧Isa K zbu.c zbv.c false∧Isa K zbu.c zbw.c false∧Isa K zbu.c zbx.c false∧Isa K zbu.c zby.c false
 zd2:Isa K zbk.c zR.c false∧Isa K zbk.c zbC.c true∧Isa K zbk.c zbs.c false∧Isa K zbk.c zbt.c false∧Isa K zbk.c zW.c false∧Isa K zbk.c zbu.c false∧Isa K zbk.c zbk.c true∧Isa K zbk.c zbv.c false∧Isa K zbk.c zbw.c false∧Isa K zbk.c zbx.c false∧Isa K zbk.c zby.c false
 zd3:Isa K zbv.c zR.c false∧Isa K zbv.c zbC.c true∧Isa K zbv.c zbs.c false∧Isa K zbv.c zbt.c false∧Isa K zbv.c zW.c false∧Isa K zbv.c zbu.c false∧Isa K zbv.c zbk.c false∧Isa K zbv.c zbv.c true∧Isa K zbv.c zbw.c false∧Isa K zbv.c zbx.c false∧Isa K zbv.c zby.c false
 zd4:Isa K zbw.c zR.c false∧Isa K zbw.c zbC.c true∧Isa K zbw.c zbs.c false∧Isa K zbw.c zbt.c false∧Isa K zbw.c zW.c false∧Isa K zbw.c zbu.c false∧Isa K zbw.c zbk.c false∧Isa K zbw.c zbv.c false∧Isa K zbw.c zbw.c true∧Isa K zbw.c zbx.c false∧Isa K zbw.c zby.c false
 zd5:Isa K zbx.c zR.c false∧Isa K zbx.c zbC.c true∧Isa K zbx.c zbs.c false∧Isa K zbx.c zbt.c false∧Isa K zbx.c zW.c false∧Isa K zbx.c zbu.c false∧Isa K zbx.c zbk.c false∧Isa K zbx.c zbv.c false∧Isa K zbx.c zbw.c false∧Isa K zbx.c zbx.c true∧Isa K zbx.c zby.c false
 zd6:Isa K zby.c zR.c false∧Isa K zby.c zbC.c true∧Isa K zby.c zbs.c false∧Isa K zby.c zbt.c false∧Isa K zby.c zW.c false∧Isa K zby.c zbu.c false∧Isa K zby.c zbk.c false∧Isa K zby.c zbv.c false∧Isa K zby.c zbw.c false∧Isa K zby.c zbx.c false∧Isa K zby.c zby.c true
section
variable {K:PySem.W.Frag}{mg:Str->Option Value}
def TX.G (T:TX K mg):GP:=⟨K,[T.zR.c,T.zbC.c,T.zbs.c,T.zbt.c,T.zW.c,T.zbu.c,T.zbk.c,T.zbv.c,T.zbw.c,T.zbx.c,T.zby.c],anL⟩
theorem TX.g_Web (T:TX K mg):T.G.cm[0]?=some T.zR.c:=rfl
theorem TX.g_Answer (T:TX K mg):T.G.cm[1]?=some T.zbC.c:=rfl
theorem TX.g_Heights (T:TX K mg):T.G.cm[2]?=some T.zbs.c:=rfl
theorem TX.g_Ring (T:TX K mg):T.G.cm[3]?=some T.zbt.c:=rfl
theorem TX.g_Fewest (T:TX K mg):T.G.cm[4]?=some T.zW.c:=rfl
theorem TX.g_Camps (T:TX K mg):T.G.cm[5]?=some T.zbu.c:=rfl
theorem TX.g_Quarrel (T:TX K mg):T.G.cm[6]?=some T.zbk.c:=rfl
theorem TX.g_Way (T:TX K mg):T.G.cm[7]?=some T.zbv.c:=rfl
theorem TX.g_Apart (T:TX K mg):T.G.cm[8]?=some T.zbw.c:=rfl
theorem TX.g_Around (T:TX K mg):T.G.cm[9]?=some T.zbx.c:=rfl
theorem TX.g_Held (T:TX K mg):T.G.cm[10]?=some T.zby.c:=rfl
theorem TX.an_points (T:TX K mg):T.G.an[0]?=some ("points":Str):=rfl
theorem TX.an_turn (T:TX K mg):T.G.an[1]?=some ("turn":Str):=rfl
theorem TX.an_triples (T:TX K mg):T.G.an[2]?=some ("triples":Str):=rfl
theorem TX.an_heights (T:TX K mg):T.G.an[3]?=some ("heights":Str):=rfl
theorem TX.an_steps (T:TX K mg):T.G.an[4]?=some ("steps":Str):=rfl
theorem TX.an_kept (T:TX K mg):T.G.an[5]?=some ("kept":Str):=rfl
theorem TX.an_parts (T:TX K mg):T.G.an[6]?=some ("parts":Str):=rfl
theorem TX.an_camps (T:TX K mg):T.G.an[7]?=some ("camps":Str):=rfl
theorem TX.an_tie (T:TX K mg):T.G.an[8]?=some ("tie":Str):=rfl
theorem TX.ztg (T:TX K mg):∀ (c':Nat) C',T.G.cm[c']?=some C'->Isa K T.zR.c C' (zB 0 c')
 | 0,C',h=>by cases h;exact T.zdW.1
 | 1,C',h=>by cases h;exact T.zdW.2.1
 | 2,C',h=>by cases h;exact T.zdW.2.2.1
 | 3,C',h=>by cases h;exact T.zdW.2.2.2.1
 | 4,C',h=>by cases h;exact T.zdW.2.2.2.2.1
 | 5,C',h=>by cases h;exact T.zdW.2.2.2.2.2.1
 | 6,C',h=>by cases h;exact T.zdW.2.2.2.2.2.2.1
 | 7,C',h=>by cases h;exact T.zdW.2.2.2.2.2.2.2.1
 | 8,C',h=>by cases h;exact T.zdW.2.2.2.2.2.2.2.2.1
 | 9,C',h=>by cases h;exact T.zdW.2.2.2.2.2.2.2.2.2.1
 | 10,C',h=>by cases h;exact T.zdW.2.2.2.2.2.2.2.2.2.2
 | _+11,C',h=>by cases h
theorem TX.zth (T:TX K mg):∀ (c':Nat) C',T.G.cm[c']?=some C'->Isa K T.zbC.c C' (zB 1 c')
 | 0,C',h=>by cases h;exact T.zdX.1
 | 1,C',h=>by cases h;exact T.zdX.2.1
 | 2,C',h=>by cases h;exact T.zdX.2.2.1
 | 3,C',h=>by cases h;exact T.zdX.2.2.2.1
 | 4,C',h=>by cases h;exact T.zdX.2.2.2.2.1
 | 5,C',h=>by cases h;exact T.zdX.2.2.2.2.2.1
 | 6,C',h=>by cases h;exact T.zdX.2.2.2.2.2.2.1
 | 7,C',h=>by cases h;exact T.zdX.2.2.2.2.2.2.2.1
 | 8,C',h=>by cases h;exact T.zdX.2.2.2.2.2.2.2.2.1
 | 9,C',h=>by cases h;exact T.zdX.2.2.2.2.2.2.2.2.2.1
 | 10,C',h=>by cases h;exact T.zdX.2.2.2.2.2.2.2.2.2.2
 | _+11,C',h=>by cases h
theorem TX.zti (T:TX K mg):∀ (c':Nat) C',T.G.cm[c']?=some C'->Isa K T.zbs.c C' (zB 2 c')
 | 0,C',h=>by cases h;exact T.zdY.1
 | 1,C',h=>by cases h;exact T.zdY.2.1
 | 2,C',h=>by cases h;exact T.zdY.2.2.1
 | 3,C',h=>by cases h;exact T.zdY.2.2.2.1
 | 4,C',h=>by cases h;exact T.zdY.2.2.2.2.1
 | 5,C',h=>by cases h;exact T.zdY.2.2.2.2.2.1
 | 6,C',h=>by cases h;exact T.zdY.2.2.2.2.2.2.1
 | 7,C',h=>by cases h;exact T.zdY.2.2.2.2.2.2.2.1
 | 8,C',h=>by cases h;exact T.zdY.2.2.2.2.2.2.2.2.1
 | 9,C',h=>by cases h;exact T.zdY.2.2.2.2.2.2.2.2.2.1
 | 10,C',h=>by cases h;exact T.zdY.2.2.2.2.2.2.2.2.2.2
 | _+11,C',h=>by cases h
theorem TX.ztj (T:TX K mg):∀ (c':Nat) C',T.G.cm[c']?=some C'->Isa K T.zbt.c C' (zB 3 c')
 | 0,C',h=>by cases h;exact T.zdZ.1
 | 1,C',h=>by cases h;exact T.zdZ.2.1
 | 2,C',h=>by cases h;exact T.zdZ.2.2.1
 | 3,C',h=>by cases h;exact T.zdZ.2.2.2.1
 | 4,C',h=>by cases h;exact T.zdZ.2.2.2.2.1
 | 5,C',h=>by cases h;exact T.zdZ.2.2.2.2.2.1
 | 6,C',h=>by cases h;exact T.zdZ.2.2.2.2.2.2.1
 | 7,C',h=>by cases h;exact T.zdZ.2.2.2.2.2.2.2.1
 | 8,C',h=>by cases h;exact T.zdZ.2.2.2.2.2.2.2.2.1
 | 9,C',h=>by cases h;exact T.zdZ.2.2.2.2.2.2.2.2.2.1
 | 10,C',h=>by cases h;exact T.zdZ.2.2.2.2.2.2.2.2.2.2
 | _+11,C',h=>by cases h
theorem TX.ztk (T:TX K mg):∀ (c':Nat) C',T.G.cm[c']?=some C'->Isa K T.zW.c C' (zB 4 c')
 | 0,C',h=>by cases h;exact T.zd0.1
 | 1,C',h=>by cases h;exact T.zd0.2.1
 | 2,C',h=>by cases h;exact T.zd0.2.2.1
 | 3,C',h=>by cases h;exact T.zd0.2.2.2.1
 | 4,C',h=>by cases h;exact T.zd0.2.2.2.2.1
 | 5,C',h=>by cases h;exact T.zd0.2.2.2.2.2.1
 | 6,C',h=>by cases h;exact T.zd0.2.2.2.2.2.2.1
 | 7,C',h=>by cases h;exact T.zd0.2.2.2.2.2.2.2.1
 | 8,C',h=>by cases h;exact T.zd0.2.2.2.2.2.2.2.2.1
 | 9,C',h=>by cases h;exact T.zd0.2.2.2.2.2.2.2.2.2.1
 | 10,C',h=>by cases h;exact T.zd0.2.2.2.2.2.2.2.2.2.2
 | _+11,C',h=>by cases h
theorem TX.ztl (T:TX K mg):∀ (c':Nat) C',T.G.cm[c']?=some C'->Isa K T.zbu.c C' (zB 5 c')
 | 0,C',h=>by cases h;exact T.zd1.1
 | 1,C',h=>by cases h;exact T.zd1.2.1
 | 2,C',h=>by cases h;exact T.zd1.2.2.1
 | 3,C',h=>by cases h;exact T.zd1.2.2.2.1
 | 4,C',h=>by cases h;exact T.zd1.2.2.2.2.1
 | 5,C',h=>by cases h;exact T.zd1.2.2.2.2.2.1
 | 6,C',h=>by cases h;exact T.zd1.2.2.2.2.2.2.1
 | 7,C',h=>by cases h;exact T.zd1.2.2.2.2.2.2.2.1
 | 8,C',h=>by cases h;exact T.zd1.2.2.2.2.2.2.2.2.1
 | 9,C',h=>by cases h;exact T.zd1.2.2.2.2.2.2.2.2.2.1
 | 10,C',h=>by cases h;exact T.zd1.2.2.2.2.2.2.2.2.2.2
 | _+11,C',h=>by cases h
theorem TX.ztm (T:TX K mg):∀ (c':Nat) C',T.G.cm[c']?=some C'->Isa K T.zbk.c C' (zB 6 c')
 | 0,C',h=>by cases h;exact T.zd2.1
 | 1,C',h=>by cases h;exact T.zd2.2.1
 | 2,C',h=>by cases h;exact T.zd2.2.2.1
 | 3,C',h=>by cases h;exact T.zd2.2.2.2.1
 | 4,C',h=>by cases h;exact T.zd2.2.2.2.2.1
 | 5,C',h=>by cases h;exact T.zd2.2.2.2.2.2.1
 | 6,C',h=>by cases h;exact T.zd2.2.2.2.2.2.2.1
 | 7,C',h=>by cases h;exact T.zd2.2.2.2.2.2.2.2.1
 | 8,C',h=>by cases h;exact T.zd2.2.2.2.2.2.2.2.2.1
 | 9,C',h=>by cases h;exact T.zd2.2.2.2.2.2.2.2.2.2.1
 | 10,C',h=>by cases h;exact T.zd2.2.2.2.2.2.2.2.2.2.2
 | _+11,C',h=>by cases h
theorem TX.ztn (T:TX K mg):∀ (c':Nat) C',T.G.cm[c']?=some C'->Isa K T.zbv.c C' (zB 7 c')
 | 0,C',h=>by cases h;exact T.zd3.1
 | 1,C',h=>by cases h;exact T.zd3.2.1
 | 2,C',h=>by cases h;exact T.zd3.2.2.1
 | 3,C',h=>by cases h;exact T.zd3.2.2.2.1
 | 4,C',h=>by cases h;exact T.zd3.2.2.2.2.1
 | 5,C',h=>by cases h;exact T.zd3.2.2.2.2.2.1
 | 6,C',h=>by cases h;exact T.zd3.2.2.2.2.2.2.1
 | 7,C',h=>by cases h;exact T.zd3.2.2.2.2.2.2.2.1
 | 8,C',h=>by cases h;exact T.zd3.2.2.2.2.2.2.2.2.1
 | 9,C',h=>by cases h;exact T.zd3.2.2.2.2.2.2.2.2.2.1
 | 10,C',h=>by cases h;exact T.zd3.2.2.2.2.2.2.2.2.2.2
 | _+11,C',h=>by cases h
theorem TX.zto (T:TX K mg):∀ (c':Nat) C',T.G.cm[c']?=some C'->Isa K T.zbw.c C' (zB 8 c')
 | 0,C',h=>by cases h;exact T.zd4.1
 | 1,C',h=>by cases h;exact T.zd4.2.1
 | 2,C',h=>by cases h;exact T.zd4.2.2.1
 | 3,C',h=>by cases h;exact T.zd4.2.2.2.1
 | 4,C',h=>by cases h;exact T.zd4.2.2.2.2.1
 | 5,C',h=>by cases h;exact T.zd4.2.2.2.2.2.1
 | 6,C',h=>by cases h;exact T.zd4.2.2.2.2.2.2.1
 | 7,C',h=>by cases h;exact T.zd4.2.2.2.2.2.2.2.1
 | 8,C',h=>by cases h;exact T.zd4.2.2.2.2.2.2.2.2.1
 | 9,C',h=>by cases h;exact T.zd4.2.2.2.2.2.2.2.2.2.1
 | 10,C',h=>by cases h;exact T.zd4.2.2.2.2.2.2.2.2.2.2
 | _+11,C',h=>by cases h
theorem TX.ztp (T:TX K mg):∀ (c':Nat) C',T.G.cm[c']?=some C'->Isa K T.zbx.c C' (zB 9 c')
 | 0,C',h=>by cases h;exact T.zd5.1
 | 1,C',h=>by cases h;exact T.zd5.2.1
 | 2,C',h=>by cases h;exact T.zd5.2.2.1
 | 3,C',h=>by cases h;exact T.zd5.2.2.2.1
 | 4,C',h=>by cases h;exact T.zd5.2.2.2.2.1
 | 5,C',h=>by cases h;exact T.zd5.2.2.2.2.2.1
 | 6,C',h=>by cases h;exact T.zd5.2.2.2.2.2.2.1
 | 7,C',h=>by cases h;exact T.zd5.2.2.2.2.2.2.2.1
 | 8,C',h=>by cases h;exact T.zd5.2.2.2.2.2.2.2.2.1
 | 9,C',h=>by cases h;exact T.zd5.2.2.2.2.2.2.2.2.2.1
 | 10,C',h=>by cases h;exact T.zd5.2.2.2.2.2.2.2.2.2.2
 | _+11,C',h=>by cases h
theorem TX.ztq (T:TX K mg):∀ (c':Nat) C',T.G.cm[c']?=some C'->Isa K T.zby.c C' (zB 10 c')
 | 0,C',h=>by cases h;exact T.zd6.1
 | 1,C',h=>by cases h;exact T.zd6.2.1
 | 2,C',h=>by cases h;exact T.zd6.2.2.1
 | 3,C',h=>by cases h;exact T.zd6.2.2.2.1
 | 4,C',h=>by cases h;exact T.zd6.2.2.2.2.1
 | 5,C',h=>by cases h;exact T.zd6.2.2.2.2.2.1
 | 6,C',h=>by cases h;exact T.zd6.2.2.2.2.2.2.1
 | 7,C',h=>by cases h;exact T.zd6.2.2.2.2.2.2.2.1
 | 8,C',h=>by cases h;exact T.zd6.2.2.2.2.2.2.2.2.1
 | 9,C',h=>by cases h;exact T.zd6.2.2.2.2.2.2.2.2.2.1
 | 10,C',h=>by cases h;exact T.zd6.2.2.2.2.2.2.2.2.2.2
 | _+11,C',h=>by cases h
theorem TX.ok (T:TX K mg):T.G.Ok zB zfy where
 cls:=fun c C h=>match c,h with
   | 0,h=>by cases h;exact ⟨T.zR.cl,T.zR.ic⟩
   | 1,h=>by cases h;exact ⟨T.zbC.cl,T.zbC.ic⟩
   | 2,h=>by cases h;exact ⟨T.zbs.cl,T.zbs.ic⟩
   | 3,h=>by cases h;exact ⟨T.zbt.cl,T.zbt.ic⟩
   | 4,h=>by cases h;exact ⟨T.zW.cl,T.zW.ic⟩
   | 5,h=>by cases h;exact ⟨T.zbu.cl,T.zbu.ic⟩
   | 6,h=>by cases h;exact ⟨T.zbk.cl,T.zbk.ic⟩
   | 7,h=>by cases h;exact ⟨T.zbv.cl,T.zbv.ic⟩
   | 8,h=>by cases h;exact ⟨T.zbw.cl,T.zbw.ic⟩
   | 9,h=>by cases h;exact ⟨T.zbx.cl,T.zbx.ic⟩
   | 10,h=>by cases h;exact ⟨T.zby.cl,T.zby.ic⟩
   | _+11,h=>by cases h
 noat:=fun c C k f h1 h2 h3=>by
   have h2:=List.contains_iff_mem.mp h2
   simp only [List.mem_cons,Prod.mk.injEq,List.not_mem_nil,or_false]at h2
   rcases h2 with ⟨rfl,rfl⟩ | ⟨rfl,rfl⟩ | ⟨rfl,rfl⟩ | ⟨rfl,rfl⟩ | ⟨rfl,rfl⟩ | ⟨rfl,rfl⟩ | ⟨rfl,rfl⟩ | ⟨rfl,rfl⟩ | ⟨rfl,rfl⟩ | ⟨rfl,rfl⟩ | ⟨rfl,rfl⟩ | ⟨rfl,rfl⟩ | ⟨rfl,rfl⟩ | ⟨rfl,rfl⟩
   . cases h1;cases h3;exact T.zgv
   . cases h1;cases h3;exact T.zgw
   . cases h1;cases h3;exact T.zgx
   . cases h1;cases h3;exact T.zgy
   . cases h1;cases h3;exact T.zgz
   . cases h1;cases h3;exact T.zgA
   . cases h1;cases h3;exact T.zgB
   . cases h1;cases h3;exact T.zgC
   . cases h1;cases h3;exact T.zgD
   . cases h1;cases h3;exact T.zgE
   . cases h1;cases h3;exact T.zgF
   . cases h1;cases h3;exact T.zgG
   . cases h1;cases h3;exact T.zgH
   . cases h1;cases h3;exact T.zgI
 nd:=zyz
 isa:=fun c c' C C' h1 h2=>match c,h1 with
   | 0,h1=>by cases h1;exact T.ztg c' C' h2
   | 1,h1=>by cases h1;exact T.zth c' C' h2
   | 2,h1=>by cases h1;exact T.zti c' C' h2
   | 3,h1=>by cases h1;exact T.ztj c' C' h2
   | 4,h1=>by cases h1;exact T.ztk c' C' h2
   | 5,h1=>by cases h1;exact T.ztl c' C' h2
   | 6,h1=>by cases h1;exact T.ztm c' C' h2
   | 7,h1=>by cases h1;exact T.ztn c' C' h2
   | 8,h1=>by cases h1;exact T.zto c' C' h2
   | 9,h1=>by cases h1;exact T.ztp c' C' h2
   | 10,h1=>by cases h1;exact T.ztq c' C' h2
   | _+11,h1=>by cases h1
end
end My
end
section
open PySem L2 MI
namespace My
section
variable {P:Program}{w:World}{K:PySem.W.Frag}{mg:Str->Option Value}{base:Heap}
set_option maxHeartbeats 4000000 in
theorem zpn (T:TX K mg):zM P w K mg base CX0 1 T.zc5.a T.zc5.d ["value"] (spM T.G 1 zen) :=
 zbL (k:=0) T.zc5.F zsZ rfl rfl (by decide) fun cdv A outer s H E hr =>
     (zC (zS (zg6 (zfe (by rfl) T.n_isinstance (by rfl) T.n_int (zc 0) zk) (zgV (zhR (zfe (by rfl) T.n_isinstance (by rfl) T.n_bool (zc 0) zk))))))
set_option maxHeartbeats 4000000 in
theorem zhc (T:TX K mg):zM P w K mg base CX0 2 T.zcf.a T.zcf.d ["value", "least", "most"] (spM T.G 3 zcL) :=
 zbL (k:=1) T.zcf.F zs0 rfl rfl (by decide) fun cdv A outer s H E hr =>
     (zC (zS (zg6 (zJ (zpn T) (hr.mono (by decide)) (by rfl) T.zen T.zc5.F.kp T.zc5.b (ze (zc 0) zo zk)) (zgV (zsd (zoU hr) (zoU hr) (zc 1) (zc 0) (zc 2))))))
set_option maxHeartbeats 4000000 in
theorem zpo (T:TX K mg):zM P w K mg base CX0 3 T.zc6.a T.zc6.d ["points", "value"] (spM T.G 2 zeI) :=
 zbL (k:=2) T.zc6.F zs1 rfl rfl (by decide) fun cdv A outer s H E hr =>
     (zC (zS (zJ (zhc T) (hr.mono (by decide)) (by rfl) T.zcL T.zcf.F.kp T.zcf.b (ze (zc 1) (ze zg (ze (zdy (zc 0) zg) zo zdB) zG) zk))))
set_option maxHeartbeats 4000000 in
theorem ztr (T:TX K mg):zM P w K mg base CX0 4 T.zdK.a T.zdK.d ["points", "value"] (spM T.G 2 zfP) :=
 zbL (k:=3) T.zdK.F zs2 rfl rfl (by decide) fun cdv A outer s H E hr =>
     (zr (zbF (t_w (zeG (zcS (zck (zfe (by rfl) T.n_isinstance (by rfl) T.n_tuple (zc 1) zk) (fun _=>rfl))) (ze2 (zbK (zeu hr) (zdv (by rfl) T.n_len (zc 1) zk) zg (zba _))))) (zC (zS zcq)) zbH)
     (zr (zbF (t_w (zeG (zcS (zck (zJ (zpo T) (hr.mono (by decide)) (by rfl) T.zeI T.zc6.F.kp T.zc6.b (ze (zc 0) (ze (zO hr (zc 1) zg (fun _ _=>rfl)) zo zcs) zk)) (fun _=>rfl))) (ze2 (zcS (zck (zJ (zpo T) (hr.mono (by decide)) (by rfl) T.zeI T.zc6.F.kp T.zc6.b (ze (zc 0) (ze (zO hr (zc 1) zg (fun _ _=>rfl)) zo zcs) zk)) (fun _=>rfl)))))) (zC (zS zcq)) zbH)
     (zC (zS (zg6 (zfB (zeu hr) (zO hr (zc 1) zg (fun _ _=>rfl)) (zO hr (zc 1) zg (fun _ _=>rfl)) (zba _)) (zgV (zJ (zhc T) (hr.mono (by decide)) (by rfl) T.zcL T.zcf.F.kp T.zcf.b (ze (zO hr (zc 1) zg (fun _ _=>rfl)) (ze (zfg (zf6 (by rfl) T.v_MOST.m T.v_MOST.r)) (ze (zf6 (by rfl) T.v_MOST.m T.v_MOST.r) zo zk) zoT) zcs))))))))
set_option maxHeartbeats 4000000 in
theorem zts (T:TX K mg):zM P w K mg base CX0 5 T.zdL.a T.zdL.d ["points", "value"] (spM T.G 2 zfh) :=
 zbL (k:=4) T.zdL.F zs3 rfl rfl (by decide) fun cdv A outer s H E hr =>
     (zr (zbF (zcS (zck (zJ (ztr T) (hr.mono (by decide)) (by rfl) T.zfP T.zdK.F.kp T.zdK.b (ze (zc 0) (ze (zc 1) zo zk) zk)) (fun _=>rfl))) (zC zia) zbH)
     (zC (zS (zek (ze (zO hr (zc 1) zg (fun _ _=>rfl)) (ze (zO hr (zc 1) zg (fun _ _=>rfl)) (ze (zO hr (zc 1) zg (fun _ _=>rfl)) zo zcs) zcs) zcs)))))
set_option maxHeartbeats 4000000 in
theorem ziF (T:TX K mg):zM P w K mg base CX0 6 T.zc7.a T.zc7.d ["self", "points", "ties", "turn"] (spM T.G 4 zeb) :=
 zbL (k:=5) T.zc7.F zs4 rfl rfl (by decide) fun cdv A outer s H E hr =>
     (zr (zbF (zcS (zck (zJ (zhc T) (hr.mono (by decide)) (by rfl) T.zcL T.zcf.F.kp T.zcf.b (ze (zc 1) (ze zg (ze (zf6 (by rfl) T.v_MOST.m T.v_MOST.r) zo zk) zG) zk)) (fun _=>rfl))) (zC zia) zbH)
     (zr (zbF (zcS (zck (zJ (zhc T) (hr.mono (by decide)) (by rfl) T.zcL T.zcf.F.kp T.zcf.b (ze (zc 3) (ze zg (ze (zf6 (by rfl) T.v_MOST.m T.v_MOST.r) zo zk) zG) zk)) (fun _=>rfl))) (zC zia) zbH)
     (zr (zbF (zcS (zck (zfe (by rfl) T.n_isinstance (by rfl) T.n_list (zc 2) zk) (fun _=>rfl))) (zC zia) zbH)
     (zr (zhd T.ok T.an_points (zc 0) (zc 1) rfl)
     (zr (zhd T.ok T.an_turn (zc 0) (zc 3) rfl)
     (zC (zhd T.ok T.an_triples (zc 0) (zbO (ze0 (N:=["tie", "points"]) (js:=[none,some 1]) rfl (zbZ.of (osc:=zt zfZ) (N0:=["self", "points", "ties", "turn"]) rfl rfl (by decide +kernel)) (zeC (zc 2)) (fun _ _ _ _=>(zcG (i:=0) (show (["tie", "points"]:List Str).Nodup by decide +kernel) rfl (Or.inl rfl))) (fun _ _ _ _=>zes) (fun _ _ _ _=>(zJ (zts T) (hr.mono (by decide)) (by rfl) T.zfh T.zdL.F.kp T.zdL.b (ze (zc 1) (ze (zc 0) zo zk) zk))))) rfl)))))))
set_option maxHeartbeats 4000000 in
theorem zgJ (T:TX K mg):zM P w K mg base CX0 1 T.zcD.a T.zcD.d ["self"] (spM T.G 1 zhD) :=
 zbL (k:=0) T.zcD.F zs5 rfl rfl (by decide) fun cdv A outer s H E hr =>
     (zC (zS (zbO (zoe (by rfl) T.n_list (zfH (zbB T.ok T.an_triples (zc 0) rfl)) zdz))))
set_option maxHeartbeats 4000000 in
theorem zpp (T:TX K mg):zM P w K mg base CX0 1 T.zc8.a T.zc8.d ["tie"] (spM T.G 1 zeo) :=
 zbL (k:=0) T.zc8.F zs6 rfl rfl (by decide) fun cdv A outer s H E hr =>
     (zC (zS (zek (ze (zO hr (zc 0) zg (fun _ _=>rfl)) (ze (zO hr (zc 0) zg (fun _ _=>rfl)) (ze (zfg (zO hr (zc 0) zg (fun _ _=>rfl))) zo zoT) zcs) zcs))))
set_option maxHeartbeats 4000000 in
theorem ztt (T:TX K mg):zM P w K mg base CX0 8 T.zdM.a T.zdM.d ["web"] (spM T.G 1 zec) :=
 zbL (k:=7) T.zdM.F zs7 rfl rfl (by decide) fun cdv A outer s H E hr =>
     (zC (zS (zhL T.g_Web T.zhG (ziF T) (hr.mono (by decide)) (by rfl) T.zR.m T.zc7.b (ze (zbB T.ok T.an_points (zc 0) rfl) (ze (zbO (ze0 (N:=["tie"]) (js:=[none]) rfl (zbZ.of (osc:=zt zeM) (N0:=["web"]) rfl rfl (by decide +kernel)) (zeC (zeA (c0:=0) (zg7 T.g_Web T.zR.cl T.zf4 (zgJ T) (hr.mono (by decide)) T.zcD.b (zc 0) zex (zet zgZ)))) (fun _ _ _ _=>(zcG (i:=0) (show (["tie"]:List Str).Nodup by decide +kernel) rfl (Or.inl rfl))) (fun _ _ _ _=>zes) (fun _ _ _ _=>(zJ (zpp T) (hr.mono (by decide)) (by rfl) T.zeo T.zc8.F.kp T.zc8.b (ze (zc 0) zo zk))))) (ze (zbB T.ok T.an_turn (zc 0) rfl) zo zdz) zfb) zdz))))
set_option maxHeartbeats 4000000 in
theorem ztu (T:TX K mg):zM P w K mg base CX0 2 T.zdN.a T.zdN.d ["ties", "step"] (spM T.G 2 zeJ) :=
 zbL (k:=1) T.zdN.F zpi rfl rfl (by decide) fun cdv A outer s H E hr =>
     (zr (zZ (i:=2) zpi.nd rfl (Or.inl rfl) (zO hr (zc 0) (zO hr (zc 1) zg (fun _ _=>rfl)) (fun _ _=>rfl)))
     (zC (zS (zir (zbK (zfd hr) (zO hr (zc 1) zg (fun _ _=>rfl)) (zf6 (by rfl) T.v_FORTH.m T.v_FORTH.r) (zba _)) (zc 2) (zJ (zpp T) (hr.mono (by decide)) (by rfl) T.zeo T.zc8.F.kp T.zc8.b (ze (zc 2) zo zk))))))
set_option maxHeartbeats 4000000 in
theorem zpq (T:TX K mg):zM P w K mg base CX0 2 T.zc9.a T.zc9.d ["web"] (spM T.G 1 zeK) :=
 zbL (k:=1) T.zc9.F zs8 rfl rfl (by decide) fun cdv A outer s H E hr =>
     (zC (zS (zbO (zCd (by rfl) T.n_list (by rfl) T.n_range (zdv (by rfl) T.n_len (zeA (c0:=0) (zg7 T.g_Web T.zR.cl T.zf4 (zgJ T) (hr.mono (by decide)) T.zcD.b (zc 0) zex (zet zgZ))) zbe) zbe))))
set_option maxHeartbeats 4000000 in
theorem ztv (T:TX K mg):zM P w K mg base CX0 2 T.zdO.a T.zdO.d ["web", "chosen"] (spM T.G 2 zfQ) :=
 zbL (k:=1) T.zdO.F zhF rfl rfl (by decide) fun cdv A outer s H E hr =>
     (zr (zZ (i:=2) zhF.nd rfl (Or.inl rfl) (zeA (c0:=0) (zg7 T.g_Web T.zR.cl T.zf4 (zgJ T) (hr.mono (by decide)) T.zcD.b (zc 0) zex (zet zgZ))))
     (zr (zBH (j:=3) (N:=["point"]) (js:=[none]) rfl zhF.nd rfl rfl (zbZ.of (osc:=zt zeP) (N0:=["web", "chosen", "ties", "found", "place"]) rfl rfl (by decide +kernel)) (zgT (by rfl) T.n_range (zbB T.ok T.an_points (zc 0) rfl) zdz) (fun _ _ _ _=>(zcG (i:=0) (show (["point"]:List Str).Nodup by decide +kernel) rfl (Or.inl rfl))) (fun _ _ _ _=>zes) (fun _ _ _ _=>(zbO (zem zo))))
     (zr (zgd PassesOwn.never (zeC (zc 1)) (zcG (i:=4) zhF.nd rfl (Or.inl rfl))
     (zr (zfc (zgi (zO hr (zc 3) (zO hr (zO hr (zc 2) (zc 4) (fun _ _=>rfl)) zg (fun _ _=>rfl)) (fun _ _=>rfl)) (zek (ze (zc 4) (ze (zf6 (by rfl) T.v_FORTH.m T.v_FORTH.r) zo zk) zk)) zn5))
     (zC (zfc (zgi (zO hr (zc 3) (zO hr (zO hr (zc 2) (zc 4) (fun _ _=>rfl)) zg (fun _ _=>rfl)) (fun _ _=>rfl)) (zek (ze (zc 4) (ze (zf6 (by rfl) T.v_BACK.m T.v_BACK.r) zo zk) zk)) zn5)))))
     (zC (zS (zc 3))))))
set_option maxHeartbeats 4000000 in
theorem ztw (T:TX K mg):zM P w K mg base CX0 3 T.zdP.a T.zdP.d ["ties", "onward", "start", "arrived"] (spM T.G 4 zfi) :=
 zbL (k:=2) T.zdP.F zf0 rfl rfl (by decide) fun cdv A outer s H E hr =>
     (zr (zgM hr (zc 3) (zc 2) zoR)
     (zr (zZ (i:=4) zf0.nd rfl (Or.inl rfl) (zbO (zem (ze (zc 2) zo zk))))
     (zr (zZ (i:=5) zf0.nd rfl (Or.inl rfl) zg)
     (zC (zrU PassesOwn.never (zbK (zfN hr) (zc 5) (zdv (by rfl) T.n_len (zc 4) zk) (zba _)) (zr (zZ (i:=6) zf0.nd rfl (Or.inl rfl) (zO hr (zc 4) (zc 5) (fun _ _=>rfl)))
     (zr (zgd PassesOwn.never (zeC (zO hr (zc 1) (zc 6) (fun _ _=>rfl))) (zcG (i:=7) zf0.nd rfl (Or.inl rfl))
     (zr (zZ (i:=8) zf0.nd rfl (Or.inl rfl) (zO hr (zJ (ztu T) (hr.mono (by decide)) (by rfl) T.zeJ T.zdN.F.kp T.zdN.b (ze (zc 0) (ze (zc 7) zo zk) zk)) zg (fun _ _=>rfl)))
     (zC (zbF (zbK (zqx hr) (zc 8) (zc 3) (by with_unfolding_all rfl)) (zr (zgM hr (zc 3) (zc 8) (zc 7))
     (zC (zfc (zgi (zc 4) (zc 8) zk)))) zbH))))
     (zC (zqE (i:=5) zf0.nd rfl (Or.inl rfl) zg)))))))))
set_option maxHeartbeats 4000000 in
theorem ziG (T:TX K mg):zM P w K mg base CX0 4 T.zcM.a T.zcM.d ["web", "chosen"] (spM T.G 2 zdI) :=
 zbL (k:=3) T.zcM.F zha rfl rfl (by decide) fun cdv A outer s H E hr =>
     (zr (zZ (i:=2) zha.nd rfl (Or.inl rfl) (zeA (c0:=0) (zg7 T.g_Web T.zR.cl T.zf4 (zgJ T) (hr.mono (by decide)) T.zcD.b (zc 0) zex (zet zgZ))))
     (zr (zZ (i:=3) zha.nd rfl (Or.inl rfl) (zJ (ztv T) (hr.mono (by decide)) (by rfl) T.zfQ T.zdO.F.kp T.zdO.b (ze (zc 0) (ze (zc 1) zo zk) zk)))
     (zr (zZ (i:=4) zha.nd rfl (Or.inl rfl) zBr)
     (zr (zgd PassesOwn.never (zgT (by rfl) T.n_range (zbB T.ok T.an_points (zc 0) rfl) zdz) (zcG (i:=5) zha.nd rfl (Or.inl rfl))
     (zC (zbF (zbK (zqx hr) (zc 5) (zc 4) (by with_unfolding_all rfl)) (zC (zfc (zJ (ztw T) (hr.mono (by decide)) (by rfl) T.zfi T.zdP.F.kp T.zdP.b (ze (zc 2) (ze (zc 3) (ze (zc 5) (ze (zc 4) zo zk) zk) zk) zk)))) zbH)))
     (zC (zS (zc 4)))))))
set_option maxHeartbeats 4000000 in
theorem ztx (T:TX K mg):zM P w K mg base CX0 1 T.zdQ.a T.zdQ.d ["arrived"] (spM T.G 1 zfR) :=
 zbL (k:=0) T.zdQ.F zs9 rfl rfl (by decide) fun cdv A outer s H E hr =>
     (zC (zS (zbO (zx4 hr (by rfl) T.n_sorted (zgn (zBO (N:=["step"]) (js:=[none]) rfl (zbZ.of (osc:=zt zeQ) (N0:=["arrived"]) rfl rfl (by decide +kernel)) (zc 0) (fun _ _ _ _=>(zcG (i:=0) (show (["step"]:List Str).Nodup by decide +kernel) rfl (Or.inl rfl))) (fun _ _ _ _=>(zxH (zbK (zin hr) (zc 0) zoR (zba _)))) (fun _ _ _ _=>(zO hr (zc 0) zg (fun _ _=>rfl))))) zfb))))
set_option maxHeartbeats 4000000 in
theorem ziH (T:TX K mg):zM P w K mg base CX0 1 T.zcN.a T.zcN.d ["web", "arrived"] (spM T.G 2 zdJ) :=
 zbL (k:=0) T.zcN.F zgp rfl rfl (by decide) fun cdv A outer s H E hr =>
     (zr (zZ (i:=2) zgp.nd rfl (Or.inl rfl) (zbO (zr9 (zbO (zem (ze zg zo zG))) (zbB T.ok T.an_points (zc 0) rfl))))
     (zr (zZ (i:=3) zgp.nd rfl (Or.inl rfl) zg)
     (zr (zzb PassesOwn.never (zc 1) (zoO rfl (zgc (i:=4) zgp.nd rfl (Or.inl rfl) (zgc (i:=5) zgp.nd rfl (Or.inl rfl) zoB)))
     (zr (zbF (zbK (zxs hr) (zc 5) zoR (zba _)) (zC (zqE (i:=3) zgp.nd rfl (Or.inl rfl) zg)) zbH)
     (zC (zgM hr (zc 2) (zc 4) (zdy (zc 3) zg)))))
     (zC (zS (zc 2))))))
set_option maxHeartbeats 4000000 in
theorem zty (T:TX K mg):zM P w K mg base CX0 2 T.zdR.a T.zdR.d ["values", "count"] (spM T.G 2 zfS) :=
 zbL (k:=1) T.zdR.F zta rfl rfl (by decide) fun cdv A outer s H E hr =>
     (zC (zS (zg6 (zfe (by rfl) T.n_isinstance (by rfl) T.n_list (zc 0) zk) (zg6 (zfB (zfd hr) (zdv (by rfl) T.n_len (zc 0) zk) (zc 1) (zba _)) (zgV (zn0 (by rfl) T.n_all (zgn (ze0 (N:=["value"]) (js:=[none]) rfl (zbZ.of (osc:=zt zeN) (N0:=["values", "count"]) rfl rfl (by decide +kernel)) (zeC (zc 0)) (fun _ _ _ _=>(zcG (i:=0) (show (["value"]:List Str).Nodup by decide +kernel) rfl (Or.inl rfl))) (fun _ _ _ _=>zes) (fun _ _ _ _=>(zJ (zpn T) (hr.mono (by decide)) (by rfl) T.zen T.zc5.F.kp T.zc5.b (ze (zc 0) zo zk))))) zfb))))))
set_option maxHeartbeats 4000000 in
theorem ztz (T:TX K mg):zM P w K mg base CX0 3 T.zdS.a T.zdS.d ["values", "count"] (spM T.G 2 zfT) :=
 zbL (k:=2) T.zdS.F ztb rfl rfl (by decide) fun cdv A outer s H E hr =>
     (zr (zbF (t_w (zeG (zcS (zck (zfe (by rfl) T.n_isinstance (by rfl) T.n_list (zc 0) zk) (fun _=>rfl))) (ze2 (zcS (zck (zn0 (by rfl) T.n_all (zgn (ze0 (N:=["value", "count"]) (js:=[none,some 1]) rfl (zbZ.of (osc:=zt zep) (N0:=["values", "count"]) rfl rfl (by decide +kernel)) (zeC (zc 0)) (fun _ _ _ _=>(zcG (i:=0) (show (["value", "count"]:List Str).Nodup by decide +kernel) rfl (Or.inl rfl))) (fun _ _ _ _=>zes) (fun _ _ _ _=>(zJ (zhc T) (hr.mono (by decide)) (by rfl) T.zcL T.zcf.F.kp T.zcf.b (ze (zc 0) (ze zg (ze (zdy (zc 1) zg) zo zdB) zG) zk))))) zfb) (fun _=>rfl)))))) (zC (zS zcq)) zbH)
     (zC (zS (zn0 (by rfl) T.n_all (zgn (ze0 (N:=["one", "other"]) (js:=[none,none]) rfl (zbZ.of (osc:=zt zep) (N0:=["values", "count"]) rfl rfl (by decide +kernel)) (zyd (by rfl) T.n_zip (zc 0) (zbO (znQ (zc 0) (zoi zg) zn8)) zk zcs) (fun _ _ _ _=>(zoO rfl (zgc (i:=0) (show (["one", "other"]:List Str).Nodup by decide +kernel) rfl (Or.inl rfl) (zgc (i:=1) (show (["one", "other"]:List Str).Nodup by decide +kernel) rfl (Or.inl rfl) zoB)))) (fun _ _ _ _=>zes) (fun _ _ _ _=>(zfB (zfN hr) (zc 0) (zc 1) (zba _))))) zfb))))
set_option maxHeartbeats 4000000 in
theorem ztA (T:TX K mg):zM P w K mg base CX0 1 T.zdT.a T.zdT.d ["self", "kept", "parts"] (spM T.G 3 zhE) :=
 zbL (k:=0) T.zdT.F ztc rfl rfl (by decide) fun cdv A outer s H E hr =>
     (zr (zhd T.ok T.an_kept (zc 0) (zbO (zoe (by rfl) T.n_list (zfH (zc 1)) zk)) rfl)
     (zC (zhd T.ok T.an_parts (zc 0) (zbO (zoe (by rfl) T.n_list (zfH (zc 2)) zk)) rfl)))
set_option maxHeartbeats 4000000 in
theorem zhH (T:TX K mg):zM P w K mg base CX0 5 T.zc1.a T.zc1.d ["self", "web"] (spM T.G 2 zgo) :=
 zbL (k:=4) T.zc1.F ztd rfl rfl (by decide) fun cdv A outer s H E hr =>
     (zr (zbF (t_w (zeG (zcS (zck (zJ (ztz T) (hr.mono (by decide)) (by rfl) T.zfT T.zdS.F.kp T.zdS.b (ze (zbB T.ok T.an_kept (zc 0) rfl) (ze (zdv (by rfl) T.n_len (zeA (c0:=0) (zg7 T.g_Web T.zR.cl T.zf4 (zgJ T) (hr.mono (by decide)) T.zcD.b (zc 1) zex (zet zgZ))) zbe) zo zbe) zdz)) (fun _=>rfl))) (ze2 (zcS (zck (zJ (zty T) (hr.mono (by decide)) (by rfl) T.zfS T.zdR.F.kp T.zdR.b (ze (zbB T.ok T.an_parts (zc 0) rfl) (ze (zbB T.ok T.an_points (zc 1) rfl) zo zdz) zdz)) (fun _=>rfl)))))) (zC (zS zcq)) zbH)
     (zr (zbF (zbK (zeu hr) (zbB T.ok T.an_parts (zc 0) rfl) (zJ (ziH T) (hr.mono (by decide)) (by rfl) T.zdJ T.zcN.F.kp T.zcN.b (ze (zc 1) (ze (zJ (ziG T) (hr.mono (by decide)) (by rfl) T.zdI T.zcM.F.kp T.zcM.b (ze (zc 1) (ze (zJ (zpq T) (hr.mono (by decide)) (by rfl) T.zeK T.zc9.F.kp T.zc9.b (ze (zc 1) zo zk)) zo zbe) zk)) zo zbe) zk)) (zba _)) (zC (zS zcq)) zbH)
     (zr (zbF (zbK (zeu hr) (zbB T.ok T.an_parts (zc 0) rfl) (zJ (ziH T) (hr.mono (by decide)) (by rfl) T.zdJ T.zcN.F.kp T.zcN.b (ze (zc 1) (ze (zJ (ziG T) (hr.mono (by decide)) (by rfl) T.zdI T.zcM.F.kp T.zcM.b (ze (zc 1) (ze (zbB T.ok T.an_kept (zc 0) rfl) zo zdz) zk)) zo zbe) zk)) (zba _)) (zC (zS zcq)) zbH)
     (zC (zS (zfB (zfd hr) (zdv (by rfl) T.n_len (zbB T.ok T.an_kept (zc 0) rfl) zdz) (zdy (zbB T.ok T.an_points (zc 1) rfl) (zsK (by rfl) T.n_len (by rfl) T.n_set (zfH (zbB T.ok T.an_parts (zc 0) rfl)) zdz)) (zba _)))))))
set_option maxHeartbeats 4000000 in
theorem zpr (T:TX K mg):zM P w K mg base CX0 5 T.zda.a T.zda.d ["web"] (spM T.G 1 zcC) :=
 zbL (k:=4) T.zda.F zpj rfl rfl (by decide) fun cdv A outer s H E hr =>
     (zr (zZ (i:=1) zpj.nd rfl (Or.inl rfl) (zJ (ziG T) (hr.mono (by decide)) (by rfl) T.zdI T.zcM.F.kp T.zcM.b (ze (zc 0) (ze (zJ (zpq T) (hr.mono (by decide)) (by rfl) T.zeK T.zc9.F.kp T.zc9.b (ze (zc 0) zo zk)) zo zbe) zk)))
     (zC (zS (zhL T.g_Fewest T.zpm (ztA T) (hr.mono (by decide)) (by rfl) T.zW.m T.zdT.b (ze (zJ (ztx T) (hr.mono (by decide)) (by rfl) T.zfR T.zdQ.F.kp T.zdQ.b (ze (zc 1) zo zk)) (ze (zJ (ziH T) (hr.mono (by decide)) (by rfl) T.zdJ T.zcN.F.kp T.zcN.b (ze (zc 0) (ze (zc 1) zo zk) zk)) zo zbe) zbe)))))
set_option maxHeartbeats 4000000 in
theorem zgK (T:TX K mg):zM P w K mg base CX0 1 T.zb2.a T.zb2.d ["_law_script", "_law_k"] (spM T.G 2 zcw) :=
 zbL (k:=0) T.zb2.F zte rfl rfl (by decide) fun cdv A outer s H E hr =>
     (zr (zbF (zbK (zfN hr) (zc 1) (zdv (by rfl) T.n_len (zc 0) zk) (zba _)) (zC (zS (zO hr (zc 0) (zc 1) (fun _ _=>rfl)))) zbH)
     (zC (zS zg)))
set_option maxHeartbeats 4000000 in
theorem zdt (T:TX K mg):zM P w K mg base CX0 1 T.z6.a T.z6.d ["_law_cell", "_law_k", "_law_many"] (spM T.G 3 zD) :=
 zbL (k:=0) T.z6.F zpk rfl rfl (by decide) fun cdv A outer s H E hr =>
     (zr (zZ (i:=3) zpk.nd rfl (Or.inl rfl) (zek (ze zg (ze zg (ze zg (ze zg (ze zg (ze zg (ze zg (ze zg (ze zg (ze zg (ze zg (ze zg (ze zg (ze zg (ze zg (ze zg zo zG) zG) zG) zG) zG) zG) zG) zG) zG) zG) zG) zG) zG) zG) zG) zG)))
     (zC (zS (ze9 (ze9 (zcQ (zhn (zc 0) zg) (zhn (zc 1) zg)) (zO hr (zc 3) (ze9 (zc 1) zg) (fun _ _=>rfl))) (zc 2)))))
set_option maxHeartbeats 4000000 in
theorem ztB (T:TX K mg):zM P w K mg base CX0 2 T.zdU.a T.zdU.d ["_law_script"] (spM T.G 1 zfj) :=
 zbL (k:=1) T.zdU.F zcx rfl rfl (by decide) fun cdv A outer s H E hr =>
     (zr (zZ (i:=1) zcx.nd rfl (Or.inl rfl) (ziw (zhn (zdv (by rfl) T.n_len (zc 0) zk) (zO hr (zek (ze zg (ze zg (ze zg zo zG) zG) zG)) (zJ (zdt T) (hr.mono (by decide)) (by rfl) T.zD T.z6.F.kp T.z6.b (ze (zJ (zgK T) (hr.mono (by decide)) (by rfl) T.zcw T.zb2.F.kp T.zb2.b (ze (zc 0) (ze zg zo zG) zk)) (ze zg (ze zg zo zG) zG) zbe)) (fun _ _=>rfl))) zg))
     (zr (zZ (i:=2) zcx.nd rfl (Or.inl rfl) (zcQ zg (zJ (zdt T) (hr.mono (by decide)) (by rfl) T.zD T.z6.F.kp T.z6.b (ze (zJ (zgK T) (hr.mono (by decide)) (by rfl) T.zcw T.zb2.F.kp T.zb2.b (ze (zc 0) (ze zg zo zG) zk)) (ze zg (ze (zcQ zg (zc 1)) zo zdB) zG) zbe))))
     (zr (zZ (i:=3) zcx.nd rfl (Or.inl rfl) (zO hr (zek (ze zg (ze zg (ze zg (ze zg (ze zg (ze zg (ze zg zo zG) zG) zG) zG) zG) zG) zG)) (zJ (zdt T) (hr.mono (by decide)) (by rfl) T.zD T.z6.F.kp T.z6.b (ze (zJ (zgK T) (hr.mono (by decide)) (by rfl) T.zcw T.zb2.F.kp T.zb2.b (ze (zc 0) (ze zg zo zG) zk)) (ze zg (ze zg zo zG) zG) zbe)) (fun _ _=>rfl)))
     (zr (zZ (i:=4) zcx.nd rfl (Or.inl rfl) (zO hr (zek (ze zg (ze zg (ze zg (ze zg zo zG) zG) zG) zG)) (zJ (zdt T) (hr.mono (by decide)) (by rfl) T.zD T.z6.F.kp T.z6.b (ze (zJ (zgK T) (hr.mono (by decide)) (by rfl) T.zcw T.zb2.F.kp T.zb2.b (ze (zc 0) (ze zg zo zG) zk)) (ze zg (ze zg zo zG) zG) zbe)) (fun _ _=>rfl)))
     (zr (zZ (i:=5) zcx.nd rfl (Or.inl rfl) (zO hr (zek (ze zg (ze zg (ze zg (ze zg zo zG) zG) zG) zG)) (zJ (zdt T) (hr.mono (by decide)) (by rfl) T.zD T.z6.F.kp T.z6.b (ze (zJ (zgK T) (hr.mono (by decide)) (by rfl) T.zcw T.zb2.F.kp T.zb2.b (ze (zc 0) (ze zg zo zG) zk)) (ze zg (ze zg zo zG) zG) zbe)) (fun _ _=>rfl)))
     (zr (zZ (i:=6) zcx.nd rfl (Or.inl rfl) (zg6 (zfB (zo2 hr) (zc 2) zg (zba _)) (zgV (zfB (zfd hr) (zJ (zdt T) (hr.mono (by decide)) (by rfl) T.zD T.z6.F.kp T.z6.b (ze (zJ (zgK T) (hr.mono (by decide)) (by rfl) T.zcw T.zb2.F.kp T.zb2.b (ze (zc 0) (ze zg zo zG) zk)) (ze zg (ze zg zo zG) zG) zbe)) zg (zba _)))))
     (zr (zZ (i:=7) zcx.nd rfl (Or.inl rfl) (zbO (zem zo)))
     (zr (zgd PassesOwn.never (zgT (by rfl) T.n_range (zdv (by rfl) T.n_len (zc 0) zk) zbe) (zcG (i:=8) zcx.nd rfl (Or.inl rfl))
     (zr (zZ (i:=9) zcx.nd rfl (Or.inl rfl) (zJ (zdt T) (hr.mono (by decide)) (by rfl) T.zD T.z6.F.kp T.z6.b (ze (zO hr (zc 0) (zc 8) (fun _ _=>rfl)) (ze (zcQ (ze9 (zc 8) zg) zg) (ze (zc 2) zo zk) zdB) zcs)))
     (zr (zZ (i:=10) zcx.nd rfl (Or.inl rfl) (ze9 (zcQ (zcQ (zc 9) zg) (zJ (zdt T) (hr.mono (by decide)) (by rfl) T.zD T.z6.F.kp T.z6.b (ze (zO hr (zc 0) (zc 8) (fun _ _=>rfl)) (ze (zcQ (ze9 (zc 8) zg) zg) (ze (zdy (zc 2) zg) zo zdB) zdB) zcs))) (zc 2)))
     (zr (zbF (zck (zc 6) (fun _=>rfl)) (zr (zZ (i:=11) zcx.nd rfl (Or.inl rfl) (zir (zbK (zfN hr) (zc 9) (ziw (zc 2) zg) (zba _)) zg (ziw (zc 2) zg)))
     (zr (zZ (i:=12) zcx.nd rfl (Or.inl rfl) (zir (zbK (zfd hr) (zc 11) zg (zba _)) (ziw (zc 2) zg) (zdy (zc 2) (zc 11))))
     (zr (zZ (i:=13) zcx.nd rfl (Or.inl rfl) (zcQ zg (zJ (zdt T) (hr.mono (by decide)) (by rfl) T.zD T.z6.F.kp T.z6.b (ze (zO hr (zc 0) (zc 8) (fun _ _=>rfl)) (ze (zcQ (ze9 (zc 8) zg) zg) (ze (zdy (zc 12) zg) zo zdB) zdB) zcs))))
     (zC (zZ (i:=10) zcx.nd rfl (Or.inl rfl) (zcQ (zc 11) (ze9 (zcQ (zdy (zc 9) (zc 11)) (zc 13)) (zc 12)))))))) zbH)
     (zr (zZ (i:=14) zcx.nd rfl (Or.inl rfl) (zdy (zJ (zdt T) (hr.mono (by decide)) (by rfl) T.zD T.z6.F.kp T.z6.b (ze (zhn (zc 10) zg) (ze zg (ze (zc 4) zo zk) zG) zdB)) (zJ (zdt T) (hr.mono (by decide)) (by rfl) T.zD T.z6.F.kp T.z6.b (ze (zhn (zc 9) zg) (ze zg (ze (zc 4) zo zk) zG) zdB))))
     (zr (zbF (t_w (zpg (zbK (zo2 hr) (zc 5) zg (zba _)) (zsE (zbK (zfd hr) (zJ (zdt T) (hr.mono (by decide)) (by rfl) T.zD T.z6.F.kp T.z6.b (ze (zO hr (zc 0) (zc 8) (fun _ _=>rfl)) (ze (zcQ (ze9 (zc 8) zg) zg) (ze (zc 5) zo zk) zdB) zcs)) zg (zba _))))) (zC (zZ (i:=14) zcx.nd rfl (Or.inl rfl) (zcQ (zc 14) zg))) zbH)
     (zr (zbF (t_w (zpg (zbK (zo2 hr) (zc 3) zg (zba _)) (zpg (zbK (zfd hr) (zJ (zdt T) (hr.mono (by decide)) (by rfl) T.zD T.z6.F.kp T.z6.b (ze (zO hr (zc 0) (zc 8) (fun _ _=>rfl)) (ze zg (ze zg zo zG) zG) zcs)) zg (zba _)) (zsE (zbK (zfN hr) (zcQ (zx9 (by rfl) T.n_abs (zc 14) zk) (zc 3)) zg (zba _)))))) (zC (zZ (i:=14) zcx.nd rfl (Or.inl rfl) (zdy (zc 14) (zc 3)))) zbH)
     (zC (zfc (zgi (zc 7) (zek (ze (zc 9) (ze (zc 10) (ze (zc 14) zo zk) zk) zk)) zn5))))))))))
     (zC (zS (zek (ze (zc 2) (ze (zc 7) (ze (zc 3) zo zk) zk) zk))))))))))))
set_option maxHeartbeats 4000000 in
theorem ztC (T:TX K mg):zM P w K mg base CX0 1 T.zdV.a T.zdV.d ["_law_found"] (spM T.G 1 zed) :=
 zbL (k:=0) T.zdV.F ztf rfl rfl (by decide) fun cdv A outer s H E hr =>
     (zr (zbF (zcS (zck (zfe (by rfl) T.n_isinstance (by rfl) T.n_list (zc 0) zk) (fun _=>rfl))) (zC (zS zcq)) zbH)
     (zC (zS (zhR (zoJ (by rfl) T.n_any (zgn (ze0 (N:=["_law_one"]) (js:=[none]) rfl (zbZ.of (osc:=zt zf1) (N0:=["_law_found"]) rfl rfl (by decide +kernel)) (zeC (zc 0)) (fun _ _ _ _=>(zcG (i:=0) (show (["_law_one"]:List Str).Nodup by decide +kernel) rfl (Or.inl rfl))) (fun _ _ _ _=>zes) (fun _ _ _ _=>(zx5 (zfe (by rfl) T.n_isinstance (by rfl) T.n_bool (zc 0) zk) (zgV (zhR (zfe (by rfl) T.n_isinstance (by rfl) T.n_int (zc 0) zk))))))) zfb)))))
set_option maxHeartbeats 4000000 in
theorem zps (T:TX K mg):zM P w K mg base CX0 1 T.zdb.a T.zdb.d ["_law_points", "_law_ties"] (spM T.G 2 zeL) :=
 zbL (k:=0) T.zdb.F zf3 rfl rfl (by decide) fun cdv A outer s H E hr =>
     (zr (zxu (i:=2) (j:=3) (k:=4) zf3.nd rfl rfl rfl (ze (zbO (ze0 (N:=["_law_point"]) (js:=[none]) rfl (zbZ.of (osc:=zt zf2) (N0:=["_law_points", "_law_ties", "_law_near", "_law_found", "_law_many", "_law_tie", "_law_point", "_law_left", "_law_now"]) rfl rfl (by decide +kernel)) (zgT (by rfl) T.n_range (zc 0) zk) (fun _ _ _ _=>(zcG (i:=0) (show (["_law_point"]:List Str).Nodup by decide +kernel) rfl (Or.inl rfl))) (fun _ _ _ _=>zes) (fun _ _ _ _=>(zbO (zem zo))))) (ze (zbO (zr9 (zbO (zem (ze (zfg zg) zo zoT))) (zc 0))) (ze zg zo zG) zdB) zfb))
     (zr (zgd PassesOwn.never (zeC (zc 1)) (zcG (i:=5) zf3.nd rfl (Or.inl rfl))
     (zr (zfc (zgi (zO hr (zc 2) (zO hr (zc 5) zg (fun _ _=>rfl)) (fun _ _=>rfl)) (zO hr (zc 5) zg (fun _ _=>rfl)) zcs))
     (zC (zfc (zgi (zO hr (zc 2) (zO hr (zc 5) zg (fun _ _=>rfl)) (fun _ _=>rfl)) (zO hr (zc 5) zg (fun _ _=>rfl)) zcs)))))
     (zr (zgd PassesOwn.never (zgT (by rfl) T.n_range (zc 0) zk) (zcG (i:=6) zf3.nd rfl (Or.inl rfl))
     (zr (zZ (i:=7) zf3.nd rfl (Or.inl rfl) (zir (zbK (zfN hr) (zO hr (zc 3) (zc 6) (fun _ _=>rfl)) zg (zba _)) (zbO (zem (ze (zc 6) zo zk))) (zbO (zem zo))))
     (zr (zZ (i:=4) zf3.nd rfl (Or.inl rfl) (zcQ (zc 4) (zdv (by rfl) T.n_len (zc 7) zk)))
     (zC (zrU PassesOwn.never (zbK (zeu hr) (zc 7) (zbO (zem zo)) (zba _)) (zr (zZ (i:=8) zf3.nd rfl (Or.inl rfl) (zCZ (zc 7)))
     (zC (zbF (zbK (zfN hr) (zO hr (zc 3) (zc 8) (fun _ _=>rfl)) zg (zba _)) (zr (zgM hr (zc 3) (zc 8) (zdy (zc 4) zg))
     (zC (zfc (zzY (zc 7) (zO hr (zc 2) (zc 8) (fun _ _=>rfl)) zcs)))) zbH))))))))
     (zC (zS (zc 3))))))
set_option maxHeartbeats 4000000 in
theorem zpt (T:TX K mg):zM P w K mg base CX0 2 T.zdc.a T.zdc.d ["_law_points", "_law_ties", "_law_found"] (spM T.G 3 zcm) :=
 zbL (k:=1) T.zdc.F zpl rfl rfl (by decide) fun cdv A outer s H E hr =>
     (zr (zZ (i:=3) zpl.nd rfl (Or.inl rfl) (zJ (zps T) (hr.mono (by decide)) (by rfl) T.zeL T.zdb.F.kp T.zdb.b (ze (zc 0) (ze (zc 1) zo zk) zk)))
     (zr (zbF (t_w (zeG (zbK (zeu hr) (zbB T.ok T.an_parts (zc 2) rfl) (zc 3) (zba _)) (ze2 (zbK (zeu hr) (zbB T.ok T.an_kept (zc 2) rfl) (zbO (zBn hr (by rfl) T.n_sorted (by rfl) T.n_set (zfH (zbB T.ok T.an_kept (zc 2) rfl)) zdz)) (zba _))))) (zC (zS zcq)) zbH)
     (zr (zbF (t_w (zeG (zck (zoJ (by rfl) T.n_any (zgn (ze0 (N:=["_law_tie", "_law_ties"]) (js:=[none,some 1]) rfl (zbZ.of (osc:=zt zfp) (N0:=["_law_points", "_law_ties", "_law_found", "_law_parts_here"]) rfl rfl (by decide +kernel)) (zeC (zbB T.ok T.an_kept (zc 2) rfl)) (fun _ _ _ _=>(zcG (i:=0) (show (["_law_tie", "_law_ties"]:List Str).Nodup by decide +kernel) rfl (Or.inl rfl))) (fun _ _ _ _=>zes) (fun _ _ _ _=>(zhR (zsd (zoU hr) (zfN hr) zg (zc 0) (zdv (by rfl) T.n_len (zc 1) zk)))))) zfb) (fun _=>rfl)) (ze2 (zbK (zeu hr) (zdv (by rfl) T.n_len (zbB T.ok T.an_kept (zc 2) rfl) zdz) (zdy (zc 0) (zsK (by rfl) T.n_len (by rfl) T.n_set (zfH (zc 3)) zk)) (zba _))))) (zC (zS zcq)) zbH)
     (zC (zS (zfB (zfd hr) (zJ (zps T) (hr.mono (by decide)) (by rfl) T.zeL T.zdb.F.kp T.zdb.b (ze (zc 0) (ze (zbO (ze0 (N:=["_law_tie", "_law_ties"]) (js:=[none,some 1]) rfl (zbZ.of (osc:=zt zfp) (N0:=["_law_points", "_law_ties", "_law_found", "_law_parts_here"]) rfl rfl (by decide +kernel)) (zeC (zbB T.ok T.an_kept (zc 2) rfl)) (fun _ _ _ _=>(zcG (i:=0) (show (["_law_tie", "_law_ties"]:List Str).Nodup by decide +kernel) rfl (Or.inl rfl))) (fun _ _ _ _=>zes) (fun _ _ _ _=>(zO hr (zc 1) (zc 0) (fun _ _=>rfl))))) zo zfb) zk)) (zc 3) (zba _)))))))
set_option maxHeartbeats 4000000 in
theorem ztD (T:TX K mg):zM P w K mg base CX0 9 T.zdd.a T.zdd.d ["_law_script"] (spM T.G 1 zg9) :=
 zbL (k:=8) T.zdd.F zeT rfl rfl (by decide) fun cdv A outer s H E hr =>
     (zr (zCW (zJ (ztB T) (hr.mono (by decide)) (by rfl) T.zfj T.zdU.F.kp T.zdU.b (ze (zc 0) zo zk)) (zoO rfl (zgc (i:=1) zeT.nd rfl (Or.inl rfl) (zgc (i:=2) zeT.nd rfl (Or.inl rfl) (zgc (i:=3) zeT.nd rfl (Or.inl rfl) zoB)))))
     (zr (zZ (i:=4) zeT.nd rfl (Or.inl rfl) (zhL T.g_Web T.zhG (ziF T) (hr.mono (by decide)) (by rfl) T.zR.m T.zc7.b (ze (zc 1) (ze (zc 2) (ze (zc 3) zo zk) zk) zk)))
     (zr (zgd PassesOwn.never (zgT (by rfl) T.n_range zg zG) (zcG (i:=5) zeT.nd rfl (Or.inl rfl))
     (zr (zZ (i:=6) zeT.nd rfl (Or.inl rfl) (zJ (zpr T) (hr.mono (by decide)) (by rfl) T.zcC T.zda.F.kp T.zda.b (ze (zc 4) zo zk)))
     (zr (zbF (t_w (zeG (zcS (zck (zez T.ok T.g_Answer (by rfl) T.n_isinstance (by rfl) T.zbC.m (zc 6) zk) (fun _=>rfl))) (ze2 (zcS (zck (zez T.ok T.g_Fewest (by rfl) T.n_isinstance (by rfl) T.zW.m (zc 6) zk) (fun _=>rfl)))))) (zC (zS zcq)) zbH)
     (zr (zZ (i:=7) zeT.nd rfl (Or.inl rfl) (zbO (zem (ze (zez T.ok T.g_Heights (by rfl) T.n_isinstance (by rfl) T.zbs.m (zc 6) zk) (ze (zez T.ok T.g_Ring (by rfl) T.n_isinstance (by rfl) T.zbt.m (zc 6) zk) (ze (zez T.ok T.g_Way (by rfl) T.n_isinstance (by rfl) T.zbv.m (zc 6) zk) (ze (zez T.ok T.g_Apart (by rfl) T.n_isinstance (by rfl) T.zbw.m (zc 6) zk) zo zbe) zbe) zbe) zbe))))
     (zr (zZ (i:=7) zeT.nd rfl (Or.inl rfl) (zbO (zqB (zc 7) (zgn (zem (ze (zez T.ok T.g_Around (by rfl) T.n_isinstance (by rfl) T.zbx.m (zc 6) zk) (ze (zez T.ok T.g_Held (by rfl) T.n_isinstance (by rfl) T.zby.m (zc 6) zk) (ze (zez T.ok T.g_Camps (by rfl) T.n_isinstance (by rfl) T.zbu.m (zc 6) zk) zo zbe) zbe) zbe))))))
     (zr (zbF (t_w (zeG (zck (zoJ (by rfl) T.n_any (zfH (zc 7)) zk) (fun _=>rfl)) (zeG (zck (zez T.ok T.g_Quarrel (by rfl) T.n_isinstance (by rfl) T.zbk.m (zc 6) zk) (fun _=>rfl)) (ze2 (zcS (zck (zJ (ztC T) (hr.mono (by decide)) (by rfl) T.zed T.zdV.F.kp T.zdV.b (ze (zbO (zqB (zbB T.ok T.an_kept (zc 6) rfl) (zfH (zbB T.ok T.an_parts (zc 6) rfl)))) zo zdB)) (fun _=>rfl))))))) (zC (zS zcq)) zbH)
     (zr (zbF (t_w (zeG (zcS (zck (zJ (zpt T) (hr.mono (by decide)) (by rfl) T.zcm T.zdc.F.kp T.zdc.b (ze (zc 1) (ze (zc 2) (ze (zc 6) zo zk) zk) zk)) (fun _=>rfl))) (ze2 (zbK (zin hr) (zeA (c0:=4) (zif T.g_Fewest T.zW.cl T.zhb (zhH T) (hr.mono (by decide)) T.zc1.b (zc 6) (ze (zc 4) zo zk) zex (zet zic))) zcq (zba _))))) (zC (zS zcq)) zbH)
     (zr (zbF (zbK (zeu hr) (zbB T.ok T.an_parts (zJ (zpr T) (hr.mono (by decide)) (by rfl) T.zcC T.zda.F.kp T.zda.b (ze (zJ (ztt T) (hr.mono (by decide)) (by rfl) T.zec T.zdM.F.kp T.zdM.b (ze (zc 4) zo zk)) zo zbe)) rfl) (zbB T.ok T.an_parts (zc 6) rfl) (zba _)) (zC (zS zcq)) zbH)
     (zr (zbF (zbK (zeu hr) (zeA (c0:=4) (zif T.g_Fewest T.zW.cl T.zhb (zhH T) (hr.mono (by decide)) T.zc1.b (zc 6) (ze (zhL T.g_Web T.zhG (ziF T) (hr.mono (by decide)) (by rfl) T.zR.m T.zc7.b (ze (zc 1) (ze (zbO (znQ (zc 2) zn8 (zoi (zfg zg)))) (ze (zc 3) zo zk) zcs) zk)) zo zbe) zex (zet zic))) (zJ (zpt T) (hr.mono (by decide)) (by rfl) T.zcm T.zdc.F.kp T.zdc.b (ze (zc 1) (ze (zbO (znQ (zc 2) zn8 (zoi (zfg zg)))) (ze (zc 6) zo zk) zcs) zk)) (zba _)) (zC (zS zcq)) zbH)
     (zr (zgM hr (zbB T.ok T.an_parts (zc 6) rfl) (zfg zg) (zcQ (zO hr (zbB T.ok T.an_parts (zc 6) rfl) (zfg zg) (fun _ _=>rfl)) zg))
     (zr (zbF (zbK (zin hr) (zeA (c0:=4) (zif T.g_Fewest T.zW.cl T.zhb (zhH T) (hr.mono (by decide)) T.zc1.b (zc 6) (ze (zc 4) zo zk) zex (zet zic))) zcq (zba _)) (zC (zS zcq)) zbH)
     (zr (zgM hr (zbB T.ok T.an_parts (zc 6) rfl) (zfg zg) (zdy (zO hr (zbB T.ok T.an_parts (zc 6) rfl) (zfg zg) (fun _ _=>rfl)) zg))
     (zr (zfc (zgi (zbB T.ok T.an_kept (zc 6) rfl) (zdv (by rfl) T.n_len (zc 2) zk) zbe))
     (zC (zbF (zbK (zin hr) (zeA (c0:=4) (zif T.g_Fewest T.zW.cl T.zhb (zhH T) (hr.mono (by decide)) T.zc1.b (zc 6) (ze (zc 4) zo zk) zex (zet zic))) zcq (zba _)) (zC (zS zcq)) zbH)))))))))))))))
     (zC (zS (zfB (zfd hr) (zeA (c0:=0) (zg7 T.g_Web T.zR.cl T.zf4 (zgJ T) (hr.mono (by decide)) T.zcD.b (zc 4) zex (zet zgZ))) (zc 2) (zba _)))))))
end
end My
end
def PySem.W.Fast.tw5602380015843604296:=0
def PySem.W.Fast.tw11646135115458871738:=0
def PySem.W.Fast.tw15310201099313016062:=0
def PySem.W.Fast.tw17152236103418242759:=0
def PySem.W.Fast.tw16819940830129109963:=0
def PySem.W.Fast.tw11551179188892215679:=0
def PySem.W.Fast.tw9772643398840135946:=0
def PySem.W.Fast.tw13738575458503190469:=0
def PySem.W.Fast.tw16411070324345536801:=0
def PySem.W.Fast.tw11341089824810468227:=0
def PySem.W.Fast.tw13034418050425586581:=0
def PySem.W.Fast.tw1533247006228951115:=0
def PySem.W.Fast.tw6909425214922076852:=0
def PySem.W.Fast.tw9414107271809779863:=0
def PySem.W.Fast.tw200165777284081988:=0
def PySem.W.Fast.tw7266529465066628041:=0
def PySem.W.Fast.tw12984221008076149307:=0
def PySem.W.Fast.tw30272158163351068:=0
def PySem.W.Fast.tw2295626934312220574:=0
def PySem.W.Fast.tw2220492028068521154:=0
def PySem.W.Fast.tw12475199877414838647:=0
def PySem.W.Fast.tw5605682151829477629:=0
def PySem.W.Fast.tw13169239935698443618:=0
def PySem.W.Fast.tw2589027872007138193:=0
def PySem.W.Fast.tw4762416949367836402:=0
def PySem.W.Fast.tw5941422493428819838:=0
def PySem.W.Fast.tw671463002081714177:=0
def PySem.W.Fast.tw4992209941969214431:=0
def PySem.W.Fast.tw13462148422644842153:=0
def PySem.W.Fast.tw9914093046898036735:=0
def PySem.W.Fast.tw8717667549940617162:=0
def PySem.W.Fast.tw8690684011177259346:=0
def PySem.W.Fast.tw52597808492375501:=0
def PySem.W.Fast.tw15138040688088679827:=0
def PySem.W.Fast.tw1528722838920067951:=0
def PySem.W.Fast.tw17194627039979408444:=0
def PySem.W.Fast.tw4842718424801222854:=0
def PySem.W.Fast.tw4674686919683274693:=0
def PySem.W.Fast.tw6810245101813144119:=0
def PySem.W.Fast.tw6005881820393201215:=0
def PySem.W.Fast.tw3076252901077639234:=0
def PySem.W.Fast.tw11160730007856156286:=0
def PySem.W.Fast.tw11368256715355969325:=0
def PySem.W.Fast.tw16709855574010824675:=0
def PySem.W.Fast.tw10289874794796068517:=0
def PySem.W.Fast.tw10348428809281629835:=0
def PySem.W.Fast.tw6425044349729026734:=0
def PySem.W.Fast.tw118955162174669833:=0
def PySem.W.Fast.tw18226553355737122472:=0
def PySem.W.Fast.tw1307782356373361455:=0
def PySem.W.Fast.tw4378898340992766772:=0
def PySem.W.Fast.tw11334048464692557191:=0
def PySem.W.Fast.tw8610434384944195027:=0
def PySem.W.Fast.tw18163790313977507257:=0
def PySem.W.Fast.tw16611540943531027822:=0
def PySem.W.Fast.tw18053732254206129120:=0
def PySem.W.Fast.tw4059402934730139299:=0
def PySem.W.Fast.tw4957228672324861532:=0
def PySem.W.Fast.tw15728140160256286874:=0
open PySem L2 MI
namespace My
theorem zxX {P:Program}{w:World}{K:PySem.W.Frag}{mg:Str->Option Value}{base:Heap} (T:TX K mg):zM P w K mg base CX0 9 T.zdd.a T.zdd.d ["_law_script"] (zgL K):=(ztD T).imp fun vs H Q E h=>zxg (G:=T.G) Mx.law_true vs H Q E h
set_option maxHeartbeats 0 in
theorem all_mk {l:PySem.W.OpenLaw}{w:World}{K:PySem.W.Frag}{h:Heap}{mg:Str->Option Value}{fa:Addr} (X:K.In h) (G:h.Ns mainGlobals mg) (hfa:mg "law" = some (.ref fa))
   {zc5 zcf zc6 zdK zdL zc7 zcD zc8 zdM zdN zc9 zdO zdP zcM zdQ zcN zdR zdS zdT zc1 zda zb2 z6 zdU zdV zdb zdc zdd zX zbz zbl zbm z7 zbn zbh zbo zbp zbq zbr:Addr}
   {ztE ztF ztG ztH ztI ztJ ztK ztL ztM ztN ztO ztP ztQ ztR ztS ztT ztU ztV ztW ztX ztY ztZ zt0 zt1 zt2 zt3 zt4 zt5 zt6 zt7 zt8 zt9 zua zub zuc zud zue zuf zug zuh zui zuj zuk zul zum zun zuo zup zuq zur zus zut zuu zuv zuw zux:Option Addr} {zuy zuz zuA zuB zuC zuD zuE zuF zuG zuH zuI zuJ zuK zuL zuM zuN zuO zuP zuQ zuR zuS zuT zuU zuV zuW zuX zuY zuZ:Array (Option Value)} {zu0 zu1 zu2 zu3 zpu zu4 zu5 zu6 zu7 zu8 zpv zu9 zva zvb zvc zvd zpw zve zvf zvg zvh zvi zpx zvj zvk zvl zvm zvn zpy zvo zvp zvq zvr zvs zpz zvt zvu zvv zvw zvx zpA zvy zvz zvA zvB zvC zpB zvD zvE zvF zvG zvH zpC zvI zvJ zvK zvL zvM zpD zvN zvO zvP zvQ zvR zpE zvS zvT zvU zvV zvW zpF zvX zvY zvZ zv0 zv1 zpG zv2 zv3 zv4 zv5 zv6 zpH zv7 zv8 zv9 zwa zwb zpI zwc zwd zwe zwf zwg zpJ zwh zwi zwj zwk zwl zpK zwm zwn zwo zwp zwq zpL zwr zws zwt zwu zwv zpM zww zwx zwy zwz zwA zpN zwB zwC zwD zwE zwF zpO zwG zwH zwI zwJ zwK zpP zwL zwM zwN zwO zwP zpQ zwQ zwR zwS zwT zwU zpR zwV zwW zwX zwY zwZ zpS zw0 zw1 zw2 zw3 zw4 zpT zw5 zw6 zw7 zw8 zw9 zpU zxa zxb zxc zxd zxe zpV zxf:Value}
   {tk_MOST tk_FORTH tk_BACK:Tok}
   (ziI:PySem.W.nsIn K mainGlobals "is_number" = some (some (.ref zc5)))
   (ziJ:K.lookup zc5=some ⟨zu0,ztE,.func (PySem.W.fnOf "is_number" "is_number" (zbi zfU) (zbc zfU) (zt zfU) .none zu1 zu2 zu3 ztF zpu zu4),zuy⟩)
   (ziK:PySem.W.codeIn K zpu "is_number" = true)
   (ziL:PySem.W.keepIn K (.ref zc5)=true)
   (ziM:PySem.W.nsIn K mainGlobals "is_within" = some (some (.ref zcf)))
   (ziN:K.lookup zcf=some ⟨zu5,ztG,.func (PySem.W.fnOf "is_within" "is_within" (zbi zfV) (zbc zfV) (zt zfV) .none zu6 zu7 zu8 ztH zpv zu9),zuz⟩)
   (ziO:PySem.W.codeIn K zpv "is_within" = true)
   (ziP:PySem.W.keepIn K (.ref zcf)=true)
   (ziQ:PySem.W.nsIn K mainGlobals "is_point" = some (some (.ref zc6)))
   (ziR:K.lookup zc6=some ⟨zva,ztI,.func (PySem.W.fnOf "is_point" "is_point" (zbi zfW) (zbc zfW) (zt zfW) .none zvb zvc zvd ztJ zpw zve),zuA⟩)
   (ziS:PySem.W.codeIn K zpw "is_point" = true)
   (ziT:PySem.W.keepIn K (.ref zc6)=true)
   (ziU:PySem.W.nsIn K mainGlobals "is_tie" = some (some (.ref zdK)))
   (ziV:K.lookup zdK=some ⟨zvf,ztK,.func (PySem.W.fnOf "is_tie" "is_tie" (zbi zfX) (zbc zfX) (zt zfX) .none zvg zvh zvi ztL zpx zvj),zuB⟩)
   (ziW:PySem.W.codeIn K zpx "is_tie" = true)
   (ziX:PySem.W.keepIn K (.ref zdK)=true)
   (ziY:PySem.W.nsIn K mainGlobals "own_tie" = some (some (.ref zdL)))
   (ziZ:K.lookup zdL=some ⟨zvk,ztM,.func (PySem.W.fnOf "own_tie" "own_tie" (zbi zfk) (zbc zfk) (zt zfk) .none zvl zvm zvn ztN zpy zvo),zuC⟩)
   (zi0:PySem.W.codeIn K zpy "own_tie" = true)
   (zi1:PySem.W.keepIn K (.ref zdL)=true)
   (zi2:PySem.W.findIn K (.ref zX) "__init__" = some (some (.ref zc7)))
   (zi3:PySem.W.isFn K (.ref zc7)=true)
   (zi4:K.lookup zc7=some ⟨zvp,ztO,.func (PySem.W.fnOf "__init__" "Web.__init__" (zbi zfZ) (zbc zfZ) (zt zfZ) .none zvq zvr zvs ztP zpz zvt),zuD⟩)
   (zi5:PySem.W.codeIn K zpz "Web.__init__" = true)
   (zi6:PySem.W.keepIn K (.ref zc7)=true)
   (zi7:PySem.W.findIn K (.ref zX) "ties" = some (some (.ref zcD)))
   (zi8:PySem.W.isFn K (.ref zcD)=true)
   (zi9:K.lookup zcD=some ⟨zvu,ztQ,.func (PySem.W.fnOf "ties" "Web.ties" (zbi zds) (zbc zds) (zt zds) .none zvv zvw zvx ztR zpA zvy),zuE⟩)
   (zja:PySem.W.codeIn K zpA "Web.ties" = true)
   (zhI:PySem.W.keepIn K (.ref zcD)=true)
   (zjb:PySem.W.nsIn K mainGlobals "turned" = some (some (.ref zc8)))
   (zjc:K.lookup zc8=some ⟨zvz,ztS,.func (PySem.W.fnOf "turned" "turned" (zbi zfY) (zbc zfY) (zt zfY) .none zvA zvB zvC ztT zpB zvD),zuF⟩)
   (zjd:PySem.W.codeIn K zpB "turned" = true)
   (zje:PySem.W.keepIn K (.ref zc8)=true)
   (zjf:PySem.W.nsIn K mainGlobals "about" = some (some (.ref zdM)))
   (zjg:K.lookup zdM=some ⟨zvE,ztU,.func (PySem.W.fnOf "about" "about" (zbi zeM) (zbc zeM) (zt zeM) .none zvF zvG zvH ztV zpC zvI),zuG⟩)
   (zjh:PySem.W.codeIn K zpC "about" = true)
   (zji:PySem.W.keepIn K (.ref zdM)=true)
   (zjj:PySem.W.nsIn K mainGlobals "leg" = some (some (.ref zdN)))
   (zjk:K.lookup zdN=some ⟨zvJ,ztW,.func (PySem.W.fnOf "leg" "leg" (zbi zfl) (zbc zfl) (zt zfl) .none zvK zvL zvM ztX zpD zvN),zuH⟩)
   (zjl:PySem.W.codeIn K zpD "leg" = true)
   (zjm:PySem.W.keepIn K (.ref zdN)=true)
   (zjn:PySem.W.nsIn K mainGlobals "every_tie" = some (some (.ref zc9)))
   (zjo:K.lookup zc9=some ⟨zvO,ztY,.func (PySem.W.fnOf "every_tie" "every_tie" (zbi zeO) (zbc zeO) (zt zeO) .none zvP zvQ zvR ztZ zpE zvS),zuI⟩)
   (zjp:PySem.W.codeIn K zpE "every_tie" = true)
   (zjq:PySem.W.keepIn K (.ref zc9)=true)
   (zjr:PySem.W.nsIn K mainGlobals "steps_from" = some (some (.ref zdO)))
   (zjs:K.lookup zdO=some ⟨zvT,zt0,.func (PySem.W.fnOf "steps_from" "steps_from" (zbi zeP) (zbc zeP) (zt zeP) .none zvU zvV zvW zt1 zpF zvX),zuJ⟩)
   (zjt:PySem.W.codeIn K zpF "steps_from" = true)
   (zju:PySem.W.keepIn K (.ref zdO)=true)
   (zjv:PySem.W.nsIn K mainGlobals "spread" = some (some (.ref zdP)))
   (zjw:K.lookup zdP=some ⟨zvY,zt2,.func (PySem.W.fnOf "spread" "spread" (zbi zfm) (zbc zfm) (zt zfm) .none zvZ zv0 zv1 zt3 zpG zv2),zuK⟩)
   (zjx:PySem.W.codeIn K zpG "spread" = true)
   (zjy:PySem.W.keepIn K (.ref zdP)=true)
   (zjz:PySem.W.nsIn K mainGlobals "reach_all" = some (some (.ref zcM)))
   (zjA:K.lookup zcM=some ⟨zv3,zt4,.func (PySem.W.fnOf "reach_all" "reach_all" (zbi zfn) (zbc zfn) (zt zfn) .none zv4 zv5 zv6 zt5 zpH zv7),zuL⟩)
   (zjB:PySem.W.codeIn K zpH "reach_all" = true)
   (zjC:PySem.W.keepIn K (.ref zcM)=true)
   (zjD:PySem.W.nsIn K mainGlobals "ties_taken" = some (some (.ref zdQ)))
   (zjE:K.lookup zdQ=some ⟨zv8,zt6,.func (PySem.W.fnOf "ties_taken" "ties_taken" (zbi zeQ) (zbc zeQ) (zt zeQ) .none zv9 zwa zwb zt7 zpI zwc),zuM⟩)
   (zjF:PySem.W.codeIn K zpI "ties_taken" = true)
   (zjG:PySem.W.keepIn K (.ref zdQ)=true)
   (zjH:PySem.W.nsIn K mainGlobals "part_numbers" = some (some (.ref zcN)))
   (zjI:K.lookup zcN=some ⟨zwd,zt8,.func (PySem.W.fnOf "part_numbers" "part_numbers" (zbi zeR) (zbc zeR) (zt zeR) .none zwe zwf zwg zt9 zpJ zwh),zuN⟩)
   (zjJ:PySem.W.codeIn K zpJ "part_numbers" = true)
   (zjK:PySem.W.keepIn K (.ref zcN)=true)
   (zjL:PySem.W.nsIn K mainGlobals "are_numbers" = some (some (.ref zdR)))
   (zjM:K.lookup zdR=some ⟨zwi,zua,.func (PySem.W.fnOf "are_numbers" "are_numbers" (zbi zeN) (zbc zeN) (zt zeN) .none zwj zwk zwl zub zpK zwm),zuO⟩)
   (zjN:PySem.W.codeIn K zpK "are_numbers" = true)
   (zjO:PySem.W.keepIn K (.ref zdR)=true)
   (zjP:PySem.W.nsIn K mainGlobals "are_rising" = some (some (.ref zdS)))
   (zjQ:K.lookup zdS=some ⟨zwn,zuc,.func (PySem.W.fnOf "are_rising" "are_rising" (zbi zep) (zbc zep) (zt zep) .none zwo zwp zwq zud zpL zwr),zuP⟩)
   (zjR:PySem.W.codeIn K zpL "are_rising" = true)
   (zjS:PySem.W.keepIn K (.ref zdS)=true)
   (zjT:PySem.W.findIn K (.ref z7) "__init__" = some (some (.ref zdT)))
   (zjU:PySem.W.isFn K (.ref zdT)=true)
   (zjV:K.lookup zdT=some ⟨zws,zue,.func (PySem.W.fnOf "__init__" "Fewest.__init__" (zbi zgq) (zbc zgq) (zt zgq) .none zwt zwu zwv zuf zpM zww),zuQ⟩)
   (zjW:PySem.W.codeIn K zpM "Fewest.__init__" = true)
   (zjX:PySem.W.keepIn K (.ref zdT)=true)
   (zjY:PySem.W.findIn K (.ref z7) "shows" = some (some (.ref zc1)))
   (zjZ:PySem.W.isFn K (.ref zc1)=true)
   (zj0:K.lookup zc1=some ⟨zwx,zug,.func (PySem.W.fnOf "shows" "Fewest.shows" (zbi zfo) (zbc zfo) (zt zfo) .none zwy zwz zwA zuh zpN zwB),zuR⟩)
   (zj1:PySem.W.codeIn K zpN "Fewest.shows" = true)
   (zhJ:PySem.W.keepIn K (.ref zc1)=true)
   (zj2:PySem.W.nsIn K mainGlobals "fewest" = some (some (.ref zda)))
   (zj3:K.lookup zda=some ⟨zwC,zui,.func (PySem.W.fnOf "fewest" "fewest" (zbi zeS) (zbc zeS) (zt zeS) .none zwD zwE zwF zuj zpO zwG),zuS⟩)
   (zj4:PySem.W.codeIn K zpO "fewest" = true)
   (zj5:PySem.W.keepIn K (.ref zda)=true)
   (zj6:PySem.W.nsIn K mainGlobals "_law_cell_at" = some (some (.ref zb2)))
   (zj7:K.lookup zb2=some ⟨zwH,zuk,.func (PySem.W.fnOf "_law_cell_at" "_law_cell_at" (zbi zgr) (zbc zgr) (zt zgr) .none zwI zwJ zwK zul zpP zwL),zuT⟩)
   (zj8:PySem.W.codeIn K zpP "_law_cell_at" = true)
   (zj9:PySem.W.keepIn K (.ref zb2)=true)
   (zka:PySem.W.nsIn K mainGlobals "_law_draw" = some (some (.ref z6)))
   (zkb:K.lookup z6=some ⟨zwM,zum,.func (PySem.W.fnOf "_law_draw" "_law_draw" (zbi zgs) (zbc zgs) (zt zgs) .none zwN zwO zwP zun zpQ zwQ),zuU⟩)
   (zkc:PySem.W.codeIn K zpQ "_law_draw" = true)
   (zkd:PySem.W.keepIn K (.ref z6)=true)
   (zke:PySem.W.nsIn K mainGlobals "_law_web" = some (some (.ref zdU)))
   (zkf:K.lookup zdU=some ⟨zwR,zuo,.func (PySem.W.fnOf "_law_web" "_law_web" (zbi zgt) (zbc zgt) (zt zgt) .none zwS zwT zwU zup zpR zwV),zuV⟩)
   (zkg:PySem.W.codeIn K zpR "_law_web" = true)
   (zkh:PySem.W.keepIn K (.ref zdU)=true)
   (zki:PySem.W.nsIn K mainGlobals "_law_numbers" = some (some (.ref zdV)))
   (zkj:K.lookup zdV=some ⟨zwW,zuq,.func (PySem.W.fnOf "_law_numbers" "_law_numbers" (zbi zf1) (zbc zf1) (zt zf1) .none zwX zwY zwZ zur zpS zw0),zuW⟩)
   (zkk:PySem.W.codeIn K zpS "_law_numbers" = true)
   (zkl:PySem.W.keepIn K (.ref zdV)=true)
   (zkm:PySem.W.nsIn K mainGlobals "_law_parts" = some (some (.ref zdb)))
   (zkn:K.lookup zdb=some ⟨zw1,zus,.func (PySem.W.fnOf "_law_parts" "_law_parts" (zbi zf2) (zbc zf2) (zt zf2) .none zw2 zw3 zw4 zut zpT zw5),zuX⟩)
   (zko:PySem.W.codeIn K zpT "_law_parts" = true)
   (zkp:PySem.W.keepIn K (.ref zdb)=true)
   (zkq:PySem.W.nsIn K mainGlobals "_law_due" = some (some (.ref zdc)))
   (zkr:K.lookup zdc=some ⟨zw6,zuu,.func (PySem.W.fnOf "_law_due" "_law_due" (zbi zfp) (zbc zfp) (zt zfp) .none zw7 zw8 zw9 zuv zpU zxa),zuY⟩)
   (zks:PySem.W.codeIn K zpU "_law_due" = true)
   (zkt:PySem.W.keepIn K (.ref zdc)=true)
   (zhK:PySem.W.nsIn K mainGlobals "law" = some (some (.ref zdd)))
   (zku:K.lookup zdd=some ⟨zxb,zuw,.func (PySem.W.fnOf "law" "law" (zbi zgu) (zbc zgu) (zt zgu) .none zxc zxd zxe zux zpV zxf),zuZ⟩)
   (zkv:PySem.W.codeIn K zpV "law" = true)
   (zkw:PySem.W.keepIn K (.ref zdd)=true)
   (zkx:PySem.W.nsIn K mainGlobals "Web" = some (some (.ref zX)))
   (zky:PySem.W.plainGet K zX Str.empty=true)
   (zkz:PySem.W.hasDictIn K zX=true)
   (zkA:PySem.W.plainOver K zX=true)
   (zkB:PySem.W.findIn K (.ref zX) "__setattr__" = some (some (.builtin "object.__setattr__")))
   (zkC:PySem.W.findIn K (.ref zX) "__class__" = some (some (.builtin "object.__class__")))
   (zkD:PySem.W.mroIn K zX (.type "object")=some true)
   (zkE:PySem.W.makesIn K zX=true)
   (zkF:PySem.W.keepIn K (.ref zX)=true)
   (zgv:PySem.W.findIn K (.ref zX) "points" = some none)
   (zgw:PySem.W.findIn K (.ref zX) "turn" = some none)
   (zgx:PySem.W.findIn K (.ref zX) "triples" = some none)
   (zkG:PySem.W.nsIn K mainGlobals "Answer" = some (some (.ref zbz)))
   (zkH:PySem.W.plainGet K zbz Str.empty=true)
   (zkI:PySem.W.hasDictIn K zbz=true)
   (zkJ:PySem.W.plainOver K zbz=true)
   (zkK:PySem.W.findIn K (.ref zbz) "__setattr__" = some (some (.builtin "object.__setattr__")))
   (zkL:PySem.W.findIn K (.ref zbz) "__class__" = some (some (.builtin "object.__class__")))
   (zkM:PySem.W.mroIn K zbz (.type "object")=some true)
   (zkN:PySem.W.nsIn K mainGlobals "Heights" = some (some (.ref zbl)))
   (zkO:PySem.W.plainGet K zbl Str.empty=true)
   (zkP:PySem.W.hasDictIn K zbl=true)
   (zkQ:PySem.W.plainOver K zbl=true)
   (zkR:PySem.W.findIn K (.ref zbl) "__setattr__" = some (some (.builtin "object.__setattr__")))
   (zkS:PySem.W.findIn K (.ref zbl) "__class__" = some (some (.builtin "object.__class__")))
   (zkT:PySem.W.mroIn K zbl (.type "object")=some true)
   (zgy:PySem.W.findIn K (.ref zbl) "heights" = some none)
   (zkU:PySem.W.nsIn K mainGlobals "Ring" = some (some (.ref zbm)))
   (zkV:PySem.W.plainGet K zbm Str.empty=true)
   (zkW:PySem.W.hasDictIn K zbm=true)
   (zkX:PySem.W.plainOver K zbm=true)
   (zkY:PySem.W.findIn K (.ref zbm) "__setattr__" = some (some (.builtin "object.__setattr__")))
   (zkZ:PySem.W.findIn K (.ref zbm) "__class__" = some (some (.builtin "object.__class__")))
   (zk0:PySem.W.mroIn K zbm (.type "object")=some true)
   (zgz:PySem.W.findIn K (.ref zbm) "steps" = some none)
   (zk1:PySem.W.nsIn K mainGlobals "Fewest" = some (some (.ref z7)))
   (zk2:PySem.W.plainGet K z7 Str.empty=true)
   (zk3:PySem.W.hasDictIn K z7=true)
   (zk4:PySem.W.plainOver K z7=true)
   (zk5:PySem.W.findIn K (.ref z7) "__setattr__" = some (some (.builtin "object.__setattr__")))
   (zk6:PySem.W.findIn K (.ref z7) "__class__" = some (some (.builtin "object.__class__")))
   (zk7:PySem.W.mroIn K z7 (.type "object")=some true)
   (zk8:PySem.W.makesIn K z7=true)
   (zk9:PySem.W.keepIn K (.ref z7)=true)
   (zgA:PySem.W.findIn K (.ref z7) "kept" = some none)
   (zgB:PySem.W.findIn K (.ref z7) "parts" = some none)
   (zla:PySem.W.nsIn K mainGlobals "Camps" = some (some (.ref zbn)))
   (zlb:PySem.W.plainGet K zbn Str.empty=true)
   (zlc:PySem.W.hasDictIn K zbn=true)
   (zld:PySem.W.plainOver K zbn=true)
   (zle:PySem.W.findIn K (.ref zbn) "__setattr__" = some (some (.builtin "object.__setattr__")))
   (zlf:PySem.W.findIn K (.ref zbn) "__class__" = some (some (.builtin "object.__class__")))
   (zlg:PySem.W.mroIn K zbn (.type "object")=some true)
   (zgC:PySem.W.findIn K (.ref zbn) "camps" = some none)
   (zlh:PySem.W.nsIn K mainGlobals "Quarrel" = some (some (.ref zbh)))
   (zli:PySem.W.plainGet K zbh Str.empty=true)
   (zlj:PySem.W.hasDictIn K zbh=true)
   (zlk:PySem.W.plainOver K zbh=true)
   (zll:PySem.W.findIn K (.ref zbh) "__setattr__" = some (some (.builtin "object.__setattr__")))
   (zlm:PySem.W.findIn K (.ref zbh) "__class__" = some (some (.builtin "object.__class__")))
   (zln:PySem.W.mroIn K zbh (.type "object")=some true)
   (zgD:PySem.W.findIn K (.ref zbh) "tie" = some none)
   (zgE:PySem.W.findIn K (.ref zbh) "steps" = some none)
   (zlo:PySem.W.nsIn K mainGlobals "Way" = some (some (.ref zbo)))
   (zlp:PySem.W.plainGet K zbo Str.empty=true)
   (zlq:PySem.W.hasDictIn K zbo=true)
   (zlr:PySem.W.plainOver K zbo=true)
   (zls:PySem.W.findIn K (.ref zbo) "__setattr__" = some (some (.builtin "object.__setattr__")))
   (zlt:PySem.W.findIn K (.ref zbo) "__class__" = some (some (.builtin "object.__class__")))
   (zlu:PySem.W.mroIn K zbo (.type "object")=some true)
   (zgF:PySem.W.findIn K (.ref zbo) "steps" = some none)
   (zlv:PySem.W.nsIn K mainGlobals "Apart" = some (some (.ref zbp)))
   (zlw:PySem.W.plainGet K zbp Str.empty=true)
   (zlx:PySem.W.hasDictIn K zbp=true)
   (zly:PySem.W.plainOver K zbp=true)
   (zlz:PySem.W.findIn K (.ref zbp) "__setattr__" = some (some (.builtin "object.__setattr__")))
   (zlA:PySem.W.findIn K (.ref zbp) "__class__" = some (some (.builtin "object.__class__")))
   (zlB:PySem.W.mroIn K zbp (.type "object")=some true)
   (zgG:PySem.W.findIn K (.ref zbp) "points" = some none)
   (zlC:PySem.W.nsIn K mainGlobals "Around" = some (some (.ref zbq)))
   (zlD:PySem.W.plainGet K zbq Str.empty=true)
   (zlE:PySem.W.hasDictIn K zbq=true)
   (zlF:PySem.W.plainOver K zbq=true)
   (zlG:PySem.W.findIn K (.ref zbq) "__setattr__" = some (some (.builtin "object.__setattr__")))
   (zlH:PySem.W.findIn K (.ref zbq) "__class__" = some (some (.builtin "object.__class__")))
   (zlI:PySem.W.mroIn K zbq (.type "object")=some true)
   (zgH:PySem.W.findIn K (.ref zbq) "steps" = some none)
   (zlJ:PySem.W.nsIn K mainGlobals "Held" = some (some (.ref zbr)))
   (zlK:PySem.W.plainGet K zbr Str.empty=true)
   (zlL:PySem.W.hasDictIn K zbr=true)
   (zlM:PySem.W.plainOver K zbr=true)
   (zlN:PySem.W.findIn K (.ref zbr) "__setattr__" = some (some (.builtin "object.__setattr__")))
   (zlO:PySem.W.findIn K (.ref zbr) "__class__" = some (some (.builtin "object.__class__")))
   (zlP:PySem.W.mroIn K zbr (.type "object")=some true)
   (zgI:PySem.W.findIn K (.ref zbr) "points" = some none)
   (z_list:PySem.W.nsIn K mainGlobals "list" = some none)
   (z_range:PySem.W.nsIn K mainGlobals "range" = some none)
   (z_sorted:PySem.W.nsIn K mainGlobals "sorted" = some none)
   (z_all:PySem.W.nsIn K mainGlobals "all" = some none)
   (z_dict:PySem.W.nsIn K mainGlobals "dict" = some none)
   (z_isinstance:PySem.W.nsIn K mainGlobals "isinstance" = some none)
   (z_int:PySem.W.nsIn K mainGlobals "int" = some none)
   (z_len:PySem.W.nsIn K mainGlobals "len" = some none)
   (z_any:PySem.W.nsIn K mainGlobals "any" = some none)
   (z_bool:PySem.W.nsIn K mainGlobals "bool" = some none)
   (z_tuple:PySem.W.nsIn K mainGlobals "tuple" = some none)
   (z_set:PySem.W.nsIn K mainGlobals "set" = some none)
   (z_zip:PySem.W.nsIn K mainGlobals "zip" = some none)
   (z_sum:PySem.W.nsIn K mainGlobals "sum" = some none)
   (z_abs:PySem.W.nsIn K mainGlobals "abs" = some none)
   (u_MOST:PySem.W.nsIn K mainGlobals "MOST" = some (some (.int (1000000) tk_MOST)))
   (u_FORTH:PySem.W.nsIn K mainGlobals "FORTH" = some (some (.int (1) tk_FORTH)))
   (u_BACK:PySem.W.nsIn K mainGlobals "BACK" = some (some (.int (-1) tk_BACK)))
   (zlQ:PySem.W.kitOne K (.ref zX) (.ref zX)=some true)
   (zlR:PySem.W.kitOne K (.ref zX) (.ref zbz)=some false)
   (zlS:PySem.W.kitOne K (.ref zX) (.ref zbl)=some false)
   (zlT:PySem.W.kitOne K (.ref zX) (.ref zbm)=some false)
   (zlU:PySem.W.kitOne K (.ref zX) (.ref z7)=some false)
   (zlV:PySem.W.kitOne K (.ref zX) (.ref zbn)=some false)
   (zlW:PySem.W.kitOne K (.ref zX) (.ref zbh)=some false)
   (zlX:PySem.W.kitOne K (.ref zX) (.ref zbo)=some false)
   (zlY:PySem.W.kitOne K (.ref zX) (.ref zbp)=some false)
   (zlZ:PySem.W.kitOne K (.ref zX) (.ref zbq)=some false)
   (zl0:PySem.W.kitOne K (.ref zX) (.ref zbr)=some false)
   (zl1:PySem.W.kitOne K (.ref zbz) (.ref zX)=some false)
   (zl2:PySem.W.kitOne K (.ref zbz) (.ref zbz)=some true)
   (zl3:PySem.W.kitOne K (.ref zbz) (.ref zbl)=some false)
   (zl4:PySem.W.kitOne K (.ref zbz) (.ref zbm)=some false)
   (zl5:PySem.W.kitOne K (.ref zbz) (.ref z7)=some false)
   (zl6:PySem.W.kitOne K (.ref zbz) (.ref zbn)=some false)
   (zl7:PySem.W.kitOne K (.ref zbz) (.ref zbh)=some false)
   (zl8:PySem.W.kitOne K (.ref zbz) (.ref zbo)=some false)
   (zl9:PySem.W.kitOne K (.ref zbz) (.ref zbp)=some false)
   (zma:PySem.W.kitOne K (.ref zbz) (.ref zbq)=some false)
   (zmb:PySem.W.kitOne K (.ref zbz) (.ref zbr)=some false)
   (zmc:PySem.W.kitOne K (.ref zbl) (.ref zX)=some false)
   (zmd:PySem.W.kitOne K (.ref zbl) (.ref zbz)=some true)
   (zme:PySem.W.kitOne K (.ref zbl) (.ref zbl)=some true)
   (zmf:PySem.W.kitOne K (.ref zbl) (.ref zbm)=some false)
   (zmg:PySem.W.kitOne K (.ref zbl) (.ref z7)=some false)
   (zmh:PySem.W.kitOne K (.ref zbl) (.ref zbn)=some false)
   (zmi:PySem.W.kitOne K (.ref zbl) (.ref zbh)=some false)
   (zmj:PySem.W.kitOne K (.ref zbl) (.ref zbo)=some false)
   (zmk:PySem.W.kitOne K (.ref zbl) (.ref zbp)=some false)
   (zml:PySem.W.kitOne K (.ref zbl) (.ref zbq)=some false)
   (zmm:PySem.W.kitOne K (.ref zbl) (.ref zbr)=some false)
   (zmn:PySem.W.kitOne K (.ref zbm) (.ref zX)=some false)
   (zmo:PySem.W.kitOne K (.ref zbm) (.ref zbz)=some true)
   (zmp:PySem.W.kitOne K (.ref zbm) (.ref zbl)=some false)
   (zmq:PySem.W.kitOne K (.ref zbm) (.ref zbm)=some true)
   (zmr:PySem.W.kitOne K (.ref zbm) (.ref z7)=some false)
   (zms:PySem.W.kitOne K (.ref zbm) (.ref zbn)=some false)
   (zmt:PySem.W.kitOne K (.ref zbm) (.ref zbh)=some false)
   (zmu:PySem.W.kitOne K (.ref zbm) (.ref zbo)=some false)
   (zmv:PySem.W.kitOne K (.ref zbm) (.ref zbp)=some false)
   (zmw:PySem.W.kitOne K (.ref zbm) (.ref zbq)=some false)
   (zmx:PySem.W.kitOne K (.ref zbm) (.ref zbr)=some false)
   (zmy:PySem.W.kitOne K (.ref z7) (.ref zX)=some false)
   (zmz:PySem.W.kitOne K (.ref z7) (.ref zbz)=some true)
   (zmA:PySem.W.kitOne K (.ref z7) (.ref zbl)=some false)
   (zmB:PySem.W.kitOne K (.ref z7) (.ref zbm)=some false)
   (zmC:PySem.W.kitOne K (.ref z7) (.ref z7)=some true)
   (zmD:PySem.W.kitOne K (.ref z7) (.ref zbn)=some false)
   (zmE:PySem.W.kitOne K (.ref z7) (.ref zbh)=some false)
   (zmF:PySem.W.kitOne K (.ref z7) (.ref zbo)=some false)
   (zmG:PySem.W.kitOne K (.ref z7) (.ref zbp)=some false)
   (zmH:PySem.W.kitOne K (.ref z7) (.ref zbq)=some false)
   (zmI:PySem.W.kitOne K (.ref z7) (.ref zbr)=some false)
   (zmJ:PySem.W.kitOne K (.ref zbn) (.ref zX)=some false)
   (zmK:PySem.W.kitOne K (.ref zbn) (.ref zbz)=some true)
   (zmL:PySem.W.kitOne K (.ref zbn) (.ref zbl)=some false)
   (zmM:PySem.W.kitOne K (.ref zbn) (.ref zbm)=some false)
   (zmN:PySem.W.kitOne K (.ref zbn) (.ref z7)=some false)
   (zmO:PySem.W.kitOne K (.ref zbn) (.ref zbn)=some true)
   (zmP:PySem.W.kitOne K (.ref zbn) (.ref zbh)=some false)
   (zmQ:PySem.W.kitOne K (.ref zbn) (.ref zbo)=some false)
   (zmR:PySem.W.kitOne K (.ref zbn) (.ref zbp)=some false)
   (zmS:PySem.W.kitOne K (.ref zbn) (.ref zbq)=some false)
   (zmT:PySem.W.kitOne K (.ref zbn) (.ref zbr)=some false)
   (zmU:PySem.W.kitOne K (.ref zbh) (.ref zX)=some false)
   (zmV:PySem.W.kitOne K (.ref zbh) (.ref zbz)=some true)
   (zmW:PySem.W.kitOne K (.ref zbh) (.ref zbl)=some false)
   (zmX:PySem.W.kitOne K (.ref zbh) (.ref zbm)=some false)
   (zmY:PySem.W.kitOne K (.ref zbh) (.ref z7)=some false)
   (zmZ:PySem.W.kitOne K (.ref zbh) (.ref zbn)=some false)
   (zm0:PySem.W.kitOne K (.ref zbh) (.ref zbh)=some true)
   (zm1:PySem.W.kitOne K (.ref zbh) (.ref zbo)=some false)
   (zm2:PySem.W.kitOne K (.ref zbh) (.ref zbp)=some false)
   (zm3:PySem.W.kitOne K (.ref zbh) (.ref zbq)=some false)
   (zm4:PySem.W.kitOne K (.ref zbh) (.ref zbr)=some false)
   (zm5:PySem.W.kitOne K (.ref zbo) (.ref zX)=some false)
   (zm6:PySem.W.kitOne K (.ref zbo) (.ref zbz)=some true)
   (zm7:PySem.W.kitOne K (.ref zbo) (.ref zbl)=some false)
   (zm8:PySem.W.kitOne K (.ref zbo) (.ref zbm)=some false)
   (zm9:PySem.W.kitOne K (.ref zbo) (.ref z7)=some false)
   (zna:PySem.W.kitOne K (.ref zbo) (.ref zbn)=some false)
   (znb:PySem.W.kitOne K (.ref zbo) (.ref zbh)=some false)
   (znc:PySem.W.kitOne K (.ref zbo) (.ref zbo)=some true)
   (znd:PySem.W.kitOne K (.ref zbo) (.ref zbp)=some false)
   (zne:PySem.W.kitOne K (.ref zbo) (.ref zbq)=some false)
   (znf:PySem.W.kitOne K (.ref zbo) (.ref zbr)=some false)
   (zng:PySem.W.kitOne K (.ref zbp) (.ref zX)=some false)
   (znh:PySem.W.kitOne K (.ref zbp) (.ref zbz)=some true)
   (zni:PySem.W.kitOne K (.ref zbp) (.ref zbl)=some false)
   (znj:PySem.W.kitOne K (.ref zbp) (.ref zbm)=some false)
   (znk:PySem.W.kitOne K (.ref zbp) (.ref z7)=some false)
   (znl:PySem.W.kitOne K (.ref zbp) (.ref zbn)=some false)
   (znm:PySem.W.kitOne K (.ref zbp) (.ref zbh)=some false)
   (znn:PySem.W.kitOne K (.ref zbp) (.ref zbo)=some false)
   (zno:PySem.W.kitOne K (.ref zbp) (.ref zbp)=some true)
   (znp:PySem.W.kitOne K (.ref zbp) (.ref zbq)=some false)
   (znq:PySem.W.kitOne K (.ref zbp) (.ref zbr)=some false)
   (znr:PySem.W.kitOne K (.ref zbq) (.ref zX)=some false)
   (zns:PySem.W.kitOne K (.ref zbq) (.ref zbz)=some true)
   (znt:PySem.W.kitOne K (.ref zbq) (.ref zbl)=some false)
   (znu:PySem.W.kitOne K (.ref zbq) (.ref zbm)=some false)
   (znv:PySem.W.kitOne K (.ref zbq) (.ref z7)=some false)
   (znw:PySem.W.kitOne K (.ref zbq) (.ref zbn)=some false)
   (znx:PySem.W.kitOne K (.ref zbq) (.ref zbh)=some false)
   (zny:PySem.W.kitOne K (.ref zbq) (.ref zbo)=some false)
   (znz:PySem.W.kitOne K (.ref zbq) (.ref zbp)=some false)
   (znA:PySem.W.kitOne K (.ref zbq) (.ref zbq)=some true)
   (znB:PySem.W.kitOne K (.ref zbq) (.ref zbr)=some false)
   (znC:PySem.W.kitOne K (.ref zbr) (.ref zX)=some false)
   (znD:PySem.W.kitOne K (.ref zbr) (.ref zbz)=some true)
   (znE:PySem.W.kitOne K (.ref zbr) (.ref zbl)=some false)
   (znF:PySem.W.kitOne K (.ref zbr) (.ref zbm)=some false)
   (znG:PySem.W.kitOne K (.ref zbr) (.ref z7)=some false)
   (znH:PySem.W.kitOne K (.ref zbr) (.ref zbn)=some false)
   (znI:PySem.W.kitOne K (.ref zbr) (.ref zbh)=some false)
   (znJ:PySem.W.kitOne K (.ref zbr) (.ref zbo)=some false)
   (znK:PySem.W.kitOne K (.ref zbr) (.ref zbp)=some false)
   (znL:PySem.W.kitOne K (.ref zbr) (.ref zbq)=some false)
   (znM:PySem.W.kitOne K (.ref zbr) (.ref zbr)=some true)
   (hn0:PySem.W.specialIn K (.builtin "object.__class__") "__get__" = some (some (.builtin "getset_descriptor.__get__")))
   (htk0:PySem.W.takesIn K (.builtin "object.__class__")=some true)
   : ∃ fd:FuncData,(∀ (s:Shared) (v:Value),BindsTo s fd ⟨[v],[]⟩ [("_law_script",v)])∧∀ base:Heap,K.In base->base.Ns mainGlobals mg->zM l.prog w K mg base CX0 9 fa fd ["_law_script"] (zgL K):=by
 have e:=hfa.symm.trans (PySem.W.mg_of X G zhK)
 have e2:zdd=fa:=by cases e;rfl
 subst e2
 have zpW:=zbI (st:=zfU) ziJ ziK ziL
 have zpX:=zbI (st:=zfV) ziN ziO ziP
 have zpY:=zbI (st:=zfW) ziR ziS ziT
 have zpZ:=zbI (st:=zfX) ziV ziW ziX
 have zp0:=zbI (st:=zfk) ziZ zi0 zi1
 have zp1:=zbI (st:=zfZ) zi4 zi5 zi6
 have zp2:=zbI (st:=zds) zi9 zja zhI
 have zp3:=zbI (st:=zfY) zjc zjd zje
 have zp4:=zbI (st:=zeM) zjg zjh zji
 have zp5:=zbI (st:=zfl) zjk zjl zjm
 have zp6:=zbI (st:=zeO) zjo zjp zjq
 have zp7:=zbI (st:=zeP) zjs zjt zju
 have zp8:=zbI (st:=zfm) zjw zjx zjy
 have zp9:=zbI (st:=zfn) zjA zjB zjC
 have zqa:=zbI (st:=zeQ) zjE zjF zjG
 have zqb:=zbI (st:=zeR) zjI zjJ zjK
 have zqc:=zbI (st:=zeN) zjM zjN zjO
 have zqd:=zbI (st:=zep) zjQ zjR zjS
 have zqe:=zbI (st:=zgq) zjV zjW zjX
 have zqf:=zbI (st:=zfo) zj0 zj1 zhJ
 have zqg:=zbI (st:=zeS) zj3 zj4 zj5
 have zqh:=zbI (st:=zgr) zj7 zj8 zj9
 have zqi:=zbI (st:=zgs) zkb zkc zkd
 have zqj:=zbI (st:=zgt) zkf zkg zkh
 have zqk:=zbI (st:=zf1) zkj zkk zkl
 have zql:=zbI (st:=zf2) zkn zko zkp
 have zqm:=zbI (st:=zfp) zkr zks zkt
 have zqn:=zbI (st:=zgu) zku zkv zkw
 let T:TX K mg:={
   zc5:=⟨zc5,_,zpW,zpW.binds (ps:=["value"]) (fun _ _ _ _ _ _ us hl=>match us,hl with | [_],_=>rfl)⟩,
   zen:=PySem.W.mg_of X G ziI,
   zcf:=⟨zcf,_,zpX,zpX.binds (ps:=["value", "least", "most"]) (fun _ _ _ _ _ _ us hl=>match us,hl with | [_,_,_],_=>rfl)⟩,
   zcL:=PySem.W.mg_of X G ziM,
   zc6:=⟨zc6,_,zpY,zpY.binds (ps:=["points", "value"]) (fun _ _ _ _ _ _ us hl=>match us,hl with | [_,_],_=>rfl)⟩,
   zeI:=PySem.W.mg_of X G ziQ,
   zdK:=⟨zdK,_,zpZ,zpZ.binds (ps:=["points", "value"]) (fun _ _ _ _ _ _ us hl=>match us,hl with | [_,_],_=>rfl)⟩,
   zfP:=PySem.W.mg_of X G ziU,
   zdL:=⟨zdL,_,zp0,zp0.binds (ps:=["points", "value"]) (fun _ _ _ _ _ _ us hl=>match us,hl with | [_,_],_=>rfl)⟩,
   zfh:=PySem.W.mg_of X G ziY,
   zc7:=⟨zc7,_,zp1,zp1.binds (ps:=["self", "points", "ties", "turn"]) (fun _ _ _ _ _ _ us hl=>match us,hl with | [_,_,_,_],_=>rfl)⟩,
   zcD:=⟨zcD,_,zp2,zp2.binds (ps:=["self"]) (fun _ _ _ _ _ _ us hl=>match us,hl with | [_],_=>rfl)⟩,
   zc8:=⟨zc8,_,zp3,zp3.binds (ps:=["tie"]) (fun _ _ _ _ _ _ us hl=>match us,hl with | [_],_=>rfl)⟩,
   zeo:=PySem.W.mg_of X G zjb,
   zdM:=⟨zdM,_,zp4,zp4.binds (ps:=["web"]) (fun _ _ _ _ _ _ us hl=>match us,hl with | [_],_=>rfl)⟩,
   zec:=PySem.W.mg_of X G zjf,
   zdN:=⟨zdN,_,zp5,zp5.binds (ps:=["ties", "step"]) (fun _ _ _ _ _ _ us hl=>match us,hl with | [_,_],_=>rfl)⟩,
   zeJ:=PySem.W.mg_of X G zjj,
   zc9:=⟨zc9,_,zp6,zp6.binds (ps:=["web"]) (fun _ _ _ _ _ _ us hl=>match us,hl with | [_],_=>rfl)⟩,
   zeK:=PySem.W.mg_of X G zjn,
   zdO:=⟨zdO,_,zp7,zp7.binds (ps:=["web", "chosen"]) (fun _ _ _ _ _ _ us hl=>match us,hl with | [_,_],_=>rfl)⟩,
   zfQ:=PySem.W.mg_of X G zjr,
   zdP:=⟨zdP,_,zp8,zp8.binds (ps:=["ties", "onward", "start", "arrived"]) (fun _ _ _ _ _ _ us hl=>match us,hl with | [_,_,_,_],_=>rfl)⟩,
   zfi:=PySem.W.mg_of X G zjv,
   zcM:=⟨zcM,_,zp9,zp9.binds (ps:=["web", "chosen"]) (fun _ _ _ _ _ _ us hl=>match us,hl with | [_,_],_=>rfl)⟩,
   zdI:=PySem.W.mg_of X G zjz,
   zdQ:=⟨zdQ,_,zqa,zqa.binds (ps:=["arrived"]) (fun _ _ _ _ _ _ us hl=>match us,hl with | [_],_=>rfl)⟩,
   zfR:=PySem.W.mg_of X G zjD,
   zcN:=⟨zcN,_,zqb,zqb.binds (ps:=["web", "arrived"]) (fun _ _ _ _ _ _ us hl=>match us,hl with | [_,_],_=>rfl)⟩,
   zdJ:=PySem.W.mg_of X G zjH,
   zdR:=⟨zdR,_,zqc,zqc.binds (ps:=["values", "count"]) (fun _ _ _ _ _ _ us hl=>match us,hl with | [_,_],_=>rfl)⟩,
   zfS:=PySem.W.mg_of X G zjL,
   zdS:=⟨zdS,_,zqd,zqd.binds (ps:=["values", "count"]) (fun _ _ _ _ _ _ us hl=>match us,hl with | [_,_],_=>rfl)⟩,
   zfT:=PySem.W.mg_of X G zjP,
   zdT:=⟨zdT,_,zqe,zqe.binds (ps:=["self", "kept", "parts"]) (fun _ _ _ _ _ _ us hl=>match us,hl with | [_,_,_],_=>rfl)⟩,
   zc1:=⟨zc1,_,zqf,zqf.binds (ps:=["self", "web"]) (fun _ _ _ _ _ _ us hl=>match us,hl with | [_,_],_=>rfl)⟩,
   zda:=⟨zda,_,zqg,zqg.binds (ps:=["web"]) (fun _ _ _ _ _ _ us hl=>match us,hl with | [_],_=>rfl)⟩,
   zcC:=PySem.W.mg_of X G zj2,
   zb2:=⟨zb2,_,zqh,zqh.binds (ps:=["_law_script", "_law_k"]) (fun _ _ _ _ _ _ us hl=>match us,hl with | [_,_],_=>rfl)⟩,
   zcw:=PySem.W.mg_of X G zj6,
   z6:=⟨z6,_,zqi,zqi.binds (ps:=["_law_cell", "_law_k", "_law_many"]) (fun _ _ _ _ _ _ us hl=>match us,hl with | [_,_,_],_=>rfl)⟩,
   zD:=PySem.W.mg_of X G zka,
   zdU:=⟨zdU,_,zqj,zqj.binds (ps:=["_law_script"]) (fun _ _ _ _ _ _ us hl=>match us,hl with | [_],_=>rfl)⟩,
   zfj:=PySem.W.mg_of X G zke,
   zdV:=⟨zdV,_,zqk,zqk.binds (ps:=["_law_found"]) (fun _ _ _ _ _ _ us hl=>match us,hl with | [_],_=>rfl)⟩,
   zed:=PySem.W.mg_of X G zki,
   zdb:=⟨zdb,_,zql,zql.binds (ps:=["_law_points", "_law_ties"]) (fun _ _ _ _ _ _ us hl=>match us,hl with | [_,_],_=>rfl)⟩,
   zeL:=PySem.W.mg_of X G zkm,
   zdc:=⟨zdc,_,zqm,zqm.binds (ps:=["_law_points", "_law_ties", "_law_found"]) (fun _ _ _ _ _ _ us hl=>match us,hl with | [_,_,_],_=>rfl)⟩,
   zcm:=PySem.W.mg_of X G zkq,
   zdd:=⟨zdd,_,zqn,zqn.binds (ps:=["_law_script"]) (fun _ _ _ _ _ _ us hl=>match us,hl with | [_],_=>rfl)⟩,
   zg9:=PySem.W.mg_of X G zhK,
   zR:=⟨zX,PySem.W.mg_of X G zkx,⟨zky,zkz,zkA,zkB⟩,⟨zkC,hn0,htk0,zkD⟩⟩,
   zhG:=⟨zkE,zi2,zi3,zkF⟩,
   zf4:=⟨zi7,zi8,zhI⟩,
   zgv:=zgv,
   zgw:=zgw,
   zgx:=zgx,
   zbC:=⟨zbz,PySem.W.mg_of X G zkG,⟨zkH,zkI,zkJ,zkK⟩,⟨zkL,hn0,htk0,zkM⟩⟩,
   zbs:=⟨zbl,PySem.W.mg_of X G zkN,⟨zkO,zkP,zkQ,zkR⟩,⟨zkS,hn0,htk0,zkT⟩⟩,
   zgy:=zgy,
   zbt:=⟨zbm,PySem.W.mg_of X G zkU,⟨zkV,zkW,zkX,zkY⟩,⟨zkZ,hn0,htk0,zk0⟩⟩,
   zgz:=zgz,
   zW:=⟨z7,PySem.W.mg_of X G zk1,⟨zk2,zk3,zk4,zk5⟩,⟨zk6,hn0,htk0,zk7⟩⟩,
   zpm:=⟨zk8,zjT,zjU,zk9⟩,
   zhb:=⟨zjY,zjZ,zhJ⟩,
   zgA:=zgA,
   zgB:=zgB,
   zbu:=⟨zbn,PySem.W.mg_of X G zla,⟨zlb,zlc,zld,zle⟩,⟨zlf,hn0,htk0,zlg⟩⟩,
   zgC:=zgC,
   zbk:=⟨zbh,PySem.W.mg_of X G zlh,⟨zli,zlj,zlk,zll⟩,⟨zlm,hn0,htk0,zln⟩⟩,
   zgD:=zgD,
   zgE:=zgE,
   zbv:=⟨zbo,PySem.W.mg_of X G zlo,⟨zlp,zlq,zlr,zls⟩,⟨zlt,hn0,htk0,zlu⟩⟩,
   zgF:=zgF,
   zbw:=⟨zbp,PySem.W.mg_of X G zlv,⟨zlw,zlx,zly,zlz⟩,⟨zlA,hn0,htk0,zlB⟩⟩,
   zgG:=zgG,
   zbx:=⟨zbq,PySem.W.mg_of X G zlC,⟨zlD,zlE,zlF,zlG⟩,⟨zlH,hn0,htk0,zlI⟩⟩,
   zgH:=zgH,
   zby:=⟨zbr,PySem.W.mg_of X G zlJ,⟨zlK,zlL,zlM,zlN⟩,⟨zlO,hn0,htk0,zlP⟩⟩,
   zgI:=zgI,
   n_list:=PySem.W.mg_none_of X G z_list,
   n_range:=PySem.W.mg_none_of X G z_range,
   n_sorted:=PySem.W.mg_none_of X G z_sorted,
   n_all:=PySem.W.mg_none_of X G z_all,
   n_dict:=PySem.W.mg_none_of X G z_dict,
   n_isinstance:=PySem.W.mg_none_of X G z_isinstance,
   n_int:=PySem.W.mg_none_of X G z_int,
   n_len:=PySem.W.mg_none_of X G z_len,
   n_any:=PySem.W.mg_none_of X G z_any,
   n_bool:=PySem.W.mg_none_of X G z_bool,
   n_tuple:=PySem.W.mg_none_of X G z_tuple,
   n_set:=PySem.W.mg_none_of X G z_set,
   n_zip:=PySem.W.mg_none_of X G z_zip,
   n_sum:=PySem.W.mg_none_of X G z_sum,
   n_abs:=PySem.W.mg_none_of X G z_abs,
   v_MOST:=⟨_,PySem.W.mg_of X G u_MOST,⟨_,rfl⟩⟩,
   v_FORTH:=⟨_,PySem.W.mg_of X G u_FORTH,⟨_,rfl⟩⟩,
   v_BACK:=⟨_,PySem.W.mg_of X G u_BACK,⟨_,rfl⟩⟩,
   zdW:=⟨zlQ,zlR,zlS,zlT,zlU,zlV,zlW,zlX,zlY,zlZ,zl0⟩,
   zdX:=⟨zl1,zl2,zl3,zl4,zl5,zl6,zl7,zl8,zl9,zma,zmb⟩,
   zdY:=⟨zmc,zmd,zme,zmf,zmg,zmh,zmi,zmj,zmk,zml,zmm⟩,
   zdZ:=⟨zmn,zmo,zmp,zmq,zmr,zms,zmt,zmu,zmv,zmw,zmx⟩,
   zd0:=⟨zmy,zmz,zmA,zmB,zmC,zmD,zmE,zmF,zmG,zmH,zmI⟩,
   zd1:=⟨zmJ,zmK,zmL,zmM,zmN,zmO,zmP,zmQ,zmR,zmS,zmT⟩,
   zd2:=⟨zmU,zmV,zmW,zmX,zmY,zmZ,zm0,zm1,zm2,zm3,zm4⟩,
   zd3:=⟨zm5,zm6,zm7,zm8,zm9,zna,znb,znc,znd,zne,znf⟩,
   zd4:=⟨zng,znh,zni,znj,znk,znl,znm,znn,zno,znp,znq⟩,
   zd5:=⟨znr,zns,znt,znu,znv,znw,znx,zny,znz,znA,znB⟩,
   zd6:=⟨znC,znD,znE,znF,znG,znH,znI,znJ,znK,znL,znM⟩ }
 exact ⟨T.zdd.d,fun s v=> .of_eq rfl,fun base _ _=>zxX T⟩
theorem walk {l:PySem.W.OpenLaw}{q:Program}{loose:List Str}{XP:(Str->Option Value)->Heap->Prop}{YP:World->Heap->Prop}{d:DefRec}{K:Params->PySem.W.Frag} (hn:l.most=some 63) (hdf:d.params.defaults=[])
   (hY:∀ (w:World) (h:Heap),YP w h->(K w.params).In h)
   (F:∀ (w:World) (mg:Str->Option Value) (fa:Addr) (h:Heap),(K w.params).In h->h.Ns mainGlobals mg->mg d.name=some (.ref fa) ->
     ∃ fd:FuncData,(∀ (s:Shared) (u:Value),BindsTo s fd ⟨[u],[]⟩ [("_law_script",u)])∧∀ base:Heap,(K w.params).In base->base.Ns mainGlobals mg->zM l.prog w (K w.params) mg base CX0 9 fa fd ["_law_script"] (zgL (K w.params))) :
   PySem.W.WalkO q loose XP YP l.row.toRowW d [] (fun f vs=>PySem.call f vs) :=
 L2.walk_of (n:=63) (k:=9) (x :="_law_script") (CX:=fun _=>CX0) (sp:=fun w=>zgL (K w.params)) hn (by decide) hdf ⟨rfl,by decide,by decide⟩ hY F (fun _ _ a ns hl ho hS=>MI.law_start ho hl hS) fun _ _ _ _ _ z=>z
end My
open PySem PySem.W PyProof.Rows
set_option maxRecDepth 100000 in
set_option maxHeartbeats 0 in
theorem PySem.Challenge.cw_closering_k04_whole_fewest_holds : PySem.Challenge.rw_closering_k04_whole_fewest.Holds := by
 w_on;o_law;k_head;(case hw=>w_witness2)
 k_fill
 refine My.walk (l:=PySem.Challenge.rw_closering_k04_whole_fewest) rfl rfl (fun w h Y=>PySem.W.kIn_of Y) ?F
 case F =>
   intro w mg fa h KX G hmg
   refine' My.all_mk KX G hmg ?ziI ?ziJ ?ziK ?ziL ?ziM ?ziN ?ziO ?ziP ?ziQ ?ziR ?ziS ?ziT ?ziU ?ziV ?ziW ?ziX ?ziY ?ziZ ?zi0 ?zi1 ?zi2 ?zi3 ?zi4 ?zi5 ?zi6 ?zi7 ?zi8 ?zi9 ?zja ?zhI ?zjb ?zjc ?zjd ?zje ?zjf ?zjg ?zjh ?zji ?zjj ?zjk ?zjl ?zjm ?zjn ?zjo ?zjp ?zjq ?zjr ?zjs ?zjt ?zju ?zjv ?zjw ?zjx ?zjy ?zjz ?zjA ?zjB ?zjC ?zjD ?zjE ?zjF ?zjG ?zjH ?zjI ?zjJ ?zjK ?zjL ?zjM ?zjN ?zjO ?zjP ?zjQ ?zjR ?zjS ?zjT ?zjU ?zjV ?zjW ?zjX ?zjY ?zjZ ?zj0 ?zj1 ?zhJ ?zj2 ?zj3 ?zj4 ?zj5 ?zj6 ?zj7 ?zj8 ?zj9 ?zka ?zkb ?zkc ?zkd ?zke ?zkf ?zkg ?zkh ?zki ?zkj ?zkk ?zkl ?zkm ?zkn ?zko ?zkp ?zkq ?zkr ?zks ?zkt ?zhK ?zku ?zkv ?zkw ?zkx ?zky ?zkz ?zkA ?zkB ?zkC ?zkD ?zkE ?zkF ?zgv ?zgw ?zgx ?zkG ?zkH ?zkI ?zkJ ?zkK ?zkL ?zkM ?zkN ?zkO ?zkP ?zkQ ?zkR ?zkS ?zkT ?zgy ?zkU ?zkV ?zkW ?zkX ?zkY ?zkZ ?zk0 ?zgz ?zk1 ?zk2 ?zk3 ?zk4 ?zk5 ?zk6 ?zk7 ?zk8 ?zk9 ?zgA ?zgB ?zla ?zlb ?zlc ?zld ?zle ?zlf ?zlg ?zgC ?zlh ?zli ?zlj ?zlk ?zll ?zlm ?zln ?zgD ?zgE ?zlo ?zlp ?zlq ?zlr ?zls ?zlt ?zlu ?zgF ?zlv ?zlw ?zlx ?zly ?zlz ?zlA ?zlB ?zgG ?zlC ?zlD ?zlE ?zlF ?zlG ?zlH ?zlI ?zgH ?zlJ ?zlK ?zlL ?zlM ?zlN ?zlO ?zlP ?zgI ?z_list ?z_range ?z_sorted ?z_all ?z_dict ?z_isinstance ?z_int ?z_len ?z_any ?z_bool ?z_tuple ?z_set ?z_zip ?z_sum ?z_abs ?u_MOST ?u_FORTH ?u_BACK ?zlQ ?zlR ?zlS ?zlT ?zlU ?zlV ?zlW ?zlX ?zlY ?zlZ ?zl0 ?zl1 ?zl2 ?zl3 ?zl4 ?zl5 ?zl6 ?zl7 ?zl8 ?zl9 ?zma ?zmb ?zmc ?zmd ?zme ?zmf ?zmg ?zmh ?zmi ?zmj ?zmk ?zml ?zmm ?zmn ?zmo ?zmp ?zmq ?zmr ?zms ?zmt ?zmu ?zmv ?zmw ?zmx ?zmy ?zmz ?zmA ?zmB ?zmC ?zmD ?zmE ?zmF ?zmG ?zmH ?zmI ?zmJ ?zmK ?zmL ?zmM ?zmN ?zmO ?zmP ?zmQ ?zmR ?zmS ?zmT ?zmU ?zmV ?zmW ?zmX ?zmY ?zmZ ?zm0 ?zm1 ?zm2 ?zm3 ?zm4 ?zm5 ?zm6 ?zm7 ?zm8 ?zm9 ?zna ?znb ?znc ?znd ?zne ?znf ?zng ?znh ?zni ?znj ?znk ?znl ?znm ?znn ?zno ?znp ?znq ?znr ?zns ?znt ?znu ?znv ?znw ?znx ?zny ?znz ?znA ?znB ?znC ?znD ?znE ?znF ?znG ?znH ?znI ?znJ ?znK ?znL ?znM ?hn0 ?htk0
   (case zkx=>k_is);(case zkG=>k_is);(case zkN=>k_is);(case zkU=>k_is);(case zk1=>k_is);(case zla=>k_is)
   (case zlh=>k_is);(case zlo=>k_is);(case zlv=>k_is);(case zlC=>k_is);(case zlJ=>k_is);(case ziI=>k_is)
   (case ziJ=>k_is);(case ziK=>k_is);(case ziL=>k_is);(case ziM=>k_is);(case ziN=>k_is);(case ziO=>k_is)
   (case ziP=>k_is);(case ziQ=>k_is);(case ziR=>k_is);(case ziS=>k_is);(case ziT=>k_is);(case ziU=>k_is)
   (case ziV=>k_is);(case ziW=>k_is);(case ziX=>k_is);(case ziY=>k_is);(case ziZ=>k_is);(case zi0=>k_is)
   (case zi1=>k_is);(case zi2=>k_is);(case zi3=>k_is);(case zi4=>k_is);(case zi5=>k_is);(case zi6=>k_is)
   (case zi7=>k_is);(case zi8=>k_is);(case zi9=>k_is);(case zja=>k_is);(case zhI=>k_is);(case zjb=>k_is)
   (case zjc=>k_is);(case zjd=>k_is);(case zje=>k_is);(case zjf=>k_is);(case zjg=>k_is);(case zjh=>k_is)
   (case zji=>k_is);(case zjj=>k_is);(case zjk=>k_is);(case zjl=>k_is);(case zjm=>k_is);(case zjn=>k_is)
   (case zjo=>k_is);(case zjp=>k_is);(case zjq=>k_is);(case zjr=>k_is);(case zjs=>k_is);(case zjt=>k_is)
   (case zju=>k_is);(case zjv=>k_is);(case zjw=>k_is);(case zjx=>k_is);(case zjy=>k_is);(case zjz=>k_is)
   (case zjA=>k_is);(case zjB=>k_is);(case zjC=>k_is);(case zjD=>k_is);(case zjE=>k_is);(case zjF=>k_is)
   (case zjG=>k_is);(case zjH=>k_is);(case zjI=>k_is);(case zjJ=>k_is);(case zjK=>k_is);(case zjL=>k_is)
   (case zjM=>k_is);(case zjN=>k_is);(case zjO=>k_is);(case zjP=>k_is);(case zjQ=>k_is);(case zjR=>k_is)
   (case zjS=>k_is);(case zjT=>k_is);(case zjU=>k_is);(case zjV=>k_is);(case zjW=>k_is);(case zjX=>k_is)
   (case zjY=>k_is);(case zjZ=>k_is);(case zj0=>k_is);(case zj1=>k_is);(case zhJ=>k_is);(case zj2=>k_is)
   (case zj3=>k_is);(case zj4=>k_is);(case zj5=>k_is);(case zj6=>k_is);(case zj7=>k_is);(case zj8=>k_is)
   (case zj9=>k_is);(case zka=>k_is);(case zkb=>k_is);(case zkc=>k_is);(case zkd=>k_is);(case zke=>k_is)
   (case zkf=>k_is);(case zkg=>k_is);(case zkh=>k_is);(case zki=>k_is);(case zkj=>k_is);(case zkk=>k_is)
   (case zkl=>k_is);(case zkm=>k_is);(case zkn=>k_is);(case zko=>k_is);(case zkp=>k_is);(case zkq=>k_is)
   (case zkr=>k_is);(case zks=>k_is);(case zkt=>k_is);(case zhK=>k_is);(case zku=>k_is);(case zkv=>k_is)
   (case zkw=>k_is);(case zky=>k_is);(case zkz=>k_is);(case zkA=>k_is);(case zkB=>k_is);(case zkC=>k_is)
   (case zkD=>k_is);(case zkE=>k_is);(case zkF=>k_is);(case zgv=>k_is);(case zgw=>k_is);(case zgx=>k_is)
   (case zkH=>k_is);(case zkI=>k_is);(case zkJ=>k_is);(case zkK=>k_is);(case zkL=>k_is);(case zkM=>k_is)
   (case zkO=>k_is);(case zkP=>k_is);(case zkQ=>k_is);(case zkR=>k_is);(case zkS=>k_is);(case zkT=>k_is)
   (case zgy=>k_is);(case zkV=>k_is);(case zkW=>k_is);(case zkX=>k_is);(case zkY=>k_is);(case zkZ=>k_is)
   (case zk0=>k_is);(case zgz=>k_is);(case zk2=>k_is);(case zk3=>k_is);(case zk4=>k_is);(case zk5=>k_is)
   (case zk6=>k_is);(case zk7=>k_is);(case zk8=>k_is);(case zk9=>k_is);(case zgA=>k_is);(case zgB=>k_is)
   (case zlb=>k_is);(case zlc=>k_is);(case zld=>k_is);(case zle=>k_is);(case zlf=>k_is);(case zlg=>k_is)
   (case zgC=>k_is);(case zli=>k_is);(case zlj=>k_is);(case zlk=>k_is);(case zll=>k_is);(case zlm=>k_is)
   (case zln=>k_is);(case zgD=>k_is);(case zgE=>k_is);(case zlp=>k_is);(case zlq=>k_is);(case zlr=>k_is)
   (case zls=>k_is);(case zlt=>k_is);(case zlu=>k_is);(case zgF=>k_is);(case zlw=>k_is);(case zlx=>k_is)
   (case zly=>k_is);(case zlz=>k_is);(case zlA=>k_is);(case zlB=>k_is);(case zgG=>k_is);(case zlD=>k_is)
   (case zlE=>k_is);(case zlF=>k_is);(case zlG=>k_is);(case zlH=>k_is);(case zlI=>k_is);(case zgH=>k_is)
   (case zlK=>k_is);(case zlL=>k_is);(case zlM=>k_is);(case zlN=>k_is);(case zlO=>k_is);(case zlP=>k_is)
   (case zgI=>k_is);(case z_list=>k_is);(case z_range=>k_is);(case z_sorted=>k_is);(case z_all=>k_is);(case z_dict=>k_is)
   (case z_isinstance=>k_is);(case z_int=>k_is);(case z_len=>k_is);(case z_any=>k_is);(case z_bool=>k_is);(case z_tuple=>k_is)
   (case z_set=>k_is);(case z_zip=>k_is);(case z_sum=>k_is);(case z_abs=>k_is);(case u_MOST=>k_is);(case u_FORTH=>k_is)
   (case u_BACK=>k_is);(case zlQ=>kit_is);(case zlR=>kit_is);(case zlS=>kit_is);(case zlT=>kit_is);(case zlU=>kit_is)
   (case zlV=>kit_is);(case zlW=>kit_is);(case zlX=>kit_is);(case zlY=>kit_is);(case zlZ=>kit_is);(case zl0=>kit_is)
   (case zl1=>kit_is);(case zl2=>kit_is);(case zl3=>kit_is);(case zl4=>kit_is);(case zl5=>kit_is);(case zl6=>kit_is)
   (case zl7=>kit_is);(case zl8=>kit_is);(case zl9=>kit_is);(case zma=>kit_is);(case zmb=>kit_is);(case zmc=>kit_is)
   (case zmd=>kit_is);(case zme=>kit_is);(case zmf=>kit_is);(case zmg=>kit_is);(case zmh=>kit_is);(case zmi=>kit_is)
   (case zmj=>kit_is);(case zmk=>kit_is);(case zml=>kit_is);(case zmm=>kit_is);(case zmn=>kit_is);(case zmo=>kit_is)
   (case zmp=>kit_is);(case zmq=>kit_is);(case zmr=>kit_is);(case zms=>kit_is);(case zmt=>kit_is);(case zmu=>kit_is)
   (case zmv=>kit_is);(case zmw=>kit_is);(case zmx=>kit_is);(case zmy=>kit_is);(case zmz=>kit_is);(case zmA=>kit_is)
   (case zmB=>kit_is);(case zmC=>kit_is);(case zmD=>kit_is);(case zmE=>kit_is);(case zmF=>kit_is);(case zmG=>kit_is)
   (case zmH=>kit_is);(case zmI=>kit_is);(case zmJ=>kit_is);(case zmK=>kit_is);(case zmL=>kit_is);(case zmM=>kit_is)
   (case zmN=>kit_is);(case zmO=>kit_is);(case zmP=>kit_is);(case zmQ=>kit_is);(case zmR=>kit_is);(case zmS=>kit_is)
   (case zmT=>kit_is);(case zmU=>kit_is);(case zmV=>kit_is);(case zmW=>kit_is);(case zmX=>kit_is);(case zmY=>kit_is)
   (case zmZ=>kit_is);(case zm0=>kit_is);(case zm1=>kit_is);(case zm2=>kit_is);(case zm3=>kit_is);(case zm4=>kit_is)
   (case zm5=>kit_is);(case zm6=>kit_is);(case zm7=>kit_is);(case zm8=>kit_is);(case zm9=>kit_is);(case zna=>kit_is)
   (case znb=>kit_is);(case znc=>kit_is);(case znd=>kit_is);(case zne=>kit_is);(case znf=>kit_is);(case zng=>kit_is)
   (case znh=>kit_is);(case zni=>kit_is);(case znj=>kit_is);(case znk=>kit_is);(case znl=>kit_is);(case znm=>kit_is)
   (case znn=>kit_is);(case zno=>kit_is);(case znp=>kit_is);(case znq=>kit_is);(case znr=>kit_is);(case zns=>kit_is)
   (case znt=>kit_is);(case znu=>kit_is);(case znv=>kit_is);(case znw=>kit_is);(case znx=>kit_is);(case zny=>kit_is)
   (case znz=>kit_is);(case znA=>kit_is);(case znB=>kit_is);(case znC=>kit_is);(case znD=>kit_is);(case znE=>kit_is)
   (case znF=>kit_is);(case znG=>kit_is);(case znH=>kit_is);(case znI=>kit_is);(case znJ=>kit_is);(case znK=>kit_is)
   (case znL=>kit_is);(case znM=>kit_is);(case hn0=>k_is);(case htk0=>k_is)

