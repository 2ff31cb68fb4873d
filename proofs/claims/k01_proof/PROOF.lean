import PyProof.Rows.All
import Wide.All
import OpenK.AllK
import Wide.FinOn
import HandS.ForMost
import HandS.IsInst
import HandS.Flow
import HandS.Style
import HandS.Zip
import HandS.More
import HandS.Walk
import HandS.Defaults
import HandS.Head0
import HandS.Head1
import HandS.Head2
import HandS.HeadEnd
import HandS.HeadHook1
import HandS.HeadHook2
import KE.GoesMore
import KE.GoesZip
import KE.GoesEnum
import HandS.OwnEq
import HandS.FStr
import HandS.Set
import HandS.SetFor
import HandS.Strs
import HandS.Sort
import HandS.Star
import HandS.TupMul
import HandS.MakeKw
import HandS.MakeKwOnly
import KE.KStateDown
import PySem.Challenge.RW_swayhalls_k01_halls_as_handed_in
set_option Elab.async false
set_option linter.all false
set_option maxRecDepth 100000
set_option maxHeartbeats 2000000
namespace Sw
open PySem PySem.Spec PyProof.Rows L2
/-! ### heaps that stay but at some places -/
def Kp (bs : List Addr) (H H' : Hp) : Prop := ∀ a o, H a = some o → a ∉ bs → H' a = some o
theorem Kp.rfl' {bs : List Addr} {H : Hp} : Kp bs H H := fun _ _ h _ => h
theorem Kp.trans {bs : List Addr} {H H1 H2 : Hp} (x : Kp bs H H1) (y : Kp bs H1 H2) : Kp bs H H2 := fun a o h n => y a o (x a o h n) n
theorem Kp.sub {bs cs : List Addr} {H H' : Hp} (x : Kp bs H H') (s : ∀ a, a ∈ bs → a ∈ cs) : Kp cs H H' := fun a o h n => x a o h fun m => n (s a m)
theorem Kp.new {bs : List Addr} {H H' : Hp} {p : Addr} {o : HO} (x : Kp bs H H') (h : H' p = none) : Kp bs H (upd H' p o) := fun a o' e n => by
  have e1 := x a o' e n
  rw [upd_ne (ne_of_none e1 h)]
  exact e1
theorem Kp.put {bs : List Addr} {H H' : Hp} {p : Addr} {o : HO} (x : Kp bs H H') (h : p ∈ bs) : Kp bs H (upd H' p o) := fun a o' e n => by
  have ne : a ≠ p := fun z => n (by rw [z]; exact h)
  rw [upd_ne ne]
  exact x a o' e n
/-- a place that was free at first may change -/
theorem Kp.own {bs : List Addr} {H H' : Hp} {p : Addr} {o : HO} (x : Kp bs H H') (h : H p = none) : Kp bs H (upd H' p o) := fun a o' e n => by
  rw [upd_ne (ne_of_none e h)]
  exact x a o' e n
/-- .. by a whole step that keeps all but it -/
theorem Kp.step {bs : List Addr} {H H1 H2 : Hp} {p : Addr} (x : Kp bs H H1) (h : H p = none) (y : Kp (p :: bs) H1 H2) : Kp bs H H2 := fun a o e n =>
  y a o (x a o e n) fun m => by
    rcases List.mem_cons.mp m with z | z
    · rw [z, h] at e
      cases e
    · exact n z
theorem Kp.free {bs : List Addr} {H H' : Hp} (x : Kp bs H H') {p : Addr} (h : H' p = none) (n : p ∉ bs) : H p = none := by
  cases e : H p with
  | none => rfl
  | some o =>
    rw [x p o e n] at h
    cases h
theorem Kp.same {H H' : Hp} (x : Kp [] H H') : Same H H' := fun b o e => x b o e (by simp)
theorem Same.kp {bs : List Addr} {H H' : Hp} (x : Same H H') : Kp bs H H' := fun b o e _ => x b o e
/-! ### data of lists and tuples that lie apart from bs: at most w wide, k deep -/
mutual
inductive D (bs : List Addr) (H : Hp) (w : Nat) : Nat → V → PyData → Prop
  | non {k : Nat} : D bs H w k .non .none
  | bl {k : Nat} (b : Bool) : D bs H w k (.bl b) (.bool b)
  | int {k : Nat} (i : Int) : i.natAbs < 2 ^ 39 + w → D bs H w k (.int i) (.int i)
  | str {k : Nat} (x : Str) : (reprText x).length ≤ 20 → D bs H w k (.str x) (.str x)
  | lst {k : Nat} {a : Addr} {xs : List V} {ds : List PyData} : H a = some (.lst xs) → a ∉ bs → xs.length ≤ w → DA bs H w k xs ds → D bs H w (k + 1) (.ref a) (.list ds)
  | tup {k : Nat} {a : Addr} {xs : List V} {ds : List PyData} : H a = some (.tup xs) → a ∉ bs → xs.length ≤ w → DA bs H w k xs ds → D bs H w (k + 1) (.ref a) (.tuple ds)
inductive DA (bs : List Addr) (H : Hp) (w : Nat) : Nat → List V → List PyData → Prop
  | nil {k : Nat} : DA bs H w k [] []
  | cons {k : Nat} {v : V} {vs : List V} {d : PyData} {ds : List PyData} : D bs H w k v d → DA bs H w k vs ds → DA bs H w k (v :: vs) (d :: ds)
end
mutual
theorem D.keep {bs : List Addr} {H H' : Hp} {w : Nat} (x : Kp bs H H') : ∀ {k : Nat} {v : V} {d : PyData}, D bs H w k v d → D bs H' w k v d
  | _, _, _, .non => .non
  | _, _, _, .bl b => .bl b
  | _, _, _, .int i h => .int i h
  | _, _, _, .str y h => .str y h
  | _, _, _, .lst h n l t => .lst (x _ _ h n) n l (DA.keep x t)
  | _, _, _, .tup h n l t => .tup (x _ _ h n) n l (DA.keep x t)
theorem DA.keep {bs : List Addr} {H H' : Hp} {w : Nat} (x : Kp bs H H') : ∀ {k : Nat} {v : List V} {d : List PyData}, DA bs H w k v d → DA bs H' w k v d
  | _, _, _, .nil => .nil
  | _, _, _, .cons h t => .cons (D.keep x h) (DA.keep x t)
end
mutual
/-- other places, wider, deeper -/
theorem D.wide {bs cs : List Addr} {H : Hp} {w w' : Nat} (s : ∀ a o, H a = some o → a ∉ bs → a ∉ cs) (hw : w ≤ w') : ∀ {k k' : Nat} {v : V} {d : PyData}, k ≤ k' → D bs H w k v d → D cs H w' k' v d
  | _, _, _, _, _, .non => .non
  | _, _, _, _, _, .bl b => .bl b
  | _, _, _, _, _, .int i h => .int i (Nat.lt_of_lt_of_le h (Nat.add_le_add_left hw _))
  | _, _, _, _, _, .str y h => .str y h
  | _, k' + 1, _, _, hk, .lst h n l t => .lst h (s _ _ h n) (Nat.le_trans l hw) (DA.wide s hw (Nat.le_of_succ_le_succ hk) t)
  | _, k' + 1, _, _, hk, .tup h n l t => .tup h (s _ _ h n) (Nat.le_trans l hw) (DA.wide s hw (Nat.le_of_succ_le_succ hk) t)
theorem DA.wide {bs cs : List Addr} {H : Hp} {w w' : Nat} (s : ∀ a o, H a = some o → a ∉ bs → a ∉ cs) (hw : w ≤ w') : ∀ {k k' : Nat} {v : List V} {d : List PyData}, k ≤ k' → DA bs H w k v d → DA cs H w' k' v d
  | _, _, _, _, _, .nil => .nil
  | _, _, _, _, hk, .cons h t => .cons (D.wide s hw hk h) (DA.wide s hw hk t)
end
section
variable {bs : List Addr} {H : Hp} {w k : Nat} {v : V} {d : PyData}
theorem apart_new {l : Addr} (h : H l = none) : ∀ a o, H a = some o → a ∉ bs → a ∉ l :: bs := fun a o e n m => by
  rcases List.mem_cons.mp m with z | z
  · rw [z, h] at e
    cases e
  · exact n z
theorem apart_less {cs : List Addr} (s : ∀ a, a ∈ cs → a ∈ bs) : ∀ a o, H a = some o → a ∉ bs → a ∉ cs := fun a o _ n m => n (s a m)
theorem D.fresh {l : Addr} (x : D bs H w k v d) (h : H l = none) : D (l :: bs) H w k v d := x.wide (apart_new h) (Nat.le_refl _) (Nat.le_refl _)
theorem DA.fresh {l : Addr} {vs : List V} {ds : List PyData} (x : DA bs H w k vs ds) (h : H l = none) : DA (l :: bs) H w k vs ds := x.wide (apart_new h) (Nat.le_refl _) (Nat.le_refl _)
theorem D.less {cs : List Addr} (x : D bs H w k v d) (s : ∀ a, a ∈ cs → a ∈ bs) : D cs H w k v d := x.wide (apart_less s) (Nat.le_refl _) (Nat.le_refl _)
theorem DA.less {cs : List Addr} {vs : List V} {ds : List PyData} (x : DA bs H w k vs ds) (s : ∀ a, a ∈ cs → a ∈ bs) : DA cs H w k vs ds := x.wide (apart_less s) (Nat.le_refl _) (Nat.le_refl _)
theorem D.up {w' k' : Nat} (x : D bs H w k v d) (hw : w ≤ w') (hk : k ≤ k') : D bs H w' k' v d := x.wide (fun _ _ _ n => n) hw hk
theorem DA.up {w' k' : Nat} {vs : List V} {ds : List PyData} (x : DA bs H w k vs ds) (hw : w ≤ w') (hk : k ≤ k') : DA bs H w' k' vs ds := x.wide (fun _ _ _ n => n) hw hk
end
theorem DA.len {bs : List Addr} {H : Hp} {w k : Nat} : ∀ {vs : List V} {ds : List PyData}, DA bs H w k vs ds → vs.length = ds.length
  | _, _, .nil => rfl
  | _, _, .cons _ t => congrArg Nat.succ (DA.len t)
theorem DA.get {bs : List Addr} {H : Hp} {w k : Nat} : ∀ {vs : List V} {ds : List PyData} {i : Nat} {v : V}, DA bs H w k vs ds → vs[i]? = some v → ∃ d, ds[i]? = some d ∧ D bs H w k v d
  | _, _, i, _, .nil, e => by simp at e
  | _, _, 0, _, .cons h _, e => ⟨_, rfl, by cases (Option.some.inj e); exact h⟩
  | _, _, i + 1, _, .cons _ t, e => DA.get (i := i) t e
theorem DA.app {bs : List Addr} {H : Hp} {w k : Nat} {us : List V} {es : List PyData} : ∀ {vs : List V} {ds : List PyData}, DA bs H w k vs ds → DA bs H w k us es → DA bs H w k (vs ++ us) (ds ++ es)
  | _, _, .nil, y => y
  | _, _, .cons h t, y => .cons h (DA.app t y)
theorem DA.one {bs : List Addr} {H : Hp} {w k : Nat} {v : V} {d : PyData} (h : D bs H w k v d) : DA bs H w k [v] [d] := .cons h .nil
/-- all items are data of some kind -/
theorem DA.any {bs : List Addr} {H : Hp} {w k : Nat} : ∀ {vs : List V}, (∀ v ∈ vs, ∃ d, D bs H w k v d) → ∃ ds, DA bs H w k vs ds
  | [], _ => ⟨[], .nil⟩
  | v :: vs, h => by
    obtain ⟨d, hd⟩ := h v (List.mem_cons_self ..)
    obtain ⟨ds, hs⟩ := DA.any (vs := vs) fun u hu => h u (List.mem_cons_of_mem _ hu)
    exact ⟨d :: ds, .cons hd hs⟩
theorem DA.mem {bs : List Addr} {H : Hp} {w k : Nat} {vs : List V} {ds : List PyData} (x : DA bs H w k vs ds) : ∀ v ∈ vs, ∃ d, D bs H w k v d := fun v hv => by
  obtain ⟨i, hi, e⟩ := List.getElem_of_mem hv
  obtain ⟨d, _, h⟩ := x.get (i := i) (v := v) (by rw [List.getElem?_eq_getElem hi, e])
  exact ⟨d, h⟩
theorem DA.ints {bs : List Addr} {H : Hp} {w k : Nat} : ∀ {ns : List Int} {vs : List V}, DA bs H w k vs (ns.map PyData.int) → vs = ns.map V.int
  | [], _, .nil => rfl
  | n :: ns, _, .cons h t => by
    cases h
    rw [DA.ints t]
    rfl
theorem DA.ofInts {bs : List Addr} {H : Hp} {w k : Nat} : ∀ {ns : List Int}, (∀ n ∈ ns, n.natAbs < 2 ^ 39 + w) → DA bs H w k (ns.map V.int) (ns.map PyData.int)
  | [], _ => .nil
  | n :: ns, h => .cons (.int n (h n (List.mem_cons_self ..))) (DA.ofInts fun m hm => h m (List.mem_cons_of_mem _ hm))
/-! ### as the layer's data -/
mutual
theorem D.dp {K : PySem.W.Frag} {bs : List Addr} {H : Hp} {w : Nat} : ∀ {k : Nat} {v : V} {d : PyData}, D bs H w k v d → Dp K H v d
  | _, _, _, .non => .non
  | _, _, _, .bl b => .bl b
  | _, _, _, .int i _ => .int i
  | _, _, _, .str y _ => .str y
  | _, _, _, .lst h _ _ t => .lst (SqL.of h) (DA.dp t)
  | _, _, _, .tup h _ _ t => .tup (SqT.of h) (DA.dp t)
theorem DA.dp {K : PySem.W.Frag} {bs : List Addr} {H : Hp} {w : Nat} : ∀ {k : Nat} {v : List V} {d : List PyData}, DA bs H w k v d → DpAll K H v d
  | _, _, _, .nil => .nil
  | _, _, _, .cons h t => .cons (D.dp h) (DA.dp t)
end
/-! ### kinds -/
def kindOf : PyData → String
  | .none => "NoneType"
  | .bool _ => "bool"
  | .int _ => "int"
  | .str _ => "str"
  | .list _ => "list"
  | .tuple _ => "tuple"
  | _ => "dict"
def isK (n : String) (d : PyData) : Bool := (kitB (kindOf d) n).getD false
theorem D.tyx {K : PySem.W.Frag} {bs : List Addr} {H : Hp} {w k : Nat} {v : V} {d : PyData} (x : D bs H w k v d) : TyX K H v (.type (kindOf d)) := by
  cases x with
  | non => exact .base .non
  | bl b => exact .base (.bl b)
  | int i h => exact .base (.int i)
  | str y h => exact .base (.str y)
  | lst h n l t => exact .base (.lst h)
  | tup h n l t => exact .base (.tup h)
def isSeq (d : PyData) : Bool := match d with
  | .list _ => true
  | .tuple _ => true
  | _ => false
def isLst (d : PyData) : Bool := match d with
  | .list _ => true
  | _ => false
def isTup (d : PyData) : Bool := match d with
  | .tuple _ => true
  | _ => false
def isStr (d : PyData) : Bool := match d with
  | .str _ => true
  | _ => false
def isInt (d : PyData) : Bool := match d with
  | .int _ => true
  | .bool _ => true
  | _ => false
def isBool (d : PyData) : Bool := match d with
  | .bool _ => true
  | _ => false
theorem D.kit {K : PySem.W.Frag} {bs : List Addr} {H : Hp} {w k : Nat} {v : V} {d : PyData} (x : D bs H w k v d) :
    PySem.W.kitOne K (.type (kindOf d)) (.type "list") = some (isLst d) ∧ PySem.W.kitOne K (.type (kindOf d)) (.type "tuple") = some (isTup d) ∧ PySem.W.kitOne K (.type (kindOf d)) (.type "str") = some (isStr d) ∧
    PySem.W.kitOne K (.type (kindOf d)) (.type "int") = some (isInt d) ∧ PySem.W.kitOne K (.type (kindOf d)) (.type "bool") = some (isBool d) := by
  cases x <;> refine ⟨kit_ty ?_, kit_ty ?_, kit_ty ?_, kit_ty ?_, kit_ty ?_⟩ <;> simp only [kindOf, isLst, isTup, isStr, isInt, isBool] <;> decide +kernel
section
variable {K : PySem.W.Frag} {bs : List Addr} {H : Hp} {w k : Nat} {v : V} {d : PyData} {Q : VK}
theorem D.kL (x : D bs H w k v d) : PySem.W.kitOne K (.type (kindOf d)) (.type "list") = some (isLst d) := x.kit.1
theorem D.kT (x : D bs H w k v d) : PySem.W.kitOne K (.type (kindOf d)) (.type "tuple") = some (isTup d) := x.kit.2.1
theorem D.kS (x : D bs H w k v d) : PySem.W.kitOne K (.type (kindOf d)) (.type "str") = some (isStr d) := x.kit.2.2.1
theorem D.kI (x : D bs H w k v d) : PySem.W.kitOne K (.type (kindOf d)) (.type "int") = some (isInt d) := x.kit.2.2.2.1
theorem D.kB (x : D bs H w k v d) : PySem.W.kitOne K (.type (kindOf d)) (.type "bool") = some (isBool d) := x.kit.2.2.2.2
theorem D.kQ (x : D bs H w k v d) : PySem.W.kitAny K (.type (kindOf d)) [.type "list", .type "tuple"] = some (isSeq d) := by
  have h := x.kit (K := K)
  refine kitAny_cons h.1 (fun e => kitAny_cons h.2.1 (fun _ => ?_) fun e2 => ?_) fun e => ?_
  · rw [kitAny_nil]
    cases x <;> first | rfl | cases e | skip
    all_goals simp_all [Sw.isTup, Sw.isSeq]
  · cases x <;> first | rfl | cases e2
  · cases x <;> first | rfl | cases e
theorem tyLT : Paired ClsV [.ty "list", .ty "tuple"] [.type "list", .type "tuple"] := .cons (.ty _) (.cons (.ty _) .nil)
/-- len of it -/
def lenOf (d : PyData) : Nat := match d with
  | .list ds => ds.length
  | .tuple ds => ds.length
  | _ => 0
theorem D.lenV (x : D bs H w k v d) (s : Sw.isSeq d = true) : LenV K v H (lenOf d) := by
  cases x with
  | lst h n l t => exact .inl ⟨_, SqL.of h, (DA.len t).symm⟩
  | tup h n l t => exact .inr ⟨_, SqT.of h, (DA.len t).symm⟩
  | _ => cases s
end
/-! ### what's drawn from -/
structure Bx (H : Hp) (b : Addr) (n : Nat) : Prop where
  ex : ∃ x y z : Int, H b = some (.lst [.int x, .int y, .int z]) ∧ 0 ≤ x ∧ 0 ≤ y ∧ y < 2 ^ 33 ∧ 0 ≤ z ∧ z ≤ n
theorem Bx.keep {H H' : Hp} {b : Addr} {n : Nat} {bs : List Addr} (x : Bx H b n) (s : Kp bs H H') (h : b ∉ bs) : Bx H' b n := by
  obtain ⟨p, q, r, e, t⟩ := x.ex
  exact ⟨p, q, r, s _ _ e h, t⟩
theorem Bx.up {H : Hp} {b : Addr} {n m : Nat} (x : Bx H b n) (h : n ≤ m) : Bx H b m := by
  obtain ⟨p, q, r, e, h1, h2, h3, h4, h5⟩ := x.ex
  exact ⟨p, q, r, e, h1, h2, h3, h4, by omega⟩
end Sw

set_option maxHeartbeats 2000000
namespace Sw
open PySem PySem.Spec PyProof.Rows L2
/-! ### defs that are called where no repr is under way -/
structure FnG (P : Program) (w : World) (K : PySem.W.Frag) (mg : Str → Option Value) (base : Heap) (k : Nat) (f : Addr) (fd : FuncData) (ps : List Str) (sp : Sp) : Prop where
  lenG : ∀ vs H Q E, sp vs H Q E → vs.length = ps.length
  runG : ∀ (A : Around) (outer : List Env) (s : Shared) (H : Hp) (args : Args) (us : List Value) (vs : List V) (Q : VK) (E : XK), A.guards = some [] → Room k A → Env0 P w K mg base A outer s H → BindsTo s fd args (ps.zip us) → Vals vs us → sp vs H Q E →
    codeAny (model P w) A (.call (.ref f) args) (CR CX0 outer P w H s Q E) s
section
variable {P : Program} {w : World} {K : PySem.W.Frag} {mg : Str → Option Value} {base : Heap}
theorem okG {x qual : Str} {params : Arguments} {body : List Stmt} {scope : Scope} {dvs : List V} {kws : List (Str × V)} {f : Addr} {fd : FuncData} {N ps : List Str} {k : Nat} {sp : Sp} (F : FunD K x qual params body scope dvs kws f fd) (S : FnScope N ps scope)
    (len : ∀ vs H Q E, sp vs H Q E → vs.length = ps.length)
    (hb0 : ∀ (cdv : Value) (A : Around) (outer : List Env) (s : Shared) (H : Hp) (vs : List V) (Q : VK) (E : XK), A.guards = some [] → Room k (A.deeper (envOfC qual scope s.heap.objs.size f cdv)) → sp vs H Q E →
      ∃ t, PSs (cxOf CX0 P w K mg base N qual scope f cdv A outer s H E) body t ∧ t { nx := fun _ H' => Q .non H', rt := Q } (start N vs) H) : FnG P w K mg base (k + 1) f fd ps sp := by
  obtain ⟨oc, od, dV, kV, doc, pm, an, cdv, ct, osl, rfl, lk, hcd, _, _⟩ := F.ex
  refine ⟨len, ?_⟩
  intro A outer s H args us vs Q E hG hr e0 hb r hsp
  have kin : K.In s.heap := e0.mod.kin.keeps (fun c u z => (e0.bs c u z).1)
  have nol : s.heap.NoLimit := e0.mod.nolimit.keeps (fun c u z => (e0.bs c u z).1)
  refine codeAny_call_function hr.depth (kin _ _ lk) rfl S.co S.gen rfl (PySem.W.codeRec_of kin hcd) (hb _ _ _ _ (wpAny_newFunctionEnv_cells S.kind ?_ fun env he s1 z => ?_))
  · rintro ⟨n, v⟩ hy
    exact (S.par n (List.of_mem_zip hy).1).elim (fun c => .inl c) fun c => .inr ⟨c, PySem.W.cellsFrom_some _ _ _ (.inl c)⟩
  · subst he
    obtain ⟨t, ht, hq⟩ := hb0 cdv A outer s H vs Q E hG (hr.deeper _) hsp
    have I0 : Inv (cxOf CX0 P w K mg base N qual scope f cdv A outer s H E) [] (start N vs) H s1 := inv_start S hr.hd e0 (len _ _ _ _ hsp) r z
    refine ⟨nol.keeps z.toInCall.keep, codeAny_func (wpAny_mono (ht.run [] s1 (start N vs) H _ I0 hq) (fun fl s' hs => ?_) fun e s' hs => hs)⟩
    match fl, hs with
    | .ret u, ⟨v, σ', H', J, rv, q⟩ => exact ⟨v, H', J.os, J.bare, J.base, J.hok, rv, q⟩
    | .next, ⟨σ', H', J, q⟩ => exact ⟨V.non, H', J.os, J.bare, J.base, J.hok, rfl, q⟩
    | .brk, ⟨_, _, _, q⟩ => exact q.elim
    | .cont, ⟨_, _, _, q⟩ => exact q.elim
end
section
variable {X : Cx} {k : Nat} {f : Addr} {fd : FuncData} {ps : List Str} {sp : Sp} {x : Str} {p pos : Pos} {e : Expr} {es : List Expr} {t : TA}
theorem pe_callG (F : FnG X.prog X.w X.K X.mg X.base k f fd ps sp) (hG : X.A.guards = some []) (hr : Room k X.A) (hg : Gl X x) (hm : X.mg x = some (.ref f)) (hk : PySem.W.keepIn X.K (.ref f) = true) (hb : Binds X.K fd ps [])
    (ha : PA X (e :: es) t) (hdb : (x == ("__debug__" : Str)) = false := by decide) (he : starEach (e :: es) X.env = (false, eval e X.env) :: starEach es X.env := by rfl) (hpl : (backTo pos (starEach es X.env)).any (·.1) = false := by rfl) :
    PE X (.Call (.Name x p) (e :: es) [] pos) (tCall sp [] E0 t) := by
  refine ⟨fun pins s σ H Q I h => wpAny_Call_Name_kw (ld_glob I hg hm ?_ hdb)⟩
  refine PySem.W.callWith_K (h₀ := X.base) I.ok.mod.kin hk (thn (ha.run pos pins s σ H _ I h) fun us s1 ⟨vs, H1, I1, r, q⟩ => ⟨I1.kIn, ?_⟩) he hpl
  have r2 : Vals (vs ++ []) (us ++ []) := r.append .nil
  have hl : (us ++ []).length = ps.length := by
    rw [← r2.length]
    exact F.lenG _ _ _ _ q
  refine wpAny_call (codeAny_mono (F.runG X.A X.stack s1 H1 ⟨us, []⟩ (us ++ []) (vs ++ []) Q E0 hG hr I1.env0 (hb s1 us I1.kIn hl) r2 q) fun z s' hq => ?_)
  match z, hq with
  | .ok (.ret u), hq => exact I1.after hq
end
/-! ### the law's end -/
theorem lawG {P : Program} {w : World} {K : PySem.W.Frag} {mg mb : Str → Option Value} {k : Nat} {fa a : Addr} {fd : FuncData} {x : Str} {sp : Sp} {s1 : Shared} {vs : List Value} {ns : List Int}
    (kin : K.In s1.heap) (hns : s1.heap.Ns mainGlobals mg) (hbn : s1.heap.Ns builtinsNs mb) (hbb : ∀ x : Str, x ≠ "__name__" → mb x = bootBuiltins x) (hlim : s1.heap.NoLimit) (hg : s1.gens = #[])
    (ha : s1.heap.get? a = some { cls := .type "list", data := .seq vs.toArray }) (hi : IntsAre vs ns) (hl : ns.length ≤ sizeLine) (hr : Room k callerA)
    (F : ∀ base : Heap, K.In base → base.Ns mainGlobals mg → FnG P w K mg base k fa fd [x] sp) (hbind : ∀ (s : Shared) (u : Value), BindsTo s fd ⟨[u], []⟩ [(x, u)])
    (hsp : ∀ H : Hp, Only H → SqL K H a (ns.map V.int) → sp [.ref a] H (fun v _ => v = .bl true) fun _ _ _ => False) :
    codeAny (model P w) callerA (.call (.ref fa) ⟨[.ref a], []⟩) (fun r s' => r = .ok (.ret (.bool true)) ∧ OldK s1.heap s'.heap ∧ s'.os = s1.os ∧ AllBare s'.gens) s1 := by
  have lv : vs.length = ns.length := hi.length
  have go : ∀ H : Hp, Only H → SqL K H a (ns.map V.int) → HOk P w H s1.heap → (∀ b, H b ≠ none → b = a ∧ K.lookup a = none) →
      codeAny (model P w) callerA (.call (.ref fa) ⟨[.ref a], []⟩) (fun r s' => r = .ok (.ret (.bool true)) ∧ OldK s1.heap s'.heap ∧ s'.os = s1.os ∧ AllBare s'.gens) s1 := by
    intro H hO hS hok hA
    have noD : ∀ {b : Addr} {m : Str → Option Value}, s1.heap.Ns b m → (hidT s1.heap H).Ns b m := by
      rintro b m ⟨o, es, ep, e, d, r⟩
      refine ⟨o, es, ep, hidT_get e ?_, d, r⟩
      cases z : H b with
      | none => rfl
      | some u =>
        obtain ⟨rfl, _⟩ := hA b (by rw [z]; exact fun y => nomatch y)
        rw [ha] at e
        cases e
        exact nomatch (show Data.seq vs.toArray _ = Data.dict es ep from d)
    have kb : K.In (hidT s1.heap H) := by
      intro b o e
      refine hidT_get (kin b o e) ?_
      cases z : H b with
      | none => rfl
      | some u =>
        obtain ⟨rfl, y⟩ := hA b (by rw [z]; exact fun y => nomatch y)
        rw [y] at e
        cases e
    obtain ⟨mc, l1, l2⟩ := hlim
    have e0 : Env0 P w K mg (hidT s1.heap H) callerA [] s1 H := ⟨rfl, ⟨kb, noD hns, ⟨mb, noD hbn, hbb⟩, mc, noD l1, l2⟩, fun b o e => of_hidT e, Nat.le_of_eq (hidT_size _ _), trivial, (fun b hb => absurd (show b ∈ ([] : List Addr) from hb) List.not_mem_nil), hok, AllBare.of_eq hg⟩
    refine codeAny_mono ((F _ kb (noD hns)).runG callerA [] s1 H ⟨[.ref a], []⟩ [.ref a] [.ref a] _ _ rfl hr e0 (hbind s1 (.ref a)) (.cons rfl .nil) (hsp H hO hS)) fun r s' h => ?_
    match r, h with
    | .ok (.ret u), ⟨v, H', os, bare, un, hok', r', q⟩ =>
      obtain rfl : v = .bl true := q
      obtain rfl : u = Value.bool true := r'
      refine ⟨rfl, OldK.of_keep fun b o e => ?_, os, bare⟩
      cases z : H b with
      | none => exact un.keep b o e z (fun y => absurd (show b ∈ ([] : List Addr) from y) List.not_mem_nil) (by simp)
      | some u =>
        rcases hO b with y | ⟨ob, xs, y⟩
        · rw [z] at y
          cases y
        · obtain ⟨e1, _⟩ := hok b _ y
          obtain ⟨e2, _⟩ := hok' b _ (un.frzs b ob _ y)
          rw [e] at e1
          cases e1
          exact e2
  cases hk : K.lookup a with
  | some o =>
    have e := kin a o hk
    rw [ha] at e
    cases e
    exact go (fun _ => none) (fun _ => .inl rfl) (.inr ⟨_, vs.toArray, _, hk, rfl, rfl, rfl, by rw [List.size_toArray, lv]; exact hl, by simpa using vals_ints hi⟩) (fun b u z => nomatch (show (none : Option HO) = some u from z)) (fun b z => absurd rfl z)
  | none =>
    have at0 : ∀ b, (if b = a then some (HO.frz { cls := .type "list", data := .seq vs.toArray } (.lst (ns.map V.int))) else none) ≠ none → b = a := fun b z => by
      by_cases hb : b = a
      · exact hb
      · exact absurd (if_neg hb) z
    refine go (fun b => if b = a then some (HO.frz { cls := .type "list", data := .seq vs.toArray } (.lst (ns.map V.int))) else none) (fun b => ?_) (.inl (.inr ⟨{ cls := .type "list", data := .seq vs.toArray }, if_pos rfl⟩)) (fun b u z => ?_) (fun b z => ⟨at0 b z, hk⟩)
    · by_cases hb : b = a
      · exact .inr ⟨_, _, if_pos hb⟩
      · exact .inl (if_neg hb)
    · have hb := at0 b (fun y => by cases y.symm.trans z)
      subst hb
      cases (if_pos rfl).symm.trans z
      exact ⟨ha, by rw [List.length_map]; exact hl, vs, _, vals_ints hi, ha⟩
theorem walkG {l : PySem.W.OpenLaw} {n k : Nat} {q : Program} {loose : List Str} {XP : (Str → Option Value) → Heap → Prop} {YP : World → Heap → Prop} {d : DefRec} {x : Str}
    (hn : l.most = some n) (hn2 : n ≤ sizeLine) (hdf : d.params.defaults = []) (hr : Room k callerA)
    (F : ∀ (w : World) (mg : Str → Option Value) (fa : Addr) (h : Heap), YP w h → h.Ns mainGlobals mg → mg d.name = some (.ref fa) →
      ∃ (K : PySem.W.Frag) (fd : FuncData) (sp : Sp), K.In h ∧ (∀ (s : Shared) (u : Value), BindsTo s fd ⟨[u], []⟩ [(x, u)]) ∧
        (∀ (H : Hp) (a : Addr) (ns : List Int), ns.length ≤ n → SqL K H a (ns.map V.int) → sp [.ref a] H (fun v _ => v = .bl true) fun _ _ _ => False) ∧
        ∀ base : Heap, K.In base → base.Ns mainGlobals mg → FnG l.prog w K mg base k fa fd [x] sp) :
    PySem.W.WalkO q loose XP YP l.row.toRowW d [] (fun f vs => PySem.call f vs) := by
  refine Att.attach_call hn hdf ?_
  intro w s0 s1 mg mb fa o pm cd doc a vs ns G Y ho hd hcd hmg hobj hints hlen hg
  obtain ⟨K, fd, sp, kin, hb, hsp, hF⟩ := F w mg fa _ Y G.T.g hmg
  exact lawG kin G.T.g G.T.b G.T.builtins G.T.nolimit hg hobj hints (Nat.le_trans hlen hn2) hr hF hb fun H _ hS => hsp H a ns hlen hS
/-! ### repr of data -/
def rReprD (K : PySem.W.Frag) : List V → Hp → VK → Prop := fun xs H Q => ∃ v d, xs = [v] ∧ Dp K H v d ∧ d.showable = true ∧ d.hasDict = false ∧ d.depth ≤ 60 ∧ d.shown.length ≤ sizeLine ∧ Q (.str d.shown) H
theorem call_reprD {X : Cx} {k : Nat} (hr : Room k X.A) (hG : X.A.guards = some []) : CallR X (.builtin "repr") (rReprD X.K) := by
  intro pins s σ H xs us Q I r h
  obtain ⟨v, d, rfl, hd, h1, h2, h3, h4, q⟩ := h
  obtain ⟨u, rfl, ru⟩ := vals1 r
  obtain ⟨as, rd⟩ := Dp.reads I d v u hd ru
  have hu : X.A.units + (d.depth + 1) < cLine := by
    have z := hr.un
    omega
  have out : ∀ tk : Nat, EP X pins σ Q (.str d.shown s.toks) { s with toks := tk } := fun tk => ⟨.str _, H, I.tok _, ⟨_, rfl⟩, q⟩
  cases rd with
  | none => exact PySem.P.repr_of_none (by simpa only [PyData.shown] using out _)
  | bool b => exact PySem.P.repr_of_bool (by simpa only [PyData.shown] using out _)
  | int i t => exact PySem.P.repr_of_int (by simpa [PyData.showable] using h1) (by simpa only [PyData.shown] using out _)
  | str x t => exact PySem.P.repr_of_str (by simpa only [PyData.shown] using out _) (by simpa only [PyData.shown] using h4)
  | list e1 e2 e3 e4 => exact repr_of_reads' (.list e1 e2 e3 e4) h1 (PyData.noDict_hsm h2) hG hu (fun _ _ e => e) (fun h' u tk hk => ⟨.str _, H, I.kept hk, ⟨_, rfl⟩, q⟩) h4
  | tuple e1 e2 e3 e4 => exact repr_of_reads' (.tuple e1 e2 e3 e4) h1 (PyData.noDict_hsm h2) hG hu (fun _ _ e => e) (fun h' u tk hk => ⟨.str _, H, I.kept hk, ⟨_, rfl⟩, q⟩) h4
  | dict e1 e2 e3 e4 e5 => simp [PyData.hasDict] at h2
/-! ### how long a text of data is -/
def szL (w : Nat) : Nat → Nat
  | 0 => 48
  | k + 1 => 48 + w * (szL w k + 2)
theorem szL_le (w : Nat) : ∀ k, 48 ≤ szL w k
  | 0 => Nat.le_refl _
  | k + 1 => Nat.le_add_right _ _
theorem piled_le {m : Nat} : ∀ {ts : List Str}, (∀ t ∈ ts, t.length ≤ m) → piled ts ≤ ts.length * (m + 2)
  | [], _ => by simp [piled_nil]
  | t :: ts, h => by
    have h1 := h t (List.mem_cons_self ..)
    have h2 := piled_le (m := m) (ts := ts) fun u hu => h u (List.mem_cons_of_mem _ hu)
    rw [piled_cons, List.length_cons, Nat.succ_mul]
    omega
theorem listText_le {m : Nat} {ts : List Str} (h : ∀ t ∈ ts, t.length ≤ m) : (listText ts).length ≤ 40 + ts.length * (m + 2) := by
  have h1 := piled_le h
  rw [listText_eq_join]
  cases ts with
  | nil => exact Nat.le_trans (by decide) (Nat.le_add_right 40 _)
  | cons t ts =>
    have h2 := join_length_add (t :: ts) (fun z => nomatch z)
    have e : ((("[" : String) : Str) ++ Str.join ", " (t :: ts) ++ (("]" : String) : Str)).length = 1 + (Str.join ", " (t :: ts)).length + 1 := by
      rw [strLen_append, strLen_append]
      rfl
    omega
theorem tupleText_le {m : Nat} {ts : List Str} (h : ∀ t ∈ ts, t.length ≤ m) : (tupleText ts).length ≤ 40 + ts.length * (m + 2) := by
  have h1 := piled_le h
  unfold tupleText
  cases ts with
  | nil => exact Nat.le_trans (by decide) (Nat.le_add_right 40 _)
  | cons t ts =>
    have h2 := join_length_add (t :: ts) (fun z => nomatch z)
    rw [strLen_append, strLen_append]
    have e1 : (("(" : String) : Str).length = 1 := rfl
    have e2 : ((if (t :: ts).length == 1 then ",)" else ")" : String) : Str).length ≤ 2 := by split <;> decide
    omega
theorem shownAll_len : ∀ ds : List PyData, (PyData.shownAll ds).length = ds.length
  | [] => by simp [PyData.shownAll]
  | d :: ds => by simp [PyData.shownAll, shownAll_len ds]
theorem log40 {i : Int} (h : i.natAbs < 2 ^ 40) : i.natAbs.log2 < 41 := by
  by_cases z : i.natAbs = 0
  · rw [z]; decide
  · have := (Nat.log2_lt z).mpr h
    omega
mutual
theorem D.show {bs : List Addr} {H : Hp} {w : Nat} (hw : w ≤ 1000000) : ∀ {k : Nat} {v : V} {d : PyData}, D bs H w k v d → d.showable = true ∧ d.hasDict = false ∧ d.depth ≤ k ∧ d.shown.length ≤ szL w k
  | k, _, _, .non => by
    have := szL_le w k
    refine ⟨by simp [PyData.showable], by simp [PyData.hasDict], by simp [PyData.depth], ?_⟩
    simp only [PyData.shown]
    exact Nat.le_trans (by decide) this
  | k, _, _, .bl b => by
    have := szL_le w k
    refine ⟨by simp [PyData.showable], by simp [PyData.hasDict], by simp [PyData.depth], ?_⟩
    simp only [PyData.shown]
    exact Nat.le_trans (by cases b <;> decide) this
  | k, _, _, .int i h => by
    have := szL_le w k
    have z := log40 (i := i) (by omega)
    have y := int_text_length_le (k := 41) (by decide) z
    refine ⟨by simp only [PyData.showable, decide_eq_true_eq]; omega, by simp [PyData.hasDict], by simp [PyData.depth], ?_⟩
    simp only [PyData.shown]
    rw [PySem.ofString_length]
    omega
  | k, _, _, .str x h => by
    have := szL_le w k
    refine ⟨by simp [PyData.showable], by simp [PyData.hasDict], by simp [PyData.depth], ?_⟩
    simp only [PyData.shown]
    omega
  | k + 1, _, _, .lst (ds := ds) h n l t => by
    obtain ⟨a1, a2, a3, a4⟩ := DA.show hw t
    refine ⟨by simpa [PyData.showable] using a1, by simpa [PyData.hasDict] using a2, by simp only [PyData.depth]; omega, ?_⟩
    simp only [PyData.shown]
    have z := listText_le a4
    rw [shownAll_len, ← DA.len t] at z
    have y := Nat.mul_le_mul_right (szL w k + 2) l
    simp only [szL]
    omega
  | k + 1, _, _, .tup (ds := ds) h n l t => by
    obtain ⟨a1, a2, a3, a4⟩ := DA.show hw t
    refine ⟨by simpa [PyData.showable] using a1, by simpa [PyData.hasDict] using a2, by simp only [PyData.depth]; omega, ?_⟩
    simp only [PyData.shown]
    have z := tupleText_le a4
    rw [shownAll_len, ← DA.len t] at z
    have y := Nat.mul_le_mul_right (szL w k + 2) l
    simp only [szL]
    omega
theorem DA.show {bs : List Addr} {H : Hp} {w : Nat} (hw : w ≤ 1000000) : ∀ {k : Nat} {v : List V} {d : List PyData}, DA bs H w k v d → PyData.showableAll d = true ∧ PyData.hasDictAll d = false ∧ PyData.depthAll d ≤ k ∧ ∀ t ∈ PyData.shownAll d, t.length ≤ szL w k
  | k, _, _, .nil => ⟨by simp [PyData.showableAll], by simp [PyData.hasDictAll], by simp [PyData.depthAll], by simp [PyData.shownAll]⟩
  | k, _, _, .cons h t => by
    obtain ⟨a1, a2, a3, a4⟩ := D.show hw h
    obtain ⟨b1, b2, b3, b4⟩ := DA.show hw t
    refine ⟨by simp [PyData.showableAll, a1, b1], by simp [PyData.hasDictAll, a2, b2], by simp only [PyData.depthAll]; omega, ?_⟩
    intro u hu
    simp only [PyData.shownAll] at hu
    rcases List.mem_cons.mp hu with z | z
    · rw [z]; exact a4
    · exact b4 u z
end
theorem D.repr {K : PySem.W.Frag} {bs : List Addr} {H : Hp} {w k : Nat} {v : V} {d : PyData} {Q : VK} (x : D bs H w k v d) (hk : k ≤ 60) (hw : szL w k ≤ 16777216) (hw2 : w ≤ 1000000) (q : Q (.str d.shown) H) : rReprD K [v] H Q := by
  obtain ⟨a1, a2, a3, a4⟩ := x.show hw2
  exact ⟨v, d, rfl, x.dp, a1, a2, Nat.le_trans a3 hk, by rw [sizeLine_eq]; omega, q⟩
/-! ### a call by keywords alone; a walk over a list or a tuple -/
section
variable {X : Cx} {CX : CXT} {k n : Nat} {f : Addr} {fd : FuncData} {ps ks : List Str} {sp : Sp} {E : XK} {x : Str} {p pos : Pos} {kws : List Keyword} {tk : TA} {g : List Value → List Value → List Value} {gV : List V → List V → List V}
theorem pe_callK0 (F : FnOk X.prog X.w X.K X.mg X.base CX k f fd ps sp) (hr : Room k X.A) (hg : Gl X x) (hm : X.mg x = some (.ref f)) (hk : PySem.W.keepIn X.K (.ref f) = true) (hb : KBn X.K fd ps 0 ks g gV) (hx : Passes CX X E)
    (hkw : PK X kws tk) (hall : (backToKw pos (keywordEach kws X.env)).all (·.1.isSome) = true := by rfl) (hks : (backToKw pos (keywordEach kws X.env)).filterMap (·.1) = ks := by rfl)
    (hdb : (x == ("__debug__" : Str)) = false := by decide) (hpl : ((backTo pos (starEach [] X.env)).any (·.1) || (backToKw pos (keywordEach kws X.env)).any (·.1.isNone)) = false := by rfl) :
    PE X (.Call (.Name x p) [] kws pos) (tCallN 0 ks.length sp gV E tNil tk) := by
  refine ⟨fun pins s σ H Q I h => wpAny_Call_Name_kw (ld_glob I hg hm ?_ hdb)⟩
  refine PySem.W.callWith_KW0 (h₀ := X.base) I.ok.mod.kin hk hall (thn (hkw.run pos pins s σ H _ I h) fun ws s2 ⟨zs, H2, I2, rz, l1, l2, q2⟩ => ⟨I2.kIn, ?_⟩) hpl
  rw [hks]
  exact run_fnN (us := []) F hr hb hx I2 .nil rz l1 l2 q2
end
def sw2 {α : Type} : List α → List α
  | [a, b] => [b, a]
  | _ => []
theorem sw2_rel : ∀ {zs : List V} {ws : List Value}, Vals zs ws → Vals (sw2 zs) (sw2 ws)
  | _, _, .nil => .nil
  | _, _, .cons _ .nil => .nil
  | _, _, .cons a (.cons b .nil) => .cons b (.cons a .nil)
  | _, _, .cons _ (.cons _ (.cons _ _)) => .nil
def iSeq (K : PySem.W.Frag) (tl : TE) : TI := fun σ H R => tl σ H fun x H1 => ∃ a, x = .ref a ∧ (((∃ xs, SqL K H1 a xs) ∧ R (Itl K a) H1) ∨ ((∃ xs, SqT K H1 a xs) ∧ R (Itt K a) H1))
theorem pi_seq {X : Cx} {tg l : Expr} {tl : TE} (hl : PE X l tl) : PI X tg l (iSeq X.K tl) := by
  refine ⟨fun pins s σ H R I h => thn (hl.run pins s σ H _ I h) fun v s1 ⟨x, H1, I1, r1, a, e, q1⟩ => ?_⟩
  subst e
  obtain rfl : v = Value.ref a := r1
  have fp : ∀ b ∈ [s1.heap.objs.size], FpOk X pins H1 b := fun b hb => by
    obtain rfl : b = s1.heap.objs.size := by simpa using hb
    exact I1.fpOk (Nat.le_refl _) (I1.hok.fresh (Nat.le_refl _))
  rcases q1 with ⟨⟨xs, hq⟩, q⟩ | ⟨⟨xs, hq⟩, q⟩
  · obtain ⟨its, rv, p, hz⟩ := I1.list hq
    exact wpAny_pyIter_list p.isList ⟨s1.heap.objs.size, [s1.heap.objs.size], _, _, H1, rfl, I1.kept (t' := s1.toks) fun b o e => Heap.get?_push_of_some _ e, turn_list a _, ⟨_, Heap.get?_push_size _ rfl, rfl, rfl⟩, fp, q⟩
  · obtain ⟨its, rv, p, hz⟩ := I1.tuple hq
    exact wpAny_pyIter_tuple (show s1.heap.IsTuple a its.toArray from p) ⟨s1.heap.objs.size, [s1.heap.objs.size], _, _, H1, rfl, I1.kept (t' := s1.toks) fun b o e => Heap.get?_push_of_some _ e, turn_tuple a _, ⟨_, Heap.get?_push_size _ rfl, rfl, rfl⟩, fp, q⟩
end Sw

set_option maxHeartbeats 2000000
namespace Sw
open PySem PySem.Spec PyProof.Rows L2
/-! ### zip of two, each a list or a tuple -/
def SqK (k : Bool) (K : PySem.W.Frag) (H : Hp) (a : Addr) (xs : List V) : Prop := match k with
  | true => SqL K H a xs
  | false => SqT K H a xs
def itK (k : Bool) (h : Heap) (it a : Addr) (i : Nat) : Prop := match k with
  | true => h.IsListIter it a i
  | false => h.IsTupleIter it a i
def sqK (k : Bool) (h : Heap) (a : Addr) (its : Array Value) : Prop := match k with
  | true => h.IsList a its
  | false => h.IsTuple a its
def objK (k : Bool) (a : Addr) : Obj := match k with
  | true => { cls := .type "list_iterator", data := .fields #[.ref a, .int 0 0] }
  | false => { cls := .type "tuple_iterator", data := .fields #[.ref a, .int 0 0] }
theorem begK (k : Bool) (a : Addr) (its : Array Value) : Begins (.ref a) (objK k a) (fun h => sqK k h a its) := by
  cases k
  · exact begins_tuple a its
  · exact begins_list a its
theorem drawsK {prog : Program} {w : World} {A : Around} (k : Bool) (hh : A.handled = none) (it a : Addr) (hne : a ≠ it) (its : Array Value) : Draws prog w A it [it, a] its.size (fun i v => its[i]? = some v) (fun i h => itK k h it a i ∧ sqK k h a its) := by
  cases k
  · exact .tuple hh it a hne its
  · exact .list hh it a hne its
theorem itK_obj {k : Bool} {h : Heap} {it a : Addr} {i : Nat} (x : itK k h it a i) : ∃ o, h.get? it = some o ∧ ∀ v, o.data ≠ .cell v := by
  cases k <;> (obtain ⟨o, e, _, d⟩ := x; exact ⟨o, e, fun v q => by rw [d] at q; cases q⟩)
theorem itK_at {k : Bool} {h h' : Heap} {it a : Addr} {i : Nat} (x : itK k h it a i) (e : ∀ o, h.get? it = some o → h'.get? it = some o) : itK k h' it a i := by
  cases k
  · exact Heap.IsTupleIter.at x e
  · exact Heap.IsListIter.at x e
theorem sqK_lt {k : Bool} {h : Heap} {a : Addr} {its : Array Value} (x : sqK k h a its) : a < h.objs.size := by
  cases k
  · obtain ⟨o, e, _⟩ := x
    exact Heap.lt_size e
  · obtain ⟨o, e, _⟩ := x
    exact Heap.lt_size e
section
variable {X : Cx} {pins : List (Addr × Obj)} {σ : L2.St} {H : Hp} {s : Shared}
theorem seqK {k : Bool} {a : Addr} {xs : List V} (I : Inv X pins σ H s) (h : SqK k X.K H a xs) : ∃ its : List Value, Vals xs its ∧ sqK k s.heap a its.toArray := by
  cases k
  · obtain ⟨its, r, p, _⟩ := I.tuple h
    exact ⟨its, r, p⟩
  · obtain ⟨its, r, p, _⟩ := I.list h
    exact ⟨its, r, p.isList⟩
theorem injK {k : Bool} {a : Addr} {xs ys : List V} (I : Inv X pins σ H s) (h : SqK k X.K H a xs) (h' : SqK k X.K H a ys) : xs = ys := by
  cases k
  · exact I.tuple_inj h h'
  · exact I.list_inj h h'
end
def ItZ (ka kb : Bool) (K : PySem.W.Frag) (a b : Addr) : It :=
  ⟨fun i H => ∃ (xs ys : List V), SqK ka K H a xs ∧ SqK kb K H b ys ∧ i < xs.length ∧ i < ys.length,
    fun i H v H' => ∃ T x y, v = .ref T ∧ H T = none ∧ H' = upd H T (.tup [x, y]) ∧ (∀ xs, SqK ka K H a xs → xs[i]? = some x) ∧ ∀ ys, SqK kb K H b ys → ys[i]? = some y,
    fun i H => ∃ xs ys : List V, SqK ka K H a xs ∧ SqK kb K H b ys ∧ i = min xs.length ys.length⟩
theorem five {c z TI TO i1 i2 : Addr} {p : Prop} (h : c ∈ [z, TI, TO, i1, i2]) (h1 : c = z → p) (h2 : c = TI → p) (h3 : c = TO → p) (h4 : c = i1 → p) (h5 : c = i2 → p) : p := by
  have e : c = z ∨ c = TI ∨ c = TO ∨ c = i1 ∨ c = i2 := by simpa using h
  exact e.elim h1 fun e => e.elim h2 fun e => e.elim h3 fun e => e.elim h4 h5
theorem turnZ {P : Program} {w : World} {K : PySem.W.Frag} {elts : List Expr} {kk : Nat} {tpos : Pos} {ka kb : Bool} {a b z TI TO i1 i2 : Addr} (S : ZipSep2 z TI TO i1 i2 [i1, a] [i2, b]) (ne1 : a ≠ i1) (ne2 : b ≠ i2) :
    Turn P w K (.Tuple elts kk tpos) (ItZ ka kb K a b) [z, TI, TO, i1, i2] z (fun i h => IsZip h z TI TO .none ∧ IsTupOf2 h TI (.ref i1) (.ref i2) ∧ (∃ x y, IsTupOf2 h TO x y) ∧ itK ka h i1 a i ∧ itK kb h i2 b i) where
  mem := by simp
  obj := fun i h st c hc => by
    obtain ⟨hz, hTI, ⟨x, y, hTO⟩, h1, h2⟩ := st
    exact five hc (fun q => by rw [q]; exact ⟨_, hz, fun v q => nomatch q⟩) (fun q => by rw [q]; exact ⟨_, hTI, fun v q => nomatch q⟩) (fun q => by rw [q]; exact ⟨_, hTO, fun v q => nomatch q⟩) (fun q => by rw [q]; exact itK_obj h1) (fun q => by rw [q]; exact itK_obj h2)
  keep := fun i h h' st k => by
    obtain ⟨hz, hTI, ⟨x, y, hTO⟩, h1, h2⟩ := st
    exact ⟨k z (by simp) _ hz, k TI (by simp) _ hTI, ⟨x, y, k TO (by simp) _ hTO⟩, itK_at h1 (k i1 (by simp)), itK_at h2 (k i2 (by simp))⟩
  item := by
    intro X hP hw hK hc i pins s σ H E I hf st hg
    subst hP hw hK
    obtain ⟨hz, hTI, ⟨x0, y0, hTO⟩, h1, h2⟩ := st
    obtain ⟨xs, ys, hqx, hqy, lx, ly⟩ := hg
    obtain ⟨its, rv, p⟩ := seqK I hqx
    obtain ⟨its2, rv2, p2⟩ := seqK I hqy
    have l1 := rv.length
    have l2 := rv2.length
    have hh : X.A.in1.handled = none := I.ok.hd hc
    have gx : xs[i]? = some xs[i] := by simp [lx]
    have gy : ys[i]? = some ys[i] := by simp [ly]
    obtain ⟨u, hu, ru⟩ := rv.get gx
    obtain ⟨u2, hu2, ru2⟩ := rv2.get gy
    have zl : z < s.heap.objs.size := Heap.lt_size hz
    refine wpAny_pyNext_zipD2_item S (drawsK ka hh i1 a ne1 its.toArray) (drawsK kb hh i2 b ne2 its2.toArray) hz hTI hTO ⟨h1, p⟩ ⟨h2, p2⟩ (by simp; omega) (by simp; omega) fun x1 x2 h' tk e1 e2 z' TO' s1' s2' hT hsz hk => ?_
    obtain rfl : x1 = u := by
      have e1' : its.toArray[i]? = some x1 := e1
      rw [List.getElem?_toArray, hu] at e1'
      exact (Option.some.inj e1').symm
    obtain rfl : x2 = u2 := by
      have e2' : its2.toArray[i]? = some x2 := e2
      rw [List.getElem?_toArray, hu2] at e2'
      exact (Option.some.inj e2').symm
    refine ⟨_, rfl, wpAny_letOwnedTupleGo_zip (s := { s with heap := h', toks := tk }) z' fun h'' z'' sb => ?_⟩
    have sb2 : ∀ c, c ≠ z → h''.get? c = h'.get? c := fun c hcz => sb.2 c hcz
    have tup2 : h''.get? s.heap.objs.size = some { cls := .type "tuple", data := .seq #[x1, x2] } := (sb2 _ (Nat.ne_of_gt zl)).trans hT
    have new : ObjOk X.prog X.w (upd H s.heap.objs.size (.tup [xs[i], ys[i]])) h'' s.heap.objs.size (.tup [xs[i], ys[i]]) :=
      ⟨by show 2 ≤ sizeLine; decide, [x1, x2], .cons ru (.cons ru2 .nil), ⟨_, tup2, rfl, _, rfl⟩⟩
    have I1 : Inv X pins σ (upd H s.heap.objs.size (.tup [xs[i], ys[i]])) { s with heap := h'', toks := tk } := by
      refine I.turnedNew (t' := tk) (ch := [z, TI, TO, i1, i2]) (fun c o hb q => ?_) hf (Nat.le_refl _) new
      have nz : c ≠ z := fun e => hb (by simp [e])
      exact (sb2 c nz).trans (hk c o nz (fun e => hb (by simp [e])) (fun e => hb (by simp [e])) (fun e => hb (by simp [e])) q)
    refine ⟨.ref s.heap.objs.size, _, I1, rfl, ⟨_, xs[i], ys[i], rfl, I.hok.fresh (Nat.le_refl _), rfl, fun l hl => by rw [injK I hl hqx]; exact gx, fun l hl => by rw [injK I hl hqy]; exact gy⟩, ⟨z'', ?_, ⟨x1, x2, ?_⟩, ?_, ?_⟩, fun c hcm => ?_⟩
    · exact (sb2 _ S.TIz).trans (hk _ _ S.TIz S.TITO S.TIi1 S.TIi2 hTI)
    · exact (sb2 _ S.TOz).trans TO'
    · exact itK_at s1'.1 fun o q => (sb2 _ S.zi1.symm).trans q
    · exact itK_at s2'.1 fun o q => (sb2 _ S.zi2.symm).trans q
    · have lt : c < s.heap.objs.size := by
        obtain ⟨o1, g1, _⟩ := itK_obj h1
        obtain ⟨o2, g2, _⟩ := itK_obj h2
        exact five hcm (fun q => by rw [q]; exact zl) (fun q => by rw [q]; exact Heap.lt_size hTI) (fun q => by rw [q]; exact Heap.lt_size hTO) (fun q => by rw [q]; exact Heap.lt_size g1) (fun q => by rw [q]; exact Heap.lt_size g2)
      rw [upd_ne (Nat.ne_of_lt lt)]
      exact (hf c hcm).1
  done := by
    intro X hP hw hK hc i pins s σ H E I hf st hg
    subst hP hw hK
    obtain ⟨hz, hTI, ⟨x0, y0, hTO⟩, h1, h2⟩ := st
    obtain ⟨xs, ys, hqx, hqy, he⟩ := hg
    obtain ⟨its, rv, p⟩ := seqK I hqx
    obtain ⟨its2, rv2, p2⟩ := seqK I hqy
    have l1 := rv.length
    have l2 := rv2.length
    have hh : X.A.in1.handled = none := I.ok.hd hc
    refine wpAny_pyNext_zipD2_end S (drawsK ka hh i1 a ne1 its.toArray) (drawsK kb hh i2 b ne2 its2.toArray) hz hTI hTO ⟨h1, p⟩ ⟨h2, p2⟩ (by simp; omega) (by simp; omega) (by simp; omega) fun h' tk hk => ⟨rfl, ?_⟩
    refine I.turnedL (t' := tk) (ch := [z, TI, TO, i1, i2]) (fun c o hb q => ?_) hf
    exact hk c o (fun e => hb (by simp [e])) (fun e => hb (by simp [e])) (fun e => hb (by simp [e])) (fun e => hb (by simp [e])) q
  self := fun A i s Q E st h => wpAny_pyIter_zip st.1 h
theorem five_le {N c : Nat} (h : c ∈ [N + 4, N + 2, N + 3, N, N + 1]) : N ≤ c := by
  simp at h
  omega
def iZipS (K : PySem.W.Frag) (ta : TA) : TI := fun σ H R => ta σ H fun vs H1 => ∃ (a b : Addr) (ka kb : Bool) (xs ys : List V), vs = [.ref a, .ref b] ∧ SqK ka K H1 a xs ∧ SqK kb K H1 b ys ∧ R (ItZ ka kb K a b) H1
theorem pi_zipS {X : Cx} {e e2 : Expr} {ta : TA} {p pos tpos : Pos} {elts : List Expr} {kk : Nat} (hg : Gl X "zip") (hm : X.mg "zip" = none) (ha : PA X [e, e2] ta)
    (hs : starEach [e, e2] X.env = (false, eval e X.env) :: starEach [e2] X.env := by rfl) (hpl : (backTo pos (starEach [e2] X.env)).any (·.1) = false := by rfl) :
    PI X (.Tuple elts kk tpos) (.Call (.Name "zip" p) [e, e2] [] pos) (iZipS X.K ta) := by
  refine ⟨fun pins s σ H R I h => Call_ (ld_blt I hg hm PyProof.Rows.boot_zip (PyProof.Rows.callWith_type1 (thn (ha.run pos pins s σ H _ I h) fun us s1 ⟨vs, H1, I1, r1, q1⟩ => ?_) hs hpl))⟩
  obtain ⟨a, b, ka, kb, xs, ys, rfl, hqx, hqy, q⟩ := q1
  obtain ⟨u1, u2, rfl, ra, rb⟩ := vals2 r1
  cases (show u1 = Value.ref a from ra)
  cases (show u2 = Value.ref b from rb)
  obtain ⟨its, rv, pa⟩ := seqK I1 hqx
  obtain ⟨its2, rv2, pb⟩ := seqK I1 hqy
  have la := sqK_lt pa
  have lb := sqK_lt pb
  refine zip_begins2 (begK ka a its.toArray) (begK kb b its2.toArray) pa pb fun h' hz hTI hTO h1 h2 hsz hk => wpAny_pyIter_zip hz ?_
  have new5 : ∀ c ∈ [s1.heap.objs.size + 4, s1.heap.objs.size + 2, s1.heap.objs.size + 3, s1.heap.objs.size, s1.heap.objs.size + 1], FpOk X pins H1 c := fun c hcm => by
    have hle : s1.heap.objs.size ≤ c := five_le hcm
    exact I1.fpOk hle (I1.hok.fresh hle)
  have i1 : itK ka h' s1.heap.objs.size a 0 := by
    cases ka <;> exact ⟨_, h1, rfl, rfl⟩
  have i2 : itK kb h' (s1.heap.objs.size + 1) b 0 := by
    cases kb <;> exact ⟨_, h2, rfl, rfl⟩
  have S : ZipSep2 (s1.heap.objs.size + 4) (s1.heap.objs.size + 2) (s1.heap.objs.size + 3) s1.heap.objs.size (s1.heap.objs.size + 1) [s1.heap.objs.size, a] [s1.heap.objs.size + 1, b] := zip_sep2 (N := s1.heap.objs.size) (fp1 := [a]) (fp2 := [b]) (fun c hc => by rw [List.mem_singleton.mp hc]; exact la) (fun c hc => by rw [List.mem_singleton.mp hc]; exact lb)
  exact ⟨s1.heap.objs.size + 4, [s1.heap.objs.size + 4, s1.heap.objs.size + 2, s1.heap.objs.size + 3, s1.heap.objs.size, s1.heap.objs.size + 1], _, _, H1, rfl, I1.kept (t' := s1.toks) hk, turnZ S (Nat.ne_of_lt la) (Nat.ne_of_lt (Nat.lt_succ_of_lt lb)), ⟨hz, hTI, ⟨_, _, hTO⟩, i1, i2⟩, new5, q⟩
theorem walkZ {K : PySem.W.Frag} {a b : Addr} {ka kb : Bool} {xs ys : List V} {n : Nat} (hn : n = min xs.length ys.length) : Walk (ItZ ka kb K a b) n (fun H => SqK ka K H a xs ∧ SqK kb K H b ys) (YPair (fun i => xs[i]?) (fun i => ys[i]?)) := by
  subst hn
  refine ⟨fun i _ hi q => ⟨xs, ys, q.1, q.2, by omega, by omega⟩, fun _ q => ⟨xs, ys, q.1, q.2, rfl⟩, ?_⟩
  rintro i H v H' _ q ⟨T, x, y, h1, h2, h3, h4, h5⟩
  exact ⟨T, x, y, h1, h2, h3, h4 xs q.1, h5 ys q.2⟩
/-! ### rules by the written part's own name (within comprehensions) -/
section
variable {X : Cx} {K : PySem.W.Frag}
theorem kLen (h : X.K = K) : CallR X (.builtin "len") (fun xs H Q => ∃ x n, xs = [x] ∧ LenV K x H n ∧ Q (.int n) H) := by
  subst h
  exact call_len
theorem kIx (h : X.K = K) : IxR X (rIxL K) := by
  subst h
  exact ix_list
theorem kSl (h : X.K = K) : SlR X (rSlL K) := by
  subst h
  exact sl_list
theorem kTup (h : X.K = K) : CallR X (.type "tuple") (fun xs H Q => ∃ p ys, xs = [.ref p] ∧ ((SqL K H p ys ∧ ∀ l, H l = none → Q (.ref l) (upd H l (.tup ys))) ∨ (SqT K H p ys ∧ Q (.ref p) H))) := by
  subst h
  exact call_tuple_of
theorem kLst (h : X.K = K) : CallR X (.type "list") (fun xs H Q => ∃ p ys, xs = [.ref p] ∧ (SqL K H p ys ∨ SqT K H p ys) ∧ ∀ l, H l = none → Q (.ref l) (upd H l (.lst ys))) := by
  subst h
  exact call_list_of
theorem kIsi (h : X.K = K) : CallR X (.builtin "isinstance") (rIsi K) := by
  subst h
  exact call_isi
theorem kIsiT (h : X.K = K) : CallR X (.builtin "isinstance") (rIsiT K) := by
  subst h
  exact call_isiT
theorem kAll (h : X.K = K) (hc : X.calm = true) : CallR X (.builtin "all") (rAll K) := by
  subst h
  exact cr_all hc
theorem kSum (h : X.K = K) (hc : X.calm = true) : CallR X (.builtin "sum") (rSum K) := by
  subst h
  exact cr_sum hc
theorem kPiL {tg l : Expr} {tl : TE} (h : X.K = K) (hl : PE X l tl) : PI X tg l (iList K tl) := by
  subst h
  exact pi_list hl
end
/-! ### a truth or a number, and a number -/
def toI : V → Option Int
  | .int i => some i
  | .bl b => some (if b = true then 1 else 0)
  | _ => none
section
variable {X : Cx}
theorem op_addN : OpR X (binaryOp .Add) (fun x y H Q => ∃ i j, toI x = some i ∧ y = .int j ∧ Q (.int (i + j)) H) := by
  intro pins s σ H x y v u Q I rx ry h
  obtain ⟨i, j, e, rfl, q⟩ := h
  cases x with
  | int m =>
    cases e
    exact op_add pins s σ H _ _ v u Q I rx ry ⟨_, _, rfl, rfl, q⟩
  | bl b =>
    cases e
    obtain ⟨t, rfl⟩ := ry
    cases rx
    exact PySem.IntBool.add_bool_int ⟨.int _, H, I.tok _, ⟨_, rfl⟩, q⟩
  | _ => cases e
theorem op_subN : OpR X (binaryOp .Sub) (fun x y H Q => ∃ i j, toI x = some i ∧ y = .int j ∧ Q (.int (i - j)) H) := by
  intro pins s σ H x y v u Q I rx ry h
  obtain ⟨i, j, e, rfl, q⟩ := h
  cases x with
  | int m =>
    cases e
    exact op_sub pins s σ H _ _ v u Q I rx ry ⟨_, _, rfl, rfl, q⟩
  | bl b =>
    cases e
    obtain ⟨t, rfl⟩ := ry
    cases rx
    exact PySem.IntBool.sub_bool_int ⟨.int _, H, I.tok _, ⟨_, rfl⟩, q⟩
  | _ => cases e
theorem op_eqN : OpR X (compareOp .Eq) (fun x y H Q => ∃ i j, toI x = some i ∧ y = .int j ∧ Q (.bl (decide (i = j))) H) := by
  intro pins s σ H x y v u Q I rx ry h
  obtain ⟨i, j, e, rfl, q⟩ := h
  cases x with
  | int m =>
    cases e
    have z : decide (V.int i = V.int j) = decide (i = j) := by simp
    exact op_eq pins s σ H _ _ v u Q I rx ry ⟨rfl, by rw [z]; exact q⟩
  | bl b =>
    cases e
    obtain ⟨t, rfl⟩ := ry
    cases rx
    exact PySem.EqBoolInt.eq_bool_int ⟨.bl _, H, I, rfl, q⟩
  | _ => cases e
end
end Sw

set_option maxHeartbeats 2000000
namespace Sw
open PySem PySem.Spec PyProof.Rows L2
/-! ### an own object's own ==, !=, len, repr -/
section
variable {X : Cx} {k : Nat} {f C : Addr} {fd : FuncData} {ps : List Str} {sp : Sp}
/-- the def's run within a builtin's call -/
theorem run_at {A1 : Around} {pins : List (Addr × Obj)} {σ : L2.St} {H : Hp} {s : Shared} {Q : VK} {us : List Value} {vs : List V} (F : FnOk X.prog X.w X.K X.mg X.base CX0 k f fd ps sp) (hfr : A1.frames = X.A.frames) (hr : Room k A1) (hb : Binds X.K fd ps [])
    (I : Inv X pins σ H s) (r : Vals vs us) (h : sp vs H Q E0) : wpAny (model X.prog X.w) A1 (call (.ref f) us) (EP X pins σ Q) X.xe s := by
  have e := I.env0
  have e0 : Env0 X.prog X.w X.K X.mg X.base A1 X.stack s H := ⟨by rw [hfr]; exact e.frames, e.mod, e.bs, e.bsz, e.funs, e.frf, e.hok, e.bare⟩
  have hl : (us ++ []).length = ps.length := by
    rw [List.append_nil, ← r.length]
    exact F.len _ _ _ _ h
  have bd := hb s us I.kIn hl
  rw [List.append_nil] at bd
  refine wpAny_call (codeAny_mono (F.run A1 X.stack s H ⟨us, []⟩ us vs Q E0 hr e0 bd r h) fun z s' hq => ?_)
  match z, hq with
  | .ok (.ret u), hq => exact I.after hq
def rLenO (C : Addr) (sp : Sp) : List V → Hp → VK → Prop := fun xs H Q => ∃ a dx fs, xs = [.ref a] ∧ H a = some (.ins C dx fs) ∧ sp [.ref a] H (fun v H' => ∃ m : Int, v = .int m ∧ 0 ≤ m ∧ m < 2 ^ 63 ∧ Q (.int m) H') E0
theorem call_lenO (M : Meth X.K C "__len__" f) (F : FnOk X.prog X.w X.K X.mg X.base CX0 k f fd ps sp) (hr : Room (k + 1) X.A) (hb : Binds X.K fd ps []) : CallR X (.builtin "len") (rLenO C sp) := by
  intro pins s σ H xs us Q I r h
  obtain ⟨a, dx, fs, rfl, ha, h⟩ := h
  obtain ⟨u, rfl, ru⟩ := vals1 r
  cases (show u = Value.ref a from ru)
  obtain ⟨mA, J, _⟩ := ins_get I.hok ha
  obtain ⟨od, J, _⟩ := J.look
  obtain ⟨m, hF⟩ := I.fr
  refine PySem.W.len_K hF I.ok.mod.kin J M.1 M.fn (wpAny_mono (run_at (A1 := X.A.in1) F rfl hr.in1 hb I r h) (fun v s' hv => ?_) fun _ _ z => z)
  obtain ⟨v', H', I', rv, n, rfl, n0, n1, q⟩ := hv
  obtain ⟨t, rfl⟩ := rv
  exact ⟨⟨n0, n1⟩, .int n, H', I'.tok _, ⟨_, rfl⟩, q⟩
def rReprO (C : Addr) (sp : Sp) : List V → Hp → VK → Prop := fun xs H Q => ∃ a dx fs, xs = [.ref a] ∧ H a = some (.ins C dx fs) ∧ sp [.ref a] H (fun v H' => ∃ z : Str, v = .str z ∧ Q (.str z) H') E0
theorem call_reprO (M : Meth X.K C "__repr__" f) (F : FnOk X.prog X.w X.K X.mg X.base CX0 k f fd ps sp) (hr : Room (k + 1) X.A) (hb : Binds X.K fd ps []) : CallR X (.builtin "repr") (rReprO C sp) := by
  intro pins s σ H xs us Q I r h
  obtain ⟨a, dx, fs, rfl, ha, h⟩ := h
  obtain ⟨u, rfl, ru⟩ := vals1 r
  cases (show u = Value.ref a from ru)
  obtain ⟨mA, J, _⟩ := ins_get I.hok ha
  obtain ⟨od, J, _⟩ := J.look
  obtain ⟨m, hF⟩ := I.fr
  have hu : X.A.in1.units < cLine := by
    have z := hr.un
    show X.A.units + 1 < cLine
    omega
  refine PySem.W.repr_K hu hF I.ok.mod.kin J M.1 M.fn (wpAny_mono (run_at (A1 := X.A.in1) F rfl hr.in1 hb I r h) (fun v s' hv => ?_) fun _ _ z => z)
  obtain ⟨v', H', I', rv, n, rfl, q⟩ := hv
  obtain ⟨t, rfl⟩ := rv
  exact ⟨.str n, H', I', ⟨_, rfl⟩, q⟩
/-- what the other one's type is, as the comparison asks it -/
theorem tyx_looks {pins : List (Addr × Obj)} {σ : L2.St} {H : Hp} {s : Shared} {y : V} {u t : Value} (I : Inv X pins σ H s) (ry : RelV y u) (ty : TyX X.K H y t) : PySem.W.Looks (model X.prog X.w) s.heap (typeOf u) t := by
  obtain ⟨P, Z, p, _⟩ := kit_of I ry ty
  exact Z.ty _ _ I.kIn p
def rCmpO (K : PySem.W.Frag) (C : Addr) (sp : Sp) (g : Bool → Bool) : R2 := fun x y H Q => ∃ a dx fs t, x = .ref a ∧ H a = some (.ins C dx fs) ∧ TyX K H y t ∧ PySem.W.notFirst K C t = true ∧ sp [x, y] H (fun v H' => ∃ b : Bool, v = .bl b ∧ Q (.bl (g b)) H') E0
theorem op_eqO (M : Meth X.K C "__eq__" f) (F : FnOk X.prog X.w X.K X.mg X.base CX0 k f fd ps sp) (hr : Room (k + 1) X.A) (hb : Binds X.K fd ps []) : OpR X (compareOp .Eq) (rCmpO X.K C sp id) := by
  intro pins s σ H x y v u Q I rx ry h
  obtain ⟨a, dx, fs, t, rfl, ha, ty, hn, h⟩ := h
  cases (show v = Value.ref a from rx)
  obtain ⟨mA, J, _⟩ := ins_get I.hok ha
  obtain ⟨od, J, _⟩ := J.look
  obtain ⟨m, hF⟩ := I.fr
  have hu : X.A.units < cLine := by
    have z := hr.un
    omega
  show wpAny (model X.prog X.w) X.A (richCompare .Eq (.ref a) u) _ _ s
  refine PySem.W.cmp_K (op := .Eq) hu hF I.ok.mod.kin J (tyx_looks I ry ty) hn M.1 M.fn (wpAny_mono (run_at (A1 := X.A) F rfl (hr.mono (Nat.le_succ _)) hb I (.cons rx (.cons ry .nil)) h) (fun v s' hv => ?_) fun _ _ z => z)
  obtain ⟨v', H', I', rv, b, rfl, q⟩ := hv
  cases (show v = Value.bool b from rv)
  exact ⟨.bl b, H', I', rfl, q⟩
theorem ne_bind (self : Value) : bindSpecial (.builtin "object.__ne__") self = pure (.builtin "object.__ne__", [self]) :=
  (Slot.of (T := "object") (name := "__ne__") (owner := "object") (n := "__ne__") (by rw [typeLookup_type, builtinLookup_eq_fast]; kernel_rfl) (by decide +kernel) (by decide +kernel) (by decide +kernel) (.inl (by decide +kernel)) (by rw [isSubtype_type]; kernel_rfl)).bind self
theorem op_neO (M : Meth X.K C "__eq__" f) (hne : PySem.W.findIn X.K (.ref C) "__ne__" = some (some (.builtin "object.__ne__"))) (hob : PySem.W.subIn X.K (.ref C) (.type "object") = some true)
    (F : FnOk X.prog X.w X.K X.mg X.base CX0 k f fd ps sp) (hr : Room (k + 1) X.A) (hb : Binds X.K fd ps []) : OpR X (compareOp .NotEq) (rCmpO X.K C sp not) := by
  intro pins s σ H x y v u Q I rx ry h
  obtain ⟨a, dx, fs, t, rfl, ha, ty, hn, h⟩ := h
  cases (show v = Value.ref a from rx)
  obtain ⟨mA, J, _⟩ := ins_get I.hok ha
  obtain ⟨od, J, _⟩ := J.look
  obtain ⟨m, hF⟩ := I.fr
  have lb := tyx_looks I ry ty
  have Xk := I.kIn
  have hu : X.A.units + 1 < cLine := by
    have z := hr.un
    omega
  show wpAny (model X.prog X.w) X.A (richCompare .NotEq (.ref a) u) _ _ s
  -- object.__ne__ asks __eq__
  have inner : wpAny (model X.prog X.w) X.A.in1 (Builtin.«object.__ne__» ⟨[.ref a, u], []⟩) (fun fin s' => ∃ c : Bool, fin = .done (.ret (.bool c)) ∧ EP X pins σ Q (.bool c) s') X.xe s := by
    unfold Builtin.«object.__ne__»
    refine wpAny_bind (wpAny_of_eq (a := (Value.ref a, [u])) rfl ?_)
    show wpAny _ _ (cRoomFor _ _ >>= _) _ _ s
    refine wpAny_bind (wpAny_cRoomFor hu ?_)
    refine wpAny_bind (m := callSpecialIfBound? (.ref a) (Str.ofString "__eq__") [u]) (PySem.W.ifBound_K Xk J M.1 M.fn (wpAny_mono (run_at (A1 := X.A.in1) F rfl hr.in1 hb I (.cons rx (.cons ry .nil)) h) (fun v s' hv => ?_) fun _ _ z => z))
    obtain ⟨v', H', I', rv, b, rfl, q⟩ := hv
    cases (show v = Value.bool b from rv)
    refine wpAny_bind (wpAny_truthy_bool (wpAny_pure ⟨_, rfl, .bl (!b), H', I', rfl, q⟩))
  have slot : Slot "object" "__ne__" "object.__ne__" := Slot.of (T := "object") (name := "__ne__") (owner := "object") (n := "__ne__") (by rw [typeLookup_type, builtinLookup_eq_fast]; kernel_rfl) (by decide +kernel) (by decide +kernel) (by decide +kernel) (.inl (by decide +kernel)) (by rw [isSubtype_type]; kernel_rfl)
  have chk : ∀ (M0 : Model) (A0 : Around) (E1 : Value → Shared → Prop) (Q1 : Unit → Shared → Prop), Q1 () s → wpAny M0 A0 (checkBuiltinCall "object.__ne__" ⟨[.ref a, u], []⟩) Q1 E1 s := by
    intro M0 A0 E1 Q1 hq
    simp only [checkBuiltinCall, PySem.F.cmpKind_ne, PySem.F.cmpSplit_ne]
    refine wpAny_bind ?_
    unfold isInstance
    refine wpAny_bind (J.type.here ((PySem.W.looks_subIn Xk hob).here ?_))
    have ha2 := PySem.F.cmpArgs_ne (.ref a) u
    cases hsig : Manifest.signature? "object.__ne__" with
    | none => exact wpAny_pure hq
    | some sig =>
      simp only [argsOk, hsig] at ha2
      have h2 : Bind.checkArgs "object.__ne__" sig ⟨[.ref a, u], []⟩ = pure () := ha2
      show wpAny M0 A0 (Bind.checkArgs "object.__ne__" sig ⟨[.ref a, u], []⟩) Q1 E1 _
      rw [h2]
      exact wpAny_pure hq
  have callne : wpAny (model X.prog X.w) X.A (call (.builtin "object.__ne__") [.ref a, u]) (fun r s' => ∃ c : Bool, r = .bool c ∧ EP X pins σ Q (.bool c) s') X.xe s := by
    refine wpAny_call (codeAny_call_builtin slot.plain PySem.F.cmpEntry_ne (chk _ _ _ _ ?_))
    refine wpAny_mono inner (fun fin s' hv => ?_) fun _ _ z => z
    obtain ⟨c, rfl, q⟩ := hv
    exact ⟨c, rfl, q⟩
  have one : wpAny (model X.prog X.w) X.A (tryCompare (.ref a) "__ne__" u) (fun r s' => ∃ z, r = some z ∧ EP X pins σ Q z s') X.xe s := by
    unfold tryCompare
    refine wpAny_bind ?_
    simp only [callSpecialIfBound?, bindSpecialIfBound?]
    refine wpAny_holding (wpAny_bind (wpAny_bind (wpAny_bind (J.type.here ((PySem.W.looks_findIn Xk hne).here ?_)))))
    refine wpAny_bind (wpAny_askSetting (wpAny_ite ?_))
    have tell : ∀ (g : List Value), g = [.ref a] → wpAny (model X.prog X.w) X.A (call (.builtin "object.__ne__") (g ++ [u]) >>= fun v => pure (some v)) (fun r s' => wpAny (model X.prog X.w) X.A (match r with | some .notImplemented | none => pure none | some v => pure (some v)) (fun r s' => ∃ z, r = some z ∧ EP X pins σ Q z s') X.xe s') X.xe s := fun g hg => by
      subst hg
      refine wpAny_bind (wpAny_mono callne (fun v s' hv => ?_) fun _ _ z => z)
      obtain ⟨c, rfl, q⟩ := hv
      exact wpAny_pure (wpAny_pure ⟨_, rfl, q⟩)
    simp only [ne_bind]
    split
    · exact wpAny_bind (wpAny_pure (wpAny_pure (tell _ rfl)))
    · exact wpAny_tryCatch (wpAny_bind (wpAny_pure (wpAny_pure (tell _ rfl))))
  unfold richCompare
  simp only [oneThing_ref]
  refine wpAny_holding (wpAny_bind (wpAny_cRoomFor (by omega) ?_))
  refine wpAny_bind (J.type.here (wpAny_bind (lb.here ?_)))
  split
  · rename_i q
    have e : PySem.W.subIn X.K t (.ref C) = some false := by
      rcases Bool.or_eq_true_iff.mp hn with e | e
      · rw [beq_iff_eq.mp e] at q
        simp at q
      · exact beq_iff_eq.mp e
    refine wpAny_bind ((PySem.W.looks_subIn Xk e).here ?_)
    simp only [Bool.false_eq_true, if_false]
    refine wpAny_bind (wpAny_mono one (fun r s' z => ?_) fun _ _ e => e)
    obtain ⟨v, rfl, hq⟩ := z
    exact wpAny_pure hq
  · refine wpAny_bind (wpAny_pure ?_)
    simp only [Bool.false_eq_true, if_false]
    refine wpAny_bind (wpAny_mono one (fun r s' z => ?_) fun _ _ e => e)
    obtain ⟨v, rfl, hq⟩ := z
    exact wpAny_pure hq
end
end Sw

set_option maxHeartbeats 4000000
namespace Sw
open PySem PySem.Spec PyProof.Rows L2
/-! ### a tuple read backwards -/
section
variable {prog : Program} {w : World} {A : Around} {E : Value → Shared → Prop} {s : Shared}
theorem applied_rev {sl : Addr} {vl vu vs : Value} {n : Nat} {Q : Int × Int × Nat → Shared → Prop} (hs : s.heap.IsSliceOf sl vl vu vs) (pl : IsPart vl none) (pu : IsPart vu none) (ps : IsPart vs (some (-1)))
    (h : Q ((n : Int) - 1, -1, n) s) : wpAny (model prog w) A (Builtin.Slice.sliceApplied (.ref sl) (pure (n : Int))) Q E s := by
  obtain ⟨os, g1, _, g3⟩ := id hs
  unfold Builtin.Slice.sliceApplied Builtin.Slice.sliceFields
  refine wpAny_bind (wpAny_bind (wpAny_field g1 g3 (x := vl) rfl (wpAny_bind (wpAny_field g1 g3 (x := vu) rfl (wpAny_bind (wpAny_field g1 g3 (x := vs) rfl (wpAny_pure ?_)))))))
  refine wpAny_bind (HT.slicePart_ ps ?_)
  show wpAny _ _ (if ((-1 : Int) == 0) = true then _ else _) _ _ s
  rw [if_neg (by decide)]
  refine wpAny_bind (HT.slicePart_ pl (wpAny_bind (HT.slicePart_ pu (wpAny_bind (wpAny_pure ?_)))))
  have e : Builtin.Slice.slicePlaces ((n : Int) - 1) (-1) (-1) = n := by
    unfold Builtin.Slice.slicePlaces
    rw [if_neg (by decide)]
    by_cases c : n = 0
    · subst c
      rfl
    · rw [if_pos (by omega), show (- -1 : Int) = 1 by decide, Int.ediv_one]
      omega
  show wpAny _ _ (pure ((n : Int) - 1, (-1 : Int), Builtin.Slice.slicePlaces ((n : Int) - 1) (-1) (-1))) _ _ s
  rw [e]
  exact wpAny_pure h
theorem pick_rev (xs : Array Value) : ((List.range xs.size).filterMap fun (k : Nat) => xs[((xs.size : Int) - 1 + (k : Int) * -1).toNat]?).toArray = xs.toList.reverse.toArray := by
  have e : (List.range xs.size).filterMap (fun (k : Nat) => xs[((xs.size : Int) - 1 + (k : Int) * -1).toNat]?) = ((List.range xs.size).map fun k => xs.size - 1 - k).filterMap (xs[·]?) := by
    rw [List.filterMap_map]
    congr 1
    funext k
    have : ((xs.size : Int) - 1 + (k : Int) * -1).toNat = xs.size - 1 - k := by omega
    rw [this]
    rfl
  rw [e, PySem.W.krv_range, List.filterMap_reverse, PySem.W.krv_all]
theorem getItem_rev {t sl : Addr} {items : Array Value} {vl vu vs : Value} {Q : Value → Shared → Prop} (ht : IsTup s.heap t items) (hs : s.heap.IsSliceOf sl vl vu vs) (pl : IsPart vl none) (pu : IsPart vu none) (ps : IsPart vs (some (-1)))
    (h : Q (.ref s.heap.objs.size) { s with heap := s.heap.push { cls := .type "tuple", data := .seq items.toList.reverse.toArray } }) (hz : items.size ≤ sizeLine) : wpAny (model prog w) A (getItem (.ref t) (.ref sl)) Q E s := by
  have hz2 : sizeOk (.seq items.toList.reverse.toArray) := by
    show items.toList.reverse.toArray.size ≤ sizeLine
    rw [List.size_toArray, List.length_reverse, Array.length_toList]
    exact hz
  obtain ⟨os, g1, g2, g3⟩ := id hs
  have hT : s.TypeIs (.ref sl) "slice" := ⟨os, g1, g2⟩
  unfold getItem
  try with_reducible refine wpAny_holding ?_
  first | refine wpAny_bind (wpAny_pure ?_) | skip
  refine wpAny_bind (wpAny_sequenceKey ht.typeIs (by decide) ?_)
  refine wpAny_bind (wpAny_callSpecial?_slot (name := Str.ofString "__getitem__") ht.typeIs PyProof.Rows.slot_tuple_getitem (wpAny_call_entry PyProof.Rows.slot_tuple_getitem ht.typeIs PyProof.Rows.entry_tuple_getitem ?_ (PyProof.Rows.args_tuple_getitem _ _)))
  show wpAny _ _ (Builtin.Tuple.tupleItemsOf (.ref t) >>= _) _ _ s
  refine wpAny_bind (PyProof.Rows.tupleItemsOf_ ht (wpAny_bind (wpAny_typeOf hT ?_)))
  rw [if_pos (by decide)]
  refine wpAny_bind (applied_rev hs pl pu ps ?_)
  have no : ¬ ((((items.size : Int) - 1) == 0 && (-1 : Int) == 1 && items.size == items.size) = true) := by simp
  show wpAny _ _ (if (((items.size : Int) - 1) == 0 && (-1 : Int) == 1 && items.size == items.size) = true then _ else _) _ _ s
  rw [if_neg no, pick_rev]
  first
    | exact wpAny_bind (m := Builtin.Tuple.tupleExact _) (wpAny_newObj_type (wpAny_pure ⟨_, rfl, wpAny_pure h⟩) hz2)
    | exact wpAny_bind (wpAny_bind (m := Builtin.Tuple.tupleExact _) (wpAny_newObj_type (wpAny_pure ⟨_, rfl, wpAny_pure h⟩) hz2))
    | exact wpAny_bind (wpAny_bind (m := Builtin.Tuple.tupleExact _) (wpAny_newObj_type (wpAny_pure (wpAny_pure ⟨_, rfl, wpAny_pure h⟩)) hz2))
end
section
variable {X : Cx}
def tRevT (K : PySem.W.Frag) (te : TE) : TE := fun σ H Q => te σ H fun x H1 => ∃ a xs, x = .ref a ∧ SqT K H1 a xs ∧ ∀ p, H1 p = none → Q (.ref p) (upd H1 p (.tup xs.reverse))
theorem pe_revT {e : Expr} {te : TE} {k : Nat} {p1 p2 p3 pos : Pos} (he : PE X e te) : PE X (.Subscript e (.Slice none none (some (.UnaryOp .USub (.Constant (.int 1) k p1) p2)) p3) pos) (tRevT X.K te) := by
  refine ⟨fun pins s σ H Q I h => Subscript_ (thn (he.run pins s σ H _ I h) fun v s1 ⟨x, H1, I1, r1, q1⟩ => ?_)⟩
  obtain ⟨a, xs, rfl, hx, q⟩ := q1
  cases r1
  have hm : PO X (some (.UnaryOp .USub (.Constant (.int 1) k p1) p2)) (tPart (tUn (rU fun i => .int (-i)) (tC (.int 1)))) := po_some (pe_un un_neg pe_int)
  refine wpAny_Slice (thn (po_none.run pins s1 σ H1 (fun o H2 => o = none ∧ H2 = H1) I1 ⟨rfl, rfl⟩) fun vl s2 ⟨l, H2, I2, pl, el, e2⟩ => ?_)
  subst el e2
  refine thn (po_none.run pins s2 σ H2 (fun o H3 => o = none ∧ H3 = H2) I2 ⟨rfl, rfl⟩) fun vu s3 ⟨u, H3, I3, pu, eu, e3⟩ => ?_
  subst eu e3
  refine thn (hm.run pins s3 σ H3 (fun o H4 => o = some (-1) ∧ H4 = H3) I3 ⟨1, rfl, -1, rfl, rfl, rfl⟩) fun vm s4 ⟨o, H4, I4, pm, eo, e4⟩ => ?_
  subst eo e4
  have I5 : Inv X pins σ H4 { s4 with heap := s4.heap.push { cls := .type "slice", data := .fields #[vl, vu, vm] } } := I4.kept (t' := s4.toks) fun b ob q => Heap.get?_push_of_some _ q
  obtain ⟨its, r, ht, hz⟩ := I5.tuple hx
  have hlen := r.length
  show wpAny (model X.prog X.w) X.A (subscriptTail e (.Slice none none (some (.UnaryOp .USub (.Constant (.int 1) k p1) p2)) p3) (.ref a) (.ref s4.heap.objs.size)) (EP X pins σ Q) X.xe { s4 with heap := s4.heap.push { cls := .type "slice", data := .fields #[vl, vu, vm] } }
  refine tail_any (ops := [.ref a, .ref s4.heap.objs.size]) ht.typeIs (PyProof.Rows.slot_tuple_getitem.lookup) ?_ (by with_unfolding_all rfl)
  refine getItem_rev ht (Heap.IsSliceOf.new _ vl vu vm) pl pu pm ?_ (by rw [List.size_toArray]; omega)
  refine ⟨.ref _, _, I5.laid (t' := s4.toks) (o := .tup xs.reverse) (fun b ob q => Heap.get?_push_of_some _ q) (Nat.le_refl _) ?_, rfl, q _ (I5.hok.fresh (Nat.le_refl _))⟩
  exact ⟨by rw [List.length_reverse]; exact hz, _, r.reverse, IsTup.new _ _⟩
end
/-! ### set(xs) of a list of ints -/
abbrev bare (w : World) : Obj := { cls := .type "set", dict := none, data := .set #[] 0 (.fresh 0 0 (!w.params.followText "set-order")) }
section
variable {P : Program} {w : World} {A : Around} {E : Value → Shared → Prop} {s : Shared}
theorem call_set_lst {x : Addr} {us : Array Value} (ns : List Int) {Q : Value → Shared → Prop} (calm : A.handled = none) (hx : s.heap.IsList x us) (hi : IntsAre us.toList ns) (room : ns.length + 1 < scanBound)
    (q : ∀ (h' : Heap) (tk c : Nat), SetR w h' s.heap.objs.size (fun j => decide (j ∈ ns)) c → c ≤ ns.length → (∀ b o, s.heap.get? b = some o → h'.get? b = some o) → Q (.ref s.heap.objs.size) { s with heap := h', toks := tk }) :
    wpAny (model P w) A (call (.type "set") [.ref x]) Q E s := by
  have len : us.size = ns.length := by
    have z := IntsAre.length hi
    rwa [Array.length_toList] at z
  obtain ⟨mc, mt, hmr⟩ := F.called_set.mro
  have hmd := F.called_set.made
  have hsb := F.called_set.sub
  refine wpAny_call (codeAny_of_tree (?_ : wpAny _ _ (callAny (.type "set") _) _ _ _))
  refine wpAny_pure ⟨Code.quiet_builtin _ (by decide +kernel), codeAny_builtin F.entry_type_call ?_⟩
  rw [Around.under_plain (weight_type_call_type "set" [.ref x] []) rfl]
  have k1 := F.called_set.notType
  have k2 := F.called_set.canCreate
  have k3 := F.typeCall_set_1 (.ref x)
  repeat (any_goals (first | assumption | wp_step))
  refine codeAny_mono (code_set_led1 (.ref x) (E := E) (Q₁ := fun ob s1 => ob = .ref s.heap.objs.size ∧ s1 = { s with heap := s.heap.push (bare w) }) ⟨rfl, rfl⟩) fun r s1 hr => ?_
  cases r with
  | error e => exact hr
  | ok fl =>
    cases fl with
    | ret ob =>
      obtain ⟨rfl, rfl⟩ := hr
      have at0 : (s.heap.push (bare w)).get? s.heap.objs.size = some (bare w) := Heap.get?_push_size _ rfl
      have ty0 : Shared.TypeIs { s with heap := s.heap.push (bare w) } (.ref s.heap.objs.size) "set" := ⟨_, at0, rfl⟩
      have k4 := F.called_set.init.lookup
      have k5 := F.called_set.init.bind (.ref s.heap.objs.size)
      repeat (any_goals (first | assumption | wp_step))
      refine codeAny_mono (codeAny_call_builtin (R := wants (fun r s2 => r = .none ∧ ∃ h' tk c, s2 = { s with heap := h', toks := tk } ∧ SetR w h' s.heap.objs.size (fun j => decide (j ∈ ns)) c ∧ c ≤ ns.length ∧ (∀ b o, s.heap.get? b = some o → h'.get? b = some o)) E) F.called_set.init.plain F.entry_set_init (check_set_init_1 ty0 ?_)) fun r2 s2 hr2 => ?_
      · obtain ⟨⟨oc, od, oda, osl⟩, hox, hc, nl, hd⟩ := hx
        simp only at hc hd
        subst hc hd
        have hox2 : (s.heap.push (bare w)).get? x = some { cls := .type "list", dict := od, data := .seq us nl, slots := osl } := Heap.get?_push_of_some _ hox
        have k6 := F.sub_list_set
        have k7 := F.sub_list_frozenset
        have k8 : (Value.type "list" == Value.type "dict") = false := by decide
        have hx2 : (s.heap.push (bare w)).IsList x us := ⟨_, hox2, rfl, nl, rfl⟩
        unfold Builtin.«set.__init__» noKeywords Builtin.Frozenset.updateFrom
        generalize hPI : pyIter = PI
        wp_walk
        subst hPI
        refine wpAny_pyIter_list hx2 (wpAny_bind (wpAny_runValue ?_))
        have lx : x < s.heap.objs.size := Heap.lt_size hox
        have calm3 : A.in1.in1.in1.handled = none := by simp [calm]
        have sz1 : (s.heap.push (bare w)).objs.size = s.heap.objs.size + 1 := Heap.size_push ..
        have ne1 : x ≠ (s.heap.push (bare w)).objs.size := by
          rw [sz1]
          exact Nat.ne_of_lt (Nat.lt_succ_of_lt lx)
        have off : s.heap.objs.size ∉ [(s.heap.push (bare w)).objs.size, x] := by
          rw [sz1]
          exact fun m => (List.mem_cons.mp m).elim (fun z => absurd z (Nat.ne_of_lt (Nat.lt_succ_self _))) fun m => absurd (List.mem_singleton.mp m) (Nat.ne_of_gt lx)
        have vals : ∀ (i : Nat) (v : Value), us[i]? = some v → ∃ k t, ns[i]? = some k ∧ v = .int k t := fun i v hv => by
          have li : i < ns.length := by
            rw [← len]
            exact (Array.getElem?_eq_some_iff.mp hv).1
          obtain ⟨t, e⟩ := PyProof.Rows.IntsAre.int_at hi i v (by rwa [Array.getElem?_toList])
          exact ⟨ns[i], t, List.getElem?_eq_getElem li, by rw [e, List.getD_eq_getElem?_getD, List.getElem?_eq_getElem li]; rfl⟩
        refine set_update_ints ((Walks.list calm3 _ x ne1 us).toS) s.heap.objs.size off ns len room vals (us.size - 0) 0 _ (by omega) (Nat.zero_le _) ⟨⟨_, Heap.get?_push_size _ rfl, rfl, rfl⟩, (hx2.push _)⟩ ⟨0, Nat.le_refl 0, setR_new_at (Heap.get?_push_of_some _ (Heap.get?_push_size _ rfl))⟩ ?_
        intro s' c' mv hc' R'
        obtain ⟨h', g2, d', tk', os'⟩ := s'
        have eg : g2 = s.gens := mv.gens
        have ed : d' = s.drawn := mv.drawn
        have eo : os' = s.os := mv.os
        subst eg ed eo
        show wpAny _ _ _ _ _ _
        refine wpAny_pure (?_ : wpAny _ _ (ret Value.none) _ _ _)
        rw [len] at hc'
        refine wpAny_pure ⟨rfl, h', tk', c', rfl, R', hc', fun b o e => ?_⟩
        have lb : b < s.heap.objs.size := Heap.lt_size e
        refine mv.heap b o ?_ (Heap.get?_push_of_some _ (Heap.get?_push_of_some _ e))
        rw [sz1]
        exact fun m => (List.mem_cons.mp m).elim (Nat.ne_of_lt lb) fun m => absurd (List.mem_singleton.mp m) (Nat.ne_of_lt (Nat.lt_succ_of_lt lb))
      · cases r2 with
        | error e => exact hr2
        | ok fl2 =>
          cases fl2 with
          | ret r =>
            obtain ⟨rfl, h', tk, c', rfl, R', hc', kk⟩ := hr2
            repeat (any_goals (first | assumption | wp_step))
            exact q _ _ _ R' hc' kk
          | _ => first | exact hr2 | exact hr2.elim | cases hr2
    | _ => first | exact hr | exact hr.elim | cases hr
end
section
variable {X : Cx}
def rSetLst (K : PySem.W.Frag) (w : World) : List V → Hp → VK → Prop := fun xs H Q => ∃ (l : Addr) (ns : List Int), xs = [.ref l] ∧ SqL K H l (ns.map V.int) ∧ ns.length < 64 ∧ ∀ (p : Addr) (c : Nat), H p = none → c ≤ ns.length → Q (.ref p) (upd H p (SetO w p (fun j => decide (j ∈ ns)) c))
theorem cr_setL (hc : X.calm = true) : CallR X (.type "set") (rSetLst X.K X.w) := by
  intro pins s σ H xs us Q I r h
  obtain ⟨l, ns, rfl, hq, l64, q⟩ := h
  rw [Vals.ref1 r]
  obtain ⟨its, rv, p, hz⟩ := I.list hq
  refine call_set_lst ns (I.ok.hd hc) p.isList (by simpa using ints_of_vals rv) (by unfold scanBound; omega) fun h' tk c R hcn k => ?_
  exact ⟨.ref _, upd H s.heap.objs.size (SetO X.w s.heap.objs.size (fun j => decide (j ∈ ns)) c), I.laid (t' := tk) k (Nat.le_refl _) (setO_new R), rfl, q _ c (I.hok.fresh (Nat.le_refl _)) hcn⟩
end
end Sw

set_option maxHeartbeats 4000000
namespace Sw
open PySem PySem.Spec PyProof.Rows L2
/-! ### sum of a tuple of ints -/
theorem preSum_take (ns : List Int) : ∀ k, k ≤ ns.length → preSum (fun i => ns.getD i 0) k = (ns.take k).sum
  | 0, _ => by simp [preSum]
  | k + 1, h => by
    have e : ns[k]? = some ns[k] := by simp
    simp only [preSum]
    rw [preSum_take ns k (by omega), List.take_add_one, e, List.sum_append]
    simp [List.getD_eq_getElem?_getD, e]
section
variable {prog : Program} {w : World} {A : Around} {E : Value → Shared → Prop} {s : Shared}
theorem sum_tup {l : Addr} {its : List Value} {ns : List Int} {Q : Value → Shared → Prop} (hh : A.handled = none) (ht : s.heap.IsTuple l its.toArray) (hi : IntsAre its ns)
    (h : ∀ h' tk t', (∀ b o, s.heap.get? b = some o → h'.get? b = some o) → Q (.int ns.sum t') { s with heap := h', toks := tk }) : wpAny (model prog w) A (call (.builtin "sum") [.ref l]) Q E s := by
  have hlt : l < s.heap.objs.size := by
    obtain ⟨_, e, _⟩ := ht
    exact Heap.lt_size e
  refine call_sum_walkG (wpAny_pyIter_tuple ht ?_)
  refine ⟨_, _, _, _, _, _, fun i => ns.getD i 0, rfl, Walks.tuple (A := A.in1) hh _ l (Nat.ne_of_lt hlt) its.toArray, ⟨⟨_, Heap.get?_push_size _ rfl, rfl, rfl⟩, ht.push _⟩, fun b hb => ?_, fun i v hv => ?_, fun h' tk t' hk => ?_⟩
  · have sz : (s.heap.push { cls := .type "tuple_iterator", data := .fields #[.ref l, .int 0 0] }).objs.size = s.heap.objs.size + 1 := Heap.size_push ..
    rw [sz]
    rcases List.mem_cons.mp hb with z | z
    · rw [z]
      exact Nat.lt_succ_self _
    · rw [List.mem_singleton.mp z]
      exact Nat.lt_succ_of_lt hlt
  · exact PyProof.Rows.IntsAre.int_at hi i v (by simpa using hv)
  · have e : preSum (fun i => ns.getD i 0) its.toArray.size = ns.sum := by
      rw [List.size_toArray, hi.length, preSum_take ns _ (Nat.le_refl _), List.take_length]
    rw [e]
    refine h h' tk t' fun b o g => hk b o (fun m => ?_) (Heap.get?_push_of_some _ g)
    have := Heap.lt_size g
    rw [List.mem_singleton.mp m] at this
    exact absurd this (Nat.lt_irrefl _)
end
section
variable {X : Cx} {K : PySem.W.Frag}
def rSumQ (K : PySem.W.Frag) : List V → Hp → VK → Prop := fun vs H Q => ∃ (a : Addr) (ns : List Int), vs = [V.ref a] ∧ SqT K H a (ns.map V.int) ∧ Q (.int ns.sum) H
theorem cr_sumQ (hc : X.calm = true) : CallR X (.builtin "sum") (rSumQ X.K) := by
  intro pins s σ H vs us Q I r h
  obtain ⟨a, ns, rfl, hs, q⟩ := h
  obtain ⟨its, rv, hl, _⟩ := I.tuple hs
  rw [Vals.ref1 r]
  exact sum_tup (I.ok.hd hc) (show s.heap.IsTuple a its.toArray from hl) rv.ints fun h' tk t' hk => ⟨.int _, H, I.kept hk, ⟨_, rfl⟩, q⟩
theorem kSet {w : World} (hw : X.w = w) (hK : X.K = K) (hc : X.calm = true) : CallR X (.type "set") (rSetLst K w) := by
  subst hw hK
  exact cr_setL hc
theorem kSortSet {w : World} (hw : X.w = w) (hc : X.calm = true) : CallR X (.builtin "sorted") (rSortedSet w) := by
  subst hw
  exact cr_sortedSet hc
theorem kZipS {e e2 : Expr} {ta : TA} {p pos tpos : Pos} {elts : List Expr} {kk : Nat} (h : X.K = K) (hg : Gl X "zip") (hm : X.mg "zip" = none) (ha : PA X [e, e2] ta)
    (hs : starEach [e, e2] X.env = (false, eval e X.env) :: starEach [e2] X.env := by rfl) (hpl : (backTo pos (starEach [e2] X.env)).any (·.1) = false := by rfl) :
    PI X (.Tuple elts kk tpos) (.Call (.Name "zip" p) [e, e2] [] pos) (iZipS K ta) := by
  subst h
  exact pi_zipS hg hm ha hs hpl
end
end Sw

set_option maxHeartbeats 4000000
namespace Sw
open PySem PySem.Spec PyProof.Rows L2
/-! ### zip of any number of tuples -/
section
variable {M : Model} {A : Around} {E : Value → Shared → Prop}
theorem forIn_wp {α β : Type} {f : α → β → Sem (ForInStep β)} (I : Nat → β → Shared → Prop) (l : List α) (hs : ∀ k x b s, l[k]? = some x → I k b s → wpAny M A (f x b) (fun r s' => ∃ b', r = .yield b' ∧ I (k + 1) b' s') E s) {Q : β → Shared → Prop} (hd : ∀ b s, I l.length b s → Q b s) :
    ∀ b s, I 0 b s → wpAny M A (forIn l b f) Q E s := by
  have go : ∀ (l2 : List α) (k : Nat), l.drop k = l2 → k ≤ l.length → ∀ b s, I k b s → wpAny M A (forIn l2 b f) Q E s := by
    intro l2
    induction l2 with
    | nil =>
      intro k e hk b s h
      have z := congrArg List.length e
      rw [List.length_drop, List.length_nil] at z
      have : k = l.length := by omega
      subst this
      rw [List.forIn_nil]
      exact wpAny_pure (hd b s h)
    | cons x l2 ih =>
      intro k e hk b s h
      have hx : l[k]? = some x := by
        rw [← List.head?_drop, e]
        rfl
      have lk := (List.getElem?_eq_some_iff.mp hx).1
      rw [List.forIn_cons]
      refine wpAny_bind (wpAny_mono (hs k x b s hx h) (fun r s' hr => ?_) fun _ _ z => z)
      obtain ⟨b', rfl, h'⟩ := hr
      refine ih (k + 1) ?_ (by omega) b' s' h'
      rw [← List.drop_drop, e]
      rfl
  exact fun b s h => go l 0 (by simp) (Nat.zero_le _) b s h
theorem wp_alive {a : Addr} {Q : Option Obj → Shared → Prop} {s : Shared} (h : Q (s.heap.get? a) s) : wpAny M A (loadIfAlive a) Q E s := fun Γ p hp => by
  unfold loadIfAlive
  rw [Sem.wp_loadIfAlive, Sem.wp_pure]
  exact h
end
/-- the k-th iterator at place f k of the k-th tuple -/
def Its (h : Heap) (its ts : List Addr) (rows : List (Array Value)) (f : Nat → Nat) : Prop := ∀ (k : Nat) (it t : Addr) (us : Array Value), its[k]? = some it → ts[k]? = some t → rows[k]? = some us → h.IsTupleIter it t (f k) ∧ h.IsTuple t us
abbrev zobj (f0 f1 : Value) (TI TO : Addr) : Obj := { cls := .type "zip", data := .fields #[f0, f1, .bool false, .ref TI, .ref TO] }
abbrev tobj (vs : List Value) : Obj := { cls := .type "tuple", data := .seq vs.toArray }
structure SepN (z TI TO : Addr) (its ts : List Addr) : Prop where
  nd : its.Nodup
  zi : z ∉ its
  Ii : TI ∉ its
  Oi : TO ∉ its
  zt : z ∉ ts
  Ot : TO ∉ ts
  it : ∀ a ∈ its, a ∉ ts
  Iz : TI ≠ z
  Oz : TO ≠ z
  IO : TI ≠ TO
section
variable {prog : Program} {w : World} {A : Around} {E : Value → Shared → Prop} {s : Shared} {z TI TO : Addr} {its ts : List Addr} {rows : List (Array Value)} {i : Nat}
/-- how the heap stands amid a turn: as far as k -/
structure Amid (h0 h : Heap) (z TI TO : Addr) (its ts : List Addr) (rows : List (Array Value)) (i k : Nat) (f0 f1 : Value) (os : List Value) : Prop where
  zo : h.get? z = some (zobj f0 f1 TI TO)
  ti : h.get? TI = some (tobj (its.map Value.ref))
  to : h.get? TO = some (tobj os)
  st : Its h its ts rows fun j => if j < k then i + 1 else i
  sz : h.objs.size = h0.objs.size
  kp : ∀ c o, c ≠ z → c ≠ TO → c ∉ its → h0.get? c = some o → h.get? c = some o
/-- one iterator more -/
theorem Amid.step {h0 h h' : Heap} {k : Nat} {f0 f1 : Value} {os : List Value} {it t : Addr} (S : SepN z TI TO its ts) (a : Amid h0 h z TI TO its ts rows i k f0 f1 os) (e1 : its[k]? = some it) (e2 : ts[k]? = some t) (hs : Heap.SameBut it h h') (ni : h'.IsTupleIter it t (i + 1)) : Amid h0 h' z TI TO its ts rows i (k + 1) f0 f1 os := by
  have mi := List.mem_of_getElem? e1
  have ne : ∀ c, c ∉ its → c ≠ it := fun c n e => n (e ▸ mi)
  refine ⟨hs.extBut _ _ (ne _ S.zi) a.zo, hs.extBut _ _ (ne _ S.Ii) a.ti, hs.extBut _ _ (ne _ S.Oi) a.to, ?_, by rw [hs.1, a.sz], fun c o c1 c2 c3 e => hs.extBut _ _ (ne c c3) (a.kp c o c1 c2 c3 e)⟩
  intro j it' t' us g1 g2 g3
  obtain ⟨st1, st2⟩ := a.st j it' t' us g1 g2 g3
  have ht' : t' ≠ it := fun e => S.it it mi (e ▸ List.mem_of_getElem? g2)
  have st2' : h'.IsTuple t' us := st2.at fun o e => hs.extBut _ _ ht' e
  by_cases c : j = k
  · subst c
    rw [e1] at g1
    rw [e2] at g2
    cases g1
    cases g2
    exact ⟨by show h'.IsTupleIter it t (if j < j + 1 then i + 1 else i); rw [if_pos (Nat.lt_succ_self _)]; exact ni, st2'⟩
  · have n2 : it' ≠ it := fun e => c (by
      obtain ⟨l1, q1⟩ := List.getElem?_eq_some_iff.mp g1
      obtain ⟨l2, q2⟩ := List.getElem?_eq_some_iff.mp e1
      exact (List.getElem_inj S.nd).mp (q1.trans (e.trans q2.symm)))
    have e3 : (if j < k + 1 then i + 1 else i) = (if j < k then i + 1 else i) := by
      by_cases d : j < k
      · rw [if_pos d, if_pos (by omega)]
      · rw [if_neg d, if_neg (by omega)]
    exact ⟨by show h'.IsTupleIter it' t' (if j < k + 1 then i + 1 else i); rw [e3]; exact Heap.IsTupleIter.at st1 fun o e => hs.extBut _ _ n2 e, st2'⟩
theorem Amid.put {h0 h h' : Heap} {k : Nat} {f0 f1 : Value} {os os' : List Value} (S : SepN z TI TO its ts) (a : Amid h0 h z TI TO its ts rows i k f0 f1 os) (hs : Heap.SameBut TO h h') (ho : h'.get? TO = some (tobj os')) : Amid h0 h' z TI TO its ts rows i k f0 f1 os' := by
  refine ⟨hs.extBut _ _ S.Oz.symm a.zo, hs.extBut _ _ S.IO a.ti, ho, ?_, by rw [hs.1, a.sz], fun c o c1 c2 c3 e => hs.extBut _ _ c2 (a.kp c o c1 c2 c3 e)⟩
  intro j it' t' us g1 g2 g3
  obtain ⟨st1, st2⟩ := a.st j it' t' us g1 g2 g3
  exact ⟨Heap.IsTupleIter.at st1 fun o e => hs.extBut _ _ (fun q => S.Oi (q ▸ List.mem_of_getElem? g1)) e, st2.at fun o e => hs.extBut _ _ (fun q => S.Ot (q ▸ List.mem_of_getElem? g2)) e⟩
theorem Amid.mark {h0 h h' : Heap} {k : Nat} {f0 f1 g0 g1 : Value} {os : List Value} (S : SepN z TI TO its ts) (a : Amid h0 h z TI TO its ts rows i k f0 f1 os) (hs : Heap.SameBut z h h') (hz : h'.get? z = some (zobj g0 g1 TI TO)) : Amid h0 h' z TI TO its ts rows i k g0 g1 os := by
  refine ⟨hz, hs.extBut _ _ S.Iz a.ti, hs.extBut _ _ S.Oz a.to, ?_, by rw [hs.1, a.sz], fun c o c1 c2 c3 e => hs.extBut _ _ c1 (a.kp c o c1 c2 c3 e)⟩
  intro j it' t' us e1 e2 e3
  obtain ⟨st1, st2⟩ := a.st j it' t' us e1 e2 e3
  exact ⟨Heap.IsTupleIter.at st1 fun o e => hs.extBut _ _ (fun q => S.zi (q ▸ List.mem_of_getElem? e1)) e, st2.at fun o e => hs.extBut _ _ (fun q => S.zt (q ▸ List.mem_of_getElem? e2)) e⟩
/-- what the turn tells -/
def tells (rows : List (Array Value)) (i : Nat) : List Value := rows.map fun us => us.getD i .none
theorem tells_len (rows : List (Array Value)) (i : Nat) : (tells rows i).length = rows.length := by simp [tells]
/-- how the heap stands behind a turn -/
structure Turned (h0 h : Heap) (z TI TO : Addr) (its ts : List Addr) (rows : List (Array Value)) (i : Nat) : Prop where
  zo : ∃ g0 g1, h.get? z = some (zobj g0 g1 TI TO) ∧ (g0 = .none ∨ ∃ a, g0 = rawInt a)
  ti : h.get? TI = some (tobj (its.map Value.ref))
  to : ∃ os, os.length = its.length ∧ h.get? TO = some (tobj os)
  st : Its h its ts rows fun _ => i + 1
  tup : h.get? h0.objs.size = some (tobj (tells rows i))
  kp : ∀ c o, c ≠ z → c ≠ TO → c ∉ its → h0.get? c = some o → h.get? c = some o
/-- one turn of an iterator -/
theorem draw_at {h0 : Heap} {k : Nat} {f0 f1 : Value} {os : List Value} {it t : Addr} {us : Array Value} {Q : Value → Shared → Prop} (hh : A.handled = none) (S : SepN z TI TO its ts) (a : Amid h0 s.heap z TI TO its ts rows i k f0 f1 os) (e1 : its[k]? = some it) (e2 : ts[k]? = some t) (e3 : rows[k]? = some us) (hi : i < us.size)
    (hQ : ∀ h' tk, Amid h0 h' z TI TO its ts rows i (k + 1) f0 f1 os → Q (us.getD i .none) { s with heap := h', toks := tk }) : wpAny (model prog w) A (Builtin.SmallTypes.nextOf (.ref it)) Q E s := by
  obtain ⟨st1, st2⟩ := a.st k it t us e1 e2 e3
  have st1 : s.heap.IsTupleIter it t (if k < k then i + 1 else i) := st1
  rw [if_neg (Nat.lt_irrefl _)] at st1
  have nt : t ≠ it := fun e => S.it it (List.mem_of_getElem? e1) (e ▸ List.mem_of_getElem? e2)
  refine (Draws.tuple (prog := prog) (w := w) hh it t nt us).item i s Q E hi ⟨st1, st2⟩ fun x h' tk hx st' hs => ?_
  have hx : us[i]? = some x := hx
  have : x = us.getD i .none := by
    rw [Array.getD_eq_getD_getElem?, hx]
    rfl
  rw [this]
  exact hQ h' tk (a.step S e1 e2 hs st'.1)
theorem next_free {f0 f1 : Value} {os : List Value} {x : Addr} {rest : List Addr} {Q : Value → Shared → Prop} (hh : A.handled = none) (S : SepN z TI TO (x :: rest) ts) (a : Amid s.heap s.heap z TI TO (x :: rest) ts rows i 0 f0 f1 os) (hf : f0 = .none ∨ ∃ n, f0 = rawInt n ∧ (s.heap.get? n.toNat).isNone = true) (l1 : (x :: rest).length = ts.length) (l2 : rows.length = (x :: rest).length) (l3 : os.length = (x :: rest).length) (hi : ∀ us ∈ rows, i < us.size) (small : (x :: rest).length ≤ 1000)
    (hQ : ∀ h' tk, Turned s.heap h' z TI TO (x :: rest) ts rows i → Q (.ref s.heap.objs.size) { s with heap := h', toks := tk }) :
    wpAny (model prog w) A (Builtin.«zip.__next__» ⟨[.ref z], []⟩) (fun fin s' => ∃ v, fin = .done (.ret v) ∧ Q v s') E s := by
  obtain ⟨hp, g, d, tk0, os0⟩ := s
  show wpAny _ _ (field (.ref z) 2 >>= _) _ _ _
  refine wpAny_bind (wpAny_field a.zo rfl (x := .bool false) rfl ?_)
  show wpAny _ _ (field (.ref z) 3 >>= _) _ _ _
  refine wpAny_bind (wpAny_field a.zo rfl (x := .ref TI) rfl (wpAny_bind (wpAny_seqItems a.ti rfl ?_)))
  show wpAny _ _ (Builtin.SmallTypes.ownedTupleIsFree (.ref z) >>= _) _ _ _
  refine wpAny_bind (wpAny_mono (Q := fun c s' => c = true ∧ s' = ⟨hp, g, d, tk0, os0⟩) ?_ (fun c s' hc => ?_) fun _ _ e => e)
  · unfold Builtin.SmallTypes.ownedTupleIsFree
    refine wpAny_bind (wpAny_field a.zo rfl (x := f0) rfl ?_)
    rcases hf with rfl | ⟨n, rfl, gone⟩
    · exact wpAny_pure ⟨rfl, rfl⟩
    · refine wpAny_bind (wp_alive ?_)
      have gone : (hp.get? n.toNat).isNone = true := gone
      simp only [gone, if_true]
      exact wpAny_pure ⟨rfl, rfl⟩
  obtain ⟨rfl, rfl⟩ := hc
  simp only [if_true]
  refine wpAny_bind (wpAny_rule (wpAny_bind (wpAny_field a.zo rfl (x := .ref TO) rfl ?_)))
  refine wpAny_bind (wpAny_setField_rec a.zo (by simp) fun g0 hz0 hs0 => ?_)
  replace hs0 : Heap.SameBut z hp g0 := hs0
  have a0 : Amid hp g0 z TI TO (x :: rest) ts rows i 0 .ellipsis f1 os := a.mark S hs0 hz0
  refine wpAny_bind ?_
  refine forIn_wp (fun k b s' => b = (none, ()) ∧ ∃ h tk os', s' = ⟨h, g, d, tk, os0⟩ ∧ Amid hp h z TI TO (x :: rest) ts rows i k .ellipsis f1 os' ∧ os'.length = (x :: rest).length ∧ ∀ j, j < k → os'[j]? = (tells rows i)[j]?) _ ?_ ?_ _ _ ⟨rfl, g0, tk0, os, rfl, a0, l3, fun j hj => absurd hj (Nat.not_lt_zero _)⟩
  · rintro k y b s' hy ⟨rfl, h, tk, os', rfl, ak, lo, ho⟩
    rw [List.getElem?_zipIdx, List.getElem?_map] at hy
    obtain ⟨v, hv, rfl⟩ := Option.map_eq_some_iff.mp hy
    obtain ⟨it, hit, rfl⟩ := Option.map_eq_some_iff.mp hv
    have lk := (List.getElem?_eq_some_iff.mp hit).1
    have e2 : ts[k]? = some ts[k] := by simp
    have e3 : rows[k]? = some rows[k] := by simp
    have ek : 0 + k = k := Nat.zero_add k
    refine wpAny_bind (wpAny_onRaise ?_)
    show wpAny _ _ (Builtin.SmallTypes.nextOf (.ref it) >>= _) _ _ ⟨h, g, d, tk, os0⟩
    refine wpAny_bind (draw_at (s := ⟨h, g, d, tk, os0⟩) hh S ak hit e2 e3 (hi _ (List.mem_of_getElem? e3)) fun h' tk' ak' => wpAny_pure ?_)
    refine wpAny_bind (wpAny_seqItems (s := ⟨h', g, d, tk', os0⟩) ak'.to rfl ?_)
    refine wpAny_bind (wpAny_updateSeq (s := ⟨h', g, d, tk', os0⟩) ak'.to rfl ?_ (_hz' := by
      rw [Array.size_setIfInBounds, List.size_toArray]
      have := small1000 (n := os'.length) (by omega)
      omega))
    refine wpAny_bind (wpAny_letGo (wpAny_pure ⟨_, rfl, rfl, _, tk', os'.set k (rows[k].getD i .none), rfl, ak'.put S (Heap.SameBut.update ..) ?_, by simpa using lo, fun j hj => ?_⟩))
    · rw [Heap.get?_update_self _ ak'.to rfl]
      simp [Obj.mapSeq, ek]
    · rw [List.getElem?_set]
      have er : (tells rows i)[k]? = some (rows[k].getD i .none) := by
        unfold tells
        rw [List.getElem?_map, e3]
        rfl
      by_cases c : k = j
      · subst c
        rw [if_pos rfl, if_pos (by omega), er]
      · rw [if_neg c]
        exact ho j (by omega)
  · rintro b s' ⟨rfl, h, tk, os', rfl, ak, lo, ho⟩
    have ek : ((x :: rest).map Value.ref).zipIdx.length = (x :: rest).length := by simp
    rw [ek] at ak ho
    have eo : os' = tells rows i := by
      apply List.ext_getElem?
      intro j
      by_cases c : j < (x :: rest).length
      · exact ho j c
      · rw [List.getElem?_eq_none (by omega), List.getElem?_eq_none (by rw [tells_len]; omega)]
    subst eo
    show wpAny _ _ (seqItems? (.ref TO) >>= _) _ _ ⟨h, g, d, tk, os0⟩
    refine wpAny_bind (wpAny_seqItems (s := ⟨h, g, d, tk, os0⟩) ak.to rfl ?_)
    refine wpAny_bind (wpAny_newTuple ?_ (by rw [tells_len]; exact Nat.le_of_lt (small1000 (by omega))))
    have hzlt : z < h.objs.size := Heap.lt_size ak.zo
    have hz6 : (h.push (tobj (tells rows i))).get? z = some (zobj .ellipsis f1 TI TO) := Heap.get?_push_of_some _ ak.zo
    show wpAny _ _ (Builtin.SmallTypes.ownedTupleHandOut (.ref z) (.ref h.objs.size) >>= _) _ _ ⟨h.push (tobj (tells rows i)), g, d, tk, os0⟩
    refine wpAny_bind ?_
    unfold Builtin.SmallTypes.ownedTupleHandOut
    refine wpAny_bind (wpAny_setField_rec hz6 (by simp) fun h7 hz7 hs7 => ?_)
    refine wpAny_setField_rec hz7 (by simp) fun h8 hz8 hs8 => ?_
    replace hs7 : Heap.SameBut z (h.push (tobj (tells rows i))) h7 := hs7
    replace hs8 : Heap.SameBut z h7 h8 := hs8
    have up : ∀ c o, c ≠ z → h.get? c = some o → h8.get? c = some o := fun c o c1 e => hs8.extBut _ _ c1 (hs7.extBut _ _ c1 (Heap.get?_push_of_some _ e))
    have esz : h.objs.size = hp.objs.size := ak.sz
    refine wpAny_pure ⟨_, rfl, ?_⟩
    have res := hQ h8 tk ⟨⟨_, _, hz8, .inr ⟨_, rfl⟩⟩, up _ _ S.Iz ak.ti, ⟨_, by rw [tells_len, l2], up _ _ S.Oz ak.to⟩, fun j it' t' us e1 e2 e3 => ?_, ?_, fun c o c1 c2 c3 e => up c o c1 (ak.kp c o c1 c2 c3 e)⟩
    · show Q (.ref h.objs.size) ⟨h8, g, d, tk, os0⟩
      rw [esz]
      exact res
    · obtain ⟨st1, st2⟩ := ak.st j it' t' us e1 e2 e3
      have lj := (List.getElem?_eq_some_iff.mp e1).1
      have st1 : h.IsTupleIter it' t' (if j < (x :: rest).length then i + 1 else i) := st1
      rw [if_pos lj] at st1
      exact ⟨Heap.IsTupleIter.at st1 fun o e => up _ _ (fun q => S.zi (q ▸ List.mem_of_getElem? e1)) e, st2.at fun o e => up _ _ (fun q => S.zt (q ▸ List.mem_of_getElem? e2)) e⟩
    · show h8.get? hp.objs.size = _
      rw [← esz]
      exact hs8.extBut _ _ (Nat.ne_of_gt hzlt) (hs7.extBut _ _ (Nat.ne_of_gt hzlt) (Heap.get?_push_size _ rfl))
theorem next_kept {f0 : Int} {f1 : Value} {os : List Value} {x : Addr} {rest : List Addr} {Q : Value → Shared → Prop} (hh : A.handled = none) (S : SepN z TI TO (x :: rest) ts) (a : Amid s.heap s.heap z TI TO (x :: rest) ts rows i 0 (rawInt f0) f1 os) (l1 : (x :: rest).length = ts.length) (l2 : rows.length = (x :: rest).length) (l3 : os.length = (x :: rest).length) (hi : ∀ us ∈ rows, i < us.size) (small : (x :: rest).length ≤ 1000) (alive : (s.heap.get? f0.toNat).isNone = false)
    (hQ : ∀ h' tk, Turned s.heap h' z TI TO (x :: rest) ts rows i → Q (.ref s.heap.objs.size) { s with heap := h', toks := tk }) :
    wpAny (model prog w) A (Builtin.«zip.__next__» ⟨[.ref z], []⟩) (fun fin s' => ∃ v, fin = .done (.ret v) ∧ Q v s') E s := by
  obtain ⟨hp, g, d, tk0, os0⟩ := s
  show wpAny _ _ (field (.ref z) 2 >>= _) _ _ _
  refine wpAny_bind (wpAny_field a.zo rfl (x := .bool false) rfl ?_)
  show wpAny _ _ (field (.ref z) 3 >>= _) _ _ _
  refine wpAny_bind (wpAny_field a.zo rfl (x := .ref TI) rfl (wpAny_bind (wpAny_seqItems a.ti rfl ?_)))
  show wpAny _ _ (Builtin.SmallTypes.ownedTupleIsFree (.ref z) >>= _) _ _ _
  refine wpAny_bind ?_
  unfold Builtin.SmallTypes.ownedTupleIsFree
  refine wpAny_bind (wpAny_field a.zo rfl (x := rawInt f0) rfl ?_)
  refine wpAny_bind (wp_alive ?_)
  have alive : (hp.get? f0.toNat).isNone = false := alive
  simp only [alive, Bool.false_eq_true, if_false]
  refine wpAny_bind (wpAny_field a.zo rfl (x := f1) rfl ?_)
  refine wpAny_mono (Q := fun c s' => c = false ∧ ∃ hq g1, s' = ⟨hq, g, d, tk0, os0⟩ ∧ Amid hp hq z TI TO (x :: rest) ts rows i 0 (rawInt f0) g1 os) ?_ (fun c s' hc => ?_) fun _ _ e => e
  · split
    · refine wpAny_bind (wpAny_setField_rec a.zo (by simp) fun h7 hz7 hs7 => wpAny_pure ⟨rfl, h7, _, rfl, a.mark S hs7 hz7⟩)
    · exact wpAny_pure ⟨rfl, hp, f1, rfl, a⟩
  obtain ⟨rfl, hq, g1, rfl, aq⟩ := hc
  simp only [Bool.false_eq_true, if_false]
  rw [← Array.forIn_toList]
  refine wpAny_bind ?_
  refine forIn_wp (fun k b s' => b = (none, ((tells rows i).take k).toArray) ∧ ∃ h tk, s' = ⟨h, g, d, tk, os0⟩ ∧ Amid hp h z TI TO (x :: rest) ts rows i k (rawInt f0) g1 os) _ ?_ ?_ _ _ ⟨rfl, hq, tk0, rfl, aq⟩
  · rintro k y b s' hy ⟨rfl, h, tk, rfl, ak⟩
    have hy : ((x :: rest).map Value.ref)[k]? = some y := hy
    rw [List.getElem?_map] at hy
    obtain ⟨it, hit, rfl⟩ := Option.map_eq_some_iff.mp hy
    have lk := (List.getElem?_eq_some_iff.mp hit).1
    have e2 : ts[k]? = some ts[k] := by simp
    have e3 : rows[k]? = some rows[k] := by simp
    refine wpAny_bind (wpAny_holding ?_)
    show wpAny _ _ (Builtin.SmallTypes.nextOf (.ref it) >>= _) _ _ ⟨h, g, d, tk, os0⟩
    refine wpAny_bind (draw_at (s := ⟨h, g, d, tk, os0⟩) hh S ak hit e2 e3 (hi _ (List.mem_of_getElem? e3)) fun h' tk' ak' => wpAny_pure ?_)
    refine wpAny_pure ⟨_, rfl, ?_, h', tk', rfl, ak'⟩
    have er : (tells rows i)[k]? = some (rows[k].getD i .none) := by
      unfold tells
      rw [List.getElem?_map, e3]
      rfl
    rw [List.take_add_one, er]
    simp
  · rintro b s' ⟨rfl, h, tk, rfl, ak⟩
    have ek : ((x :: rest).map Value.ref).toArray.toList.length = (x :: rest).length := by simp
    rw [ek] at ak ⊢
    have et : (tells rows i).take (x :: rest).length = tells rows i := List.take_of_length_le (by rw [tells_len]; omega)
    rw [et]
    show wpAny _ _ (newTuple (tells rows i) >>= _) _ _ ⟨h, g, d, tk, os0⟩
    refine wpAny_bind (wpAny_newTuple ?_ (by rw [tells_len]; exact Nat.le_of_lt (small1000 (by omega))))
    have up : ∀ c o, h.get? c = some o → (h.push (tobj (tells rows i))).get? c = some o := fun c o e => Heap.get?_push_of_some _ e
    have esz : h.objs.size = hp.objs.size := ak.sz
    refine wpAny_pure ⟨_, rfl, ?_⟩
    have res := hQ (h.push (tobj (tells rows i))) tk ⟨⟨_, _, up _ _ ak.zo, .inr ⟨_, rfl⟩⟩, up _ _ ak.ti, ⟨os, l3, up _ _ ak.to⟩, fun j it' t' us e1 e2 e3 => ?_, ?_, fun c o c1 c2 c3 e => up c o (ak.kp c o c1 c2 c3 e)⟩
    · show Q (.ref h.objs.size) ⟨h.push (tobj (tells rows i)), g, d, tk, os0⟩
      rw [esz]
      exact res
    · obtain ⟨st1, st2⟩ := ak.st j it' t' us e1 e2 e3
      have lj := (List.getElem?_eq_some_iff.mp e1).1
      have st1 : h.IsTupleIter it' t' (if j < (x :: rest).length then i + 1 else i) := st1
      rw [if_pos lj] at st1
      exact ⟨Heap.IsTupleIter.at st1 fun o e => up _ _ e, st2.at fun o e => up _ _ e⟩
    · show (h.push (tobj (tells rows i))).get? hp.objs.size = _
      rw [← esz]
      exact Heap.get?_push_size _ rfl
/-- the end: all are as long as one another, so the first one ends -/
theorem next_ends {f0 f1 : Value} {os : List Value} {x : Addr} {rest : List Addr} {Q : PySem.Fin → Shared → Prop} (hh : A.handled = none) (S : SepN z TI TO (x :: rest) ts) (a : Amid s.heap s.heap z TI TO (x :: rest) ts rows i 0 f0 f1 os) (hf : f0 = .none ∨ ∃ n, f0 = rawInt n) (l1 : (x :: rest).length = ts.length) (l2 : rows.length = (x :: rest).length) (hi : ∀ us ∈ rows, us.size = i)
    (hE : ∀ h' tk e, (∀ c o, c ≠ z → c ≠ TO → c ∉ x :: rest → s.heap.get? c = some o → h'.get? c = some o) → (∃ o, h'.get? e = some o ∧ o.cls = .type "StopIteration") → E (.ref e) { s with heap := h', toks := tk }) :
    wpAny (model prog w) A (Builtin.«zip.__next__» ⟨[.ref z], []⟩) Q E s := by
  obtain ⟨hp, g, d, tk0, os0⟩ := s
  have e1 : (x :: rest)[0]? = some x := rfl
  have lt0 : 0 < ts.length := by
    rw [← l1]
    simp
  have lr0 : 0 < rows.length := by
    rw [l2]
    simp
  have e2 : ts[0]? = some ts[0] := by simp
  have e3 : rows[0]? = some rows[0] := by simp
  have hlast : ∀ (hq : Heap) (g0 g1 : Value) (Q : Value → Shared → Prop) (E' : Value → Shared → Prop), Amid hp hq z TI TO (x :: rest) ts rows i 0 g0 g1 os → (∀ q e, Heap.ExtBut x hq q → (∃ o, q.get? e = some o ∧ o.cls = .type "StopIteration") → E' (.ref e) ⟨q, g, d, tk0, os0⟩) → wpAny (model prog w) A (Builtin.SmallTypes.nextOf (.ref x)) Q E' ⟨hq, g, d, tk0, os0⟩ := fun hq g0 g1 Q E' aq k => by
    obtain ⟨st1, st2⟩ := aq.st 0 x _ _ e1 e2 e3
    have st1 : hq.IsTupleIter x ts[0] (if 0 < 0 then i + 1 else i) := st1
    rw [if_neg (Nat.lt_irrefl _), ← hi _ (List.mem_of_getElem? e3)] at st1
    have nt : ts[0] ≠ x := fun e => S.it x (by simp) (e ▸ List.mem_of_getElem? e2)
    exact (Draws.tuple (prog := prog) (w := w) hh x _ nt _).done ⟨hq, g, d, tk0, os0⟩ Q E' ⟨st1, st2⟩ k
  have nx : ∀ c, c ∉ x :: rest → c ≠ x := fun c n e => n (by rw [e]; simp)
  have zx : z ≠ x := nx z S.zi
  show wpAny _ _ (field (.ref z) 2 >>= _) _ _ _
  refine wpAny_bind (wpAny_field a.zo rfl (x := .bool false) rfl ?_)
  show wpAny _ _ (field (.ref z) 3 >>= _) _ _ _
  refine wpAny_bind (wpAny_field a.zo rfl (x := .ref TI) rfl (wpAny_bind (wpAny_seqItems a.ti rfl ?_)))
  show wpAny _ _ (Builtin.SmallTypes.ownedTupleIsFree (.ref z) >>= _) _ _ _
  refine wpAny_bind (wpAny_mono (Q := fun c s' => ∃ hq g1, s' = ⟨hq, g, d, tk0, os0⟩ ∧ Amid hp hq z TI TO (x :: rest) ts rows i 0 f0 g1 os) ?_ (fun c s' hc => ?_) fun _ _ e => e)
  · unfold Builtin.SmallTypes.ownedTupleIsFree
    refine wpAny_bind (wpAny_field a.zo rfl (x := f0) rfl ?_)
    rcases hf with rfl | ⟨n, rfl⟩
    · exact wpAny_pure ⟨hp, f1, rfl, a⟩
    · refine wpAny_bind (wp_alive ?_)
      split
      · exact wpAny_pure ⟨hp, f1, rfl, a⟩
      · refine wpAny_bind (wpAny_field a.zo rfl (x := f1) rfl ?_)
        split
        · exact wpAny_bind (wpAny_setField_rec a.zo (by simp) fun h7 hz7 hs7 => wpAny_pure ⟨h7, _, rfl, a.mark S hs7 hz7⟩)
        · exact wpAny_pure ⟨hp, f1, rfl, a⟩
  obtain ⟨hq, g1, rfl, aq⟩ := hc
  cases c with
  | true =>
    simp only [if_true]
    refine wpAny_bind (wpAny_rule (wpAny_bind (wpAny_field aq.zo rfl (x := .ref TO) rfl ?_)))
    refine wpAny_bind (wpAny_setField_rec aq.zo (by simp) fun g0 hz0 hs0 => ?_)
    have a0 : Amid hp g0 z TI TO (x :: rest) ts rows i 0 .ellipsis g1 os := aq.mark S hs0 hz0
    refine wpAny_bind ?_
    simp only [List.map_cons, List.zipIdx_cons, List.forIn_cons]
    refine wpAny_bind (wpAny_bind (wpAny_onRaise ?_))
    show wpAny _ _ (Builtin.SmallTypes.nextOf (.ref x) >>= _) _ _ ⟨g0, g, d, tk0, os0⟩
    refine wpAny_bind (hlast g0 _ _ _ _ a0 fun q e hqx he => ?_)
    obtain ⟨oe, hoe, hce⟩ := he
    have hzq : q.get? z = some (zobj .ellipsis g1 TI TO) := hqx _ _ zx a0.zo
    have hez : e ≠ z := fun y => by
      subst y
      rw [hzq] at hoe
      cases hoe
      simp at hce
    refine wpAny_setField_rec (s := ⟨q, g, d, tk0, os0⟩) hzq (by simp) fun q' _ hq' => ?_
    replace hq' : Heap.SameBut z q q' := hq'
    exact hE q' tk0 e (fun c o cz cT ci y => hq'.extBut _ _ cz (hqx _ _ (nx c ci) (a0.kp c o cz cT ci y))) ⟨oe, hq'.extBut _ _ hez hoe, hce⟩
  | false =>
    simp only [Bool.false_eq_true, if_false]
    rw [← Array.forIn_toList]
    refine wpAny_bind ?_
    simp only [List.map_cons, List.forIn_cons]
    refine wpAny_bind (wpAny_bind (wpAny_holding ?_))
    show wpAny _ _ (Builtin.SmallTypes.nextOf (.ref x) >>= _) _ _ ⟨hq, g, d, tk0, os0⟩
    refine wpAny_bind (hlast hq _ _ _ _ aq fun q e hqx he => ?_)
    exact hE q tk0 e (fun c o cz cT ci y => hqx _ _ (nx c ci) (aq.kp c o cz cT ci y)) he
/-- pyNext of the zip -/
theorem zip_item {f0 f1 : Value} {os : List Value} {x : Addr} {rest : List Addr} {Q : Option Value → Shared → Prop} (hh : A.handled = none) (S : SepN z TI TO (x :: rest) ts) (a : Amid s.heap s.heap z TI TO (x :: rest) ts rows i 0 f0 f1 os) (hf : f0 = .none ∨ ∃ n, f0 = rawInt n) (l1 : (x :: rest).length = ts.length) (l2 : rows.length = (x :: rest).length) (l3 : os.length = (x :: rest).length) (hi : ∀ us ∈ rows, i < us.size) (small : (x :: rest).length ≤ 1000)
    (hQ : ∀ h' tk, Turned s.heap h' z TI TO (x :: rest) ts rows i → Q (some (.ref s.heap.objs.size)) { s with heap := h', toks := tk }) :
    wpAny (model prog w) A (pyNext (.ref z)) Q E s := by
  have hT : s.TypeIs (.ref z) "zip" := ⟨_, a.zo, rfl⟩
  have one : wpAny (model prog w) A.in1 (Builtin.«zip.__next__» ⟨[.ref z], []⟩) (fun fin s' => ∃ v, fin = .done (.ret v) ∧ (∃ h' tk, v = .ref s.heap.objs.size ∧ s' = { s with heap := h', toks := tk } ∧ Turned s.heap h' z TI TO (x :: rest) ts rows i)) (fun _ _ => False) s := by
    rcases hf with rfl | ⟨n, rfl⟩
    · exact next_free (A := A.in1) (by simpa using hh) S a (.inl rfl) l1 l2 l3 hi small fun h' tk t => ⟨h', tk, rfl, rfl, t⟩
    · cases e : (s.heap.get? n.toNat).isNone with
      | true => exact next_free (A := A.in1) (by simpa using hh) S a (.inr ⟨n, rfl, e⟩) l1 l2 l3 hi small fun h' tk t => ⟨h', tk, rfl, rfl, t⟩
      | false => exact next_kept (A := A.in1) (by simpa using hh) S a l1 l2 l3 hi small e fun h' tk t => ⟨h', tk, rfl, rfl, t⟩
  unfold pyNext
  refine wpAny_bind (wpAny_attempt (wpAny_callSpecial?_slot (name := Str.ofString "__next__") hT F.slot_zip_next (wpAny_call_entry F.slot_zip_next hT F.entry_zip_next ?_ (F.args_zip_next_1 _))))
  refine wpAny_mono one (fun fin s' hv => ?_) fun _ _ e => e.elim
  obtain ⟨v, rfl, h', tk, rfl, rfl, t⟩ := hv
  exact ⟨_, rfl, wpAny_pure (hQ h' tk t)⟩
theorem zip_end {f0 f1 : Value} {os : List Value} {x : Addr} {rest : List Addr} {Q : Option Value → Shared → Prop} (hh : A.handled = none) (S : SepN z TI TO (x :: rest) ts) (a : Amid s.heap s.heap z TI TO (x :: rest) ts rows i 0 f0 f1 os) (hf : f0 = .none ∨ ∃ n, f0 = rawInt n) (l1 : (x :: rest).length = ts.length) (l2 : rows.length = (x :: rest).length) (hi : ∀ us ∈ rows, us.size = i)
    (hQ : ∀ h' tk, (∀ c o, c ≠ z → c ≠ TO → c ∉ x :: rest → s.heap.get? c = some o → h'.get? c = some o) → Q none { s with heap := h', toks := tk }) : wpAny (model prog w) A (pyNext (.ref z)) Q E s := by
  have hT : s.TypeIs (.ref z) "zip" := ⟨_, a.zo, rfl⟩
  unfold pyNext
  refine wpAny_bind (wpAny_attempt (wpAny_callSpecial?_slot (name := Str.ofString "__next__") hT F.slot_zip_next (wpAny_call_entry F.slot_zip_next hT F.entry_zip_next ?_ (F.args_zip_next_1 _))))
  refine next_ends (A := A.in1) (by simpa using hh) S a hf l1 l2 hi fun h' tk e hk he => ?_
  obtain ⟨o, ho, hc⟩ := he
  refine wpAny_bind (wpAny_isInstance (T := "StopIteration") (b := true) ⟨o, ho, hc⟩ isSubtype_stop ?_)
  exact wpAny_pure (hQ _ _ hk)
end
/-! ### it begins -/
section
variable {prog : Program} {w : World} {A : Around} {E : Value → Shared → Prop} {s : Shared}
def itObj (t : Addr) : Obj := { cls := .type "tuple_iterator", data := .fields #[.ref t, .int 0 0] }
def pushAll (h : Heap) : List Addr → Heap
  | [] => h
  | t :: ts => pushAll (h.push (itObj t)) ts
theorem pushAll_size : ∀ (ts : List Addr) (h : Heap), (pushAll h ts).objs.size = h.objs.size + ts.length
  | [], h => rfl
  | t :: ts, h => by
    have e : (h.push (itObj t)).objs.size = h.objs.size + 1 := Heap.size_push ..
    rw [pushAll, pushAll_size ts, e, List.length_cons]
    omega
theorem pushAll_old : ∀ (ts : List Addr) (h : Heap) (c : Addr) (o : Obj), h.get? c = some o → (pushAll h ts).get? c = some o
  | [], h, c, o, e => e
  | t :: ts, h, c, o, e => pushAll_old ts _ c o (Heap.get?_push_of_some _ e)
theorem pushAll_at : ∀ (ts : List Addr) (h : Heap) (k : Nat) (t : Addr), ts[k]? = some t → (pushAll h ts).get? (h.objs.size + k) = some (itObj t)
  | [], h, k, t, e => by simp at e
  | u :: ts, h, 0, t, e => by
    cases e
    exact pushAll_old ts _ _ _ (Heap.get?_push_size _ rfl)
  | u :: ts, h, k + 1, t, e => by
    have z := pushAll_at ts (h.push (itObj u)) k t e
    have e2 : (h.push (itObj u)).objs.size = h.objs.size + 1 := Heap.size_push ..
    rw [e2] at z
    have e3 : h.objs.size + (k + 1) = h.objs.size + 1 + k := by omega
    rw [e3]
    exact z
def newIts (h : Heap) (n : Nat) : List Addr := (List.range n).map (h.objs.size + ·)
theorem iterAll_tup {ts : List Addr} {Q : List Value → Shared → Prop} (ht : ∀ t ∈ ts, ∃ us, s.heap.IsTuple t us) (h : Q ((newIts s.heap ts.length).map Value.ref) { s with heap := pushAll s.heap ts }) : wpAny (model prog w) A (Builtin.SmallTypes.iterAll (ts.map Value.ref)) Q E s := by
  unfold Builtin.SmallTypes.iterAll
  refine wpAny_bind ?_
  refine forIn_wp (fun k b s' => b = ((newIts s.heap k).map Value.ref).toArray ∧ s' = { s with heap := pushAll s.heap (ts.take k) }) _ ?_ ?_ _ _ ⟨rfl, rfl⟩
  · rintro k y b s' hy ⟨rfl, rfl⟩
    rw [List.getElem?_map] at hy
    obtain ⟨t, ht', rfl⟩ := Option.map_eq_some_iff.mp hy
    obtain ⟨us, hus⟩ := ht t (List.mem_of_getElem? ht')
    have lk := (List.getElem?_eq_some_iff.mp ht').1
    have hus' : (pushAll s.heap (ts.take k)).IsTuple t us := hus.at fun o e => pushAll_old _ _ _ _ e
    refine wpAny_bind (wpAny_holding (wpAny_pyIter_tuple hus' (wpAny_pure ⟨_, rfl, ?_, ?_⟩)))
    · have e : (pushAll s.heap (ts.take k)).objs.size = s.heap.objs.size + k := by
        rw [pushAll_size, List.length_take]
        omega
      unfold newIts
      rw [List.range_succ]
      simp [e]
    · have : ∀ (l : List Addr) (h : Heap), pushAll h (l ++ [t]) = (pushAll h l).push (itObj t) := by
        intro l
        induction l with
        | nil => intro h; rfl
        | cons a l ih => intro h; exact ih _
      rw [List.take_add_one, ht']
      show _ = { s with heap := pushAll s.heap (ts.take k ++ [t]) }
      rw [this]
      rfl
  · rintro b s' ⟨rfl, rfl⟩
    rw [List.length_map, List.take_length]
    exact wpAny_pure h
abbrev zT (h : Heap) (ts : List Addr) : Heap := (pushAll h ts).push (tobj ((newIts h ts.length).map Value.ref))
abbrev zO (h : Heap) (ts : List Addr) : Heap := (zT h ts).push (tobj ((newIts h ts.length).map fun _ => Value.none))
abbrev zZ (h : Heap) (ts : List Addr) : Heap := (zO h ts).push (zobj .none (.bool false) (pushAll h ts).objs.size (zT h ts).objs.size)
theorem meets_zipN (ts : List Addr) : Meets (Builtin.«zip.__new__» ⟨.type "zip" :: ts.map Value.ref, []⟩) (fun _ R s => ((∀ t ∈ ts, ∃ us, s.heap.IsTuple t us) ∧ ts.length ≤ 1000) ∧ R (.ok (.ret (.ref (zO s.heap ts).objs.size))) { s with heap := zZ s.heap ts }) :=
  .of_wp fun prog w A R s h => by
    obtain ⟨hp, g, d, tk, os⟩ := s
    obtain ⟨⟨h1, h2⟩, h⟩ := h
    have hsub := sub_zip
    have q1 : ∀ {A' : Around} {E : Value → Shared → Prop} {Q : List Value → Shared → Prop}, Q ((newIts hp ts.length).map Value.ref) ⟨pushAll hp ts, g, d, tk, os⟩ → wpAny (model prog w) A' (Builtin.SmallTypes.iterAll (ts.map Value.ref)) Q E ⟨hp, g, d, tk, os⟩ := fun q => iterAll_tup (s := ⟨hp, g, d, tk, os⟩) h1 q
    unfold Builtin.«zip.__new__»
    generalize hIA : Builtin.SmallTypes.iterAll = IA at q1
    generalize hNT : newTuple = NT
    generalize hNR : Builtin.SmallTypes.newRecord = NR
    wp_walk using q1
    subst hNT hNR
    have sz : (newIts hp ts.length).length ≤ 1000 := by simpa [newIts] using h2
    refine wpAny_newTuple ?_ (by rw [List.length_map]; exact Nat.le_of_lt (small1000 sz))
    refine wpAny_bind (wpAny_newTuple ?_ (by rw [List.length_map, List.length_map]; exact Nat.le_of_lt (small1000 sz)))
    unfold Builtin.SmallTypes.newRecord
    rw [List.map_map]
    exact wpAny_bind (wpAny_newObj_type (wpAny_pure ⟨_, rfl, h⟩) (by simp [sizeOk]; show 3 ≤ sizeLine; decide))
theorem zip_begins {ts : List Addr} {Q : Value → Shared → Prop} (ht : ∀ t ∈ ts, ∃ us, s.heap.IsTuple t us) (l5 : ts.length ≤ 5)
    (h : Q (.ref (zO s.heap ts).objs.size) { s with heap := zZ s.heap ts }) : wpAny (model prog w) A (call (.type "zip") (ts.map Value.ref)) Q E s := by
  have c1 : checkTypeCall "zip" ⟨ts.map Value.ref, []⟩ = pure () := by
    match ts, l5 with
    | [], _ => kernel_rfl
    | [_], _ => kernel_rfl
    | [_, _], _ => kernel_rfl
    | [_, _, _], _ => kernel_rfl
    | [_, _, _, _], _ => kernel_rfl
    | [_, _, _, _, _], _ => kernel_rfl
    | _ :: _ :: _ :: _ :: _ :: _ :: _, l => simp at l
  have c2 : checkBuiltinCall "zip.__new__" ⟨.type "zip" :: ts.map Value.ref, []⟩ = pure () := by
    match ts, l5 with
    | [], _ => kernel_rfl
    | [_], _ => kernel_rfl
    | [_, _], _ => kernel_rfl
    | [_, _, _], _ => kernel_rfl
    | [_, _, _, _], _ => kernel_rfl
    | [_, _, _, _, _], _ => kernel_rfl
    | _ :: _ :: _ :: _ :: _ :: _ :: _, l => simp at l
  have c3 : ∀ obj, argsOk "object.__init__" ⟨obj :: ts.map Value.ref, []⟩ := by
    intro obj
    unfold argsOk
    match ts, l5 with
    | [], _ => kernel_rfl
    | [_], _ => kernel_rfl
    | [_, _], _ => kernel_rfl
    | [_, _, _], _ => kernel_rfl
    | [_, _, _, _], _ => kernel_rfl
    | [_, _, _, _, _], _ => kernel_rfl
    | _ :: _ :: _ :: _ :: _ :: _ :: _, l => simp at l
  refine callType_new F.called_zip (by decide) c1 c2 c3 F.entry_zip_new (meets_zipN ts) ⟨⟨ht, by omega⟩, ?_⟩
  exact ⟨⟨_, Heap.get?_push_size _ rfl, rfl⟩, h⟩
end
end Sw

set_option maxHeartbeats 4000000
namespace Sw
open PySem PySem.Spec PyProof.Rows L2
/-! ### for x in zip(*rows) -/
def RowsAt (K : PySem.W.Frag) (H : Hp) (ts : List Addr) (xss : List (List V)) : Prop := ts.length = xss.length ∧ ∀ (k : Nat) (t : Addr) (xs : List V), ts[k]? = some t → xss[k]? = some xs → SqT K H t xs
def col (xss : List (List V)) (i : Nat) : List V := xss.map fun xs => xs.getD i .non
def ItN (K : PySem.W.Frag) (ts : List Addr) : It :=
  ⟨fun i H => ∃ xss, RowsAt K H ts xss ∧ ∀ xs ∈ xss, i < xs.length,
    fun i H v H' => ∃ T, v = .ref T ∧ H T = none ∧ ∃ ys, H' = upd H T (.tup ys) ∧ ∀ xss, RowsAt K H ts xss → ys = col xss i,
    fun i H => ∃ xss, RowsAt K H ts xss ∧ ∀ xs ∈ xss, xs.length = i⟩
section
variable {X : Cx} {pins : List (Addr × Obj)} {σ : L2.St} {H : Hp} {s : Shared}
theorem rows_of (I : Inv X pins σ H s) : ∀ {ts : List Addr} {xss : List (List V)}, RowsAt X.K H ts xss → ∃ rows : List (Array Value), rows.length = ts.length ∧ ∀ (k : Nat) (t : Addr) (xs : List V) (us : Array Value), ts[k]? = some t → xss[k]? = some xs → rows[k]? = some us → s.heap.IsTuple t us ∧ Vals xs us.toList ∧ us.size = xs.length
  | [], xss, _ => ⟨[], rfl, fun k t xs us e => by simp at e⟩
  | t :: ts, [], h => by
    have := h.1
    simp at this
  | t :: ts, xs :: xss, h => by
    obtain ⟨rows, l, al⟩ := rows_of I (ts := ts) (xss := xss) ⟨by simpa using h.1, fun k t xs e1 e2 => h.2 (k + 1) t xs e1 e2⟩
    obtain ⟨its, rv, p, hz⟩ := I.tuple (h.2 0 t xs rfl rfl)
    refine ⟨its.toArray :: rows, by simp [l], fun k t' xs' us e1 e2 e3 => ?_⟩
    cases k with
    | zero =>
      cases e1
      cases e2
      cases e3
      exact ⟨p, by simpa using rv, by rw [List.size_toArray]; exact rv.length.symm⟩
    | succ k => exact al k t' xs' us e1 e2 e3
theorem rows_inj (I : Inv X pins σ H s) {ts : List Addr} {xss yss : List (List V)} (h1 : RowsAt X.K H ts xss) (h2 : RowsAt X.K H ts yss) : xss = yss := by
  apply List.ext_getElem?
  intro k
  by_cases c : k < ts.length
  · have e : ts[k]? = some ts[k] := by simp
    have l1 : k < xss.length := by rw [← h1.1]; exact c
    have l2 : k < yss.length := by rw [← h2.1]; exact c
    have g1 : xss[k]? = some xss[k] := by simp
    have g2 : yss[k]? = some yss[k] := by simp
    rw [g1, g2, I.tuple_inj (h1.2 k _ _ e g1) (h2.2 k _ _ e g2)]
  · rw [List.getElem?_eq_none (by rw [← h1.1]; omega), List.getElem?_eq_none (by rw [← h2.1]; omega)]
end
def stN (z TI TO : Addr) (its ts : List Addr) (i : Nat) (h : Heap) : Prop := (∃ f0 f1, h.get? z = some (zobj f0 f1 TI TO) ∧ (f0 = .none ∨ ∃ n, f0 = rawInt n)) ∧ h.get? TI = some (tobj (its.map Value.ref)) ∧ (∃ os, os.length = its.length ∧ h.get? TO = some (tobj os)) ∧ ∀ (k : Nat) (it t : Addr), its[k]? = some it → ts[k]? = some t → h.IsTupleIter it t i
theorem vals_col {i : Nat} : ∀ {xss : List (List V)} {rows : List (Array Value)}, xss.length = rows.length → (∀ (k : Nat) (xs : List V) (us : Array Value), xss[k]? = some xs → rows[k]? = some us → Vals xs us.toList ∧ i < us.size) → Vals (col xss i) (tells rows i)
  | [], [], _, _ => .nil
  | [], _ :: _, l, _ => nomatch l
  | _ :: _, [], l, _ => nomatch l
  | xs :: xss, us :: rows, l, h => by
    obtain ⟨h1, h2⟩ := h 0 xs us rfl rfl
    have lx : i < xs.length := by
      rw [h1.length, Array.length_toList]
      exact h2
    have gx : xs[i]? = some xs[i] := by simp
    obtain ⟨u, hu, ru⟩ := h1.get gx
    have e1 : xs.getD i .non = xs[i] := by rw [List.getD_eq_getElem?_getD, gx]; rfl
    have e2 : us.getD i .none = u := by
      rw [Array.getElem?_toList] at hu
      rw [Array.getD_eq_getD_getElem?, hu]
      rfl
    refine .cons ?_ (vals_col (by simpa using l) fun k xs us e1 e2 => h (k + 1) xs us e1 e2)
    show L2.RelV (xs.getD i .non) (us.getD i .none)
    rw [e1, e2]
    exact ru
theorem turnN {P : Program} {w : World} {K : PySem.W.Frag} {n : Str} {tpos : Pos} {x : Addr} {rest ts : List Addr} {z TI TO : Addr} (S : SepN z TI TO (x :: rest) ts) (l1 : (x :: rest).length = ts.length) (l5 : ts.length ≤ 1000) :
    Turn P w K (.Name n tpos) (ItN K ts) (z :: TI :: TO :: x :: rest) z (stN z TI TO (x :: rest) ts) where
  mem := by simp
  obj := fun i h st c hc => by
    obtain ⟨⟨f0, f1, hz, _⟩, hTI, ⟨os, _, hTO⟩, hit⟩ := st
    rcases List.mem_cons.mp hc with q | hc
    · rw [q]
      exact ⟨_, hz, fun v q => nomatch q⟩
    rcases List.mem_cons.mp hc with q | hc
    · rw [q]
      exact ⟨_, hTI, fun v q => nomatch q⟩
    rcases List.mem_cons.mp hc with q | hc
    · rw [q]
      exact ⟨_, hTO, fun v q => nomatch q⟩
    obtain ⟨k, hk, e⟩ := List.getElem_of_mem hc
    have lk : k < ts.length := by rw [← l1]; exact hk
    obtain ⟨o, ho, _, hd⟩ := hit k c ts[k] (by rw [List.getElem?_eq_getElem hk, e]) (by simp)
    exact ⟨o, ho, fun v q => by rw [hd] at q; cases q⟩
  keep := fun i h h' st k => by
    obtain ⟨⟨f0, f1, hz, hf⟩, hTI, ⟨os, lo, hTO⟩, hit⟩ := st
    exact ⟨⟨f0, f1, k z (by simp) _ hz, hf⟩, k TI (by simp) _ hTI, ⟨os, lo, k TO (by simp) _ hTO⟩, fun j it t e1 e2 => (hit j it t e1 e2).at fun o e => k it (by have := List.mem_of_getElem? e1; simp only [List.mem_cons] at this ⊢; exact .inr (.inr (.inr this))) o e⟩
  item := by
    intro X hP hw hK hc i pins s σ H E I hf st hg
    subst hP hw hK
    obtain ⟨⟨f0, f1, hz, hf0⟩, hTI, ⟨os, lo, hTO⟩, hit⟩ := st
    obtain ⟨xss, hx, lx⟩ := hg
    obtain ⟨rows, lr, al⟩ := rows_of I hx
    have hh : X.A.handled = none := I.ok.hd hc
    have am : Amid s.heap s.heap z TI TO (x :: rest) ts rows i 0 f0 f1 os := ⟨hz, hTI, hTO, fun k it t us e1 e2 e3 => by
      have lk := (List.getElem?_eq_some_iff.mp e2).1
      have lk2 : k < xss.length := by rw [← hx.1]; exact lk
      exact ⟨by show s.heap.IsTupleIter it t (if k < 0 then i + 1 else i); rw [if_neg (Nat.not_lt_zero _)]; exact hit k it t e1 e2, (al k t xss[k] us e2 (by simp) e3).1⟩, rfl, fun c o _ _ _ e => e⟩
    have szs : ∀ us ∈ rows, i < us.size := fun us hu => by
      obtain ⟨k, hk, e⟩ := List.getElem_of_mem hu
      have lk : k < ts.length := by omega
      have lk2 : k < xss.length := by rw [← hx.1]; exact lk
      rw [(al k ts[k] xss[k] us (by simp) (by simp) (by rw [List.getElem?_eq_getElem hk, e])).2.2]
      exact lx _ (List.getElem_mem lk2)
    refine zip_item hh S am hf0 l1 (by omega) lo szs (by omega) fun h' tk t => ?_
    refine ⟨_, rfl, ?_⟩
    have tup := t.tup
    have new : ObjOk X.prog X.w (upd H s.heap.objs.size (.tup (col xss i))) h' s.heap.objs.size (.tup (col xss i)) := by
      refine ⟨?_, tells rows i, vals_col (by rw [← hx.1]; omega) fun k xs us e1 e2 => ?_, ⟨_, tup, rfl, _, rfl⟩⟩
      · show (col xss i).length ≤ sizeLine
        unfold col
        rw [List.length_map, ← hx.1]
        exact Nat.le_of_lt (small1000 l5)
      · have lk := (List.getElem?_eq_some_iff.mp e1).1
        have lk2 : k < ts.length := by rw [hx.1]; exact lk
        obtain ⟨_, g2, g3⟩ := al k ts[k] xs us (by simp) e1 e2
        exact ⟨g2, szs us (List.mem_of_getElem? e2)⟩
    have I1 : Inv X pins σ (upd H s.heap.objs.size (.tup (col xss i))) { s with heap := h', toks := tk } := by
      refine I.turnedNew (t' := tk) (ch := z :: TI :: TO :: x :: rest) (fun c o hb q => ?_) hf (Nat.le_refl _) new
      simp only [List.mem_cons, not_or] at hb
      exact t.kp c o hb.1 hb.2.2.1 (by simp only [List.mem_cons, not_or]; exact hb.2.2.2) q
    refine wpAny_pure ⟨.ref s.heap.objs.size, _, I1, rfl, ⟨_, rfl, I.hok.fresh (Nat.le_refl _), col xss i, rfl, fun yss hy => by rw [rows_inj I hy hx]⟩, ?_, fun c hcm => ?_⟩
    · obtain ⟨g0, g1, hz', hg0⟩ := t.zo
      obtain ⟨os', lo', hTO'⟩ := t.to
      refine ⟨⟨g0, g1, hz', hg0⟩, t.ti, ⟨os', lo', hTO'⟩, fun k it tt e1 e2 => ?_⟩
      have lk := (List.getElem?_eq_some_iff.mp e2).1
      have lk2 : k < rows.length := by omega
      exact (t.st k it tt rows[k] e1 e2 (by simp)).1
    · have lt : c < s.heap.objs.size := by
        rcases List.mem_cons.mp hcm with q | hcm
        · rw [q]
          exact Heap.lt_size hz
        rcases List.mem_cons.mp hcm with q | hcm
        · rw [q]
          exact Heap.lt_size hTI
        rcases List.mem_cons.mp hcm with q | hcm
        · rw [q]
          exact Heap.lt_size hTO
        obtain ⟨k, hk, e⟩ := List.getElem_of_mem hcm
        have lk : k < ts.length := by rw [← l1]; exact hk
        obtain ⟨o, ho, _⟩ := hit k c ts[k] (by rw [List.getElem?_eq_getElem hk, e]) (by simp)
        exact Heap.lt_size ho
      rw [upd_ne (Nat.ne_of_lt lt)]
      exact (hf c hcm).1
  done := by
    intro X hP hw hK hc i pins s σ H E I hf st hg
    subst hP hw hK
    obtain ⟨⟨f0, f1, hz, hf0⟩, hTI, ⟨os, lo, hTO⟩, hit⟩ := st
    obtain ⟨xss, hx, lx⟩ := hg
    obtain ⟨rows, lr, al⟩ := rows_of I hx
    have hh : X.A.handled = none := I.ok.hd hc
    have am : Amid s.heap s.heap z TI TO (x :: rest) ts rows i 0 f0 f1 os := ⟨hz, hTI, hTO, fun k it t us e1 e2 e3 => by
      have lk := (List.getElem?_eq_some_iff.mp e2).1
      have lk2 : k < xss.length := by rw [← hx.1]; exact lk
      exact ⟨by show s.heap.IsTupleIter it t (if k < 0 then i + 1 else i); rw [if_neg (Nat.not_lt_zero _)]; exact hit k it t e1 e2, (al k t xss[k] us e2 (by simp) e3).1⟩, rfl, fun c o _ _ _ e => e⟩
    have szs : ∀ us ∈ rows, us.size = i := fun us hu => by
      obtain ⟨k, hk, e⟩ := List.getElem_of_mem hu
      have lk : k < ts.length := by omega
      have lk2 : k < xss.length := by rw [← hx.1]; exact lk
      rw [(al k ts[k] xss[k] us (by simp) (by simp) (by rw [List.getElem?_eq_getElem hk, e])).2.2]
      exact lx _ (List.getElem_mem lk2)
    refine zip_end hh S am hf0 l1 (by omega) szs fun h' tk hk => ⟨rfl, ?_⟩
    refine I.turnedL (t' := tk) (ch := z :: TI :: TO :: x :: rest) (fun c o hb q => ?_) hf
    simp only [List.mem_cons, not_or] at hb
    exact hk c o hb.1 hb.2.2.1 (by simp only [List.mem_cons, not_or]; exact hb.2.2.2) q
  self := fun A i s Q E st h => by
    obtain ⟨⟨f0, f1, hz, _⟩, _⟩ := st
    have hT : s.TypeIs (.ref z) "zip" := ⟨_, hz, rfl⟩
    refine wpAny_pyIter_slot hT F.slot_zip_iter (wpAny_call_entry F.slot_zip_iter hT F.entry_zip_iter (?_ : wpAny _ _ (ret (.ref z)) _ _ s) (F.args_zip_iter_1 _))
    exact wpAny_pure ⟨_, rfl, "zip", _, hT, F.slot_zip_next.lookup, h⟩
theorem callWith_starT {M : Model} {A : Around} {E : Value → Shared → Prop} {s : Shared} {env : Env} {pos p : Pos} {T : String} {e : Expr} {Q : Value → Shared → Prop} (h : wpAny M A (eval e env) (fun v s1 => PySem.W.StarOf M A E v (fun vs s2 => wpAny M A (call (.type T) vs) Q E s2) s1) E s)
    (he : starEach [.Starred e p] env = [(true, eval e env)] := by rfl) : wpAny M A (callWith pos (.type T) [] (backTo pos (starEach [.Starred e p] env)) []) Q E s := by
  rw [he]
  refine PySem.W.ks_call (P := fun _ => True) rfl (fun h _ => ⟨.machine, .inr (.inl rfl), ?_⟩) (PySem.W.ks_lone ?_)
  · exact fun A Q E s _ q => wpAny_pure q
  · refine wpAny_mono h (fun v s1 h1 => ?_) fun _ _ z => z
    unfold PySem.W.StarOf at h1 ⊢
    exact wpAny_mono h1 (fun b s2 ⟨hb, h2⟩ => ⟨hb, wpAny_mono h2 (fun vs s3 h3 => ⟨trivial, h3⟩) fun _ _ z => z⟩) fun _ _ z => z
def iZipN (K : PySem.W.Frag) (te : TE) : TI := fun σ H R => te σ H fun x H1 => ∃ (p : Addr) (ts : List Addr) (xss : List (List V)), x = .ref p ∧ (SqT K H1 p (ts.map V.ref) ∨ SqL K H1 p (ts.map V.ref)) ∧ 1 ≤ ts.length ∧ ts.length ≤ 5 ∧ RowsAt K H1 ts xss ∧ R (ItN K ts) H1
theorem vals_refs : ∀ {ts : List Addr} {us : List Value}, Vals (ts.map V.ref) us → us = ts.map Value.ref
  | [], _, .nil => rfl
  | t :: ts, _, .cons r h => by
    cases (show _ = Value.ref t from r)
    rw [vals_refs h]
    rfl
theorem newIts_at (h : Heap) {n k : Nat} {it : Addr} (e : (newIts h n)[k]? = some it) : it = h.objs.size + k ∧ k < n := by
  have lk : k < n := by
    have := (List.getElem?_eq_some_iff.mp e).1
    simpa [newIts] using this
  unfold newIts at e
  rw [List.getElem?_map, List.getElem?_range lk] at e
  exact ⟨(Option.some.inj e).symm, lk⟩
theorem pi_zipN {X : Cx} {n : Str} {e : Expr} {te : TE} {p sp pos tpos : Pos} (hg : Gl X "zip") (hm : X.mg "zip" = none) (he : PE X e te)
    (hst : starEach [.Starred e sp] X.env = [(true, eval e X.env)] := by rfl) : PI X (.Name n tpos) (.Call (.Name "zip" p) [.Starred e sp] [] pos) (iZipN X.K te) := by
  refine ⟨fun pins s σ H R I h => Call_ (ld_blt I hg hm PyProof.Rows.boot_zip (callWith_starT (thn (he.run pins s σ H _ I h) fun v s1 ⟨y, H1, I1, ry, q1⟩ => ?_) hst))⟩
  obtain ⟨a, ts, xss, rfl, hq, l1, l5, hx, q⟩ := q1
  obtain rfl : v = Value.ref a := ry
  refine StX.star_any I1 hq fun us s2 I2 rv => ?_
  rw [vals_refs rv]
  obtain ⟨rows, lr, al⟩ := rows_of I2 hx
  have ht : ∀ t ∈ ts, ∃ us, s2.heap.IsTuple t us := fun t htm => by
    obtain ⟨k, hk, e⟩ := List.getElem_of_mem htm
    have lk2 : k < xss.length := by rw [← hx.1]; exact hk
    have lk3 : k < rows.length := by omega
    exact ⟨_, (al k t xss[k] rows[k] (by rw [List.getElem?_eq_getElem hk, e]) (by simp) (by simp)).1⟩
  have lt : ∀ t ∈ ts, t < s2.heap.objs.size := fun t htm => by
    obtain ⟨us, o, e, _⟩ := ht t htm
    exact Heap.lt_size e
  refine zip_begins ht l5 ?_
  have z1 : (pushAll s2.heap ts).objs.size = s2.heap.objs.size + ts.length := pushAll_size ts _
  have z2 : (zT s2.heap ts).objs.size = s2.heap.objs.size + ts.length + 1 := by
    have : (zT s2.heap ts).objs.size = (pushAll s2.heap ts).objs.size + 1 := Heap.size_push ..
    rw [this, z1]
  have z3 : (zO s2.heap ts).objs.size = s2.heap.objs.size + ts.length + 2 := by
    have : (zO s2.heap ts).objs.size = (zT s2.heap ts).objs.size + 1 := Heap.size_push ..
    rw [this, z2]
  have gZ : (zZ s2.heap ts).get? (zO s2.heap ts).objs.size = some (zobj .none (.bool false) (pushAll s2.heap ts).objs.size (zT s2.heap ts).objs.size) := Heap.get?_push_size _ rfl
  have gO : (zZ s2.heap ts).get? (zT s2.heap ts).objs.size = some (tobj ((newIts s2.heap ts.length).map fun _ => Value.none)) := Heap.get?_push_of_some _ (Heap.get?_push_size _ rfl)
  have gT : (zZ s2.heap ts).get? (pushAll s2.heap ts).objs.size = some (tobj ((newIts s2.heap ts.length).map Value.ref)) := Heap.get?_push_of_some _ (Heap.get?_push_of_some _ (Heap.get?_push_size _ rfl))
  have old : ∀ c o, s2.heap.get? c = some o → (zZ s2.heap ts).get? c = some o := fun c o e => Heap.get?_push_of_some _ (Heap.get?_push_of_some _ (Heap.get?_push_of_some _ (pushAll_old ts _ c o e)))
  have gI : ∀ (k : Nat) (it t : Addr), (newIts s2.heap ts.length)[k]? = some it → ts[k]? = some t → (zZ s2.heap ts).IsTupleIter it t 0 := fun k it t e1 e2 => by
    obtain ⟨rfl, _⟩ := newIts_at _ e1
    exact ⟨_, Heap.get?_push_of_some _ (Heap.get?_push_of_some _ (Heap.get?_push_of_some _ (pushAll_at ts _ k t e2))), rfl, rfl⟩
  have mI : ∀ c ∈ newIts s2.heap ts.length, s2.heap.objs.size ≤ c ∧ c < s2.heap.objs.size + ts.length := fun c hc => by
    obtain ⟨k, hk, e⟩ := List.getElem_of_mem hc
    obtain ⟨rfl, lk⟩ := newIts_at (k := k) s2.heap (by rw [List.getElem?_eq_getElem hk, e])
    exact ⟨Nat.le_add_right _ _, Nat.add_lt_add_left lk _⟩
  have sep : SepN (zO s2.heap ts).objs.size (pushAll s2.heap ts).objs.size (zT s2.heap ts).objs.size (newIts s2.heap ts.length) ts := by
    refine ⟨?_, fun m => ?_, fun m => ?_, fun m => ?_, fun m => ?_, fun m => ?_, fun c hc m => ?_, ?_, ?_, ?_⟩
    · unfold newIts List.Nodup
      rw [List.pairwise_map]
      exact (List.nodup_range (n := ts.length)).imp fun h z => h (Nat.add_left_cancel z)
    · have := (mI _ m).2
      rw [z3] at this
      exact Nat.lt_irrefl _ (Nat.lt_of_lt_of_le this (show s2.heap.objs.size + ts.length ≤ s2.heap.objs.size + ts.length + 2 by omega))
    · have := (mI _ m).2
      rw [z1] at this
      exact absurd this (Nat.lt_irrefl _)
    · have := (mI _ m).2
      rw [z2] at this
      exact Nat.lt_irrefl _ (Nat.lt_of_lt_of_le this (show s2.heap.objs.size + ts.length ≤ s2.heap.objs.size + ts.length + 1 by omega))
    · have := lt _ m
      rw [z3] at this
      exact Nat.lt_irrefl _ (Nat.lt_of_lt_of_le this (show s2.heap.objs.size ≤ s2.heap.objs.size + ts.length + 2 by omega))
    · have := lt _ m
      rw [z2] at this
      exact Nat.lt_irrefl _ (Nat.lt_of_lt_of_le this (show s2.heap.objs.size ≤ s2.heap.objs.size + ts.length + 1 by omega))
    · exact absurd (lt c m) (Nat.not_lt_of_le (mI c hc).1)
    · rw [z1, z3]
      exact Nat.ne_of_lt (by omega)
    · rw [z2, z3]
      exact Nat.ne_of_lt (by omega)
    · rw [z1, z2]
      exact Nat.ne_of_lt (by omega)
  have ln : (newIts s2.heap ts.length).length = ts.length := by simp [newIts]
  generalize hits : newIts s2.heap ts.length = its at gO gT gI mI sep ln
  match its, ln with
  | [], ln => exact absurd ln (by simp; omega)
  | x :: rest, ln =>
    have T := turnN (P := X.prog) (w := X.w) (K := X.K) (n := n) (tpos := tpos) sep ln (by omega)
    have new : ∀ c ∈ (zO s2.heap ts).objs.size :: (pushAll s2.heap ts).objs.size :: (zT s2.heap ts).objs.size :: x :: rest, s2.heap.objs.size ≤ c := fun c hc => by
      rcases List.mem_cons.mp hc with q | hc
      · rw [q, z3]
        omega
      rcases List.mem_cons.mp hc with q | hc
      · rw [q, z1]
        omega
      rcases List.mem_cons.mp hc with q | hc
      · rw [q, z2]
        omega
      exact (mI c hc).1
    have st0 : stN (zO s2.heap ts).objs.size (pushAll s2.heap ts).objs.size (zT s2.heap ts).objs.size (x :: rest) ts 0 (zZ s2.heap ts) := ⟨⟨_, _, gZ, .inl rfl⟩, gT, ⟨_, by simp, gO⟩, gI⟩
    refine T.self X.A 0 { s2 with heap := zZ s2.heap ts } _ _ st0 ?_
    exact ⟨_, _, _, _, H1, rfl, I2.kept (t' := s2.toks) old, T, st0, fun c hc => I2.fpOk (new c hc) (I2.hok.fresh (new c hc)), q⟩
theorem walkN {K : PySem.W.Frag} {ts : List Addr} {xss : List (List V)} {n : Nat} (hl : ∀ xs ∈ xss, xs.length = n) : Walk (ItN K ts) n (fun H => RowsAt K H ts xss) (fun i H v H' => ∃ T, v = .ref T ∧ H T = none ∧ H' = upd H T (.tup (col xss i))) := by
  refine ⟨fun i _ hi q => ⟨xss, q, fun xs hx => by rw [hl xs hx]; exact hi⟩, fun _ q => ⟨xss, q, hl⟩, ?_⟩
  rintro i H v H' _ q ⟨T, h1, h2, ys, h3, h4⟩
  exact ⟨T, h1, h2, by rw [h3, h4 xss q]⟩
theorem PE.or {X : Cx} {e : Expr} {t u : TE} (h1 : PE X e t) (h2 : PE X e u) : PE X e (fun σ H Q => t σ H Q ∨ u σ H Q) := ⟨fun pins s σ H Q I h => h.elim (h1.run pins s σ H Q I) (h2.run pins s σ H Q I)⟩
/-! ### t * 1, t * k -/
theorem tuple_mul1 (l : Addr) (items : Array Value) (n : Nat) (dd : Option Addr) (sl : Array (Option Value)) (u : Tok) :
    Meets (Builtin.«tuple.__mul__» ⟨[.ref l, .int 1 u], []⟩) (fun _ R s => s.heap.get? l = some { cls := .type "tuple", dict := dd, data := .seq items n, slots := sl } ∧ R (.ok (.ret (Value.ref l))) s) :=
  .of_wp fun prog w A R s h => by
    obtain ⟨hp, g, d, tk, os⟩ := s
    obtain ⟨hl, h⟩ := h
    have f1 := AutoSeq1.idx_int
    wp_walk using wpAny_loadPart' hl
    exact ⟨_, rfl, h⟩
def rRepT1 (K : PySem.W.Frag) : R2 := fun x y H Q => ∃ l xs, x = .ref l ∧ y = .int 1 ∧ SqT K H l xs ∧ Q (.ref l) H
theorem op_repT1 {X : Cx} : OpR X (binaryOp .Mult) (rRepT1 X.K) := by
  intro pins s σ H x y v u Q I rx ry h
  obtain ⟨l, xs, rfl, rfl, hT, q⟩ := h
  cases rx
  obtain ⟨t, rfl⟩ := ry
  obtain ⟨its, r, ⟨⟨cls, dd, data, sl⟩, ho, hc, n, hd⟩, hs⟩ := I.tuple hT
  simp only at hc hd
  subst hc hd
  refine wpAny_binaryOp_repeat_ref (T := "tuple") (U := "int") (by decide) ⟨_, ho, rfl⟩ (fun s' => typeIs_int s' 1 t) noFill_tuple_mul F.fills_int_mul F.slot_int_rmul repeat_tuple F.slot_int_index.lookup
    (call_meets F.slot_int_rmul (typeIs_int s 1 t) F.entry_int_rmul (F.args_int_rmul_2 _ _) (int_rmul_tuple 1 t l its.toArray n dd sl) ⟨ho, rfl, ⟨_, ho, rfl⟩, call_meets F.slot_tuple_mul ⟨_, ho, rfl⟩ F.entry_tuple_mul (F.args_tuple_mul_2 _ _) (tuple_mul1 l its.toArray n dd sl t) ⟨ho, ?_⟩⟩)
  exact ⟨.ref l, H, I, rfl, q⟩
theorem kIxT {X : Cx} {K : PySem.W.Frag} (h : X.K = K) : IxR X (rIxT K) := by
  subst h
  exact ix_tup
end Sw

set_option maxHeartbeats 4000000
namespace Sw
open PySem PySem.Spec PyProof.Rows L2
/-! ### enumerate(tuple) -/
def enO (it : Addr) : Obj := { cls := .type "enumerate", data := .fields #[.none, .bool false, .ref it, rawInt 0, .none, .none] }
theorem new_enum {v : Value} {o : Obj} {G : Heap → Prop} (B : Begins v o G) :
    Meets (Builtin.«enumerate.__new__» ⟨[.type "enumerate", v], []⟩) fun _ R s => G s.heap ∧
      R (.ok (.ret (.ref (s.heap.push o).objs.size))) { s with heap := (s.heap.push o).push (enO s.heap.objs.size) } :=
  .of_wp fun prog w A R s hs => by
    obtain ⟨hp, gl, dd, tk, oo⟩ := s
    obtain ⟨g1, hR⟩ := hs
    have sub := sub_enumerate
    have itr : ∀ {A2 : Around} {E2 : Value → Shared → Prop} {Q2 : Value → Shared → Prop}, Q2 (.ref hp.objs.size) ⟨hp.push o, gl, dd, tk, oo⟩ → wpAny (model prog w) A2 (pyIter v) Q2 E2 ⟨hp, gl, dd, tk, oo⟩ :=
      fun z => B.iter prog w _ _ ⟨hp, gl, dd, tk, oo⟩ _ g1 z
    wp_walk using itr
    refine wpAny_stack_any fun stk => wpAny_pure ?_
    split
    · rename_i cc _ _ _ _ _
      cases (cc == Value.type "enumerate")
      · wp_walk using itr
        exact ⟨_, rfl, hR⟩
      · wp_walk using itr
        exact ⟨_, rfl, hR⟩
    · wp_walk using itr
      exact ⟨_, rfl, hR⟩
theorem call_enumT {prog : Program} {w : World} {A : Around} {E : Value → Shared → Prop} {s : Shared} {a : Addr} {us : Array Value} {Q : Value → Shared → Prop} (hT : s.heap.IsTuple a us)
    (q : ∀ h2, IsEnum h2 (s.heap.objs.size + 1) s.heap.objs.size 0 .none → h2.IsTupleIter s.heap.objs.size a 0 → h2.objs.size = s.heap.objs.size + 2 → (∀ c o, s.heap.get? c = some o → h2.get? c = some o) → Q (.ref (s.heap.objs.size + 1)) { s with heap := h2 }) :
    wpAny (model prog w) A (call (.type "enumerate") [.ref a]) Q E s := by
  have B := begins_tuple a us
  refine callType_new F.called_enumerate (by decide) (F.typeCall_enumerate_1 _) (F.newCall_enumerate_1 _) (fun ob => F.args_object_init_2 ob _) F.entry_enumerate_new (new_enum B) ⟨hT, ?_⟩
  have sz := Heap.size_push s.heap { cls := .type "tuple_iterator", data := .fields #[.ref a, .int 0 0] }
  show _ ∧ _
  rw [sz]
  have en := Heap.get?_push_size (s.heap.push { cls := .type "tuple_iterator", data := .fields #[.ref a, .int 0 0] }) (o := enO s.heap.objs.size) rfl
  rw [sz] at en
  exact ⟨⟨_, en, rfl⟩, q _ en ⟨_, Heap.get?_push_of_some _ (Heap.get?_push_size _ rfl), rfl, rfl⟩ (by rw [Heap.size_push, sz]) fun c o e => Heap.get?_push_of_some _ (Heap.get?_push_of_some _ e)⟩
def ItET (K : PySem.W.Frag) (a : Addr) : It :=
  ⟨fun i H => ∃ (xs : List V) (x : V), SqT K H a xs ∧ xs[i]? = some x,
   fun i H v H' => ∃ t x, v = .ref t ∧ H t = none ∧ H' = upd H t (.tup [.int (i : Nat), x]) ∧ ∀ xs, SqT K H a xs → xs[i]? = some x,
   fun i H => ∃ xs : List V, SqT K H a xs ∧ xs.length = i⟩
theorem turn_enumT {P : Program} {w : World} {K : PySem.W.Frag} {elts : List Expr} {kk : Nat} {tpos : Pos} (a e it : Addr) :
    Turn P w K (.Tuple elts kk tpos) (ItET K a) [e, it] e fun i h => (∃ old, IsEnum h e it (i : Nat) old) ∧ h.IsTupleIter it a i ∧ e ≠ it ∧ a ≠ it ∧ e ≠ a where
  mem := List.mem_cons_self ..
  obj := fun i h ⟨⟨old, he⟩, ⟨o, ho, _, hd⟩, _⟩ c hc => by
    rcases (by simpa using hc : c = e ∨ c = it) with rfl | rfl
    · exact ⟨_, he, fun v z => nomatch z⟩
    · exact ⟨o, ho, fun v z => by rw [hd] at z; cases z⟩
  keep := fun i h h2 ⟨⟨old, he⟩, hi, n1, n2, n3⟩ k => ⟨⟨old, k e (by simp) _ he⟩, Heap.IsTupleIter.at hi fun o z => k it (by simp) o z, n1, n2, n3⟩
  item := by
    rintro X rfl rfl rfl calm i pins s σ H E I hf ⟨⟨old, he⟩, hit, n1, n2, n3⟩ ⟨xs, x, hq, hx⟩
    obtain ⟨its, rv, tp, hz⟩ := I.tuple hq
    have D := Draws.tuple (prog := X.prog) (w := X.w) (A := X.A.in1) (I.ok.hd calm) it a n2 its.toArray
    have li : i < its.toArray.size := by
      have l1 := (List.getElem?_eq_some_iff.mp hx).1
      have l2 := rv.length
      simp
      omega
    obtain ⟨u, hu, ru⟩ := rv.get hx
    have le : e < s.heap.objs.size := Heap.lt_size he
    have lit : it < s.heap.objs.size := by
      obtain ⟨_, z, _⟩ := hit
      exact Heap.lt_size z
    refine wpAny_pyNext_enum_itemC D he ⟨hit, tp⟩ li n1 (by simp [n1, n3]) fun y h2 tk hy ho st2 hT hsz hk => ⟨_, rfl, ?_⟩
    obtain rfl : y = u := by
      have hy : its.toArray[i]? = some y := hy
      rw [List.getElem?_toArray, hu] at hy
      exact (Option.some.inj hy).symm
    refine wpAny_letOwnedTupleGo_enum (s := { s with heap := h2, toks := tk + 1 }) ho fun h3 he3 sb => ?_
    have hT3 := (sb.2 _ (Nat.ne_of_gt le)).trans hT
    have ok : ObjOk X.prog X.w (upd H s.heap.objs.size (.tup [.int (i : Nat), x])) h3 s.heap.objs.size (.tup [.int (i : Nat), x]) :=
      ⟨by show 2 ≤ sizeLine; decide, [.int i tk, y], .cons ⟨_, rfl⟩ (.cons ru .nil), ⟨_, hT3, rfl, _, rfl⟩⟩
    have I3 : Inv X pins σ (upd H s.heap.objs.size (.tup [.int (i : Nat), x])) { s with heap := h3, toks := tk + 1 } :=
      I.turnedNew (ch := [e, it]) (fun c o hc z => (sb.2 c fun k => hc (by simp [k])).trans (hk c o (fun k => hc (by simp [k])) (fun k => hc (by simp [k])) z)) hf (Nat.le_refl _) ok
    have st3 : h3.IsTupleIter it a (i + 1) := Heap.IsTupleIter.at st2.1 fun o z => (sb.2 it n1.symm).trans z
    refine ⟨.ref s.heap.objs.size, _, I3, rfl, ⟨_, x, rfl, I.hok.fresh (Nat.le_refl _), rfl, fun ys hy => by rw [I.tuple_inj hy hq]; exact hx⟩, ⟨⟨y, ?_⟩, st3, n1, n2, n3⟩, fun c hc => ?_⟩
    · rw [show ((i + 1 : Nat) : Int) = (i : Int) + 1 by omega]
      exact he3
    · have lc : c < s.heap.objs.size := by
        rcases (by simpa using hc : c = e ∨ c = it) with rfl | rfl
        · exact le
        · exact lit
      rw [upd_ne (Nat.ne_of_lt lc)]
      exact (hf c hc).1
  done := by
    rintro X rfl rfl rfl calm i pins s σ H E I hf ⟨⟨old, he⟩, hit, n1, n2, n3⟩ ⟨xs, hq, hx⟩
    obtain ⟨its, rv, tp, hz⟩ := I.tuple hq
    obtain ⟨f0, f1, f2, f3, f4, f5⟩ := hf it (by simp)
    have D := Draws.tuple (prog := X.prog) (w := X.w) (A := X.A.in1) (I.ok.hd calm) it a n2 its.toArray
    have li : i = its.toArray.size := by
      have l2 := rv.length
      simp
      omega
    exact wpAny_pyNext_enum_endD D he ⟨li ▸ hit, tp⟩ fun h2 eb => ⟨rfl, I.turned (t' := s.toks) (fun c o hc z => eb c o hc z) f0 f1 f3 f4 f5⟩
  self := fun A i s Q E ⟨⟨_, he⟩, _⟩ q => wpAny_pyIter_enum he q
def iEnumT (K : PySem.W.Frag) (ta : TA) : TI := fun σ H R => ta σ H fun vs H1 => ∃ a xs, vs = [.ref a] ∧ SqT K H1 a xs ∧ R (ItET K a) H1
theorem pi_enumT {X : Cx} {e : Expr} {ta : TA} {p pos tpos : Pos} {elts : List Expr} {kk : Nat} (hg : Gl X "enumerate") (hm : X.mg "enumerate" = none) (ha : PA X [e] ta) (hs : starEach [e] X.env = [(false, eval e X.env)] := by rfl) :
    PI X (.Tuple elts kk tpos) (.Call (.Name "enumerate" p) [e] [] pos) (iEnumT X.K ta) := by
  refine ⟨fun pins s σ H R I h => Call_ (ld_blt I hg hm boot_enumerate (PyProof.Rows.callWith_type1 (thn (ha.run pos pins s σ H _ I h) fun us s1 ⟨vs, H1, I1, r1, q1⟩ => ?_) hs rfl))⟩
  obtain ⟨a, xs, rfl, hq, q⟩ := q1
  cases r1 with
  | cons r rr =>
    cases rr
    cases r
    obtain ⟨its, rv, tp, hz⟩ := I1.tuple hq
    have la : a < s1.heap.objs.size := by
      obtain ⟨_, z, _⟩ := tp
      exact Heap.lt_size z
    refine call_enumT tp fun h2 he hit hsz hk => wpAny_pyIter_enum he ?_
    refine ⟨s1.heap.objs.size + 1, [s1.heap.objs.size + 1, s1.heap.objs.size], _, _, H1, rfl, I1.kept (t' := s1.toks) hk, turn_enumT a (s1.heap.objs.size + 1) s1.heap.objs.size, ⟨⟨.none, he⟩, hit, Nat.succ_ne_self _, Nat.ne_of_lt la, (Nat.ne_of_lt (Nat.lt_succ_of_lt la)).symm⟩, fun c hc => ?_, q⟩
    have lc : s1.heap.objs.size ≤ c := by
      rcases (by simpa using hc : c = s1.heap.objs.size + 1 ∨ c = s1.heap.objs.size) with rfl | rfl
      · exact Nat.le_succ _
      · exact Nat.le_refl _
    exact I1.fpOk lc (I1.hok.fresh lc)
theorem walk_enumT {K : PySem.W.Frag} {a : Addr} {xs : List V} : Walk (ItET K a) xs.length (fun H => SqT K H a xs) (YPair (fun i => some (.int (i : Nat))) fun i => xs[i]?) :=
  ⟨fun i _ hi z => ⟨xs, xs[i], z, by simp [hi]⟩, fun _ z => ⟨xs, z, rfl⟩, fun i H v H2 _ z ⟨t, x, h1, h2, h3, h4⟩ => ⟨t, .int (i : Nat), x, h1, h2, h3, rfl, h4 xs z⟩⟩
end Sw

set_option maxHeartbeats 2000000
namespace Sw
open PySem PySem.Spec PyProof.Rows L2
def top (i : Nat) : Stmt := PySem.Challenge.pw_swayhalls_k01_halls_as_handed_in.main.body.getD i (.Pass ⟨0, 0, 0, 0⟩)
def retOf (s : Stmt) : Expr := match defBody s with
  | (.Return (some e) _) :: _ => e
  | _ => .Constant .none 0 ⟨0, 0, 0, 0⟩
def lcScope : Expr → Scope
  | .ListComp _ _ sc _ => sc
  | _ => { kind := .function, names := [], isGenerator := false, isCoroutine := false }
abbrev s_is_number : Stmt := top 5
abbrev n_is_number : List Str := ["thing"]
abbrev p_is_number : List Str := ["thing"]
theorem sc_is_number : FnScope n_is_number p_is_number (defScope s_is_number) := ⟨rfl, rfl, rfl, by decide +kernel, rfl, by decide +kernel, by decide +kernel⟩
abbrev s_are_numbers : Stmt := top 6
abbrev n_are_numbers : List Str := ["thing", "one"]
abbrev p_are_numbers : List Str := ["thing"]
theorem sc_are_numbers : FnScope n_are_numbers p_are_numbers (defScope s_are_numbers) := ⟨rfl, rfl, rfl, by decide +kernel, rfl, by decide +kernel, by decide +kernel⟩
abbrev s_are_rows : Stmt := top 7
abbrev n_are_rows : List Str := ["thing", "row"]
abbrev p_are_rows : List Str := ["thing"]
theorem sc_are_rows : FnScope n_are_rows p_are_rows (defScope s_are_rows) := ⟨rfl, rfl, rfl, by decide +kernel, rfl, by decide +kernel, by decide +kernel⟩
abbrev s_does_rise : Stmt := top 8
abbrev n_does_rise : List Str := ["numbers", "low", "high"]
abbrev p_does_rise : List Str := ["numbers"]
theorem sc_does_rise : FnScope n_does_rise p_does_rise (defScope s_does_rise) := ⟨rfl, rfl, rfl, by decide +kernel, rfl, by decide +kernel, by decide +kernel⟩
abbrev s_are_strings : Stmt := top 10
abbrev n_are_strings : List Str := ["thing", "row"]
abbrev p_are_strings : List Str := ["thing"]
theorem sc_are_strings : FnScope n_are_strings p_are_strings (defScope s_are_strings) := ⟨rfl, rfl, rfl, by decide +kernel, rfl, by decide +kernel, by decide +kernel⟩
abbrev s_is_ladder : Stmt := top 11
abbrev n_is_ladder : List Str := ["numbers"]
abbrev p_is_ladder : List Str := ["numbers"]
theorem sc_is_ladder : FnScope n_is_ladder p_is_ladder (defScope s_is_ladder) := ⟨rfl, rfl, rfl, by decide +kernel, rfl, by decide +kernel, by decide +kernel⟩
abbrev s_are_steps : Stmt := top 12
abbrev n_are_steps : List Str := ["thing", "persons", "row"]
abbrev p_are_steps : List Str := ["thing", "persons"]
theorem sc_are_steps : FnScope n_are_steps p_are_steps (defScope s_are_steps) := ⟨rfl, rfl, rfl, by decide +kernel, rfl, by decide +kernel, by decide +kernel⟩
abbrev s_is_memory : Stmt := top 13
abbrev n_is_memory : List Str := ["thing"]
abbrev p_is_memory : List Str := ["thing"]
theorem sc_is_memory : FnScope n_is_memory p_is_memory (defScope s_is_memory) := ⟨rfl, rfl, rfl, by decide +kernel, rfl, by decide +kernel, by decide +kernel⟩
abbrev s_as_tuples : Stmt := top 14
abbrev n_as_tuples : List Str := ["rows", "row"]
abbrev p_as_tuples : List Str := ["rows"]
theorem sc_as_tuples : FnScope n_as_tuples p_as_tuples (defScope s_as_tuples) := ⟨rfl, rfl, rfl, by decide +kernel, rfl, by decide +kernel, by decide +kernel⟩
abbrev s_Hall___init__ : Stmt := inClass (top 15) 0
abbrev n_Hall___init__ : List Str := ["self", "strings", "steps", "memory"]
abbrev p_Hall___init__ : List Str := ["self", "strings", "steps", "memory"]
theorem sc_Hall___init__ : FnScope n_Hall___init__ p_Hall___init__ (defScope s_Hall___init__) := ⟨rfl, rfl, rfl, by decide +kernel, rfl, by decide +kernel, by decide +kernel⟩
abbrev s_Hall_strings : Stmt := inClass (top 15) 1
abbrev n_Hall_strings : List Str := ["self"]
abbrev p_Hall_strings : List Str := ["self"]
theorem sc_Hall_strings : FnScope n_Hall_strings p_Hall_strings (defScope s_Hall_strings) := ⟨rfl, rfl, rfl, by decide +kernel, rfl, by decide +kernel, by decide +kernel⟩
abbrev s_Hall_steps : Stmt := inClass (top 15) 2
abbrev n_Hall_steps : List Str := ["self"]
abbrev p_Hall_steps : List Str := ["self"]
theorem sc_Hall_steps : FnScope n_Hall_steps p_Hall_steps (defScope s_Hall_steps) := ⟨rfl, rfl, rfl, by decide +kernel, rfl, by decide +kernel, by decide +kernel⟩
abbrev s_Hall_memory : Stmt := inClass (top 15) 3
abbrev n_Hall_memory : List Str := ["self"]
abbrev p_Hall_memory : List Str := ["self"]
theorem sc_Hall_memory : FnScope n_Hall_memory p_Hall_memory (defScope s_Hall_memory) := ⟨rfl, rfl, rfl, by decide +kernel, rfl, by decide +kernel, by decide +kernel⟩
abbrev s_Hall_tops : Stmt := inClass (top 15) 4
abbrev n_Hall_tops : List Str := ["self", "row"]
abbrev p_Hall_tops : List Str := ["self"]
theorem sc_Hall_tops : FnScope n_Hall_tops p_Hall_tops (defScope s_Hall_tops) := ⟨rfl, rfl, rfl, by decide +kernel, rfl, by decide +kernel, by decide +kernel⟩
abbrev s_Hall___eq__ : Stmt := inClass (top 15) 5
abbrev n_Hall___eq__ : List Str := ["self", "other"]
abbrev p_Hall___eq__ : List Str := ["self", "other"]
theorem sc_Hall___eq__ : FnScope n_Hall___eq__ p_Hall___eq__ (defScope s_Hall___eq__) := ⟨rfl, rfl, rfl, by decide +kernel, rfl, by decide +kernel, by decide +kernel⟩
abbrev s_Hall___len__ : Stmt := inClass (top 15) 6
abbrev n_Hall___len__ : List Str := ["self"]
abbrev p_Hall___len__ : List Str := ["self"]
theorem sc_Hall___len__ : FnScope n_Hall___len__ p_Hall___len__ (defScope s_Hall___len__) := ⟨rfl, rfl, rfl, by decide +kernel, rfl, by decide +kernel, by decide +kernel⟩
abbrev s_Hall___repr__ : Stmt := inClass (top 15) 7
abbrev n_Hall___repr__ : List Str := ["self"]
abbrev p_Hall___repr__ : List Str := ["self"]
theorem sc_Hall___repr__ : FnScope n_Hall___repr__ p_Hall___repr__ (defScope s_Hall___repr__) := ⟨rfl, rfl, rfl, by decide +kernel, rfl, by decide +kernel, by decide +kernel⟩
abbrev s__law_box : Stmt := top 17
abbrev n__law_box : List Str := ["_law_script", "_law_k", "_law_cell"]
abbrev p__law_box : List Str := ["_law_script", "_law_k"]
theorem sc__law_box : FnScope n__law_box p__law_box (defScope s__law_box) := ⟨rfl, rfl, rfl, by decide +kernel, rfl, by decide +kernel, by decide +kernel⟩
abbrev s__law_take : Stmt := top 18
abbrev n__law_take : List Str := ["_law_box_here", "_law_below", "_law_once", "_law_found"]
abbrev p__law_take : List Str := ["_law_box_here", "_law_below"]
theorem sc__law_take : FnScope n__law_take p__law_take (defScope s__law_take) := ⟨rfl, rfl, rfl, by decide +kernel, rfl, by decide +kernel, by decide +kernel⟩
abbrev s__law_same : Stmt := top 19
abbrev n__law_same : List Str := ["_law_found", "_law_due_here", "_law_one", "_law_two"]
abbrev p__law_same : List Str := ["_law_found", "_law_due_here"]
theorem sc__law_same : FnScope n__law_same p__law_same (defScope s__law_same) := ⟨rfl, rfl, rfl, by decide +kernel, rfl, by decide +kernel, by decide +kernel⟩
abbrev s__law_number : Stmt := top 20
abbrev n__law_number : List Str := ["_law_box_here", "_law_widely", "_law_way"]
abbrev p__law_number : List Str := ["_law_box_here", "_law_widely"]
theorem sc__law_number : FnScope n__law_number p__law_number (defScope s__law_number) := ⟨rfl, rfl, rfl, by decide +kernel, rfl, by decide +kernel, by decide +kernel⟩
abbrev s__law_ties : Stmt := top 21
abbrev n__law_ties : List Str := ["_law_box_here", "_law_count", "_law_widely", "_law_one", "_law_other"]
abbrev p__law_ties : List Str := ["_law_box_here", "_law_count", "_law_widely"]
theorem sc__law_ties : FnScope n__law_ties p__law_ties (defScope s__law_ties) := ⟨rfl, rfl, rfl, by decide +kernel, rfl, by decide +kernel, by decide +kernel⟩
abbrev s__law_weights : Stmt := top 22
abbrev n__law_weights : List Str := ["_law_box_here", "_law_beats", "_law_found", "_law_k", "_law_last", "_law_way"]
abbrev p__law_weights : List Str := ["_law_box_here", "_law_beats"]
theorem sc__law_weights : FnScope n__law_weights p__law_weights (defScope s__law_weights) := ⟨rfl, rfl, rfl, by decide +kernel, rfl, by decide +kernel, by decide +kernel⟩
abbrev s__law_rungs : Stmt := top 23
abbrev n__law_rungs : List Str := ["_law_box_here", "_law_ties_here", "_law_weights_here", "_law_found", "_law_row", "_law_room", "_law_some", "_law_k", "_law_tie", "_law_weight"]
abbrev p__law_rungs : List Str := ["_law_box_here", "_law_ties_here", "_law_weights_here"]
theorem sc__law_rungs : FnScope n__law_rungs p__law_rungs (defScope s__law_rungs) := ⟨rfl, rfl, rfl, by decide +kernel, rfl, by decide +kernel, by decide +kernel⟩
abbrev s__law_data : Stmt := top 24
abbrev n__law_data : List Str := ["_law_box_here", "_law_count", "_law_beats", "_law_widely", "_law_ties_here", "_law_weights_here"]
abbrev p__law_data : List Str := ["_law_box_here", "_law_count", "_law_beats", "_law_widely"]
theorem sc__law_data : FnScope n__law_data p__law_data (defScope s__law_data) := ⟨rfl, rfl, rfl, by decide +kernel, rfl, by decide +kernel, by decide +kernel⟩
abbrev s__law_as : Stmt := top 25
abbrev n__law_as : List Str := ["_law_box_here", "_law_thing", "_law_some", "_law_part"]
abbrev p__law_as : List Str := ["_law_box_here", "_law_thing"]
theorem sc__law_as : FnScope n__law_as p__law_as (defScope s__law_as) := ⟨rfl, rfl, rfl, by decide +kernel, rfl, by decide +kernel, by decide +kernel⟩
abbrev s__law_due : Stmt := top 26
abbrev n__law_due : List Str := ["_law_data_here", "_law_found", "_law_ties_here", "_law_rungs_here", "_law_weights_here", "_law_row", "_law_some"]
abbrev p__law_due : List Str := ["_law_data_here"]
theorem sc__law_due : FnScope n__law_due p__law_due (defScope s__law_due) := ⟨rfl, rfl, rfl, by decide +kernel, rfl, by decide +kernel, by decide +kernel⟩
abbrev s__law_told : Stmt := top 27
abbrev n__law_told : List Str := ["_law_made"]
abbrev p__law_told : List Str := ["_law_made"]
theorem sc__law_told : FnScope n__law_told p__law_told (defScope s__law_told) := ⟨rfl, rfl, rfl, by decide +kernel, rfl, by decide +kernel, by decide +kernel⟩
abbrev s__law_otherwise : Stmt := top 28
abbrev n__law_otherwise : List Str := ["_law_box_here", "_law_data_here", "_law_ties_here", "_law_rungs_here", "_law_weights_here", "_law_way", "_law_one", "_law_other", "_law_row", "_law_some"]
abbrev p__law_otherwise : List Str := ["_law_box_here", "_law_data_here"]
theorem sc__law_otherwise : FnScope n__law_otherwise p__law_otherwise (defScope s__law_otherwise) := ⟨rfl, rfl, rfl, by decide +kernel, rfl, by decide +kernel, by decide +kernel⟩
abbrev s__law_spoilt : Stmt := top 29
abbrev n__law_spoilt : List Str := ["_law_thing", "_law_part"]
abbrev p__law_spoilt : List Str := ["_law_thing"]
theorem sc__law_spoilt : FnScope n__law_spoilt p__law_spoilt (defScope s__law_spoilt) := ⟨rfl, rfl, rfl, by decide +kernel, rfl, by decide +kernel, by decide +kernel⟩
abbrev s__law_right : Stmt := top 30
abbrev n__law_right : List Str := ["_law_box_here", "_law_great", "_law_data_here", "_law_kept", "_law_other", "_law_others", "_law_thing", "_law_bare", "_law_count", "_law_beats", "_law_due_here", "_law_given", "_law_made", "_law_again", "_law_part"]
abbrev p__law_right : List Str := ["_law_box_here", "_law_great"]
theorem sc__law_right : FnScope n__law_right p__law_right (defScope s__law_right) := ⟨rfl, rfl, rfl, by decide +kernel, rfl, by decide +kernel, by decide +kernel⟩
abbrev s_law : Stmt := top 31
abbrev n_law : List Str := ["_law_script", "_law_k"]
abbrev p_law : List Str := ["_law_script"]
theorem sc_law : FnScope n_law p_law (defScope s_law) := ⟨rfl, rfl, rfl, by decide +kernel, rfl, by decide +kernel, by decide +kernel⟩
structure Tx (K : PySem.W.Frag) (mg : Str → Option Value) : Type where
  b_abs : mg "abs" = none
  b_all : mg "all" = none
  b_any : mg "any" = none
  b_bool : mg "bool" = none
  b_int : mg "int" = none
  b_isinstance : mg "isinstance" = none
  b_len : mg "len" = none
  b_list : mg "list" = none
  b_min : mg "min" = none
  b_range : mg "range" = none
  b_repr : mg "repr" = none
  b_str : mg "str" = none
  b_sum : mg "sum" = none
  b_tuple : mg "tuple" = none
  b_zip : mg "zip" = none
  t_MOST_STEPS : Tok
  c_MOST_STEPS : mg "MOST_STEPS" = some (.int 4 t_MOST_STEPS)
  t_MOST_WEIGHTS : Tok
  c_MOST_WEIGHTS : mg "MOST_WEIGHTS" = some (.int 5 t_MOST_WEIGHTS)
  g_Hall : mg "Hall" = some (.ref (He.ga K "Hall"))
  cl_Hall : Cls K (He.ga K "Hall")
  mk_Hall : Mk K (He.ga K "Hall") (He.ma K (He.ga K "Hall") "__init__")
  na_Hall_string_rows : NoAttr K (He.ga K "Hall") "string_rows"
  na_Hall_step_rows : NoAttr K (He.ga K "Hall") "step_rows"
  na_Hall_weights : NoAttr K (He.ga K "Hall") "weights"
  fd_is_number : FuncData
  F_is_number : FunD K "is_number" "is_number" (defArgs s_is_number) (defBody s_is_number) (defScope s_is_number) [] [] (He.fAd K ("is_number", none)) fd_is_number
  g_is_number : mg "is_number" = some (.ref (He.fAd K ("is_number", none)))
  bd_is_number : Binds K fd_is_number p_is_number []
  fd_are_numbers : FuncData
  F_are_numbers : FunD K "are_numbers" "are_numbers" (defArgs s_are_numbers) (defBody s_are_numbers) (defScope s_are_numbers) [] [] (He.fAd K ("are_numbers", none)) fd_are_numbers
  g_are_numbers : mg "are_numbers" = some (.ref (He.fAd K ("are_numbers", none)))
  bd_are_numbers : Binds K fd_are_numbers p_are_numbers []
  fd_are_rows : FuncData
  F_are_rows : FunD K "are_rows" "are_rows" (defArgs s_are_rows) (defBody s_are_rows) (defScope s_are_rows) [] [] (He.fAd K ("are_rows", none)) fd_are_rows
  g_are_rows : mg "are_rows" = some (.ref (He.fAd K ("are_rows", none)))
  bd_are_rows : Binds K fd_are_rows p_are_rows []
  fd_does_rise : FuncData
  F_does_rise : FunD K "does_rise" "does_rise" (defArgs s_does_rise) (defBody s_does_rise) (defScope s_does_rise) [] [] (He.fAd K ("does_rise", none)) fd_does_rise
  g_does_rise : mg "does_rise" = some (.ref (He.fAd K ("does_rise", none)))
  bd_does_rise : Binds K fd_does_rise p_does_rise []
  fd_are_strings : FuncData
  F_are_strings : FunD K "are_strings" "are_strings" (defArgs s_are_strings) (defBody s_are_strings) (defScope s_are_strings) [] [] (He.fAd K ("are_strings", none)) fd_are_strings
  g_are_strings : mg "are_strings" = some (.ref (He.fAd K ("are_strings", none)))
  bd_are_strings : Binds K fd_are_strings p_are_strings []
  fd_is_ladder : FuncData
  F_is_ladder : FunD K "is_ladder" "is_ladder" (defArgs s_is_ladder) (defBody s_is_ladder) (defScope s_is_ladder) [] [] (He.fAd K ("is_ladder", none)) fd_is_ladder
  g_is_ladder : mg "is_ladder" = some (.ref (He.fAd K ("is_ladder", none)))
  bd_is_ladder : Binds K fd_is_ladder p_is_ladder []
  fd_are_steps : FuncData
  F_are_steps : FunD K "are_steps" "are_steps" (defArgs s_are_steps) (defBody s_are_steps) (defScope s_are_steps) [] [] (He.fAd K ("are_steps", none)) fd_are_steps
  g_are_steps : mg "are_steps" = some (.ref (He.fAd K ("are_steps", none)))
  bd_are_steps : Binds K fd_are_steps p_are_steps []
  fd_is_memory : FuncData
  F_is_memory : FunD K "is_memory" "is_memory" (defArgs s_is_memory) (defBody s_is_memory) (defScope s_is_memory) [] [] (He.fAd K ("is_memory", none)) fd_is_memory
  g_is_memory : mg "is_memory" = some (.ref (He.fAd K ("is_memory", none)))
  bd_is_memory : Binds K fd_is_memory p_is_memory []
  fd_as_tuples : FuncData
  F_as_tuples : FunD K "as_tuples" "as_tuples" (defArgs s_as_tuples) (defBody s_as_tuples) (defScope s_as_tuples) [] [] (He.fAd K ("as_tuples", none)) fd_as_tuples
  g_as_tuples : mg "as_tuples" = some (.ref (He.fAd K ("as_tuples", none)))
  bd_as_tuples : Binds K fd_as_tuples p_as_tuples []
  fd_Hall___init__ : FuncData
  F_Hall___init__ : FunD K "__init__" "Hall.__init__" (defArgs s_Hall___init__) (defBody s_Hall___init__) (defScope s_Hall___init__) [V.ref (He.dflAt ("Hall", some "__init__") 0 K)] [] (He.fAd K ("Hall", some "__init__")) fd_Hall___init__
  bd_Hall___init__ : Binds K fd_Hall___init__ p_Hall___init__ []
  fd_Hall_strings : FuncData
  F_Hall_strings : FunD K "strings" "Hall.strings" (defArgs s_Hall_strings) (defBody s_Hall_strings) (defScope s_Hall_strings) [] [] (He.fAd K ("Hall", some "strings")) fd_Hall_strings
  m_Hall_strings : Meth K (He.ga K "Hall") "strings" (He.fAd K ("Hall", some "strings"))
  bd_Hall_strings : Binds K fd_Hall_strings p_Hall_strings []
  fd_Hall_steps : FuncData
  F_Hall_steps : FunD K "steps" "Hall.steps" (defArgs s_Hall_steps) (defBody s_Hall_steps) (defScope s_Hall_steps) [] [] (He.fAd K ("Hall", some "steps")) fd_Hall_steps
  m_Hall_steps : Meth K (He.ga K "Hall") "steps" (He.fAd K ("Hall", some "steps"))
  bd_Hall_steps : Binds K fd_Hall_steps p_Hall_steps []
  fd_Hall_memory : FuncData
  F_Hall_memory : FunD K "memory" "Hall.memory" (defArgs s_Hall_memory) (defBody s_Hall_memory) (defScope s_Hall_memory) [] [] (He.fAd K ("Hall", some "memory")) fd_Hall_memory
  m_Hall_memory : Meth K (He.ga K "Hall") "memory" (He.fAd K ("Hall", some "memory"))
  bd_Hall_memory : Binds K fd_Hall_memory p_Hall_memory []
  fd_Hall_tops : FuncData
  F_Hall_tops : FunD K "tops" "Hall.tops" (defArgs s_Hall_tops) (defBody s_Hall_tops) (defScope s_Hall_tops) [] [] (He.fAd K ("Hall", some "tops")) fd_Hall_tops
  m_Hall_tops : Meth K (He.ga K "Hall") "tops" (He.fAd K ("Hall", some "tops"))
  bd_Hall_tops : Binds K fd_Hall_tops p_Hall_tops []
  fd_Hall___eq__ : FuncData
  F_Hall___eq__ : FunD K "__eq__" "Hall.__eq__" (defArgs s_Hall___eq__) (defBody s_Hall___eq__) (defScope s_Hall___eq__) [] [] (He.fAd K ("Hall", some "__eq__")) fd_Hall___eq__
  m_Hall___eq__ : Meth K (He.ga K "Hall") "__eq__" (He.fAd K ("Hall", some "__eq__"))
  bd_Hall___eq__ : Binds K fd_Hall___eq__ p_Hall___eq__ []
  fd_Hall___len__ : FuncData
  F_Hall___len__ : FunD K "__len__" "Hall.__len__" (defArgs s_Hall___len__) (defBody s_Hall___len__) (defScope s_Hall___len__) [] [] (He.fAd K ("Hall", some "__len__")) fd_Hall___len__
  m_Hall___len__ : Meth K (He.ga K "Hall") "__len__" (He.fAd K ("Hall", some "__len__"))
  bd_Hall___len__ : Binds K fd_Hall___len__ p_Hall___len__ []
  fd_Hall___repr__ : FuncData
  F_Hall___repr__ : FunD K "__repr__" "Hall.__repr__" (defArgs s_Hall___repr__) (defBody s_Hall___repr__) (defScope s_Hall___repr__) [] [] (He.fAd K ("Hall", some "__repr__")) fd_Hall___repr__
  m_Hall___repr__ : Meth K (He.ga K "Hall") "__repr__" (He.fAd K ("Hall", some "__repr__"))
  bd_Hall___repr__ : Binds K fd_Hall___repr__ p_Hall___repr__ []
  fd__law_box : FuncData
  F__law_box : FunD K "_law_box" "_law_box" (defArgs s__law_box) (defBody s__law_box) (defScope s__law_box) [] [] (He.fAd K ("_law_box", none)) fd__law_box
  g__law_box : mg "_law_box" = some (.ref (He.fAd K ("_law_box", none)))
  bd__law_box : Binds K fd__law_box p__law_box []
  fd__law_take : FuncData
  F__law_take : FunD K "_law_take" "_law_take" (defArgs s__law_take) (defBody s__law_take) (defScope s__law_take) [] [] (He.fAd K ("_law_take", none)) fd__law_take
  g__law_take : mg "_law_take" = some (.ref (He.fAd K ("_law_take", none)))
  bd__law_take : Binds K fd__law_take p__law_take []
  fd__law_same : FuncData
  F__law_same : FunD K "_law_same" "_law_same" (defArgs s__law_same) (defBody s__law_same) (defScope s__law_same) [] [] (He.fAd K ("_law_same", none)) fd__law_same
  g__law_same : mg "_law_same" = some (.ref (He.fAd K ("_law_same", none)))
  bd__law_same : Binds K fd__law_same p__law_same []
  fd__law_number : FuncData
  F__law_number : FunD K "_law_number" "_law_number" (defArgs s__law_number) (defBody s__law_number) (defScope s__law_number) [] [] (He.fAd K ("_law_number", none)) fd__law_number
  g__law_number : mg "_law_number" = some (.ref (He.fAd K ("_law_number", none)))
  bd__law_number : Binds K fd__law_number p__law_number []
  fd__law_ties : FuncData
  F__law_ties : FunD K "_law_ties" "_law_ties" (defArgs s__law_ties) (defBody s__law_ties) (defScope s__law_ties) [] [] (He.fAd K ("_law_ties", none)) fd__law_ties
  g__law_ties : mg "_law_ties" = some (.ref (He.fAd K ("_law_ties", none)))
  bd__law_ties : Binds K fd__law_ties p__law_ties []
  fd__law_weights : FuncData
  F__law_weights : FunD K "_law_weights" "_law_weights" (defArgs s__law_weights) (defBody s__law_weights) (defScope s__law_weights) [] [] (He.fAd K ("_law_weights", none)) fd__law_weights
  g__law_weights : mg "_law_weights" = some (.ref (He.fAd K ("_law_weights", none)))
  bd__law_weights : Binds K fd__law_weights p__law_weights []
  fd__law_rungs : FuncData
  F__law_rungs : FunD K "_law_rungs" "_law_rungs" (defArgs s__law_rungs) (defBody s__law_rungs) (defScope s__law_rungs) [] [] (He.fAd K ("_law_rungs", none)) fd__law_rungs
  g__law_rungs : mg "_law_rungs" = some (.ref (He.fAd K ("_law_rungs", none)))
  bd__law_rungs : Binds K fd__law_rungs p__law_rungs []
  fd__law_data : FuncData
  F__law_data : FunD K "_law_data" "_law_data" (defArgs s__law_data) (defBody s__law_data) (defScope s__law_data) [] [] (He.fAd K ("_law_data", none)) fd__law_data
  g__law_data : mg "_law_data" = some (.ref (He.fAd K ("_law_data", none)))
  bd__law_data : Binds K fd__law_data p__law_data []
  fd__law_as : FuncData
  F__law_as : FunD K "_law_as" "_law_as" (defArgs s__law_as) (defBody s__law_as) (defScope s__law_as) [] [] (He.fAd K ("_law_as", none)) fd__law_as
  g__law_as : mg "_law_as" = some (.ref (He.fAd K ("_law_as", none)))
  bd__law_as : Binds K fd__law_as p__law_as []
  fd__law_due : FuncData
  F__law_due : FunD K "_law_due" "_law_due" (defArgs s__law_due) (defBody s__law_due) (defScope s__law_due) [] [] (He.fAd K ("_law_due", none)) fd__law_due
  g__law_due : mg "_law_due" = some (.ref (He.fAd K ("_law_due", none)))
  bd__law_due : Binds K fd__law_due p__law_due []
  fd__law_told : FuncData
  F__law_told : FunD K "_law_told" "_law_told" (defArgs s__law_told) (defBody s__law_told) (defScope s__law_told) [] [] (He.fAd K ("_law_told", none)) fd__law_told
  g__law_told : mg "_law_told" = some (.ref (He.fAd K ("_law_told", none)))
  bd__law_told : Binds K fd__law_told p__law_told []
  fd__law_otherwise : FuncData
  F__law_otherwise : FunD K "_law_otherwise" "_law_otherwise" (defArgs s__law_otherwise) (defBody s__law_otherwise) (defScope s__law_otherwise) [] [] (He.fAd K ("_law_otherwise", none)) fd__law_otherwise
  g__law_otherwise : mg "_law_otherwise" = some (.ref (He.fAd K ("_law_otherwise", none)))
  bd__law_otherwise : Binds K fd__law_otherwise p__law_otherwise []
  fd__law_spoilt : FuncData
  F__law_spoilt : FunD K "_law_spoilt" "_law_spoilt" (defArgs s__law_spoilt) (defBody s__law_spoilt) (defScope s__law_spoilt) [] [] (He.fAd K ("_law_spoilt", none)) fd__law_spoilt
  g__law_spoilt : mg "_law_spoilt" = some (.ref (He.fAd K ("_law_spoilt", none)))
  bd__law_spoilt : Binds K fd__law_spoilt p__law_spoilt []
  fd__law_right : FuncData
  F__law_right : FunD K "_law_right" "_law_right" (defArgs s__law_right) (defBody s__law_right) (defScope s__law_right) [] [] (He.fAd K ("_law_right", none)) fd__law_right
  g__law_right : mg "_law_right" = some (.ref (He.fAd K ("_law_right", none)))
  bd__law_right : Binds K fd__law_right p__law_right []
  fd_law : FuncData
  F_law : FunD K "law" "law" (defArgs s_law) (defBody s_law) (defScope s_law) [] [] (He.fAd K ("law", none)) fd_law
  g_law : mg "law" = some (.ref (He.fAd K ("law", none)))
end Sw

set_option maxHeartbeats 2000000
namespace Sw
open PySem PySem.Spec PyProof.Rows L2
section
variable {P : Program} {w : World} {K : PySem.W.Frag} {mg : Str → Option Value} {base : Heap}
def sp_take : Sp := fun vs H Q _ => ∃ (b : Addr) (m : Int) (n : Nat), vs = [.ref b, .int m] ∧ Bx H b n ∧ 0 < m ∧ m < 1073741824 ∧ n ≤ 1000000 ∧
  ∀ (r : Int) (H' : Hp), 0 ≤ r → r < m → Bx H' b (n + 1) → Kp [b] H H' → Q (.int r) H'
theorem ok_take (T : Tx K mg) : FnOk P w K mg base CX0 1 (He.fAd K ("_law_take", none)) T.fd__law_take p__law_take sp_take := by
  refine T.F__law_take.ok sc__law_take (fun vs H Q E h => ?_) (fun cdv A outer s H vs Q E hr h => ?_)
  · obtain ⟨b, m, n, rfl, _⟩ := h
    rfl
  · obtain ⟨b, m, n, rfl, hB, m0, m1, hn, k⟩ := h
    obtain ⟨x, y, z, hb, hx, hy, hy2, hz, hz2⟩ := hB.ex
    refine ⟨_, PSs.nox (pss_cons (ps_if (pt_cmpR op_gt (pe_ix ix_list (pv 0) pe_int (fun _ _ => rfl)) pe_int (nomark _))
      (pss_cons (ps_set (i := 3) sc__law_take.nd rfl (by first | exact Or.inl rfl | exact Or.inr rfl) (pe_op op_modN (pe_ix ix_list (pv 0) pe_int (fun _ _ => rfl)) (pv 1)))
      (pss_cons (ps_asg (pe_op op_fdivN (pe_ix ix_list (pv 0) pe_int (fun _ _ => rfl)) (pv 1)) (pg_sub (pv 0) pe_int set_list))
      (pss_one (ps_ret (pv 3)))))
      pss_nil)
      (pss_cons (ps_asg (pe_op op_add (pe_ix ix_list (pv 0) pe_int (fun _ _ => rfl)) pe_int) (pg_sub (pv 0) pe_int set_list))
      (pss_cons (ps_set (i := 2) sc__law_take.nd rfl (by first | exact Or.inl rfl | exact Or.inr rfl) (pe_op op_modN (pe_op op_pow (pe_op op_add (pe_ix ix_list (pv 0) pe_int (fun _ _ => rfl)) (pe_op op_mul pe_int (pe_ix ix_list (pv 0) pe_int (fun _ _ => rfl)))) pe_int) pe_int))
      (pss_one (ps_ret (pe_op op_modN (pe_op op_fdivN (pe_op op_modN (pe_op op_add (pe_op op_mul (pv 2) (pe_op op_add (pe_op op_modN (pv 2) pe_int) pe_int)) (pe_op op_mul (pe_ix ix_list (pv 0) pe_int (fun _ _ => rfl)) pe_int)) pe_int) pe_int) (pv 1))))))), ?_⟩
    refine ⟨_, rfl, b, _, _, _, rfl, rfl, SqL.of hb, rfl, _, _, rfl, rfl, _, rfl, ite2 (fun c => ?_) (fun c => ?_)⟩
    · refine ⟨_, rfl, b, _, _, _, rfl, rfl, SqL.of hb, rfl, _, rfl, _, _, rfl, rfl, (Int.ne_of_gt m0), ?_⟩
      refine ⟨_, rfl, b, _, _, _, rfl, rfl, SqL.of hb, rfl, _, rfl, _, _, rfl, rfl, ⟨Int.ne_of_gt m0, by omega⟩, ?_⟩
      refine ⟨_, rfl, b, _, _, _, rfl, rfl, hb, rfl, _, rfl, ?_⟩
      exact k _ _ (Int.fmod_nonneg_of_pos _ m0) (Int.fmod_lt_of_pos _ m0) ⟨_, _, _, upd_same, Int.fdiv_nonneg hx (Int.le_of_lt m0), hy, hy2, hz, by omega⟩ (Kp.rfl'.put (by simp))
    · refine ⟨_, rfl, b, _, _, _, rfl, rfl, SqL.of hb, rfl, _, _, rfl, rfl, _, rfl, b, _, _, _, rfl, rfl, hb, rfl, ?_⟩
      have hb1 : (upd H b (.lst ([V.int x, V.int y, V.int z].set 2 (V.int (z + 1))))) b = some (.lst [V.int x, V.int y, V.int (z + 1)]) := upd_same
      have e1 : (y + 39373 * (z + 1)).natAbs < 2 ^ 64 := by omega
      refine ⟨_, rfl, b, _, _, _, rfl, rfl, SqL.of hb1, rfl, _, rfl, b, _, _, _, rfl, rfl, SqL.of hb1, rfl, _, _, rfl, rfl, .inl ⟨by decide, by decide⟩, _, _, rfl, rfl, _, _, rfl, rfl, ⟨by decide, by decide, e1⟩, _, _, rfl, rfl, (show (2147483647 : Int) ≠ 0 by decide), ?_⟩
      have o0 : 0 ≤ ((y + 39373 * (z + 1)) ^ (5 : Int).toNat).fmod 2147483647 := Int.fmod_nonneg_of_pos _ (by decide)
      have o1 : ((y + 39373 * (z + 1)) ^ (5 : Int).toNat).fmod 2147483647 < 2147483647 := Int.fmod_lt_of_pos _ (by decide)
      refine ⟨_, rfl, _, rfl, _, _, rfl, rfl, (show (40009 : Int) ≠ 0 by decide), _, _, rfl, rfl, _, _, rfl, rfl, .inl ⟨by omega, by omega⟩, ?_⟩
      refine ⟨_, rfl, b, _, _, _, rfl, rfl, SqL.of hb1, rfl, _, _, rfl, rfl, .inr ⟨by decide, by decide⟩, _, _, rfl, rfl, _, _, rfl, rfl, (show (2147483629 : Int) ≠ 0 by decide), _, _, rfl, rfl, ⟨by decide, by decide⟩, _, rfl, _, _, rfl, rfl, (Int.ne_of_gt m0), ?_⟩
      exact k _ _ (Int.fmod_nonneg_of_pos _ m0) (Int.fmod_lt_of_pos _ m0) ⟨_, _, _, hb1, hx, hy, hy2, by omega, by omega⟩ (Kp.rfl'.put (by simp))

end
end Sw

set_option maxHeartbeats 2000000
namespace Sw
open PySem PySem.Spec PyProof.Rows L2
section
variable {P : Program} {w : World} {K : PySem.W.Frag} {mg : Str → Option Value} {base : Heap}
theorem b01lo (c : Prop) [Decidable c] : -(2 ^ 64) < (if c then (1 : Int) else 0) := by split <;> decide
theorem b01hi (c : Prop) [Decidable c] : (if c then (1 : Int) else 0) < 2 ^ 64 := by split <;> decide
def sp_box (K : PySem.W.Frag) : Sp := fun vs H Q _ => ∃ (a : Addr) (ns : List Int) (k : Int), vs = [.ref a, .int k] ∧ SqL K H a (ns.map V.int) ∧ 0 ≤ k ∧ k ≤ 63 ∧
  ∀ (p : Addr) (H' : Hp), H p = none → Bx H' p 0 → Kp [] H H' → Q (.ref p) H'
theorem ok_box (T : Tx K mg) : FnOk P w K mg base CX0 1 (He.fAd K ("_law_box", none)) T.fd__law_box p__law_box (sp_box K) := by
  refine T.F__law_box.ok sc__law_box (fun vs H Q E h => ?_) (fun cdv A outer s H vs Q E hr h => ?_)
  · obtain ⟨b, m, n, rfl, _⟩ := h
    rfl
  · obtain ⟨a, ns, k, rfl, hS, k0, k1, q⟩ := h
    refine ⟨_, PSs.nox (pss_cons (ps_set (i := 2) sc__law_box.nd rfl (by first | exact Or.inl rfl | exact Or.inr rfl) (pe_ifExp (pt_cmpR op_lt (pv 1) (pe_callB call_len (by rfl) T.b_len (by decide +kernel) (pa_cons (pv 0) pa_nil)) (nomark _)) (pe_ix ix_list (pv 0) (pv 1) (fun _ _ => rfl)) pe_int))
      (pss_one (ps_ret (pe_lst (pa_cons (pe_op op_mul (pe_callB call_abs (by rfl) T.b_abs (by decide +kernel) (pa_cons (pv 2) pa_nil)) (pe_callTy call_int1 (by rfl) T.b_int (by decide +kernel) (pa_cons (pe_cmpR op_ge (pe_callB call_abs (by rfl) T.b_abs (by decide +kernel) (pa_cons (pv 2) pa_nil)) (pe_op op_pow pe_int pe_int) (nomark _)) pa_nil))) (pa_cons (pe_op op_add (pe_op op_add (pe_op op_modN (pv 2) pe_int) (pe_op op_mul pe_int (pv 1))) pe_int) (pa_cons pe_int pa_nil))))))), ?_⟩
    have fin : ∀ (c : Int) (p : Addr), H p = none → Q (.ref p) (upd H p (.lst [V.int ((if c < 0 then -c else c) * (if decide ((10 : Int) ^ (18 : Int).toNat ≤ (if c < 0 then -c else c)) = true then 1 else 0)), V.int (c.fmod 2147483629 + 7919 * k + 11), V.int 0])) := fun c p hp => by
      have a0 : 0 ≤ (if c < 0 then -c else c) := by split <;> omega
      have f0 : 0 ≤ c.fmod 2147483629 := Int.fmod_nonneg_of_pos _ (by decide)
      have f1 : c.fmod 2147483629 < 2147483629 := Int.fmod_lt_of_pos _ (by decide)
      refine q p _ hp ⟨_, _, _, upd_same, Int.mul_nonneg a0 (by split <;> omega), by omega, by omega, Int.le_refl 0, Int.le_refl 0⟩ (Kp.rfl'.new hp)
    refine ⟨_, rfl, _, rfl, _, ns.length, rfl, .inl ⟨_, hS, (List.length_map ..).symm⟩, _, _, rfl, rfl, _, rfl, ite2 (fun c => ?_) (fun c => ?_)⟩
    · have lt : k.toNat < ns.length := by
        have := of_decide_eq_true c
        omega
      refine ⟨_, rfl, _, rfl, a, _, _, V.int ns[k.toNat], rfl, rfl, hS, at_of (j := k.toNat) (by omega) (by simp [lt]), ?_⟩
      refine ⟨_, rfl, _, rfl, _, rfl, _, rfl, _, _, rfl, rfl, ⟨by decide, by decide, by decide⟩, _, _, rfl, rfl, .inr ⟨_, rfl, _, _, rfl, rfl, .inr ⟨b01lo _, b01hi _⟩, ?_⟩⟩
      refine ⟨_, rfl, _, _, rfl, rfl, (show (2147483629 : Int) ≠ 0 by decide), _, rfl, _, _, rfl, rfl, .inl ⟨by decide, by decide⟩, _, _, rfl, rfl, _, _, rfl, rfl, (by show 3 ≤ sizeLine; decide), fun p hp => ?_⟩
      exact fin _ p hp
    · refine ⟨_, rfl, _, rfl, _, rfl, _, rfl, _, _, rfl, rfl, ⟨by decide, by decide, by decide⟩, _, _, rfl, rfl, .inr ⟨_, rfl, _, _, rfl, rfl, .inr ⟨b01lo _, b01hi _⟩, ?_⟩⟩
      refine ⟨_, rfl, _, _, rfl, rfl, (show (2147483629 : Int) ≠ 0 by decide), _, rfl, _, _, rfl, rfl, .inl ⟨by decide, by decide⟩, _, _, rfl, rfl, _, _, rfl, rfl, (by show 3 ≤ sizeLine; decide), fun p hp => ?_⟩
      exact fin 0 p hp
def sp_number : Sp := fun vs H Q _ => ∃ (b : Addr) (wd : Bool) (n : Nat), vs = [.ref b, .bl wd] ∧ Bx H b n ∧ n ≤ 900000 ∧
  ∀ (r : Int) (H' : Hp), -99 ≤ r → r ≤ 99 → Bx H' b (n + 2) → Kp [b] H H' → Q (.int r) H'
theorem ok_number (T : Tx K mg) : FnOk P w K mg base CX0 2 (He.fAd K ("_law_number", none)) T.fd__law_number p__law_number sp_number := by
  have G__law_take := ok_take (P := P) (w := w) (base := base) T
  refine T.F__law_number.ok sc__law_number (fun vs H Q E h => ?_) (fun cdv A outer s H vs Q E hr h => ?_)
  · obtain ⟨b, m, n, rfl, _⟩ := h
    rfl
  · obtain ⟨b, wd, n, rfl, hB, hn, q⟩ := h
    refine ⟨_, PSs.nox (pss_cons (ps_set (i := 2) sc__law_number.nd rfl (by first | exact Or.inl rfl | exact Or.inr rfl) (pe_call G__law_take (hr.mono (by first | decide | omega)) rfl T.g__law_take T.F__law_take.kp T.bd__law_take .nil pass0 (pa_cons (pv 0) (pa_cons pe_int pa_nil))))
      (pss_cons (ps_if (PW.pt (pw_and (pt_cmpR op_eq (pv 2) pe_int (nomark _)) (pw_and1 (pt_val (pv 1)))))
      (pss_one (ps_ret (pe_op op_sub (pe_call G__law_take (hr.mono (by first | decide | omega)) rfl T.g__law_take T.F__law_take.kp T.bd__law_take .nil pass0 (pa_cons (pv 0) (pa_cons pe_int pa_nil))) pe_int)))
      pss_nil)
      (pss_one (ps_ret (pe_ifExp (pt_cmpR op_lt (pv 2) pe_int (nomark _)) pe_int (pe_op op_sub (pe_call G__law_take (hr.mono (by first | decide | omega)) rfl T.g__law_take T.F__law_take.kp T.bd__law_take .nil pass0 (pa_cons (pv 0) (pa_cons pe_int pa_nil))) pe_int)))))), ?_⟩
    refine ⟨_, rfl, b, 8, n, rfl, hB, by decide, by decide, by omega, fun r H1 r0 r1 hB1 k1 => ?_⟩
    refine ⟨_, rfl, rfl, _, rfl, ite2 (fun c => ?_) (fun c => ?_)⟩
    · refine ⟨_, rfl, wd, rfl, ?_⟩
      cases wd with
      | true =>
        refine iteT ?_
        refine ⟨_, rfl, b, 199, n + 1, rfl, hB1, by decide, by decide, by omega, fun r2 H2 z0 z1 hB2 k2 => ⟨_, _, rfl, rfl, ?_⟩⟩
        exact q _ H2 (by omega) (by omega) hB2 (k1.trans k2)
      | false =>
        refine iteF ?_
        refine ⟨_, rfl, _, _, rfl, rfl, _, rfl, ite2 (fun c2 => ?_) (fun c2 => ?_)⟩
        · exact q 0 H1 (by decide) (by decide) (hB1.up (by omega)) k1
        · refine ⟨_, rfl, b, 7, n + 1, rfl, hB1, by decide, by decide, by omega, fun r2 H2 z0 z1 hB2 k2 => ⟨_, _, rfl, rfl, ?_⟩⟩
          exact q _ H2 (by omega) (by omega) hB2 (k1.trans k2)
    · refine iteF ?_
      refine ⟨_, rfl, _, _, rfl, rfl, _, rfl, ite2 (fun c2 => ?_) (fun c2 => ?_)⟩
      · exact q 0 H1 (by decide) (by decide) (hB1.up (by omega)) k1
      · refine ⟨_, rfl, b, 7, n + 1, rfl, hB1, by decide, by decide, by omega, fun r2 H2 z0 z1 hB2 k2 => ⟨_, _, rfl, rfl, ?_⟩⟩
        exact q _ H2 (by omega) (by omega) hB2 (k1.trans k2)

end
end Sw

set_option maxHeartbeats 2000000
namespace Sw
open PySem PySem.Spec PyProof.Rows L2
section
variable {P : Program} {w : World} {K : PySem.W.Frag} {mg : Str → Option Value} {base : Heap}
theorem yesT {σ : L2.St} {H : Hp} {A : Hp → Prop} {B : Hp → Prop} (h : A H) : tYes σ H fun b H3 => if b = true then A H3 else B H3 := by
  show if true = true then A H else B H
  exact iteT h
/-! data of whole numbers -/
abbrev dI (ns : List Int) : PyData := .list (ns.map PyData.int)
abbrev dII (rows : List (List Int)) : PyData := .list (rows.map dI)
theorem D.lints {bs : List Addr} {H : Hp} {w k : Nat} {v : V} {ns : List Int} (x : D bs H w k v (dI ns)) : ∃ a, v = .ref a ∧ H a = some (.lst (ns.map V.int)) ∧ a ∉ bs ∧ ns.length ≤ w := by
  cases x with
  | lst h n l t =>
    have e := DA.ints t
    subst e
    exact ⟨_, rfl, h, n, by simpa using l⟩
theorem D.ofInts {bs : List Addr} {H : Hp} {w k : Nat} {a : Addr} {ns : List Int} (h : H a = some (.lst (ns.map V.int))) (n : a ∉ bs) (l : ns.length ≤ w) (hs : ∀ n ∈ ns, n.natAbs < 2 ^ 39 + w) : D bs H w (k + 1) (.ref a) (dI ns) :=
  .lst h n (by simpa using l) (DA.ofInts hs)
theorem small40 {x : Int} {m w : Nat} (h0 : -(m : Int) ≤ x) (h1 : x ≤ m) (hm : m < 2 ^ 39 := by decide) : x.natAbs < 2 ^ 39 + w := by omega
def sp_ties : Sp := fun vs H Q _ => ∃ (b : Addr) (c : Int) (wd : Bool) (n : Nat), vs = [.ref b, .int c, .bl wd] ∧ Bx H b n ∧ n ≤ 800000 ∧ 1 ≤ c ∧ c ≤ 12 ∧
  ∀ (p : Addr) (rows : List (List Int)) (H' : Hp), H p = none → D [b] H' 12 2 (.ref p) (dII rows) → rows.length = c.toNat → (∀ r ∈ rows, r.length = c.toNat ∧ ∀ x ∈ r, -99 ≤ x ∧ x ≤ 99) → Bx H' b (n + 300) → Kp [b] H H' → Q (.ref p) H'
theorem ok_ties (T : Tx K mg) : FnOk P w K mg base CX0 3 (He.fAd K ("_law_ties", none)) T.fd__law_ties p__law_ties sp_ties := by
  have G__law_number := ok_number (P := P) (w := w) (base := base) T
  refine T.F__law_ties.ok sc__law_ties (fun vs H Q E h => ?_) (fun cdv A outer s H vs Q E hr h => ?_)
  · obtain ⟨b, m, wd, n, rfl, _⟩ := h
    rfl
  · obtain ⟨b, c, wd, n, rfl, hB, hn, c1, c2, q⟩ := h
    refine ⟨_, PSs.nox (pss_one (ps_ret (pe_lc (own := [("_law_one", 3)]) (g := (gName 3)) (tt := tYes) rfl sc__law_ties.nd (pi_range1 (by rfl) T.b_range (pa_cons (pv 1) pa_nil)) (blkOk_by (own := [("_law_one", 3)]) (N := n__law_ties) (sc := defScope s__law_ties) (by decide +kernel)) (fun _ _ _ _ _ => (pg_name (i := 3) sc__law_ties.nd rfl (by first | exact Or.inl rfl | exact Or.inr rfl))) (fun _ _ _ _ _ => pts_nil) (fun _ _ _ _ _ => (pe_lc (own := [("_law_other", 4)]) (g := (gName 4)) (tt := tYes) rfl sc__law_ties.nd (pi_range1 (by rfl) T.b_range (pa_cons (pv 1) pa_nil)) (blkOk_by (own := [("_law_other", 4)]) (N := n__law_ties) (sc := relabel (lcScope (retOf s__law_ties)) (envOfC "" (defScope s__law_ties) 0 0 .none)) (by decide +kernel)) (fun _ _ _ _ _ => (pg_name (i := 4) sc__law_ties.nd rfl (by first | exact Or.inl rfl | exact Or.inr rfl))) (fun _ _ _ _ _ => pts_nil) (fun _ _ _ _ _ => (pe_call G__law_number (hr.mono (by first | decide | omega)) rfl T.g__law_number T.F__law_number.kp T.bd__law_number .nil pass0 (pa_cons (pv 0) (pa_cons (pv 2) pa_nil))))))))), ?_⟩
    refine ⟨_, rfl, c, rfl, by omega, by omega, fun p hp => lc_range (n := c.toNat) (fun i H2 => ∃ (xs : List V) (rows : List (List Int)), H2 p = some (.lst xs) ∧ DA [p, b] H2 12 1 xs (rows.map dI) ∧ rows.length = i ∧ (∀ r ∈ rows, r.length = c.toNat ∧ ∀ x ∈ r, -99 ≤ x ∧ x ≤ 99) ∧ Bx H2 b (n + 24 * i) ∧ Kp [b] H H2) ?_ ?_ ?_⟩
    · have nb : b ≠ p := by
        obtain ⟨_, _, _, e, _⟩ := hB.ex
        exact ne_of_none e hp
      exact ⟨[], [], upd_same, .nil, rfl, (fun r hr => nomatch hr), (hB.keep (Kp.rfl'.new (bs := []) hp) (by simp)).up (by omega), Kp.rfl'.new hp⟩
    · rintro i H2 hi ⟨xs, rows, hD, hX, hl, hg, hB2, k2⟩
      obtain ⟨_, _, _, eb, _⟩ := hB2.ex
      refine ⟨rfl, yesT ?_⟩
      refine ⟨_, rfl, c, rfl, by omega, by omega, fun p2 hp2 => lc_range (n := c.toNat) (fun j H3 => ∃ (r : List Int), H3 p2 = some (.lst (r.map V.int)) ∧ r.length = j ∧ (∀ x ∈ r, -99 ≤ x ∧ x ≤ 99) ∧ Bx H3 b (n + 24 * i + 2 * j) ∧ Kp [b] H2 H3) ?_ ?_ ?_⟩
      · exact ⟨[], upd_same, rfl, (fun r hr => nomatch hr), hB2.keep (Kp.rfl'.new (bs := []) hp2) (by simp), Kp.rfl'.new hp2⟩
      · rintro j H3 hj ⟨r, hr2, hlr, hgr, hB3, k3⟩
        obtain ⟨_, _, _, eb3, _⟩ := hB3.ex
        have nb : p2 ≠ b := fun z => by
          rw [z, eb] at hp2
          cases hp2
        refine ⟨rfl, yesT ?_⟩
        refine ⟨_, rfl, _, rfl, b, wd, _, rfl, hB3, by omega, fun x H4 x0 x1 hB4 k4 => ⟨_, k4 _ _ hr2 (by simpa using nb), ?_, ?_⟩⟩
        · rw [List.length_map]
          exact small1000 (by omega)
        · refine ⟨r ++ [x], by rw [upd_same]; simp, by simp [hlr], ?_, ?_, ?_⟩
          · intro y hy
            rcases List.mem_append.mp hy with z | z
            · exact hgr y z
            · rw [List.mem_singleton.mp z]
              exact ⟨x0, x1⟩
          · refine (hB4.keep (Kp.rfl'.put (bs := [p2]) (by simp)) (by simpa using nb.symm)).up (by omega)
          · exact (k3.trans k4).own hp2
      · rintro H3 ⟨r, hr2, hlr, hgr, hB3, k3⟩
        have np : p2 ≠ p := (ne_of_none hD hp2).symm
        have nb : p2 ≠ b := (ne_of_none eb hp2).symm
        have npb : p ≠ b := fun z => by
          rw [z] at hp
          obtain ⟨_, _, _, e, _⟩ := hB.ex
          rw [hp] at e
          cases e
        refine ⟨xs, k3 _ _ hD (by simpa using npb), ?_, xs ++ [.ref p2], rows ++ [r], upd_same, ?_, by simp [hl], ?_, ?_, ?_⟩
        · rw [DA.len hX, List.length_map]
          exact small1000 (by omega)
        · rw [List.map_append]
          have k5 : Kp [p, b] H3 (upd H3 p (.lst (xs ++ [.ref p2]))) := Kp.rfl'.put (by simp)
          refine ((hX.keep (k3.sub (by simp))).keep k5).app (DA.one ?_)
          exact (D.ofInts (w := 12) (k := 0) hr2 (by simp [np, nb]) (by omega) fun x hx => small40 (m := 99) (hgr x hx).1 (hgr x hx).2).keep k5
        · intro y hy
          rcases List.mem_append.mp hy with z | z
          · exact hg y z
          · rw [List.mem_singleton.mp z]
            exact ⟨hlr, hgr⟩
        · refine (hB3.keep (Kp.rfl'.put (bs := [p]) (by simp)) (by simpa using npb.symm)).up (by omega)
        · exact (k2.trans k3).own hp
    · rintro H2 ⟨xs, rows, hD, hX, hl, hg, hB2, k2⟩
      have npb : p ≠ b := fun z => by
        rw [z] at hp
        obtain ⟨_, _, _, e, _⟩ := hB.ex
        rw [hp] at e
        cases e
      exact q p rows H2 hp (.lst hD (by simpa using npb) (by rw [DA.len hX, List.length_map]; omega) (hX.less (by simp))) hl hg (hB2.up (by omega)) k2

end
end Sw

set_option maxHeartbeats 2000000
namespace Sw
open PySem PySem.Spec PyProof.Rows L2
section
variable {P : Program} {w : World} {K : PySem.W.Frag} {mg : Str → Option Value} {base : Heap}
theorem atI_end {ns : List Int} (h : ns ≠ []) : atI (ns.map V.int) (-1) = some (.int (ns.getLast h)) := by
  have e : ns.map V.int = (ns.dropLast).map V.int ++ [.int (ns.getLast h)] := by
    rw [← List.map_singleton, ← List.map_append, List.dropLast_concat_getLast h]
  rw [e]
  exact atI_last _ _
theorem cut_end (xs : List V) : cutV xs none (some (-1)) = xs.take (xs.length - 1) := by
  have e : HT.sIx xs.length xs.length (some (-1)) = xs.length - 1 := by
    unfold HT.sIx
    simp only []
    rw [if_pos (by decide)]
    omega
  unfold cutV
  rw [HT.sIx_none, e, List.drop_zero, Nat.sub_zero]
theorem ints_snoc (ws : List Int) (x : Int) : ws.map V.int ++ [V.int x] = (ws ++ [x]).map V.int := by simp
def sp_weights : Sp := fun vs H Q _ => ∃ (b : Addr) (c : Int) (n : Nat), vs = [.ref b, .int c] ∧ Bx H b n ∧ n ≤ 800000 ∧ 1 ≤ c ∧ c ≤ 5 ∧
  ∀ (p : Addr) (ws : List Int) (H' : Hp), H p = none → H' p = some (.lst (ws.map V.int)) → ws.length = c.toNat → (∀ x ∈ ws, -9 ≤ x ∧ x ≤ 9) → (∀ h : ws ≠ [], ws.getLast h ≠ 0) → Bx H' b (n + 20) → Kp [b] H H' → Q (.ref p) H'
theorem ok_weights (T : Tx K mg) : FnOk P w K mg base CX0 2 (He.fAd K ("_law_weights", none)) T.fd__law_weights p__law_weights sp_weights := by
  have G__law_take := ok_take (P := P) (w := w) (base := base) T
  refine T.F__law_weights.ok sc__law_weights (fun vs H Q E h => ?_) (fun cdv A outer s H vs Q E hr h => ?_)
  · obtain ⟨b, m, n, rfl, _⟩ := h
    rfl
  · obtain ⟨b, c, n, rfl, hB, hn, c1, c2, q⟩ := h
    have eb : ∃ o, H b = some o := by
      obtain ⟨_, _, _, e, _⟩ := hB.ex
      exact ⟨_, e⟩
    obtain ⟨ob, eb⟩ := eb
    refine ⟨_, PSs.nox (pss_cons (ps_set (i := 2) sc__law_weights.nd rfl (by first | exact Or.inl rfl | exact Or.inr rfl) (pe_lst pa_nil))
      (pss_cons (ps_for PassesOwn.never rfl (pi_range1 (by rfl) T.b_range (pa_cons (pv 1) pa_nil)) (pg_name (i := 3) sc__law_weights.nd rfl (by first | exact Or.inl rfl | exact Or.inr rfl))
      (pss_cons (ps_set (i := 5) sc__law_weights.nd rfl (by first | exact Or.inl rfl | exact Or.inr rfl) (pe_call G__law_take (hr.mono (by first | decide | omega)) rfl T.g__law_take T.F__law_take.kp T.bd__law_take .nil pass0 (pa_cons (pv 0) (pa_cons pe_int pa_nil))))
      (pss_one (ps_expr (pe_bm PySem.F.plainAttrs_list PySem.F.slot_list_append PySem.F.type_list_append mt_append (pv 2) (pa_cons (pe_ifExp (pt_cmpR op_eq (pv 5) pe_int (nomark _)) (pe_op op_sub (pe_call G__law_take (hr.mono (by first | decide | omega)) rfl T.g__law_take T.F__law_take.kp T.bd__law_take .nil pass0 (pa_cons (pv 0) (pa_cons pe_int pa_nil))) pe_int) (pe_op op_sub (pe_call G__law_take (hr.mono (by first | decide | omega)) rfl T.g__law_take T.F__law_take.kp T.bd__law_take .nil pass0 (pa_cons (pv 0) (pa_cons pe_int pa_nil))) pe_int)) pa_nil))))))
      (pss_cons (ps_set (i := 4) sc__law_weights.nd rfl (by first | exact Or.inl rfl | exact Or.inr rfl) (pe_ix ix_list (pe_lst (pa_cons pe_int (pa_cons (pe_un un_neg pe_int) (pa_cons pe_int (pa_cons pe_int pa_nil))))) (pe_call G__law_take (hr.mono (by first | decide | omega)) rfl T.g__law_take T.F__law_take.kp T.bd__law_take .nil pass0 (pa_cons (pv 0) (pa_cons pe_int pa_nil))) (fun _ _ => rfl)))
      (pss_one (ps_ret (pe_op op_cat (pe_slice sl_list (pv 2) po_none (po_some (pe_un un_neg pe_int))) (pe_lst (pa_cons (pe_ifExp (pt_cmpR op_ne (pe_ix ix_list (pv 2) (pe_un un_neg pe_int) (fun _ _ => rfl)) pe_int (nomark _)) (pe_ix ix_list (pv 2) (pe_un un_neg pe_int) (fun _ _ => rfl)) (pv 4)) pa_nil)))))))), ?_⟩
    refine ⟨Nat.zero_le _, fun p hp => ?_⟩
    have npb : p ≠ b := (ne_of_none eb hp).symm
    refine ⟨_, rfl, c, rfl, by omega, by omega, for_range (n := c.toNat) (fun i σ H2 => ∃ (o3 o5 : Option V) (ws : List Int), σ = [some (.ref b), some (.int c), some (.ref p), o3, none, o5] ∧ H2 p = some (.lst (ws.map V.int)) ∧ ws.length = i ∧ (∀ x ∈ ws, -9 ≤ x ∧ x ≤ 9) ∧ Bx H2 b (n + 2 * i) ∧ Kp [b] H H2) ?_ ?_ ?_⟩
    · exact ⟨none, none, [], rfl, upd_same, rfl, (fun r hr => nomatch hr), hB.keep (Kp.rfl'.new (bs := []) hp) (by simp), Kp.rfl'.new hp⟩
    · rintro i σ H2 hi ⟨o3, o5, ws, rfl, hP, hl, hg, hB2, k2⟩
      refine ⟨_, rfl, b, 4, _, rfl, hB2, by decide, by decide, by omega, fun r H3 r0 r1 hB3 k3 => ?_⟩
      have hP3 := k3 _ _ hP (by simpa using npb)
      have fin : ∀ (x : Int) (H4 : Hp), -9 ≤ x → x ≤ 9 → Bx H4 b (n + 2 * i + 1 + 1) → Kp [b] H3 H4 → ∃ l xs y, V.ref p = V.ref l ∧ [V.int x] = [y] ∧ H4 l = some (.lst xs) ∧ xs.length < sizeLine ∧
          ∃ (o3 o5 : Option V) (ws : List Int), [some (V.ref b), some (.int c), some (.ref p), some (.int (0 + (i : Int))), none, some (.int r)] = [some (.ref b), some (.int c), some (.ref p), o3, none, o5] ∧ upd H4 l (.lst (xs ++ [y])) p = some (.lst (ws.map V.int)) ∧ ws.length = i + 1 ∧ (∀ x ∈ ws, -9 ≤ x ∧ x ≤ 9) ∧ Bx (upd H4 l (.lst (xs ++ [y]))) b (n + 2 * (i + 1)) ∧ Kp [b] H (upd H4 l (.lst (xs ++ [y]))) := by
        intro x H4 x0 x1 hB4 k4
        have hP4 := k4 _ _ hP3 (by simpa using npb)
        refine ⟨p, _, _, rfl, rfl, hP4, by rw [List.length_map]; exact small1000 (by omega), _, _, ws ++ [x], rfl, by rw [upd_same, ints_snoc], by simp [hl], ?_, (hB4.keep (Kp.rfl'.put (bs := [p]) (by simp)) (by simpa using npb.symm)).up (by omega), ((k2.trans k3).trans k4).own hp⟩
        intro y hy
        rcases List.mem_append.mp hy with z | z
        · exact hg y z
        · rw [List.mem_singleton.mp z]
          exact ⟨x0, x1⟩
      refine ⟨_, rfl, .inl ⟨rfl, _, SqL.of hP3⟩, _, rfl, rfl, _, rfl, ite2 (fun cc => ?_) (fun cc => ?_)⟩
      · refine ⟨_, rfl, b, 19, _, rfl, hB3, by decide, by decide, by omega, fun r2 H4 z0 z1 hB4 k4 => ⟨_, _, rfl, rfl, ?_⟩⟩
        exact fin _ H4 (by omega) (by omega) hB4 k4
      · refine ⟨_, rfl, b, 5, _, rfl, hB3, by decide, by decide, by omega, fun r2 H4 z0 z1 hB4 k4 => ⟨_, _, rfl, rfl, ?_⟩⟩
        exact fin _ H4 (by omega) (by omega) hB4 k4
    · rintro σ H2 ⟨o3, o5, ws, rfl, hP, hl, hg, hB2, k2⟩
      have nw : ws ≠ [] := fun z => by
        rw [z] at hl
        simp at hl
        omega
      refine ⟨1, rfl, by show 4 ≤ sizeLine; decide, fun p2 hp2 => ?_⟩
      have np2 : p2 ≠ b := by
        obtain ⟨_, _, _, e, _⟩ := hB2.ex
        exact (ne_of_none e hp2).symm
      have n12 : p2 ≠ p := (ne_of_none hP hp2).symm
      refine ⟨_, rfl, b, 4, _, rfl, hB2.keep (Kp.rfl'.new (bs := []) hp2) (by simp), by decide, by decide, by omega, fun r H3 r0 r1 hB3 k3 => ?_⟩
      obtain ⟨lw, hlw, lw0, lw1, lw2⟩ : ∃ v : Int, atI [V.int 1, V.int (-1), V.int 2, V.int 3] r = some (.int v) ∧ v ≠ 0 ∧ -9 ≤ v ∧ v ≤ 9 := by
        have : r = 0 ∨ r = 1 ∨ r = 2 ∨ r = 3 := by omega
        rcases this with z | z | z | z <;> subst z
        · exact ⟨1, rfl, by decide, by decide, by decide⟩
        · exact ⟨-1, rfl, by decide, by decide, by decide⟩
        · exact ⟨2, rfl, by decide, by decide, by decide⟩
        · exact ⟨3, rfl, by decide, by decide, by decide⟩
      refine ⟨p2, _, _, _, rfl, rfl, SqL.of (k3 _ _ upd_same (by simpa using np2)), hlw, ?_⟩
      have hP3 : H3 p = some (.lst (ws.map V.int)) := k3 _ _ (by rw [upd_ne n12.symm]; exact hP) (by simpa using npb)
      refine ⟨_, rfl, 1, rfl, _, rfl, p, _, rfl, SqL.of hP3, fun p4 hp4 => ?_⟩
      have hP4 : (upd H3 p4 (.lst (cutV (ws.map V.int) none (some (-1))))) p = some (.lst (ws.map V.int)) := by
        rw [upd_ne (ne_of_none hP3 hp4)]
        exact hP3
      refine ⟨_, rfl, 1, rfl, p, _, _, _, rfl, rfl, SqL.of hP4, atI_end nw, rfl, _, rfl, ?_⟩
      have fin : ∀ v : Int, v ≠ 0 → -9 ≤ v → v ≤ 9 → 1 ≤ sizeLine ∧ ∀ p5, (upd H3 p4 (.lst (cutV (ws.map V.int) none (some (-1))))) p5 = none → rCat (.ref p4) (.ref p5) (upd (upd H3 p4 (.lst (cutV (ws.map V.int) none (some (-1))))) p5 (.lst [.int v])) Q := by
        intro v v0 v1 v2
        refine ⟨by decide, fun p5 hp5 => ?_⟩
        have n45 : p4 ≠ p5 := fun z => by
          rw [← z, upd_same] at hp5
          cases hp5
        refine ⟨p4, p5, _, _, rfl, rfl, by rw [upd_ne n45, upd_same], upd_same, ?_, fun p6 hp6 => ?_⟩
        · have := cutV_length (ws.map V.int) none (some (-1))
          rw [List.length_map] at this
          exact Nat.le_of_lt (small1000 (by simp only [List.length_singleton]; omega))
        have f5 : H3 p5 = none := by
          rw [upd_ne n45.symm] at hp5
          exact hp5
        have f6 : H3 p6 = none := by
          by_cases z : p6 = p5
          · rw [z, upd_same] at hp6
            cases hp6
          · rw [upd_ne z] at hp6
            by_cases y : p6 = p4
            · rw [y, upd_same] at hp6
              cases hp6
            · rw [upd_ne y] at hp6
              exact hp6
        have kk : Kp [b] H2 H3 := fun a o e na => k3 a o (by rw [upd_ne (ne_of_none e hp2)]; exact e) na
        have f06 : H p6 = none := k2.free (kk.free f6 fun z => by
          have z := List.mem_singleton.mp z
          obtain ⟨_, _, _, e, _⟩ := hB3.ex
          rw [← z, f6] at e
          cases e) fun z => by
          have z := List.mem_singleton.mp z
          obtain ⟨_, _, _, e, _⟩ := hB3.ex
          rw [← z, f6] at e
          cases e
        have kz : Kp [b] H (upd (upd (upd H3 p4 (.lst (cutV (ws.map V.int) none (some (-1))))) p5 (.lst [.int v])) p6 (.lst (cutV (ws.map V.int) none (some (-1)) ++ [.int v]))) := (((k2.trans kk).new hp4).new hp5).new hp6
        have hz : ws.length - 1 + 1 = c.toNat := by omega
        refine q p6 (ws.take (ws.length - 1) ++ [v]) _ f06 ?_ ?_ ?_ ?_ ?_ kz
        · rw [upd_same, cut_end]
          simp
        · rw [List.length_append, List.length_take, List.length_singleton]
          omega
        · intro y hy
          rcases List.mem_append.mp hy with z | z
          · exact hg y (List.mem_of_mem_take z)
          · rw [List.mem_singleton.mp z]
            exact ⟨v1, v2⟩
        · intro hne
          simpa using v0
        · exact (hB3.keep (bs := []) ((((Kp.rfl').new hp4).new hp5).new hp6) (by simp)).up (by omega)
      refine ite2 (fun cc => ?_) (fun cc => ?_)
      · refine ⟨_, rfl, 1, rfl, p, _, _, _, rfl, rfl, SqL.of hP4, atI_end nw, ?_⟩
        exact fin _ (fun z => by simp [z] at cc) (hg _ (List.getLast_mem nw)).1 (hg _ (List.getLast_mem nw)).2
      · exact ⟨_, rfl, fin _ lw0 lw1 lw2⟩

end
end Sw

set_option maxHeartbeats 2000000
namespace Sw
open PySem PySem.Spec PyProof.Rows L2
section
variable {P : Program} {w : World} {K : PySem.W.Frag} {mg : Str → Option Value} {base : Heap}
theorem sum_bd {m : Int} : ∀ {ns : List Int}, (∀ x ∈ ns, 0 ≤ x ∧ x ≤ m) → 0 ≤ ns.sum ∧ ns.sum ≤ ns.length * m
  | [], _ => by simp
  | a :: r, h => by
    have h1 := h a (List.mem_cons_self ..)
    have h2 := sum_bd (ns := r) fun x hx => h x (List.mem_cons_of_mem _ hx)
    have e : ((a :: r).length : Int) * m = (r.length : Int) * m + m := by
      rw [List.length_cons, Int.natCast_succ, Int.add_mul, Int.one_mul]
    rw [List.sum_cons, e]
    omega
def absI (x : Int) : Int := if x < 0 then -x else x
def rises (r : List Int) : Prop := ∀ (i : Nat) (x y : Int), r[i]? = some x → r[i + 1]? = some y → x < y
theorem rises_one (x : Int) : rises [x] := fun i a b h1 h2 => by
  cases i <;> simp at h2
theorem rises_snoc {r : List Int} {z : Int} (h : rises r) (ne : r ≠ []) (hz : r.getLast ne < z) : rises (r ++ [z]) := fun i x y h1 h2 => by
  have hl : r.length ≠ 0 := fun e => ne (List.eq_nil_of_length_eq_zero e)
  by_cases c : i + 1 < r.length
  · rw [List.getElem?_append_left (by omega)] at h1
    rw [List.getElem?_append_left c] at h2
    exact h i x y h1 h2
  · by_cases e : i + 1 = r.length
    · rw [List.getElem?_append_left (by omega)] at h1
      rw [List.getElem?_append_right (by omega), e, Nat.sub_self] at h2
      have hy : z = y := by simpa using h2
      have hx : r.getLast ne = x := by
        rw [List.getLast_eq_getElem]
        have e2 : i = r.length - 1 := by omega
        subst e2
        rw [List.getElem?_eq_getElem (by omega)] at h1
        exact Option.some.inj h1
      omega
    · rw [List.getElem?_eq_none (by simp; omega)] at h2
      cases h2
structure Rung (r : List Int) : Prop where
  l1 : 1 ≤ r.length
  l4 : r.length ≤ 4
  up : rises r
  bd : ∀ x ∈ r, -20000 ≤ x ∧ x ≤ 20000
def sp_rungs : Sp := fun vs H Q _ => ∃ (b t wa : Addr) (rows : List (List Int)) (ws : List Int) (n : Nat), vs = [.ref b, .ref t, .ref wa] ∧ Bx H b n ∧ n ≤ 800000 ∧ D [b] H 12 2 (.ref t) (dII rows) ∧ H wa = some (.lst (ws.map V.int)) ∧ wa ≠ b ∧
  (∀ r ∈ rows, ∀ x ∈ r, -99 ≤ x ∧ x ≤ 99) ∧ ws.length ≤ 5 ∧ (∀ x ∈ ws, -9 ≤ x ∧ x ≤ 9) ∧
  ∀ (p : Addr) (steps : List (List Int)) (H' : Hp), H p = none → D [b] H' 12 2 (.ref p) (dII steps) → steps.length = rows.length → (∀ r ∈ steps, Rung r) → Bx H' b (n + 100) → Kp [b] H H' → Q (.ref p) H'
theorem ok_rungs (T : Tx K mg) : FnOk P w K mg base CX0 2 (He.fAd K ("_law_rungs", none)) T.fd__law_rungs p__law_rungs sp_rungs := by
  have G__law_take := ok_take (P := P) (w := w) (base := base) T
  refine T.F__law_rungs.ok sc__law_rungs (fun vs H Q E h => ?_) (fun cdv A outer s H vs Q E hr h => ?_)
  · obtain ⟨b, m, n, _, _, _, rfl, _⟩ := h
    rfl
  · obtain ⟨b, t, wa, rows, ws, n, rfl, hB, hn, hT, hW, nwb, hrows, lws, hws, q⟩ := h
    have eb : ∃ o, H b = some o := by
      obtain ⟨_, _, _, e, _⟩ := hB.ex
      exact ⟨_, e⟩
    obtain ⟨ob, eb⟩ := eb
    cases hT with
    | @lst _ _ ts _ hT0 nT lT dT =>
    refine ⟨_, PSs.nox (pss_cons (ps_set (i := 3) sc__law_rungs.nd rfl (by first | exact Or.inl rfl | exact Or.inr rfl) (pe_lst pa_nil))
      (pss_cons (ps_for PassesOwn.never rfl (pi_list (pv 1)) (pg_name (i := 4) sc__law_rungs.nd rfl (by first | exact Or.inl rfl | exact Or.inr rfl))
      (pss_cons (ps_set (i := 5) sc__law_rungs.nd rfl (by first | exact Or.inl rfl | exact Or.inr rfl) (pe_callB (call_min2 rfl) (by rfl) T.b_min (by decide +kernel) (pa_cons pe_int (pa_cons (pe_op op_add (pe_op op_mul (pe_op op_mul pe_int (pe_callB (cr_sum rfl) (by rfl) T.b_sum (by decide +kernel) (pa_cons (pe_lc (own := [("_law_weight", 9)]) (g := (gName 9)) (tt := tYes) rfl sc__law_rungs.nd (pi_list (pv 2)) (blkOk_by (own := [("_law_weight", 9)]) (N := n__law_rungs) (sc := defScope s__law_rungs) (by decide +kernel)) (fun _ _ _ _ _ => (pg_name (i := 9) sc__law_rungs.nd rfl (by first | exact Or.inl rfl | exact Or.inr rfl))) (fun _ _ _ _ _ => pts_nil) (fun _ _ _ _ _ => (pe_callB call_abs (by rfl) T.b_abs (by decide +kernel) (pa_cons (pv 9) pa_nil)))) pa_nil))) (pe_callB (cr_sum rfl) (by rfl) T.b_sum (by decide +kernel) (pa_cons (pe_lc (own := [("_law_tie", 8)]) (g := (gName 8)) (tt := tYes) rfl sc__law_rungs.nd (pi_list (pv 4)) (blkOk_by (own := [("_law_tie", 8)]) (N := n__law_rungs) (sc := defScope s__law_rungs) (by decide +kernel)) (fun _ _ _ _ _ => (pg_name (i := 8) sc__law_rungs.nd rfl (by first | exact Or.inl rfl | exact Or.inr rfl))) (fun _ _ _ _ _ => pts_nil) (fun _ _ _ _ _ => (pe_callB call_abs (by rfl) T.b_abs (by decide +kernel) (pa_cons (pv 8) pa_nil)))) pa_nil))) pe_int) pa_nil))))
      (pss_cons (ps_set (i := 6) sc__law_rungs.nd rfl (by first | exact Or.inl rfl | exact Or.inr rfl) (pe_lst (pa_cons (pe_op op_sub (pe_call G__law_take (hr.mono (by first | decide | omega)) rfl T.g__law_take T.F__law_take.kp T.bd__law_take .nil pass0 (pa_cons (pv 0) (pa_cons (pe_op op_add (pe_op op_mul pe_int (pv 5)) pe_int) pa_nil))) (pv 5)) pa_nil)))
      (pss_cons (ps_for PassesOwn.never rfl (pi_range1 (by rfl) T.b_range (pa_cons (pe_call G__law_take (hr.mono (by first | decide | omega)) rfl T.g__law_take T.F__law_take.kp T.bd__law_take .nil pass0 (pa_cons (pv 0) (pa_cons pe_int pa_nil))) pa_nil)) (pg_name (i := 7) sc__law_rungs.nd rfl (by first | exact Or.inl rfl | exact Or.inr rfl))
      (pss_one (ps_expr (pe_bm PySem.F.plainAttrs_list PySem.F.slot_list_append PySem.F.type_list_append mt_append (pv 6) (pa_cons (pe_op op_add (pe_op op_add (pe_ix ix_list (pv 6) (pe_un un_neg pe_int) (fun _ _ => rfl)) pe_int) (pe_call G__law_take (hr.mono (by first | decide | omega)) rfl T.g__law_take T.F__law_take.kp T.bd__law_take .nil pass0 (pa_cons (pv 0) (pa_cons (pe_op op_add (pe_op op_fdivN (pv 5) pe_int) pe_int) pa_nil)))) pa_nil)))))
      (pss_one (ps_expr (pe_bm PySem.F.plainAttrs_list PySem.F.slot_list_append PySem.F.type_list_append mt_append (pv 3) (pa_cons (pv 6) pa_nil))))))))
      (pss_one (ps_ret (pv 3))))), ?_⟩
    refine ⟨Nat.zero_le _, fun p hp => ?_⟩
    have npb : p ≠ b := (ne_of_none eb hp).symm
    refine ⟨_, rfl, t, rfl, ⟨_, SqL.of (by rw [upd_ne (ne_of_none hT0 hp)]; exact hT0)⟩, for_list (K := K) (a := t) (xs := ts) (fun i σ H2 => ∃ (o4 o5 o6 o7 : Option V) (fs : List V) (steps : List (List Int)), σ = [some (.ref b), some (.ref t), some (.ref wa), some (.ref p), o4, o5, o6, o7, none, none] ∧ H2 p = some (.lst fs) ∧ DA [p, b] H2 12 1 fs (steps.map dI) ∧ steps.length = i ∧ (∀ r ∈ steps, Rung r) ∧ Bx H2 b (n + 5 * i) ∧ Kp [b] H H2) ?_ ?_ ?_ ?_⟩
    · exact ⟨none, none, none, none, [], [], rfl, upd_same, .nil, rfl, (fun r hr => nomatch hr), hB.keep (Kp.rfl'.new (bs := []) hp) (by simp), Kp.rfl'.new hp⟩
    · rintro i σ H2 _ ⟨_, _, _, _, _, _, _, _, _, _, _, _, k2⟩
      exact SqL.of (k2 _ _ hT0 nT)
    · rintro i x σ H2 hi ⟨o4, o5, o6, o7, fs, steps, rfl, hP, hF, hl, hg, hB2, k2⟩
      have hi2 : i < 12 := by
        have := (List.getElem?_eq_some_iff.mp hi).1
        omega
      obtain ⟨dr, hdr, hx⟩ := dT.get hi
      rw [List.getElem?_map] at hdr
      obtain ⟨row, hrow, rfl⟩ := Option.map_eq_some_iff.mp hdr
      obtain ⟨ra, rfl, hR0, nR, lR⟩ := hx.lints
      have hR := k2 _ _ hR0 nR
      have hW2 := k2 _ _ hW (by simpa using nwb)
      have hrow2 := hrows row (List.mem_of_getElem? hrow)
      -- the sums
      refine ⟨_, rfl, wa, rfl, ⟨_, SqL.of hW2⟩, fun d1 hd1 => lc_list (K := K) (a := wa) (xs := ws.map V.int) (fun j H3 => H3 d1 = some (.lst (((ws.take j).map absI).map V.int)) ∧ Kp [] H2 H3) ?_ ?_ ?_ ?_⟩
      · exact ⟨by rw [upd_same]; rfl, Kp.rfl'.new hd1⟩
      · rintro j H3 _ ⟨_, k3⟩
        exact SqL.of (k3 _ _ hW2 (by simp))
      · rintro j y H3 hj ⟨h3, k3⟩
        rw [List.getElem?_map] at hj
        obtain ⟨z, hz, rfl⟩ := Option.map_eq_some_iff.mp hj
        refine ⟨rfl, yesT ?_⟩
        refine ⟨_, rfl, z, rfl, _, h3, ?_, ?_, ?_⟩
        · simp only [List.length_map, List.length_take]
          exact small1000 (by omega)
        · rw [upd_same, List.take_add_one, hz]
          simp [absI]
        · exact k3.own hd1
      · rintro H3 ⟨h3, k3⟩
        rw [List.length_map, List.take_length] at h3
        refine ⟨d1, _, rfl, SqL.of h3, 2, _, rfl, rfl, .inl ⟨by decide, by decide⟩, ?_⟩
        have s1 := sum_bd (m := 9) (ns := ws.map absI) (fun x hx => by
          obtain ⟨y, hy, rfl⟩ := List.mem_map.mp hx
          have := hws y hy
          unfold absI
          split <;> omega)
        rw [List.length_map] at s1
        have hR3 := k3 _ _ hR (by simp)
        refine ⟨_, rfl, ra, rfl, ⟨_, SqL.of hR3⟩, fun d2 hd2 => lc_list (K := K) (a := ra) (xs := row.map V.int) (fun j H4 => H4 d2 = some (.lst (((row.take j).map absI).map V.int)) ∧ Kp [] H3 H4) ?_ ?_ ?_ ?_⟩
        · exact ⟨by rw [upd_same]; rfl, Kp.rfl'.new hd2⟩
        · rintro j H4 _ ⟨_, k4⟩
          exact SqL.of (k4 _ _ hR3 (by simp))
        · rintro j y H4 hj ⟨h4, k4⟩
          rw [List.getElem?_map] at hj
          obtain ⟨z, hz, rfl⟩ := Option.map_eq_some_iff.mp hj
          refine ⟨rfl, yesT ?_⟩
          refine ⟨_, rfl, z, rfl, _, h4, ?_, ?_, ?_⟩
          · simp only [List.length_map, List.length_take]
            exact small1000 (by omega)
          · rw [upd_same, List.take_add_one, hz]
            simp [absI]
          · exact k4.own hd2
        · rintro H4 ⟨h4, k4⟩
          rw [List.length_map, List.take_length] at h4
          have s2 := sum_bd (m := 99) (ns := row.map absI) (fun x hx => by
            obtain ⟨y, hy, rfl⟩ := List.mem_map.mp hx
            have := hrow2 y hy
            unfold absI
            split <;> omega)
          rw [List.length_map] at s2
          refine ⟨d2, _, rfl, SqL.of h4, _, _, rfl, rfl, .inl ⟨by omega, by omega⟩, _, _, rfl, rfl, _, _, rfl, ?_⟩
          have r1 : 0 ≤ 2 * (ws.map absI).sum * (row.map absI).sum := Int.mul_nonneg (by omega) s2.1
          obtain ⟨R, hR, R1, R2⟩ : ∃ R : Int, (if 2 * (ws.map absI).sum * (row.map absI).sum + 1 < 3000 then 2 * (ws.map absI).sum * (row.map absI).sum + 1 else 3000) = R ∧ 1 ≤ R ∧ R ≤ 3000 := ⟨_, rfl, by split <;> omega, by split <;> omega⟩
          rw [hR]
          have k24 : Kp [b] H2 H4 := (k3.trans k4).sub (by simp)
          have hB4 := hB2.keep (k3.trans k4) (by simp)
          have hP4 := k24 _ _ hP (by simpa using npb)
          have hF4 := hF.keep (k24.sub (cs := [p, b]) (by simp))
          refine ⟨_, rfl, _, rfl, _, _, rfl, rfl, .inl ⟨by decide, by decide⟩, _, _, rfl, rfl, b, _, _, rfl, hB4, by omega, by omega, by omega, fun r H5 r0 r1' hB5 k5 => ⟨_, rfl, _, _, rfl, rfl, by show 1 ≤ sizeLine; decide, fun d3 hd3 => ?_⟩⟩
          have nd3b : d3 ≠ b := by
            obtain ⟨_, _, _, e, _⟩ := hB5.ex
            exact (ne_of_none e hd3).symm
          have hP5 := k5 _ _ hP4 (by simpa using npb)
          have nd3p : d3 ≠ p := (ne_of_none hP5 hd3).symm
          refine ⟨_, rfl, b, 4, _, rfl, hB5.keep (Kp.rfl'.new (bs := []) hd3) (by simp), by decide, by decide, by omega, fun r2 H6 z0 z1 hB6 k6 => ⟨r2, rfl, by omega, by omega, ?_⟩⟩
          have h6 : H6 d3 = some (.lst ([r - R].map V.int)) := k6 _ _ upd_same (by simpa using nd3b)
          have k56 : Kp [b] H5 H6 := fun a o e na => k6 a o (by rw [upd_ne (ne_of_none e hd3)]; exact e) na
          refine for_range (n := r2.toNat) (fun j σ H7 => ∃ (o7 : Option V) (rs : List Int), σ = [some (.ref b), some (.ref t), some (.ref wa), some (.ref p), some (.ref ra), some (.int R), some (.ref d3), o7, none, none] ∧ H7 d3 = some (.lst (rs.map V.int)) ∧ rs.length = j + 1 ∧ rises rs ∧ (∀ x ∈ rs, -3000 ≤ x ∧ x ≤ 3000 + 1002 * j) ∧ Bx H7 b (n + 5 * i + 2 + j) ∧ Kp [b] H5 H7) ?_ ?_ ?_
          · exact ⟨o7, [r - R], rfl, h6, rfl, rises_one _, fun x hx => by rw [List.mem_singleton.mp hx]; omega, hB6, k56⟩
          · rintro j σ H7 hj ⟨o7, rs, rfl, h7, l7, up7, bd7, hB7, k7⟩
            have ne7 : rs ≠ [] := fun z => by
              rw [z] at l7
              cases l7
            have hR3 : 0 ≤ R / 3 ∧ R / 3 ≤ 1000 := ⟨by omega, by omega⟩
            have eR : R.fdiv 3 = R / 3 := Int.fdiv_eq_ediv_of_nonneg _ (by decide)
            refine ⟨_, rfl, .inl ⟨rfl, _, SqL.of h7⟩, _, rfl, 1, rfl, d3, _, _, _, rfl, rfl, SqL.of h7, atI_end ne7, _, _, rfl, rfl, ?_⟩
            refine ⟨_, rfl, _, rfl, _, _, rfl, rfl, ⟨by decide, by decide⟩, _, _, rfl, rfl, b, _, _, rfl, hB7, by omega, by omega, by omega, fun r3 H8 y0 y1 hB8 k8 => ⟨_, _, rfl, rfl, ?_⟩⟩
            have h8 := k8 _ _ h7 (by simpa using nd3b)
            have lb := bd7 _ (List.getLast_mem ne7)
            refine ⟨d3, _, _, rfl, rfl, h8, by rw [List.length_map]; exact small1000 (by omega), _, rs ++ [rs.getLast ne7 + 1 + r3], rfl, by rw [upd_same, ints_snoc], by simp [l7], rises_snoc up7 ne7 (by omega), ?_, (hB8.keep (Kp.rfl'.put (bs := [d3]) (by simp)) (by simpa using nd3b.symm)).up (by omega), (k7.trans k8).own hd3⟩
            intro x hx
            rcases List.mem_append.mp hx with z | z
            · have := bd7 x z
              omega
            · rw [List.mem_singleton.mp z]
              omega
          · rintro σ H7 ⟨o7, rs, rfl, h7, l7, up7, bd7, hB7, k7⟩
            have k27 : Kp [b] H2 H7 := k24.trans (k5.trans k7)
            have hP7 := k27 _ _ hP (by simpa using npb)
            refine ⟨_, rfl, .inl ⟨rfl, _, SqL.of hP7⟩, _, rfl, p, _, _, rfl, rfl, hP7, by rw [DA.len hF, List.length_map]; exact small1000 (by omega), ?_⟩
            have k8 : Kp [p, b] H7 (upd H7 p (.lst (fs ++ [.ref d3]))) := Kp.rfl'.put (by simp)
            refine ⟨_, _, _, _, fs ++ [.ref d3], steps ++ [rs], rfl, upd_same, ?_, by simp [hl], ?_, (hB7.keep (Kp.rfl'.put (bs := [p]) (by simp)) (by simpa using npb.symm)).up (by omega), (k2.trans k27).own hp⟩
            · rw [List.map_append]
              refine ((hF.keep (k27.sub (by simp))).keep k8).app (DA.one ((D.ofInts (w := 12) (k := 0) h7 (by simp [nd3p, nd3b]) (by omega) fun x hx => ?_).keep k8))
              have := bd7 x hx
              omega
            · intro y hy
              rcases List.mem_append.mp hy with z | z
              · exact hg y z
              · rw [List.mem_singleton.mp z]
                exact ⟨by omega, by omega, up7, fun x hx => by have := bd7 x hx; omega⟩
    · rintro σ H2 ⟨o4, o5, o6, o7, fs, steps, rfl, hP, hF, hl, hg, hB2, k2⟩
      have lt := DA.len dT
      rw [List.length_map] at lt
      exact ⟨_, rfl, q p steps H2 hp (.lst hP (by simpa using npb) (by rw [DA.len hF, List.length_map]; omega) (hF.less (by simp))) (by omega) hg (hB2.up (by omega)) k2⟩

end
end Sw

set_option maxHeartbeats 2000000
namespace Sw
open PySem PySem.Spec PyProof.Rows L2
section
variable {P : Program} {w : World} {K : PySem.W.Frag} {mg : Str → Option Value} {base : Heap}
structure HallData (c c2 : Nat) (rows steps : List (List Int)) (ws : List Int) : Prop where
  c1 : 1 ≤ c
  c12 : c ≤ 12
  w1 : 1 ≤ c2
  w5 : c2 ≤ 5
  lr : rows.length = c
  row : ∀ r ∈ rows, r.length = c ∧ ∀ x ∈ r, -99 ≤ x ∧ x ≤ 99
  ls : steps.length = c
  step : ∀ r ∈ steps, Rung r
  lw : ws.length = c2
  wt : ∀ x ∈ ws, -9 ≤ x ∧ x ≤ 9
  last : ∀ h : ws ≠ [], ws.getLast h ≠ 0
def sp_data : Sp := fun vs H Q _ => ∃ (b : Addr) (c c2 : Int) (wd : Bool) (n : Nat), vs = [.ref b, .int c, .int c2, .bl wd] ∧ Bx H b n ∧ n ≤ 700000 ∧ 1 ≤ c ∧ c ≤ 12 ∧ 1 ≤ c2 ∧ c2 ≤ 5 ∧
  ∀ (t p s wa : Addr) (rows steps : List (List Int)) (ws : List Int) (H' : Hp), H t = none → H' t = some (.tup [.ref p, .ref s, .ref wa]) → D [b] H' 12 2 (.ref p) (dII rows) → D [b] H' 12 2 (.ref s) (dII steps) → D [b] H' 12 1 (.ref wa) (dI ws) →
    HallData c.toNat c2.toNat rows steps ws → Bx H' b (n + 500) → Kp [b] H H' → Q (.ref t) H'
theorem ok_data (T : Tx K mg) : FnOk P w K mg base CX0 4 (He.fAd K ("_law_data", none)) T.fd__law_data p__law_data sp_data := by
  have G__law_ties := ok_ties (P := P) (w := w) (base := base) T
  have G__law_weights := ok_weights (P := P) (w := w) (base := base) T
  have G__law_rungs := ok_rungs (P := P) (w := w) (base := base) T
  refine T.F__law_data.ok sc__law_data (fun vs H Q E h => ?_) (fun cdv A outer s H vs Q E hr h => ?_)
  · obtain ⟨b, c, c2, wd, n, rfl, _⟩ := h
    rfl
  · obtain ⟨b, c, c2, wd, n, rfl, hB, hn, c1, c12, d1, d5, q⟩ := h
    refine ⟨_, PSs.nox (pss_cons (ps_par (i := 4) (j := 5) (by rfl) sc__law_data.nd rfl rfl (by decide) rfl rfl (pa_cons (pe_call G__law_ties (hr.mono (by first | decide | omega)) rfl T.g__law_ties T.F__law_ties.kp T.bd__law_ties .nil pass0 (pa_cons (pv 0) (pa_cons (pv 1) (pa_cons (pv 3) pa_nil)))) (pa_cons (pe_call G__law_weights (hr.mono (by first | decide | omega)) rfl T.g__law_weights T.F__law_weights.kp T.bd__law_weights .nil pass0 (pa_cons (pv 0) (pa_cons (pv 2) pa_nil))) pa_nil)) (by rfl))
      (pss_one (ps_ret (pe_tup (pa_cons (pv 4) (pa_cons (pe_call G__law_rungs (hr.mono (by first | decide | omega)) rfl T.g__law_rungs T.F__law_rungs.kp T.bd__law_rungs .nil pass0 (pa_cons (pv 0) (pa_cons (pv 4) (pa_cons (pv 5) pa_nil)))) (pa_cons (pv 5) pa_nil))))))), ?_⟩
    refine ⟨_, rfl, _, rfl, _, rfl, b, c, wd, n, rfl, hB, by omega, c1, c12, fun p rows H1 hp hD hl hg hB1 k1 => ?_⟩
    refine ⟨_, rfl, _, rfl, b, c2, _, rfl, hB1, by omega, d1, d5, fun p2 ws H2 hp2 hw hlw hgw hlast hB2 k2 => ⟨_, _, rfl, ?_⟩⟩
    have nb : p2 ≠ b := by
      obtain ⟨_, _, _, e, _⟩ := hB1.ex
      exact (ne_of_none e hp2).symm
    refine ⟨_, rfl, _, rfl, _, rfl, _, rfl, b, p, p2, rows, ws, _, rfl, hB2, by omega, hD.keep k2, hw, nb, (fun r hr => (hg r hr).2), by omega, hgw, fun p3 steps H3 hp3 hS hls hgs hB3 k3 => ?_⟩
    refine ⟨_, rfl, by show 3 ≤ sizeLine; decide, fun t ht => ?_⟩
    have nt : t ≠ b := by
      obtain ⟨_, _, _, e, _⟩ := hB3.ex
      exact (ne_of_none e ht).symm
    have k13 : Kp [b] H H3 := k1.trans (k2.trans k3)
    have kt : Kp [b] H3 (upd H3 t (.tup [.ref p, .ref p3, .ref p2])) := Kp.rfl'.new ht
    refine q t p p3 p2 rows steps ws _ (k13.free ht (by simpa using nt)) upd_same (((hD.keep k2).keep k3).keep kt) (hS.keep kt) ((D.ofInts (w := 12) (k := 0) (k3 _ _ hw (by simpa using nb)) (by simpa using nb) (by omega) fun x hx => small40 (m := 9) (hgw x hx).1 (hgw x hx).2).keep kt)
      ⟨by omega, by omega, by omega, by omega, hl, hg, by omega, hgs, hlw, hgw, hlast⟩ ((hB3.keep (bs := []) (Kp.rfl'.new ht) (by simp)).up (by omega)) (k13.trans kt)

end
end Sw

set_option maxHeartbeats 2000000
namespace Sw
open PySem PySem.Spec PyProof.Rows L2
section
variable {P : Program} {w : World} {K : PySem.W.Frag} {mg : Str → Option Value} {base : Heap}

def isNum (d : PyData) : Bool := match d with
  | .int _ => true
  | _ => false
def allOf (f : PyData → Bool) (d : PyData) : Bool := match d with
  | .list ds => ds.all f
  | .tuple ds => ds.all f
  | _ => false
def areNums (d : PyData) : Bool := allOf isNum d
def areRows (d : PyData) : Bool := allOf areNums d
/-- a def that tells a truth of a thing -/
def sp_tell (f : PyData → Bool) : Sp := fun vs H Q _ => ∃ (v : V) (d : PyData) (bs : List Addr) (w k : Nat), vs = [v] ∧ D bs H w k v d ∧ w ≤ 1000 ∧ ∀ H', Kp [] H H' → Q (.bl (f d)) H'
theorem ok_is_number (T : Tx K mg) : FnOk P w K mg base CX0 1 (He.fAd K ("is_number", none)) T.fd_is_number p_is_number (sp_tell isNum) := by
  refine T.F_is_number.ok sc_is_number (fun vs H Q E h => ?_) (fun cdv A outer s H vs Q E hr h => ?_)
  · obtain ⟨v, d, bs, w', k, rfl, _⟩ := h
    rfl
  · obtain ⟨v, d, bs, w', k, rfl, hD, _, q⟩ := h
    refine ⟨_, PSs.nox (pss_one (ps_ret (pe_and (pe_callB call_isi (by rfl) T.b_isinstance (by decide +kernel) (pa_cons (pv 0) (pa_cons (pe_bltn (v := .ty "int") (by rfl) T.b_int (by decide +kernel) rfl) pa_nil))) (pe_one (pe_not (pe_callB call_isi (by rfl) T.b_isinstance (by decide +kernel) (pa_cons (pv 0) (pa_cons (pe_bltn (v := .ty "bool") (by rfl) T.b_bool (by decide +kernel) rfl) pa_nil)))))))), ?_⟩
    refine ⟨_, rfl, _, _, _, _, _, rfl, .ty _, hD.tyx, hD.kI, _, rfl, ?_⟩
    cases hD with
    | int i hi => exact iteT ⟨_, rfl, _, _, _, _, _, rfl, .ty _, (D.int (bs := bs) (w := w') (k := k) i hi).tyx, (D.int (bs := bs) (H := H) (w := w') (k := k) i hi).kB, _, rfl, q H Kp.rfl'⟩
    | bl b => exact iteT ⟨_, rfl, _, _, _, _, _, rfl, .ty _, (D.bl (bs := bs) (w := w') (k := k) b).tyx, (D.bl (bs := bs) (H := H) (w := w') (k := k) b).kB, _, rfl, q H Kp.rfl'⟩
    | _ => exact iteF (q H Kp.rfl')

theorem ok_are_numbers (T : Tx K mg) : FnOk P w K mg base CX0 2 (He.fAd K ("are_numbers", none)) T.fd_are_numbers p_are_numbers (sp_tell areNums) := by
  have G_is_number := ok_is_number (P := P) (w := w) (base := base) T
  refine T.F_are_numbers.ok sc_are_numbers (fun vs H Q E h => ?_) (fun cdv A outer s H vs Q E hr h => ?_)
  · obtain ⟨v, d, bs, w', k, rfl, _⟩ := h
    rfl
  · obtain ⟨v, d, bs, w', k, rfl, hD, lw, q⟩ := h
    refine ⟨_, PSs.nox (pss_one (ps_ret (pe_and (pe_callB call_isiT (by rfl) T.b_isinstance (by decide +kernel) (pa_cons (pv 0) (pa_cons (pe_tup (pa_cons (pe_bltn (v := .ty "list") (by rfl) T.b_list (by decide +kernel) rfl) (pa_cons (pe_bltn (v := .ty "tuple") (by rfl) T.b_tuple (by decide +kernel) rfl) pa_nil))) pa_nil))) (pe_one (pe_callB (cr_all rfl) (by rfl) T.b_all (by decide +kernel) (pa_cons (pe_lc (own := [("one", 1)]) (g := (gName 1)) (tt := tYes) rfl sc_are_numbers.nd (pi_seq (pv 0)) (blkOk_by (own := [("one", 1)]) (N := n_are_numbers) (sc := defScope s_are_numbers) (by decide +kernel)) (fun _ _ _ _ _ => (pg_name (i := 1) sc_are_numbers.nd rfl (by first | exact Or.inl rfl | exact Or.inr rfl))) (fun _ _ _ _ _ => pts_nil) (fun _ _ _ _ _ => (pe_call G_is_number (hr.mono (by first | decide | omega)) rfl T.g_is_number T.F_is_number.kp T.bd_is_number .nil pass0 (pa_cons (pv 1) pa_nil)))) pa_nil)))))), ?_⟩
    refine ⟨_, rfl, by show 2 ≤ sizeLine; decide, fun t ht => ?_⟩
    have k1 : ∀ cs, Kp cs H (upd H t (.tup [.ty "list", .ty "tuple"])) := fun cs => Kp.rfl'.new ht
    have hD1 := hD.keep (k1 bs)
    refine ⟨_, t, _, _, [.type "list", .type "tuple"], _, rfl, upd_same, tyLT, hD1.tyx, hD1.kQ, _, rfl, ?_⟩
    cases hD1 with
    | @lst k' a xs ds h n l da =>
      refine iteT ⟨_, rfl, a, rfl, .inl ⟨⟨_, SqL.of h⟩, fun p hp => lc_list (K := K) (a := a) (xs := xs) (fun j H3 => H3 p = some (.lst (((ds.take j).map isNum).map V.bl)) ∧ Kp [] (upd H t (.tup [.ty "list", .ty "tuple"])) H3) ?_ ?_ ?_ ?_⟩⟩
      · exact ⟨by rw [upd_same]; rfl, Kp.rfl'.new hp⟩
      · rintro j H3 _ ⟨_, k3⟩
        exact SqL.of (k3 _ _ h (by simp))
      · rintro j y H3 hj ⟨h3, k3⟩
        obtain ⟨e, he, hy⟩ := da.get hj
        have hjl := (List.getElem?_eq_some_iff.mp hj).1
        refine ⟨rfl, yesT ⟨_, rfl, y, e, bs, w', k', rfl, hy.keep (k3.sub (by simp)), lw, fun H4 k4 => ⟨_, k4 _ _ h3 (by simp), ?_, ?_, ?_⟩⟩⟩
        · simp only [List.length_map, List.length_take]
          exact small1000 (by omega)
        · rw [upd_same, List.take_add_one, he]
          simp
        · exact (k3.trans k4).own hp
      · rintro H3 ⟨h3, k3⟩
        rw [DA.len da, List.take_length] at h3
        refine ⟨p, _, rfl, SqL.of h3, ?_⟩
        have e : (ds.map isNum).all id = areNums (.list ds) := by simp [areNums, allOf, List.all_map, Function.comp_def]
        rw [e]
        exact q _ ((k1 []).trans k3)
    | @tup k' a xs ds h n l da =>
      refine iteT ⟨_, rfl, a, rfl, .inr ⟨⟨_, SqT.of h⟩, fun p hp => lc_tup (K := K) (a := a) (xs := xs) (fun j H3 => H3 p = some (.lst (((ds.take j).map isNum).map V.bl)) ∧ Kp [] (upd H t (.tup [.ty "list", .ty "tuple"])) H3) ?_ ?_ ?_ ?_⟩⟩
      · exact ⟨by rw [upd_same]; rfl, Kp.rfl'.new hp⟩
      · rintro j H3 _ ⟨_, k3⟩
        exact SqT.of (k3 _ _ h (by simp))
      · rintro j y H3 hj ⟨h3, k3⟩
        obtain ⟨e, he, hy⟩ := da.get hj
        have hjl := (List.getElem?_eq_some_iff.mp hj).1
        refine ⟨rfl, yesT ⟨_, rfl, y, e, bs, w', k', rfl, hy.keep (k3.sub (by simp)), lw, fun H4 k4 => ⟨_, k4 _ _ h3 (by simp), ?_, ?_, ?_⟩⟩⟩
        · simp only [List.length_map, List.length_take]
          exact small1000 (by omega)
        · rw [upd_same, List.take_add_one, he]
          simp
        · exact (k3.trans k4).own hp
      · rintro H3 ⟨h3, k3⟩
        rw [DA.len da, List.take_length] at h3
        refine ⟨p, _, rfl, SqL.of h3, ?_⟩
        have e : (ds.map isNum).all id = areNums (.tuple ds) := by simp [areNums, allOf, List.all_map, Function.comp_def]
        rw [e]
        exact q _ ((k1 []).trans k3)
    | _ => exact iteF (q _ (k1 []))

theorem ok_are_rows (T : Tx K mg) : FnOk P w K mg base CX0 3 (He.fAd K ("are_rows", none)) T.fd_are_rows p_are_rows (sp_tell areRows) := by
  have G_are_numbers := ok_are_numbers (P := P) (w := w) (base := base) T
  refine T.F_are_rows.ok sc_are_rows (fun vs H Q E h => ?_) (fun cdv A outer s H vs Q E hr h => ?_)
  · obtain ⟨v, d, bs, w', k, rfl, _⟩ := h
    rfl
  · obtain ⟨v, d, bs, w', k, rfl, hD, lw, q⟩ := h
    refine ⟨_, PSs.nox (pss_one (ps_ret (pe_and (pe_callB call_isiT (by rfl) T.b_isinstance (by decide +kernel) (pa_cons (pv 0) (pa_cons (pe_tup (pa_cons (pe_bltn (v := .ty "list") (by rfl) T.b_list (by decide +kernel) rfl) (pa_cons (pe_bltn (v := .ty "tuple") (by rfl) T.b_tuple (by decide +kernel) rfl) pa_nil))) pa_nil))) (pe_one (pe_callB (cr_all rfl) (by rfl) T.b_all (by decide +kernel) (pa_cons (pe_lc (own := [("row", 1)]) (g := (gName 1)) (tt := tYes) rfl sc_are_rows.nd (pi_seq (pv 0)) (blkOk_by (own := [("row", 1)]) (N := n_are_rows) (sc := defScope s_are_rows) (by decide +kernel)) (fun _ _ _ _ _ => (pg_name (i := 1) sc_are_rows.nd rfl (by first | exact Or.inl rfl | exact Or.inr rfl))) (fun _ _ _ _ _ => pts_nil) (fun _ _ _ _ _ => (pe_call G_are_numbers (hr.mono (by first | decide | omega)) rfl T.g_are_numbers T.F_are_numbers.kp T.bd_are_numbers .nil pass0 (pa_cons (pv 1) pa_nil)))) pa_nil)))))), ?_⟩
    refine ⟨_, rfl, by show 2 ≤ sizeLine; decide, fun t ht => ?_⟩
    have k1 : ∀ cs, Kp cs H (upd H t (.tup [.ty "list", .ty "tuple"])) := fun cs => Kp.rfl'.new ht
    have hD1 := hD.keep (k1 bs)
    refine ⟨_, t, _, _, [.type "list", .type "tuple"], _, rfl, upd_same, tyLT, hD1.tyx, hD1.kQ, _, rfl, ?_⟩
    cases hD1 with
    | @lst k' a xs ds h n l da =>
      refine iteT ⟨_, rfl, a, rfl, .inl ⟨⟨_, SqL.of h⟩, fun p hp => lc_list (K := K) (a := a) (xs := xs) (fun j H3 => H3 p = some (.lst (((ds.take j).map areNums).map V.bl)) ∧ Kp [] (upd H t (.tup [.ty "list", .ty "tuple"])) H3) ?_ ?_ ?_ ?_⟩⟩
      · exact ⟨by rw [upd_same]; rfl, Kp.rfl'.new hp⟩
      · rintro j H3 _ ⟨_, k3⟩
        exact SqL.of (k3 _ _ h (by simp))
      · rintro j y H3 hj ⟨h3, k3⟩
        obtain ⟨e, he, hy⟩ := da.get hj
        have hjl := (List.getElem?_eq_some_iff.mp hj).1
        refine ⟨rfl, yesT ⟨_, rfl, y, e, bs, w', k', rfl, hy.keep (k3.sub (by simp)), lw, fun H4 k4 => ⟨_, k4 _ _ h3 (by simp), ?_, ?_, ?_⟩⟩⟩
        · simp only [List.length_map, List.length_take]
          exact small1000 (by omega)
        · rw [upd_same, List.take_add_one, he]
          simp
        · exact (k3.trans k4).own hp
      · rintro H3 ⟨h3, k3⟩
        rw [DA.len da, List.take_length] at h3
        refine ⟨p, _, rfl, SqL.of h3, ?_⟩
        have e : (ds.map areNums).all id = areRows (.list ds) := by simp [areRows, allOf, List.all_map, Function.comp_def]
        rw [e]
        exact q _ ((k1 []).trans k3)
    | @tup k' a xs ds h n l da =>
      refine iteT ⟨_, rfl, a, rfl, .inr ⟨⟨_, SqT.of h⟩, fun p hp => lc_tup (K := K) (a := a) (xs := xs) (fun j H3 => H3 p = some (.lst (((ds.take j).map areNums).map V.bl)) ∧ Kp [] (upd H t (.tup [.ty "list", .ty "tuple"])) H3) ?_ ?_ ?_ ?_⟩⟩
      · exact ⟨by rw [upd_same]; rfl, Kp.rfl'.new hp⟩
      · rintro j H3 _ ⟨_, k3⟩
        exact SqT.of (k3 _ _ h (by simp))
      · rintro j y H3 hj ⟨h3, k3⟩
        obtain ⟨e, he, hy⟩ := da.get hj
        have hjl := (List.getElem?_eq_some_iff.mp hj).1
        refine ⟨rfl, yesT ⟨_, rfl, y, e, bs, w', k', rfl, hy.keep (k3.sub (by simp)), lw, fun H4 k4 => ⟨_, k4 _ _ h3 (by simp), ?_, ?_, ?_⟩⟩⟩
        · simp only [List.length_map, List.length_take]
          exact small1000 (by omega)
        · rw [upd_same, List.take_add_one, he]
          simp
        · exact (k3.trans k4).own hp
      · rintro H3 ⟨h3, k3⟩
        rw [DA.len da, List.take_length] at h3
        refine ⟨p, _, rfl, SqL.of h3, ?_⟩
        have e : (ds.map areNums).all id = areRows (.tuple ds) := by simp [areRows, allOf, List.all_map, Function.comp_def]
        rw [e]
        exact q _ ((k1 []).trans k3)
    | _ => exact iteF (q _ (k1 []))

end
end Sw

set_option maxHeartbeats 2000000
namespace Sw
open PySem PySem.Spec PyProof.Rows L2
section
variable {P : Program} {w : World} {K : PySem.W.Frag} {mg : Str → Option Value} {base : Heap}
theorem DA.small {bs : List Addr} {H : Hp} {w k : Nat} : ∀ {ns : List Int} {vs : List V}, DA bs H w k vs (ns.map PyData.int) → ∀ n ∈ ns, n.natAbs < 2 ^ 39 + w
  | [], _, _, n, hn => nomatch hn
  | m :: ns, _, .cons h t, n, hn => by
    rcases List.mem_cons.mp hn with z | z
    · subst z
      cases h with
      | int _ hi => exact hi
    · exact DA.small t n z
/-! ### a list or a tuple -/
def sqo (kd : Bool) (xs : List V) : HO := match kd with
  | true => .lst xs
  | false => .tup xs
def mkD (kd : Bool) (ds : List PyData) : PyData := match kd with
  | true => .list ds
  | false => .tuple ds
theorem D.seq {bs : List Addr} {H : Hp} {w k : Nat} {v : V} {d : PyData} (x : D bs H w k v d) (hsq : isSeq d = true) : ∃ a kd xs ds k', v = .ref a ∧ k = k' + 1 ∧ H a = some (sqo kd xs) ∧ a ∉ bs ∧ xs.length ≤ w ∧ DA bs H w k' xs ds ∧ d = mkD kd ds := by
  cases x with
  | lst h n l t => exact ⟨_, true, _, _, _, rfl, rfl, h, n, l, t, rfl⟩
  | tup h n l t => exact ⟨_, false, _, _, _, rfl, rfl, h, n, l, t, rfl⟩
  | _ => cases hsq
theorem D.ofSeq {bs : List Addr} {H : Hp} {w k : Nat} {a : Addr} {kd : Bool} {xs : List V} {ds : List PyData} (h : H a = some (sqo kd xs)) (n : a ∉ bs) (l : xs.length ≤ w) (t : DA bs H w k xs ds) : D bs H w (k + 1) (.ref a) (mkD kd ds) := by
  cases kd
  · exact .tup h n l t
  · exact .lst h n l t
theorem sqo_len {H : Hp} {a : Addr} {kd : Bool} {xs : List V} {n : Nat} (h : H a = some (sqo kd xs)) (e : n = xs.length) : LenV K (.ref a) H n := by
  cases kd
  · exact .inr ⟨_, SqT.of h, e⟩
  · exact .inl ⟨_, SqL.of h, e⟩
theorem sqo_k {H : Hp} {a : Addr} {kd : Bool} {xs : List V} (h : H a = some (sqo kd xs)) : SqK kd K H a xs := by
  cases kd
  · exact SqT.of h
  · exact SqL.of h
/-- a comprehension over a list or a tuple -/
theorem lc_seq {H1 : Hp} {a : Addr} {kd : Bool} {xs : List V} {g : TG} {tt : TT} {te : TE} {vs : List Nat} {σ : L2.St} {Qd : Addr → Hp → Prop} (h : H1 a = some (sqo kd xs)) (Pv : Addr → Nat → Hp → Prop) (h0 : ∀ p, H1 p = none → Pv p 0 (upd H1 p (.lst [])))
    (hG : ∀ p i H, H1 p = none → Pv p i H → H a = some (sqo kd xs))
    (hs : ∀ p i x H, H1 p = none → xs[i]? = some x → Pv p i H → g x (wipe σ vs) H fun σ2 H2 => wipe σ2 vs = wipe σ vs ∧ tt σ2 H2 fun b H3 =>
      if b = true then te σ2 H3 fun y H4 => ∃ acc, H4 p = some (.lst acc) ∧ acc.length < sizeLine ∧ Pv p (i + 1) (upd H4 p (.lst (acc ++ [y]))) else Pv p (i + 1) H3) (hd : ∀ p H, H1 p = none → Pv p xs.length H → Qd p H) :
    ((∃ xs, SqL K H1 a xs) ∧ ∀ p, H1 p = none → ∃ W : Nat → Nat → Hp → Prop, (∃ m, W 0 m (upd H1 p (.lst []))) ∧ ∀ i m H, W i m H →
      ((Itl K a).stop i H ∧ Qd p H) ∨ ((Itl K a).go i H ∧ ∃ Nx : Hp → Prop, (∀ H', Nx H' → ∃ m', m' < m ∧ W (i + 1) m' H') ∧ ∀ x H', (Itl K a).yld i H x H' → g x (wipe σ vs) H' fun σ2 H2 => wipe σ2 vs = wipe σ vs ∧ tt σ2 H2 fun b H3 =>
        if b = true then te σ2 H3 fun y H4 => ∃ acc, H4 p = some (.lst acc) ∧ acc.length < sizeLine ∧ Nx (upd H4 p (.lst (acc ++ [y]))) else Nx H3)) ∨
    ((∃ xs, SqT K H1 a xs) ∧ ∀ p, H1 p = none → ∃ W : Nat → Nat → Hp → Prop, (∃ m, W 0 m (upd H1 p (.lst []))) ∧ ∀ i m H, W i m H →
      ((Itt K a).stop i H ∧ Qd p H) ∨ ((Itt K a).go i H ∧ ∃ Nx : Hp → Prop, (∀ H', Nx H' → ∃ m', m' < m ∧ W (i + 1) m' H') ∧ ∀ x H', (Itt K a).yld i H x H' → g x (wipe σ vs) H' fun σ2 H2 => wipe σ2 vs = wipe σ vs ∧ tt σ2 H2 fun b H3 =>
        if b = true then te σ2 H3 fun y H4 => ∃ acc, H4 p = some (.lst acc) ∧ acc.length < sizeLine ∧ Nx (upd H4 p (.lst (acc ++ [y]))) else Nx H3)) := by
  cases kd
  · exact .inr ⟨⟨_, SqT.of h⟩, fun p hp => lc_tup (K := K) (a := a) (xs := xs) (Pv p) (h0 p hp) (fun i H _ q => SqT.of (hG p i H hp q)) (fun i x H hx q => hs p i x H hp hx q) fun H q => hd p H hp q⟩
  · exact .inl ⟨⟨_, SqL.of h⟩, fun p hp => lc_list (K := K) (a := a) (xs := xs) (Pv p) (h0 p hp) (fun i H _ q => SqL.of (hG p i H hp q)) (fun i x H hx q => hs p i x H hp hx q) fun H q => hd p H hp q⟩
theorem iteC {c : Bool} {A B : Prop} (h : c = true) (k : A) : if c = true then A else B := by
  rw [if_pos h]
  exact k
theorem iteN {c : Bool} {A B : Prop} (h : c = false) (k : B) : if c = true then A else B := by
  rw [h]
  exact iteF k
theorem rep_snoc (j : Nat) : (List.replicate j true).map V.bl ++ [V.bl true] = (List.replicate (j + 1) true).map V.bl := by
  rw [List.replicate_succ']
  simp
theorem rep_all (j : Nat) : (List.replicate j true).all id = true := by simp
theorem cut_one (xs : List V) : cutV xs (some 1) none = xs.drop 1 := by
  have e : HT.sIx xs.length 0 (some 1) = min 1 xs.length := HT.sIx_nat xs.length 0 1
  unfold cutV
  rw [HT.sIx_none, e]
  cases xs with
  | nil => rfl
  | cons a r =>
    have e2 : min 1 (a :: r).length = 1 := by simp
    rw [e2, List.take_of_length_le (by simp)]
/-! ### numbers, rows of numbers -/
/-- d tells the numbers ns -/
def IntsD (d : PyData) (ns : List Int) : Prop := ∃ kd, d = mkD kd (ns.map PyData.int)
theorem IntsD.nums {d : PyData} {ns : List Int} (h : IntsD d ns) : areNums d = true := by
  obtain ⟨kd, rfl⟩ := h
  cases kd <;> simp [mkD, areNums, allOf, isNum, List.all_map]
theorem IntsD.seq {d : PyData} {ns : List Int} (h : IntsD d ns) : isSeq d = true := by
  obtain ⟨kd, rfl⟩ := h
  cases kd <;> rfl
def RowsD (d : PyData) (rows : List (List Int)) : Prop := ∃ kd ds, d = mkD kd ds ∧ ds.length = rows.length ∧ ∀ (i : Nat) (e : PyData) (r : List Int), ds[i]? = some e → rows[i]? = some r → IntsD e r
theorem RowsD.rowsOk {d : PyData} {rows : List (List Int)} (h : RowsD d rows) : areRows d = true := by
  obtain ⟨kd, ds, rfl, l, a⟩ := h
  have e : ds.all areNums = true := by
    rw [List.all_eq_true]
    intro x hx
    obtain ⟨i, hi, e⟩ := List.getElem_of_mem hx
    have hr : i < rows.length := by omega
    exact (a i x rows[i] (by rw [List.getElem?_eq_getElem hi, e]) (by simp [hr])).nums
  cases kd <;> simpa [mkD, areRows, allOf] using e
theorem D.ints {bs : List Addr} {H : Hp} {w k : Nat} {v : V} {d : PyData} {ns : List Int} (x : D bs H w k v d) (h : IntsD d ns) : ∃ a kd, v = .ref a ∧ H a = some (sqo kd (ns.map V.int)) ∧ a ∉ bs ∧ ns.length ≤ w ∧ (∀ n ∈ ns, n.natAbs < 2 ^ 39 + w) := by
  obtain ⟨a, kd, xs, ds, k', e, ek, ha, na, l, da, ed⟩ := x.seq h.seq
  obtain ⟨kd2, e2⟩ := h
  rw [ed] at e2
  have eds : ds = ns.map PyData.int := by
    cases kd <;> cases kd2 <;> simp [mkD] at e2 <;> exact e2
  rw [eds] at da
  have ex := DA.ints da
  rw [ex] at ha l
  exact ⟨a, kd, e, ha, na, by simpa using l, DA.small da⟩
theorem D.rows {bs : List Addr} {H : Hp} {w k : Nat} {v : V} {d : PyData} {rows : List (List Int)} (x : D bs H w k v d) (h : RowsD d rows) : ∃ a kd xs, v = .ref a ∧ H a = some (sqo kd xs) ∧ a ∉ bs ∧ xs.length = rows.length ∧ xs.length ≤ w ∧
    ∀ (i : Nat) (y : V), xs[i]? = some y → ∃ r e k', rows[i]? = some r ∧ IntsD e r ∧ D bs H w k' y e ∧ k' + 1 = k := by
  obtain ⟨kd2, ds, rfl, l, al⟩ := h
  have hs : isSeq (mkD kd2 ds) = true := by cases kd2 <;> rfl
  obtain ⟨a, kd, xs, ds2, k', e, ek, ha, na, lx, da, ed⟩ := x.seq hs
  have eds : ds = ds2 := by
    cases kd <;> cases kd2 <;> simp [mkD] at ed <;> exact ed
  subst eds
  have ll := DA.len da
  refine ⟨a, kd, xs, e, ha, na, by omega, lx, fun i y hy => ?_⟩
  obtain ⟨e', he', hD⟩ := da.get hy
  have hi := (List.getElem?_eq_some_iff.mp hy).1
  have hr : i < rows.length := by omega
  exact ⟨rows[i], e', k', by simp [hr], al i e' rows[i] he' (by simp [hr]), hD, ek.symm⟩
def risesB (ns : List Int) : List Bool := (ns.zip (ns.drop 1)).map fun p => decide (p.1 < p.2)
theorem risesB_of {ns : List Int} (h : rises ns) : (risesB ns).all id = true := by
  rw [risesB, List.all_map, List.all_eq_true]
  rintro ⟨x, y⟩ hp
  obtain ⟨i, hi, e⟩ := List.getElem_of_mem hp
  have e1 : (ns.zip (ns.drop 1))[i]? = some (x, y) := by rw [List.getElem?_eq_getElem hi, e]
  rw [List.getElem?_zip_eq_some] at e1
  obtain ⟨e2, e3⟩ := e1
  rw [List.getElem?_drop] at e3
  have := h i x y e2 (by rw [Nat.add_comm]; exact e3)
  simpa using this
def sp_rise : Sp := fun vs H Q _ => ∃ (a : Addr) (kd : Bool) (ns : List Int), vs = [.ref a] ∧ H a = some (sqo kd (ns.map V.int)) ∧ 1 ≤ ns.length ∧ ns.length ≤ 1000 ∧ ∀ H', Kp [] H H' → Q (.bl ((risesB ns).all id)) H'
theorem ok_rise (T : Tx K mg) : FnOk P w K mg base CX0 1 (He.fAd K ("does_rise", none)) T.fd_does_rise p_does_rise sp_rise := by
  refine T.F_does_rise.ok sc_does_rise (fun vs H Q E h => ?_) (fun cdv A outer s H vs Q E hr h => ?_)
  · obtain ⟨a, kd, ns, rfl, _⟩ := h
    rfl
  · obtain ⟨a, kd, ns, rfl, hA, hl1, hl, q⟩ := h
    refine ⟨_, PSs.nox (pss_one (ps_ret (pe_callB (cr_all rfl) (by rfl) T.b_all (by decide +kernel) (pa_cons (pe_lc (own := [("low", 1), ("high", 2)]) (g := (gTup K 2 (gCons (gName 1) (gCons (gName 2) gNil)))) (tt := tYes) rfl sc_does_rise.nd (pi_zipS (by rfl) T.b_zip (pa_cons (pv 0) (pa_cons (pe_slice (sl_list.or sl_tup) (pv 0) (po_some pe_int) po_none) pa_nil))) (blkOk_by (own := [("low", 1), ("high", 2)]) (N := n_does_rise) (sc := defScope s_does_rise) (by decide +kernel)) (fun _ _ _ _ _ => (pg_tup rfl (pgs_cons (pg_name (i := 1) sc_does_rise.nd rfl (by first | exact Or.inl rfl | exact Or.inr rfl)) (pgs_cons (pg_name (i := 2) sc_does_rise.nd rfl (by first | exact Or.inl rfl | exact Or.inr rfl)) pgs_nil)))) (fun _ _ _ _ _ => pts_nil) (fun _ _ _ _ _ => (pe_cmpR op_lt (pv 1) (pv 2) (nomark _)))) pa_nil)))), ?_⟩
    have rest : ∀ p, H p = none → (iZipS K (fun σ H Q => Q [.ref a, .ref p] H)) (L2.start n_does_rise [V.ref a]) (upd H p (sqo kd (cutV (ns.map V.int) (some 1) none))) (fun J H1 => ∀ D, H1 D = none → ∃ W : Nat → Nat → Hp → Prop, (∃ m, W 0 m (upd H1 D (.lst []))) ∧ ∀ i m H, W i m H →
        (J.stop i H ∧ rAll K [.ref D] H Q) ∨ (J.go i H ∧ ∃ Nx : Hp → Prop, (∀ H', Nx H' → ∃ m', m' < m ∧ W (i + 1) m' H') ∧ ∀ x H', J.yld i H x H' → (gTup K 2 (gCons (gName 1) (gCons (gName 2) gNil))) x (wipe (L2.start n_does_rise [V.ref a]) [1, 2]) H' fun σ2 H2 => wipe σ2 [1, 2] = wipe (L2.start n_does_rise [V.ref a]) [1, 2] ∧ tYes σ2 H2 fun b H3 =>
          if b = true then (tOp (rI0 fun i j => V.bl (decide (i < j))) (tVar 1) (tVar 2)) σ2 H3 fun y H4 => ∃ acc, H4 D = some (.lst acc) ∧ acc.length < sizeLine ∧ Nx (upd H4 D (.lst (acc ++ [y]))) else Nx H3)) := by
      intro p hp
      have nap := ne_of_none hA hp
      have hA1 : (upd H p (sqo kd (cutV (ns.map V.int) (some 1) none))) a = some (sqo kd (ns.map V.int)) := by
        rw [upd_ne nap]
        exact hA
      have hP1 : (upd H p (sqo kd (cutV (ns.map V.int) (some 1) none))) p = some (sqo kd ((ns.drop 1).map V.int)) := by
        rw [upd_same, cut_one, List.map_drop]
      refine ⟨a, p, kd, kd, _, _, rfl, sqo_k hA1, sqo_k hP1, fun d hd => lc_it (walkZ (xs := ns.map V.int) (ys := (ns.drop 1).map V.int) rfl) (fun j H3 => H3 d = some (.lst (((risesB ns).take j).map V.bl)) ∧ Kp [] (upd H p (sqo kd (cutV (ns.map V.int) (some 1) none))) H3) ?_ ?_ ?_ ?_⟩
      · exact ⟨by rw [upd_same]; rfl, Kp.rfl'.new hd⟩
      · rintro j H3 _ ⟨_, k3⟩
        exact ⟨sqo_k (k3 _ _ hA1 (by simp)), sqo_k (k3 _ _ hP1 (by simp))⟩
      · rintro j x H3 H4 hj ⟨h3, k3⟩ ⟨t, y, z, rfl, ht, rfl, hy, hz⟩
        simp only [List.getElem?_map] at hy hz
        obtain ⟨y', hy', rfl⟩ := Option.map_eq_some_iff.mp hy
        obtain ⟨z', hz', rfl⟩ := Option.map_eq_some_iff.mp hz
        refine ⟨t, _, rfl, SqT.of upd_same, rfl, _, _, rfl, _, _, rfl, rfl, rfl, yesT ⟨_, rfl, _, rfl, _, _, rfl, rfl, ?_⟩⟩
        refine ⟨_, by rw [upd_ne (ne_of_none h3 ht)]; exact h3, ?_, ?_, ?_⟩
        · simp only [List.length_map, List.length_take, risesB, List.length_zip]
          exact small1000 (by omega)
        · have e : (risesB ns)[j]? = some (decide (y' < z')) := by
            rw [risesB, List.getElem?_map, (List.getElem?_zip_eq_some (i := j) (z := (y', z'))).mpr ⟨hy', hz'⟩]
            rfl
          rw [upd_same, List.take_add_one, e]
          simp
        · exact (k3.new ht).own hd
      · rintro H3 ⟨h3, k3⟩
        have e : (risesB ns).take (min (ns.map V.int).length ((ns.drop 1).map V.int).length) = risesB ns := by
          apply List.take_of_length_le
          simp [risesB]
        rw [e] at h3
        exact ⟨d, _, rfl, SqL.of h3, q _ ((Kp.rfl'.new hp).trans k3)⟩
    refine ⟨_, rfl, _, rfl, 1, rfl, ?_⟩
    cases kd with
    | true => exact .inl ⟨a, _, rfl, SqL.of hA, rest⟩
    | false =>
      refine .inr ⟨a, _, rfl, SqT.of hA, ?_, rest⟩
      rintro ⟨z, _⟩
      have e : HT.sIx (ns.map V.int).length 0 (some 1) = min 1 (ns.map V.int).length := HT.sIx_nat _ 0 1
      rw [e, List.length_map] at z
      omega
structure Rung0 (r : List Int) : Prop where
  l1 : 1 ≤ r.length
  l4 : r.length ≤ 4
  up : rises r
theorem Rung.r0 {r : List Int} (h : Rung r) : Rung0 r := ⟨h.l1, h.l4, h.up⟩

end
end Sw

set_option maxHeartbeats 2000000
namespace Sw
open PySem PySem.Spec PyProof.Rows L2
section
variable {P : Program} {w : World} {K : PySem.W.Frag} {mg : Str → Option Value} {base : Heap}
/-- a row of data that tells r -/
def sp_strings : Sp := fun vs H Q _ => ∃ (v : V) (d : PyData) (rows : List (List Int)) (bs : List Addr) (w k : Nat), vs = [v] ∧ D bs H w k v d ∧ RowsD d rows ∧ w ≤ 1000 ∧ 1 ≤ rows.length ∧ (∀ r ∈ rows, r.length = rows.length) ∧ ∀ H', Kp [] H H' → Q (.bl true) H'
theorem ok_strings (T : Tx K mg) : FnOk P w K mg base CX0 4 (He.fAd K ("are_strings", none)) T.fd_are_strings p_are_strings sp_strings := by
  have G_are_rows := ok_are_rows (P := P) (w := w) (base := base) T
  refine T.F_are_strings.ok sc_are_strings (fun vs H Q E h => ?_) (fun cdv A outer s H vs Q E hr h => ?_)
  · obtain ⟨_, _, _, _, _, _, rfl, _⟩ := h
    rfl
  · obtain ⟨v, d, rows, bs, w', k, rfl, hD, hR, lw, l1, hl, q⟩ := h
    refine ⟨_, PSs.nox (pss_one (ps_ret (pe_and (pe_call G_are_rows (hr.mono (by first | decide | omega)) rfl T.g_are_rows T.F_are_rows.kp T.bd_are_rows .nil pass0 (pa_cons (pv 0) pa_nil)) (pe_and (pe_cmpR op_gt (pe_callB call_len (by rfl) T.b_len (by decide +kernel) (pa_cons (pv 0) pa_nil)) pe_int (nomark _)) (pe_one (pe_callB (cr_all rfl) (by rfl) T.b_all (by decide +kernel) (pa_cons (pe_lc (own := [("row", 1)]) (g := (gName 1)) (tt := tYes) rfl sc_are_strings.nd (pi_seq (pv 0)) (blkOk_by (own := [("row", 1)]) (N := n_are_strings) (sc := defScope s_are_strings) (by decide +kernel)) (fun _ _ _ _ _ => (pg_name (i := 1) sc_are_strings.nd rfl (by first | exact Or.inl rfl | exact Or.inr rfl))) (fun _ _ _ _ _ => pts_nil) (fun _ _ _ _ _ => (pe_cmpR op_eq (pe_callB (kLen (K := K) rfl) (by rfl) T.b_len (by decide +kernel) (pa_cons (pv 1) pa_nil)) (pe_callB (kLen (K := K) rfl) (by rfl) T.b_len (by decide +kernel) (pa_cons (pv 0) pa_nil)) (nomark _)))) pa_nil))))))), ?_⟩
    refine ⟨_, rfl, _, _, bs, w', k, rfl, hD, lw, fun H1 k1 => ⟨_, rfl, iteC hR.rowsOk ?_⟩⟩
    obtain ⟨t, kd, xs, rfl, h, n, lx, lxw, al⟩ := (hD.keep (k1.sub (by simp))).rows hR
    refine ⟨_, rfl, _, rows.length, rfl, sqo_len h lx.symm, _, _, rfl, rfl, _, rfl, iteC (by simp; omega) ?_⟩
    refine ⟨_, rfl, t, rfl, lc_seq h (fun p j H3 => H3 p = some (.lst ((List.replicate j true).map V.bl)) ∧ Kp [] H1 H3) ?_ ?_ ?_ ?_⟩
    · exact fun p hp => ⟨by rw [upd_same]; rfl, Kp.rfl'.new hp⟩
    · rintro p j H3 _ ⟨_, k3⟩
      exact k3 _ _ h (by simp)
    · rintro p j y H3 hp hj ⟨h3, k3⟩
      obtain ⟨r, e, k', hr2, hI, hDy, _⟩ := al j y hj
      have hjl := (List.getElem?_eq_some_iff.mp hj).1
      have hrl := hl r (List.mem_of_getElem? hr2)
      obtain ⟨ra, kd2, rfl, hRa, _, _, _⟩ := hDy.ints hI
      refine ⟨rfl, yesT ⟨_, rfl, _, r.length, rfl, sqo_len (k3 _ _ hRa (by simp)) (by simp), _, rfl, _, rows.length, rfl, sqo_len (k3 _ _ h (by simp)) lx.symm, rfl, ?_⟩⟩
      refine ⟨_, h3, by simp only [List.length_map, List.length_replicate]; exact small1000 (by omega), ?_, k3.own hp⟩
      rw [upd_same, hrl, decide_eq_true rfl, rep_snoc]
    · rintro p H3 hp ⟨h3, k3⟩
      refine ⟨p, _, rfl, SqL.of h3, ?_⟩
      rw [rep_all]
      exact q _ (k1.trans k3)
def sp_ladder : Sp := fun vs H Q _ => ∃ (a : Addr) (kd : Bool) (r : List Int), vs = [.ref a] ∧ H a = some (sqo kd (r.map V.int)) ∧ Rung0 r ∧ ∀ H', Kp [] H H' → Q (.bl true) H'
theorem ok_ladder (T : Tx K mg) : FnOk P w K mg base CX0 2 (He.fAd K ("is_ladder", none)) T.fd_is_ladder p_is_ladder sp_ladder := by
  have G_does_rise := ok_rise (P := P) (w := w) (base := base) T
  refine T.F_is_ladder.ok sc_is_ladder (fun vs H Q E h => ?_) (fun cdv A outer s H vs Q E hr h => ?_)
  · obtain ⟨t, kd, rows, rfl, _⟩ := h
    rfl
  · obtain ⟨a, kd, r, rfl, hA, hR, q⟩ := h
    refine ⟨_, PSs.nox (pss_one (ps_ret (pe_and (pe_chain op_le op_le pe_int (pe_callB call_len (by rfl) T.b_len (by decide +kernel) (pa_cons (pv 0) pa_nil)) (pe_glob (v := .int 4) rfl T.c_MOST_STEPS ⟨_, rfl⟩)) (pe_one (pe_call G_does_rise (hr.mono (by first | decide | omega)) rfl T.g_does_rise T.F_does_rise.kp T.bd_does_rise .nil pass0 (pa_cons (pv 0) pa_nil)))))), ?_⟩
    have l1 := hR.l1
    have l4 := hR.l4
    refine ⟨_, rfl, _, r.length, rfl, sqo_len hA (by simp), _, _, rfl, rfl, _, rfl, iteC (by simp; omega) ?_⟩
    refine ⟨_, _, rfl, rfl, _, rfl, iteC (by simp; omega) ?_⟩
    refine ⟨_, rfl, a, kd, r, rfl, hA, l1, by omega, fun H1 k1 => ?_⟩
    rw [risesB_of hR.up]
    exact q _ k1
def sp_steps : Sp := fun vs H Q _ => ∃ (v : V) (d : PyData) (rows : List (List Int)) (bs : List Addr) (w k : Nat), vs = [v, .int rows.length] ∧ D bs H w k v d ∧ RowsD d rows ∧ w ≤ 1000 ∧ (∀ r ∈ rows, Rung0 r) ∧ ∀ H', Kp [] H H' → Q (.bl true) H'
theorem ok_steps (T : Tx K mg) : FnOk P w K mg base CX0 4 (He.fAd K ("are_steps", none)) T.fd_are_steps p_are_steps sp_steps := by
  have G_are_rows := ok_are_rows (P := P) (w := w) (base := base) T
  have G_is_ladder := ok_ladder (P := P) (w := w) (base := base) T
  refine T.F_are_steps.ok sc_are_steps (fun vs H Q E h => ?_) (fun cdv A outer s H vs Q E hr h => ?_)
  · obtain ⟨_, _, _, _, _, _, rfl, _⟩ := h
    rfl
  · obtain ⟨v, d, rows, bs, w', k, rfl, hD, hR, lw, hl, q⟩ := h
    refine ⟨_, PSs.nox (pss_one (ps_ret (pe_and (pe_call G_are_rows (hr.mono (by first | decide | omega)) rfl T.g_are_rows T.F_are_rows.kp T.bd_are_rows .nil pass0 (pa_cons (pv 0) pa_nil)) (pe_and (pe_cmpR op_eq (pe_callB call_len (by rfl) T.b_len (by decide +kernel) (pa_cons (pv 0) pa_nil)) (pv 1) (nomark _)) (pe_one (pe_callB (cr_all rfl) (by rfl) T.b_all (by decide +kernel) (pa_cons (pe_lc (own := [("row", 2)]) (g := (gName 2)) (tt := tYes) rfl sc_are_steps.nd (pi_seq (pv 0)) (blkOk_by (own := [("row", 2)]) (N := n_are_steps) (sc := defScope s_are_steps) (by decide +kernel)) (fun _ _ _ _ _ => (pg_name (i := 2) sc_are_steps.nd rfl (by first | exact Or.inl rfl | exact Or.inr rfl))) (fun _ _ _ _ _ => pts_nil) (fun _ _ _ _ _ => (pe_call G_is_ladder (hr.mono (by first | decide | omega)) rfl T.g_is_ladder T.F_is_ladder.kp T.bd_is_ladder .nil pass0 (pa_cons (pv 2) pa_nil)))) pa_nil))))))), ?_⟩
    refine ⟨_, rfl, _, _, bs, w', k, rfl, hD, lw, fun H1 k1 => ⟨_, rfl, iteC hR.rowsOk ?_⟩⟩
    obtain ⟨t, kd, xs, rfl, h, n, lx, lxw, al⟩ := (hD.keep (k1.sub (by simp))).rows hR
    refine ⟨_, rfl, _, rows.length, rfl, sqo_len h lx.symm, _, rfl, rfl, _, rfl, iteC (by simp) ?_⟩
    refine ⟨_, rfl, t, rfl, lc_seq h (fun p j H3 => H3 p = some (.lst ((List.replicate j true).map V.bl)) ∧ Kp [] H1 H3) ?_ ?_ ?_ ?_⟩
    · exact fun p hp => ⟨by rw [upd_same]; rfl, Kp.rfl'.new hp⟩
    · rintro p j H3 _ ⟨_, k3⟩
      exact k3 _ _ h (by simp)
    · rintro p j y H3 hp hj ⟨h3, k3⟩
      obtain ⟨r, e, k', hr2, hI, hDy, _⟩ := al j y hj
      have hjl := (List.getElem?_eq_some_iff.mp hj).1
      obtain ⟨ra, kd2, rfl, hRa, _, _, _⟩ := hDy.ints hI
      refine ⟨rfl, yesT ⟨_, rfl, ra, kd2, r, rfl, k3 _ _ hRa (by simp), hl r (List.mem_of_getElem? hr2), fun H4 k4 => ?_⟩⟩
      refine ⟨_, k4 _ _ h3 (by simp), by simp only [List.length_map, List.length_replicate]; exact small1000 (by omega), ?_, (k3.trans k4).own hp⟩
      rw [upd_same, rep_snoc]
    · rintro p H3 hp ⟨h3, k3⟩
      refine ⟨p, _, rfl, SqL.of h3, ?_⟩
      rw [rep_all]
      exact q _ (k1.trans k3)
def sp_memory : Sp := fun vs H Q _ => ∃ (v : V) (d : PyData) (ws : List Int) (bs : List Addr) (w k : Nat), vs = [v] ∧ D bs H w k v d ∧ IntsD d ws ∧ w ≤ 1000 ∧ 1 ≤ ws.length ∧ ws.length ≤ 5 ∧ (∀ h : ws ≠ [], ws.getLast h ≠ 0) ∧ ∀ H', Kp [] H H' → Q (.bl true) H'
theorem ok_memory (T : Tx K mg) : FnOk P w K mg base CX0 3 (He.fAd K ("is_memory", none)) T.fd_is_memory p_is_memory sp_memory := by
  have G_are_numbers := ok_are_numbers (P := P) (w := w) (base := base) T
  refine T.F_is_memory.ok sc_is_memory (fun vs H Q E h => ?_) (fun cdv A outer s H vs Q E hr h => ?_)
  · obtain ⟨_, _, _, _, _, _, rfl, _⟩ := h
    rfl
  · obtain ⟨v, d, ws, bs, w', k, rfl, hD, hI, lw, l1, l5, hl, q⟩ := h
    refine ⟨_, PSs.nox (pss_one (ps_ret (pe_and (pe_call G_are_numbers (hr.mono (by first | decide | omega)) rfl T.g_are_numbers T.F_are_numbers.kp T.bd_are_numbers .nil pass0 (pa_cons (pv 0) pa_nil)) (pe_and (pe_chain op_le op_le pe_int (pe_callB call_len (by rfl) T.b_len (by decide +kernel) (pa_cons (pv 0) pa_nil)) (pe_glob (v := .int 5) rfl T.c_MOST_WEIGHTS ⟨_, rfl⟩)) (pe_one (pe_cmpR op_ne (pe_ix ix_seq (pv 0) (pe_un un_neg pe_int) (fun _ _ => rfl)) pe_int (nomark _))))))), ?_⟩
    refine ⟨_, rfl, _, _, bs, w', k, rfl, hD, lw, fun H1 k1 => ⟨_, rfl, iteC hI.nums ?_⟩⟩
    obtain ⟨a, kd, rfl, h, n, _, _⟩ := (hD.keep (k1.sub (by simp))).ints hI
    have ne : ws ≠ [] := fun z => by
      rw [z] at l1
      cases l1
    refine ⟨_, rfl, _, ws.length, rfl, sqo_len h (by simp), _, _, rfl, rfl, _, rfl, iteC (by simp; omega) ?_⟩
    refine ⟨_, _, rfl, rfl, _, rfl, iteC (by simp; omega) ?_⟩
    have e : (!decide (V.int (ws.getLast ne) = V.int 0)) = true := by
      have := hl ne
      simp [this]
    have fin : Q (.bl (!decide (V.int (ws.getLast ne) = V.int 0))) H1 := by
      rw [e]
      exact q _ k1
    refine ⟨_, rfl, 1, rfl, ?_⟩
    cases kd with
    | true => exact .inl ⟨a, _, _, _, rfl, rfl, SqL.of h, atI_end ne, rfl, fin⟩
    | false => exact .inr (.inl ⟨a, _, _, _, rfl, rfl, SqT.of h, atI_end ne, rfl, fin⟩)
abbrev dT (ns : List Int) : PyData := .tuple (ns.map PyData.int)
abbrev dTT (rows : List (List Int)) : PyData := .tuple (rows.map dT)
theorem away {H H1 : Hp} {bs : List Addr} {p : Addr} (hb : ∀ b ∈ bs, ∃ o, H b = some o) (k : Kp [] H H1) (hp : H1 p = none) : p ∉ bs := fun m => by
  obtain ⟨o, e⟩ := hb p m
  rw [k p o e (by simp)] at hp
  cases hp
/-- what is told are tuples; those handed in as tuples are the same -/
def sp_tuples : Sp := fun vs H Q _ => ∃ (v : V) (d : PyData) (rows : List (List Int)) (cs bs : List Addr) (w k : Nat), vs = [v] ∧ D cs H w k v d ∧ RowsD d rows ∧ w ≤ 1000 ∧ (∀ b ∈ bs, ∃ o, H b = some o) ∧ (∀ b ∈ bs, b ∈ cs) ∧
  ∀ (p : Addr) (H' : Hp), H p = none → Kp [] H H' → D bs H' w 2 (.ref p) (dTT rows) → Q (.ref p) H'
theorem ok_tuples (T : Tx K mg) : FnOk P w K mg base CX0 1 (He.fAd K ("as_tuples", none)) T.fd_as_tuples p_as_tuples sp_tuples := by
  refine T.F_as_tuples.ok sc_as_tuples (fun vs H Q E h => ?_) (fun cdv A outer s H vs Q E hr h => ?_)
  · obtain ⟨_, _, _, _, _, _, _, rfl, _⟩ := h
    rfl
  · obtain ⟨v, d, rows, cs, bs, w', k, rfl, hD, hR, lw, hbs, hsub, q⟩ := h
    obtain ⟨t, kd, xs, rfl, h, n, lx, lxw, al⟩ := hD.rows hR
    refine ⟨_, PSs.nox (pss_one (ps_ret (pe_callTy call_tuple_of (by rfl) T.b_tuple (by decide +kernel) (pa_cons (pe_lc (own := [("row", 1)]) (g := (gName 1)) (tt := tYes) rfl sc_as_tuples.nd (pi_seq (pv 0)) (blkOk_by (own := [("row", 1)]) (N := n_as_tuples) (sc := defScope s_as_tuples) (by decide +kernel)) (fun _ _ _ _ _ => (pg_name (i := 1) sc_as_tuples.nd rfl (by first | exact Or.inl rfl | exact Or.inr rfl))) (fun _ _ _ _ _ => pts_nil) (fun _ _ _ _ _ => (pe_callTy (kTup (K := K) rfl) (by rfl) T.b_tuple (by decide +kernel) (pa_cons (pv 1) pa_nil)))) pa_nil)))), ?_⟩
    refine ⟨_, rfl, t, rfl, lc_seq h (fun p j H3 => ∃ ys, H3 p = some (.lst ys) ∧ DA (p :: bs) H3 w' 1 ys ((rows.take j).map dT) ∧ Kp [] H H3) ?_ ?_ ?_ ?_⟩
    · exact fun p hp => ⟨[], upd_same, .nil, Kp.rfl'.new hp⟩
    · rintro p j H3 _ ⟨_, _, _, k3⟩
      exact k3 _ _ h (by simp)
    · rintro p j y H3 hp hj ⟨ys, h3, d3, k3⟩
      obtain ⟨r, e, k', hr2, hI, hDy, _⟩ := al j y hj
      have hjl := (List.getElem?_eq_some_iff.mp hj).1
      obtain ⟨ra, kd2, rfl, hRa, nRa, lr, sm⟩ := hDy.ints hI
      have hRa3 := k3 _ _ hRa (by simp)
      have len3 : ys.length < sizeLine := by
        rw [DA.len d3, List.length_map, List.length_take]
        exact small1000 (by omega)
      have last : ∀ (l : Addr) (H4 : Hp), H4 l = some (.tup (r.map V.int)) → l ∉ p :: bs → (∀ cs, Kp cs H3 H4) → DA (p :: bs) (upd H4 p (.lst (ys ++ [.ref l]))) w' 1 (ys ++ [.ref l]) ((rows.take (j + 1)).map dT) := fun l H4 hl nl k4 => by
        have k5 : Kp (p :: bs) H4 (upd H4 p (.lst (ys ++ [.ref l]))) := Kp.rfl'.put (by simp)
        rw [List.take_add_one, hr2, List.map_append]
        exact ((d3.keep (k4 _)).keep k5).app (DA.one ((D.tup (k := 0) hl nl (by simpa using lr) (DA.ofInts sm)).keep k5))
      cases kd2 with
      | true =>
        refine ⟨rfl, yesT ⟨_, rfl, ra, _, rfl, .inl ⟨SqL.of hRa3, fun l hl => ?_⟩⟩⟩
        have nlp : l ≠ p := (ne_of_none h3 hl).symm
        have k4 : ∀ cs, Kp cs H3 (upd H3 l (.tup (r.map V.int))) := fun cs => Kp.rfl'.new hl
        refine ⟨ys, (k4 [] _ _ h3 (by simp)), len3, ys ++ [.ref l], upd_same, last l _ upd_same (fun m => ?_) k4, (k3.new hl).own hp⟩
        rcases List.mem_cons.mp m with z | z
        · exact nlp z
        · exact away hbs k3 hl z
      | false =>
        refine ⟨rfl, yesT ⟨_, rfl, ra, _, rfl, .inr ⟨SqT.of hRa3, ?_⟩⟩⟩
        refine ⟨ys, h3, len3, ys ++ [.ref ra], upd_same, last ra H3 hRa3 (fun m => ?_) (fun _ => Kp.rfl'), k3.own hp⟩
        rcases List.mem_cons.mp m with z | z
        · rw [z, hp] at hRa
          cases hRa
        · exact nRa (hsub ra z)
    · rintro p H3 hp ⟨ys, h3, d3, k3⟩
      rw [lx, List.take_length] at d3
      refine ⟨p, ys, rfl, .inl ⟨SqL.of h3, fun l hl => ?_⟩⟩
      have k4 : ∀ cs, Kp cs H3 (upd H3 l (.tup ys)) := fun cs => Kp.rfl'.new hl
      refine q l _ (k3.free hl (by simp)) (k3.new hl) (.tup upd_same (away hbs k3 hl) (by rw [DA.len d3, List.length_map]; omega) ((d3.less (by simp +contextual)).keep (k4 _)))

end
end Sw

set_option maxHeartbeats 2000000
namespace Sw
open PySem PySem.Spec PyProof.Rows L2
section
variable {P : Program} {w : World} {K : PySem.W.Frag} {mg : Str → Option Value} {base : Heap}
mutual
theorem D.noIns {bs : List Addr} {H : Hp} {w : Nat} {x C dx : Addr} {fs : List (Str × V)} (hx : H x = some (.ins C dx fs)) : ∀ {k : Nat} {v : V} {d : PyData}, D bs H w k v d → D (x :: bs) H w k v d
  | _, _, _, .non => .non
  | _, _, _, .bl b => .bl b
  | _, _, _, .int i h => .int i h
  | _, _, _, .str y h => .str y h
  | _, _, _, .lst h n l t => .lst h (fun m => (List.mem_cons.mp m).elim (fun z => by rw [z, hx] at h; cases h) n) l (DA.noIns hx t)
  | _, _, _, .tup h n l t => .tup h (fun m => (List.mem_cons.mp m).elim (fun z => by rw [z, hx] at h; cases h) n) l (DA.noIns hx t)
theorem DA.noIns {bs : List Addr} {H : Hp} {w : Nat} {x C dx : Addr} {fs : List (Str × V)} (hx : H x = some (.ins C dx fs)) : ∀ {k : Nat} {v : List V} {d : List PyData}, DA bs H w k v d → DA (x :: bs) H w k v d
  | _, _, _, .nil => .nil
  | _, _, _, .cons h t => .cons (D.noIns hx h) (DA.noIns hx t)
end
theorem putF_le (f : Str) (v : V) : ∀ fs : List (Str × V), (putF f v fs).length ≤ fs.length + 1
  | [] => Nat.le_refl _
  | (g, u) :: r => by
    show (if g = f then (g, v) :: r else (g, u) :: putF f v r).length ≤ _
    have := putF_le f v r
    split <;> simp <;> omega
/-! ### the hall -/
abbrev C0 (K : PySem.W.Frag) : Addr := He.ga K "Hall"
theorem n12 : ¬ (("string_rows" : Str) = "step_rows") := by decide +kernel
theorem n13 : ¬ (("string_rows" : Str) = "weights") := by decide +kernel
theorem n23 : ¬ (("step_rows" : Str) = "weights") := by decide +kernel
def flds (a1 a2 a3 : Addr) : List (Str × V) := putF "weights" (.ref a3) (putF "step_rows" (.ref a2) (putF "string_rows" (.ref a1) []))
theorem flds_1 (a1 a2 a3 : Addr) : (flds a1 a2 a3).lookup ("string_rows" : Str) = some (.ref a1) := by
  unfold flds
  rw [lookup_putF, if_neg n13, lookup_putF, if_neg n12, lookup_putF, if_pos rfl]
theorem flds_2 (a1 a2 a3 : Addr) : (flds a1 a2 a3).lookup ("step_rows" : Str) = some (.ref a2) := by
  unfold flds
  rw [lookup_putF, if_neg n23, lookup_putF, if_pos rfl]
theorem flds_3 (a1 a2 a3 : Addr) : (flds a1 a2 a3).lookup ("weights" : Str) = some (.ref a3) := by
  unfold flds
  rw [lookup_putF, if_pos rfl]
theorem flds_no (a1 a2 a3 : Addr) {m : Str} (h1 : ¬ m = "weights") (h2 : ¬ m = "step_rows") (h3 : ¬ m = "string_rows") : (flds a1 a2 a3).lookup m = none := by
  unfold flds
  rw [lookup_putF, if_neg h1, lookup_putF, if_neg h2, lookup_putF, if_neg h3]
  rfl
structure HallAt (K : PySem.W.Frag) (bs : List Addr) (H : Hp) (w : Nat) (x : Addr) (rows steps : List (List Int)) (ws : List Int) : Prop where
  ex : ∃ dx a1 a2 a3, H x = some (.ins (C0 K) dx (flds a1 a2 a3)) ∧ x ∉ bs ∧ D bs H w 2 (.ref a1) (dTT rows) ∧ D bs H w 2 (.ref a2) (dTT steps) ∧ D bs H w 1 (.ref a3) (dT ws)
theorem HallAt.keep {bs : List Addr} {H H' : Hp} {w' : Nat} {x : Addr} {rows steps : List (List Int)} {ws : List Int} (h : HallAt K bs H w' x rows steps ws) (k : Kp bs H H') : HallAt K bs H' w' x rows steps ws := by
  obtain ⟨dx, a1, a2, a3, e, n, d1, d2, d3⟩ := h.ex
  exact ⟨dx, a1, a2, a3, k _ _ e n, n, d1.keep k, d2.keep k, d3.keep k⟩
structure HallOk (rows steps : List (List Int)) (ws : List Int) : Prop where
  r1 : 1 ≤ rows.length
  row : ∀ r ∈ rows, r.length = rows.length
  ls : steps.length = rows.length
  step : ∀ r ∈ steps, Rung0 r
  w1 : 1 ≤ ws.length
  w5 : ws.length ≤ 5
  last : ∀ h : ws ≠ [], ws.getLast h ≠ 0
theorem HallData.ok {c c2 : Nat} {rows steps : List (List Int)} {ws : List Int} (h : HallData c c2 rows steps ws) : HallOk rows steps ws := by
  have a1 := h.lr
  have a2 := h.ls
  have a3 := h.lw
  have a4 := h.c1
  have a5 := h.w1
  have a6 := h.w5
  exact ⟨by omega, fun r hr => by rw [(h.row r hr).1]; omega, by omega, fun r hr => (h.step r hr).r0, by omega, by omega, h.last⟩
def sp_init (K : PySem.W.Frag) : Sp := fun vs H Q _ => ∃ (x dx : Addr) (v1 v2 v3 : V) (d1 d2 d3 : PyData) (rows steps : List (List Int)) (ws : List Int) (cs bs : List Addr) (w k : Nat), vs = [.ref x, v1, v2, v3] ∧ H x = some (.ins (C0 K) dx []) ∧
  D cs H w k v1 d1 ∧ D cs H w k v2 d2 ∧ D cs H w k v3 d3 ∧ RowsD d1 rows ∧ RowsD d2 steps ∧ IntsD d3 ws ∧ w ≤ 1000 ∧ HallOk rows steps ws ∧ (∀ b ∈ bs, ∃ o, H b = some o) ∧ (∀ b ∈ bs, b ∈ cs) ∧ x ∉ bs ∧
  ∀ H', HallAt K bs H' w x rows steps ws → Kp [x] H H' → Q .non H'
theorem ok_init (T : Tx K mg) : FnOk P w K mg base CX0 5 (He.fAd K ("Hall", some "__init__")) T.fd_Hall___init__ p_Hall___init__ (sp_init K) := by
  have G_are_strings := ok_strings (P := P) (w := w) (base := base) T
  have G_are_steps := ok_steps (P := P) (w := w) (base := base) T
  have G_is_memory := ok_memory (P := P) (w := w) (base := base) T
  have G_as_tuples := ok_tuples (P := P) (w := w) (base := base) T
  refine T.F_Hall___init__.ok sc_Hall___init__ (fun vs H Q E h => ?_) (fun cdv A outer s H vs Q E hr h => ?_)
  · obtain ⟨_, _, _, _, _, _, _, _, _, _, _, _, _, _, _, rfl, _⟩ := h
    rfl
  · obtain ⟨x, dx, v1, v2, v3, e1, e2, e3, rows, steps, ws, cs, bs, w', k, rfl, hx, dP, dS, dW, hP, hS, hW, lw, hd, hbs, hsub, nx, q⟩ := h
    refine ⟨_, PSs.nox (pss_cons (ps_if (pt_not (pt_val (pe_call G_are_strings (hr.mono (by first | decide | omega)) rfl T.g_are_strings T.F_are_strings.kp T.bd_are_strings .nil pass0 (pa_cons (pv 1) pa_nil))))
      (pss_one ps_never)
      pss_nil)
      (pss_cons (ps_if (pt_not (pt_val (pe_call G_are_steps (hr.mono (by first | decide | omega)) rfl T.g_are_steps T.F_are_steps.kp T.bd_are_steps .nil pass0 (pa_cons (pv 2) (pa_cons (pe_callB call_len (by rfl) T.b_len (by decide +kernel) (pa_cons (pv 1) pa_nil)) pa_nil)))))
      (pss_one ps_never)
      pss_nil)
      (pss_cons (ps_if (pt_not (pt_val (pe_call G_is_memory (hr.mono (by first | decide | omega)) rfl T.g_is_memory T.F_is_memory.kp T.bd_is_memory .nil pass0 (pa_cons (pv 3) pa_nil))))
      (pss_one ps_never)
      pss_nil)
      (pss_cons (ps_fld (pv 0) (pe_call G_as_tuples (hr.mono (by first | decide | omega)) rfl T.g_as_tuples T.F_as_tuples.kp T.bd_as_tuples .nil pass0 (pa_cons (pv 1) pa_nil)) rfl)
      (pss_cons (ps_fld (pv 0) (pe_call G_as_tuples (hr.mono (by first | decide | omega)) rfl T.g_as_tuples T.F_as_tuples.kp T.bd_as_tuples .nil pass0 (pa_cons (pv 2) pa_nil)) rfl)
      (pss_one (ps_fld (pv 0) (pe_callTy call_tuple_of (by rfl) T.b_tuple (by decide +kernel) (pa_cons (pv 3) pa_nil)) rfl))))))), ?_⟩
    refine ⟨_, rfl, v1, e1, rows, cs, w', k, rfl, dP, hP, lw, hd.r1, hd.row, fun H1 k1 => ⟨_, rfl, ?_⟩⟩
    refine iteF ?_
    have dP1 := dP.keep (k1.sub (by simp))
    have dS1 := dS.keep (k1.sub (by simp))
    obtain ⟨p, kdp, xp, rfl, hp1, _, lx, _, _⟩ := dP1.rows hP
    have el : (rows.length : Int) = (steps.length : Int) := by rw [hd.ls]
    refine ⟨_, rfl, _, rfl, _, rows.length, rfl, sqo_len hp1 lx.symm, v2, e2, steps, cs, w', k, (by rw [el]; rfl), dS1, hS, lw, hd.step, fun H2 k2 => ⟨_, rfl, ?_⟩⟩
    refine iteF ?_
    refine ⟨_, rfl, v3, e3, ws, cs, w', k, rfl, dW.keep ((k1.trans k2).sub (by simp)), hW, lw, hd.w1, hd.w5, hd.last, fun H3 k3 => ⟨_, rfl, ?_⟩⟩
    refine iteF ?_
    have k13 : Kp [] H H3 := k1.trans (k2.trans k3)
    have bs3 : ∀ b ∈ x :: bs, ∃ o, H3 b = some o := fun b hb => by
      rcases List.mem_cons.mp hb with z | z
      · exact ⟨_, by rw [z]; exact k13 _ _ hx (by simp)⟩
      · obtain ⟨o, e⟩ := hbs b z
        exact ⟨o, k13 _ _ e (by simp)⟩
    have sub2 : ∀ b ∈ x :: bs, b ∈ x :: cs := fun b hb => (List.mem_cons.mp hb).elim (fun z => by rw [z]; simp) fun z => List.mem_cons_of_mem _ (hsub b z)
    refine ⟨_, rfl, _, e1, rows, x :: cs, x :: bs, w', k, rfl, (dP.noIns hx).keep (k13.sub (by simp)), hP, lw, bs3, sub2, fun a1 H4 f4 k4 d4 => ?_⟩
    have hx4 : H4 x = some (.ins (C0 K) dx []) := (k13.trans k4) _ _ hx (by simp)
    refine ⟨_, rfl, x, C0 K, dx, [], rfl, hx4, T.cl_Hall, T.na_Hall_string_rows, (by show 0 < 1000; decide), ?_⟩
    have k5 : ∀ cs, Kp (x :: cs) H4 (upd H4 x (.ins (C0 K) dx (putF "string_rows" (.ref a1) []))) := fun cs => Kp.rfl'.put (by simp)
    have k04 : Kp [] H H4 := k13.trans k4
    have bs5 : ∀ b ∈ x :: bs, ∃ o, (upd H4 x (.ins (C0 K) dx (putF "string_rows" (.ref a1) []))) b = some o := fun b hb => by
      by_cases z : b = x
      · exact ⟨_, by rw [z]; exact upd_same⟩
      · obtain ⟨o, e⟩ := bs3 b hb
        exact ⟨o, by rw [upd_ne z]; exact k4 _ _ e (by simp)⟩
    have dS5 := ((dS.noIns hx).keep (k04.sub (by simp))).keep (k5 cs)
    have dW5 := ((dW.noIns hx).keep (k04.sub (by simp))).keep (k5 cs)
    have d5 := d4.keep (k5 bs)
    refine ⟨_, rfl, v2, e2, steps, x :: cs, x :: bs, w', k, rfl, dS5, hS, lw, bs5, sub2, fun a2 H6 f6 k6 d6 => ?_⟩
    have hx6 := k6 _ _ upd_same (show x ∉ [] by simp)
    refine ⟨_, rfl, x, C0 K, dx, _, rfl, hx6, T.cl_Hall, T.na_Hall_step_rows, (by show 1 < 1000; decide), ?_⟩
    have k7 : ∀ cs, Kp (x :: cs) H6 (upd H6 x (.ins (C0 K) dx (putF "step_rows" (.ref a2) (putF "string_rows" (.ref a1) [])))) := fun cs => Kp.rfl'.put (by simp)
    have dW7 := (dW5.keep (k6.sub (by simp))).keep (k7 cs)
    have d57 := (d5.keep (k6.sub (by simp))).keep (k7 bs)
    have d67 := d6.keep (k7 bs)
    have bs7 : ∀ b ∈ x :: bs, ∃ o, (upd H6 x (.ins (C0 K) dx (putF "step_rows" (.ref a2) (putF "string_rows" (.ref a1) [])))) b = some o := fun b hb => by
      by_cases z : b = x
      · exact ⟨_, by rw [z]; exact upd_same⟩
      · obtain ⟨o, e⟩ := bs5 b hb
        exact ⟨o, by rw [upd_ne z]; exact k6 _ _ e (by simp)⟩
    have hx7 : (upd H6 x (.ins (C0 K) dx (putF "step_rows" (.ref a2) (putF "string_rows" (.ref a1) [])))) x = some (.ins (C0 K) dx (putF "step_rows" (.ref a2) (putF "string_rows" (.ref a1) []))) := upd_same
    have k07 : Kp [x] H (upd H6 x (.ins (C0 K) dx (putF "step_rows" (.ref a2) (putF "string_rows" (.ref a1) [])))) := (((k04.sub (by simp)).trans (k5 [])).trans (k6.sub (by simp))).trans (k7 [])
    generalize upd H6 x (.ins (C0 K) dx (putF "step_rows" (.ref a2) (putF "string_rows" (.ref a1) []))) = H7 at dW7 d57 d67 bs7 hx7 k07 ⊢
    obtain ⟨aw, kdw, rfl, hw7, nw7, lw7, sm7⟩ := dW7.ints hW
    have sub1 : ∀ a, a ∈ bs → a ∈ x :: bs := fun a h => List.mem_cons_of_mem _ h
    have fin : ∀ (a3 : Addr) (H8 : Hp), H8 a3 = some (.tup (ws.map V.int)) → a3 ∉ x :: bs → (∀ cs, Kp cs H7 H8) → sFld K (tVar 0) (fun σ H Q => Q (.ref a3) H) "weights" { nx := fun _ H' => Q .non H', rt := Q } (L2.start n_Hall___init__ [V.ref x, .ref p, v2, .ref aw]) H8 := by
      intro a3 H8 h8 na3 k8
      have hx8 := k8 [] _ _ hx7 (by simp)
      refine ⟨_, rfl, x, C0 K, dx, _, rfl, hx8, T.cl_Hall, T.na_Hall_weights, Nat.lt_of_le_of_lt (putF_le _ _ _) (by show 2 < 1000; decide), ?_⟩
      have k9 : ∀ (cs : List Addr) (o : HO), Kp (x :: cs) H8 (upd H8 x o) := fun cs o => Kp.rfl'.put (by simp)
      refine q _ ⟨dx, a1, a2, a3, upd_same, nx, ((d57.keep (k8 _)).keep (k9 bs _)).less sub1, ((d67.keep (k8 _)).keep (k9 bs _)).less sub1, ((D.tup (k := 0) h8 na3 (by simpa using lw7) (DA.ofInts sm7)).keep (k9 bs _)).less sub1⟩ ?_
      exact k07.trans ((k8 [x]).trans (k9 [] _))
    refine ⟨_, rfl, aw, ws.map V.int, rfl, ?_⟩
    cases kdw with
    | true =>
      refine .inl ⟨SqL.of hw7, fun a3 h8 => ?_⟩
      refine fin a3 _ upd_same (fun m => ?_) fun cs => Kp.rfl'.new h8
      obtain ⟨o, e⟩ := bs7 a3 m
      rw [e] at h8
      cases h8
    | false =>
      refine .inr ⟨SqT.of hw7, fin aw H7 hw7 (fun m => nw7 (sub2 aw m)) fun _ => Kp.rfl'⟩
def sp_get (K : PySem.W.Frag) (f : Addr → Addr → Addr → Addr) : Sp := fun vs H Q _ => ∃ (x dx a1 a2 a3 : Addr), vs = [.ref x] ∧ H x = some (.ins (C0 K) dx (flds a1 a2 a3)) ∧ Q (.ref (f a1 a2 a3)) H
theorem ok_getm (T : Tx K mg) : FnOk P w K mg base CX0 1 (He.fAd K ("Hall", some "memory")) T.fd_Hall_memory p_Hall_memory (sp_get K fun _ _ a => a) := by
  refine T.F_Hall_memory.ok sc_Hall_memory (fun vs H Q E h => ?_) (fun cdv A outer s H vs Q E hr h => ?_)
  · obtain ⟨_, _, _, _, _, rfl, _⟩ := h
    rfl
  · obtain ⟨x, dx, a1, a2, a3, rfl, hx, q⟩ := h
    refine ⟨_, PSs.nox (pss_one (ps_ret (pe_fld (pv 0) rfl))), ?_⟩
    exact ⟨_, rfl, x, C0 K, dx, _, _, rfl, hx, T.cl_Hall, T.na_Hall_weights, flds_3 _ _ _, q⟩
theorem ok_gets (T : Tx K mg) : FnOk P w K mg base CX0 1 (He.fAd K ("Hall", some "strings")) T.fd_Hall_strings p_Hall_strings (sp_get K fun a _ _ => a) := by
  refine T.F_Hall_strings.ok sc_Hall_strings (fun vs H Q E h => ?_) (fun cdv A outer s H vs Q E hr h => ?_)
  · obtain ⟨_, _, _, _, _, rfl, _⟩ := h
    rfl
  · obtain ⟨x, dx, a1, a2, a3, rfl, hx, q⟩ := h
    refine ⟨_, PSs.nox (pss_one (ps_ret (pe_fld (pv 0) rfl))), ?_⟩
    exact ⟨_, rfl, x, C0 K, dx, _, _, rfl, hx, T.cl_Hall, T.na_Hall_string_rows, flds_1 _ _ _, q⟩
theorem ok_gett (T : Tx K mg) : FnOk P w K mg base CX0 1 (He.fAd K ("Hall", some "steps")) T.fd_Hall_steps p_Hall_steps (sp_get K fun _ a _ => a) := by
  refine T.F_Hall_steps.ok sc_Hall_steps (fun vs H Q E h => ?_) (fun cdv A outer s H vs Q E hr h => ?_)
  · obtain ⟨_, _, _, _, _, rfl, _⟩ := h
    rfl
  · obtain ⟨x, dx, a1, a2, a3, rfl, hx, q⟩ := h
    refine ⟨_, PSs.nox (pss_one (ps_ret (pe_fld (pv 0) rfl))), ?_⟩
    exact ⟨_, rfl, x, C0 K, dx, _, _, rfl, hx, T.cl_Hall, T.na_Hall_step_rows, flds_2 _ _ _, q⟩
theorem DA.trowAt {bs : List Addr} {H : Hp} {w k : Nat} {xs : List V} {rows : List (List Int)} {i : Nat} {x : V} (t : DA bs H w k xs (rows.map dT)) (h : xs[i]? = some x) : ∃ r a, rows[i]? = some r ∧ x = .ref a ∧ H a = some (.tup (r.map V.int)) ∧ r.length ≤ w := by
  obtain ⟨d, hd, hx⟩ := t.get h
  rw [List.getElem?_map] at hd
  obtain ⟨r, hr, rfl⟩ := Option.map_eq_some_iff.mp hd
  cases hx with
  | tup h1 n l t2 =>
    have e := DA.ints t2
    subst e
    exact ⟨r, _, hr, rfl, h1, by simpa using l⟩
def topsOf (steps : List (List Int)) : List Int := steps.map fun r => (r.length : Int)
def sp_tops (K : PySem.W.Frag) : Sp := fun vs H Q _ => ∃ (x : Addr) (rows steps : List (List Int)) (ws : List Int) (bs : List Addr) (w : Nat), vs = [.ref x] ∧ HallAt K bs H w x rows steps ws ∧ w ≤ 1000 ∧
  ∀ (p : Addr) (H' : Hp), H p = none → Kp [] H H' → H' p = some (.tup ((topsOf steps).map V.int)) → Q (.ref p) H'
theorem ok_tops (T : Tx K mg) : FnOk P w K mg base CX0 1 (He.fAd K ("Hall", some "tops")) T.fd_Hall_tops p_Hall_tops (sp_tops K) := by
  refine T.F_Hall_tops.ok sc_Hall_tops (fun vs H Q E h => ?_) (fun cdv A outer s H vs Q E hr h => ?_)
  · obtain ⟨_, _, _, _, _, _, rfl, _⟩ := h
    rfl
  · obtain ⟨x, rows, steps, ws, bs, w', rfl, hA, lw, q⟩ := h
    obtain ⟨dx, a1, a2, a3, hx, nx, d1, d2, d3⟩ := hA.ex
    refine ⟨_, PSs.nox (pss_one (ps_ret (pe_callTy call_tuple_of (by rfl) T.b_tuple (by decide +kernel) (pa_cons (pe_lc (own := [("row", 1)]) (g := (gName 1)) (tt := tYes) rfl sc_Hall_tops.nd (pi_tup (pe_fld (pv 0) rfl)) (blkOk_by (own := [("row", 1)]) (N := n_Hall_tops) (sc := defScope s_Hall_tops) (by decide +kernel)) (fun _ _ _ _ _ => (pg_name (i := 1) sc_Hall_tops.nd rfl (by first | exact Or.inl rfl | exact Or.inr rfl))) (fun _ _ _ _ _ => pts_nil) (fun _ _ _ _ _ => (pe_callB (kLen (K := K) rfl) (by rfl) T.b_len (by decide +kernel) (pa_cons (pv 1) pa_nil)))) pa_nil)))), ?_⟩
    cases d2 with
    | @tup _ _ xs _ h2 n2 l2 t2 =>
    refine ⟨_, rfl, x, C0 K, dx, _, _, rfl, hx, T.cl_Hall, T.na_Hall_step_rows, flds_2 _ _ _, a2, rfl, ⟨_, SqT.of h2⟩, fun p hp => lc_tup (K := K) (a := a2) (xs := xs) (fun j H3 => H3 p = some (.lst ((topsOf (steps.take j)).map V.int)) ∧ Kp [] H H3) ?_ ?_ ?_ ?_⟩
    · exact ⟨by rw [upd_same]; rfl, Kp.rfl'.new hp⟩
    · rintro j H3 _ ⟨_, k3⟩
      exact SqT.of (k3 _ _ h2 (by simp))
    · rintro j y H3 hj ⟨h3, k3⟩
      obtain ⟨r, ra, hr2, rfl, hR, _⟩ := t2.trowAt hj
      have hjl := (List.getElem?_eq_some_iff.mp hj).1
      refine ⟨rfl, yesT ⟨_, rfl, _, r.length, rfl, .inr ⟨_, SqT.of (k3 _ _ hR (by simp)), by simp⟩, _, h3, ?_, ?_, k3.own hp⟩⟩
      · simp only [topsOf, List.length_map, List.length_take]
        exact small1000 (by omega)
      · rw [upd_same, List.take_add_one, hr2]
        simp [topsOf]
    · rintro H3 ⟨h3, k3⟩
      have ls := DA.len t2
      rw [List.length_map] at ls
      rw [ls, List.take_length] at h3
      refine ⟨p, _, rfl, .inl ⟨SqL.of h3, fun l hl => ?_⟩⟩
      exact q l _ (k3.free hl (by simp)) (k3.new hl) upd_same

end
end Sw

set_option maxHeartbeats 2000000
namespace Sw
open PySem PySem.Spec PyProof.Rows L2
section
variable {P : Program} {w : World} {K : PySem.W.Frag} {mg : Str → Option Value} {base : Heap}
theorem swp' {l b : Addr} {cs : List Addr} : ∀ a, a ∈ l :: b :: cs → a ∈ b :: l :: cs := fun a h => by
  simp only [List.mem_cons] at h ⊢
  exact h.elim (fun z => .inr (.inl z)) fun z => z.elim .inl fun y => .inr (.inr y)
/-- all of cs stand in H -/
def Std (cs : List Addr) (H : Hp) : Prop := ∀ c ∈ cs, ∃ o, H c = some o
theorem Std.keep {cs : List Addr} {b : Addr} {n : Nat} {H H' : Hp} (h : Std cs H) (k : Kp [b] H H') (hb : Bx H' b n) : Std cs H' := fun c hc => by
  by_cases y : c = b
  · obtain ⟨_, _, _, e, _⟩ := id hb.ex
    exact ⟨_, y ▸ e⟩
  · obtain ⟨o, e⟩ := h c hc
    exact ⟨o, k _ _ e (by simpa using y)⟩
theorem Std.away {cs : List Addr} {H : Hp} {p : Addr} (h : Std cs H) (hp : H p = none) : p ∉ cs := fun m => by
  obtain ⟨o, e⟩ := h p m
  rw [hp] at e
  cases e
theorem Std.cons {cs : List Addr} {H : Hp} {a : Addr} {o : HO} (h : Std cs H) (e : H a = some o) : Std (a :: cs) H := fun c hc => (List.mem_cons.mp hc).elim (fun z => ⟨o, z ▸ e⟩) (h c)
/-- numbers, as a list or a tuple, apart from cs -/
structure I1 (cs : List Addr) (H : Hp) (v : V) (ns : List Int) : Prop where
  ex : ∃ a kd, v = .ref a ∧ H a = some (sqo kd (ns.map V.int)) ∧ a ∉ cs
theorem I1.keep {cs bs : List Addr} {H H' : Hp} {v : V} {ns : List Int} (x : I1 cs H v ns) (k : Kp bs H H') (s : ∀ a, a ∈ bs → a ∈ cs) : I1 cs H' v ns := by
  obtain ⟨a, kd, e, h, n⟩ := x.ex
  exact ⟨a, kd, e, k _ _ h fun m => n (s a m), n⟩
/-- rows of numbers, each row apart from the whole too -/
structure I2 (cs : List Addr) (H : Hp) (v : V) (rows : List (List Int)) : Prop where
  ex : ∃ a kd xs, v = .ref a ∧ H a = some (sqo kd xs) ∧ a ∉ cs ∧ xs.length = rows.length ∧ ∀ (i : Nat) (y : V) (r : List Int), xs[i]? = some y → rows[i]? = some r → I1 (a :: cs) H y r
theorem I2.keep {cs bs : List Addr} {H H' : Hp} {v : V} {rows : List (List Int)} (x : I2 cs H v rows) (k : Kp bs H H') (s : ∀ a, a ∈ bs → a ∈ cs) : I2 cs H' v rows := by
  obtain ⟨a, kd, xs, e, h, n, l, al⟩ := x.ex
  exact ⟨a, kd, xs, e, k _ _ h fun m => n (s a m), n, l, fun i y r hy hr => (al i y r hy hr).keep k fun a h => List.mem_cons_of_mem _ (s a h)⟩
def sp_as0 : Sp := fun vs H Q _ => ∃ (b : Addr) (i : Int), vs = [.ref b, .int i] ∧ ∀ H', Kp [] H H' → Q (.int i) H'
theorem ok_as0 (T : Tx K mg) : FnOk P w K mg base CX0 2 (He.fAd K ("_law_as", none)) T.fd__law_as p__law_as sp_as0 := by
  have G__law_take := ok_take (P := P) (w := w) (base := base) T
  have G__law_as : FnOk P w K mg base CX0 1 (He.fAd K ("_law_as", none)) T.fd__law_as p__law_as (fun _ _ _ _ => False) := by
    refine T.F__law_as.ok sc__law_as (fun vs H Q E h => h.elim) (fun cdv A outer s H vs Q E hr h => h.elim)
  refine T.F__law_as.ok sc__law_as (fun vs H Q E h => ?_) (fun cdv A outer s H vs Q E hr h => ?_)
  · obtain ⟨_, _, rfl, _⟩ := h
    rfl
  · obtain ⟨b, i, rfl, q⟩ := h
    refine ⟨_, PSs.nox (pss_cons (ps_if (pt_not (pt_val (pe_callB call_isiT (by rfl) T.b_isinstance (by decide +kernel) (pa_cons (pv 1) (pa_cons (pe_tup (pa_cons (pe_bltn (v := .ty "list") (by rfl) T.b_list (by decide +kernel) rfl) (pa_cons (pe_bltn (v := .ty "tuple") (by rfl) T.b_tuple (by decide +kernel) rfl) pa_nil))) pa_nil)))))
      (pss_one (ps_ret (pv 1)))
      pss_nil)
      (pss_cons (ps_setLc (i := 2) (own := [("_law_part", 3)]) (g := (gName 3)) (tt := tYes) rfl sc__law_as.nd rfl rfl (sw_true rfl rfl rfl (by decide +kernel)) (pi_seq (pv 1)) (blkOk_by (own := [("_law_part", 3)]) (N := n__law_as) (sc := defScope s__law_as) (by decide +kernel)) (fun _ _ _ _ _ => (pg_name (i := 3) sc__law_as.nd rfl (by first | exact Or.inl rfl | exact Or.inr rfl))) (fun _ _ _ _ _ => pts_nil) (fun _ _ _ _ _ => (pe_call G__law_as hr rfl T.g__law_as T.F__law_as.kp T.bd__law_as .nil pass0 (pa_cons (pv 0) (pa_cons (pv 3) pa_nil)))))
      (pss_one (ps_ret (pe_ifExp (pt_cmpR op_eq (pe_call G__law_take (hr.mono (by first | decide | omega)) rfl T.g__law_take T.F__law_take.kp T.bd__law_take .nil pass0 (pa_cons (pv 0) (pa_cons pe_int pa_nil))) pe_int (nomark _)) (pv 2) (pe_callTy call_tuple_of (by rfl) T.b_tuple (by decide +kernel) (pa_cons (pv 2) pa_nil))))))), ?_⟩
    refine ⟨_, rfl, by show 2 ≤ sizeLine; decide, fun t ht => ?_⟩
    refine ⟨_, t, _, _, [.type "list", .type "tuple"], false, rfl, upd_same, tyLT, .base (.int i), kitAny_cons (kit_ty (r := false) (by decide +kernel)) (fun _ => kitAny_cons (kit_ty (r := false) (by decide +kernel)) (fun _ => kitAny_nil) (fun z => nomatch z)) (fun z => nomatch z), _, rfl, ?_⟩
    exact iteT ⟨_, rfl, q _ (Kp.rfl'.new ht)⟩
def sp_as1 : Sp := fun vs H Q _ => ∃ (b a : Addr) (ns : List Int) (cs : List Addr) (n : Nat), vs = [.ref b, .ref a] ∧ H a = some (.lst (ns.map V.int)) ∧ Bx H b n ∧ n ≤ 800000 ∧ ns.length ≤ 100 ∧ a ≠ b ∧ Std cs H ∧
  ∀ (v : V) (H' : Hp), I1 (b :: cs) H' v ns → (∀ a, v = .ref a → H a = none) → Bx H' b (n + 1) → Kp [b] H H' → Q v H'
theorem ok_as1 (T : Tx K mg) : FnOk P w K mg base CX0 3 (He.fAd K ("_law_as", none)) T.fd__law_as p__law_as sp_as1 := by
  have G__law_take := ok_take (P := P) (w := w) (base := base) T
  have G__law_as := ok_as0 (P := P) (w := w) (base := base) T
  refine T.F__law_as.ok sc__law_as (fun vs H Q E h => ?_) (fun cdv A outer s H vs Q E hr h => ?_)
  · obtain ⟨_, _, _, _, _, rfl, _⟩ := h
    rfl
  · obtain ⟨b, a, ns, cs, n, rfl, ha, hB, hn, l100, nab, hcs, q⟩ := h
    refine ⟨_, PSs.nox (pss_cons (ps_if (pt_not (pt_val (pe_callB call_isiT (by rfl) T.b_isinstance (by decide +kernel) (pa_cons (pv 1) (pa_cons (pe_tup (pa_cons (pe_bltn (v := .ty "list") (by rfl) T.b_list (by decide +kernel) rfl) (pa_cons (pe_bltn (v := .ty "tuple") (by rfl) T.b_tuple (by decide +kernel) rfl) pa_nil))) pa_nil)))))
      (pss_one (ps_ret (pv 1)))
      pss_nil)
      (pss_cons (ps_setLc (i := 2) (own := [("_law_part", 3)]) (g := (gName 3)) (tt := tYes) rfl sc__law_as.nd rfl rfl (sw_true rfl rfl rfl (by decide +kernel)) (pi_seq (pv 1)) (blkOk_by (own := [("_law_part", 3)]) (N := n__law_as) (sc := defScope s__law_as) (by decide +kernel)) (fun _ _ _ _ _ => (pg_name (i := 3) sc__law_as.nd rfl (by first | exact Or.inl rfl | exact Or.inr rfl))) (fun _ _ _ _ _ => pts_nil) (fun _ _ _ _ _ => (pe_call G__law_as hr rfl T.g__law_as T.F__law_as.kp T.bd__law_as .nil pass0 (pa_cons (pv 0) (pa_cons (pv 3) pa_nil)))))
      (pss_one (ps_ret (pe_ifExp (pt_cmpR op_eq (pe_call G__law_take (hr.mono (by first | decide | omega)) rfl T.g__law_take T.F__law_take.kp T.bd__law_take .nil pass0 (pa_cons (pv 0) (pa_cons pe_int pa_nil))) pe_int (nomark _)) (pv 2) (pe_callTy call_tuple_of (by rfl) T.b_tuple (by decide +kernel) (pa_cons (pv 2) pa_nil))))))), ?_⟩
    refine ⟨_, rfl, by show 2 ≤ sizeLine; decide, fun t ht => ?_⟩
    have k1 : ∀ cs, Kp cs H (upd H t (.tup [.ty "list", .ty "tuple"])) := fun cs => Kp.rfl'.new ht
    have ha1 := k1 [] _ _ ha (by simp)
    have hB1 := hB.keep (k1 []) (by simp)
    refine ⟨_, t, _, _, [.type "list", .type "tuple"], true, rfl, upd_same, tyLT, .base (.lst ha1), kitAny_cons (kit_ty (r := true) (by decide +kernel)) (fun z => nomatch z) (fun _ => rfl), _, rfl, iteF ?_⟩
    generalize upd H t (.tup [.ty "list", .ty "tuple"]) = H1 at k1 ha1 hB1 ⊢
    refine ⟨_, rfl, a, rfl, lc_seq (kd := true) ha1 (fun p j H3 => H3 p = some (.lst ((ns.take j).map V.int)) ∧ Kp [] H1 H3) ?_ ?_ ?_ ?_⟩
    · exact fun p hp => ⟨by rw [upd_same]; rfl, Kp.rfl'.new hp⟩
    · rintro p j H3 _ ⟨_, k3⟩
      exact k3 _ _ ha1 (by simp)
    · rintro p j y H3 hp hj ⟨h3, k3⟩
      rw [List.getElem?_map] at hj
      obtain ⟨z, hz, rfl⟩ := Option.map_eq_some_iff.mp hj
      refine ⟨rfl, yesT ⟨_, rfl, _, rfl, b, z, rfl, fun H4 k4 => ⟨_, k4 _ _ h3 (by simp), ?_, ?_, (k3.trans k4).own hp⟩⟩⟩
      · simp only [List.length_map, List.length_take]
        exact small1000 (by omega)
      · rw [upd_same, List.take_add_one, hz]
        simp
    · rintro p H3 hp ⟨h3, k3⟩
      rw [List.length_map, List.take_length] at h3
      have k03 : Kp [] H H3 := (k1 []).trans k3
      have hB3 := hB1.keep k3 (by simp)
      refine ⟨_, rfl, b, 2, n, rfl, hB3, by decide, by decide, by omega, fun r H4 r0 r1 hB4 k4 => ⟨rfl, _, rfl, ?_⟩⟩
      obtain ⟨_, _, _, eb, _⟩ := id hB1.ex
      have npb : p ≠ b := (ne_of_none eb hp).symm
      have h4 := k4 _ _ h3 (by simpa using npb)
      have k04 : Kp [b] H H4 := (k03.sub (by simp)).trans k4
      have hcs4 := hcs.keep k04 hB4
      have fp : H p = none := (k1 []).free hp (by simp)
      have npc : p ∉ b :: cs := fun m => (List.mem_cons.mp m).elim npb (hcs.away fp)
      refine ite2 (fun c => ?_) (fun c => ?_)
      · exact ⟨_, rfl, q _ H4 ⟨p, true, rfl, h4, npc⟩ (fun a e => by cases e; exact fp) hB4 k04⟩
      · refine ⟨_, rfl, p, _, rfl, .inl ⟨SqL.of h4, fun l hl => ?_⟩⟩
        obtain ⟨_, _, _, eb4, _⟩ := id hB4.ex
        have nlb : l ≠ b := (ne_of_none eb4 hl).symm
        have fl : H l = none := k04.free hl (by simpa using nlb)
        refine q _ _ ⟨l, false, rfl, upd_same, fun m => (List.mem_cons.mp m).elim nlb (hcs.away fl)⟩ (fun a e => by cases e; exact fl) (hB4.keep (bs := []) (Kp.rfl'.new hl) (by simp)) (k04.new hl)
def sp_as2 : Sp := fun vs H Q _ => ∃ (b a : Addr) (xs : List V) (rows : List (List Int)) (cs : List Addr) (n : Nat), vs = [.ref b, .ref a] ∧ H a = some (.lst xs) ∧ a ≠ b ∧ xs.length = rows.length ∧ rows.length ≤ 20 ∧ (∀ (i : Nat) (y : V) (r : List Int), xs[i]? = some y → rows[i]? = some r → ∃ c, y = .ref c ∧ c ≠ b ∧ H c = some (.lst (r.map V.int)) ∧ r.length ≤ 100) ∧
  Bx H b n ∧ n ≤ 700000 ∧ Std cs H ∧
  ∀ (v : V) (H' : Hp), I2 (b :: cs) H' v rows → Bx H' b (n + 30) → Kp [b] H H' → Q v H'
theorem ok_as2 (T : Tx K mg) : FnOk P w K mg base CX0 4 (He.fAd K ("_law_as", none)) T.fd__law_as p__law_as sp_as2 := by
  have G__law_take := ok_take (P := P) (w := w) (base := base) T
  have G__law_as := ok_as1 (P := P) (w := w) (base := base) T
  refine T.F__law_as.ok sc__law_as (fun vs H Q E h => ?_) (fun cdv A outer s H vs Q E hr h => ?_)
  · obtain ⟨_, _, _, _, _, _, rfl, _⟩ := h
    rfl
  · obtain ⟨b, a, xs, rows, cs, n, rfl, ha, nab, lx, l20, al, hB, hn, hcs, q⟩ := h
    refine ⟨_, PSs.nox (pss_cons (ps_if (pt_not (pt_val (pe_callB call_isiT (by rfl) T.b_isinstance (by decide +kernel) (pa_cons (pv 1) (pa_cons (pe_tup (pa_cons (pe_bltn (v := .ty "list") (by rfl) T.b_list (by decide +kernel) rfl) (pa_cons (pe_bltn (v := .ty "tuple") (by rfl) T.b_tuple (by decide +kernel) rfl) pa_nil))) pa_nil)))))
      (pss_one (ps_ret (pv 1)))
      pss_nil)
      (pss_cons (ps_setLc (i := 2) (own := [("_law_part", 3)]) (g := (gName 3)) (tt := tYes) rfl sc__law_as.nd rfl rfl (sw_true rfl rfl rfl (by decide +kernel)) (pi_seq (pv 1)) (blkOk_by (own := [("_law_part", 3)]) (N := n__law_as) (sc := defScope s__law_as) (by decide +kernel)) (fun _ _ _ _ _ => (pg_name (i := 3) sc__law_as.nd rfl (by first | exact Or.inl rfl | exact Or.inr rfl))) (fun _ _ _ _ _ => pts_nil) (fun _ _ _ _ _ => (pe_call G__law_as hr rfl T.g__law_as T.F__law_as.kp T.bd__law_as .nil pass0 (pa_cons (pv 0) (pa_cons (pv 3) pa_nil)))))
      (pss_one (ps_ret (pe_ifExp (pt_cmpR op_eq (pe_call G__law_take (hr.mono (by first | decide | omega)) rfl T.g__law_take T.F__law_take.kp T.bd__law_take .nil pass0 (pa_cons (pv 0) (pa_cons pe_int pa_nil))) pe_int (nomark _)) (pv 2) (pe_callTy call_tuple_of (by rfl) T.b_tuple (by decide +kernel) (pa_cons (pv 2) pa_nil))))))), ?_⟩
    refine ⟨_, rfl, by show 2 ≤ sizeLine; decide, fun t ht => ?_⟩
    have k1 : ∀ cs, Kp cs H (upd H t (.tup [.ty "list", .ty "tuple"])) := fun cs => Kp.rfl'.new ht
    have ha1 := k1 [] _ _ ha (by simp)
    have hB1 := hB.keep (k1 []) (by simp)
    have hcs1 : Std cs (upd H t (.tup [.ty "list", .ty "tuple"])) := fun c hc => by
      obtain ⟨o, e⟩ := hcs c hc
      exact ⟨o, k1 [] _ _ e (by simp)⟩
    refine ⟨_, t, _, _, [.type "list", .type "tuple"], true, rfl, upd_same, tyLT, .base (.lst ha1), kitAny_cons (kit_ty (r := true) (by decide +kernel)) (fun z => nomatch z) (fun _ => rfl), _, rfl, iteF ?_⟩
    generalize upd H t (.tup [.ty "list", .ty "tuple"]) = H1 at k1 ha1 hB1 hcs1 ⊢
    obtain ⟨_, _, _, eb, _⟩ := id hB1.ex
    refine ⟨_, rfl, a, rfl, lc_seq (kd := true) ha1 (fun p j H3 => ∃ ys : List V, H3 p = some (.lst ys) ∧ ys.length = j ∧ (∀ (i : Nat) (y : V) (r : List Int), ys[i]? = some y → rows[i]? = some r → I1 (b :: p :: cs) H3 y r) ∧ Bx H3 b (n + j) ∧ Kp [b] H1 H3) ?_ ?_ ?_ ?_⟩
    · exact fun p hp => ⟨[], upd_same, rfl, fun i y r h => by simp at h, hB1.keep (Kp.rfl'.new (bs := []) hp) (by simp), Kp.rfl'.new hp⟩
    · rintro p j H3 _ ⟨_, _, _, _, _, k3⟩
      exact k3 _ _ ha1 (by simpa using nab)
    · rintro p j y H3 hp hj ⟨ys, h3, l3, a3, hB3, k3⟩
      have hjl := (List.getElem?_eq_some_iff.mp hj).1
      have npb : p ≠ b := (ne_of_none eb hp).symm
      have hrj : rows[j]? = some rows[j] := by simp
      obtain ⟨c, rfl, ncb, hc, lc⟩ := al j y _ hj hrj
      have hc3 := k3 _ _ (k1 [] _ _ hc (by simp)) (by simpa using ncb)
      have hcs3 := (hcs1.keep k3 hB3).cons h3
      refine ⟨rfl, yesT ⟨_, rfl, _, rfl, b, c, rows[j], p :: cs, n + j, rfl, hc3, hB3, by omega, lc, ncb, hcs3, fun v H4 hv fv hB4 k4 => ?_⟩⟩
      have kp : Kp [p] H4 (upd H4 p (.lst (ys ++ [v]))) := Kp.rfl'.put (by simp)
      refine ⟨ys, k4 _ _ h3 (by simpa using npb), small1000 (by omega), ys ++ [v], upd_same, by simp [l3], ?_, hB4.keep kp (by simpa using npb.symm), (k3.trans k4).own hp⟩
      intro i u r hu hr
      by_cases ci : i < ys.length
      · rw [List.getElem?_append_left ci] at hu
        exact ((a3 i u r hu hr).keep k4 (by simp)).keep kp (by simp)
      · rw [List.getElem?_append_right (by omega)] at hu
        have ei : i = j := by
          have := (List.getElem?_eq_some_iff.mp hu).1
          simp at this
          omega
        subst ei
        rw [l3, Nat.sub_self] at hu
        have : v = u := by simpa using hu
        subst this
        rw [hrj] at hr
        cases hr
        exact hv.keep kp (by simp)
    · rintro p H3 hp ⟨ys, h3, l3, a3, hB3, k3⟩
      have npb : p ≠ b := (ne_of_none eb hp).symm
      refine ⟨_, rfl, b, 2, _, rfl, hB3, by decide, by decide, by omega, fun r H4 r0 r1 hB4 k4 => ⟨rfl, _, rfl, ?_⟩⟩
      have h4 := k4 _ _ h3 (by simpa using npb)
      have k14 : Kp [b] H1 H4 := k3.trans k4
      have k04 : Kp [b] H H4 := (k1 _).trans k14
      have fp : H p = none := (k1 []).free hp (by simp)
      have npc : p ∉ b :: cs := fun m => (List.mem_cons.mp m).elim npb (hcs.away fp)
      refine ite2 (fun c => ?_) (fun c => ?_)
      · refine ⟨_, rfl, q _ H4 ⟨p, true, ys, rfl, h4, npc, by omega, fun i y r hy hr => ?_⟩ (hB4.up (by omega)) k04⟩
        obtain ⟨c', kd, e, hc', nc'⟩ := ((a3 i y r hy hr).keep k4 (by simp)).ex
        exact ⟨c', kd, e, hc', fun m => nc' (swp' c' m)⟩
      · refine ⟨_, rfl, p, _, rfl, .inl ⟨SqL.of h4, fun l hl => ?_⟩⟩
        obtain ⟨_, _, _, eb4, _⟩ := id hB4.ex
        have nlb : l ≠ b := (ne_of_none eb4 hl).symm
        have fl : H l = none := k04.free hl (by simpa using nlb)
        have kl : ∀ cs, Kp cs H4 (upd H4 l (.tup ys)) := fun cs => Kp.rfl'.new hl
        refine q _ _ ⟨l, false, ys, rfl, upd_same, fun m => (List.mem_cons.mp m).elim nlb (hcs.away fl), by omega, fun i y r hy hr => ?_⟩ ((hB4.keep (kl []) (by simp)).up (by omega)) (k04.trans (kl _))
        obtain ⟨c', kd, e, hc', nc'⟩ := ((a3 i y r hy hr).keep k4 (by simp)).ex
        refine ⟨c', kd, e, kl [] _ _ hc' (by simp), fun m => ?_⟩
        rcases List.mem_cons.mp m with z | z
        · rw [z, hl] at hc'
          cases hc'
        · rcases List.mem_cons.mp z with z | z
          · exact nc' (by rw [z]; simp)
          · exact nc' (List.mem_cons_of_mem _ (List.mem_cons_of_mem _ z))

end
end Sw

set_option maxHeartbeats 2000000
namespace Sw
open PySem PySem.Spec PyProof.Rows L2
section
variable {P : Program} {w : World} {K : PySem.W.Frag} {mg : Str → Option Value} {base : Heap}
/-- alike, where both hold the same -/
def sp_same (m : Nat) : Sp := fun vs H Q _ => ∃ (v1 v2 : V) (d : PyData) (bs cs : List Addr) (w k : Nat), vs = [v1, v2] ∧ D bs H w k v1 d ∧ D cs H w k v2 d ∧ k < m ∧ w ≤ 1000 ∧ ∀ H', Kp [] H H' → Q (.bl true) H'
theorem ok_same (T : Tx K mg) : ∀ m : Nat, FnOk P w K mg base CX0 (m + 1) (He.fAd K ("_law_same", none)) T.fd__law_same p__law_same (sp_same m)
  | 0 => by
    refine T.F__law_same.ok sc__law_same (fun vs H Q E h => ?_) (fun cdv A outer s H vs Q E hr h => ?_)
    · obtain ⟨_, _, _, _, _, _, _, rfl, _⟩ := h
      rfl
    · obtain ⟨_, _, _, _, _, _, _, _, _, _, z, _⟩ := h
      exact absurd z (Nat.not_lt_zero _)
  | m + 1 => by
    have G__law_same := ok_same T m
    refine T.F__law_same.ok sc__law_same (fun vs H Q E h => ?_) (fun cdv A outer s H vs Q E hr h => ?_)
    · obtain ⟨_, _, _, _, _, _, _, rfl, _⟩ := h
      rfl
    · obtain ⟨v1, v2, d, bs, cs, w', k, rfl, h1, h2, km, lw, q⟩ := h
      refine ⟨_, PSs.nox (pss_cons (ps_if (pt_val (pe_callB call_isiT (by rfl) T.b_isinstance (by decide +kernel) (pa_cons (pv 1) (pa_cons (pe_tup (pa_cons (pe_bltn (v := .ty "list") (by rfl) T.b_list (by decide +kernel) rfl) (pa_cons (pe_bltn (v := .ty "tuple") (by rfl) T.b_tuple (by decide +kernel) rfl) pa_nil))) pa_nil))))
      (pss_cons (ps_if (PW.pt (pw_or (pt_cmpR op_ne (pe_callB call_isi (by rfl) T.b_isinstance (by decide +kernel) (pa_cons (pv 0) (pa_cons (pe_bltn (v := .ty "list") (by rfl) T.b_list (by decide +kernel) rfl) pa_nil))) (pe_callB call_isi (by rfl) T.b_isinstance (by decide +kernel) (pa_cons (pv 1) (pa_cons (pe_bltn (v := .ty "list") (by rfl) T.b_list (by decide +kernel) rfl) pa_nil))) (nomark _)) (pw_or1 (pt_cmpR op_ne (pe_callB call_isi (by rfl) T.b_isinstance (by decide +kernel) (pa_cons (pv 0) (pa_cons (pe_bltn (v := .ty "tuple") (by rfl) T.b_tuple (by decide +kernel) rfl) pa_nil))) (pe_callB call_isi (by rfl) T.b_isinstance (by decide +kernel) (pa_cons (pv 1) (pa_cons (pe_bltn (v := .ty "tuple") (by rfl) T.b_tuple (by decide +kernel) rfl) pa_nil))) (nomark _)))))
      (pss_one (ps_ret pe_bl))
      pss_nil)
      (pss_one (ps_ret (pe_and (pe_cmpR op_eq (pe_callB call_len (by rfl) T.b_len (by decide +kernel) (pa_cons (pv 0) pa_nil)) (pe_callB call_len (by rfl) T.b_len (by decide +kernel) (pa_cons (pv 1) pa_nil)) (nomark _)) (pe_one (pe_callB (cr_all rfl) (by rfl) T.b_all (by decide +kernel) (pa_cons (pe_lc (own := [("_law_one", 2), ("_law_two", 3)]) (g := (gTup K 2 (gCons (gName 2) (gCons (gName 3) gNil)))) (tt := tYes) rfl sc__law_same.nd (pi_zipS (by rfl) T.b_zip (pa_cons (pv 0) (pa_cons (pv 1) pa_nil))) (blkOk_by (own := [("_law_one", 2), ("_law_two", 3)]) (N := n__law_same) (sc := defScope s__law_same) (by decide +kernel)) (fun _ _ _ _ _ => (pg_tup rfl (pgs_cons (pg_name (i := 2) sc__law_same.nd rfl (by first | exact Or.inl rfl | exact Or.inr rfl)) (pgs_cons (pg_name (i := 3) sc__law_same.nd rfl (by first | exact Or.inl rfl | exact Or.inr rfl)) pgs_nil)))) (fun _ _ _ _ _ => pts_nil) (fun _ _ _ _ _ => (pe_call G__law_same hr rfl T.g__law_same T.F__law_same.kp T.bd__law_same .nil pass0 (pa_cons (pv 2) (pa_cons (pv 3) pa_nil))))) pa_nil)))))))
      pss_nil)
      (pss_cons (ps_if (PW.pt (pw_or (pt_cmpR op_isN (pv 1) pe_non (nomark _)) (pw_or1 (pt_val (pe_callB call_isi (by rfl) T.b_isinstance (by decide +kernel) (pa_cons (pv 1) (pa_cons (pe_bltn (v := .ty "str") (by rfl) T.b_str (by decide +kernel) rfl) pa_nil)))))))
      (pss_one (ps_ret (pe_and (pe_cmpR op_eq (pv 0) (pv 1) (nomark _)) (pe_one (pe_cmpR op_eq (pe_callB call_isi (by rfl) T.b_isinstance (by decide +kernel) (pa_cons (pv 0) (pa_cons (pe_bltn (v := .ty "str") (by rfl) T.b_str (by decide +kernel) rfl) pa_nil))) (pe_callB call_isi (by rfl) T.b_isinstance (by decide +kernel) (pa_cons (pv 1) (pa_cons (pe_bltn (v := .ty "str") (by rfl) T.b_str (by decide +kernel) rfl) pa_nil))) (nomark _))))))
      pss_nil)
      (pss_one (ps_ret (pe_and (pe_callB call_isi (by rfl) T.b_isinstance (by decide +kernel) (pa_cons (pv 0) (pa_cons (pe_bltn (v := .ty "int") (by rfl) T.b_int (by decide +kernel) rfl) pa_nil))) (pe_and (pe_cmpR op_eq (pe_callB call_isi (by rfl) T.b_isinstance (by decide +kernel) (pa_cons (pv 0) (pa_cons (pe_bltn (v := .ty "bool") (by rfl) T.b_bool (by decide +kernel) rfl) pa_nil))) (pe_callB call_isi (by rfl) T.b_isinstance (by decide +kernel) (pa_cons (pv 1) (pa_cons (pe_bltn (v := .ty "bool") (by rfl) T.b_bool (by decide +kernel) rfl) pa_nil))) (nomark _)) (pe_one (pe_cmpR op_eq (pv 0) (pv 1) (nomark _))))))))), ?_⟩
      refine ⟨_, rfl, by show 2 ≤ sizeLine; decide, fun t ht => ?_⟩
      have k0 : ∀ cs, Kp cs H (upd H t (.tup [.ty "list", .ty "tuple"])) := fun cs => Kp.rfl'.new ht
      have g1 := h1.keep (k0 bs)
      have g2 := h2.keep (k0 cs)
      generalize hH : upd H t (.tup [.ty "list", .ty "tuple"]) = H1 at g1 g2 k0
      have tup1 : H1 t = some (.tup [.ty "list", .ty "tuple"]) := by
        rw [← hH]
        exact upd_same
      refine ⟨_, t, _, _, [.type "list", .type "tuple"], _, rfl, tup1, tyLT, g2.tyx, g2.kQ, _, rfl, ?_⟩
      have kk1 := g1.kit (K := K)
      have kk2 := g2.kit (K := K)
      have isi1 := g1.tyx (K := K)
      have isi2 := g2.tyx (K := K)
      have seqs : ∀ (ka : Bool) (a1 a2 : Addr) (x1 x2 : List V) (ds : List PyData) (k' : Nat), SqK ka K H1 a1 x1 → SqK ka K H1 a2 x2 → DA bs H1 w' k' x1 ds → DA cs H1 w' k' x2 ds → (∀ H', Kp [] H1 H' → SqK ka K H' a1 x1 ∧ SqK ka K H' a2 x2) → x1.length ≤ w' → k' < m →
          ∀ p, H1 p = none → ∃ W : Nat → Nat → Hp → Prop, (∃ j, W 0 j (upd H1 p (.lst []))) ∧ ∀ i j H, W i j H →
          ((ItZ ka ka K a1 a2).stop i H ∧ rAll K [.ref p] H Q) ∨ ((ItZ ka ka K a1 a2).go i H ∧ ∃ Nx : Hp → Prop, (∀ H', Nx H' → ∃ j', j' < j ∧ W (i + 1) j' H') ∧ ∀ x H', (ItZ ka ka K a1 a2).yld i H x H' → (gTup K 2 (gCons (gName 2) (gCons (gName 3) gNil))) x (wipe [some v1, some v2, none, none] [2, 3]) H' fun σ2 H2 => wipe σ2 [2, 3] = wipe [some v1, some v2, none, none] [2, 3] ∧ tYes σ2 H2 fun b H3 =>
            if b = true then (tCall (sp_same m) [] E0 (tCons (tVar 2) (tCons (tVar 3) tNil))) σ2 H3 fun y H4 => ∃ acc, H4 p = some (.lst acc) ∧ acc.length < sizeLine ∧ Nx (upd H4 p (.lst (acc ++ [y]))) else Nx H3) := by
        intro ka a1 a2 x1 x2 ds k' s1 s2 t1 t2 hk lx km' p hp
        have l1 := DA.len t1
        have l2 := DA.len t2
        refine lc_it (walkZ (n := ds.length) (xs := x1) (ys := x2) (by simp [l1, l2])) (fun j H3 => H3 p = some (.lst ((List.replicate j true).map V.bl)) ∧ Kp [] H1 H3) ?_ ?_ ?_ ?_
        · exact ⟨by rw [upd_same]; rfl, Kp.rfl'.new hp⟩
        · rintro j H3 _ ⟨_, k3⟩
          exact hk H3 k3
        · rintro j y H3 H4 hj ⟨h3, k3⟩ ⟨t', y1, y2, rfl, ft, rfl, e1, e2⟩
          have e1 : x1[j]? = some y1 := e1
          have e2 : x2[j]? = some y2 := e2
          obtain ⟨e, he, hy1⟩ := t1.get e1
          obtain ⟨e', he', hy2⟩ := t2.get e2
          rw [he] at he'
          cases he'
          have kt : ∀ cs, Kp cs H3 (upd H3 t' (.tup [y1, y2])) := fun cs => Kp.rfl'.new ft
          refine ⟨t', _, rfl, SqT.of upd_same, rfl, _, _, rfl, _, _, rfl, rfl, rfl, yesT ⟨_, rfl, _, rfl, y1, y2, e, bs, cs, w', k', rfl, (hy1.keep (k3.sub (by simp))).keep (kt _), (hy2.keep (k3.sub (by simp))).keep (kt _), km', lw, fun H5 k5 => ⟨_, k5 _ _ (kt [] _ _ h3 (by simp)) (by simp), ?_, ?_, ?_⟩⟩⟩
          · simp only [List.length_map, List.length_replicate]
            exact small1000 (by omega)
          · rw [upd_same, rep_snoc]
          · exact ((k3.trans (kt [])).trans k5).own hp
        · rintro H3 ⟨h3, k3⟩
          refine ⟨p, _, rfl, SqL.of h3, ?_⟩
          rw [rep_all]
          exact q _ ((k0 []).trans k3)
      cases g2 with
      | @lst k' a2 x2 ds e2 n2 l2 t2 =>
        cases g1 with
        | @lst _ a1 x1 _ e1 n1 l1 t1 =>
        refine iteT ?_
        refine ⟨_, rfl, _, _, _, _, _, rfl, .ty _, isi1, kk1.1, _, rfl, _, _, _, _, _, rfl, .ty _, isi2, kk2.1, rfl, _, rfl, iteF ?_⟩
        refine ⟨_, rfl, _, _, _, _, _, rfl, .ty _, isi1, kk1.2.1, _, rfl, _, _, _, _, _, rfl, .ty _, isi2, kk2.2.1, rfl, _, rfl, iteF ?_⟩
        refine ⟨_, rfl, _, ds.length, rfl, .inl ⟨_, SqL.of e1, (DA.len t1).symm⟩, _, rfl, _, ds.length, rfl, .inl ⟨_, SqL.of e2, (DA.len t2).symm⟩, rfl, _, rfl, iteC (by simp) ?_⟩
        exact ⟨_, rfl, _, rfl, a1, a2, true, true, x1, x2, rfl, SqL.of e1, SqL.of e2, seqs true a1 a2 x1 x2 ds k' (SqL.of e1) (SqL.of e2) t1 t2 (fun H' k3 => ⟨SqL.of (k3 _ _ e1 (by simp)), SqL.of (k3 _ _ e2 (by simp))⟩) l1 (by omega)⟩
      | @tup k' a2 x2 ds e2 n2 l2 t2 =>
        cases g1 with
        | @tup _ a1 x1 _ e1 n1 l1 t1 =>
        refine iteT ?_
        refine ⟨_, rfl, _, _, _, _, _, rfl, .ty _, isi1, kk1.1, _, rfl, _, _, _, _, _, rfl, .ty _, isi2, kk2.1, rfl, _, rfl, iteF ?_⟩
        refine ⟨_, rfl, _, _, _, _, _, rfl, .ty _, isi1, kk1.2.1, _, rfl, _, _, _, _, _, rfl, .ty _, isi2, kk2.2.1, rfl, _, rfl, iteF ?_⟩
        refine ⟨_, rfl, _, ds.length, rfl, .inr ⟨_, SqT.of e1, (DA.len t1).symm⟩, _, rfl, _, ds.length, rfl, .inr ⟨_, SqT.of e2, (DA.len t2).symm⟩, rfl, _, rfl, iteC (by simp) ?_⟩
        exact ⟨_, rfl, _, rfl, a1, a2, false, false, x1, x2, rfl, SqT.of e1, SqT.of e2, seqs false a1 a2 x1 x2 ds k' (SqT.of e1) (SqT.of e2) t1 t2 (fun H' k3 => ⟨SqT.of (k3 _ _ e1 (by simp)), SqT.of (k3 _ _ e2 (by simp))⟩) l1 (by omega)⟩
      | non =>
        cases g1
        refine iteF ⟨_, rfl, rfl, _, rfl, iteT (iteT ?_)⟩
        refine ⟨_, rfl, _, rfl, rfl, _, rfl, iteC (by simp) ?_⟩
        refine ⟨_, rfl, _, _, _, _, _, rfl, .ty _, isi1, kk1.2.2.1, _, rfl, _, _, _, _, _, rfl, .ty _, isi2, kk2.2.2.1, rfl, ?_⟩
        exact q _ (k0 [])
      | str y hy =>
        cases g1
        refine iteF ⟨_, rfl, rfl, _, rfl, iteF ⟨_, rfl, _, _, _, _, _, rfl, .ty _, isi2, kk2.2.2.1, _, rfl, iteT ?_⟩⟩
        refine ⟨_, rfl, _, rfl, rfl, _, rfl, iteC (by simp) ?_⟩
        refine ⟨_, rfl, _, _, _, _, _, rfl, .ty _, isi1, kk1.2.2.1, _, rfl, _, _, _, _, _, rfl, .ty _, isi2, kk2.2.2.1, rfl, ?_⟩
        exact q _ (k0 [])
      | int i hi =>
        cases g1
        refine iteF ⟨_, rfl, rfl, _, rfl, iteF ⟨_, rfl, _, _, _, _, _, rfl, .ty _, isi2, kk2.2.2.1, _, rfl, iteF ?_⟩⟩
        refine ⟨_, rfl, _, _, _, _, _, rfl, .ty _, isi1, kk1.2.2.2.1, _, rfl, iteT ?_⟩
        refine ⟨_, rfl, _, _, _, _, _, rfl, .ty _, isi1, kk1.2.2.2.2, _, rfl, _, _, _, _, _, rfl, .ty _, isi2, kk2.2.2.2.2, rfl, _, rfl, iteT ?_⟩
        refine ⟨_, rfl, _, rfl, rfl, ?_⟩
        rw [decide_eq_true rfl]
        exact q _ (k0 [])
      | bl b =>
        cases g1
        refine iteF ⟨_, rfl, rfl, _, rfl, iteF ⟨_, rfl, _, _, _, _, _, rfl, .ty _, isi2, kk2.2.2.1, _, rfl, iteF ?_⟩⟩
        refine ⟨_, rfl, _, _, _, _, _, rfl, .ty _, isi1, kk1.2.2.2.1, _, rfl, iteT ?_⟩
        refine ⟨_, rfl, _, _, _, _, _, rfl, .ty _, isi1, kk1.2.2.2.2, _, rfl, _, _, _, _, _, rfl, .ty _, isi2, kk2.2.2.2.2, rfl, _, rfl, iteT ?_⟩
        refine ⟨_, rfl, _, rfl, rfl, ?_⟩
        rw [decide_eq_true rfl]
        exact q _ (k0 [])

end
end Sw

set_option maxHeartbeats 2000000
namespace Sw
open PySem PySem.Spec PyProof.Rows L2
section
variable {P : Program} {w : World} {K : PySem.W.Frag} {mg : Str → Option Value} {base : Heap}
theorem for_seq {H1 : Hp} {a : Addr} {kd : Bool} {xs : List V} {g : TG} {tb : TS} {D : Ends} {σ : L2.St} (h : H1 a = some (sqo kd xs)) (Pv : Nat → L2.St → Hp → Prop) (h0 : Pv 0 σ H1) (hG : ∀ i σ H, Pv i σ H → H a = some (sqo kd xs))
    (hs : ∀ i x σ H, xs[i]? = some x → Pv i σ H → g x σ H fun σ2 H2 => tb { D with nx := Pv (i + 1), ct := Pv (i + 1), bk := D.nx } σ2 H2) (hd : ∀ σ H, Pv xs.length σ H → D.nx σ H) :
    ((∃ xs, SqL K H1 a xs) ∧ ∃ W : Nat → Nat → L2.St → Hp → Prop, (∃ m, W 0 m σ H1) ∧ ∀ i m σ H, W i m σ H →
      ((Itl K a).stop i H ∧ D.nx σ H) ∨ ((Itl K a).go i H ∧ ∃ N : L2.St → Hp → Prop, (∀ σ' H', N σ' H' → ∃ m', m' < m ∧ W (i + 1) m' σ' H') ∧ ∀ x H', (Itl K a).yld i H x H' → g x σ H' fun σ2 H2 => tb { D with nx := N, ct := N, bk := D.nx } σ2 H2)) ∨
    ((∃ xs, SqT K H1 a xs) ∧ ∃ W : Nat → Nat → L2.St → Hp → Prop, (∃ m, W 0 m σ H1) ∧ ∀ i m σ H, W i m σ H →
      ((Itt K a).stop i H ∧ D.nx σ H) ∨ ((Itt K a).go i H ∧ ∃ N : L2.St → Hp → Prop, (∀ σ' H', N σ' H' → ∃ m', m' < m ∧ W (i + 1) m' σ' H') ∧ ∀ x H', (Itt K a).yld i H x H' → g x σ H' fun σ2 H2 => tb { D with nx := N, ct := N, bk := D.nx } σ2 H2)) := by
  cases kd
  · exact .inr ⟨⟨_, SqT.of h⟩, for_tup (K := K) (a := a) (xs := xs) Pv h0 (fun i σ H _ q => SqT.of (hG i σ H q)) hs hd⟩
  · exact .inl ⟨⟨_, SqL.of h⟩, for_list (K := K) (a := a) (xs := xs) Pv h0 (fun i σ H _ q => SqL.of (hG i σ H q)) hs hd⟩
/-- all but lists outside cs stay -/
def Kq (cs : List Addr) (H H' : Hp) : Prop := ∀ c o, H c = some o → (c ∈ cs ∨ ∀ xs, o ≠ .lst xs) → H' c = some o
theorem Kq.trans {cs : List Addr} {H H1 H2 : Hp} (x : Kq cs H H1) (y : Kq cs H1 H2) : Kq cs H H2 := fun c o e m => y c o (x c o e m) m
theorem Kq.ofKp {cs : List Addr} {H H1 : Hp} (x : Kp [] H H1) : Kq cs H H1 := fun c o e _ => x c o e (by simp)
theorem Kq.less {cs bs : List Addr} {H H1 : Hp} (x : Kq cs H H1) (s : ∀ a, a ∈ bs → a ∈ cs) : Kq bs H H1 := fun c o e m => x c o e (m.elim (fun z => .inl (s c z)) .inr)
/-- lists of numbers grow by one at most -/
def Gr (H H' : Hp) : Prop := ∀ c kd (ms : List Int), H c = some (sqo kd (ms.map V.int)) → ∃ ms' : List Int, H' c = some (sqo kd (ms'.map V.int)) ∧ ms'.length ≤ ms.length + 1
theorem Gr.ofKp {H H1 : Hp} (x : Kp [] H H1) : Gr H H1 := fun c kd ms e => ⟨ms, x c _ e (by simp), Nat.le_succ _⟩
def sp_sp0 : Sp := fun vs H Q _ => ∃ i : Int, vs = [.int i] ∧ ∀ H', Kp [] H H' → Q .non H'
theorem ok_sp0 (T : Tx K mg) : FnOk P w K mg base CX0 2 (He.fAd K ("_law_spoilt", none)) T.fd__law_spoilt p__law_spoilt sp_sp0 := by
  have G__law_spoilt : FnOk P w K mg base CX0 1 (He.fAd K ("_law_spoilt", none)) T.fd__law_spoilt p__law_spoilt (fun _ _ _ _ => False) := by
    refine T.F__law_spoilt.ok sc__law_spoilt (fun vs H Q E h => h.elim) (fun cdv A outer s H vs Q E hr h => h.elim)
  refine T.F__law_spoilt.ok sc__law_spoilt (fun vs H Q E h => ?_) (fun cdv A outer s H vs Q E hr h => ?_)
  · obtain ⟨_, rfl, _⟩ := h
    rfl
  · obtain ⟨i, rfl, q⟩ := h
    refine ⟨_, PSs.nox (pss_cons (ps_if (pt_val (pe_callB call_isiT (by rfl) T.b_isinstance (by decide +kernel) (pa_cons (pv 0) (pa_cons (pe_tup (pa_cons (pe_bltn (v := .ty "list") (by rfl) T.b_list (by decide +kernel) rfl) (pa_cons (pe_bltn (v := .ty "tuple") (by rfl) T.b_tuple (by decide +kernel) rfl) pa_nil))) pa_nil))))
      (pss_one (ps_for PassesOwn.never rfl (pi_seq (pv 0)) (pg_name (i := 1) sc__law_spoilt.nd rfl (by first | exact Or.inl rfl | exact Or.inr rfl))
      (pss_one (ps_expr (pe_call G__law_spoilt hr rfl T.g__law_spoilt T.F__law_spoilt.kp T.bd__law_spoilt .nil pass0 (pa_cons (pv 1) pa_nil))))))
      pss_nil)
      (pss_one (ps_if (pt_val (pe_callB call_isi (by rfl) T.b_isinstance (by decide +kernel) (pa_cons (pv 0) (pa_cons (pe_bltn (v := .ty "list") (by rfl) T.b_list (by decide +kernel) rfl) pa_nil))))
      (pss_one (ps_expr (pe_bm PySem.F.plainAttrs_list PySem.F.slot_list_append PySem.F.type_list_append mt_append (pv 0) (pa_cons pe_int pa_nil))))
      pss_nil))), ?_⟩
    refine ⟨_, rfl, by show 2 ≤ sizeLine; decide, fun t ht => ?_⟩
    refine ⟨_, t, _, _, [.type "list", .type "tuple"], false, rfl, upd_same, tyLT, .base (.int i), kitAny_cons (kit_ty (r := false) (by decide +kernel)) (fun _ => kitAny_cons (kit_ty (r := false) (by decide +kernel)) (fun _ => kitAny_nil) (fun z => nomatch z)) (fun z => nomatch z), _, rfl, iteF ?_⟩
    refine ⟨_, rfl, _, _, _, _, false, rfl, .ty _, .base (.int i), kit_ty (by decide +kernel), _, rfl, iteF ?_⟩
    exact q _ (Kp.rfl'.new ht)
theorem ty_sqo {H : Hp} {a : Addr} {kd : Bool} {xs : List V} (h : H a = some (sqo kd xs)) : ∃ n : String, TyX K H (.ref a) (.type n) ∧ PySem.W.kitAny K (.type n) [.type "list", .type "tuple"] = some true ∧ PySem.W.kitOne K (.type n) (.type "list") = some kd := by
  cases kd
  · exact ⟨"tuple", .base (.tup h), kitAny_cons (kit_ty (r := false) (by decide +kernel)) (fun _ => kitAny_cons (kit_ty (r := true) (by decide +kernel)) (fun z => nomatch z) (fun _ => rfl)) (fun z => nomatch z), kit_ty (by decide +kernel)⟩
  · exact ⟨"list", .base (.lst h), kitAny_cons (kit_ty (r := true) (by decide +kernel)) (fun z => nomatch z) (fun _ => rfl), kit_ty (by decide +kernel)⟩
def sp_sp1 : Sp := fun vs H Q _ => ∃ (a : Addr) (kd : Bool) (ns : List Int) (cs : List Addr), vs = [.ref a] ∧ H a = some (sqo kd (ns.map V.int)) ∧ a ∉ cs ∧ ns.length ≤ 900 ∧ ∀ H', Kq cs H H' → Gr H H' → Q .non H'
theorem ok_sp1 (T : Tx K mg) : FnOk P w K mg base CX0 3 (He.fAd K ("_law_spoilt", none)) T.fd__law_spoilt p__law_spoilt sp_sp1 := by
  have G__law_spoilt := ok_sp0 (P := P) (w := w) (base := base) T
  refine T.F__law_spoilt.ok sc__law_spoilt (fun vs H Q E h => ?_) (fun cdv A outer s H vs Q E hr h => ?_)
  · obtain ⟨_, _, _, _, rfl, _⟩ := h
    rfl
  · obtain ⟨a, kd, ns, cs, rfl, ha, na, l9, q⟩ := h
    refine ⟨_, PSs.nox (pss_cons (ps_if (pt_val (pe_callB call_isiT (by rfl) T.b_isinstance (by decide +kernel) (pa_cons (pv 0) (pa_cons (pe_tup (pa_cons (pe_bltn (v := .ty "list") (by rfl) T.b_list (by decide +kernel) rfl) (pa_cons (pe_bltn (v := .ty "tuple") (by rfl) T.b_tuple (by decide +kernel) rfl) pa_nil))) pa_nil))))
      (pss_one (ps_for PassesOwn.never rfl (pi_seq (pv 0)) (pg_name (i := 1) sc__law_spoilt.nd rfl (by first | exact Or.inl rfl | exact Or.inr rfl))
      (pss_one (ps_expr (pe_call G__law_spoilt hr rfl T.g__law_spoilt T.F__law_spoilt.kp T.bd__law_spoilt .nil pass0 (pa_cons (pv 1) pa_nil))))))
      pss_nil)
      (pss_one (ps_if (pt_val (pe_callB call_isi (by rfl) T.b_isinstance (by decide +kernel) (pa_cons (pv 0) (pa_cons (pe_bltn (v := .ty "list") (by rfl) T.b_list (by decide +kernel) rfl) pa_nil))))
      (pss_one (ps_expr (pe_bm PySem.F.plainAttrs_list PySem.F.slot_list_append PySem.F.type_list_append mt_append (pv 0) (pa_cons pe_int pa_nil))))
      pss_nil))), ?_⟩
    refine ⟨_, rfl, by show 2 ≤ sizeLine; decide, fun t ht => ?_⟩
    have k1 : ∀ cs, Kp cs H (upd H t (.tup [.ty "list", .ty "tuple"])) := fun cs => Kp.rfl'.new ht
    have ha1 := k1 [] _ _ ha (by simp)
    have gt : (upd H t (.tup [.ty "list", .ty "tuple"])) t = some (.tup [.ty "list", .ty "tuple"]) := upd_same
    generalize upd H t (.tup [.ty "list", .ty "tuple"]) = H1 at k1 ha1 gt ⊢
    obtain ⟨nm, tx, kq, _⟩ := ty_sqo (K := K) ha1
    refine ⟨_, t, _, _, [.type "list", .type "tuple"], true, rfl, gt, tyLT, tx, kq, _, rfl, iteT ?_⟩
    refine ⟨_, rfl, a, rfl, for_seq ha1 (fun j σ H3 => ∃ o1 : Option V, σ = [some (.ref a), o1] ∧ Kp [] H1 H3) ⟨none, rfl, Kp.rfl'⟩ (fun j σ H3 ⟨_, _, k3⟩ => k3 _ _ ha1 (by simp)) ?_ ?_⟩
    · rintro j y σ H3 hj ⟨o1, rfl, k3⟩
      rw [List.getElem?_map] at hj
      obtain ⟨z, hz, rfl⟩ := Option.map_eq_some_iff.mp hj
      exact ⟨_, rfl, z, rfl, fun H4 k4 => ⟨_, rfl, k3.trans k4⟩⟩
    · rintro σ H3 ⟨o1, rfl, k3⟩
      have k03 : Kp [] H H3 := (k1 []).trans k3
      have ha3 := k3 _ _ ha1 (by simp)
      obtain ⟨nm3, tx3, _, kl3⟩ := ty_sqo (K := K) ha3
      refine ⟨_, rfl, _, _, _, _, kd, rfl, .ty _, tx3, kl3, _, rfl, ?_⟩
      cases kd with
      | false => exact iteF (q _ (Kq.ofKp k03) (Gr.ofKp k03))
      | true =>
        refine iteT ⟨_, rfl, .inl ⟨rfl, _, SqL.of ha3⟩, a, _, _, rfl, rfl, ha3, by rw [List.length_map]; exact small1000 (by omega), ?_⟩
        refine q _ (fun c o e m => ?_) fun c kd ms e => ?_
        · by_cases z : c = a
          · subst z
            rw [ha] at e
            cases e
            exact m.elim (fun y => absurd y na) fun y => absurd rfl (y _)
          · rw [upd_ne z]
            exact k03 _ _ e (by simp)
        · by_cases z : c = a
          · subst z
            rw [ha] at e
            cases kd with
            | false => cases e
            | true =>
              have e2 : ns.map V.int = ms.map V.int := HO.lst.inj (Option.some.inj e)
              refine ⟨ns ++ [7], by rw [upd_same, ints_snoc]; rfl, ?_⟩
              have := congrArg List.length e2
              simp at this
              simp
              omega
          · exact ⟨ms, by rw [upd_ne z]; exact k03 _ _ e (by simp), Nat.le_succ _⟩
def sp_sp2 : Sp := fun vs H Q _ => ∃ (a : Addr) (kd : Bool) (xs : List V) (cs : List Addr), vs = [.ref a] ∧ H a = some (sqo kd xs) ∧ a ∉ cs ∧ xs.length ≤ 100 ∧ (∀ y ∈ xs, ∃ ns, I1 (a :: cs) H y ns ∧ ns.length ≤ 100) ∧ ∀ H', Kq cs H H' → Q .non H'
theorem ok_sp2 (T : Tx K mg) : FnOk P w K mg base CX0 4 (He.fAd K ("_law_spoilt", none)) T.fd__law_spoilt p__law_spoilt sp_sp2 := by
  have G__law_spoilt := ok_sp1 (P := P) (w := w) (base := base) T
  refine T.F__law_spoilt.ok sc__law_spoilt (fun vs H Q E h => ?_) (fun cdv A outer s H vs Q E hr h => ?_)
  · obtain ⟨_, _, _, _, rfl, _⟩ := h
    rfl
  · obtain ⟨a, kd, xs, cs, rfl, ha, na, l1, hy, q⟩ := h
    refine ⟨_, PSs.nox (pss_cons (ps_if (pt_val (pe_callB call_isiT (by rfl) T.b_isinstance (by decide +kernel) (pa_cons (pv 0) (pa_cons (pe_tup (pa_cons (pe_bltn (v := .ty "list") (by rfl) T.b_list (by decide +kernel) rfl) (pa_cons (pe_bltn (v := .ty "tuple") (by rfl) T.b_tuple (by decide +kernel) rfl) pa_nil))) pa_nil))))
      (pss_one (ps_for PassesOwn.never rfl (pi_seq (pv 0)) (pg_name (i := 1) sc__law_spoilt.nd rfl (by first | exact Or.inl rfl | exact Or.inr rfl))
      (pss_one (ps_expr (pe_call G__law_spoilt hr rfl T.g__law_spoilt T.F__law_spoilt.kp T.bd__law_spoilt .nil pass0 (pa_cons (pv 1) pa_nil))))))
      pss_nil)
      (pss_one (ps_if (pt_val (pe_callB call_isi (by rfl) T.b_isinstance (by decide +kernel) (pa_cons (pv 0) (pa_cons (pe_bltn (v := .ty "list") (by rfl) T.b_list (by decide +kernel) rfl) pa_nil))))
      (pss_one (ps_expr (pe_bm PySem.F.plainAttrs_list PySem.F.slot_list_append PySem.F.type_list_append mt_append (pv 0) (pa_cons pe_int pa_nil))))
      pss_nil))), ?_⟩
    refine ⟨_, rfl, by show 2 ≤ sizeLine; decide, fun t ht => ?_⟩
    have k1 : ∀ cs, Kp cs H (upd H t (.tup [.ty "list", .ty "tuple"])) := fun cs => Kp.rfl'.new ht
    have ha1 := k1 [] _ _ ha (by simp)
    have gt : (upd H t (.tup [.ty "list", .ty "tuple"])) t = some (.tup [.ty "list", .ty "tuple"]) := upd_same
    generalize upd H t (.tup [.ty "list", .ty "tuple"]) = H1 at k1 ha1 gt ⊢
    obtain ⟨nm, tx, kq, _⟩ := ty_sqo (K := K) ha1
    refine ⟨_, t, _, _, [.type "list", .type "tuple"], true, rfl, gt, tyLT, tx, kq, _, rfl, iteT ?_⟩
    refine ⟨_, rfl, a, rfl, for_seq ha1 (fun j σ H3 => ∃ o1 : Option V, σ = [some (.ref a), o1] ∧ H3 a = some (sqo kd xs) ∧ (∀ y ∈ xs, ∃ ns, I1 (a :: cs) H3 y ns ∧ ns.length ≤ 100 + j) ∧ Kq (a :: cs) H1 H3) ⟨none, rfl, ha1, fun y hm => ?_, Kq.ofKp Kp.rfl'⟩ (fun j σ H3 ⟨_, _, h, _⟩ => h) ?_ ?_⟩
    · obtain ⟨ns, h, l⟩ := hy y hm
      exact ⟨ns, h.keep (k1 []) (by simp), l⟩
    · rintro j y σ H3 hj ⟨o1, rfl, h3, hy3, k3⟩
      have hjl := (List.getElem?_eq_some_iff.mp hj).1
      obtain ⟨ns, h, l⟩ := hy3 y (List.mem_of_getElem? hj)
      obtain ⟨c, kdc, rfl, hc, nc⟩ := h.ex
      refine ⟨_, rfl, c, kdc, ns, a :: cs, rfl, hc, nc, by omega, fun H4 k4 g4 => ⟨_, rfl, k4 _ _ h3 (.inl (by simp)), fun u hu => ?_, k3.trans k4⟩⟩
      obtain ⟨ms, hm, lm⟩ := hy3 u hu
      obtain ⟨e, kde, rfl, he, ne⟩ := hm.ex
      obtain ⟨ms', he', lm'⟩ := g4 e kde ms he
      exact ⟨ms', ⟨e, kde, rfl, he', ne⟩, by omega⟩
    · rintro σ H3 ⟨o1, rfl, ha3, _, k3⟩
      have k03 : Kq (a :: cs) H H3 := (Kq.ofKp (k1 [])).trans k3
      obtain ⟨nm3, tx3, _, kl3⟩ := ty_sqo (K := K) ha3
      refine ⟨_, rfl, _, _, _, _, kd, rfl, .ty _, tx3, kl3, _, rfl, ?_⟩
      have sub1 : ∀ c, c ∈ cs → c ∈ a :: cs := fun c h => List.mem_cons_of_mem _ h
      cases kd with
      | false => exact iteF (q _ (k03.less sub1))
      | true =>
        refine iteT ⟨_, rfl, .inl ⟨rfl, _, SqL.of ha3⟩, a, _, _, rfl, rfl, ha3, small1000 (by omega), ?_⟩
        refine q _ (fun c o e m => ?_)
        by_cases z : c = a
        · subst z
          rw [ha] at e
          cases e
          exact m.elim (fun y => absurd y na) fun y => absurd rfl (y _)
        · rw [upd_ne z]
          exact k03 _ _ e (m.elim (fun y => .inl (sub1 c y)) .inr)

end
end Sw

set_option maxHeartbeats 2000000
namespace Sw
open PySem PySem.Spec PyProof.Rows L2
section
variable {P : Program} {w : World} {K : PySem.W.Frag} {mg : Str → Option Value} {base : Heap}

/-- what a hall of these tells -/
abbrev toldD (rows steps : List (List Int)) (ws : List Int) : PyData := .list [dTT rows, dTT steps, dT ws, dT (topsOf steps)]
theorem rowsD_of {rows : List (List Int)} : RowsD (dII rows) rows := ⟨true, rows.map dI, rfl, by simp, fun i e r he hr => by
  rw [List.getElem?_map, hr] at he
  cases he
  exact ⟨true, rfl⟩⟩
theorem intsD_of {ns : List Int} : IntsD (dI ns) ns := ⟨true, rfl⟩
theorem D.lrows {bs : List Addr} {H : Hp} {w k : Nat} {v : V} {rows : List (List Int)} (x : D bs H w k v (dII rows)) : ∃ a xs, v = .ref a ∧ H a = some (.lst xs) ∧ a ∉ bs ∧ xs.length = rows.length ∧ xs.length ≤ w ∧
    ∀ (i : Nat) (y : V), xs[i]? = some y → ∃ r e k', rows[i]? = some r ∧ IntsD e r ∧ D bs H w k' y e ∧ k' + 1 = k := by
  obtain ⟨a, kd, xs, e, ha, na, lx, lw, al⟩ := x.rows rowsD_of
  cases x with
  | lst h n l t =>
    cases e
    cases kd with
    | true => exact ⟨_, xs, rfl, ha, na, lx, lw, al⟩
    | false =>
      rw [h] at ha
      cases ha
def sp_due : Sp := fun vs H Q _ => ∃ (t p s wa : Addr) (rows steps : List (List Int)) (ws : List Int) (cs bs : List Addr), vs = [.ref t] ∧ H t = some (.tup [.ref p, .ref s, .ref wa]) ∧ D cs H 12 2 (.ref p) (dII rows) ∧ D cs H 12 2 (.ref s) (dII steps) ∧ D cs H 12 1 (.ref wa) (dI ws) ∧
  (∀ b ∈ bs, ∃ o, H b = some o) ∧ (∀ b ∈ bs, b ∈ cs) ∧ ∀ (q : Addr) (H' : Hp), H q = none → Kp [] H H' → D bs H' 12 3 (.ref q) (toldD rows steps ws) → Q (.ref q) H'
theorem ok_due (T : Tx K mg) : FnOk P w K mg base CX0 1 (He.fAd K ("_law_due", none)) T.fd__law_due p__law_due sp_due := by
  refine T.F__law_due.ok sc__law_due (fun vs H Q E h => ?_) (fun cdv A outer s H vs Q E hr h => ?_)
  · obtain ⟨_, _, _, _, _, _, _, _, _, rfl, _⟩ := h
    rfl
  · obtain ⟨t, p, sa, wa, rows, steps, ws, cs, bs, rfl, ht, dP, dS, dW, hbs, hsub, q⟩ := h
    refine ⟨_, PSs.nox (pss_cons (ps_asg (pv 0) (pg_tup rfl (pgs_cons (pg_name (i := 2) sc__law_due.nd rfl (by first | exact Or.inl rfl | exact Or.inr rfl)) (pgs_cons (pg_name (i := 3) sc__law_due.nd rfl (by first | exact Or.inl rfl | exact Or.inr rfl)) (pgs_cons (pg_name (i := 4) sc__law_due.nd rfl (by first | exact Or.inl rfl | exact Or.inr rfl)) pgs_nil)))))
      (pss_cons (ps_set (i := 1) sc__law_due.nd rfl (by first | exact Or.inl rfl | exact Or.inr rfl) (pe_lst (pa_cons (pe_callTy call_tuple_of (by rfl) T.b_tuple (by decide +kernel) (pa_cons (pe_lc (own := [("_law_row", 5)]) (g := (gName 5)) (tt := tYes) rfl sc__law_due.nd (pi_list (pv 2)) (blkOk_by (own := [("_law_row", 5)]) (N := n__law_due) (sc := defScope s__law_due) (by decide +kernel)) (fun _ _ _ _ _ => (pg_name (i := 5) sc__law_due.nd rfl (by first | exact Or.inl rfl | exact Or.inr rfl))) (fun _ _ _ _ _ => pts_nil) (fun _ _ _ _ _ => (pe_callTy (kTup (K := K) rfl) (by rfl) T.b_tuple (by decide +kernel) (pa_cons (pv 5) pa_nil)))) pa_nil)) (pa_cons (pe_callTy call_tuple_of (by rfl) T.b_tuple (by decide +kernel) (pa_cons (pe_lc (own := [("_law_some", 6)]) (g := (gName 6)) (tt := tYes) rfl sc__law_due.nd (pi_list (pv 3)) (blkOk_by (own := [("_law_some", 6)]) (N := n__law_due) (sc := defScope s__law_due) (by decide +kernel)) (fun _ _ _ _ _ => (pg_name (i := 6) sc__law_due.nd rfl (by first | exact Or.inl rfl | exact Or.inr rfl))) (fun _ _ _ _ _ => pts_nil) (fun _ _ _ _ _ => (pe_callTy (kTup (K := K) rfl) (by rfl) T.b_tuple (by decide +kernel) (pa_cons (pv 6) pa_nil)))) pa_nil)) (pa_cons (pe_callTy call_tuple_of (by rfl) T.b_tuple (by decide +kernel) (pa_cons (pv 4) pa_nil)) pa_nil)))))
      (pss_one (ps_ret (pe_op op_cat (pv 1) (pe_lst (pa_cons (pe_callTy call_tuple_of (by rfl) T.b_tuple (by decide +kernel) (pa_cons (pe_lc (own := [("_law_some", 6)]) (g := (gName 6)) (tt := tYes) rfl sc__law_due.nd (pi_list (pv 3)) (blkOk_by (own := [("_law_some", 6)]) (N := n__law_due) (sc := defScope s__law_due) (by decide +kernel)) (fun _ _ _ _ _ => (pg_name (i := 6) sc__law_due.nd rfl (by first | exact Or.inl rfl | exact Or.inr rfl))) (fun _ _ _ _ _ => pts_nil) (fun _ _ _ _ _ => (pe_callB (kLen (K := K) rfl) (by rfl) T.b_len (by decide +kernel) (pa_cons (pv 6) pa_nil)))) pa_nil)) pa_nil))))))), ?_⟩
    refine ⟨_, rfl, t, _, rfl, SqT.of ht, rfl, _, _, rfl, _, _, rfl, _, _, rfl, rfl, ?_⟩
    obtain ⟨p', xp, ep, hp0, np, lp, lpw, alp⟩ := dP.lrows
    cases ep
    have k00 : Kp [] H H := Kp.rfl'
    refine ⟨_, rfl, p, rfl, ⟨_, SqL.of hp0⟩, fun c1 hc1 => lc_list (K := K) (a := p) (xs := xp) (fun j H3 => ∃ ys, H3 c1 = some (.lst ys) ∧ DA (c1 :: bs) H3 12 1 ys ((rows.take j).map dT) ∧ Kp [] H H3) ?_ ?_ ?_ ?_⟩
    · exact ⟨[], upd_same, .nil, Kp.rfl'.new hc1⟩
    · rintro j H3 _ ⟨_, _, _, k3⟩
      exact SqL.of (k3 _ _ hp0 (by simp))
    · rintro j y H3 hj ⟨ys, h3, d3, k3⟩
      obtain ⟨r, e, k', hr2, hI, hDy, _⟩ := alp j y hj
      have hjl := (List.getElem?_eq_some_iff.mp hj).1
      obtain ⟨ra, kd2, rfl, hRa, nRa, lr, sm⟩ := hDy.ints hI
      have hRa3 := k3 _ _ hRa (by simp)
      have len3 : ys.length < sizeLine := by
        rw [DA.len d3, List.length_map, List.length_take]
        exact small1000 (by omega)
      have last : ∀ (l : Addr) (H4 : Hp), H4 l = some (.tup (r.map V.int)) → l ∉ c1 :: bs → (∀ cs, Kp cs H3 H4) → DA (c1 :: bs) (upd H4 c1 (.lst (ys ++ [.ref l]))) 12 1 (ys ++ [.ref l]) ((rows.take (j + 1)).map dT) := fun l H4 hl nl k4 => by
        have k5 : Kp (c1 :: bs) H4 (upd H4 c1 (.lst (ys ++ [.ref l]))) := Kp.rfl'.put (by simp)
        rw [List.take_add_one, hr2, List.map_append]
        exact ((d3.keep (k4 _)).keep k5).app (DA.one ((D.tup (k := 0) hl nl (by simpa using lr) (DA.ofInts sm)).keep k5))
      cases kd2 with
      | true =>
        refine ⟨rfl, yesT ⟨_, rfl, ra, _, rfl, .inl ⟨SqL.of hRa3, fun l hl => ?_⟩⟩⟩
        have nlp : l ≠ c1 := (ne_of_none h3 hl).symm
        have k4 : ∀ cs, Kp cs H3 (upd H3 l (.tup (r.map V.int))) := fun cs => Kp.rfl'.new hl
        refine ⟨ys, (k4 [] _ _ h3 (by simp)), len3, ys ++ [.ref l], upd_same, last l _ upd_same (fun m => ?_) k4, (k3.new hl).own hc1⟩
        rcases List.mem_cons.mp m with z | z
        · exact nlp z
        · exact away hbs (k00.trans k3) hl z
      | false =>
        refine ⟨rfl, yesT ⟨_, rfl, ra, _, rfl, .inr ⟨SqT.of hRa3, ?_⟩⟩⟩
        refine ⟨ys, h3, len3, ys ++ [.ref ra], upd_same, last ra H3 hRa3 (fun m => ?_) (fun _ => Kp.rfl'), k3.own hc1⟩
        rcases List.mem_cons.mp m with z | z
        · rw [z, hc1] at hRa
          cases hRa
        · exact nRa (hsub ra z)
    rintro H3c ⟨ys, h3, d3, k3⟩
    rw [lp, List.take_length] at d3
    refine ⟨c1, ys, rfl, .inl ⟨SqL.of h3, fun la1 hla1 => ?_⟩⟩
    have k4 : ∀ cs, Kp cs H3c (upd H3c la1 (.tup ys)) := fun cs => Kp.rfl'.new hla1
    have dA1 : D bs (upd H3c la1 (.tup ys)) 12 2 (.ref la1) (dTT rows) := .tup upd_same (away hbs (k00.trans k3) hla1) (by rw [DA.len d3, List.length_map]; omega) ((d3.less (by simp +contextual)).keep (k4 _))
    have kA1 : Kp [] H (upd H3c la1 (.tup ys)) := (k00.trans k3).trans (k4 [])
    clear d3 h3 k3
    generalize upd H3c la1 (.tup ys) = Gh1 at dA1 kA1 k4 ⊢
    clear k4

    have dS1 := dS.keep (kA1.sub (by simp))
    obtain ⟨s', xs', es, hs0, ns, ls, lsw, als⟩ := dS1.lrows
    cases es
    refine ⟨_, rfl, sa, rfl, ⟨_, SqL.of hs0⟩, fun c2 hc2 => lc_list (K := K) (a := sa) (xs := xs') (fun j H3 => ∃ ys, H3 c2 = some (.lst ys) ∧ DA (c2 :: bs) H3 12 1 ys ((steps.take j).map dT) ∧ Kp [] Gh1 H3) ?_ ?_ ?_ ?_⟩
    · exact ⟨[], upd_same, .nil, Kp.rfl'.new hc2⟩
    · rintro j H3 _ ⟨_, _, _, k3⟩
      exact SqL.of (k3 _ _ hs0 (by simp))
    · rintro j y H3 hj ⟨ys, h3, d3, k3⟩
      obtain ⟨r, e, k', hr2, hI, hDy, _⟩ := als j y hj
      have hjl := (List.getElem?_eq_some_iff.mp hj).1
      obtain ⟨ra, kd2, rfl, hRa, nRa, lr, sm⟩ := hDy.ints hI
      have hRa3 := k3 _ _ hRa (by simp)
      have len3 : ys.length < sizeLine := by
        rw [DA.len d3, List.length_map, List.length_take]
        exact small1000 (by omega)
      have last : ∀ (l : Addr) (H4 : Hp), H4 l = some (.tup (r.map V.int)) → l ∉ c2 :: bs → (∀ cs, Kp cs H3 H4) → DA (c2 :: bs) (upd H4 c2 (.lst (ys ++ [.ref l]))) 12 1 (ys ++ [.ref l]) ((steps.take (j + 1)).map dT) := fun l H4 hl nl k4 => by
        have k5 : Kp (c2 :: bs) H4 (upd H4 c2 (.lst (ys ++ [.ref l]))) := Kp.rfl'.put (by simp)
        rw [List.take_add_one, hr2, List.map_append]
        exact ((d3.keep (k4 _)).keep k5).app (DA.one ((D.tup (k := 0) hl nl (by simpa using lr) (DA.ofInts sm)).keep k5))
      cases kd2 with
      | true =>
        refine ⟨rfl, yesT ⟨_, rfl, ra, _, rfl, .inl ⟨SqL.of hRa3, fun l hl => ?_⟩⟩⟩
        have nlp : l ≠ c2 := (ne_of_none h3 hl).symm
        have k4 : ∀ cs, Kp cs H3 (upd H3 l (.tup (r.map V.int))) := fun cs => Kp.rfl'.new hl
        refine ⟨ys, (k4 [] _ _ h3 (by simp)), len3, ys ++ [.ref l], upd_same, last l _ upd_same (fun m => ?_) k4, (k3.new hl).own hc2⟩
        rcases List.mem_cons.mp m with z | z
        · exact nlp z
        · exact away hbs (kA1.trans k3) hl z
      | false =>
        refine ⟨rfl, yesT ⟨_, rfl, ra, _, rfl, .inr ⟨SqT.of hRa3, ?_⟩⟩⟩
        refine ⟨ys, h3, len3, ys ++ [.ref ra], upd_same, last ra H3 hRa3 (fun m => ?_) (fun _ => Kp.rfl'), k3.own hc2⟩
        rcases List.mem_cons.mp m with z | z
        · rw [z, hc2] at hRa
          cases hRa
        · exact nRa (hsub ra z)
    rintro H3c ⟨ys, h3, d3, k3⟩
    rw [ls, List.take_length] at d3
    refine ⟨c2, ys, rfl, .inl ⟨SqL.of h3, fun la2 hla2 => ?_⟩⟩
    have k4 : ∀ cs, Kp cs H3c (upd H3c la2 (.tup ys)) := fun cs => Kp.rfl'.new hla2
    have dA2 : D bs (upd H3c la2 (.tup ys)) 12 2 (.ref la2) (dTT steps) := .tup upd_same (away hbs (kA1.trans k3) hla2) (by rw [DA.len d3, List.length_map]; omega) ((d3.less (by simp +contextual)).keep (k4 _))
    have kA2 : Kp [] H (upd H3c la2 (.tup ys)) := (kA1.trans k3).trans (k4 [])
    have k12 := k3.trans (k4 [])
    clear d3 h3 k3
    generalize upd H3c la2 (.tup ys) = Gh2 at dA2 kA2 k4 k12 ⊢
    clear k4

    have dA12 := dA1.keep (k12.sub (by simp))
    obtain ⟨aw, ew, hw0, nw, lw⟩ := (dW.keep (kA2.sub (by simp))).lints
    cases ew
    refine ⟨_, rfl, wa, _, rfl, .inl ⟨SqL.of hw0, fun la3 hla3 => ?_⟩⟩
    have k23 : ∀ cs, Kp cs Gh2 (upd Gh2 la3 (.tup (ws.map V.int))) := fun cs => Kp.rfl'.new hla3
    obtain ⟨_, _, _, _, _, _, smW⟩ := dW.ints intsD_of
    have dA3 : D bs (upd Gh2 la3 (.tup (ws.map V.int))) 12 1 (.ref la3) (dT ws) := .tup (k := 0) upd_same (away hbs kA2 hla3) (by simpa using lw) (DA.ofInts smW)
    have kA3 := kA2.trans (k23 [])
    have dA13 := dA12.keep (k23 _)
    have dA23 := dA2.keep (k23 _)
    generalize upd Gh2 la3 (.tup (ws.map V.int)) = Gh3 at dA3 kA3 dA13 dA23 k23 ⊢
    refine ⟨by show 3 ≤ sizeLine; decide, fun fo hfo => ?_⟩
    have k34 : ∀ cs, Kp cs Gh3 (upd Gh3 fo (.lst [.ref la1, .ref la2, .ref la3])) := fun cs => Kp.rfl'.new hfo
    have gfo : (upd Gh3 fo (.lst [.ref la1, .ref la2, .ref la3])) fo = some (.lst [.ref la1, .ref la2, .ref la3]) := upd_same
    have kA4 := kA3.trans (k34 [])
    replace dA13 := dA13.keep (k34 _)
    replace dA23 := dA23.keep (k34 _)
    replace dA3 := dA3.keep (k34 _)
    generalize upd Gh3 fo (.lst [.ref la1, .ref la2, .ref la3]) = Gh4 at dA3 kA4 dA13 dA23 k34 gfo ⊢
    obtain ⟨s2, xs2, es2, hs2, _, ls2, lsw2, als2⟩ := (dS.keep (kA4.sub (by simp))).lrows
    cases es2
    refine ⟨_, rfl, _, rfl, sa, rfl, ⟨_, SqL.of hs2⟩, fun c3 hc3 => lc_list (K := K) (a := sa) (xs := xs2) (fun j H3 => H3 c3 = some (.lst ((topsOf (steps.take j)).map V.int)) ∧ Kp [] Gh4 H3) ?_ ?_ ?_ ?_⟩
    · exact ⟨by rw [upd_same]; rfl, Kp.rfl'.new hc3⟩
    · rintro j H3 _ ⟨_, k3⟩
      exact SqL.of (k3 _ _ hs2 (by simp))
    · rintro j y H3 hj ⟨h3, k3⟩
      obtain ⟨r, e, k', hr2, hI, hDy, _⟩ := als2 j y hj
      have hjl := (List.getElem?_eq_some_iff.mp hj).1
      obtain ⟨ra, kd2, rfl, hRa, _, _, _⟩ := hDy.ints hI
      refine ⟨rfl, yesT ⟨_, rfl, _, r.length, rfl, sqo_len (k3 _ _ hRa (by simp)) (by simp), _, h3, ?_, ?_, k3.own hc3⟩⟩
      · simp only [topsOf, List.length_map, List.length_take]
        exact small1000 (by omega)
      · rw [upd_same, List.take_add_one, hr2]
        simp [topsOf]
    rintro H5 ⟨h5, k45⟩
    rw [ls2, List.take_length] at h5
    refine ⟨c3, _, rfl, .inl ⟨SqL.of h5, fun la4 hla4 => ?_⟩⟩
    have k56 : ∀ cs, Kp cs H5 (upd H5 la4 (.tup ((topsOf steps).map V.int))) := fun cs => Kp.rfl'.new hla4
    have kA6 := (kA4.trans k45).trans (k56 [])
    have k46 := k45.trans (k56 [])
    have tsm : ∀ n ∈ topsOf steps, n.natAbs < 2 ^ 39 + 12 := fun n hn => by
      obtain ⟨r, hr, rfl⟩ := List.mem_map.mp hn
      obtain ⟨i, hi, e⟩ := List.getElem_of_mem hr
      have hi2 : i < xs2.length := by omega
      obtain ⟨r', e', k', hr2, hI, hDy, _⟩ := als2 i xs2[i] (by simp)
      obtain ⟨_, _, _, _, _, l12, _⟩ := hDy.ints hI
      rw [List.getElem?_eq_getElem hi, e] at hr2
      cases hr2
      omega
    have lst : (topsOf steps).length ≤ 12 := by
      simp [topsOf]
      omega
    have dA4 : D bs (upd H5 la4 (.tup ((topsOf steps).map V.int))) 12 1 (.ref la4) (dT (topsOf steps)) := .tup (k := 0) upd_same (away hbs (kA4.trans k45) hla4) (by simpa using lst) (DA.ofInts tsm)
    generalize upd H5 la4 (.tup ((topsOf steps).map V.int)) = Gh6 at dA4 kA6 k46 ⊢
    refine ⟨by show 1 ≤ sizeLine; decide, fun l5 hl5 => ?_⟩
    have k67 : ∀ cs, Kp cs Gh6 (upd Gh6 l5 (.lst [.ref la4])) := fun cs => Kp.rfl'.new hl5
    refine ⟨fo, l5, _, _, rfl, rfl, (k46.trans (k67 [])) _ _ gfo (by simp), upd_same, by show 4 ≤ sizeLine; decide, fun qq hqq => ?_⟩
    have k78 : ∀ cs, Kp cs (upd Gh6 l5 (.lst [.ref la4])) (upd (upd Gh6 l5 (.lst [.ref la4])) qq (.lst ([.ref la1, .ref la2, .ref la3] ++ [.ref la4]))) := fun cs => Kp.rfl'.new hqq
    have k68 : ∀ cs, Kp cs Gh6 (upd (upd Gh6 l5 (.lst [.ref la4])) qq (.lst ([.ref la1, .ref la2, .ref la3] ++ [.ref la4]))) := fun cs => (k67 cs).trans (k78 cs)
    have kA7 := kA6.trans (k67 [])
    refine q qq _ (kA7.free hqq (by simp)) (kA6.trans (k68 [])) (.lst upd_same (away hbs kA7 hqq) (by show 4 ≤ 12; decide) ?_)
    exact .cons ((dA13.keep (k46.sub (by simp))).keep (k68 _)) (.cons ((dA23.keep (k46.sub (by simp))).keep (k68 _)) (.cons (((dA3.keep (k46.sub (by simp))).keep (k68 _)).up (Nat.le_refl _) (by decide)) (.cons ((dA4.keep (k68 _)).up (Nat.le_refl _) (by decide)) .nil)))
def sp_told (K : PySem.W.Frag) : Sp := fun vs H Q _ => ∃ (x : Addr) (rows steps : List (List Int)) (ws : List Int) (bs : List Addr), vs = [.ref x] ∧ HallAt K bs H 12 x rows steps ws ∧ (∀ b ∈ bs, ∃ o, H b = some o) ∧
  (∀ r ∈ steps, r.length ≤ 12) ∧ ∀ (q : Addr) (H' : Hp), H q = none → Kp [] H H' → D bs H' 12 3 (.ref q) (toldD rows steps ws) → Q (.ref q) H'
theorem ok_told (T : Tx K mg) : FnOk P w K mg base CX0 2 (He.fAd K ("_law_told", none)) T.fd__law_told p__law_told (sp_told K) := by
  have G_Hall_strings := ok_gets (P := P) (w := w) (base := base) T
  have G_Hall_steps := ok_gett (P := P) (w := w) (base := base) T
  have G_Hall_memory := ok_getm (P := P) (w := w) (base := base) T
  have G_Hall_tops := ok_tops (P := P) (w := w) (base := base) T
  refine T.F__law_told.ok sc__law_told (fun vs H Q E h => ?_) (fun cdv A outer s H vs Q E hr h => ?_)
  · obtain ⟨_, _, _, _, _, rfl, _⟩ := h
    rfl
  · obtain ⟨x, rows, steps, ws, bs, rfl, hA, hbs, sl, q⟩ := h
    obtain ⟨dx, a1, a2, a3, hx, nx, d1, d2, d3⟩ := id hA.ex
    refine ⟨_, PSs.nox (pss_one (ps_ret (pe_lst (pa_cons (pe_meth0 (pv 0) T.cl_Hall T.m_Hall_strings G_Hall_strings (hr.mono (by first | decide | omega)) T.bd_Hall_strings .nil pass0) (pa_cons (pe_meth0 (pv 0) T.cl_Hall T.m_Hall_steps G_Hall_steps (hr.mono (by first | decide | omega)) T.bd_Hall_steps .nil pass0) (pa_cons (pe_meth0 (pv 0) T.cl_Hall T.m_Hall_memory G_Hall_memory (hr.mono (by first | decide | omega)) T.bd_Hall_memory .nil pass0) (pa_cons (pe_meth0 (pv 0) T.cl_Hall T.m_Hall_tops G_Hall_tops (hr.mono (by first | decide | omega)) T.bd_Hall_tops .nil pass0) pa_nil))))))), ?_⟩
    refine ⟨_, rfl, x, dx, _, rfl, hx, flds_no _ _ _ (by decide +kernel) (by decide +kernel) (by decide +kernel), x, dx, a1, a2, a3, rfl, hx, ?_⟩
    refine ⟨_, rfl, x, dx, _, rfl, hx, flds_no _ _ _ (by decide +kernel) (by decide +kernel) (by decide +kernel), x, dx, a1, a2, a3, rfl, hx, ?_⟩
    refine ⟨_, rfl, x, dx, _, rfl, hx, flds_no _ _ _ (by decide +kernel) (by decide +kernel) (by decide +kernel), x, dx, a1, a2, a3, rfl, hx, ?_⟩
    refine ⟨_, rfl, x, dx, _, rfl, hx, flds_no _ _ _ (by decide +kernel) (by decide +kernel) (by decide +kernel), x, rows, steps, ws, bs, 12, rfl, hA, by decide, fun p H1 f1 k1 h1 => ?_⟩
    refine ⟨by show 4 ≤ sizeLine; decide, fun qq hq => ?_⟩
    have k2 : ∀ cs, Kp cs H1 (upd H1 qq (.lst [.ref a1, .ref a2, .ref a3, .ref p])) := fun cs => Kp.rfl'.new hq
    have k02 := k1.trans (k2 [])
    have lst : steps.length ≤ 12 := by
      cases d2 with
      | tup _ _ l t =>
        have := DA.len t
        simp at this
        omega
    have dp : D bs H1 12 1 (.ref p) (dT (topsOf steps)) := .tup (k := 0) h1 (away hbs Kp.rfl' f1) (by simp [topsOf]; omega) (DA.ofInts fun n hn => by
      obtain ⟨r, hr, rfl⟩ := List.mem_map.mp hn
      have := sl r hr
      omega)
    exact q qq _ (k1.free hq (by simp)) k02 (.lst upd_same (away hbs k1 hq) (by show 4 ≤ 12; decide) (.cons (d1.keep (k02.sub (by simp))) (.cons (d2.keep (k02.sub (by simp))) (.cons ((d3.keep (k02.sub (by simp))).up (Nat.le_refl _) (by decide)) (.cons ((dp.keep (k2 _)).up (Nat.le_refl _) (by decide)) .nil)))))

end
end Sw

set_option maxHeartbeats 2000000
namespace Sw
open PySem PySem.Spec PyProof.Rows L2
section
variable {P : Program} {w : World} {K : PySem.W.Frag} {mg : Str → Option Value} {base : Heap}
/-! ### data alike -/
theorem eqvI : ∀ a b : List Int, PyData.eqvAll (a.map PyData.int) (b.map PyData.int) = decide (a = b)
  | [], [] => by simp [PyData.eqvAll]
  | [], _ :: _ => by simp [PyData.eqvAll]
  | _ :: _, [] => by simp [PyData.eqvAll]
  | x :: a, y :: b => by
    simp only [List.map_cons, PyData.eqvAll, PyData.eqv, eqvI a b]
    by_cases h : x = y <;> by_cases g : a = b <;> simp [h, g]
theorem eqvT (a b : List Int) : PyData.eqv (dT a) (dT b) = decide (a = b) := by
  simp only [PyData.eqv]
  exact eqvI a b
theorem eqvR : ∀ a b : List (List Int), PyData.eqvAll (a.map dT) (b.map dT) = decide (a = b)
  | [], [] => by simp [PyData.eqvAll]
  | [], _ :: _ => by simp [PyData.eqvAll]
  | _ :: _, [] => by simp [PyData.eqvAll]
  | x :: a, y :: b => by
    rw [List.map_cons, List.map_cons, PyData.eqvAll, eqvT, eqvR a b]
    by_cases h : x = y <;> by_cases g : a = b <;> simp [h, g]
theorem eqvTT (a b : List (List Int)) : PyData.eqv (dTT a) (dTT b) = decide (a = b) := by
  simp only [PyData.eqv]
  exact eqvR a b
theorem layI : ∀ a : List Int, PyData.canLayAll0 (a.map PyData.int) = true ∧ PyData.depthAll (a.map PyData.int) = 0
  | [] => by simp [PyData.canLayAll0, PyData.depthAll]
  | x :: a => by
    obtain ⟨h1, h2⟩ := layI a
    simp [PyData.canLayAll0, PyData.canLay0, PyData.depthAll, PyData.depth, h1, h2]
theorem layT (a : List Int) : PyData.canLay0 (dT a) = true ∧ PyData.depth (dT a) ≤ 1 := by
  obtain ⟨h1, h2⟩ := layI a
  simp [PyData.canLay0, PyData.depth, h1, h2]
theorem layR : ∀ a : List (List Int), PyData.canLayAll0 (a.map dT) = true ∧ PyData.depthAll (a.map dT) ≤ 1
  | [] => by simp [PyData.canLayAll0, PyData.depthAll]
  | x :: a => by
    obtain ⟨h1, h2⟩ := layR a
    obtain ⟨g1, g2⟩ := layT x
    rw [List.map_cons, PyData.canLayAll0, PyData.depthAll, h1, g1]
    exact ⟨rfl, by omega⟩
theorem shT (a : List Int) : SeqAt.shaped (dT a) = true := by
  obtain ⟨h1, h2⟩ := layT a
  unfold SeqAt.shaped
  rw [h1, decide_eq_true (by omega)]
  rfl
theorem shTT (a : List (List Int)) : SeqAt.shaped (dTT a) = true := by
  obtain ⟨h1, h2⟩ := layR a
  unfold SeqAt.shaped
  have h3 : PyData.depth (dTT a) ≤ 2 := by
    show PyData.depth (.tuple (a.map dT)) ≤ 2
    rw [PyData.depth]
    omega
  rw [decide_eq_true (show PyData.depth (dTT a) ≤ 64 by omega)]
  show (PyData.canLay0 (.tuple (a.map dT)) && true) = true
  rw [PyData.canLay0, h1]
  rfl
structure HallDp (K : PySem.W.Frag) (H : Hp) (x : Addr) (rows steps : List (List Int)) (ws : List Int) : Prop where
  ex : ∃ dx a1 a2 a3, H x = some (.ins (C0 K) dx (flds a1 a2 a3)) ∧ Dp K H (.ref a1) (dTT rows) ∧ Dp K H (.ref a2) (dTT steps) ∧ Dp K H (.ref a3) (dT ws)
theorem HallAt.dp {bs : List Addr} {H : Hp} {w' : Nat} {x : Addr} {rows steps : List (List Int)} {ws : List Int} (h : HallAt K bs H w' x rows steps ws) : HallDp K H x rows steps ws := by
  obtain ⟨dx, a1, a2, a3, e, n, d1, d2, d3⟩ := h.ex
  exact ⟨dx, a1, a2, a3, e, d1.dp, d2.dp, d3.dp⟩
/-- what is known of the class as it stands -/
structure Ow (K : PySem.W.Frag) : Prop where
  cls : PySem.W.findIn K (.ref (C0 K)) "__class__" = some (some (.builtin "object.__class__"))
  get : PySem.W.specialIn K (.builtin "object.__class__") "__get__" = some (some (.builtin "getset_descriptor.__get__"))
  tak : PySem.W.takesIn K (.builtin "object.__class__") = some true
  mro : PySem.W.mroIn K (C0 K) (.type "object") = some true
  ne : PySem.W.findIn K (.ref (C0 K)) "__ne__" = some (some (.builtin "object.__ne__"))
  obj : PySem.W.subIn K (.ref (C0 K)) (.type "object") = some true
  noL : PySem.W.kitOne K (.type "list") (.ref (C0 K)) = some false ∧ PySem.W.notFirst K (C0 K) (.type "list") = true
  noT : PySem.W.kitOne K (.type "tuple") (.ref (C0 K)) = some false ∧ PySem.W.notFirst K (C0 K) (.type "tuple") = true
  noN : PySem.W.kitOne K (.type "NoneType") (.ref (C0 K)) = some false ∧ PySem.W.notFirst K (C0 K) (.type "NoneType") = true
  noS : PySem.W.kitOne K (.type "str") (.ref (C0 K)) = some false ∧ PySem.W.notFirst K (C0 K) (.type "str") = true
theorem Ow.ty (O : Ow K) (T : Tx K mg) {H : Hp} {a dx : Addr} {fs : List (Str × V)} (e : H a = some (.ins (C0 K) dx fs)) : TyX K H (.ref a) (.ref (C0 K)) := .base (.ins e T.cl_Hall O.cls O.get O.tak O.mro)
theorem kit_self (v : Value) : PySem.W.kitOne K v v = some true := by
  unfold PySem.W.kitOne
  rw [if_pos (by simp)]
theorem first_self (a : Addr) : PySem.W.notFirst K a (.ref a) = true := by
  unfold PySem.W.notFirst
  simp
def sp_eq (K : PySem.W.Frag) : Sp := fun vs H Q _ => (∃ (x : Addr) (y : V) (n : String), vs = [.ref x, y] ∧ TyX K H y (.type n) ∧ PySem.W.kitOne K (.type n) (.ref (C0 K)) = some false ∧ Q (.bl false) H) ∨
  ∃ (x y : Addr) (r1 s1 r2 s2 : List (List Int)) (w1 w2 : List Int), vs = [.ref x, .ref y] ∧ HallDp K H x r1 s1 w1 ∧ HallDp K H y r2 s2 w2 ∧ Q (.bl (decide (r1 = r2 ∧ s1 = s2 ∧ w1 = w2))) H
theorem ok_eq (T : Tx K mg) (O : Ow K) : FnOk P w K mg base CX0 1 (He.fAd K ("Hall", some "__eq__")) T.fd_Hall___eq__ p_Hall___eq__ (sp_eq K) := by
  refine T.F_Hall___eq__.ok sc_Hall___eq__ (fun vs H Q E h => ?_) (fun cdv A outer s H vs Q E hr h => ?_)
  · rcases h with ⟨_, _, _, rfl, _⟩ | ⟨_, _, _, _, _, _, _, _, rfl, _⟩
    · rfl
    · rfl
  · rcases h with ⟨x, y, n, rfl, ty, kt, q⟩ | ⟨x, y, r1, s1, r2, s2, w1, w2, rfl, h1, h2, q⟩
    · refine ⟨_, PSs.nox (pss_one (ps_ret (pe_and (pe_callB call_isi (by rfl) T.b_isinstance (by decide +kernel) (pa_cons (pv 1) (pa_cons (pe_glob (v := .ref (He.ga K "Hall")) rfl T.g_Hall rfl) pa_nil))) (pe_and (pe_cmpR (op_eqD hr.units) (pe_fld (pv 0) rfl) (pe_fld (pv 1) rfl) (nomark _)) (pe_and (pe_cmpR (op_eqD hr.units) (pe_fld (pv 0) rfl) (pe_fld (pv 1) rfl) (nomark _)) (pe_one (pe_cmpR (op_eqD hr.units) (pe_fld (pv 0) rfl) (pe_fld (pv 1) rfl) (nomark _)))))))), ?_⟩
      exact ⟨_, rfl, _, _, _, _, false, rfl, .own _, ty, kt, _, rfl, iteF q⟩
    · refine ⟨_, PSs.nox (pss_one (ps_ret (pe_and (pe_callB call_isi (by rfl) T.b_isinstance (by decide +kernel) (pa_cons (pv 1) (pa_cons (pe_glob (v := .ref (He.ga K "Hall")) rfl T.g_Hall rfl) pa_nil))) (pe_and (pe_cmpR (op_eqD hr.units) (pe_fld (pv 0) rfl) (pe_fld (pv 1) rfl) (nomark _)) (pe_and (pe_cmpR (op_eqD hr.units) (pe_fld (pv 0) rfl) (pe_fld (pv 1) rfl) (nomark _)) (pe_one (pe_cmpR (op_eqD hr.units) (pe_fld (pv 0) rfl) (pe_fld (pv 1) rfl) (nomark _)))))))), ?_⟩
      obtain ⟨dx, a1, a2, a3, hx, d1, d2, d3⟩ := h1.ex
      obtain ⟨dy, b1, b2, b3, hy, e1, e2, e3⟩ := h2.ex
      refine ⟨_, rfl, _, _, _, _, true, rfl, .own _, O.ty T hy, kit_self _, _, rfl, iteT ?_⟩
      refine ⟨_, rfl, x, C0 K, dx, _, _, rfl, hx, T.cl_Hall, T.na_Hall_string_rows, flds_1 _ _ _, _, rfl, y, C0 K, dy, _, _, rfl, hy, T.cl_Hall, T.na_Hall_string_rows, flds_1 _ _ _, _, _, d1, e1, shTT _, shTT _, _, rfl, ?_⟩
      rw [eqvTT]
      by_cases c1 : r1 = r2
      · refine iteC (by simp [c1]) ?_
        refine ⟨_, rfl, x, C0 K, dx, _, _, rfl, hx, T.cl_Hall, T.na_Hall_step_rows, flds_2 _ _ _, _, rfl, y, C0 K, dy, _, _, rfl, hy, T.cl_Hall, T.na_Hall_step_rows, flds_2 _ _ _, _, _, d2, e2, shTT _, shTT _, _, rfl, ?_⟩
        rw [eqvTT]
        by_cases c2 : s1 = s2
        · refine iteC (by simp [c2]) ?_
          refine ⟨_, rfl, x, C0 K, dx, _, _, rfl, hx, T.cl_Hall, T.na_Hall_weights, flds_3 _ _ _, _, rfl, y, C0 K, dy, _, _, rfl, hy, T.cl_Hall, T.na_Hall_weights, flds_3 _ _ _, _, _, d3, e3, shT _, shT _, ?_⟩
          rw [eqvT]
          simp only [c1, c2, true_and] at q
          exact q
        · refine iteN (by simp [c2]) ?_
          simp only [c2, false_and, and_false] at q
          simpa [c2] using q
      · refine iteN (by simp [c1]) ?_
        simp only [c1, false_and] at q
        simpa [c1] using q
def sp_len (K : PySem.W.Frag) : Sp := fun vs H Q _ => ∃ (x : Addr) (rows steps : List (List Int)) (ws : List Int), vs = [.ref x] ∧ HallDp K H x rows steps ws ∧ Q (.int (rows.length : Int)) H
theorem DpAll.lenX {H : Hp} : ∀ {xs : List V} {ds : List PyData}, DpAll K H xs ds → xs.length = ds.length
  | _, _, .nil => rfl
  | _, _, .cons _ t => congrArg Nat.succ (DpAll.lenX t)
theorem Dp.lenT {H : Hp} {a : Addr} {ds : List PyData} (h : Dp K H (.ref a) (.tuple ds)) : LenV K (.ref a) H ds.length := by
  cases h with
  | tup s t =>
    exact .inr ⟨_, s, (DpAll.lenX t).symm⟩
theorem ok_len (T : Tx K mg) : FnOk P w K mg base CX0 1 (He.fAd K ("Hall", some "__len__")) T.fd_Hall___len__ p_Hall___len__ (sp_len K) := by
  refine T.F_Hall___len__.ok sc_Hall___len__ (fun vs H Q E h => ?_) (fun cdv A outer s H vs Q E hr h => ?_)
  · obtain ⟨_, _, _, _, rfl, _⟩ := h
    rfl
  · obtain ⟨x, rows, steps, ws, rfl, hA, q⟩ := h
    obtain ⟨dx, a1, a2, a3, hx, d1, d2, d3⟩ := hA.ex
    refine ⟨_, PSs.nox (pss_one (ps_ret (pe_callB call_len (by rfl) T.b_len (by decide +kernel) (pa_cons (pe_fld (pv 0) rfl) pa_nil)))), ?_⟩
    have l1 := Dp.lenT d1
    rw [List.length_map] at l1
    exact ⟨_, rfl, x, C0 K, dx, _, _, rfl, hx, T.cl_Hall, T.na_Hall_string_rows, flds_1 _ _ _, _, rows.length, rfl, l1, q⟩
theorem txt_small {n : Nat} (h : n ≤ 1000) : ((n : Int).natAbs.log2 < 1920) ∧ (Str.ofString (toString (n : Int))).length ≤ 42 := by
  have z : (n : Int).natAbs.log2 < 41 := log40 (i := (n : Int)) (by omega)
  have y := int_text_length_le (k := 41) (by decide) z
  exact ⟨by omega, by rw [PySem.ofString_length]; omega⟩
def hallText (n m : Nat) : Str := Str.empty ++ Str.ofString "Hall(" ++ Str.ofString (toString (n : Int)) ++ Str.ofString " persons, " ++ Str.ofString (toString (m : Int)) ++ Str.ofString " beats)"
theorem hallText_eq (n m : Nat) : hallText n m = Str.ofString "Hall(" ++ Str.ofString (toString (n : Int)) ++ Str.ofString " persons, " ++ Str.ofString (toString (m : Int)) ++ Str.ofString " beats)" := by
  unfold hallText
  rw [Str.append_left_empty (x := Str.empty) (by decide +kernel)]
def sp_repr (K : PySem.W.Frag) : Sp := fun vs H Q _ => ∃ (x : Addr) (rows steps : List (List Int)) (ws : List Int), vs = [.ref x] ∧ HallDp K H x rows steps ws ∧ rows.length ≤ 1000 ∧ ws.length ≤ 1000 ∧ Q (.str (hallText rows.length ws.length)) H
theorem l_a : (Str.ofString "Hall(").length = 5 := by decide +kernel
theorem l_b : (Str.ofString " persons, ").length = 10 := by decide +kernel
theorem l_c : (Str.ofString " beats)").length = 7 := by decide +kernel
theorem l_e : Str.empty.length = 0 := by decide +kernel
theorem ok_repr (T : Tx K mg) : FnOk P w K mg base CX0 1 (He.fAd K ("Hall", some "__repr__")) T.fd_Hall___repr__ p_Hall___repr__ (sp_repr K) := by
  refine T.F_Hall___repr__.ok sc_Hall___repr__ (fun vs H Q E h => ?_) (fun cdv A outer s H vs Q E hr h => ?_)
  · obtain ⟨_, _, _, _, rfl, _⟩ := h
    rfl
  · obtain ⟨x, rows, steps, ws, rfl, hA, lr, lw, q⟩ := h
    obtain ⟨dx, a1, a2, a3, hx, d1, d2, d3⟩ := hA.ex
    refine ⟨_, PSs.nox (pss_one (ps_ret (pe_joined (.cons pe_str (.cons (pe_fmt (pe_callB call_len (by rfl) T.b_len (by decide +kernel) (pa_cons (pe_fld (pv 0) rfl) pa_nil))) (.cons pe_str (.cons (pe_fmt (pe_callB call_len (by rfl) T.b_len (by decide +kernel) (pa_cons (pe_fld (pv 0) rfl) pa_nil))) (.cons pe_str .nil)))))))), ?_⟩
    have l1 := Dp.lenT d1
    have l3 := Dp.lenT d3
    rw [List.length_map] at l1 l3
    obtain ⟨g1, t1⟩ := txt_small lr
    obtain ⟨g3, t3⟩ := txt_small lw
    have la := l_a
    have lb := l_b
    have lc := l_c
    have le := l_e
    have sz := sizeLine_eq
    refine ⟨_, rfl, by rw [Str.length_append]; omega, ?_⟩
    refine ⟨_, rfl, x, C0 K, dx, _, _, rfl, hx, T.cl_Hall, T.na_Hall_string_rows, flds_1 _ _ _, _, rows.length, rfl, l1, .inr ⟨_, rfl, g1, ?_⟩⟩
    refine ⟨_, rfl, by rw [Str.length_append, Str.length_append]; omega, ?_⟩
    refine ⟨_, rfl, by rw [Str.length_append, Str.length_append, Str.length_append]; omega, ?_⟩
    refine ⟨_, rfl, x, C0 K, dx, _, _, rfl, hx, T.cl_Hall, T.na_Hall_weights, flds_3 _ _ _, _, ws.length, rfl, l3, .inr ⟨_, rfl, g3, ?_⟩⟩
    refine ⟨_, rfl, by rw [Str.length_append, Str.length_append, Str.length_append, Str.length_append]; omega, ?_⟩
    exact ⟨_, rfl, by rw [Str.length_append, Str.length_append, Str.length_append, Str.length_append, Str.length_append]; omega, q⟩

end
end Sw

set_option maxHeartbeats 2000000
namespace Sw
open PySem PySem.Spec PyProof.Rows L2
section
variable {P : Program} {w : World} {K : PySem.W.Frag} {mg : Str → Option Value} {base : Heap}
theorem FnOk.orS {k : Nat} {f : Addr} {fd : FuncData} {ps : List Str} {s1 s2 : Sp} (F1 : FnOk P w K mg base CX0 k f fd ps s1) (F2 : FnOk P w K mg base CX0 k f fd ps s2) : FnOk P w K mg base CX0 k f fd ps (fun vs H Q E => s1 vs H Q E ∨ s2 vs H Q E) :=
  ⟨fun vs H Q E h => h.elim (F1.len _ _ _ _) (F2.len _ _ _ _), fun A outer s H args us vs Q E hr e0 bd r h => h.elim (F1.run A outer s H args us vs Q E hr e0 bd r) (F2.run A outer s H args us vs Q E hr e0 bd r)⟩
/-! ### the memory that was left out -/
def DfT (K : PySem.W.Frag) (a : Addr) : Prop := ∃ (o : Obj) (its : Array Value) (n : Nat), K.lookup a = some o ∧ o.cls = .type "tuple" ∧ o.data = .seq its n ∧ its.size ≤ sizeLine ∧ Vals [V.int 1] its.toList
theorem DfT.sq {a : Addr} (h : DfT K a) (H : Hp) : SqT K H a [V.int 1] := .inr h
theorem DfT.ty {a : Addr} (h : DfT K a) (H : Hp) : TyX K H (.ref a) (.type "tuple") := by
  obtain ⟨o, _, _, l, c, _⟩ := h
  exact .kTuple l c
theorem DfT.dp {a : Addr} (h : DfT K a) (H : Hp) : Dp K H (.ref a) (dT [1]) := .tup (h.sq H) (.cons (.int 1) .nil)
theorem kLT : PySem.W.kitAny K (.type "tuple") [.type "list", .type "tuple"] = some true := kitAny_cons (kit_ty (r := false) (by decide +kernel)) (fun _ => kitAny_cons (kit_ty (r := true) (by decide +kernel)) (fun z => nomatch z) (fun _ => rfl)) (fun z => nomatch z)
def sp_numK (K : PySem.W.Frag) : Sp := fun vs H Q _ => ∃ a, vs = [.ref a] ∧ DfT K a ∧ ∀ H', Kp [] H H' → Q (.bl true) H'
theorem ok_numK (T : Tx K mg) : FnOk P w K mg base CX0 2 (He.fAd K ("are_numbers", none)) T.fd_are_numbers p_are_numbers (sp_numK K) := by
  have G_is_number := ok_is_number (P := P) (w := w) (base := base) T
  refine T.F_are_numbers.ok sc_are_numbers (fun vs H Q E h => ?_) (fun cdv A outer s H vs Q E hr h => ?_)
  · obtain ⟨_, rfl, _⟩ := h
    rfl
  · obtain ⟨a, rfl, hd, q⟩ := h
    refine ⟨_, PSs.nox (pss_one (ps_ret (pe_and (pe_callB call_isiT (by rfl) T.b_isinstance (by decide +kernel) (pa_cons (pv 0) (pa_cons (pe_tup (pa_cons (pe_bltn (v := .ty "list") (by rfl) T.b_list (by decide +kernel) rfl) (pa_cons (pe_bltn (v := .ty "tuple") (by rfl) T.b_tuple (by decide +kernel) rfl) pa_nil))) pa_nil))) (pe_one (pe_callB (cr_all rfl) (by rfl) T.b_all (by decide +kernel) (pa_cons (pe_lc (own := [("one", 1)]) (g := (gName 1)) (tt := tYes) rfl sc_are_numbers.nd (pi_seq (pv 0)) (blkOk_by (own := [("one", 1)]) (N := n_are_numbers) (sc := defScope s_are_numbers) (by decide +kernel)) (fun _ _ _ _ _ => (pg_name (i := 1) sc_are_numbers.nd rfl (by first | exact Or.inl rfl | exact Or.inr rfl))) (fun _ _ _ _ _ => pts_nil) (fun _ _ _ _ _ => (pe_call G_is_number (hr.mono (by first | decide | omega)) rfl T.g_is_number T.F_is_number.kp T.bd_is_number .nil pass0 (pa_cons (pv 1) pa_nil)))) pa_nil)))))), ?_⟩
    refine ⟨_, rfl, by show 2 ≤ sizeLine; decide, fun t ht => ?_⟩
    have k1 : ∀ cs, Kp cs H (upd H t (.tup [.ty "list", .ty "tuple"])) := fun cs => Kp.rfl'.new ht
    refine ⟨_, t, _, _, [.type "list", .type "tuple"], true, rfl, upd_same, tyLT, hd.ty _, kLT, _, rfl, ?_⟩
    refine iteT ⟨_, rfl, a, rfl, .inr ⟨⟨_, hd.sq _⟩, fun p hp => lc_tup (K := K) (a := a) (xs := [V.int 1]) (fun j H3 => H3 p = some (.lst ((List.replicate j true).map V.bl)) ∧ Kp [] (upd H t (.tup [.ty "list", .ty "tuple"])) H3) ?_ ?_ ?_ ?_⟩⟩
    · exact ⟨by rw [upd_same]; rfl, Kp.rfl'.new hp⟩
    · rintro j H3 _ _
      exact hd.sq _
    · rintro j y H3 hj ⟨h3, k3⟩
      have hjl := (List.getElem?_eq_some_iff.mp hj).1
      have ej : j = 0 := by
        simp at hjl
        omega
      subst ej
      have ey : V.int 1 = y := Option.some.inj hj
      subst ey
      refine ⟨rfl, yesT ⟨_, rfl, .int 1, .int 1, [], 1, 0, rfl, .int 1 (by decide), by decide, fun H4 k4 => ⟨_, k4 _ _ h3 (by simp), by show 0 < sizeLine; decide, ?_, (k3.trans k4).own hp⟩⟩⟩
      rw [upd_same]
      rfl
    · rintro H3 ⟨h3, k3⟩
      refine ⟨p, _, rfl, SqL.of h3, ?_⟩
      rw [rep_all]
      exact q _ ((k1 []).trans k3)
theorem ok_memK (T : Tx K mg) : FnOk P w K mg base CX0 3 (He.fAd K ("is_memory", none)) T.fd_is_memory p_is_memory (sp_numK K) := by
  have G_are_numbers := ok_numK (P := P) (w := w) (base := base) T
  refine T.F_is_memory.ok sc_is_memory (fun vs H Q E h => ?_) (fun cdv A outer s H vs Q E hr h => ?_)
  · obtain ⟨_, rfl, _⟩ := h
    rfl
  · obtain ⟨a, rfl, hd, q⟩ := h
    refine ⟨_, PSs.nox (pss_one (ps_ret (pe_and (pe_call G_are_numbers (hr.mono (by first | decide | omega)) rfl T.g_are_numbers T.F_are_numbers.kp T.bd_are_numbers .nil pass0 (pa_cons (pv 0) pa_nil)) (pe_and (pe_chain op_le op_le pe_int (pe_callB call_len (by rfl) T.b_len (by decide +kernel) (pa_cons (pv 0) pa_nil)) (pe_glob (v := .int 5) rfl T.c_MOST_WEIGHTS ⟨_, rfl⟩)) (pe_one (pe_cmpR op_ne (pe_ix ix_seq (pv 0) (pe_un un_neg pe_int) (fun _ _ => rfl)) pe_int (nomark _))))))), ?_⟩
    refine ⟨_, rfl, a, rfl, hd, fun H1 k1 => ⟨_, rfl, iteT ?_⟩⟩
    refine ⟨_, rfl, _, 1, rfl, .inr ⟨_, hd.sq _, rfl⟩, _, _, rfl, rfl, _, rfl, iteC (by decide) ?_⟩
    refine ⟨_, _, rfl, rfl, _, rfl, iteC (by decide) ?_⟩
    have ne : ([1] : List Int) ≠ [] := by simp
    refine ⟨_, rfl, 1, rfl, ?_⟩
    have fin : Q (.bl (!decide (V.int (([1] : List Int).getLast ne) = V.int 0))) H1 := q _ k1
    exact .inr (.inl ⟨a, _, _, _, rfl, rfl, hd.sq _, atI_end ne, rfl, fin⟩)
def sp_initK (K : PySem.W.Frag) : Sp := fun vs H Q _ => ∃ (x dx : Addr) (v1 v2 : V) (aw : Addr) (d1 d2 : PyData) (rows steps : List (List Int)) (cs bs : List Addr) (w k : Nat), vs = [.ref x, v1, v2, .ref aw] ∧ H x = some (.ins (C0 K) dx []) ∧
  D cs H w k v1 d1 ∧ D cs H w k v2 d2 ∧ DfT K aw ∧ RowsD d1 rows ∧ RowsD d2 steps ∧ w ≤ 1000 ∧ HallOk rows steps [1] ∧ (∀ b ∈ bs, ∃ o, H b = some o) ∧ (∀ b ∈ bs, b ∈ cs) ∧ x ∉ bs ∧
  ∀ H' a1 a2, H' x = some (.ins (C0 K) dx (flds a1 a2 aw)) → D bs H' w 2 (.ref a1) (dTT rows) → D bs H' w 2 (.ref a2) (dTT steps) → Kp [x] H H' → Q .non H'
theorem ok_initK (T : Tx K mg) : FnOk P w K mg base CX0 5 (He.fAd K ("Hall", some "__init__")) T.fd_Hall___init__ p_Hall___init__ (sp_initK K) := by
  have G_are_strings := ok_strings (P := P) (w := w) (base := base) T
  have G_are_steps := ok_steps (P := P) (w := w) (base := base) T
  have G_is_memory := ok_memK (P := P) (w := w) (base := base) T
  have G_as_tuples := ok_tuples (P := P) (w := w) (base := base) T
  refine T.F_Hall___init__.ok sc_Hall___init__ (fun vs H Q E h => ?_) (fun cdv A outer s H vs Q E hr h => ?_)
  · obtain ⟨_, _, _, _, _, _, _, _, _, _, _, _, _, rfl, _⟩ := h
    rfl
  · obtain ⟨x, dx, v1, v2, aw, e1, e2, rows, steps, cs, bs, w', k, rfl, hx, dP, dS, hd0, hP, hS, lw, hd, hbs, hsub, nx, q⟩ := h
    refine ⟨_, PSs.nox (pss_cons (ps_if (pt_not (pt_val (pe_call G_are_strings (hr.mono (by first | decide | omega)) rfl T.g_are_strings T.F_are_strings.kp T.bd_are_strings .nil pass0 (pa_cons (pv 1) pa_nil))))
      (pss_one ps_never)
      pss_nil)
      (pss_cons (ps_if (pt_not (pt_val (pe_call G_are_steps (hr.mono (by first | decide | omega)) rfl T.g_are_steps T.F_are_steps.kp T.bd_are_steps .nil pass0 (pa_cons (pv 2) (pa_cons (pe_callB call_len (by rfl) T.b_len (by decide +kernel) (pa_cons (pv 1) pa_nil)) pa_nil)))))
      (pss_one ps_never)
      pss_nil)
      (pss_cons (ps_if (pt_not (pt_val (pe_call G_is_memory (hr.mono (by first | decide | omega)) rfl T.g_is_memory T.F_is_memory.kp T.bd_is_memory .nil pass0 (pa_cons (pv 3) pa_nil))))
      (pss_one ps_never)
      pss_nil)
      (pss_cons (ps_fld (pv 0) (pe_call G_as_tuples (hr.mono (by first | decide | omega)) rfl T.g_as_tuples T.F_as_tuples.kp T.bd_as_tuples .nil pass0 (pa_cons (pv 1) pa_nil)) rfl)
      (pss_cons (ps_fld (pv 0) (pe_call G_as_tuples (hr.mono (by first | decide | omega)) rfl T.g_as_tuples T.F_as_tuples.kp T.bd_as_tuples .nil pass0 (pa_cons (pv 2) pa_nil)) rfl)
      (pss_one (ps_fld (pv 0) (pe_callTy call_tuple_of (by rfl) T.b_tuple (by decide +kernel) (pa_cons (pv 3) pa_nil)) rfl))))))), ?_⟩
    refine ⟨_, rfl, v1, e1, rows, cs, w', k, rfl, dP, hP, lw, hd.r1, hd.row, fun H1 k1 => ⟨_, rfl, ?_⟩⟩
    refine iteF ?_
    have dP1 := dP.keep (k1.sub (by simp))
    have dS1 := dS.keep (k1.sub (by simp))
    obtain ⟨p, kdp, xp, rfl, hp1, _, lx, _, _⟩ := dP1.rows hP
    have el : (rows.length : Int) = (steps.length : Int) := by rw [hd.ls]
    refine ⟨_, rfl, _, rfl, _, rows.length, rfl, sqo_len hp1 lx.symm, v2, e2, steps, cs, w', k, (by rw [el]; rfl), dS1, hS, lw, hd.step, fun H2 k2 => ⟨_, rfl, ?_⟩⟩
    refine iteF ?_
    refine ⟨_, rfl, aw, rfl, hd0, fun H3 k3 => ⟨_, rfl, ?_⟩⟩
    refine iteF ?_
    have k13 : Kp [] H H3 := k1.trans (k2.trans k3)
    have bs3 : ∀ b ∈ x :: bs, ∃ o, H3 b = some o := fun b hb => by
      rcases List.mem_cons.mp hb with z | z
      · exact ⟨_, by rw [z]; exact k13 _ _ hx (by simp)⟩
      · obtain ⟨o, e⟩ := hbs b z
        exact ⟨o, k13 _ _ e (by simp)⟩
    have sub2 : ∀ b ∈ x :: bs, b ∈ x :: cs := fun b hb => (List.mem_cons.mp hb).elim (fun z => by rw [z]; simp) fun z => List.mem_cons_of_mem _ (hsub b z)
    refine ⟨_, rfl, _, e1, rows, x :: cs, x :: bs, w', k, rfl, (dP.noIns hx).keep (k13.sub (by simp)), hP, lw, bs3, sub2, fun a1 H4 f4 k4 d4 => ?_⟩
    have hx4 : H4 x = some (.ins (C0 K) dx []) := (k13.trans k4) _ _ hx (by simp)
    refine ⟨_, rfl, x, C0 K, dx, [], rfl, hx4, T.cl_Hall, T.na_Hall_string_rows, (by show 0 < 1000; decide), ?_⟩
    have k5 : ∀ cs, Kp (x :: cs) H4 (upd H4 x (.ins (C0 K) dx (putF "string_rows" (.ref a1) []))) := fun cs => Kp.rfl'.put (by simp)
    have k04 : Kp [] H H4 := k13.trans k4
    have bs5 : ∀ b ∈ x :: bs, ∃ o, (upd H4 x (.ins (C0 K) dx (putF "string_rows" (.ref a1) []))) b = some o := fun b hb => by
      by_cases z : b = x
      · exact ⟨_, by rw [z]; exact upd_same⟩
      · obtain ⟨o, e⟩ := bs3 b hb
        exact ⟨o, by rw [upd_ne z]; exact k4 _ _ e (by simp)⟩
    have dS5 := ((dS.noIns hx).keep (k04.sub (by simp))).keep (k5 cs)
    have d5 := d4.keep (k5 bs)
    refine ⟨_, rfl, v2, e2, steps, x :: cs, x :: bs, w', k, rfl, dS5, hS, lw, bs5, sub2, fun a2 H6 f6 k6 d6 => ?_⟩
    have hx6 := k6 _ _ upd_same (show x ∉ [] by simp)
    refine ⟨_, rfl, x, C0 K, dx, _, rfl, hx6, T.cl_Hall, T.na_Hall_step_rows, (by show 1 < 1000; decide), ?_⟩
    have k7 : ∀ cs, Kp (x :: cs) H6 (upd H6 x (.ins (C0 K) dx (putF "step_rows" (.ref a2) (putF "string_rows" (.ref a1) [])))) := fun cs => Kp.rfl'.put (by simp)
    have d57 := (d5.keep (k6.sub (by simp))).keep (k7 bs)
    have d67 := d6.keep (k7 bs)
    have hx7 : (upd H6 x (.ins (C0 K) dx (putF "step_rows" (.ref a2) (putF "string_rows" (.ref a1) [])))) x = some (.ins (C0 K) dx (putF "step_rows" (.ref a2) (putF "string_rows" (.ref a1) []))) := upd_same
    have k07 : Kp [x] H (upd H6 x (.ins (C0 K) dx (putF "step_rows" (.ref a2) (putF "string_rows" (.ref a1) [])))) := (((k04.sub (by simp)).trans (k5 [])).trans (k6.sub (by simp))).trans (k7 [])
    generalize upd H6 x (.ins (C0 K) dx (putF "step_rows" (.ref a2) (putF "string_rows" (.ref a1) []))) = H7 at d57 d67 hx7 k07 ⊢
    have sub1 : ∀ a, a ∈ bs → a ∈ x :: bs := fun a h => List.mem_cons_of_mem _ h
    refine ⟨_, rfl, aw, [V.int 1], rfl, .inr ⟨hd0.sq _, ?_⟩⟩
    refine ⟨_, rfl, x, C0 K, dx, _, rfl, hx7, T.cl_Hall, T.na_Hall_weights, Nat.lt_of_le_of_lt (putF_le _ _ _) (by show 2 < 1000; decide), ?_⟩
    have k9 : ∀ (cs : List Addr) (o : HO), Kp (x :: cs) H7 (upd H7 x o) := fun cs o => Kp.rfl'.put (by simp)
    exact q _ a1 a2 upd_same ((d57.keep (k9 bs _)).less sub1) ((d67.keep (k9 bs _)).less sub1) (k07.trans (k9 [] _))
theorem bq_Hall {f : Addr} {fd : FuncData} (F : FunD K "__init__" "Hall.__init__" (defArgs s_Hall___init__) (defBody s_Hall___init__) (defScope s_Hall___init__) [V.ref (He.dflAt ("Hall", some "__init__") 0 K)] [] f fd) : ∃ ds, Vals [V.ref (He.dflAt ("Hall", some "__init__") 0 K)] ds ∧ Binds K fd p_Hall___init__ ds :=
  F.binds1 (ps := p_Hall___init__) 3 0 (by simp) rfl (fun T kV doc pm an cdv ct us its h1 h2 => match us, its, h1, h2 with | [_, _, _], [_], _, _ => ⟨_, rfl, rfl⟩)

end
end Sw

set_option maxHeartbeats 2000000
namespace Sw
open PySem PySem.Spec PyProof.Rows L2
section
variable {P : Program} {w : World} {K : PySem.W.Frag} {mg : Str → Option Value} {base : Heap}
/-! ### rows of lists, each by itself -/
structure LR (H : Hp) (bs : List Addr) (p : Addr) (as : List Addr) (rows : List (List Int)) : Prop where
  hp : H p = some (.lst (as.map V.ref))
  nd : as.Nodup
  np : p ∉ as
  pb : p ∉ bs
  nb : ∀ a ∈ as, a ∉ bs
  len : as.length = rows.length
  row : ∀ (i : Nat) (a : Addr) (r : List Int), as[i]? = some a → rows[i]? = some r → H a = some (.lst (r.map V.int))
theorem LR.keep {H H' : Hp} {bs : List Addr} {p : Addr} {as : List Addr} {rows : List (List Int)} (h : LR H bs p as rows) (k : Kp bs H H') : LR H' bs p as rows :=
  ⟨k _ _ h.hp h.pb, h.nd, h.np, h.pb, h.nb, h.len, fun i a r e1 e2 => k _ _ (h.row i a r e1 e2) (h.nb a (List.mem_of_getElem? e1))⟩
theorem DA.ofRows {H : Hp} {bs : List Addr} {w : Nat} : ∀ {as : List Addr} {rows : List (List Int)}, as.length = rows.length → (∀ a ∈ as, a ∉ bs) → (∀ (i : Nat) (a : Addr) (r : List Int), as[i]? = some a → rows[i]? = some r → H a = some (.lst (r.map V.int))) →
    (∀ r ∈ rows, r.length ≤ w ∧ ∀ n ∈ r, n.natAbs < 2 ^ 39 + w) → DA bs H w 1 (as.map V.ref) (rows.map dI)
  | [], [], _, _, _, _ => .nil
  | [], _ :: _, l, _, _, _ => nomatch l
  | _ :: _, [], l, _, _, _ => nomatch l
  | a :: as, r :: rows, l, nb, hr, hb => .cons (.lst (k := 0) (hr 0 a r rfl rfl) (nb a (by simp)) (by simpa using (hb r (by simp)).1) (DA.ofInts (hb r (by simp)).2)) (DA.ofRows (by simpa using l) (fun a h => nb a (List.mem_cons_of_mem _ h)) (fun i a r e1 e2 => hr (i + 1) a r (by simpa using e1) (by simpa using e2)) (fun r h => hb r (List.mem_cons_of_mem _ h)))
theorem LR.d {H : Hp} {bs : List Addr} {w : Nat} {p : Addr} {as : List Addr} {rows : List (List Int)} (h : LR H bs p as rows) (lw : rows.length ≤ w) (hb : ∀ r ∈ rows, r.length ≤ w ∧ ∀ n ∈ r, n.natAbs < 2 ^ 39 + w) : D bs H w 2 (.ref p) (dII rows) :=
  .lst h.hp h.pb (by simpa [h.len] using lw) (DA.ofRows h.len h.nb h.row hb)
theorem nodup_ix {as : List Addr} (h : as.Nodup) {i j : Nat} {a : Addr} (e1 : as[i]? = some a) (e2 : as[j]? = some a) : i = j := by
  obtain ⟨h1, g1⟩ := List.getElem?_eq_some_iff.mp e1
  obtain ⟨h2, g2⟩ := List.getElem?_eq_some_iff.mp e2
  exact (List.getElem_inj h).mp (g1.trans g2.symm)
theorem LR.setRow {H : Hp} {bs : List Addr} {p : Addr} {as : List Addr} {rows : List (List Int)} (h : LR H bs p as rows) {i : Nat} {a : Addr} (e : as[i]? = some a) (r' : List Int) : LR (upd H a (.lst (r'.map V.int))) bs p as (rows.set i r') := by
  have ha := List.mem_of_getElem? e
  refine ⟨?_, h.nd, h.np, h.pb, h.nb, by simpa using h.len, fun j c r ec er => ?_⟩
  · rw [upd_ne (fun z : p = a => h.np (by rw [z]; exact ha))]
    exact h.hp
  · rw [List.getElem?_set] at er
    by_cases z : i = j
    · subst z
      rw [e] at ec
      cases ec
      rw [if_pos rfl] at er
      split at er
      · cases er
        exact upd_same
      · cases er
    · rw [if_neg z] at er
      have nc : c ≠ a := fun y => z (nodup_ix h.nd e (y ▸ ec))
      rw [upd_ne nc]
      exact h.row j c r ec er
theorem LR.other {H : Hp} {bs : List Addr} {p q : Addr} {as : List Addr} {rows : List (List Int)} (h : LR H bs p as rows) {o : HO} (n1 : q ≠ p) (n2 : q ∉ as) : LR (upd H q o) bs p as rows := by
  refine ⟨by rw [upd_ne n1.symm]; exact h.hp, h.nd, h.np, h.pb, h.nb, h.len, fun i a r e1 e2 => ?_⟩
  rw [upd_ne (fun z : a = q => n2 (by rw [← z]; exact List.mem_of_getElem? e1))]
  exact h.row i a r e1 e2
theorem ixN_nat {n j : Nat} (h : j < n) : ixN n (j : Int) = some j := by
  unfold ixN
  rw [if_pos (by omega), if_pos (by omega)]
  simp
theorem ixN_last {n : Nat} (h : 1 ≤ n) : ixN n (-1) = some (n - 1) := by
  unfold ixN
  rw [if_neg (by decide), if_pos (by omega)]
  exact congrArg some (by omega)
theorem LR.ix {H : Hp} {bs : List Addr} {p : Addr} {as : List Addr} {rows : List (List Int)} (h : LR H bs p as rows) {i : Nat} (hi : i < rows.length) : ∃ a, as[i]? = some a ∧ a ∈ as ∧ H a = some (.lst (rows[i].map V.int)) ∧ atI (as.map V.ref) (i : Int) = some (V.ref a) ∧ ixN (as.map V.ref).length (i : Int) = some i := by
  have hl : i < as.length := by
    have := h.len
    omega
  have e : as[i]? = some as[i] := by simp
  exact ⟨as[i], e, List.getElem_mem hl, h.row i _ _ e (by simp), atI_nat (by simp), ixN_nat (by simpa using hl)⟩
theorem rises_last {r : List Int} (h : rises r) (ne : r ≠ []) : rises (r.set (r.length - 1) (r.getLast ne + 1)) := fun i x y h1 h2 => by
  have hl : 1 ≤ r.length := Nat.one_le_iff_ne_zero.mpr fun e => ne (List.eq_nil_of_length_eq_zero e)
  rw [List.getElem?_set] at h1 h2
  have b2 : i + 1 < r.length := by
    split at h2
    · split at h2
      · omega
      · cases h2
    · exact (List.getElem?_eq_some_iff.mp h2).1
  rw [if_neg (by omega)] at h1
  by_cases z : r.length - 1 = i + 1
  · rw [if_pos z, if_pos (by omega)] at h2
    cases h2
    have e2 : r[i + 1]? = some (r.getLast ne) := by
      rw [← z]
      exact List.getLast?_eq_getElem? .. ▸ List.getLast?_eq_some_getLast ne
    have := h i x _ h1 e2
    omega
  · rw [if_neg z] at h2
    exact h i x y h1 h2
theorem rises_drop {r : List Int} (h : rises r) : rises (r.drop 1) := fun i x y h1 h2 => by
  rw [List.getElem?_drop] at h1 h2
  exact h (1 + i) x y h1 (by rw [← h2]; congr 1 <;> omega)
theorem bset {rows : List (List Int)} {B : List Int → Prop} {i : Nat} {r' : List Int} (h : ∀ r ∈ rows, B r) (h' : B r') : ∀ r ∈ rows.set i r', B r := fun r hr =>
  (List.mem_or_eq_of_mem_set hr).elim (h r) fun z => by rw [z]; exact h'
theorem set_ne {α : Type} {l : List α} {i : Nat} {a : α} (hi : i < l.length) (h : a ≠ l[i]) : l.set i a ≠ l := fun z => h (by
  have e : (l.set i a)[i]? = l[i]? := by rw [z]
  rw [List.getElem?_set, if_pos rfl, if_pos hi, List.getElem?_eq_getElem hi] at e
  exact Option.some.inj e)
theorem eqvL (a b : List Int) : PyData.eqv (dI a) (dI b) = decide (a = b) := by
  simp only [PyData.eqv]
  exact eqvI a b
theorem shL (a : List Int) : SeqAt.shaped (dI a) = true := by
  obtain ⟨h1, h2⟩ := layI a
  unfold SeqAt.shaped
  have h3 : PyData.depth (dI a) = 1 := by
    show PyData.depth (.list (a.map PyData.int)) = 1
    rw [PyData.depth, h2]
  rw [decide_eq_true (show PyData.depth (dI a) ≤ 64 by omega)]
  show (PyData.canLay0 (.list (a.map PyData.int)) && true) = true
  rw [PyData.canLay0, h1]
  rfl
theorem dpL {H : Hp} {a : Addr} {ns : List Int} (h : H a = some (.lst (ns.map V.int))) (hs : ∀ n ∈ ns, n.natAbs < 2 ^ 39 + 100) : Dp K H (.ref a) (dI ns) := (D.lst (bs := []) (k := 0) (w := max ns.length 100) h (by simp) (by simp; omega) (DA.ofInts fun n hn => by have := hs n hn; omega)).dp
theorem LR.keepO {H H' : Hp} {bs : List Addr} {p q : Addr} {as : List Addr} {rows : List (List Int)} (h : LR H bs p as rows) (k : Kp [q] H H') (n1 : q ≠ p) (n2 : q ∉ as) : LR H' bs p as rows :=
  ⟨k _ _ h.hp (by simpa using n1.symm), h.nd, h.np, h.pb, h.nb, h.len, fun i a r e1 e2 => k _ _ (h.row i a r e1 e2) (by simpa using fun z : a = q => n2 (by rw [← z]; exact List.mem_of_getElem? e1))⟩
theorem last_setL {l : List Int} {v : Int} (hv : v ≠ 0) : ∀ h : l.set (l.length - 1) v ≠ [], (l.set (l.length - 1) v).getLast h ≠ 0 := fun h => by
  rw [List.getLast_eq_getElem, List.getElem_set]
  rw [if_pos (by simp)]
  exact hv
theorem last_set0 {l : List Int} {y : Int} (hy : y ≠ 0) (hl : ∀ h : l ≠ [], l.getLast h ≠ 0) : ∀ h : l.set 0 y ≠ [], (l.set 0 y).getLast h ≠ 0 := fun h => by
  have ne : l ≠ [] := fun z => h (by rw [z]; rfl)
  have := hl ne
  rw [List.getLast_eq_getElem] at this
  rw [List.getLast_eq_getElem, List.getElem_set]
  split
  · exact hy
  · simpa using this
def sp_other : Sp := fun vs H Q _ => ∃ (b t p s wa : Addr) (rows steps : List (List Int)) (ws : List Int) (c c2 n : Nat), vs = [.ref b, .ref t] ∧ H t = some (.tup [.ref p, .ref s, .ref wa]) ∧ t ≠ b ∧ D [b] H 12 2 (.ref p) (dII rows) ∧ D [b] H 12 2 (.ref s) (dII steps) ∧ D [b] H 12 1 (.ref wa) (dI ws) ∧
  HallData c c2 rows steps ws ∧ Bx H b n ∧ n ≤ 800000 ∧
  ∀ (t' p' s' w' : Addr) (H' : Hp) (rows' steps' : List (List Int)) (ws' : List Int), H' t' = some (.tup [.ref p', .ref s', .ref w']) → D [b] H' 13 2 (.ref p') (dII rows') → D [b] H' 13 2 (.ref s') (dII steps') → D [b] H' 13 1 (.ref w') (dI ws') → HallOk rows' steps' ws' →
    ¬ (rows' = rows ∧ steps' = steps ∧ ws' = ws) → Bx H' b (n + 3) → Kp [b] H H' → Q (.ref t') H'
theorem ok_other (T : Tx K mg) : FnOk P w K mg base CX0 2 (He.fAd K ("_law_otherwise", none)) T.fd__law_otherwise p__law_otherwise sp_other := by
  have G__law_take := ok_take (P := P) (w := w) (base := base) T
  refine T.F__law_otherwise.ok sc__law_otherwise (fun vs H Q E h => ?_) (fun cdv A outer s H vs Q E hr h => ?_)
  · obtain ⟨_, _, _, _, _, _, _, _, _, _, _, rfl, _⟩ := h
    rfl
  · obtain ⟨b, t, p, sa, wa, rows, steps, ws, c, c2, n, rfl, ht, ntb, dP, dS, dW, hd, hB, hn, q⟩ := h
    refine ⟨_, PSs.nox (pss_cons (ps_par3 (i := 2) (j := 3) (l := 4) (by rfl) sc__law_otherwise.nd rfl rfl rfl (by decide) (by decide) (by decide) rfl rfl rfl (pa_cons (pe_lc (own := [("_law_row", 8)]) (g := (gName 8)) (tt := tYes) rfl sc__law_otherwise.nd (pi_list (pe_ix ix_tup (pv 1) pe_int (fun _ _ => rfl))) (blkOk_by (own := [("_law_row", 8)]) (N := n__law_otherwise) (sc := defScope s__law_otherwise) (by decide +kernel)) (fun _ _ _ _ _ => (pg_name (i := 8) sc__law_otherwise.nd rfl (by first | exact Or.inl rfl | exact Or.inr rfl))) (fun _ _ _ _ _ => pts_nil) (fun _ _ _ _ _ => (pe_callTy (kLst (K := K) rfl) (by rfl) T.b_list (by decide +kernel) (pa_cons (pv 8) pa_nil)))) (pa_cons (pe_lc (own := [("_law_some", 9)]) (g := (gName 9)) (tt := tYes) rfl sc__law_otherwise.nd (pi_list (pe_ix ix_tup (pv 1) pe_int (fun _ _ => rfl))) (blkOk_by (own := [("_law_some", 9)]) (N := n__law_otherwise) (sc := defScope s__law_otherwise) (by decide +kernel)) (fun _ _ _ _ _ => (pg_name (i := 9) sc__law_otherwise.nd rfl (by first | exact Or.inl rfl | exact Or.inr rfl))) (fun _ _ _ _ _ => pts_nil) (fun _ _ _ _ _ => (pe_callTy (kLst (K := K) rfl) (by rfl) T.b_list (by decide +kernel) (pa_cons (pv 9) pa_nil)))) (pa_cons (pe_callTy call_list_of (by rfl) T.b_list (by decide +kernel) (pa_cons (pe_ix ix_tup (pv 1) pe_int (fun _ _ => rfl)) pa_nil)) pa_nil))) (by rfl))
      (pss_cons (ps_par (i := 5) (j := 6) (by rfl) sc__law_otherwise.nd rfl rfl (by decide) rfl rfl (pa_cons (pe_call G__law_take (hr.mono (by first | decide | omega)) rfl T.g__law_take T.F__law_take.kp T.bd__law_take .nil pass0 (pa_cons (pv 0) (pa_cons pe_int pa_nil))) (pa_cons (pe_call G__law_take (hr.mono (by first | decide | omega)) rfl T.g__law_take T.F__law_take.kp T.bd__law_take .nil pass0 (pa_cons (pv 0) (pa_cons (pe_callB call_len (by rfl) T.b_len (by decide +kernel) (pa_cons (pv 2) pa_nil)) pa_nil))) pa_nil)) (by rfl))
      (pss_cons (ps_if (pt_cmpR op_eq (pv 5) pe_int (nomark _))
      (pss_cons (ps_set (i := 7) sc__law_otherwise.nd rfl (by first | exact Or.inl rfl | exact Or.inr rfl) (pe_call G__law_take (hr.mono (by first | decide | omega)) rfl T.g__law_take T.F__law_take.kp T.bd__law_take .nil pass0 (pa_cons (pv 0) (pa_cons (pe_callB call_len (by rfl) T.b_len (by decide +kernel) (pa_cons (pv 2) pa_nil)) pa_nil))))
      (pss_one (ps_asg (pe_op op_add (pe_ix ix_list (pe_ix ix_list (pv 2) (pv 6) (fun _ _ => rfl)) (pv 7) (fun _ _ => rfl)) (pe_ifExp (pt_cmpR op_lt (pe_ix ix_list (pe_ix ix_list (pv 2) (pv 6) (fun _ _ => rfl)) (pv 7) (fun _ _ => rfl)) pe_int (nomark _)) pe_int (pe_un un_neg pe_int))) (pg_sub (pe_ix ix_list (pv 2) (pv 6) (fun _ _ => rfl)) (pv 7) set_list))))
      (pss_one (ps_if (pt_cmpR op_eq (pv 5) pe_int (nomark _))
      (pss_one (ps_asg (pe_op op_add (pe_ix ix_list (pe_ix ix_list (pv 3) (pv 6) (fun _ _ => rfl)) (pe_un un_neg pe_int) (fun _ _ => rfl)) pe_int) (pg_sub (pe_ix ix_list (pv 3) (pv 6) (fun _ _ => rfl)) (pe_un un_neg pe_int) set_list)))
      (pss_one (ps_if (pt_cmpR op_eq (pv 5) pe_int (nomark _))
      (pss_cons (ps_asg (pe_op op_add (pe_op op_sub (pe_ix ix_list (pv 4) (pe_un un_neg pe_int) (fun _ _ => rfl)) (pe_ifExp (pt_cmpR op_gt (pe_ix ix_list (pv 4) (pe_un un_neg pe_int) (fun _ _ => rfl)) pe_int (nomark _)) pe_int pe_int)) (pe_ifExp (pt_cmpR op_lt (pe_ix ix_list (pv 4) (pe_un un_neg pe_int) (fun _ _ => rfl)) (pe_un un_neg pe_int) (nomark _)) pe_int pe_int)) (pg_sub (pv 4) (pe_un un_neg pe_int) set_list))
      (pss_one (ps_asg (pe_ifExp (pt_cmpR (op_neD hr.units) (pv 4) (pe_callTy call_list_of (by rfl) T.b_list (by decide +kernel) (pa_cons (pe_ix ix_tup (pv 1) pe_int (fun _ _ => rfl)) pa_nil)) (nomark _)) (pe_ix ix_list (pv 4) pe_int (fun _ _ => rfl)) (pe_ifExp (pt_cmpR op_ne (pe_ix ix_list (pv 4) pe_int (fun _ _ => rfl)) pe_int (nomark _)) (pe_un un_neg (pe_ix ix_list (pv 4) pe_int (fun _ _ => rfl))) pe_int)) (pg_sub (pv 4) pe_int set_list))))
      (pss_cons (ps_set (i := 9) sc__law_otherwise.nd rfl (by first | exact Or.inl rfl | exact Or.inr rfl) (pe_ix ix_list (pv 3) (pv 6) (fun _ _ => rfl)))
      (pss_one (ps_asg (pe_ifExp (pt_cmpR op_gt (pe_callB call_len (by rfl) T.b_len (by decide +kernel) (pa_cons (pv 9) pa_nil)) pe_int (nomark _)) (pe_slice sl_list (pv 9) (po_some pe_int) po_none) (pe_op op_cat (pv 9) (pe_lst (pa_cons (pe_op op_add (pe_ix ix_list (pv 9) pe_int (fun _ _ => rfl)) pe_int) pa_nil)))) (pg_sub (pv 3) (pv 6) set_list)))))))))
      (pss_one (ps_ret (pe_tup (pa_cons (pv 2) (pa_cons (pv 3) (pa_cons (pv 4) pa_nil))))))))), ?_⟩
    obtain ⟨_, _, _, eb, _⟩ := id hB.ex
    obtain ⟨p', xp, ep, hp0, np, lp, lpw, alp⟩ := dP.lrows
    cases ep
    refine ⟨_, rfl, t, _, 0, _, rfl, rfl, SqT.of ht, rfl, p, rfl, ⟨_, SqL.of hp0⟩, fun c1 hc1 => lc_list (K := K) (a := p) (xs := xp) (fun j H3 => ∃ as : List Addr, H3 c1 = some (.lst (as.map V.ref)) ∧ as.Nodup ∧ as.length = j ∧ (∀ a ∈ as, H a = none ∧ a ≠ c1 ∧ ∃ o, H3 a = some o) ∧ (∀ (i : Nat) (a : Addr) (r : List Int), as[i]? = some a → rows[i]? = some r → H3 a = some (.lst (r.map V.int))) ∧ Kp [] H H3) ?_ ?_ ?_ ?_⟩
    · exact ⟨[], upd_same, by simp, rfl, by simp, fun i a r e => by simp at e, Kp.rfl'.new hc1⟩
    · rintro j H3 _ ⟨_, _, _, _, _, _, k3⟩
      exact SqL.of (k3 _ _ hp0 (by simp))
    · rintro j y H3 hj ⟨as, h3, nd, la, fr, ro, k3⟩
      obtain ⟨r, e, k', hr2, hI, hDy, _⟩ := alp j y hj
      have hjl := (List.getElem?_eq_some_iff.mp hj).1
      obtain ⟨ra, kd2, rfl, hRa, nRa, lr, sm⟩ := hDy.ints hI
      have hRa3 := k3 _ _ hRa (by simp)
      have sq : SqL K H3 ra (r.map V.int) ∨ SqT K H3 ra (r.map V.int) := by
        cases kd2
        · exact .inr (SqT.of hRa3)
        · exact .inl (SqL.of hRa3)
      refine ⟨rfl, yesT ⟨_, rfl, ra, _, rfl, sq, fun l hl => ?_⟩⟩
      have nlc : l ≠ c1 := (ne_of_none h3 hl).symm
      have nla : l ∉ as := fun m => by
        obtain ⟨_, _, o, e⟩ := fr l m
        rw [hl] at e
        cases e
      have k4 : ∀ cs, Kp cs H3 (upd H3 l (.lst (r.map V.int))) := fun cs => Kp.rfl'.new hl
      refine ⟨as.map V.ref, k4 [] _ _ h3 (by simp), by rw [List.length_map]; exact small1000 (by omega), as ++ [l], by rw [upd_same]; simp, ?_, by simp [la], ?_, ?_, (k3.new hl).own hc1⟩
      · rw [List.nodup_append]
        exact ⟨nd, by simp, fun a ha b hb z => nla (by rw [List.mem_singleton.mp hb] at z; exact z ▸ ha)⟩
      · intro a ha
        rcases List.mem_append.mp ha with z | z
        · obtain ⟨f1, f2, o, e⟩ := fr a z
          exact ⟨f1, f2, o, by rw [upd_ne f2]; exact k4 [] _ _ e (by simp)⟩
        · rw [List.mem_singleton.mp z]
          exact ⟨k3.free hl (by simp), nlc, _, by rw [upd_ne nlc]; exact upd_same⟩
      · intro i a r2 ea er
        by_cases ci : i < as.length
        · rw [List.getElem?_append_left ci] at ea
          have hm := List.mem_of_getElem? ea
          rw [upd_ne (fr a hm).2.1]
          exact k4 [] _ _ (ro i a r2 ea er) (by simp)
        · rw [List.getElem?_append_right (by omega)] at ea
          have ei : i = j := by
            have := (List.getElem?_eq_some_iff.mp ea).1
            simp at this
            omega
          subst ei
          rw [la, Nat.sub_self] at ea
          have : l = a := by simpa using ea
          subst this
          rw [hr2] at er
          cases er
          rw [upd_ne nlc]
          exact upd_same
    rintro Ha ⟨aP, h3, nd, la, fr, ro, ka⟩
    have LP : LR Ha [b] c1 aP rows := ⟨h3, nd, fun m => (fr _ m).2.1 rfl, by simpa using (ne_of_none eb hc1).symm, fun a m => by simpa using (ne_of_none eb (fr a m).1).symm, by omega, ro⟩
    have frP : ∀ a ∈ aP, H a = none := fun a m => (fr a m).1
    clear h3 nd la fr ro
    have dSa := dS.keep (ka.sub (by simp))
    have eba := ka _ _ eb (by simp)
    have hta := ka _ _ ht (by simp)
    obtain ⟨s', xs', es, hs0, ns, ls, lsw, als⟩ := dSa.lrows
    cases es
    refine ⟨_, rfl, t, _, 1, _, rfl, rfl, SqT.of hta, rfl, sa, rfl, ⟨_, SqL.of hs0⟩, fun c2x hc2x => lc_list (K := K) (a := sa) (xs := xs') (fun j H3 => ∃ as : List Addr, H3 c2x = some (.lst (as.map V.ref)) ∧ as.Nodup ∧ as.length = j ∧ (∀ a ∈ as, Ha a = none ∧ a ≠ c2x ∧ ∃ o, H3 a = some o) ∧ (∀ (i : Nat) (a : Addr) (r : List Int), as[i]? = some a → steps[i]? = some r → H3 a = some (.lst (r.map V.int))) ∧ Kp [] Ha H3) ?_ ?_ ?_ ?_⟩
    · exact ⟨[], upd_same, by simp, rfl, by simp, fun i a r e => by simp at e, Kp.rfl'.new hc2x⟩
    · rintro j H3 _ ⟨_, _, _, _, _, _, k3⟩
      exact SqL.of (k3 _ _ hs0 (by simp))
    · rintro j y H3 hj ⟨as, h3, nd, la, fr, ro, k3⟩
      obtain ⟨r, e, k', hr2, hI, hDy, _⟩ := als j y hj
      have hjl := (List.getElem?_eq_some_iff.mp hj).1
      obtain ⟨ra, kd2, rfl, hRa, nRa, lr, sm⟩ := hDy.ints hI
      have hRa3 := k3 _ _ hRa (by simp)
      have sq : SqL K H3 ra (r.map V.int) ∨ SqT K H3 ra (r.map V.int) := by
        cases kd2
        · exact .inr (SqT.of hRa3)
        · exact .inl (SqL.of hRa3)
      refine ⟨rfl, yesT ⟨_, rfl, ra, _, rfl, sq, fun l hl => ?_⟩⟩
      have nlc : l ≠ c2x := (ne_of_none h3 hl).symm
      have nla : l ∉ as := fun m => by
        obtain ⟨_, _, o, e⟩ := fr l m
        rw [hl] at e
        cases e
      have k4 : ∀ cs, Kp cs H3 (upd H3 l (.lst (r.map V.int))) := fun cs => Kp.rfl'.new hl
      refine ⟨as.map V.ref, k4 [] _ _ h3 (by simp), by rw [List.length_map]; exact small1000 (by omega), as ++ [l], by rw [upd_same]; simp, ?_, by simp [la], ?_, ?_, (k3.new hl).own hc2x⟩
      · rw [List.nodup_append]
        exact ⟨nd, by simp, fun a ha b hb z => nla (by rw [List.mem_singleton.mp hb] at z; exact z ▸ ha)⟩
      · intro a ha
        rcases List.mem_append.mp ha with z | z
        · obtain ⟨f1, f2, o, e⟩ := fr a z
          exact ⟨f1, f2, o, by rw [upd_ne f2]; exact k4 [] _ _ e (by simp)⟩
        · rw [List.mem_singleton.mp z]
          exact ⟨k3.free hl (by simp), nlc, _, by rw [upd_ne nlc]; exact upd_same⟩
      · intro i a r2 ea er
        by_cases ci : i < as.length
        · rw [List.getElem?_append_left ci] at ea
          have hm := List.mem_of_getElem? ea
          rw [upd_ne (fr a hm).2.1]
          exact k4 [] _ _ (ro i a r2 ea er) (by simp)
        · rw [List.getElem?_append_right (by omega)] at ea
          have ei : i = j := by
            have := (List.getElem?_eq_some_iff.mp ea).1
            simp at this
            omega
          subst ei
          rw [la, Nat.sub_self] at ea
          have : l = a := by simpa using ea
          subst this
          rw [hr2] at er
          cases er
          rw [upd_ne nlc]
          exact upd_same
    rintro Hb ⟨aS, h3, nd, la, fr, ro, kb⟩
    have LS : LR Hb [b] c2x aS steps := ⟨h3, nd, fun m => (fr _ m).2.1 rfl, by simpa using (ne_of_none eba hc2x).symm, fun a m => by simpa using (ne_of_none eba (fr a m).1).symm, by omega, ro⟩
    have frS : ∀ a ∈ aS, Ha a = none := fun a m => (fr a m).1
    clear h3 nd la fr ro
    have kab : Kp [] H Hb := ka.trans kb
    have LPb := LP.keep (kb.sub (by simp))
    have htb := kab _ _ ht (by simp)
    have ebb := kab _ _ eb (by simp)
    obtain ⟨wa', ew, hw0, nw, lww⟩ := (dW.keep (kab.sub (by simp))).lints
    cases ew
    refine ⟨_, rfl, t, _, 2, _, rfl, rfl, SqT.of htb, rfl, wa, ws.map V.int, rfl, .inl (SqL.of hw0), fun wl hwl => ⟨_, _, _, rfl, ?_⟩⟩
    have kwl : ∀ cs, Kp cs Hb (upd Hb wl (.lst (ws.map V.int))) := fun cs => Kp.rfl'.new hwl
    have LPc := LPb.keep (kwl _)
    have LSc := LS.keep (kwl _)
    have gwl : (upd Hb wl (.lst (ws.map V.int))) wl = some (.lst (ws.map V.int)) := upd_same
    have k0c : Kp [] H (upd Hb wl (.lst (ws.map V.int))) := kab.trans (kwl [])
    have nwb : wl ≠ b := (ne_of_none ebb hwl).symm
    have nwP : wl ≠ c1 ∧ wl ∉ aP := ⟨(ne_of_none LPb.hp hwl).symm, fun m => by
      obtain ⟨i, hi, e⟩ := List.getElem_of_mem m
      have hi2 : i < rows.length := by
        have := LPb.len
        omega
      have := LPb.row i wl rows[i] (by rw [List.getElem?_eq_getElem hi, e]) (by simp)
      rw [hwl] at this
      cases this⟩
    have nwS : wl ≠ c2x ∧ wl ∉ aS := ⟨(ne_of_none LS.hp hwl).symm, fun m => by
      obtain ⟨i, hi, e⟩ := List.getElem_of_mem m
      have hi2 : i < steps.length := by
        have := LS.len
        omega
      have := LS.row i wl steps[i] (by rw [List.getElem?_eq_getElem hi, e]) (by simp)
      rw [hwl] at this
      cases this⟩
    have cPS : c1 ≠ c2x ∧ c1 ∉ aS ∧ c2x ∉ aP ∧ ∀ a ∈ aP, a ∉ aS := by
      refine ⟨ne_of_none LP.hp hc2x, fun m => ?_, fun m => ?_, fun a m m2 => ?_⟩
      · have := frS _ m
        rw [LP.hp] at this
        cases this
      · obtain ⟨i, hi, e⟩ := List.getElem_of_mem m
        have hi2 : i < rows.length := by
          have := LP.len
          omega
        have := LP.row i c2x rows[i] (by rw [List.getElem?_eq_getElem hi, e]) (by simp)
        rw [hc2x] at this
        cases this
      · obtain ⟨i, hi, e⟩ := List.getElem_of_mem m
        have hi2 : i < rows.length := by
          have := LP.len
          omega
        have h1 := LP.row i a rows[i] (by rw [List.getElem?_eq_getElem hi, e]) (by simp)
        have := frS _ m2
        rw [h1] at this
        cases this
    have fw : H wl = none := kab.free hwl (by simp)
    have fc1 : H c1 = none := hc1
    have fc2 : H c2x = none := ka.free hc2x (by simp)
    have fS : ∀ a ∈ aS, H a = none := fun a m => ka.free (frS a m) (by simp)
    have hBc := hB.keep k0c (by simp)
    generalize upd Hb wl (.lst (ws.map V.int)) = Hc at kwl LPc LSc gwl k0c hBc ⊢
    clear kwl LPb LS LP
    have k0b : Kp [b] H Hc := k0c.sub (by simp)
    refine ⟨_, rfl, b, 4, n, rfl, hBc, by decide, by decide, by omega, fun way Hd w0 w4 hBd kd1 => ?_⟩
    have LPd := LPc.keep kd1
    have LSd := LSc.keep kd1
    have gwd := kd1 _ _ gwl (by simpa using nwb)
    have a1 := hd.lr
    have a2 := hd.ls
    have a3 := hd.lw
    have a4 := hd.c1
    have a5 := hd.c12
    have a6 := hd.w1
    have a7 := hd.w5
    refine ⟨_, rfl, _, rfl, _, rows.length, rfl, .inl ⟨_, SqL.of LPd.hp, by rw [List.length_map]; exact LPd.len.symm⟩, b, (rows.length : Int), n + 1, rfl, hBd, by omega, by omega, by omega, fun one Hx o0 o1 hBe ke1 => ⟨_, _, rfl, ?_⟩⟩
    have LPe := LPd.keep ke1
    have LSe := LSd.keep ke1
    have gwe := ke1 _ _ gwd (by simpa using nwb)
    have k0e : Kp [b] H Hx := (k0b.trans kd1).trans ke1
    have hok := hd.ok
    have bP : ∀ r ∈ rows, r.length ≤ 13 ∧ ∀ n ∈ r, n.natAbs < 2 ^ 39 + 13 := fun r hr => by
      obtain ⟨h1, h2⟩ := hd.row r hr
      exact ⟨by omega, fun n hn => by have := h2 n hn; omega⟩
    have bS : ∀ r ∈ steps, r.length ≤ 13 ∧ ∀ n ∈ r, n.natAbs < 2 ^ 39 + 13 := fun r hr => by
      have h1 := (hd.step r hr).l4
      have h2 := (hd.step r hr).bd
      exact ⟨by omega, fun n hn => by have := h2 n hn; omega⟩
    have bW : ∀ n ∈ ws, n.natAbs < 2 ^ 39 + 13 := fun n hn => by
      have := hd.wt n hn
      omega
    have fin : ∀ (Hz : Hp) (rows' steps' : List (List Int)) (ws' : List Int), D [b] Hz 13 2 (.ref c1) (dII rows') → D [b] Hz 13 2 (.ref c2x) (dII steps') → D [b] Hz 13 1 (.ref wl) (dI ws') → HallOk rows' steps' ws' → ¬ (rows' = rows ∧ steps' = steps ∧ ws' = ws) → Bx Hz b (n + 3) → Kp [b] H Hz → ∀ t', Hz t' = none → Q (.ref t') (upd Hz t' (.tup [.ref c1, .ref c2x, .ref wl])) := by
      intro Hz rows' steps' ws' d1 d2 d3 ok ne hz kz t' ht'
      have k9 : ∀ cs, Kp cs Hz (upd Hz t' (.tup [.ref c1, .ref c2x, .ref wl])) := fun cs => Kp.rfl'.new ht'
      exact q t' c1 c2x wl _ rows' steps' ws' upd_same (d1.keep (k9 _)) (d2.keep (k9 _)) (d3.keep (k9 _)) ok ne (hz.keep (k9 []) (by simp)) (kz.trans (k9 _))
    obtain ⟨on, rfl⟩ := Int.eq_ofNat_of_zero_le o0
    have hon : on < rows.length := by omega
    have hos : on < steps.length := by omega
    have nwb2 : wl ∉ [b] := by simpa using nwb
    refine ⟨_, rfl, rfl, _, rfl, ite2 (fun cw => ?_) (fun cw => ?_)⟩
    · refine ⟨_, rfl, _, rfl, _, rows.length, rfl, .inl ⟨_, SqL.of LPe.hp, by rw [List.length_map]; exact LPe.len.symm⟩, b, (rows.length : Int), n + 2, rfl, hBe, by omega, by omega, by omega, fun oth Hg p0 p1 hBg kg1 => ?_⟩
      have LPg := LPe.keep kg1
      have LSg := LSe.keep kg1
      have gwg := kg1 _ _ gwe nwb2
      have k0g : Kp [b] H Hg := k0e.trans kg1
      obtain ⟨om, rfl⟩ := Int.eq_ofNat_of_zero_le p0
      obtain ⟨a, ea, ma, ha, at1, ix1⟩ := LPg.ix hon
      have hrl := (hd.row _ (List.getElem_mem hon))
      have hom : om < (rows[on]).length := by omega
      have at2 : atI ((rows[on]).map V.int) (om : Int) = some (.int ((rows[on])[om])) := atI_nat (by simp)
      have rest : ∀ z : Int, z ≠ (rows[on])[om] → z.natAbs < 2 ^ 39 + 13 → ∀ Hz, Hz = upd Hg a (.lst (((rows[on]).map V.int).set om (.int z))) → D [b] Hz 13 2 (.ref c1) (dII (rows.set on ((rows[on]).set om z))) ∧ D [b] Hz 13 2 (.ref c2x) (dII steps) ∧ D [b] Hz 13 1 (.ref wl) (dI ws) ∧ HallOk (rows.set on ((rows[on]).set om z)) steps ws ∧ ¬ (rows.set on ((rows[on]).set om z) = rows ∧ steps = steps ∧ ws = ws) ∧ Bx Hz b (n + 3) ∧ Kp [b] H Hz := by
        intro z nz zb Hz eHz
        have em : ((rows[on]).map V.int).set om (.int z) = ((rows[on]).set om z).map V.int := by rw [List.map_set]
        rw [em] at eHz
        subst eHz
        have LP' := LPg.setRow ea ((rows[on]).set om z)
        have LS' := LSg.other (o := .lst (((rows[on]).set om z).map V.int)) (q := a) (fun y => cPS.2.2.1 (y ▸ ma)) (cPS.2.2.2 a ma)
        have nwa : wl ≠ a := fun y => nwP.2 (y ▸ ma)
        have nab : a ∉ [b] := LPg.nb a ma
        refine ⟨LP'.d (by simp; omega) (bset bP ⟨by simp; omega, fun n hn => ?_⟩), LS'.d (by omega) bS, D.ofInts (k := 0) (by rw [upd_ne nwa]; exact gwg) nwb2 (by omega) bW, ⟨by simpa using hok.r1, ?_, by simpa using hok.ls, hok.step, hok.w1, hok.w5, hok.last⟩, fun y => ?_, ?_, k0g.own (frP a ma)⟩
        · rcases List.mem_or_eq_of_mem_set hn with y | y
          · exact (bP _ (List.getElem_mem hon)).2 n y
          · rw [y]
            exact zb
        · rw [List.length_set]
          exact bset hok.row (by rw [List.length_set]; exact hok.row _ (List.getElem_mem hon))
        · exact set_ne hon (set_ne hom nz) y.1
        · exact hBg.keep (bs := [a]) (Kp.rfl'.put (by simp)) (by simpa using fun y : b = a => nab (by rw [y]; simp))
      refine ⟨_, rfl, _, rfl, c1, _, _, _, rfl, rfl, SqL.of LPg.hp, at1, _, rfl, a, _, _, _, rfl, rfl, SqL.of ha, at2, ?_⟩
      refine ⟨_, rfl, _, rfl, c1, _, _, _, rfl, rfl, SqL.of LPg.hp, at1, _, rfl, a, _, _, _, rfl, rfl, SqL.of ha, at2, _, _, rfl, rfl, _, rfl, ite2 (fun cc => ?_) (fun cc => ?_)⟩
      · refine ⟨_, _, rfl, rfl, _, rfl, _, rfl, c1, _, _, _, rfl, rfl, SqL.of LPg.hp, at1, _, rfl, a, _, _, om, rfl, rfl, ha, ixN_nat (by simpa using hom), ?_⟩
        have hx := hrl.2 _ (List.getElem_mem hom)
        obtain ⟨g1, g2, g3, g4, g5, g6, g7⟩ := rest ((rows[on])[om] + 1) (by omega) (by omega) _ rfl
        exact ⟨_, rfl, _, rfl, _, rfl, by show 3 ≤ sizeLine; decide, fin _ _ _ _ g1 g2 g3 g4 g5 g6 g7⟩
      · refine ⟨1, rfl, _, _, rfl, rfl, _, rfl, _, rfl, c1, _, _, _, rfl, rfl, SqL.of LPg.hp, at1, _, rfl, a, _, _, om, rfl, rfl, ha, ixN_nat (by simpa using hom), ?_⟩
        have hx := hrl.2 _ (List.getElem_mem hom)
        obtain ⟨g1, g2, g3, g4, g5, g6, g7⟩ := rest ((rows[on])[om] + -1) (by omega) (by omega) _ rfl
        exact ⟨_, rfl, _, rfl, _, rfl, by show 3 ≤ sizeLine; decide, fin _ _ _ _ g1 g2 g3 g4 g5 g6 g7⟩
    · refine ⟨_, rfl, rfl, _, rfl, ite2 (fun cw1 => ?_) (fun cw1 => ?_)⟩
      · obtain ⟨a, ea, ma, ha, at1, ix1⟩ := LSe.ix hos
        have hg := hd.step _ (List.getElem_mem hos)
        have ne : steps[on] ≠ [] := fun z => by
          have := hg.l1
          rw [z] at this
          cases this
        have rest : ∀ Hz, Hz = upd Hx a (.lst (((steps[on]).map V.int).set ((steps[on]).length - 1) (.int ((steps[on]).getLast ne + 1)))) → D [b] Hz 13 2 (.ref c1) (dII rows) ∧ D [b] Hz 13 2 (.ref c2x) (dII (steps.set on ((steps[on]).set ((steps[on]).length - 1) ((steps[on]).getLast ne + 1)))) ∧ D [b] Hz 13 1 (.ref wl) (dI ws) ∧ HallOk rows (steps.set on ((steps[on]).set ((steps[on]).length - 1) ((steps[on]).getLast ne + 1))) ws ∧ ¬ (rows = rows ∧ steps.set on ((steps[on]).set ((steps[on]).length - 1) ((steps[on]).getLast ne + 1)) = steps ∧ ws = ws) ∧ Bx Hz b (n + 3) ∧ Kp [b] H Hz := by
          intro Hz eHz
          have em : ((steps[on]).map V.int).set ((steps[on]).length - 1) (.int ((steps[on]).getLast ne + 1)) = ((steps[on]).set ((steps[on]).length - 1) ((steps[on]).getLast ne + 1)).map V.int := by rw [List.map_set]
          rw [em] at eHz
          subst eHz
          have LS' := LSe.setRow ea ((steps[on]).set ((steps[on]).length - 1) ((steps[on]).getLast ne + 1))
          have LP' := LPe.other (o := .lst (((steps[on]).set ((steps[on]).length - 1) ((steps[on]).getLast ne + 1)).map V.int)) (q := a) (fun y => cPS.2.1 (y ▸ ma)) (fun m => cPS.2.2.2 a m ma)
          have nwa : wl ≠ a := fun y => nwS.2 (y ▸ ma)
          have nab : a ∉ [b] := LSe.nb a ma
          have l1 := hg.l1
          have l4 := hg.l4
          have lb := hg.bd _ (List.getLast_mem ne)
          refine ⟨LP'.d (by omega) bP, LS'.d (by simp; omega) (bset bS ⟨by simp; omega, fun n hn => ?_⟩), D.ofInts (k := 0) (by rw [upd_ne nwa]; exact gwe) nwb2 (by omega) bW, ⟨hok.r1, hok.row, by simpa using hok.ls, bset hok.step ⟨by simpa using l1, by simpa using l4, rises_last hg.up ne⟩, hok.w1, hok.w5, hok.last⟩, fun y => ?_, ?_, k0e.own (fS a ma)⟩
          · rcases List.mem_or_eq_of_mem_set hn with y | y
            · exact (bS _ (List.getElem_mem hos)).2 n y
            · rw [y]
              omega
          · refine set_ne hos (set_ne (by omega) ?_) y.2.1
            rw [List.getLast_eq_getElem]
            omega
          · exact (hBe.keep (bs := [a]) (Kp.rfl'.put (by simp)) (by simpa using fun y : b = a => nab (by rw [y]; simp))).up (by omega)
        obtain ⟨g1, g2, g3, g4, g5, g6, g7⟩ := rest _ rfl
        refine ⟨_, rfl, _, rfl, c2x, _, _, _, rfl, rfl, SqL.of LSe.hp, at1, 1, rfl, a, _, _, _, rfl, rfl, SqL.of ha, atI_end ne, _, _, rfl, rfl, ?_⟩
        refine ⟨_, rfl, _, rfl, c2x, _, _, _, rfl, rfl, SqL.of LSe.hp, at1, 1, rfl, a, _, _, (steps[on]).length - 1, rfl, rfl, ha, by rw [List.length_map]; exact ixN_last hg.l1, ?_⟩
        exact ⟨_, rfl, _, rfl, _, rfl, by show 3 ≤ sizeLine; decide, fin _ _ _ _ g1 g2 g3 g4 g5 g6 g7⟩
      · refine ⟨_, rfl, rfl, _, rfl, ite2 (fun cw2 => ?_) (fun cw2 => ?_)⟩
        · have ne : ws ≠ [] := fun z => by
            rw [z] at a3
            simp at a3
            omega
          have hL := hok.last ne
          have hLb := hd.wt _ (List.getLast_mem ne)
          have hw1 : 1 ≤ ws.length := by omega
          have hwH := dW.lints
          obtain ⟨wa2, ew2, hwa2, nwa2, _⟩ := hwH
          cases ew2
          have hwx := k0e _ _ hwa2 nwa2
          have htx := k0e _ _ ht (by simpa using ntb)
          have ntw : t ≠ wl := ne_of_none ht fw
          have nww : wa ≠ wl := ne_of_none hwa2 fw
          have ixL : ixN (ws.map V.int).length (-1) = some (ws.length - 1) := by rw [List.length_map]; exact ixN_last hw1
          have fin2 : ∀ (ws' : List Int) (Hz : Hp), Hz wl = some (.lst (ws'.map V.int)) → Kp [wl] Hx Hz → ws'.length = ws.length → (∀ n ∈ ws', n.natAbs < 2 ^ 39 + 13) → (∀ h : ws' ≠ [], ws'.getLast h ≠ 0) → ws' ≠ ws → D [b] Hz 13 2 (.ref c1) (dII rows) ∧ D [b] Hz 13 2 (.ref c2x) (dII steps) ∧ D [b] Hz 13 1 (.ref wl) (dI ws') ∧ HallOk rows steps ws' ∧ ¬ (rows = rows ∧ steps = steps ∧ ws' = ws) ∧ Bx Hz b (n + 3) ∧ Kp [b] H Hz := by
            intro ws' Hz gz kz lz bz hz nz
            exact ⟨(LPe.keepO kz nwP.1 nwP.2).d (by omega) bP, (LSe.keepO kz nwS.1 nwS.2).d (by omega) bS, D.ofInts (k := 0) gz nwb2 (by omega) bz, ⟨hok.r1, hok.row, hok.ls, hok.step, by omega, by omega, hz⟩, fun y => nz y.2.2, (hBe.keep kz (by simpa using nwb.symm)).up (by omega), k0e.step fw (kz.sub (by simp))⟩
          have atL := atI_end ne
          refine ⟨_, rfl, 1, rfl, wl, _, _, _, rfl, rfl, SqL.of gwe, atL, ?_⟩
          refine ⟨_, rfl, 1, rfl, wl, _, _, _, rfl, rfl, SqL.of gwe, atL, _, _, rfl, rfl, _, rfl, ite2 (fun d1 => ?_) (fun d1 => ?_)⟩
          · have d1' : 1 < ws.getLast ne := by simpa using d1
            refine ⟨_, _, rfl, rfl, _, rfl, 1, rfl, wl, _, _, _, rfl, rfl, SqL.of gwe, atL, 1, rfl, _, _, rfl, rfl, _, rfl, ite2 (fun d2 => ?_) (fun d2 => ?_)⟩
            · have d2' : ws.getLast ne < -1 := by simpa using d2
              refine ⟨_, _, rfl, rfl, _, rfl, 1, rfl, wl, _, _, ws.length - 1, rfl, rfl, gwe, ixL, ?_⟩
              have em : (ws.map V.int).set (ws.length - 1) (.int (ws.getLast ne - 1 + 1)) = (ws.set (ws.length - 1) (ws.getLast ne - 1 + 1)).map V.int := by rw [List.map_set]
              have v1n : (ws.getLast ne - 1 + 1) ≠ 0 := by omega
              have v1b : (ws.getLast ne - 1 + 1).natAbs < 2 ^ 39 + 13 := by omega
              obtain ⟨Hy, eHy⟩ : ∃ Hy, Hy = upd Hx wl (.lst ((ws.map V.int).set (ws.length - 1) (.int (ws.getLast ne - 1 + 1)))) := ⟨_, rfl⟩
              rw [← eHy]
              rw [em] at eHy
              obtain ⟨ws1, ew1⟩ : ∃ ws1, ws1 = ws.set (ws.length - 1) (ws.getLast ne - 1 + 1) := ⟨_, rfl⟩
              have l1 : ws1.length = ws.length := by rw [ew1]; simp
              have gy : Hy wl = some (.lst (ws1.map V.int)) := by rw [eHy, ew1]; exact upd_same
              have ky : Kp [wl] Hx Hy := by rw [eHy]; exact Kp.rfl'.put (by simp)
              have b1 : ∀ n ∈ ws1, n.natAbs < 2 ^ 39 + 13 := fun n hn => by
                rw [ew1] at hn
                rcases List.mem_or_eq_of_mem_set hn with y | y
                · exact bW n y
                · rw [y]; exact v1b
              have hty := ky _ _ htx (by simpa using ntw)
              have hway := ky _ _ hwx (by simpa using nww)
              have hpos : 0 < ws1.length := by omega
              refine ⟨_, rfl, _, rfl, t, _, 2, _, rfl, rfl, SqT.of hty, rfl, wa, ws.map V.int, rfl, .inl (SqL.of hway), fun nl hnl => ?_⟩
              have kn : ∀ cs, Kp cs Hy (upd Hy nl (.lst (ws.map V.int))) := fun cs => Kp.rfl'.new hnl
              have gn := kn [] _ _ gy (by simp)
              have kyn : Kp [wl] Hx (upd Hy nl (.lst (ws.map V.int))) := ky.trans (kn _)
              refine ⟨dI ws1, dI ws, dpL gn (fun n hn => by have := b1 n hn; omega), dpL upd_same (fun n hn => by have := bW n hn; omega), shL _, shL _, _, rfl, ?_⟩
              generalize upd Hy nl (.lst (ws.map V.int)) = Hn at kn gn kyn ⊢
              have at0 : atI (ws1.map V.int) (0 : Int) = some (.int (ws1[0])) := atI_nat (j := 0) (by simp [hpos])
              have ix0 : ixN (ws1.map V.int).length (0 : Int) = some 0 := ixN_nat (j := 0) (by simpa using hpos)
              rw [eqvL]
              have em0 : ∀ y : Int, (ws1.map V.int).set 0 (.int y) = (ws1.set 0 y).map V.int := fun y => by rw [List.map_set]
              have k2 : ∀ o, Kp [wl] Hx (upd Hn wl o) := fun o => kyn.put (by simp)
              by_cases cz : ws1 = ws
              · refine iteN (by simp [cz]) ?_
                have lst1 : ∀ h : ws1 ≠ [], ws1.getLast h ≠ 0 := by rw [cz]; exact hok.last
                have ff : ∀ y : Int, y ≠ 0 → y ≠ ws1[0] → y.natAbs < 2 ^ 39 + 13 → _ := fun y y0 y1 yb => fin2 (ws1.set 0 y) (upd Hn wl (.lst ((ws1.map V.int).set 0 (.int y)))) (by rw [em0]; exact upd_same) (k2 _) (by simp [l1]) (fun n hn => (List.mem_or_eq_of_mem_set hn).elim (b1 n) fun z => by rw [z]; exact yb) (last_set0 y0 lst1) (fun z => set_ne hpos y1 (z.trans cz.symm))
                have b0 := bW ws1[0] (by rw [← cz]; exact List.getElem_mem hpos)
                refine ⟨_, rfl, wl, _, 0, _, rfl, rfl, SqL.of gn, at0, rfl, _, rfl, ite2 (fun c0 => ?_) (fun c0 => ?_)⟩
                · have c0' : ws1[0] ≠ 0 := by simpa using c0
                  obtain ⟨g1, g2, g3, g4, g5, g6, g7⟩ := ff (-ws1[0]) (by omega) (by omega) (by omega)
                  refine ⟨_, rfl, wl, _, 0, _, rfl, rfl, SqL.of gn, at0, _, rfl, ?_⟩
                  refine ⟨_, rfl, wl, _, 0, 0, rfl, rfl, gn, ix0, ?_⟩
                  exact ⟨_, rfl, _, rfl, _, rfl, by show 3 ≤ sizeLine; decide, fin _ _ _ _ g1 g2 g3 g4 g5 g6 g7⟩
                · have c0' : ws1[0] = 0 := by simpa using c0
                  obtain ⟨g1, g2, g3, g4, g5, g6, g7⟩ := ff 1 (by omega) (by omega) (by omega)
                  refine ⟨_, rfl, wl, _, 0, 0, rfl, rfl, gn, ix0, ?_⟩
                  exact ⟨_, rfl, _, rfl, _, rfl, by show 3 ≤ sizeLine; decide, fin _ _ _ _ g1 g2 g3 g4 g5 g6 g7⟩
              · refine iteC (by simp [cz]) ?_
                have e0 : ws1.set 0 ws1[0] = ws1 := List.set_getElem_self hpos
                obtain ⟨g1, g2, g3, g4, g5, g6, g7⟩ := fin2 ws1 (upd Hn wl (.lst ((ws1.map V.int).set 0 (.int ws1[0])))) (by rw [em0, e0]; exact upd_same) (k2 _) l1 b1 (by rw [ew1]; exact last_setL v1n) cz
                refine ⟨_, rfl, wl, _, 0, _, rfl, rfl, SqL.of gn, at0, ?_⟩
                refine ⟨_, rfl, wl, _, 0, 0, rfl, rfl, gn, ix0, ?_⟩
                exact ⟨_, rfl, _, rfl, _, rfl, by show 3 ≤ sizeLine; decide, fin _ _ _ _ g1 g2 g3 g4 g5 g6 g7⟩
            · have d2' : -1 ≤ ws.getLast ne := by simpa using d2
              refine ⟨_, _, rfl, rfl, _, rfl, 1, rfl, wl, _, _, ws.length - 1, rfl, rfl, gwe, ixL, ?_⟩
              have em : (ws.map V.int).set (ws.length - 1) (.int (ws.getLast ne - 1 + 0)) = (ws.set (ws.length - 1) (ws.getLast ne - 1 + 0)).map V.int := by rw [List.map_set]
              have v1n : (ws.getLast ne - 1 + 0) ≠ 0 := by omega
              have v1b : (ws.getLast ne - 1 + 0).natAbs < 2 ^ 39 + 13 := by omega
              obtain ⟨Hy, eHy⟩ : ∃ Hy, Hy = upd Hx wl (.lst ((ws.map V.int).set (ws.length - 1) (.int (ws.getLast ne - 1 + 0)))) := ⟨_, rfl⟩
              rw [← eHy]
              rw [em] at eHy
              obtain ⟨ws1, ew1⟩ : ∃ ws1, ws1 = ws.set (ws.length - 1) (ws.getLast ne - 1 + 0) := ⟨_, rfl⟩
              have l1 : ws1.length = ws.length := by rw [ew1]; simp
              have gy : Hy wl = some (.lst (ws1.map V.int)) := by rw [eHy, ew1]; exact upd_same
              have ky : Kp [wl] Hx Hy := by rw [eHy]; exact Kp.rfl'.put (by simp)
              have b1 : ∀ n ∈ ws1, n.natAbs < 2 ^ 39 + 13 := fun n hn => by
                rw [ew1] at hn
                rcases List.mem_or_eq_of_mem_set hn with y | y
                · exact bW n y
                · rw [y]; exact v1b
              have hty := ky _ _ htx (by simpa using ntw)
              have hway := ky _ _ hwx (by simpa using nww)
              have hpos : 0 < ws1.length := by omega
              refine ⟨_, rfl, _, rfl, t, _, 2, _, rfl, rfl, SqT.of hty, rfl, wa, ws.map V.int, rfl, .inl (SqL.of hway), fun nl hnl => ?_⟩
              have kn : ∀ cs, Kp cs Hy (upd Hy nl (.lst (ws.map V.int))) := fun cs => Kp.rfl'.new hnl
              have gn := kn [] _ _ gy (by simp)
              have kyn : Kp [wl] Hx (upd Hy nl (.lst (ws.map V.int))) := ky.trans (kn _)
              refine ⟨dI ws1, dI ws, dpL gn (fun n hn => by have := b1 n hn; omega), dpL upd_same (fun n hn => by have := bW n hn; omega), shL _, shL _, _, rfl, ?_⟩
              generalize upd Hy nl (.lst (ws.map V.int)) = Hn at kn gn kyn ⊢
              have at0 : atI (ws1.map V.int) (0 : Int) = some (.int (ws1[0])) := atI_nat (j := 0) (by simp [hpos])
              have ix0 : ixN (ws1.map V.int).length (0 : Int) = some 0 := ixN_nat (j := 0) (by simpa using hpos)
              rw [eqvL]
              have em0 : ∀ y : Int, (ws1.map V.int).set 0 (.int y) = (ws1.set 0 y).map V.int := fun y => by rw [List.map_set]
              have k2 : ∀ o, Kp [wl] Hx (upd Hn wl o) := fun o => kyn.put (by simp)
              by_cases cz : ws1 = ws
              · refine iteN (by simp [cz]) ?_
                have lst1 : ∀ h : ws1 ≠ [], ws1.getLast h ≠ 0 := by rw [cz]; exact hok.last
                have ff : ∀ y : Int, y ≠ 0 → y ≠ ws1[0] → y.natAbs < 2 ^ 39 + 13 → _ := fun y y0 y1 yb => fin2 (ws1.set 0 y) (upd Hn wl (.lst ((ws1.map V.int).set 0 (.int y)))) (by rw [em0]; exact upd_same) (k2 _) (by simp [l1]) (fun n hn => (List.mem_or_eq_of_mem_set hn).elim (b1 n) fun z => by rw [z]; exact yb) (last_set0 y0 lst1) (fun z => set_ne hpos y1 (z.trans cz.symm))
                have b0 := bW ws1[0] (by rw [← cz]; exact List.getElem_mem hpos)
                refine ⟨_, rfl, wl, _, 0, _, rfl, rfl, SqL.of gn, at0, rfl, _, rfl, ite2 (fun c0 => ?_) (fun c0 => ?_)⟩
                · have c0' : ws1[0] ≠ 0 := by simpa using c0
                  obtain ⟨g1, g2, g3, g4, g5, g6, g7⟩ := ff (-ws1[0]) (by omega) (by omega) (by omega)
                  refine ⟨_, rfl, wl, _, 0, _, rfl, rfl, SqL.of gn, at0, _, rfl, ?_⟩
                  refine ⟨_, rfl, wl, _, 0, 0, rfl, rfl, gn, ix0, ?_⟩
                  exact ⟨_, rfl, _, rfl, _, rfl, by show 3 ≤ sizeLine; decide, fin _ _ _ _ g1 g2 g3 g4 g5 g6 g7⟩
                · have c0' : ws1[0] = 0 := by simpa using c0
                  obtain ⟨g1, g2, g3, g4, g5, g6, g7⟩ := ff 1 (by omega) (by omega) (by omega)
                  refine ⟨_, rfl, wl, _, 0, 0, rfl, rfl, gn, ix0, ?_⟩
                  exact ⟨_, rfl, _, rfl, _, rfl, by show 3 ≤ sizeLine; decide, fin _ _ _ _ g1 g2 g3 g4 g5 g6 g7⟩
              · refine iteC (by simp [cz]) ?_
                have e0 : ws1.set 0 ws1[0] = ws1 := List.set_getElem_self hpos
                obtain ⟨g1, g2, g3, g4, g5, g6, g7⟩ := fin2 ws1 (upd Hn wl (.lst ((ws1.map V.int).set 0 (.int ws1[0])))) (by rw [em0, e0]; exact upd_same) (k2 _) l1 b1 (by rw [ew1]; exact last_setL v1n) cz
                refine ⟨_, rfl, wl, _, 0, _, rfl, rfl, SqL.of gn, at0, ?_⟩
                refine ⟨_, rfl, wl, _, 0, 0, rfl, rfl, gn, ix0, ?_⟩
                exact ⟨_, rfl, _, rfl, _, rfl, by show 3 ≤ sizeLine; decide, fin _ _ _ _ g1 g2 g3 g4 g5 g6 g7⟩
          · have d1' : ws.getLast ne ≤ 1 := by simpa using d1
            refine ⟨_, _, rfl, rfl, _, rfl, 1, rfl, wl, _, _, _, rfl, rfl, SqL.of gwe, atL, 1, rfl, _, _, rfl, rfl, _, rfl, ite2 (fun d2 => ?_) (fun d2 => ?_)⟩
            · have d2' : ws.getLast ne < -1 := by simpa using d2
              refine ⟨_, _, rfl, rfl, _, rfl, 1, rfl, wl, _, _, ws.length - 1, rfl, rfl, gwe, ixL, ?_⟩
              have em : (ws.map V.int).set (ws.length - 1) (.int (ws.getLast ne - 0 + 1)) = (ws.set (ws.length - 1) (ws.getLast ne - 0 + 1)).map V.int := by rw [List.map_set]
              have v1n : (ws.getLast ne - 0 + 1) ≠ 0 := by omega
              have v1b : (ws.getLast ne - 0 + 1).natAbs < 2 ^ 39 + 13 := by omega
              obtain ⟨Hy, eHy⟩ : ∃ Hy, Hy = upd Hx wl (.lst ((ws.map V.int).set (ws.length - 1) (.int (ws.getLast ne - 0 + 1)))) := ⟨_, rfl⟩
              rw [← eHy]
              rw [em] at eHy
              obtain ⟨ws1, ew1⟩ : ∃ ws1, ws1 = ws.set (ws.length - 1) (ws.getLast ne - 0 + 1) := ⟨_, rfl⟩
              have l1 : ws1.length = ws.length := by rw [ew1]; simp
              have gy : Hy wl = some (.lst (ws1.map V.int)) := by rw [eHy, ew1]; exact upd_same
              have ky : Kp [wl] Hx Hy := by rw [eHy]; exact Kp.rfl'.put (by simp)
              have b1 : ∀ n ∈ ws1, n.natAbs < 2 ^ 39 + 13 := fun n hn => by
                rw [ew1] at hn
                rcases List.mem_or_eq_of_mem_set hn with y | y
                · exact bW n y
                · rw [y]; exact v1b
              have hty := ky _ _ htx (by simpa using ntw)
              have hway := ky _ _ hwx (by simpa using nww)
              have hpos : 0 < ws1.length := by omega
              refine ⟨_, rfl, _, rfl, t, _, 2, _, rfl, rfl, SqT.of hty, rfl, wa, ws.map V.int, rfl, .inl (SqL.of hway), fun nl hnl => ?_⟩
              have kn : ∀ cs, Kp cs Hy (upd Hy nl (.lst (ws.map V.int))) := fun cs => Kp.rfl'.new hnl
              have gn := kn [] _ _ gy (by simp)
              have kyn : Kp [wl] Hx (upd Hy nl (.lst (ws.map V.int))) := ky.trans (kn _)
              refine ⟨dI ws1, dI ws, dpL gn (fun n hn => by have := b1 n hn; omega), dpL upd_same (fun n hn => by have := bW n hn; omega), shL _, shL _, _, rfl, ?_⟩
              generalize upd Hy nl (.lst (ws.map V.int)) = Hn at kn gn kyn ⊢
              have at0 : atI (ws1.map V.int) (0 : Int) = some (.int (ws1[0])) := atI_nat (j := 0) (by simp [hpos])
              have ix0 : ixN (ws1.map V.int).length (0 : Int) = some 0 := ixN_nat (j := 0) (by simpa using hpos)
              rw [eqvL]
              have em0 : ∀ y : Int, (ws1.map V.int).set 0 (.int y) = (ws1.set 0 y).map V.int := fun y => by rw [List.map_set]
              have k2 : ∀ o, Kp [wl] Hx (upd Hn wl o) := fun o => kyn.put (by simp)
              by_cases cz : ws1 = ws
              · refine iteN (by simp [cz]) ?_
                have lst1 : ∀ h : ws1 ≠ [], ws1.getLast h ≠ 0 := by rw [cz]; exact hok.last
                have ff : ∀ y : Int, y ≠ 0 → y ≠ ws1[0] → y.natAbs < 2 ^ 39 + 13 → _ := fun y y0 y1 yb => fin2 (ws1.set 0 y) (upd Hn wl (.lst ((ws1.map V.int).set 0 (.int y)))) (by rw [em0]; exact upd_same) (k2 _) (by simp [l1]) (fun n hn => (List.mem_or_eq_of_mem_set hn).elim (b1 n) fun z => by rw [z]; exact yb) (last_set0 y0 lst1) (fun z => set_ne hpos y1 (z.trans cz.symm))
                have b0 := bW ws1[0] (by rw [← cz]; exact List.getElem_mem hpos)
                refine ⟨_, rfl, wl, _, 0, _, rfl, rfl, SqL.of gn, at0, rfl, _, rfl, ite2 (fun c0 => ?_) (fun c0 => ?_)⟩
                · have c0' : ws1[0] ≠ 0 := by simpa using c0
                  obtain ⟨g1, g2, g3, g4, g5, g6, g7⟩ := ff (-ws1[0]) (by omega) (by omega) (by omega)
                  refine ⟨_, rfl, wl, _, 0, _, rfl, rfl, SqL.of gn, at0, _, rfl, ?_⟩
                  refine ⟨_, rfl, wl, _, 0, 0, rfl, rfl, gn, ix0, ?_⟩
                  exact ⟨_, rfl, _, rfl, _, rfl, by show 3 ≤ sizeLine; decide, fin _ _ _ _ g1 g2 g3 g4 g5 g6 g7⟩
                · have c0' : ws1[0] = 0 := by simpa using c0
                  obtain ⟨g1, g2, g3, g4, g5, g6, g7⟩ := ff 1 (by omega) (by omega) (by omega)
                  refine ⟨_, rfl, wl, _, 0, 0, rfl, rfl, gn, ix0, ?_⟩
                  exact ⟨_, rfl, _, rfl, _, rfl, by show 3 ≤ sizeLine; decide, fin _ _ _ _ g1 g2 g3 g4 g5 g6 g7⟩
              · refine iteC (by simp [cz]) ?_
                have e0 : ws1.set 0 ws1[0] = ws1 := List.set_getElem_self hpos
                obtain ⟨g1, g2, g3, g4, g5, g6, g7⟩ := fin2 ws1 (upd Hn wl (.lst ((ws1.map V.int).set 0 (.int ws1[0])))) (by rw [em0, e0]; exact upd_same) (k2 _) l1 b1 (by rw [ew1]; exact last_setL v1n) cz
                refine ⟨_, rfl, wl, _, 0, _, rfl, rfl, SqL.of gn, at0, ?_⟩
                refine ⟨_, rfl, wl, _, 0, 0, rfl, rfl, gn, ix0, ?_⟩
                exact ⟨_, rfl, _, rfl, _, rfl, by show 3 ≤ sizeLine; decide, fin _ _ _ _ g1 g2 g3 g4 g5 g6 g7⟩
            · have d2' : -1 ≤ ws.getLast ne := by simpa using d2
              refine ⟨_, _, rfl, rfl, _, rfl, 1, rfl, wl, _, _, ws.length - 1, rfl, rfl, gwe, ixL, ?_⟩
              have em : (ws.map V.int).set (ws.length - 1) (.int (ws.getLast ne - 0 + 0)) = (ws.set (ws.length - 1) (ws.getLast ne - 0 + 0)).map V.int := by rw [List.map_set]
              have v1n : (ws.getLast ne - 0 + 0) ≠ 0 := by omega
              have v1b : (ws.getLast ne - 0 + 0).natAbs < 2 ^ 39 + 13 := by omega
              obtain ⟨Hy, eHy⟩ : ∃ Hy, Hy = upd Hx wl (.lst ((ws.map V.int).set (ws.length - 1) (.int (ws.getLast ne - 0 + 0)))) := ⟨_, rfl⟩
              rw [← eHy]
              rw [em] at eHy
              obtain ⟨ws1, ew1⟩ : ∃ ws1, ws1 = ws.set (ws.length - 1) (ws.getLast ne - 0 + 0) := ⟨_, rfl⟩
              have l1 : ws1.length = ws.length := by rw [ew1]; simp
              have gy : Hy wl = some (.lst (ws1.map V.int)) := by rw [eHy, ew1]; exact upd_same
              have ky : Kp [wl] Hx Hy := by rw [eHy]; exact Kp.rfl'.put (by simp)
              have b1 : ∀ n ∈ ws1, n.natAbs < 2 ^ 39 + 13 := fun n hn => by
                rw [ew1] at hn
                rcases List.mem_or_eq_of_mem_set hn with y | y
                · exact bW n y
                · rw [y]; exact v1b
              have hty := ky _ _ htx (by simpa using ntw)
              have hway := ky _ _ hwx (by simpa using nww)
              have hpos : 0 < ws1.length := by omega
              refine ⟨_, rfl, _, rfl, t, _, 2, _, rfl, rfl, SqT.of hty, rfl, wa, ws.map V.int, rfl, .inl (SqL.of hway), fun nl hnl => ?_⟩
              have kn : ∀ cs, Kp cs Hy (upd Hy nl (.lst (ws.map V.int))) := fun cs => Kp.rfl'.new hnl
              have gn := kn [] _ _ gy (by simp)
              have kyn : Kp [wl] Hx (upd Hy nl (.lst (ws.map V.int))) := ky.trans (kn _)
              refine ⟨dI ws1, dI ws, dpL gn (fun n hn => by have := b1 n hn; omega), dpL upd_same (fun n hn => by have := bW n hn; omega), shL _, shL _, _, rfl, ?_⟩
              generalize upd Hy nl (.lst (ws.map V.int)) = Hn at kn gn kyn ⊢
              have at0 : atI (ws1.map V.int) (0 : Int) = some (.int (ws1[0])) := atI_nat (j := 0) (by simp [hpos])
              have ix0 : ixN (ws1.map V.int).length (0 : Int) = some 0 := ixN_nat (j := 0) (by simpa using hpos)
              rw [eqvL]
              have em0 : ∀ y : Int, (ws1.map V.int).set 0 (.int y) = (ws1.set 0 y).map V.int := fun y => by rw [List.map_set]
              have k2 : ∀ o, Kp [wl] Hx (upd Hn wl o) := fun o => kyn.put (by simp)
              by_cases cz : ws1 = ws
              · refine iteN (by simp [cz]) ?_
                have lst1 : ∀ h : ws1 ≠ [], ws1.getLast h ≠ 0 := by rw [cz]; exact hok.last
                have ff : ∀ y : Int, y ≠ 0 → y ≠ ws1[0] → y.natAbs < 2 ^ 39 + 13 → _ := fun y y0 y1 yb => fin2 (ws1.set 0 y) (upd Hn wl (.lst ((ws1.map V.int).set 0 (.int y)))) (by rw [em0]; exact upd_same) (k2 _) (by simp [l1]) (fun n hn => (List.mem_or_eq_of_mem_set hn).elim (b1 n) fun z => by rw [z]; exact yb) (last_set0 y0 lst1) (fun z => set_ne hpos y1 (z.trans cz.symm))
                have b0 := bW ws1[0] (by rw [← cz]; exact List.getElem_mem hpos)
                refine ⟨_, rfl, wl, _, 0, _, rfl, rfl, SqL.of gn, at0, rfl, _, rfl, ite2 (fun c0 => ?_) (fun c0 => ?_)⟩
                · have c0' : ws1[0] ≠ 0 := by simpa using c0
                  obtain ⟨g1, g2, g3, g4, g5, g6, g7⟩ := ff (-ws1[0]) (by omega) (by omega) (by omega)
                  refine ⟨_, rfl, wl, _, 0, _, rfl, rfl, SqL.of gn, at0, _, rfl, ?_⟩
                  refine ⟨_, rfl, wl, _, 0, 0, rfl, rfl, gn, ix0, ?_⟩
                  exact ⟨_, rfl, _, rfl, _, rfl, by show 3 ≤ sizeLine; decide, fin _ _ _ _ g1 g2 g3 g4 g5 g6 g7⟩
                · have c0' : ws1[0] = 0 := by simpa using c0
                  obtain ⟨g1, g2, g3, g4, g5, g6, g7⟩ := ff 1 (by omega) (by omega) (by omega)
                  refine ⟨_, rfl, wl, _, 0, 0, rfl, rfl, gn, ix0, ?_⟩
                  exact ⟨_, rfl, _, rfl, _, rfl, by show 3 ≤ sizeLine; decide, fin _ _ _ _ g1 g2 g3 g4 g5 g6 g7⟩
              · refine iteC (by simp [cz]) ?_
                have e0 : ws1.set 0 ws1[0] = ws1 := List.set_getElem_self hpos
                obtain ⟨g1, g2, g3, g4, g5, g6, g7⟩ := fin2 ws1 (upd Hn wl (.lst ((ws1.map V.int).set 0 (.int ws1[0])))) (by rw [em0, e0]; exact upd_same) (k2 _) l1 b1 (by rw [ew1]; exact last_setL v1n) cz
                refine ⟨_, rfl, wl, _, 0, _, rfl, rfl, SqL.of gn, at0, ?_⟩
                refine ⟨_, rfl, wl, _, 0, 0, rfl, rfl, gn, ix0, ?_⟩
                exact ⟨_, rfl, _, rfl, _, rfl, by show 3 ≤ sizeLine; decide, fin _ _ _ _ g1 g2 g3 g4 g5 g6 g7⟩
        · obtain ⟨a, ea, ma, ha, at1, ix1⟩ := LSe.ix hos
          have hg := hd.step _ (List.getElem_mem hos)
          have l1 := hg.l1
          have l4 := hg.l4
          have rest : ∀ (l : Addr) (r' : List Int) (Hz : Hp), Kp [] Hx Hz → Hx l = none → Hz l = some (.lst (r'.map V.int)) → Rung0 r' → (∀ n ∈ r', n.natAbs < 2 ^ 39 + 13) → r'.length ≠ (steps[on]).length → ∀ Hw, Hw = upd Hz c2x (.lst ((aS.map V.ref).set on (.ref l))) → D [b] Hw 13 2 (.ref c1) (dII rows) ∧ D [b] Hw 13 2 (.ref c2x) (dII (steps.set on r')) ∧ D [b] Hw 13 1 (.ref wl) (dI ws) ∧ HallOk rows (steps.set on r') ws ∧ ¬ (rows = rows ∧ steps.set on r' = steps ∧ ws = ws) ∧ Bx Hw b (n + 3) ∧ Kp [b] H Hw := by
            intro l r' Hz kz fl hl hr' br' nr' Hw eHw
            have em : (aS.map V.ref).set on (.ref l) = (aS.set on l).map V.ref := by rw [List.map_set]
            rw [em] at eHw
            have kw : Kp [c2x] Hx Hw := by
              rw [eHw]
              exact (kz.sub (by simp)).put (by simp)
            have LP' := LPe.keepO kw cPS.1.symm cPS.2.2.1
            have nlb : l ≠ b := fun z => by
              obtain ⟨_, _, _, e, _⟩ := id hBe.ex
              rw [← z, fl] at e
              cases e
            have nlc : l ≠ c2x := fun z => by
              rw [z, LSe.hp] at fl
              cases fl
            have gl : Hw l = some (.lst (r'.map V.int)) := by
              rw [eHw, upd_ne nlc]
              exact hl
            have r4 := hr'.l4
            have bS' := bset (i := on) bS ⟨show r'.length ≤ 13 by omega, br'⟩
            refine ⟨LP'.d (by omega) bP, .lst (by rw [eHw]; exact upd_same) LSe.pb (by simp [LSe.len]; omega) (DA.ofRows (by simp [LSe.len]) (fun x hx => ?_) (fun i x r ei er => ?_) bS'), D.ofInts (k := 0) (kw _ _ gwe (by simpa using nwS.1)) nwb2 (by omega) bW, ⟨hok.r1, hok.row, by simpa using hok.ls, bset hok.step hr', hok.w1, hok.w5, hok.last⟩, fun y => ?_, (hBe.keep kw ?_).up (by omega), k0e.step fc2 (kw.sub (by simp))⟩
            · rcases List.mem_or_eq_of_mem_set hx with z | z
              · exact LSe.nb x z
              · rw [z]
                simpa using nlb
            · rw [List.getElem?_set] at ei er
              by_cases z : on = i
              · rw [if_pos z, if_pos (by have := LSe.len; omega)] at ei
                rw [if_pos z, if_pos hos] at er
                cases ei
                cases er
                exact gl
              · rw [if_neg z] at ei er
                exact kw _ _ (LSe.row i x r ei er) (by simpa using fun y : x = c2x => LSe.np (by rw [← y]; exact List.mem_of_getElem? ei))
            · exact set_ne hos (fun z => nr' (by rw [z])) y.2.1
            · have := LSe.pb
              simpa using fun y : b = c2x => this (by rw [y]; simp)
          refine ⟨_, rfl, _, rfl, c2x, _, _, _, rfl, rfl, SqL.of LSe.hp, at1, ?_⟩
          refine ⟨_, rfl, _, (steps[on]).length, rfl, .inl ⟨_, SqL.of ha, by simp⟩, _, _, rfl, rfl, _, rfl, ite2 (fun cl => ?_) (fun cl => ?_)⟩
          · have cl' : 1 < (steps[on]).length := by
              have : (1 : Int) < ((steps[on]).length : Int) := by simpa using cl
              omega
            refine ⟨_, rfl, _, rfl, a, _, rfl, SqL.of ha, fun l hl => ?_⟩
            have ec : cutV ((steps[on]).map V.int) (some 1) none = ((steps[on]).drop 1).map V.int := by rw [cut_one, List.map_drop]
            rw [ec]
            have kz : Kp [] Hx (upd Hx l (.lst (((steps[on]).drop 1).map V.int))) := Kp.rfl'.new hl
            obtain ⟨g1, g2, g3, g4, g5, g6, g7⟩ := rest l ((steps[on]).drop 1) _ kz hl upd_same ⟨by simp; omega, by simp; omega, rises_drop hg.up⟩ (fun n hn => (bS _ (List.getElem_mem hos)).2 n (List.mem_of_mem_drop hn)) (by simp; omega) _ rfl
            refine ⟨_, rfl, _, rfl, c2x, _, _, on, rfl, rfl, kz _ _ LSe.hp (by simp), ix1, ?_⟩
            exact ⟨_, rfl, _, rfl, _, rfl, by show 3 ≤ sizeLine; decide, fin _ _ _ _ g1 g2 g3 g4 g5 g6 g7⟩
          · have cl' : (steps[on]).length = 1 := by
              have : ((steps[on]).length : Int) ≤ 1 := by simpa using cl
              omega
            have h0 : 0 < (steps[on]).length := by omega
            have at0 : atI ((steps[on]).map V.int) (0 : Int) = some (.int ((steps[on])[0])) := atI_nat (j := 0) (by simp [h0])
            refine ⟨_, rfl, _, rfl, a, _, 0, _, rfl, rfl, SqL.of ha, at0, _, _, rfl, rfl, by show 1 ≤ sizeLine; decide, fun l1 hl1 => ?_⟩
            have k1 : ∀ cs, Kp cs Hx (upd Hx l1 (.lst [.int ((steps[on])[0] + 1)])) := fun cs => Kp.rfl'.new hl1
            refine ⟨a, l1, _, _, rfl, rfl, k1 [] _ _ ha (by simp), upd_same, by simp only [List.length_map, List.length_cons, List.length_nil]; exact Nat.le_of_lt (small1000 (by omega)), fun l hl => ?_⟩
            have ec : (steps[on]).map V.int ++ [.int ((steps[on])[0] + 1)] = ((steps[on]) ++ [(steps[on])[0] + 1]).map V.int := by simp
            rw [ec]
            have kz : Kp [] Hx (upd (upd Hx l1 (.lst [.int ((steps[on])[0] + 1)])) l (.lst (((steps[on]) ++ [(steps[on])[0] + 1]).map V.int))) := (k1 []).new hl
            have ne : steps[on] ≠ [] := fun z => by
              have := hg.l1
              rw [z] at this
              cases this
            have e0 : (steps[on]).getLast ne = (steps[on])[0] := by
              rw [List.getLast_eq_getElem]
              congr 1
              omega
            have b0 := hg.bd _ (List.getElem_mem h0)
            obtain ⟨g1, g2, g3, g4, g5, g6, g7⟩ := rest l ((steps[on]) ++ [(steps[on])[0] + 1]) _ kz ((k1 []).free hl (by simp)) upd_same ⟨by simp, by simp; omega, rises_snoc hg.up ne (by rw [e0]; omega)⟩ (fun n hn => (List.mem_append.mp hn).elim ((bS _ (List.getElem_mem hos)).2 n) fun z => by rw [List.mem_singleton.mp z]; omega) (by simp) _ rfl
            refine ⟨_, rfl, _, rfl, c2x, _, _, on, rfl, rfl, kz _ _ LSe.hp (by simp), ix1, ?_⟩
            exact ⟨_, rfl, _, rfl, _, rfl, by show 3 ≤ sizeLine; decide, fin _ _ _ _ g1 g2 g3 g4 g5 g6 g7⟩

end
end Sw

set_option maxHeartbeats 2000000
namespace Sw
open PySem PySem.Spec PyProof.Rows L2
section
variable {P : Program} {w : World} {K : PySem.W.Frag} {mg : Str → Option Value} {base : Heap}
theorem seq_cut {ta tb : TS} {D : Ends} {σ : L2.St} {H : Hp} (Iv : L2.St → Hp → Prop) (main : ∀ σ' H', Iv σ' H' → tb D σ' H') (h : ∀ nx : L2.St → Hp → Prop, (∀ σ' H', Iv σ' H' → nx σ' H') → ta { D with nx := nx } σ H) : tSeq ta tb D σ H := h _ main
/-! ### what a thing stands on -/
mutual
theorem D.foot {bs : List Addr} {H : Hp} {w : Nat} : ∀ {k : Nat} {v : V} {d : PyData}, D bs H w k v d → ∃ L : List Addr, (∀ a ∈ L, (∃ o, H a = some o) ∧ a ∉ bs) ∧ ∀ H', (∀ a ∈ L, ∀ o, H a = some o → H' a = some o) → D bs H' w k v d
  | _, _, _, .non => ⟨[], by simp, fun _ _ => .non⟩
  | _, _, _, .bl b => ⟨[], by simp, fun _ _ => .bl b⟩
  | _, _, _, .int i h => ⟨[], by simp, fun _ _ => .int i h⟩
  | _, _, _, .str y h => ⟨[], by simp, fun _ _ => .str y h⟩
  | _, _, _, .lst (a := a) h n l t => by
    obtain ⟨L, s, f⟩ := DA.foot t
    exact ⟨a :: L, fun x hx => (List.mem_cons.mp hx).elim (fun z => by rw [z]; exact ⟨⟨_, h⟩, n⟩) (s x), fun H' q => .lst (q a (by simp) _ h) n l (f H' fun x hx => q x (List.mem_cons_of_mem _ hx))⟩
  | _, _, _, .tup (a := a) h n l t => by
    obtain ⟨L, s, f⟩ := DA.foot t
    exact ⟨a :: L, fun x hx => (List.mem_cons.mp hx).elim (fun z => by rw [z]; exact ⟨⟨_, h⟩, n⟩) (s x), fun H' q => .tup (q a (by simp) _ h) n l (f H' fun x hx => q x (List.mem_cons_of_mem _ hx))⟩
theorem DA.foot {bs : List Addr} {H : Hp} {w : Nat} : ∀ {k : Nat} {v : List V} {d : List PyData}, DA bs H w k v d → ∃ L : List Addr, (∀ a ∈ L, (∃ o, H a = some o) ∧ a ∉ bs) ∧ ∀ H', (∀ a ∈ L, ∀ o, H a = some o → H' a = some o) → DA bs H' w k v d
  | _, _, _, .nil => ⟨[], by simp, fun _ _ => .nil⟩
  | _, _, _, .cons h t => by
    obtain ⟨L, s, f⟩ := D.foot h
    obtain ⟨M, r, g⟩ := DA.foot t
    exact ⟨L ++ M, fun x hx => (List.mem_append.mp hx).elim (s x) (r x), fun H' q => .cons (f H' fun x hx => q x (List.mem_append_left _ hx)) (g H' fun x hx => q x (List.mem_append_right _ hx))⟩
end
/-- tuples of tuples of numbers stay whatever lists do -/
theorem DA.keepI {bs : List Addr} {H H' : Hp} {w k : Nat} : ∀ {ns : List Int} {vs : List V}, DA bs H w k vs (ns.map PyData.int) → DA bs H' w k vs (ns.map PyData.int)
  | [], _, .nil => .nil
  | _ :: _, _, .cons (.int i h) t => .cons (.int i h) (DA.keepI t)
theorem D.keepT {bs cs : List Addr} {H H' : Hp} {w k : Nat} {v : V} {ns : List Int} (x : D bs H w k v (dT ns)) (q : Kq cs H H') : D bs H' w k v (dT ns) := by
  cases x with
  | tup h n l t => exact .tup (q _ _ h (.inr fun xs z => nomatch z)) n l (DA.keepI t)
theorem DA.keepT {bs cs : List Addr} {H H' : Hp} {w k : Nat} (q : Kq cs H H') : ∀ {rs : List (List Int)} {vs : List V}, DA bs H w k vs (rs.map dT) → DA bs H' w k vs (rs.map dT)
  | [], _, .nil => .nil
  | _ :: _, _, .cons h t => .cons (h.keepT q) (DA.keepT q t)
theorem D.keepTT {bs cs : List Addr} {H H' : Hp} {w k : Nat} {v : V} {rs : List (List Int)} (x : D bs H w k v (dTT rs)) (q : Kq cs H H') : D bs H' w k v (dTT rs) := by
  cases x with
  | tup h n l t => exact .tup (q _ _ h (.inr fun xs z => nomatch z)) n l (DA.keepT q t)
theorem HallAt.keepQ {bs cs : List Addr} {H H' : Hp} {w' : Nat} {x : Addr} {rows steps : List (List Int)} {ws : List Int} (h : HallAt K bs H w' x rows steps ws) (q : Kq cs H H') : HallAt K bs H' w' x rows steps ws := by
  obtain ⟨dx, a1, a2, a3, e, n, d1, d2, d3⟩ := h.ex
  exact ⟨dx, a1, a2, a3, q _ _ e (.inr fun xs z => nomatch z), n, d1.keepTT q, d2.keepTT q, d3.keepT q⟩
/-! ### what is handed in, each piece by itself -/
structure P2 (cs : List Addr) (H : Hp) (a : Addr) (kd : Bool) (as : List Addr) (rows : List (List Int)) : Prop where
  ha : H a = some (sqo kd (as.map V.ref))
  nas : a ∉ as
  len : as.length = rows.length
  row : ∀ (i : Nat) (c : Addr) (r : List Int), as[i]? = some c → rows[i]? = some r → ∃ kd', H c = some (sqo kd' (r.map V.int))
  off : ∀ x ∈ a :: as, x ∉ cs
theorem refs_of : ∀ {xs : List V}, (∀ y ∈ xs, ∃ c, y = V.ref c) → ∃ as : List Addr, xs = as.map V.ref
  | [], _ => ⟨[], rfl⟩
  | y :: xs, h => by
    obtain ⟨c, rfl⟩ := h y (by simp)
    obtain ⟨as, e⟩ := refs_of (xs := xs) fun z hz => h z (List.mem_cons_of_mem _ hz)
    exact ⟨c :: as, by rw [e]; rfl⟩
theorem I2.p2 {cs : List Addr} {H : Hp} {v : V} {rows : List (List Int)} (x : I2 cs H v rows) : ∃ a kd as, v = .ref a ∧ P2 cs H a kd as rows := by
  obtain ⟨a, kd, xs, e, ha, na, l, al⟩ := x.ex
  have one : ∀ y ∈ xs, ∃ (i : Nat) (r : List Int), xs[i]? = some y ∧ rows[i]? = some r ∧ I1 (a :: cs) H y r := fun y hy => by
    obtain ⟨i, hi, e⟩ := List.getElem_of_mem hy
    have h2 : i < rows.length := by omega
    have g1 : xs[i]? = some y := by rw [List.getElem?_eq_getElem hi, e]
    have g2 : rows[i]? = some rows[i] := by simp
    exact ⟨i, _, g1, g2, al i y _ g1 g2⟩
  obtain ⟨as, eas⟩ := refs_of (xs := xs) fun y hy => by
    obtain ⟨i, r, _, _, h⟩ := one y hy
    obtain ⟨c, _, e, _⟩ := h.ex
    exact ⟨c, e⟩
  subst eas
  have off : ∀ c ∈ as, c ∉ a :: cs := fun c hc => by
    obtain ⟨i, r, _, _, h⟩ := one (.ref c) (List.mem_map.mpr ⟨c, hc, rfl⟩)
    obtain ⟨c', _, e, _, n⟩ := h.ex
    cases e
    exact n
  refine ⟨a, kd, as, e, ha, fun m => off a m (by simp), by simpa using l, fun i c r hc hr => ?_, fun x hx => (List.mem_cons.mp hx).elim (fun z => by rw [z]; exact na) fun z m => off x z (List.mem_cons_of_mem _ m)⟩
  obtain ⟨c', kd', e, h, _⟩ := (al i (.ref c) r (by rw [List.getElem?_map, hc]; rfl) hr).ex
  cases e
  exact ⟨kd', h⟩
theorem P2.keepL {cs : List Addr} {H H' : Hp} {a : Addr} {kd : Bool} {as : List Addr} {rows : List (List Int)} (h : P2 cs H a kd as rows) (q : ∀ x ∈ a :: as, ∀ o, H x = some o → H' x = some o) : P2 cs H' a kd as rows :=
  ⟨q a (by simp) _ h.ha, h.nas, h.len, fun i c r e1 e2 => by
    obtain ⟨kd', e⟩ := h.row i c r e1 e2
    exact ⟨kd', q c (List.mem_cons_of_mem _ (List.mem_of_getElem? e1)) _ e⟩, h.off⟩
theorem P2.keep {cs bs : List Addr} {H H' : Hp} {a : Addr} {kd : Bool} {as : List Addr} {rows : List (List Int)} (h : P2 cs H a kd as rows) (k : Kp bs H H') (s : ∀ x, x ∈ bs → x ∈ cs) : P2 cs H' a kd as rows :=
  h.keepL fun x hx o e => k x o e fun m => h.off x hx (s x m)
theorem P2.wide {cs ds : List Addr} {H : Hp} {a : Addr} {kd : Bool} {as : List Addr} {rows : List (List Int)} (h : P2 cs H a kd as rows) (q : ∀ x ∈ a :: as, x ∉ ds) : P2 ds H a kd as rows := ⟨h.ha, h.nas, h.len, h.row, q⟩
theorem P2.std {cs : List Addr} {H : Hp} {a : Addr} {kd : Bool} {as : List Addr} {rows : List (List Int)} (h : P2 cs H a kd as rows) : ∀ x ∈ a :: as, ∃ o, H x = some o := fun x hx => by
  rcases List.mem_cons.mp hx with z | z
  · exact ⟨_, by rw [z]; exact h.ha⟩
  · obtain ⟨i, hi, e⟩ := List.getElem_of_mem z
    have h2 : i < rows.length := by
      have := h.len
      omega
    obtain ⟨kd', e2⟩ := h.row i x rows[i] (by rw [List.getElem?_eq_getElem hi, e]) (by simp)
    exact ⟨_, e2⟩
theorem DA.ofP {cs : List Addr} {H : Hp} {w : Nat} : ∀ {as : List Addr} {rows : List (List Int)}, as.length = rows.length → (∀ (i : Nat) (c : Addr) (r : List Int), as[i]? = some c → rows[i]? = some r → ∃ kd', H c = some (sqo kd' (r.map V.int))) → (∀ x ∈ as, x ∉ cs) →
    (∀ r ∈ rows, r.length ≤ w ∧ ∀ n ∈ r, n.natAbs < 2 ^ 39 + w) → ∃ ds, DA cs H w 1 (as.map V.ref) ds ∧ ds.length = rows.length ∧ ∀ (i : Nat) (e : PyData) (r : List Int), ds[i]? = some e → rows[i]? = some r → IntsD e r
  | [], [], _, _, _, _ => ⟨[], .nil, rfl, fun i e r h => by simp at h⟩
  | [], _ :: _, l, _, _, _ => nomatch l
  | _ :: _, [], l, _, _, _ => nomatch l
  | a :: as, r :: rows, l, hr, off, hb => by
    obtain ⟨ds, h1, h2, h3⟩ := DA.ofP (as := as) (rows := rows) (by simpa using l) (fun i c r e1 e2 => hr (i + 1) c r (by simpa using e1) (by simpa using e2)) (fun x hx => off x (List.mem_cons_of_mem _ hx)) fun r hx => hb r (List.mem_cons_of_mem _ hx)
    obtain ⟨kd, e⟩ := hr 0 a r rfl rfl
    obtain ⟨b1, b2⟩ := hb r (by simp)
    refine ⟨mkD kd (r.map PyData.int) :: ds, .cons (D.ofSeq e (off a (by simp)) (by simpa using b1) (DA.ofInts b2)) h1, by simp [h2], fun i e r' he hr' => ?_⟩
    cases i with
    | zero =>
      cases he
      cases hr'
      exact ⟨kd, rfl⟩
    | succ i => exact h3 i e r' (by simpa using he) (by simpa using hr')
theorem P2.d {cs : List Addr} {H : Hp} {w : Nat} {a : Addr} {kd : Bool} {as : List Addr} {rows : List (List Int)} (h : P2 cs H a kd as rows) (lw : rows.length ≤ w) (hb : ∀ r ∈ rows, r.length ≤ w ∧ ∀ n ∈ r, n.natAbs < 2 ^ 39 + w) : ∃ d, D cs H w 2 (.ref a) d ∧ RowsD d rows := by
  obtain ⟨ds, h1, h2, h3⟩ := DA.ofP (cs := cs) h.len h.row (fun x hx => h.off x (List.mem_cons_of_mem _ hx)) hb
  exact ⟨mkD kd ds, D.ofSeq h.ha (h.off a (by simp)) (by simpa [h.len] using lw) h1, kd, ds, rfl, h2, h3⟩
theorem P2.sp {cs : List Addr} {H : Hp} {a : Addr} {kd : Bool} {as : List Addr} {rows : List (List Int)} (h : P2 cs H a kd as rows) (hb : ∀ r ∈ rows, r.length ≤ 100) : ∀ y ∈ as.map V.ref, ∃ ns, I1 (a :: cs) H y ns ∧ ns.length ≤ 100 := fun y hy => by
  obtain ⟨c, hc, rfl⟩ := List.mem_map.mp hy
  obtain ⟨i, hi, e⟩ := List.getElem_of_mem hc
  have h2 : i < rows.length := by
    have := h.len
    omega
  obtain ⟨kd', e2⟩ := h.row i c rows[i] (by rw [List.getElem?_eq_getElem hi, e]) (by simp)
  exact ⟨rows[i], ⟨c, kd', rfl, e2, fun m => (List.mem_cons.mp m).elim (fun z => h.nas (z ▸ hc)) (h.off c (List.mem_cons_of_mem _ hc))⟩, hb _ (List.getElem_mem h2)⟩
theorem I1.d {cs : List Addr} {H : Hp} {w : Nat} {v : V} {ns : List Int} (x : I1 cs H v ns) (lw : ns.length ≤ w) (hb : ∀ n ∈ ns, n.natAbs < 2 ^ 39 + w) : ∃ d, D cs H w 1 v d ∧ IntsD d ns := by
  obtain ⟨a, kd, rfl, h, n⟩ := x.ex
  exact ⟨mkD kd (ns.map PyData.int), D.ofSeq h n (by simpa using lw) (DA.ofInts hb), kd, rfl⟩
/-! ### own == within a comprehension -/
section
variable {X : Cx} {k : Nat} {f C : Addr} {fd : FuncData} {ps : List Str} {sp : Sp} {K : PySem.W.Frag}
theorem kEqO (h : X.K = K) (M : Meth X.K C "__eq__" f) (F : FnOk X.prog X.w X.K X.mg X.base CX0 k f fd ps sp) (hr : Room (k + 1) X.A) (hb : Binds X.K fd ps []) : OpR X (compareOp .Eq) (rCmpO K C sp id) := by
  subst h
  exact op_eqO M F hr hb
theorem kNeO (h : X.K = K) (M : Meth X.K C "__eq__" f) (hne : PySem.W.findIn X.K (.ref C) "__ne__" = some (some (.builtin "object.__ne__"))) (hob : PySem.W.subIn X.K (.ref C) (.type "object") = some true)
    (F : FnOk X.prog X.w X.K X.mg X.base CX0 k f fd ps sp) (hr : Room (k + 1) X.A) (hb : Binds X.K fd ps []) : OpR X (compareOp .NotEq) (rCmpO K C sp not) := by
  subst h
  exact op_neO M hne hob F hr hb
end
/-! ### names -/
def sw3 {α : Type} : List α → List α
  | [a, b, c] => [c, b, a]
  | l => l
theorem sw3_rel {zs : List V} {ws : List Value} (r : Vals zs ws) : Vals (sw3 zs) (sw3 ws) := by
  cases r with
  | nil => exact .nil
  | cons h t => cases t with
    | nil => exact .cons h .nil
    | cons h2 t => cases t with
      | nil => exact .cons h (.cons h2 .nil)
      | cons h3 t => cases t with
        | nil => exact .cons h3 (.cons h2 (.cons h .nil))
        | cons h4 t => exact .cons h (.cons h2 (.cons h3 (.cons h4 t)))
theorem kb_Hall {f : Addr} {fd : FuncData} (F : FunD K "__init__" "Hall.__init__" (defArgs s_Hall___init__) (defBody s_Hall___init__) (defScope s_Hall___init__) [V.ref (He.dflAt ("Hall", some "__init__") 0 K)] [] f fd) : ∃ its : List Value, KBn K fd p_Hall___init__ 1 ["memory", "steps", "strings"] (fun us ws => us ++ sw3 ws) (fun vs zs => vs ++ sw3 zs) := by
  obtain ⟨its, h⟩ := F.kbindsD (ps := p_Hall___init__) 1 ["memory", "steps", "strings"] (fun us _ ws => us ++ sw3 ws) (by simp) (fun r1 _ r2 => r1.append (sw3_rel r2)) (fun T kV doc pm an cdv ct us its ws h1 h2 h3 => match us, its, ws, h1, h2, h3 with | [_], [_], [_, _, _], _, _, _ => ⟨_, rfl, rfl⟩)
  exact ⟨its, h⟩
/-! ### the memory that was left out, against (1,) -/
def sp_sameK (K : PySem.W.Frag) : Sp := fun vs H Q _ => ∃ a b, vs = [.ref a, .ref b] ∧ DfT K a ∧ H b = some (.tup [.int 1]) ∧ ∀ H', Kp [] H H' → Q (.bl true) H'
theorem ok_sameK (T : Tx K mg) : FnOk P w K mg base CX0 6 (He.fAd K ("_law_same", none)) T.fd__law_same p__law_same (sp_sameK K) := by
  have G__law_same := ok_same (P := P) (w := w) (base := base) T 4
  refine T.F__law_same.ok sc__law_same (fun vs H Q E h => ?_) (fun cdv A outer s H vs Q E hr h => ?_)
  · obtain ⟨_, _, rfl, _⟩ := h
    rfl
  · obtain ⟨a, b, rfl, hd, hb, q⟩ := h
    refine ⟨_, PSs.nox (pss_cons (ps_if (pt_val (pe_callB call_isiT (by rfl) T.b_isinstance (by decide +kernel) (pa_cons (pv 1) (pa_cons (pe_tup (pa_cons (pe_bltn (v := .ty "list") (by rfl) T.b_list (by decide +kernel) rfl) (pa_cons (pe_bltn (v := .ty "tuple") (by rfl) T.b_tuple (by decide +kernel) rfl) pa_nil))) pa_nil))))
      (pss_cons (ps_if (PW.pt (pw_or (pt_cmpR op_ne (pe_callB call_isi (by rfl) T.b_isinstance (by decide +kernel) (pa_cons (pv 0) (pa_cons (pe_bltn (v := .ty "list") (by rfl) T.b_list (by decide +kernel) rfl) pa_nil))) (pe_callB call_isi (by rfl) T.b_isinstance (by decide +kernel) (pa_cons (pv 1) (pa_cons (pe_bltn (v := .ty "list") (by rfl) T.b_list (by decide +kernel) rfl) pa_nil))) (nomark _)) (pw_or1 (pt_cmpR op_ne (pe_callB call_isi (by rfl) T.b_isinstance (by decide +kernel) (pa_cons (pv 0) (pa_cons (pe_bltn (v := .ty "tuple") (by rfl) T.b_tuple (by decide +kernel) rfl) pa_nil))) (pe_callB call_isi (by rfl) T.b_isinstance (by decide +kernel) (pa_cons (pv 1) (pa_cons (pe_bltn (v := .ty "tuple") (by rfl) T.b_tuple (by decide +kernel) rfl) pa_nil))) (nomark _)))))
      (pss_one (ps_ret pe_bl))
      pss_nil)
      (pss_one (ps_ret (pe_and (pe_cmpR op_eq (pe_callB call_len (by rfl) T.b_len (by decide +kernel) (pa_cons (pv 0) pa_nil)) (pe_callB call_len (by rfl) T.b_len (by decide +kernel) (pa_cons (pv 1) pa_nil)) (nomark _)) (pe_one (pe_callB (cr_all rfl) (by rfl) T.b_all (by decide +kernel) (pa_cons (pe_lc (own := [("_law_one", 2), ("_law_two", 3)]) (g := (gTup K 2 (gCons (gName 2) (gCons (gName 3) gNil)))) (tt := tYes) rfl sc__law_same.nd (pi_zipS (by rfl) T.b_zip (pa_cons (pv 0) (pa_cons (pv 1) pa_nil))) (blkOk_by (own := [("_law_one", 2), ("_law_two", 3)]) (N := n__law_same) (sc := defScope s__law_same) (by decide +kernel)) (fun _ _ _ _ _ => (pg_tup rfl (pgs_cons (pg_name (i := 2) sc__law_same.nd rfl (by first | exact Or.inl rfl | exact Or.inr rfl)) (pgs_cons (pg_name (i := 3) sc__law_same.nd rfl (by first | exact Or.inl rfl | exact Or.inr rfl)) pgs_nil)))) (fun _ _ _ _ _ => pts_nil) (fun _ _ _ _ _ => (pe_call G__law_same hr rfl T.g__law_same T.F__law_same.kp T.bd__law_same .nil pass0 (pa_cons (pv 2) (pa_cons (pv 3) pa_nil))))) pa_nil)))))))
      pss_nil)
      (pss_cons (ps_if (PW.pt (pw_or (pt_cmpR op_isN (pv 1) pe_non (nomark _)) (pw_or1 (pt_val (pe_callB call_isi (by rfl) T.b_isinstance (by decide +kernel) (pa_cons (pv 1) (pa_cons (pe_bltn (v := .ty "str") (by rfl) T.b_str (by decide +kernel) rfl) pa_nil)))))))
      (pss_one (ps_ret (pe_and (pe_cmpR op_eq (pv 0) (pv 1) (nomark _)) (pe_one (pe_cmpR op_eq (pe_callB call_isi (by rfl) T.b_isinstance (by decide +kernel) (pa_cons (pv 0) (pa_cons (pe_bltn (v := .ty "str") (by rfl) T.b_str (by decide +kernel) rfl) pa_nil))) (pe_callB call_isi (by rfl) T.b_isinstance (by decide +kernel) (pa_cons (pv 1) (pa_cons (pe_bltn (v := .ty "str") (by rfl) T.b_str (by decide +kernel) rfl) pa_nil))) (nomark _))))))
      pss_nil)
      (pss_one (ps_ret (pe_and (pe_callB call_isi (by rfl) T.b_isinstance (by decide +kernel) (pa_cons (pv 0) (pa_cons (pe_bltn (v := .ty "int") (by rfl) T.b_int (by decide +kernel) rfl) pa_nil))) (pe_and (pe_cmpR op_eq (pe_callB call_isi (by rfl) T.b_isinstance (by decide +kernel) (pa_cons (pv 0) (pa_cons (pe_bltn (v := .ty "bool") (by rfl) T.b_bool (by decide +kernel) rfl) pa_nil))) (pe_callB call_isi (by rfl) T.b_isinstance (by decide +kernel) (pa_cons (pv 1) (pa_cons (pe_bltn (v := .ty "bool") (by rfl) T.b_bool (by decide +kernel) rfl) pa_nil))) (nomark _)) (pe_one (pe_cmpR op_eq (pv 0) (pv 1) (nomark _))))))))), ?_⟩
    refine ⟨_, rfl, by show 2 ≤ sizeLine; decide, fun t ht => ?_⟩
    have k0 : ∀ cs, Kp cs H (upd H t (.tup [.ty "list", .ty "tuple"])) := fun cs => Kp.rfl'.new ht
    have hb1 := k0 [] _ _ hb (by simp)
    have tup1 : (upd H t (.tup [.ty "list", .ty "tuple"])) t = some (.tup [.ty "list", .ty "tuple"]) := upd_same
    generalize upd H t (.tup [.ty "list", .ty "tuple"]) = H1 at k0 hb1 tup1 ⊢
    have isi1 : TyX K H1 (.ref a) (.type "tuple") := hd.ty _
    have isi2 : TyX K H1 (.ref b) (.type "tuple") := .base (.tup hb1)
    have kl : PySem.W.kitOne K (.type "tuple") (.type "list") = some false := kit_ty (by decide +kernel)
    have kt : PySem.W.kitOne K (.type "tuple") (.type "tuple") = some true := kit_ty (by decide +kernel)
    refine ⟨_, t, _, _, [.type "list", .type "tuple"], _, rfl, tup1, tyLT, isi2, kLT, _, rfl, iteT ?_⟩
    refine ⟨_, rfl, _, _, _, _, _, rfl, .ty _, isi1, kl, _, rfl, _, _, _, _, _, rfl, .ty _, isi2, kl, rfl, _, rfl, iteF ?_⟩
    refine ⟨_, rfl, _, _, _, _, _, rfl, .ty _, isi1, kt, _, rfl, _, _, _, _, _, rfl, .ty _, isi2, kt, rfl, _, rfl, iteF ?_⟩
    refine ⟨_, rfl, _, 1, rfl, .inr ⟨_, hd.sq _, rfl⟩, _, rfl, _, 1, rfl, .inr ⟨_, SqT.of hb1, rfl⟩, rfl, _, rfl, iteC (by simp) ?_⟩
    refine ⟨_, rfl, _, rfl, a, b, false, false, [V.int 1], [V.int 1], rfl, hd.sq _, SqT.of hb1, fun p hp => ?_⟩
    refine lc_it (walkZ (n := 1) (xs := [V.int 1]) (ys := [V.int 1]) rfl) (fun j H3 => H3 p = some (.lst ((List.replicate j true).map V.bl)) ∧ Kp [] H1 H3) ?_ ?_ ?_ ?_
    · exact ⟨by rw [upd_same]; rfl, Kp.rfl'.new hp⟩
    · rintro j H3 _ ⟨_, k3⟩
      exact ⟨hd.sq _, SqT.of (k3 _ _ hb1 (by simp))⟩
    · rintro j y H3 H4 hj ⟨h3, k3⟩ ⟨t', y1, y2, rfl, ft, rfl, e1, e2⟩
      have e1 : [V.int 1][j]? = some y1 := e1
      have e2 : [V.int 1][j]? = some y2 := e2
      have ej : j = 0 := by omega
      subst ej
      have ey : V.int 1 = y1 := Option.some.inj e1
      have ey2 : V.int 1 = y2 := Option.some.inj e2
      subst ey
      subst ey2
      have kt : ∀ cs, Kp cs H3 (upd H3 t' (.tup [V.int 1, V.int 1])) := fun cs => Kp.rfl'.new ft
      refine ⟨t', _, rfl, SqT.of upd_same, rfl, _, _, rfl, _, _, rfl, rfl, rfl, yesT ⟨_, rfl, _, rfl, .int 1, .int 1, .int 1, [], [], 1, 0, rfl, .int 1 (by decide), .int 1 (by decide), by decide, by decide, fun H5 k5 => ⟨_, k5 _ _ (kt [] _ _ h3 (by simp)) (by simp), by show 0 < sizeLine; decide, ?_, ((k3.trans (kt [])).trans k5).own hp⟩⟩⟩
      rw [upd_same]
      rfl
    · rintro H3 ⟨h3, k3⟩
      refine ⟨p, _, rfl, SqL.of h3, ?_⟩
      rw [rep_all]
      exact q _ ((k0 []).trans k3)

end
end Sw

set_option maxHeartbeats 2000000
namespace Sw
open PySem PySem.Spec PyProof.Rows L2
section
variable {P : Program} {w : World} {K : PySem.W.Frag} {mg : Str → Option Value} {base : Heap}
theorem nx_of {f : L2.St → Hp → Prop} {r : VK} {b c : L2.St → Hp → Prop} {σ : L2.St} {H : Hp} (h : f σ H) : (Ends.mk f r b c).nx σ H := h
theorem seq_cutI {c : TT} {a b tb : TS} {D : Ends} {σ : L2.St} {H : Hp} (Iv : L2.St → Hp → Prop) (main : ∀ σ' H', Iv σ' H' → tb D σ' H') (h : ∀ nx : L2.St → Hp → Prop, (∀ σ' H', Iv σ' H' → nx σ' H') → tIfS c a b { D with nx := nx } σ H) : tSeq (tIfS c a b) tb D σ H := h _ main
theorem iteNS {A B : Prop} {x y : Str} (h : x = y) (k : B) : if (!decide (V.str x = V.str y)) = true then A else B := by
  rw [h, decide_eq_true rfl]
  exact iteF k
theorem Bx.std {H : Hp} {b : Addr} {n : Nat} (h : Bx H b n) : ∀ c ∈ [b], ∃ o, H c = some o := fun c hc => by
  obtain ⟨_, _, _, e, _⟩ := h.ex
  exact ⟨_, by rw [List.mem_singleton.mp hc]; exact e⟩
theorem mk_keep {H : Hp} {x dx C : Addr} (h1 : H x = none) (h2 : H dx = none) (h3 : dx ≠ x) (cs : List Addr) : Kp cs H (upd (upd H dx (.own x)) x (.ins C dx [])) := (Kp.rfl'.new h2).new (by rw [upd_ne h3.symm]; exact h1)
theorem D.lrowsL {bs : List Addr} {H : Hp} {w k : Nat} {v : V} {rows : List (List Int)} (x : D bs H w k v (dII rows)) : ∃ a xs, v = .ref a ∧ H a = some (.lst xs) ∧ a ∉ bs ∧ xs.length = rows.length ∧ xs.length ≤ w ∧
    ∀ (i : Nat) (y : V) (r : List Int), xs[i]? = some y → rows[i]? = some r → ∃ c, y = .ref c ∧ c ∉ bs ∧ H c = some (.lst (r.map V.int)) ∧ r.length ≤ w := by
  cases x with
  | lst h n l t =>
    refine ⟨_, _, rfl, h, n, by simpa using DA.len t, l, fun i y r hy hr => ?_⟩
    obtain ⟨d, hd, hx⟩ := t.get hy
    rw [List.getElem?_map, hr] at hd
    cases hd
    obtain ⟨c, e, hc, nc, lc⟩ := hx.lints
    exact ⟨c, e, nc, hc, lc⟩
theorem D.told4 {bs : List Addr} {H : Hp} {w k : Nat} {a : Addr} {r s : List (List Int)} {ws : List Int} (x : D bs H w k (.ref a) (toldD r s ws)) : ∃ u0 u1 u2 u3 : V, H a = some (.lst [u0, u1, u2, u3]) ∧ (∃ c, u0 = .ref c ∧ ∃ xs, H c = some (.tup xs)) ∧ ∃ k', D bs H w k' u2 (dT ws) := by
  cases x with
  | lst h n l t =>
    cases t with
    | cons h0 t => cases t with
      | cons h1 t => cases t with
        | cons h2 t => cases t with
          | cons h3 t => cases t with
            | nil =>
              refine ⟨_, _, _, _, h, ?_, _, h2⟩
              cases h0 with
              | tup e _ _ _ => exact ⟨_, rfl, _, e⟩
def sp_right : Sp := fun vs H Q _ => ∃ (b : Addr) (gr : Bool) (M : List Addr), vs = [.ref b, .bl gr] ∧ Bx H b 0 ∧ Std M H ∧ b ∉ M ∧ ∀ H', (∀ c ∈ M, ∀ o, H c = some o → H' c = some o) → Q (.bl true) H'
theorem ok_right (T : Tx K mg) (O : Ow K) (dfl : DfT K (He.dflAt ("Hall", some "__init__") 0 K)) : FnG P w K mg base 16 (He.fAd K ("_law_right", none)) T.fd__law_right p__law_right sp_right := by
  have G__law_take := ok_take (P := P) (w := w) (base := base) T
  have G__law_data := ok_data (P := P) (w := w) (base := base) T
  have G__law_due := ok_due (P := P) (w := w) (base := base) T
  have G__law_as := FnOk.orS ((ok_as1 (P := P) (w := w) (base := base) T).mono (show 3 ≤ 4 by decide)) (ok_as2 (P := P) (w := w) (base := base) T)
  have G_Hall___init__ := FnOk.orS (ok_init (P := P) (w := w) (base := base) T) (ok_initK (P := P) (w := w) (base := base) T)
  have G__law_same := FnOk.orS (ok_same (P := P) (w := w) (base := base) T 5) (ok_sameK (P := P) (w := w) (base := base) T)
  have G__law_told := ok_told (P := P) (w := w) (base := base) T
  have G__law_otherwise := ok_other (P := P) (w := w) (base := base) T
  have G__law_spoilt := FnOk.orS ((ok_sp1 (P := P) (w := w) (base := base) T).mono (show 3 ≤ 4 by decide)) (ok_sp2 (P := P) (w := w) (base := base) T)
  have G_Hall_memory := ok_getm (P := P) (w := w) (base := base) T
  have G_eq := ok_eq (P := P) (w := w) (base := base) T O
  have G_len := ok_len (P := P) (w := w) (base := base) T
  have G_repr := ok_repr (P := P) (w := w) (base := base) T
  obtain ⟨_, kbH⟩ := kb_Hall T.F_Hall___init__
  obtain ⟨dsD, rdD, bqH⟩ := bq_Hall T.F_Hall___init__
  refine okG T.F__law_right sc__law_right (fun vs H Q E h => ?_) (fun cdv A outer s H vs Q E hG hr h => ?_)
  · obtain ⟨_, _, _, rfl, _⟩ := h
    rfl
  · obtain ⟨b, gr, M, rfl, hB, sM, nbM, q⟩ := h
    refine ⟨_, PSs.nox (pss_cons (ps_par (i := 8) (j := 9) (by rfl) sc__law_right.nd rfl rfl (by decide) rfl rfl (pa_cons (pe_op op_add pe_int (pe_call G__law_take (hr.mono (by first | decide | omega)) rfl T.g__law_take T.F__law_take.kp T.bd__law_take .nil pass0 (pa_cons (pv 0) (pa_cons pe_int pa_nil)))) (pa_cons (pe_op op_add pe_int (pe_call G__law_take (hr.mono (by first | decide | omega)) rfl T.g__law_take T.F__law_take.kp T.bd__law_take .nil pass0 (pa_cons (pv 0) (pa_cons pe_int pa_nil)))) pa_nil)) (by rfl))
      (pss_cons (ps_if (PW.pt (pw_and (pt_val (pv 1)) (pw_and1 (pt_cmpR op_eq (pe_call G__law_take (hr.mono (by first | decide | omega)) rfl T.g__law_take T.F__law_take.kp T.bd__law_take .nil pass0 (pa_cons (pv 0) (pa_cons pe_int pa_nil))) pe_int (nomark _)))))
      (pss_one (ps_set (i := 8) sc__law_right.nd rfl (by first | exact Or.inl rfl | exact Or.inr rfl) pe_int))
      pss_nil)
      (pss_cons (ps_set (i := 2) sc__law_right.nd rfl (by first | exact Or.inl rfl | exact Or.inr rfl) (pe_call G__law_data (hr.mono (by first | decide | omega)) rfl T.g__law_data T.F__law_data.kp T.bd__law_data .nil pass0 (pa_cons (pv 0) (pa_cons (pv 8) (pa_cons (pv 9) (pa_cons pe_bl pa_nil))))))
      (pss_cons (ps_par (i := 10) (j := 11) (by rfl) sc__law_right.nd rfl rfl (by decide) rfl rfl (pa_cons (pe_call G__law_due (hr.mono (by first | decide | omega)) rfl T.g__law_due T.F__law_due.kp T.bd__law_due .nil pass0 (pa_cons (pv 2) pa_nil)) (pa_cons (pe_lc (own := [("_law_part", 14)]) (g := (gName 14)) (tt := tYes) rfl sc__law_right.nd (pi_tup (pv 2)) (blkOk_by (own := [("_law_part", 14)]) (N := n__law_right) (sc := defScope s__law_right) (by decide +kernel)) (fun _ _ _ _ _ => (pg_name (i := 14) sc__law_right.nd rfl (by first | exact Or.inl rfl | exact Or.inr rfl))) (fun _ _ _ _ _ => pts_nil) (fun _ _ _ _ _ => (pe_call G__law_as (hr.mono (by first | decide | omega)) rfl T.g__law_as T.F__law_as.kp T.bd__law_as .nil pass0 (pa_cons (pv 0) (pa_cons (pv 14) pa_nil))))) pa_nil)) (by rfl))
      (pss_cons (ps_set (i := 3) sc__law_right.nd rfl (by first | exact Or.inl rfl | exact Or.inr rfl) (pe_callB (call_reprD hr hG) (by rfl) T.b_repr (by decide +kernel) (pa_cons (pv 11) pa_nil)))
      (pss_cons (ps_asg (pe_tup (pa_cons (pe_make T.mk_Hall G_Hall___init__ (hr.mono (by first | decide | omega)) rfl T.g_Hall T.bd_Hall___init__ .nil pass0 (pa_cons (pe_ix ix_list (pv 11) pe_int (fun _ _ => rfl)) (pa_cons (pe_ix ix_list (pv 11) pe_int (fun _ _ => rfl)) (pa_cons (pe_ix ix_list (pv 11) pe_int (fun _ _ => rfl)) pa_nil)))) (pa_cons (pe_makeK0 T.mk_Hall G_Hall___init__ (hr.mono (by first | decide | omega)) rfl T.g_Hall kbH pass0 (pk_cons (pe_ix ix_tup (pv 2) pe_int (fun _ _ => rfl)) (pk_cons (pe_ix ix_tup (pv 2) pe_int (fun _ _ => rfl)) (pk_cons (pe_ix ix_tup (pv 2) pe_int (fun _ _ => rfl)) pk_nil)))) pa_nil))) (pg_tup rfl (pgs_cons (pg_name (i := 12) sc__law_right.nd rfl (by first | exact Or.inl rfl | exact Or.inr rfl)) (pgs_cons (pg_name (i := 13) sc__law_right.nd rfl (by first | exact Or.inl rfl | exact Or.inr rfl)) pgs_nil))))
      (pss_cons (ps_if (PW.pt (pw_or (pt_not (pt_val (pe_call G__law_same (hr.mono (by first | decide | omega)) rfl T.g__law_same T.F__law_same.kp T.bd__law_same .nil pass0 (pa_cons (pe_lst (pa_cons (pe_call G__law_told (hr.mono (by first | decide | omega)) rfl T.g__law_told T.F__law_told.kp T.bd__law_told .nil pass0 (pa_cons (pv 12) pa_nil)) (pa_cons (pe_call G__law_told (hr.mono (by first | decide | omega)) rfl T.g__law_told T.F__law_told.kp T.bd__law_told .nil pass0 (pa_cons (pv 13) pa_nil)) pa_nil))) (pa_cons (pe_lst (pa_cons (pv 10) (pa_cons (pv 10) pa_nil))) pa_nil))))) (pw_or1 (pt_cmpR op_ne (pe_callB (call_reprD hr hG) (by rfl) T.b_repr (by decide +kernel) (pa_cons (pv 11) pa_nil)) (pv 3) (nomark _)))))
      (pss_one (ps_ret pe_bl))
      pss_nil)
      (pss_cons (ps_set (i := 4) sc__law_right.nd rfl (by first | exact Or.inl rfl | exact Or.inr rfl) (pe_call G__law_otherwise (hr.mono (by first | decide | omega)) rfl T.g__law_otherwise T.F__law_otherwise.kp T.bd__law_otherwise .nil pass0 (pa_cons (pv 0) (pa_cons (pv 2) pa_nil))))
      (pss_cons (ps_set (i := 5) sc__law_right.nd rfl (by first | exact Or.inl rfl | exact Or.inr rfl) (pe_lst (pa_cons (pe_make T.mk_Hall G_Hall___init__ (hr.mono (by first | decide | omega)) rfl T.g_Hall T.bd_Hall___init__ .nil pass0 (pa_cons (pe_ix ix_tup (pv 4) pe_int (fun _ _ => rfl)) (pa_cons (pe_ix ix_tup (pv 4) pe_int (fun _ _ => rfl)) (pa_cons (pe_ix ix_tup (pv 4) pe_int (fun _ _ => rfl)) pa_nil)))) (pa_cons (pv 11) (pa_cons (pe_ix ix_list (pv 10) pe_int (fun _ _ => rfl)) (pa_cons pe_non (pa_cons (pe_callB (call_reprO T.m_Hall___repr__ G_repr (hr.mono (by first | decide | omega)) T.bd_Hall___repr__) (by rfl) T.b_repr (by decide +kernel) (pa_cons (pv 12) pa_nil)) pa_nil)))))))
      (pss_cons (ps_for PassesOwn.never rfl (pi_list (pv 11)) (pg_name (i := 6) sc__law_right.nd rfl (by first | exact Or.inl rfl | exact Or.inr rfl))
      (pss_one (ps_expr (pe_call G__law_spoilt (hr.mono (by first | decide | omega)) rfl T.g__law_spoilt T.F__law_spoilt.kp T.bd__law_spoilt .nil pass0 (pa_cons (pv 6) pa_nil)))))
      (pss_cons (ps_if (PW.pt (pw_or (pt_not (pt_val (pe_call G__law_same (hr.mono (by first | decide | omega)) rfl T.g__law_same T.F__law_same.kp T.bd__law_same .nil pass0 (pa_cons (pe_lst (pa_cons (pe_call G__law_told (hr.mono (by first | decide | omega)) rfl T.g__law_told T.F__law_told.kp T.bd__law_told .nil pass0 (pa_cons (pv 12) pa_nil)) (pa_cons (pe_callB (call_lenO T.m_Hall___len__ G_len (hr.mono (by first | decide | omega)) T.bd_Hall___len__) (by rfl) T.b_len (by decide +kernel) (pa_cons (pv 12) pa_nil)) pa_nil))) (pa_cons (pe_lst (pa_cons (pv 10) (pa_cons (pv 8) pa_nil))) pa_nil))))) (pw_or (pt_not (pt_cmpR (op_eqO T.m_Hall___eq__ G_eq (hr.mono (by first | decide | omega)) T.bd_Hall___eq__) (pv 12) (pv 13) (nomark _))) (pw_or1 (pt_cmpR (op_neO T.m_Hall___eq__ O.ne O.obj G_eq (hr.mono (by first | decide | omega)) T.bd_Hall___eq__) (pv 12) (pv 13) (nomark _))))))
      (pss_one (ps_ret pe_bl))
      pss_nil)
      (pss_cons (ps_if (PW.pt (pw_or (pt_val (pe_callB (cr_any rfl) (by rfl) T.b_any (by decide +kernel) (pa_cons (pe_lc (own := [("_law_thing", 6)]) (g := (gName 6)) (tt := tYes) rfl sc__law_right.nd (pi_list (pv 5)) (blkOk_by (own := [("_law_thing", 6)]) (N := n__law_right) (sc := defScope s__law_right) (by decide +kernel)) (fun _ _ _ _ _ => (pg_name (i := 6) sc__law_right.nd rfl (by first | exact Or.inl rfl | exact Or.inr rfl))) (fun _ _ _ _ _ => pts_nil) (fun _ _ _ _ _ => (pe_cmpR (kEqO (K := K) rfl T.m_Hall___eq__ G_eq (hr.mono (by first | decide | omega)) T.bd_Hall___eq__) (pv 12) (pv 6) (nomark _)))) pa_nil))) (pw_or1 (pt_not (pt_val (pe_callB (cr_all rfl) (by rfl) T.b_all (by decide +kernel) (pa_cons (pe_lc (own := [("_law_thing", 6)]) (g := (gName 6)) (tt := tYes) rfl sc__law_right.nd (pi_list (pv 5)) (blkOk_by (own := [("_law_thing", 6)]) (N := n__law_right) (sc := defScope s__law_right) (by decide +kernel)) (fun _ _ _ _ _ => (pg_name (i := 6) sc__law_right.nd rfl (by first | exact Or.inl rfl | exact Or.inr rfl))) (fun _ _ _ _ _ => pts_nil) (fun _ _ _ _ _ => (pe_cmpR (kNeO (K := K) rfl T.m_Hall___eq__ O.ne O.obj G_eq (hr.mono (by first | decide | omega)) T.bd_Hall___eq__) (pv 12) (pv 6) (nomark _)))) pa_nil)))))))
      (pss_one (ps_ret pe_bl))
      pss_nil)
      (pss_cons (ps_set (i := 7) sc__law_right.nd rfl (by first | exact Or.inl rfl | exact Or.inr rfl) (pe_make T.mk_Hall G_Hall___init__ (hr.mono (by first | decide | omega)) rfl T.g_Hall bqH rdD pass0 (pa_cons (pe_ix ix_tup (pv 2) pe_int (fun _ _ => rfl)) (pa_cons (pe_ix ix_tup (pv 2) pe_int (fun _ _ => rfl)) pa_nil))))
      (pss_cons (ps_if (PW.pt (pw_or (pt_not (pt_val (pe_call G__law_same (hr.mono (by first | decide | omega)) rfl T.g__law_same T.F__law_same.kp T.bd__law_same .nil pass0 (pa_cons (pe_meth0 (pv 7) T.cl_Hall T.m_Hall_memory G_Hall_memory (hr.mono (by first | decide | omega)) T.bd_Hall_memory .nil pass0) (pa_cons (pe_tup (pa_cons pe_int pa_nil)) pa_nil))))) (pw_or1 (pt_cmpR op_ne (pe_cmpR (op_eqO T.m_Hall___eq__ G_eq (hr.mono (by first | decide | omega)) T.bd_Hall___eq__) (pv 7) (pv 12) (nomark _)) (pe_cmpR (op_eqD hr.units) (pe_ix ix_list (pv 10) pe_int (fun _ _ => rfl)) (pe_tup (pa_cons pe_int pa_nil)) (nomark _)) (nomark _)))))
      (pss_one (ps_ret pe_bl))
      pss_nil)
      (pss_one (ps_ret (pe_cmpR op_eq (pe_callB (call_reprO T.m_Hall___repr__ G_repr (hr.mono (by first | decide | omega)) T.bd_Hall___repr__) (by rfl) T.b_repr (by decide +kernel) (pa_cons (pv 12) pa_nil)) (pe_op op_add_str (pe_op op_add_str (pe_op op_add_str (pe_op op_add_str pe_str (pe_callTy call_str_int (by rfl) T.b_str (by decide +kernel) (pa_cons (pv 8) pa_nil))) pe_str) (pe_callTy call_str_int (by rfl) T.b_str (by decide +kernel) (pa_cons (pv 9) pa_nil))) pe_str) (nomark _)))))))))))))))))), ?_⟩
    refine ⟨_, rfl, b, 5, 0, rfl, hB, by decide, by decide, by omega, fun r1 H1 r10 r15 hB1 k1 => ⟨_, _, rfl, rfl, ?_⟩⟩
    refine ⟨_, rfl, b, 5, 1, rfl, hB1, by decide, by decide, by omega, fun r2 H2 r20 r25 hB2 k2 => ⟨_, _, rfl, rfl, _, _, rfl, ?_⟩⟩
    have k02 : Kp [b] H H2 := k1.trans k2
    refine nx_of ?_
    refine seq_cutI (fun σ' H' => ∃ (cnt : Int), σ' = [some (.ref b), some (.bl gr), none, none, none, none, none, none, some (.int cnt), some (.int (1 + r2)), none, none, none, none, none] ∧ 1 ≤ cnt ∧ cnt ≤ 12 ∧ Bx H' b 3 ∧ Kp [b] H H') ?_ ?_
    rotate_left
    · intro nx hnx
      refine ⟨_, rfl, gr, rfl, ?_⟩
      cases gr with
      | false => exact iteF (iteF (hnx _ _ ⟨1 + r1, rfl, by omega, by omega, hB2.up (by omega), k02⟩))
      | true =>
        refine iteT ⟨_, rfl, b, 8, 2, rfl, hB2, by decide, by decide, by omega, fun r3 H3 r30 r38 hB3 k3 => ⟨rfl, _, rfl, ite2 (fun c => ?_) (fun c => ?_)⟩⟩
        · exact hnx _ _ ⟨12, rfl, by omega, by omega, hB3, k02.trans k3⟩
        · exact hnx _ _ ⟨1 + r1, rfl, by omega, by omega, hB3, k02.trans k3⟩
    clear hB hB1 hB2 k1 k2 k02
    rintro σ1 H3 ⟨cnt, rfl, c1, c12, hB3, k3⟩
    refine ⟨_, rfl, _, rfl, _, rfl, b, cnt, 1 + r2, true, 3, rfl, hB3, by omega, c1, c12, by omega, by omega, fun t p sa wa rows steps ws H4 ft ht dP dS dW hd hB4 k4 => ?_⟩
    have a1 := hd.lr
    have a2 := hd.ls
    have a3 := hd.lw
    have a4 := hd.c1
    have a5 := hd.c12
    have a6 := hd.w1
    have a7 := hd.w5
    have bP : ∀ r ∈ rows, r.length ≤ 12 ∧ ∀ n ∈ r, n.natAbs < 2 ^ 39 + 12 := fun r hr => by
      obtain ⟨h1, h2⟩ := hd.row r hr
      exact ⟨by omega, fun n hn => by have := h2 n hn; omega⟩
    have bS : ∀ r ∈ steps, r.length ≤ 12 ∧ ∀ n ∈ r, n.natAbs < 2 ^ 39 + 12 := fun r hr => by
      have h1 := (hd.step r hr).l4
      have h2 := (hd.step r hr).bd
      exact ⟨by omega, fun n hn => by have := h2 n hn; omega⟩
    have bW : ∀ n ∈ ws, n.natAbs < 2 ^ 39 + 12 := fun n hn => by
      have := hd.wt n hn
      omega
    have ntb : t ≠ b := fun z => by
      obtain ⟨_, _, _, e, _⟩ := hB3.ex
      rw [z, e] at ft
      cases ft
    refine ⟨_, rfl, t, p, sa, wa, rows, steps, ws, [b], [b], rfl, ht, dP, dS, dW, hB4.std, fun _ h => h, fun dq H5 fq k5 dQ => ?_⟩
    have k05 : Kp [b] H H5 := (k3.trans k4).trans (k5.sub (by simp))
    have hB5 := hB4.keep k5 (by simp)
    have ht5 := k5 _ _ ht (by simp)
    have dP5 := dP.keep (k5.sub (by simp))
    have dS5 := dS.keep (k5.sub (by simp))
    have dW5 := dW.keep (k5.sub (by simp))
    clear dP dS dW ht hB3 hB4 k3 k4 k5 fq
    obtain ⟨Y1, s1, f1⟩ := dP5.foot
    obtain ⟨Y2, s2, f2⟩ := dS5.foot
    obtain ⟨Y3, s3, f3⟩ := dW5.foot
    obtain ⟨Y4, s4, f4⟩ := dQ.foot
    obtain ⟨Z, eZ⟩ : ∃ Z, Z = M ++ (Y1 ++ (Y2 ++ (Y3 ++ Y4))) := ⟨_, rfl⟩
    have sZ : ∀ a ∈ Z, (∃ o, H5 a = some o) ∧ a ∉ [b] := fun a ha => by
      rw [eZ] at ha
      simp only [List.mem_append] at ha
      exact ha.elim (fun m => by
        obtain ⟨o, e⟩ := sM a m
        have na : a ∉ [b] := fun z => nbM (by rw [← List.mem_singleton.mp z]; exact m)
        exact ⟨⟨o, k05 _ _ e na⟩, na⟩) fun h => h.elim (s1 a) fun h => h.elim (s2 a) fun h => h.elim (s3 a) (s4 a)
    have stZ : ∀ {H6 : Hp}, Kp [b] H5 H6 → Std Z H6 := fun k c hc => by
      obtain ⟨⟨o, e⟩, n⟩ := sZ c hc
      exact ⟨o, k _ _ e n⟩
    obtain ⟨_, _, _, eb5, _⟩ := id hB5.ex
    refine ⟨_, rfl, t, rfl, ⟨_, SqT.of ht5⟩, fun g hg => lc_tup (K := K) (a := t) (xs := [.ref p, .ref sa, .ref wa]) (fun j H6 => Kp [b] H5 H6 ∧ Bx H6 b (503 + 30 * j) ∧ (match j with
      | 0 => H6 g = some (.lst [])
      | 1 => ∃ a0 kd0 as0, H6 g = some (.lst [.ref a0]) ∧ P2 (b :: g :: Z) H6 a0 kd0 as0 rows
      | 2 => ∃ a0 kd0 as0 a1 kd1 as1, H6 g = some (.lst [.ref a0, .ref a1]) ∧ P2 (b :: g :: Z) H6 a0 kd0 as0 rows ∧ P2 (b :: g :: (Z ++ (a0 :: as0))) H6 a1 kd1 as1 steps
      | _ => ∃ a0 kd0 as0 a1 kd1 as1 a2, H6 g = some (.lst [.ref a0, .ref a1, .ref a2]) ∧ P2 (b :: g :: Z) H6 a0 kd0 as0 rows ∧ P2 (b :: g :: (Z ++ (a0 :: as0))) H6 a1 kd1 as1 steps ∧ I1 (b :: g :: (Z ++ (a0 :: as0) ++ (a1 :: as1))) H6 (.ref a2) ws)) ?_ ?_ ?_ ?_⟩
    · exact ⟨Kp.rfl'.new hg, (hB5.keep (bs := []) (Kp.rfl'.new hg) (by simp)).up (by omega), upd_same⟩
    · rintro j H6 _ ⟨k6, _⟩
      exact SqT.of (k6 _ _ ht5 (by simpa using ntb))
    · rintro j y H6 hj ⟨k6, hB6, hm⟩
      have ngb : g ≠ b := (ne_of_none eb5 hg).symm
      have kg : ∀ (H7 : Hp) (o : HO), Kp [g] H7 (upd H7 g o) := fun _ _ => Kp.rfl'.put (by simp)
      match j, hj, hm, hB6 with
      | 0, hj, hm, hB6 =>
        cases hj
        have hm : H6 g = some (.lst []) := hm
        obtain ⟨p', xs, e, hp, np, lx, lw, al⟩ := (dP5.keep k6).lrowsL
        cases e
        refine ⟨rfl, yesT ⟨_, rfl, _, rfl, .inr ⟨b, p, xs, rows, g :: Z, _, rfl, hp, by simpa using np, lx, by omega, fun i y r h1 h2 => ?_, hB6, by omega, (stZ k6).cons hm, fun v H7 hv hB7 k7 => ?_⟩⟩⟩
        · obtain ⟨c, e, n, h, l⟩ := al i y r h1 h2
          exact ⟨c, e, by simpa using n, h, by omega⟩
        · obtain ⟨a, kd, as, rfl, hP⟩ := hv.p2
          exact ⟨_, k7 _ _ hm (by simpa using ngb), by show 0 < sizeLine; decide, (k6.trans k7).own hg, hB7.keep (kg _ _) (by simpa using ngb.symm), a, kd, as, upd_same, hP.keep (kg _ _) (by simp)⟩
      | 1, hj, hm, hB6 =>
        cases hj
        obtain ⟨a0, kd0, as0, hm, P0⟩ := hm
        obtain ⟨p', xs, e, hp, np, lx, lw, al⟩ := (dS5.keep k6).lrowsL
        cases e
        have st : Std (g :: (Z ++ (a0 :: as0))) H6 := fun c hc => (List.mem_cons.mp hc).elim (fun z => ⟨_, z ▸ hm⟩) fun z => (List.mem_append.mp z).elim (stZ k6 c) (P0.std c)
        refine ⟨rfl, yesT ⟨_, rfl, _, rfl, .inr ⟨b, sa, xs, steps, g :: (Z ++ (a0 :: as0)), _, rfl, hp, by simpa using np, lx, by omega, fun i y r h1 h2 => ?_, hB6, by omega, st, fun v H7 hv hB7 k7 => ?_⟩⟩⟩
        · obtain ⟨c, e, n, h, l⟩ := al i y r h1 h2
          exact ⟨c, e, by simpa using n, h, by omega⟩
        · obtain ⟨a, kd, as, rfl, hP⟩ := hv.p2
          exact ⟨_, k7 _ _ hm (by simpa using ngb), by show 1 < sizeLine; decide, (k6.trans k7).own hg, hB7.keep (kg _ _) (by simpa using ngb.symm), a0, kd0, as0, a, kd, as, upd_same, (P0.keep k7 (by simp)).keep (kg _ _) (by simp), hP.keep (kg _ _) (by simp)⟩
      | 2, hj, hm, hB6 =>
        cases hj
        obtain ⟨a0, kd0, as0, a1, kd1, as1, hm, P0, P1⟩ := hm
        obtain ⟨w', e, hw, nw, lw⟩ := (dW5.keep k6).lints
        cases e
        have st : Std (g :: (Z ++ (a0 :: as0) ++ (a1 :: as1))) H6 := fun c hc => (List.mem_cons.mp hc).elim (fun z => ⟨_, z ▸ hm⟩) fun z => (List.mem_append.mp z).elim (fun z => (List.mem_append.mp z).elim (stZ k6 c) (P0.std c)) (P1.std c)
        refine ⟨rfl, yesT ⟨_, rfl, _, rfl, .inl ⟨b, wa, ws, g :: (Z ++ (a0 :: as0) ++ (a1 :: as1)), _, rfl, hw, hB6, by omega, by omega, by simpa using nw, st, fun v H7 hv _ hB7 k7 => ?_⟩⟩⟩
        obtain ⟨a, kd, rfl, hP, nP⟩ := hv.ex
        exact ⟨_, k7 _ _ hm (by simpa using ngb), by show 2 < sizeLine; decide, (k6.trans k7).own hg, (hB7.keep (kg _ _) (by simpa using ngb.symm)).up (by omega), a0, kd0, as0, a1, kd1, as1, a, upd_same, (P0.keep k7 (by simp)).keep (kg _ _) (by simp), (P1.keep k7 (by simp)).keep (kg _ _) (by simp), hv.keep (kg _ _) (by simp)⟩
      | n + 3, hj, _, _ => cases hj
    rintro H6 ⟨k6, hB6, a0, kd0, as0, a1, kd1, as1, a2, hg6, P0, P1, I2x⟩
    refine ⟨_, _, rfl, ?_⟩
    obtain ⟨e0, D0, R0⟩ := P0.d (w := 12) (by omega) bP
    obtain ⟨e1, D1, R1⟩ := P1.d (w := 12) (by omega) bS
    obtain ⟨e2, D2, R2⟩ := I2x.d (w := 12) (by omega) bW
    have sbs : ∀ {M : List Addr} (c : Addr), c ∈ [b] → c ∈ b :: M := fun c hc => by
      rw [List.mem_singleton.mp hc]
      simp
    have D0 := D0.less sbs
    have D1 := D1.less sbs
    have D2 := D2.less sbs
    have ngb : g ≠ b := (ne_of_none eb5 hg).symm
    have dG : D [b] H6 12 3 (.ref g) (.list [e0, e1, e2]) := .lst hg6 (by simpa using ngb) (by show 3 ≤ 12; decide) (.cons D0 (.cons D1 (.cons (D2.up (Nat.le_refl _) (by decide)) .nil)))
    have k06 : Kp [b] H H6 := k05.trans k6
    have ht6 := k6 _ _ ht5 (by simpa using ntb)
    have dP6 := dP5.keep k6
    have dS6 := dS5.keep k6
    have dW6 := dW5.keep k6
    have dQ6 := dQ.keep k6
    have sh := dG.show (by decide)
    have shS : (PyData.list [e0, e1, e2]).shown.length ≤ sizeLine := by
      rw [sizeLine_eq]
      exact Nat.le_trans sh.2.2.2 (by decide +kernel)
    refine ⟨_, rfl, .ref g, .list [e0, e1, e2], rfl, dG.dp, sh.1, sh.2.1, Nat.le_trans sh.2.2.1 (by decide), shS, ?_⟩
    refine ⟨_, rfl, g, _, 0, _, rfl, rfl, SqL.of hg6, rfl, _, rfl, g, _, 1, _, rfl, rfl, SqL.of hg6, rfl, _, rfl, g, _, 2, _, rfl, rfl, SqL.of hg6, rfl, fun x1 dx1 fx1 fdx1 nx1 => ?_⟩
    have m1 := mk_keep (C := C0 K) fx1 fdx1 nx1
    have nxb1 : x1 ∉ [b] := by
      obtain ⟨_, _, _, e, _⟩ := hB6.ex
      simpa using (ne_of_none e fx1).symm
    refine .inl ⟨x1, dx1, _, _, _, e0, e1, e2, rows, steps, ws, [b], [b], 12, 2, rfl, upd_same, D0.keep (m1 _), D1.keep (m1 _), (D2.up (Nat.le_refl _) (by decide)).keep (m1 _), R0, R1, R2, by decide, hd.ok, (hB6.keep (m1 []) (by simp)).std, fun _ h => h, nxb1, fun H7 hA1 k7 => ⟨rfl, ?_⟩⟩
    have k67 : Kp [] H6 H7 := (m1 []).step fx1 k7
    have hB7 := hB6.keep k67 (by simp)
    have ht7 := k67 _ _ ht6 (by simp)
    have dP7 := dP6.keep (k67.sub (by simp))
    have dS7 := dS6.keep (k67.sub (by simp))
    have dW7 := dW6.keep (k67.sub (by simp))
    refine ⟨_, rfl, t, _, 2, _, rfl, rfl, SqT.of ht7, rfl, _, rfl, t, _, 1, _, rfl, rfl, SqT.of ht7, rfl, _, rfl, t, _, 0, _, rfl, rfl, SqT.of ht7, rfl, rfl, rfl, fun x2 dx2 fx2 fdx2 nx2 => ?_⟩
    have m2 := mk_keep (C := C0 K) fx2 fdx2 nx2
    have nxb2 : x2 ∉ [b] := by
      obtain ⟨_, _, _, e, _⟩ := hB7.ex
      simpa using (ne_of_none e fx2).symm
    refine .inl ⟨x2, dx2, .ref p, .ref sa, .ref wa, dII rows, dII steps, dI ws, rows, steps, ws, [b], [b], 12, 2, rfl, upd_same, dP7.keep (m2 _), dS7.keep (m2 _), (dW7.up (Nat.le_refl _) (by decide)).keep (m2 _), rowsD_of, rowsD_of, intsD_of, by decide, hd.ok, (hB7.keep (m2 []) (by simp)).std, fun _ h => h, nxb2, fun H8 hA2 k8 => ⟨rfl, ?_⟩⟩
    have k78 : Kp [] H7 H8 := (m2 []).step fx2 k8
    refine ⟨by show 2 ≤ sizeLine; decide, fun tt ftt => ?_⟩
    refine ⟨tt, _, rfl, SqT.of upd_same, rfl, _, _, rfl, _, _, rfl, rfl, ?_⟩
    have k89 : ∀ cs, Kp cs H8 (upd H8 tt (.tup [.ref x1, .ref x2])) := fun cs => Kp.rfl'.new ftt
    have k69 : Kp [] H6 (upd H8 tt (.tup [.ref x1, .ref x2])) := (k67.trans k78).trans (k89 [])
    have hA1' := (hA1.keep (k78.sub (by simp))).keep (k89 _)
    have hA2' := hA2.keep (k89 _)
    generalize upd H8 tt (.tup [.ref x1, .ref x2]) = H9 at k89 k69 hA1' hA2' ⊢
    clear k89 hA1 hA2 k8 k7 m1 m2 k78 k67 hB7 ht7 dP7 dS7 dW7 fx1 fdx1 nx1 fx2 fdx2 nx2
    have hB9 := hB6.keep k69 (by simp)
    have slen : ∀ r ∈ steps, r.length ≤ 12 := fun r hr => (bS r hr).1
    refine ⟨_, rfl, x1, rows, steps, ws, [b], rfl, hA1', hB9.std, slen, fun q1 H10 _ k10 dq1 => ?_⟩
    have k610 := k69.trans k10
    refine ⟨_, rfl, x2, rows, steps, ws, [b], rfl, hA2'.keep (k10.sub (by simp)), (hB9.keep k10 (by simp)).std, slen, fun q2 H11 _ k11 dq2 => ?_⟩
    have k611 := k610.trans k11
    refine ⟨by show 2 ≤ sizeLine; decide, fun l1 fl1 => ?_⟩
    have kl1 : ∀ cs, Kp cs H11 (upd H11 l1 (.lst [.ref q1, .ref q2])) := fun cs => Kp.rfl'.new fl1
    refine ⟨_, rfl, _, rfl, by show 2 ≤ sizeLine; decide, fun l2 fl2 => ?_⟩
    have kl2 : ∀ cs, Kp cs (upd H11 l1 (.lst [.ref q1, .ref q2])) (upd (upd H11 l1 (.lst [.ref q1, .ref q2])) l2 (.lst [.ref dq, .ref dq])) := fun cs => Kp.rfl'.new fl2
    have gl1 := kl2 [] _ _ (upd_same (H := H11) (a := l1) (o := .lst [.ref q1, .ref q2])) (by simp)
    have gl2 : (upd (upd H11 l1 (.lst [.ref q1, .ref q2])) l2 (.lst [.ref dq, .ref dq])) l2 = some (.lst [.ref dq, .ref dq]) := upd_same
    have kl : ∀ cs, Kp cs H11 (upd (upd H11 l1 (.lst [.ref q1, .ref q2])) l2 (.lst [.ref dq, .ref dq])) := fun cs => (kl1 cs).trans (kl2 cs)
    have k612 := k611.trans (kl [])
    have dq1' := ((dq1.keep (k11.sub (by simp))).keep (kl _)).less (cs := []) (by simp)
    have dq2' := (dq2.keep (kl _)).less (cs := []) (by simp)
    have dq3 := (dQ6.keep (k612.sub (by simp))).less (cs := []) (by simp)
    generalize upd (upd H11 l1 (.lst [.ref q1, .ref q2])) l2 (.lst [.ref dq, .ref dq]) = H12 at kl gl1 gl2 k612 dq1' dq2' dq3 ⊢
    refine .inl ⟨.ref l1, .ref l2, _, [], [], 12, 4, rfl, .lst gl1 (by simp) (by show 2 ≤ 12; decide) (.cons dq1' (.cons dq2' .nil)), .lst gl2 (by simp) (by show 2 ≤ 12; decide) (.cons dq3 (.cons dq3 .nil)), by decide, by decide, fun H13 k13 => ⟨_, rfl, iteF ?_⟩⟩
    have k613 := k612.trans k13
    have k913 : Kp [] H9 H13 := ((k10.trans k11).trans (kl [])).trans k13
    refine ⟨_, rfl, .ref g, .list [e0, e1, e2], rfl, (dG.keep (k613.sub (by simp))).dp, sh.1, sh.2.1, Nat.le_trans sh.2.2.1 (by decide), shS, ?_⟩
    refine ⟨_, rfl, rfl, _, rfl, iteNS rfl ?_⟩
    clear dq1 dq2 dq1' dq2' dq3 gl1 gl2 kl kl1 kl2 k612 k611 k610 k10 k11 fl1 fl2 hB9
    have hB13 := hB6.keep k613 (by simp)
    have hA1b := hA1'.keep (k913.sub (by simp))
    have hA2b := hA2'.keep (k913.sub (by simp))
    refine ⟨_, rfl, _, rfl, b, t, p, sa, wa, rows, steps, ws, _, _, _, rfl, k613 _ _ ht6 (by simp), ntb, dP6.keep (k613.sub (by simp)), dS6.keep (k613.sub (by simp)), dW6.keep (k613.sub (by simp)), hd, hB13, by simp, fun t2 p2 s2 w2 H14 rows2 steps2 ws2 ht2 dP2 dS2 dW2 ok2 ne2 hB14 k14 => ?_⟩
    have k614 : Kp [b] H6 H14 := (k613.sub (by simp)).trans k14
    have hA1c := hA1b.keep k14
    have hA2c := hA2b.keep k14
    clear hA1b hA2b hA1' hA2' hB13
    refine ⟨_, rfl, t2, _, 0, _, rfl, rfl, SqT.of ht2, rfl, _, rfl, t2, _, 1, _, rfl, rfl, SqT.of ht2, rfl, _, rfl, t2, _, 2, _, rfl, rfl, SqT.of ht2, rfl, fun x3 dx3 fx3 fdx3 nx3 => ?_⟩
    have m3 := mk_keep (C := C0 K) fx3 fdx3 nx3
    have nxb3 : x3 ∉ [b] := by
      obtain ⟨_, _, _, e, _⟩ := hB14.ex
      simpa using (ne_of_none e fx3).symm
    refine .inl ⟨x3, dx3, .ref p2, .ref s2, .ref w2, dII rows2, dII steps2, dI ws2, rows2, steps2, ws2, [b], [b], 13, 2, rfl, upd_same, dP2.keep (m3 _), dS2.keep (m3 _), (dW2.up (Nat.le_refl _) (by decide)).keep (m3 _), rowsD_of, rowsD_of, intsD_of, by decide, ok2, (hB14.keep (m3 []) (by simp)).std, fun _ h => h, nxb3, fun H15 hA3 k15 => ⟨rfl, ?_⟩⟩
    have k1415 : Kp [] H14 H15 := (m3 []).step fx3 k15
    have k615 : Kp [b] H6 H15 := k614.trans (k1415.sub (by simp))
    have hA1d := hA1c.keep (k1415.sub (by simp))
    have hA2d := hA2c.keep (k1415.sub (by simp))
    obtain ⟨u0, u1, u2, u3, hdq, ⟨ut, rfl, uxs, hut⟩, _⟩ := (dQ6.keep k615).told4
    obtain ⟨dxx, b1, b2, b3, hx1, _⟩ := id hA1d.ex
    have l12 : rows.length ≤ 1000 := by omega
    have l13 : ws.length ≤ 1000 := by omega
    refine ⟨_, rfl, _, rfl, dq, _, 0, _, rfl, rfl, SqL.of hdq, rfl, _, rfl, x1, _, _, rfl, hx1, x1, rows, steps, ws, rfl, hA1d.dp, l12, l13, _, rfl, by show 5 ≤ sizeLine; decide, fun ol fol => ?_⟩
    have ko : ∀ cs, Kp cs H15 (upd H15 ol (.lst [.ref x3, .ref g, .ref ut, .non, .str (hallText rows.length ws.length)])) := fun cs => Kp.rfl'.new fol
    have gol : (upd H15 ol (.lst [.ref x3, .ref g, .ref ut, .non, .str (hallText rows.length ws.length)])) ol = some (.lst [.ref x3, .ref g, .ref ut, .non, .str (hallText rows.length ws.length)]) := upd_same
    have k616 := k615.trans (ko _)
    have hA1e := hA1d.keep (ko _)
    have hA2e := hA2d.keep (ko _)
    have hA3e := hA3.keep (ko _)
    have hut16 := ko [] _ _ hut (by simp)
    have olP : ∀ x, (∃ o, H15 x = some o) → x ≠ ol := fun x ⟨o, e⟩ => ne_of_none e fol
    have P0e := P0.keep k615 (by simp)
    have P1e := P1.keep k615 (by simp)
    have I2e := I2x.keep k615 (by simp)
    have hBe := hB14.keep (k1415.trans (ko [])) (by simp)
    obtain ⟨W, eW⟩ : ∃ W, W = b :: g :: ol :: Z := ⟨_, rfl⟩
    obtain ⟨a2', kd2, ea2, ha2, na2⟩ := id I2e.ex
    cases ea2
    have in0 : ∀ x ∈ a0 :: as0, x ∉ W ++ ((a1 :: as1) ++ [a2]) := fun x hx m => by
      rcases List.mem_append.mp m with z | z
      · rw [eW] at z
        rcases List.mem_cons.mp z with z | z
        · exact P0.off x hx (by rw [z]; simp)
        · rcases List.mem_cons.mp z with z | z
          · exact P0.off x hx (by rw [z]; simp)
          · rcases List.mem_cons.mp z with z | z
            · exact olP x (P0e.std x hx) z
            · exact P0.off x hx (List.mem_cons_of_mem _ (List.mem_cons_of_mem _ z))
      · rcases List.mem_append.mp z with z | z
        · exact P1.off x z (List.mem_cons_of_mem _ (List.mem_cons_of_mem _ (List.mem_append_right _ hx)))
        · rw [List.mem_singleton.mp z] at hx
          exact na2 (List.mem_cons_of_mem _ (List.mem_cons_of_mem _ (List.mem_append_left _ (List.mem_append_right _ hx))))
    have in1 : ∀ x ∈ a1 :: as1, x ∉ W ++ [a2] := fun x hx m => by
      rcases List.mem_append.mp m with z | z
      · rw [eW] at z
        rcases List.mem_cons.mp z with z | z
        · exact P1.off x hx (by rw [z]; simp)
        · rcases List.mem_cons.mp z with z | z
          · exact P1.off x hx (by rw [z]; simp)
          · rcases List.mem_cons.mp z with z | z
            · exact olP x (P1e.std x hx) z
            · exact P1.off x hx (List.mem_cons_of_mem _ (List.mem_cons_of_mem _ (List.mem_append_left _ z)))
      · rw [List.mem_singleton.mp z] at hx
        exact na2 (List.mem_cons_of_mem _ (List.mem_cons_of_mem _ (List.mem_append_right _ hx)))
    have in2 : a2 ∉ W := fun z => by
      rw [eW] at z
      rcases List.mem_cons.mp z with z | z
      · exact na2 (by rw [z]; simp)
      · rcases List.mem_cons.mp z with z | z
        · exact na2 (by rw [z]; simp)
        · rcases List.mem_cons.mp z with z | z
          · exact olP a2 ⟨_, ha2⟩ z
          · exact na2 (List.mem_cons_of_mem _ (List.mem_cons_of_mem _ (List.mem_append_left _ (List.mem_append_left _ z))))
    have Q0 := (P0e.keep (ko []) (by simp)).wide in0
    have Q1 := (P1e.keep (ko []) (by simp)).wide in1
    have ha2' := ko [] _ _ ha2 (by simp)
    have hg16 := k616 _ _ hg6 (by simpa using ngb)
    generalize upd H15 ol (.lst [.ref x3, .ref g, .ref ut, .non, .str (hallText rows.length ws.length)]) = H16 at ko gol k616 hA1e hA2e hA3e hut16 hBe Q0 Q1 ha2' hg16 ⊢
    clear ko hA1d hA2d hA1c hA2c hA3 P0e P1e I2e ha2 hx1 k15 m3 hdq hut k615 k1415 k614 k14 fol olP
    have l0 : as0.length ≤ 100 := by
      have := Q0.len
      omega
    have l1' : as1.length ≤ 100 := by
      have := Q1.len
      omega
    refine ⟨_, rfl, g, rfl, ⟨_, SqL.of hg16⟩, for_list (K := K) (a := g) (xs := [.ref a0, .ref a1, .ref a2]) (fun i σ Hj => (∃ o6 : Option V, σ = [some (.ref b), some (.bl gr), some (.ref t), some (.str (PyData.list [e0, e1, e2]).shown), some (.ref t2), some (.ref ol), o6, none, some (.int cnt), some (.int (1 + r2)), some (.ref dq), some (.ref g), some (.ref x1), some (.ref x2), none]) ∧ Kq W H16 Hj ∧ (match i with
      | 0 => P2 (W ++ ((a1 :: as1) ++ [a2])) Hj a0 kd0 as0 rows ∧ P2 (W ++ [a2]) Hj a1 kd1 as1 steps ∧ Hj a2 = some (sqo kd2 (ws.map V.int))
      | 1 => P2 (W ++ [a2]) Hj a1 kd1 as1 steps ∧ Hj a2 = some (sqo kd2 (ws.map V.int))
      | 2 => Hj a2 = some (sqo kd2 (ws.map V.int))
      | _ => True)) ?_ ?_ ?_ ?_⟩
    · exact ⟨⟨_, rfl⟩, Kq.ofKp Kp.rfl', Q0, Q1, ha2'⟩
    · rintro i σ Hj _ ⟨_, kq, _⟩
      exact SqL.of (kq _ _ hg16 (.inl (by rw [eW]; simp)))
    · rintro i x σ Hj hx ⟨⟨o6, rfl⟩, kq, hm⟩
      match i, hx, hm with
      | 0, hx, hm =>
        cases hx
        obtain ⟨m0, m1, m2⟩ := hm
        refine ⟨_, rfl, .inr ⟨a0, kd0, as0.map V.ref, W ++ ((a1 :: as1) ++ [a2]), rfl, m0.ha, m0.off a0 (by simp), by simpa using l0, m0.sp (fun r hr => by have := (bP r hr).1; omega), fun Hk kk => ?_⟩⟩
        exact ⟨⟨_, rfl⟩, kq.trans (kk.less fun a h => List.mem_append_left _ h), m1.keepL fun x hx o e => kk _ _ e (.inl (List.mem_append_right _ (List.mem_append_left _ hx))), kk _ _ m2 (.inl (by simp))⟩
      | 1, hx, hm =>
        cases hx
        obtain ⟨m1, m2⟩ := hm
        refine ⟨_, rfl, .inr ⟨a1, kd1, as1.map V.ref, W ++ [a2], rfl, m1.ha, m1.off a1 (by simp), by simpa using l1', m1.sp (fun r hr => by have := (bS r hr).1; omega), fun Hk kk => ?_⟩⟩
        exact ⟨⟨_, rfl⟩, kq.trans (kk.less fun a h => List.mem_append_left _ h), kk _ _ m2 (.inl (by simp))⟩
      | 2, hx, hm =>
        cases hx
        refine ⟨_, rfl, .inl ⟨a2, kd2, ws, W, rfl, hm, in2, by omega, fun Hk kk _ => ?_⟩⟩
        exact ⟨⟨_, rfl⟩, kq.trans kk, trivial⟩
      | n + 3, hx, _ => cases hx
    rintro σ H17 ⟨⟨o6, rfl⟩, kq, _⟩
    have k516 : Kp [b] H5 H16 := k6.trans k616
    have keepZ : ∀ a ∈ Z, ∀ o, H5 a = some o → H17 a = some o := fun a ha o e => kq _ _ (k516 _ _ e (sZ a ha).2) (.inl (by rw [eW]; exact List.mem_cons_of_mem _ (List.mem_cons_of_mem _ (List.mem_cons_of_mem _ ha))))
    have dP17 := f1 H17 fun a ha => keepZ a (by rw [eZ]; simp [ha])
    have dS17 := f2 H17 fun a ha => keepZ a (by rw [eZ]; simp [ha])
    have dQ17 := f4 H17 fun a ha => keepZ a (by rw [eZ]; simp [ha])
    have ht17 := kq _ _ (k616 _ _ ht6 (by simpa using ntb)) (.inr fun xs z => nomatch z)
    have gol17 := kq _ _ gol (.inl (by rw [eW]; simp))
    have hg17 := kq _ _ hg16 (.inl (by rw [eW]; simp))
    have hut17 := kq _ _ hut16 (.inr fun xs z => nomatch z)
    have hA1q := hA1e.keepQ kq
    have hA2q := hA2e.keepQ kq
    have hA3q := hA3e.keepQ kq
    have hb17 : ∃ o, H17 b = some o := by
      obtain ⟨_, _, _, e, _⟩ := hBe.ex
      exact ⟨_, kq _ _ e (.inl (by rw [eW]; simp))⟩
    have std17 : ∀ {Hx : Hp}, Kp [] H17 Hx → ∀ c ∈ [b], ∃ o, Hx c = some o := fun k c hc => by
      obtain ⟨o, e⟩ := hb17
      exact ⟨o, by rw [List.mem_singleton.mp hc]; exact k _ _ e (by simp)⟩
    have finM : ∀ {Hx : Hp}, Kp [] H17 Hx → ∀ c ∈ M, ∀ o, H c = some o → Hx c = some o := fun k c hc o e => k _ _ (keepZ c (by rw [eZ]; simp [hc]) o (k05 _ _ e fun z => nbM (by rw [← List.mem_singleton.mp z]; exact hc))) (by simp)
    clear kq hA1e hA2e hA3e hBe Q0 Q1 ha2' hg16 gol hut16 k616 k516 keepZ hb17 sM f1 f2 f3 f4 s1 s2 s3 s4 in0 in1 in2 P0 P1 I2x dP5 dS5 dW5 dP6 dS6 dW6 dQ6 dQ D0 D1 D2 dG dP2 dS2 dW2 ht2 ht5 ht6 hg6 hB5 hB6 hB14 k6 k69 k13 k613 k913 k06 stZ sZ na2
    have ecn : (rows.length : Int) = cnt := by omega
    have ebt : (ws.length : Int) = 1 + r2 := by omega
    refine ⟨_, rfl, x1, rows, steps, ws, [b], rfl, hA1q, std17 Kp.rfl', slen, fun q1 H18 _ k18 dq1 => ?_⟩
    obtain ⟨dxx, b1, b2, b3, hx1, _⟩ := id hA1q.ex
    obtain ⟨dyy, _, _, _, hx2, _⟩ := id hA2q.ex
    refine ⟨_, rfl, x1, _, _, rfl, k18 _ _ hx1 (by simp), x1, rows, steps, ws, rfl, (hA1q.keep (k18.sub (by simp))).dp, _, rfl, by omega, by omega, by show 2 ≤ sizeLine; decide, fun l1 fl1 => ?_⟩
    refine ⟨_, rfl, _, rfl, by show 2 ≤ sizeLine; decide, fun l2 fl2 => ?_⟩
    have kl1 : ∀ cs, Kp cs H18 (upd H18 l1 (.lst [.ref q1, .int (rows.length : Int)])) := fun cs => Kp.rfl'.new fl1
    have kl2 : ∀ cs, Kp cs (upd H18 l1 (.lst [.ref q1, .int (rows.length : Int)])) (upd (upd H18 l1 (.lst [.ref q1, .int (rows.length : Int)])) l2 (.lst [.ref dq, .int cnt])) := fun cs => Kp.rfl'.new fl2
    have gl1 := kl2 [] _ _ (upd_same (H := H18) (a := l1) (o := .lst [.ref q1, .int (rows.length : Int)])) (by simp)
    have gl2 : (upd (upd H18 l1 (.lst [.ref q1, .int (rows.length : Int)])) l2 (.lst [.ref dq, .int cnt])) l2 = some (.lst [.ref dq, .int cnt]) := upd_same
    have kl : ∀ cs, Kp cs H18 (upd (upd H18 l1 (.lst [.ref q1, .int (rows.length : Int)])) l2 (.lst [.ref dq, .int cnt])) := fun cs => (kl1 cs).trans (kl2 cs)
    have k1719 := k18.trans (kl [])
    have dq1' := (dq1.keep (kl _)).less (cs := []) (by simp)
    have dq3 := (dQ17.keep (k1719.sub (by simp))).less (cs := []) (by simp)
    generalize upd (upd H18 l1 (.lst [.ref q1, .int (rows.length : Int)])) l2 (.lst [.ref dq, .int cnt]) = H19 at kl gl1 gl2 k1719 dq1' dq3 ⊢
    rw [ecn] at gl1
    have dcn : cnt.natAbs < 2 ^ 39 + 12 := by omega
    refine .inl ⟨.ref l1, .ref l2, _, [], [], 12, 4, rfl, .lst gl1 (by simp) (by show 2 ≤ 12; decide) (.cons dq1' (.cons (.int cnt dcn) .nil)), .lst gl2 (by simp) (by show 2 ≤ 12; decide) (.cons dq3 (.cons (.int cnt dcn) .nil)), by decide, by decide, fun H20 k20 => ⟨_, rfl, iteF ?_⟩⟩
    have k1720 := k1719.trans k20
    clear dq1 dq1' dq3 gl1 gl2 kl kl1 kl2 k18 k1719 k20 fl1 fl2
    have hA1r := hA1q.keep (k1720.sub (by simp))
    have hA2r := hA2q.keep (k1720.sub (by simp))
    have hx1r := k1720 _ _ hx1 (by simp)
    have hx2r := k1720 _ _ hx2 (by simp)
    refine ⟨_, rfl, _, rfl, x1, _, _, _, rfl, hx1r, O.ty T hx2r, first_self _, .inr ⟨x1, x2, rows, steps, rows, steps, ws, ws, rfl, hA1r.dp, hA2r.dp, _, rfl, _, rfl, ?_⟩⟩
    refine iteN (by simp) ?_
    refine ⟨_, rfl, _, rfl, x1, _, _, _, rfl, hx1r, O.ty T hx2r, first_self _, .inr ⟨x1, x2, rows, steps, rows, steps, ws, ws, rfl, hA1r.dp, hA2r.dp, _, rfl, _, rfl, iteN (by simp) ?_⟩⟩
    have el : ∀ (Hx : Hp), Kp [] H17 Hx → ∀ (j : Nat) (y : V), ([.ref x3, .ref g, .ref ut, .non, .str (hallText rows.length ws.length)] : List V)[j]? = some y → ∃ ty, TyX K Hx y ty ∧ PySem.W.notFirst K (C0 K) ty = true ∧ ∀ Qv : VK, Qv (.bl false) Hx → sp_eq K [.ref x1, y] Hx Qv E0 := by
      intro Hx kx j y hj
      match j, hj with
      | 0, hj =>
        cases hj
        obtain ⟨_, _, _, _, hx3, _⟩ := id hA3q.ex
        refine ⟨_, O.ty T (kx _ _ hx3 (by simp)), first_self _, fun Qv hq => .inr ⟨x1, x3, rows, steps, rows2, steps2, ws, ws2, rfl, (hA1q.keep (kx.sub (by simp))).dp, (hA3q.keep (kx.sub (by simp))).dp, ?_⟩⟩
        rw [decide_eq_false (fun z => ne2 ⟨z.1.symm, z.2.1.symm, z.2.2.symm⟩)]
        exact hq
      | 1, hj =>
        cases hj
        exact ⟨.type "list", .base (.lst (kx _ _ hg17 (by simp))), O.noL.2, fun Qv hq => .inl ⟨x1, _, "list", rfl, .base (.lst (kx _ _ hg17 (by simp))), O.noL.1, hq⟩⟩
      | 2, hj =>
        cases hj
        exact ⟨.type "tuple", .base (.tup (kx _ _ hut17 (by simp))), O.noT.2, fun Qv hq => .inl ⟨x1, _, "tuple", rfl, .base (.tup (kx _ _ hut17 (by simp))), O.noT.1, hq⟩⟩
      | 3, hj =>
        cases hj
        exact ⟨.type "NoneType", .base .non, O.noN.2, fun Qv hq => .inl ⟨x1, _, "NoneType", rfl, .base .non, O.noN.1, hq⟩⟩
      | 4, hj =>
        cases hj
        exact ⟨.type "str", .base (.str _), O.noS.2, fun Qv hq => .inl ⟨x1, _, "str", rfl, .base (.str _), O.noS.1, hq⟩⟩
      | n + 5, hj => cases hj
    refine ⟨_, rfl, ol, rfl, ⟨_, SqL.of (k1720 _ _ gol17 (by simp))⟩, fun n1 hn1 => lc_list (K := K) (a := ol) (xs := [.ref x3, .ref g, .ref ut, .non, .str (hallText rows.length ws.length)]) (fun j H3 => H3 n1 = some (.lst ((List.replicate j false).map V.bl)) ∧ Kp [] H20 H3) ?_ ?_ ?_ ?_⟩
    · exact ⟨by rw [upd_same]; rfl, Kp.rfl'.new hn1⟩
    · rintro j H3 _ ⟨_, k3⟩
      exact SqL.of ((k1720.trans k3) _ _ gol17 (by simp))
    · rintro j y H3 hj ⟨h3, k3⟩
      have kx := k1720.trans k3
      have hjl := (List.getElem?_eq_some_iff.mp hj).1
      have hjl : j < 5 := hjl
      obtain ⟨ty, h1, h2, h4⟩ := el H3 kx j y hj
      refine ⟨rfl, yesT ⟨_, rfl, _, rfl, x1, _, _, ty, rfl, kx _ _ hx1 (by simp), h1, h2, h4 _ ⟨false, rfl, _, h3, ?_, ?_, k3.own hn1⟩⟩⟩
      · simp only [List.length_map, List.length_replicate]
        exact small1000 (by omega)
      · rw [upd_same, List.replicate_succ']
        simp
    rintro H21 ⟨h3, k21⟩
    refine ⟨n1, _, rfl, SqL.of h3, _, rfl, ?_⟩
    refine iteN (by simp) ?_
    have k1721 := k1720.trans k21
    refine ⟨_, rfl, ol, rfl, ⟨_, SqL.of (k1721 _ _ gol17 (by simp))⟩, fun n2 hn2 => lc_list (K := K) (a := ol) (xs := [.ref x3, .ref g, .ref ut, .non, .str (hallText rows.length ws.length)]) (fun j H3 => H3 n2 = some (.lst ((List.replicate j true).map V.bl)) ∧ Kp [] H21 H3) ?_ ?_ ?_ ?_⟩
    · exact ⟨by rw [upd_same]; rfl, Kp.rfl'.new hn2⟩
    · rintro j H3 _ ⟨_, k3⟩
      exact SqL.of ((k1721.trans k3) _ _ gol17 (by simp))
    · rintro j y H3 hj ⟨h3, k3⟩
      have kx := k1721.trans k3
      have hjl := (List.getElem?_eq_some_iff.mp hj).1
      have hjl : j < 5 := hjl
      obtain ⟨ty, h1, h2, h4⟩ := el H3 kx j y hj
      refine ⟨rfl, yesT ⟨_, rfl, _, rfl, x1, _, _, ty, rfl, kx _ _ hx1 (by simp), h1, h2, h4 _ ⟨false, rfl, _, h3, ?_, ?_, k3.own hn2⟩⟩⟩
      · simp only [List.length_map, List.length_replicate]
        exact small1000 (by omega)
      · rw [upd_same, List.replicate_succ']
        simp
    rintro H22 ⟨h3, k22⟩
    refine ⟨n2, _, rfl, SqL.of h3, _, rfl, ?_⟩
    refine iteN (by simp) ?_
    have k1722 := k1721.trans k22
    clear k21 k22 k1721
    have ht22 := k1722 _ _ ht17 (by simp)
    refine ⟨_, rfl, t, _, 0, _, rfl, rfl, SqT.of ht22, rfl, _, rfl, t, _, 1, _, rfl, rfl, SqT.of ht22, rfl, fun x4 dx4 fx4 fdx4 nx4 => ?_⟩
    have m4 := mk_keep (C := C0 K) fx4 fdx4 nx4
    have nxb4 : x4 ∉ [b] := by
      obtain ⟨o, e⟩ := std17 k1722 b (by simp)
      simpa using (ne_of_none e fx4).symm
    have hok := hd.ok
    refine .inr ⟨x4, dx4, .ref p, .ref sa, _, dII rows, dII steps, rows, steps, [b], [b], 12, 2, rfl, upd_same, (dP17.keep (k1722.sub (by simp))).keep (m4 _), (dS17.keep (k1722.sub (by simp))).keep (m4 _), dfl, rowsD_of, rowsD_of, by decide, ⟨hok.r1, hok.row, hok.ls, hok.step, by simp, by simp, by simp⟩, std17 (k1722.trans (m4 [])), fun _ h => h, nxb4, fun H23 c1' c2' hx4 dc1 dc2 k23 => ⟨rfl, ?_⟩⟩
    have k1723 : Kp [] H17 H23 := k1722.trans ((m4 []).step fx4 k23)
    refine ⟨_, rfl, x4, dx4, _, rfl, hx4, flds_no _ _ _ (by decide +kernel) (by decide +kernel) (by decide +kernel), x4, dx4, c1', c2', _, rfl, hx4, ?_⟩
    refine ⟨by show 1 ≤ sizeLine; decide, fun t4 ft4 => ?_⟩
    have k4 : ∀ cs, Kp cs H23 (upd H23 t4 (.tup [.int 1])) := fun cs => Kp.rfl'.new ft4
    refine .inr ⟨_, t4, rfl, dfl, upd_same, fun H24 k24 => ⟨_, rfl, iteF ?_⟩⟩
    have k2324 : Kp [] H23 H24 := (k4 []).trans k24
    have k1724 := k1723.trans k2324
    have hx4' := k2324 _ _ hx4 (by simp)
    have hx1z := k1724 _ _ hx1 (by simp)
    have hB4 : HallDp K H24 x4 rows steps [1] := ⟨dx4, c1', c2', _, hx4', (dc1.keep (k2324.sub (by simp))).dp, (dc2.keep (k2324.sub (by simp))).dp, dfl.dp _⟩
    have hA1z := hA1q.keep (k1724.sub (by simp))
    refine ⟨_, rfl, _, rfl, x4, _, _, _, rfl, hx4', O.ty T hx1z, first_self _, .inr ⟨x4, x1, rows, steps, rows, steps, [1], ws, rfl, hB4, hA1z.dp, _, rfl, ?_⟩⟩
    obtain ⟨u0', u1', u2', u3', hdq, _, kk', dW2'⟩ := (dQ17.keep (k1724.sub (by simp))).told4
    refine ⟨_, rfl, dq, _, 2, _, rfl, rfl, SqL.of hdq, rfl, by show 1 ≤ sizeLine; decide, fun t5 ft5 => ?_⟩
    have k5 : ∀ cs, Kp cs H24 (upd H24 t5 (.tup [.int 1])) := fun cs => Kp.rfl'.new ft5
    have g5 : (upd H24 t5 (.tup [.int 1])) t5 = some (.tup [.int 1]) := upd_same
    have d5 : D [] (upd H24 t5 (.tup [.int 1])) 12 1 (.ref t5) (dT [1]) := .tup (k := 0) g5 (by simp) (by show 1 ≤ 12; decide) (.cons (.int 1 (by decide)) .nil)
    refine ⟨dT ws, dT [1], (dW2'.keep (k5 _)).dp, d5.dp, shT _, shT _, rfl, _, rfl, ?_⟩
    have k1725 := k1724.trans (k5 [])
    refine iteN (by rw [eqvT]; by_cases z : ws = [1] <;> simp [z, eq_comm]) ?_
    refine ⟨_, rfl, x1, _, _, rfl, k1725 _ _ hx1 (by simp), x1, rows, steps, ws, rfl, (hA1q.keep (k1725.sub (by simp))).dp, l12, l13, _, rfl, ?_⟩
    obtain ⟨y1, y2⟩ := txt_small l12
    obtain ⟨y3, y4⟩ := txt_small l13
    rw [ecn] at y1 y2
    rw [ebt] at y3 y4
    have la := l_a
    have lb := l_b
    have lc := l_c
    have sz := sizeLine_eq
    refine ⟨_, rfl, cnt, rfl, y1, _, _, rfl, rfl, by omega, _, _, rfl, rfl, by rw [Str.length_append]; omega, ?_⟩
    refine ⟨_, rfl, 1 + r2, rfl, y3, _, _, rfl, rfl, by rw [Str.length_append, Str.length_append]; omega, _, _, rfl, rfl, by rw [Str.length_append, Str.length_append, Str.length_append]; omega, rfl, ?_⟩
    have ee : hallText rows.length ws.length = Str.ofString "Hall(" ++ Str.ofString (toString cnt) ++ Str.ofString " persons, " ++ Str.ofString (toString (1 + r2)) ++ Str.ofString " beats)" := by rw [hallText_eq, ecn, ebt]
    rw [ee, decide_eq_true rfl]
    exact q _ (finM k1725)

end
end Sw

set_option maxHeartbeats 2000000
namespace Sw
open PySem PySem.Spec PyProof.Rows L2
section
variable {P : Program} {w : World} {K : PySem.W.Frag} {mg : Str → Option Value} {base : Heap}
theorem sq_keep1 {H H' : Hp} {a : Addr} {xs : List V} (h : SqL K H a xs) (k : ∀ o, H a = some o → H' a = some o) : SqL K H' a xs := by
  rcases h with h | h
  · rcases h with h | ⟨o, h⟩
    · exact .inl (.inl (k _ h))
    · exact .inl (.inr ⟨o, k _ h⟩)
  · exact .inr h
def sp_law (K : PySem.W.Frag) : Sp := fun vs H Q _ => ∃ (a : Addr) (ns : List Int), vs = [.ref a] ∧ SqL K H a (ns.map V.int) ∧ ns.length ≤ 63 ∧ ∀ H', Q (.bl true) H'
theorem ok_law (T : Tx K mg) (O : Ow K) (dfl : DfT K (He.dflAt ("Hall", some "__init__") 0 K)) : FnG P w K mg base 17 (He.fAd K ("law", none)) T.fd_law p_law (sp_law K) := by
  have G__law_right := ok_right (P := P) (w := w) (base := base) T O dfl
  have G__law_box := ok_box (P := P) (w := w) (base := base) T
  refine okG T.F_law sc_law (fun vs H Q E h => ?_) (fun cdv A outer s H vs Q E hG hr h => ?_)
  · obtain ⟨_, _, rfl, _⟩ := h
    rfl
  · obtain ⟨a, ns, rfl, hS, hl, q⟩ := h
    refine ⟨_, PSs.nox (pss_one (ps_ret (pe_callB (cr_all rfl) (by rfl) T.b_all (by decide +kernel) (pa_cons (pe_lc (own := [("_law_k", 1)]) (g := (gName 1)) (tt := tYes) rfl sc_law.nd (pi_range1 (by rfl) T.b_range (pa_cons (pe_op op_add pe_int (pe_callB (call_min2 rfl) (by rfl) T.b_min (by decide +kernel) (pa_cons pe_int (pa_cons (pe_callB call_len (by rfl) T.b_len (by decide +kernel) (pa_cons (pv 0) pa_nil)) pa_nil)))) pa_nil)) (blkOk_by (own := [("_law_k", 1)]) (N := n_law) (sc := defScope s_law) (by decide +kernel)) (fun _ _ _ _ _ => (pg_name (i := 1) sc_law.nd rfl (by first | exact Or.inl rfl | exact Or.inr rfl))) (fun _ _ _ _ _ => pts_nil) (fun _ _ _ _ _ => (pe_callG G__law_right hG (hr.mono (by first | decide | omega)) rfl T.g__law_right T.F__law_right.kp T.bd__law_right (pa_cons (pe_call G__law_box (hr.mono (by first | decide | omega)) rfl T.g__law_box T.F__law_box.kp T.bd__law_box .nil pass0 (pa_cons (pv 0) (pa_cons (pv 1) pa_nil))) (pa_cons (pe_cmpR op_eq (pv 1) pe_int (nomark _)) pa_nil))))) pa_nil)))), ?_⟩
    refine ⟨_, rfl, _, ns.length, rfl, .inl ⟨_, hS, (List.length_map ..).symm⟩, _, _, rfl, _, _, rfl, rfl, ?_⟩
    have cb : 0 ≤ (1 : Int) + (if (ns.length : Int) < 3 then (ns.length : Int) else 3) ∧ (1 : Int) + (if (ns.length : Int) < 3 then (ns.length : Int) else 3) ≤ 4 := by split <;> omega
    refine ⟨_, rfl, by omega, by omega, fun p hp => lc_range (n := ((1 : Int) + (if (ns.length : Int) < 3 then (ns.length : Int) else 3)).toNat) (fun j H3 => H3 p = some (.lst ((List.replicate j true).map V.bl)) ∧ ∀ o, H a = some o → H3 a = some o) ?_ ?_ ?_⟩
    · exact ⟨by rw [upd_same]; rfl, fun o e => by rw [upd_ne (ne_of_none e hp)]; exact e⟩
    · rintro j H3 hj ⟨h3, s3⟩
      refine ⟨rfl, yesT ⟨_, rfl, _, rfl, a, ns, _, rfl, sq_keep1 hS s3, by omega, by omega, fun bx H4 fbx hB4 k4 => ?_⟩⟩
      have npb : bx ≠ p := (ne_of_none h3 fbx).symm
      have h4 := k4 _ _ h3 (by simp)
      have stp : ∀ (Mm : List Addr), Mm = [] ∨ (Mm = [a] ∧ ∃ o, H a = some o) → Std (p :: Mm) H4 ∧ bx ∉ p :: Mm := by
        intro Mm hM
        have one : ∃ o, H4 p = some o := ⟨_, h4⟩
        rcases hM with rfl | ⟨rfl, o, e⟩
        · exact ⟨fun c hc => by rw [List.mem_singleton.mp hc]; exact one, by simpa using npb⟩
        · have e3 := s3 o e
          have two : ∃ o, H4 a = some o := ⟨_, k4 _ _ e3 (by simp)⟩
          refine ⟨fun c hc => ?_, by simpa using ⟨npb, (ne_of_none e3 fbx).symm⟩⟩
          rcases List.mem_cons.mp hc with z | z
          · rw [z]
            exact one
          · rw [List.mem_singleton.mp z]
            exact two
      obtain ⟨Mm, hM, hk⟩ : ∃ Mm : List Addr, (Mm = [] ∨ (Mm = [a] ∧ ∃ o, H a = some o)) ∧ ∀ o, H a = some o → a ∈ Mm := by
        cases e : H a with
        | none => exact ⟨[], .inl rfl, fun o z => nomatch z⟩
        | some o => exact ⟨[a], .inr ⟨rfl, o, rfl⟩, fun _ _ => by simp⟩
      obtain ⟨st, nb⟩ := stp Mm hM
      refine ⟨_, rfl, rfl, bx, _, p :: Mm, rfl, hB4, st, nb, fun H5 k5 => ?_⟩
      refine ⟨_, k5 p (by simp) _ h4, by simp only [List.length_map, List.length_replicate]; exact small1000 (by omega), ?_, fun o e => ?_⟩
      · rw [upd_same, rep_snoc]
      · rw [upd_ne (ne_of_none e hp)]
        exact k5 a (List.mem_cons_of_mem _ (hk o e)) _ (k4 _ _ (s3 o e) (by simp))
    · rintro H3 ⟨h3, _⟩
      refine ⟨p, _, rfl, SqL.of h3, ?_⟩
      rw [rep_all]
      exact q _
theorem bd_Hall___init__ {f : Addr} {fd : FuncData} (F : FunD K "__init__" "Hall.__init__" (defArgs s_Hall___init__) (defBody s_Hall___init__) (defScope s_Hall___init__) [V.ref (He.dflAt ("Hall", some "__init__") 0 K)] [] f fd) : Binds K fd p_Hall___init__ [] := by
  obtain ⟨ds, r, bd⟩ := F.binds1 (ps := p_Hall___init__) 4 1 (by simp) rfl (fun T kV doc pm an cdv ct us its h1 h2 => match us, its, h1, h2 with | [_, _, _, _], [_], _, _ => ⟨_, rfl, rfl⟩)
  cases r
  exact bd
def dd_is_number : He.DefD := ⟨("is_number", none), "is_number", "is_number", defArgs s_is_number, defBody s_is_number, defScope s_is_number, [], []⟩
def dd_are_numbers : He.DefD := ⟨("are_numbers", none), "are_numbers", "are_numbers", defArgs s_are_numbers, defBody s_are_numbers, defScope s_are_numbers, [], []⟩
def dd_are_rows : He.DefD := ⟨("are_rows", none), "are_rows", "are_rows", defArgs s_are_rows, defBody s_are_rows, defScope s_are_rows, [], []⟩
def dd_does_rise : He.DefD := ⟨("does_rise", none), "does_rise", "does_rise", defArgs s_does_rise, defBody s_does_rise, defScope s_does_rise, [], []⟩
def dd_are_strings : He.DefD := ⟨("are_strings", none), "are_strings", "are_strings", defArgs s_are_strings, defBody s_are_strings, defScope s_are_strings, [], []⟩
def dd_is_ladder : He.DefD := ⟨("is_ladder", none), "is_ladder", "is_ladder", defArgs s_is_ladder, defBody s_is_ladder, defScope s_is_ladder, [], []⟩
def dd_are_steps : He.DefD := ⟨("are_steps", none), "are_steps", "are_steps", defArgs s_are_steps, defBody s_are_steps, defScope s_are_steps, [], []⟩
def dd_is_memory : He.DefD := ⟨("is_memory", none), "is_memory", "is_memory", defArgs s_is_memory, defBody s_is_memory, defScope s_is_memory, [], []⟩
def dd_as_tuples : He.DefD := ⟨("as_tuples", none), "as_tuples", "as_tuples", defArgs s_as_tuples, defBody s_as_tuples, defScope s_as_tuples, [], []⟩
def dd_Hall___init__ : He.DefD := ⟨("Hall", some "__init__"), "__init__", "Hall.__init__", defArgs s_Hall___init__, defBody s_Hall___init__, defScope s_Hall___init__, [.adr (He.dflAt ("Hall", some "__init__") 0)], []⟩
def dd_Hall_strings : He.DefD := ⟨("Hall", some "strings"), "strings", "Hall.strings", defArgs s_Hall_strings, defBody s_Hall_strings, defScope s_Hall_strings, [], []⟩
def dd_Hall_steps : He.DefD := ⟨("Hall", some "steps"), "steps", "Hall.steps", defArgs s_Hall_steps, defBody s_Hall_steps, defScope s_Hall_steps, [], []⟩
def dd_Hall_memory : He.DefD := ⟨("Hall", some "memory"), "memory", "Hall.memory", defArgs s_Hall_memory, defBody s_Hall_memory, defScope s_Hall_memory, [], []⟩
def dd_Hall_tops : He.DefD := ⟨("Hall", some "tops"), "tops", "Hall.tops", defArgs s_Hall_tops, defBody s_Hall_tops, defScope s_Hall_tops, [], []⟩
def dd_Hall___eq__ : He.DefD := ⟨("Hall", some "__eq__"), "__eq__", "Hall.__eq__", defArgs s_Hall___eq__, defBody s_Hall___eq__, defScope s_Hall___eq__, [], []⟩
def dd_Hall___len__ : He.DefD := ⟨("Hall", some "__len__"), "__len__", "Hall.__len__", defArgs s_Hall___len__, defBody s_Hall___len__, defScope s_Hall___len__, [], []⟩
def dd_Hall___repr__ : He.DefD := ⟨("Hall", some "__repr__"), "__repr__", "Hall.__repr__", defArgs s_Hall___repr__, defBody s_Hall___repr__, defScope s_Hall___repr__, [], []⟩
def dd__law_box : He.DefD := ⟨("_law_box", none), "_law_box", "_law_box", defArgs s__law_box, defBody s__law_box, defScope s__law_box, [], []⟩
def dd__law_take : He.DefD := ⟨("_law_take", none), "_law_take", "_law_take", defArgs s__law_take, defBody s__law_take, defScope s__law_take, [], []⟩
def dd__law_same : He.DefD := ⟨("_law_same", none), "_law_same", "_law_same", defArgs s__law_same, defBody s__law_same, defScope s__law_same, [], []⟩
def dd__law_number : He.DefD := ⟨("_law_number", none), "_law_number", "_law_number", defArgs s__law_number, defBody s__law_number, defScope s__law_number, [], []⟩
def dd__law_ties : He.DefD := ⟨("_law_ties", none), "_law_ties", "_law_ties", defArgs s__law_ties, defBody s__law_ties, defScope s__law_ties, [], []⟩
def dd__law_weights : He.DefD := ⟨("_law_weights", none), "_law_weights", "_law_weights", defArgs s__law_weights, defBody s__law_weights, defScope s__law_weights, [], []⟩
def dd__law_rungs : He.DefD := ⟨("_law_rungs", none), "_law_rungs", "_law_rungs", defArgs s__law_rungs, defBody s__law_rungs, defScope s__law_rungs, [], []⟩
def dd__law_data : He.DefD := ⟨("_law_data", none), "_law_data", "_law_data", defArgs s__law_data, defBody s__law_data, defScope s__law_data, [], []⟩
def dd__law_as : He.DefD := ⟨("_law_as", none), "_law_as", "_law_as", defArgs s__law_as, defBody s__law_as, defScope s__law_as, [], []⟩
def dd__law_due : He.DefD := ⟨("_law_due", none), "_law_due", "_law_due", defArgs s__law_due, defBody s__law_due, defScope s__law_due, [], []⟩
def dd__law_told : He.DefD := ⟨("_law_told", none), "_law_told", "_law_told", defArgs s__law_told, defBody s__law_told, defScope s__law_told, [], []⟩
def dd__law_otherwise : He.DefD := ⟨("_law_otherwise", none), "_law_otherwise", "_law_otherwise", defArgs s__law_otherwise, defBody s__law_otherwise, defScope s__law_otherwise, [], []⟩
def dd__law_spoilt : He.DefD := ⟨("_law_spoilt", none), "_law_spoilt", "_law_spoilt", defArgs s__law_spoilt, defBody s__law_spoilt, defScope s__law_spoilt, [], []⟩
def dd__law_right : He.DefD := ⟨("_law_right", none), "_law_right", "_law_right", defArgs s__law_right, defBody s__law_right, defScope s__law_right, [], []⟩
def dd_law : He.DefD := ⟨("law", none), "law", "law", defArgs s_law, defBody s_law, defScope s_law, [], []⟩
def fn : List He.DefD := [dd_is_number, dd_are_numbers, dd_are_rows, dd_does_rise, dd_are_strings, dd_is_ladder, dd_are_steps, dd_is_memory, dd_as_tuples, dd_Hall___init__, dd_Hall_strings, dd_Hall_steps, dd_Hall_memory, dd_Hall_tops, dd_Hall___eq__, dd_Hall___len__, dd_Hall___repr__, dd__law_box, dd__law_take, dd__law_same, dd__law_number, dd__law_ties, dd__law_weights, dd__law_rungs, dd__law_data, dd__law_as, dd__law_due, dd__law_told, dd__law_otherwise, dd__law_spoilt, dd__law_right, dd_law]
def fa : List He.Fa := [.free "abs", .free "all", .free "any", .free "bool", .free "int", .free "isinstance", .free "len", .free "list", .free "min", .free "range", .free "repr", .free "str", .free "sum", .free "tuple", .free "zip", .int "MOST_STEPS" 4, .int "MOST_WEIGHTS" 5, .glo "Hall", .cls "Hall", .mkr "Hall", .noat "Hall" "string_rows", .noat "Hall" "step_rows", .noat "Hall" "weights", .glo "is_number", .glo "are_numbers", .glo "are_rows", .glo "does_rise", .glo "are_strings", .glo "is_ladder", .glo "are_steps", .glo "is_memory", .glo "as_tuples", .meth "Hall" "strings", .meth "Hall" "steps", .meth "Hall" "memory", .meth "Hall" "tops", .meth "Hall" "__eq__", .meth "Hall" "__len__", .meth "Hall" "__repr__", .glo "_law_box", .glo "_law_take", .glo "_law_same", .glo "_law_number", .glo "_law_ties", .glo "_law_weights", .glo "_law_rungs", .glo "_law_data", .glo "_law_as", .glo "_law_due", .glo "_law_told", .glo "_law_otherwise", .glo "_law_spoilt", .glo "_law_right", .glo "law"]
theorem tx_of {K : PySem.W.Frag} {h : Heap} {mg : Str → Option Value} (X : K.In h) (G : h.Ns mainGlobals mg) (c : He.SaysD fa fn K) : Nonempty (Tx K mg) := by
  obtain ⟨t_MOST_STEPS, h_MOST_STEPS⟩ := He.int_ok X G (c.fact 15 (f := .int "MOST_STEPS" 4) rfl)
  obtain ⟨t_MOST_WEIGHTS, h_MOST_WEIGHTS⟩ := He.int_ok X G (c.fact 16 (f := .int "MOST_WEIGHTS" 5) rfl)
  obtain ⟨fd_is_number, F_is_number⟩ := c.def_ 0 (d := dd_is_number) rfl
  obtain ⟨fd_are_numbers, F_are_numbers⟩ := c.def_ 1 (d := dd_are_numbers) rfl
  obtain ⟨fd_are_rows, F_are_rows⟩ := c.def_ 2 (d := dd_are_rows) rfl
  obtain ⟨fd_does_rise, F_does_rise⟩ := c.def_ 3 (d := dd_does_rise) rfl
  obtain ⟨fd_are_strings, F_are_strings⟩ := c.def_ 4 (d := dd_are_strings) rfl
  obtain ⟨fd_is_ladder, F_is_ladder⟩ := c.def_ 5 (d := dd_is_ladder) rfl
  obtain ⟨fd_are_steps, F_are_steps⟩ := c.def_ 6 (d := dd_are_steps) rfl
  obtain ⟨fd_is_memory, F_is_memory⟩ := c.def_ 7 (d := dd_is_memory) rfl
  obtain ⟨fd_as_tuples, F_as_tuples⟩ := c.def_ 8 (d := dd_as_tuples) rfl
  obtain ⟨fd_Hall___init__, F_Hall___init__⟩ := c.def_ 9 (d := dd_Hall___init__) rfl
  obtain ⟨fd_Hall_strings, F_Hall_strings⟩ := c.def_ 10 (d := dd_Hall_strings) rfl
  obtain ⟨fd_Hall_steps, F_Hall_steps⟩ := c.def_ 11 (d := dd_Hall_steps) rfl
  obtain ⟨fd_Hall_memory, F_Hall_memory⟩ := c.def_ 12 (d := dd_Hall_memory) rfl
  obtain ⟨fd_Hall_tops, F_Hall_tops⟩ := c.def_ 13 (d := dd_Hall_tops) rfl
  obtain ⟨fd_Hall___eq__, F_Hall___eq__⟩ := c.def_ 14 (d := dd_Hall___eq__) rfl
  obtain ⟨fd_Hall___len__, F_Hall___len__⟩ := c.def_ 15 (d := dd_Hall___len__) rfl
  obtain ⟨fd_Hall___repr__, F_Hall___repr__⟩ := c.def_ 16 (d := dd_Hall___repr__) rfl
  obtain ⟨fd__law_box, F__law_box⟩ := c.def_ 17 (d := dd__law_box) rfl
  obtain ⟨fd__law_take, F__law_take⟩ := c.def_ 18 (d := dd__law_take) rfl
  obtain ⟨fd__law_same, F__law_same⟩ := c.def_ 19 (d := dd__law_same) rfl
  obtain ⟨fd__law_number, F__law_number⟩ := c.def_ 20 (d := dd__law_number) rfl
  obtain ⟨fd__law_ties, F__law_ties⟩ := c.def_ 21 (d := dd__law_ties) rfl
  obtain ⟨fd__law_weights, F__law_weights⟩ := c.def_ 22 (d := dd__law_weights) rfl
  obtain ⟨fd__law_rungs, F__law_rungs⟩ := c.def_ 23 (d := dd__law_rungs) rfl
  obtain ⟨fd__law_data, F__law_data⟩ := c.def_ 24 (d := dd__law_data) rfl
  obtain ⟨fd__law_as, F__law_as⟩ := c.def_ 25 (d := dd__law_as) rfl
  obtain ⟨fd__law_due, F__law_due⟩ := c.def_ 26 (d := dd__law_due) rfl
  obtain ⟨fd__law_told, F__law_told⟩ := c.def_ 27 (d := dd__law_told) rfl
  obtain ⟨fd__law_otherwise, F__law_otherwise⟩ := c.def_ 28 (d := dd__law_otherwise) rfl
  obtain ⟨fd__law_spoilt, F__law_spoilt⟩ := c.def_ 29 (d := dd__law_spoilt) rfl
  obtain ⟨fd__law_right, F__law_right⟩ := c.def_ 30 (d := dd__law_right) rfl
  obtain ⟨fd_law, F_law⟩ := c.def_ 31 (d := dd_law) rfl
  exact ⟨{ b_abs := He.free_ok X G (c.fact 0 (f := .free "abs") rfl), b_all := He.free_ok X G (c.fact 1 (f := .free "all") rfl), b_any := He.free_ok X G (c.fact 2 (f := .free "any") rfl), b_bool := He.free_ok X G (c.fact 3 (f := .free "bool") rfl), b_int := He.free_ok X G (c.fact 4 (f := .free "int") rfl), b_isinstance := He.free_ok X G (c.fact 5 (f := .free "isinstance") rfl), b_len := He.free_ok X G (c.fact 6 (f := .free "len") rfl), b_list := He.free_ok X G (c.fact 7 (f := .free "list") rfl), b_min := He.free_ok X G (c.fact 8 (f := .free "min") rfl), b_range := He.free_ok X G (c.fact 9 (f := .free "range") rfl), b_repr := He.free_ok X G (c.fact 10 (f := .free "repr") rfl), b_str := He.free_ok X G (c.fact 11 (f := .free "str") rfl), b_sum := He.free_ok X G (c.fact 12 (f := .free "sum") rfl), b_tuple := He.free_ok X G (c.fact 13 (f := .free "tuple") rfl), b_zip := He.free_ok X G (c.fact 14 (f := .free "zip") rfl), t_MOST_STEPS := t_MOST_STEPS, c_MOST_STEPS := h_MOST_STEPS, t_MOST_WEIGHTS := t_MOST_WEIGHTS, c_MOST_WEIGHTS := h_MOST_WEIGHTS, g_Hall := He.glo_ok X G (c.fact 17 (f := .glo "Hall") rfl), cl_Hall := He.cls_ok (c.fact 18 (f := .cls "Hall") rfl), mk_Hall := He.mkr_ok (c.fact 19 (f := .mkr "Hall") rfl), na_Hall_string_rows := He.noat_ok (c.fact 20 (f := .noat "Hall" "string_rows") rfl), na_Hall_step_rows := He.noat_ok (c.fact 21 (f := .noat "Hall" "step_rows") rfl), na_Hall_weights := He.noat_ok (c.fact 22 (f := .noat "Hall" "weights") rfl), fd_is_number := fd_is_number, F_is_number := F_is_number, g_is_number := He.glo_ok X G (c.fact 23 (f := .glo "is_number") rfl), bd_is_number := FunD.bindsN (ps := p_is_number) F_is_number fun _ _ _ _ _ _ us hl => match us, hl with | [_], _ => rfl, fd_are_numbers := fd_are_numbers, F_are_numbers := F_are_numbers, g_are_numbers := He.glo_ok X G (c.fact 24 (f := .glo "are_numbers") rfl), bd_are_numbers := FunD.bindsN (ps := p_are_numbers) F_are_numbers fun _ _ _ _ _ _ us hl => match us, hl with | [_], _ => rfl, fd_are_rows := fd_are_rows, F_are_rows := F_are_rows, g_are_rows := He.glo_ok X G (c.fact 25 (f := .glo "are_rows") rfl), bd_are_rows := FunD.bindsN (ps := p_are_rows) F_are_rows fun _ _ _ _ _ _ us hl => match us, hl with | [_], _ => rfl, fd_does_rise := fd_does_rise, F_does_rise := F_does_rise, g_does_rise := He.glo_ok X G (c.fact 26 (f := .glo "does_rise") rfl), bd_does_rise := FunD.bindsN (ps := p_does_rise) F_does_rise fun _ _ _ _ _ _ us hl => match us, hl with | [_], _ => rfl, fd_are_strings := fd_are_strings, F_are_strings := F_are_strings, g_are_strings := He.glo_ok X G (c.fact 27 (f := .glo "are_strings") rfl), bd_are_strings := FunD.bindsN (ps := p_are_strings) F_are_strings fun _ _ _ _ _ _ us hl => match us, hl with | [_], _ => rfl, fd_is_ladder := fd_is_ladder, F_is_ladder := F_is_ladder, g_is_ladder := He.glo_ok X G (c.fact 28 (f := .glo "is_ladder") rfl), bd_is_ladder := FunD.bindsN (ps := p_is_ladder) F_is_ladder fun _ _ _ _ _ _ us hl => match us, hl with | [_], _ => rfl, fd_are_steps := fd_are_steps, F_are_steps := F_are_steps, g_are_steps := He.glo_ok X G (c.fact 29 (f := .glo "are_steps") rfl), bd_are_steps := FunD.bindsN (ps := p_are_steps) F_are_steps fun _ _ _ _ _ _ us hl => match us, hl with | [_, _], _ => rfl, fd_is_memory := fd_is_memory, F_is_memory := F_is_memory, g_is_memory := He.glo_ok X G (c.fact 30 (f := .glo "is_memory") rfl), bd_is_memory := FunD.bindsN (ps := p_is_memory) F_is_memory fun _ _ _ _ _ _ us hl => match us, hl with | [_], _ => rfl, fd_as_tuples := fd_as_tuples, F_as_tuples := F_as_tuples, g_as_tuples := He.glo_ok X G (c.fact 31 (f := .glo "as_tuples") rfl), bd_as_tuples := FunD.bindsN (ps := p_as_tuples) F_as_tuples fun _ _ _ _ _ _ us hl => match us, hl with | [_], _ => rfl, fd_Hall___init__ := fd_Hall___init__, F_Hall___init__ := F_Hall___init__, bd_Hall___init__ := bd_Hall___init__ F_Hall___init__, fd_Hall_strings := fd_Hall_strings, F_Hall_strings := F_Hall_strings, m_Hall_strings := He.meth_ok (c.fact 32 (f := .meth "Hall" "strings") rfl), bd_Hall_strings := FunD.bindsN (ps := p_Hall_strings) F_Hall_strings fun _ _ _ _ _ _ us hl => match us, hl with | [_], _ => rfl, fd_Hall_steps := fd_Hall_steps, F_Hall_steps := F_Hall_steps, m_Hall_steps := He.meth_ok (c.fact 33 (f := .meth "Hall" "steps") rfl), bd_Hall_steps := FunD.bindsN (ps := p_Hall_steps) F_Hall_steps fun _ _ _ _ _ _ us hl => match us, hl with | [_], _ => rfl, fd_Hall_memory := fd_Hall_memory, F_Hall_memory := F_Hall_memory, m_Hall_memory := He.meth_ok (c.fact 34 (f := .meth "Hall" "memory") rfl), bd_Hall_memory := FunD.bindsN (ps := p_Hall_memory) F_Hall_memory fun _ _ _ _ _ _ us hl => match us, hl with | [_], _ => rfl, fd_Hall_tops := fd_Hall_tops, F_Hall_tops := F_Hall_tops, m_Hall_tops := He.meth_ok (c.fact 35 (f := .meth "Hall" "tops") rfl), bd_Hall_tops := FunD.bindsN (ps := p_Hall_tops) F_Hall_tops fun _ _ _ _ _ _ us hl => match us, hl with | [_], _ => rfl, fd_Hall___eq__ := fd_Hall___eq__, F_Hall___eq__ := F_Hall___eq__, m_Hall___eq__ := He.meth_ok (c.fact 36 (f := .meth "Hall" "__eq__") rfl), bd_Hall___eq__ := FunD.bindsN (ps := p_Hall___eq__) F_Hall___eq__ fun _ _ _ _ _ _ us hl => match us, hl with | [_, _], _ => rfl, fd_Hall___len__ := fd_Hall___len__, F_Hall___len__ := F_Hall___len__, m_Hall___len__ := He.meth_ok (c.fact 37 (f := .meth "Hall" "__len__") rfl), bd_Hall___len__ := FunD.bindsN (ps := p_Hall___len__) F_Hall___len__ fun _ _ _ _ _ _ us hl => match us, hl with | [_], _ => rfl, fd_Hall___repr__ := fd_Hall___repr__, F_Hall___repr__ := F_Hall___repr__, m_Hall___repr__ := He.meth_ok (c.fact 38 (f := .meth "Hall" "__repr__") rfl), bd_Hall___repr__ := FunD.bindsN (ps := p_Hall___repr__) F_Hall___repr__ fun _ _ _ _ _ _ us hl => match us, hl with | [_], _ => rfl, fd__law_box := fd__law_box, F__law_box := F__law_box, g__law_box := He.glo_ok X G (c.fact 39 (f := .glo "_law_box") rfl), bd__law_box := FunD.bindsN (ps := p__law_box) F__law_box fun _ _ _ _ _ _ us hl => match us, hl with | [_, _], _ => rfl, fd__law_take := fd__law_take, F__law_take := F__law_take, g__law_take := He.glo_ok X G (c.fact 40 (f := .glo "_law_take") rfl), bd__law_take := FunD.bindsN (ps := p__law_take) F__law_take fun _ _ _ _ _ _ us hl => match us, hl with | [_, _], _ => rfl, fd__law_same := fd__law_same, F__law_same := F__law_same, g__law_same := He.glo_ok X G (c.fact 41 (f := .glo "_law_same") rfl), bd__law_same := FunD.bindsN (ps := p__law_same) F__law_same fun _ _ _ _ _ _ us hl => match us, hl with | [_, _], _ => rfl, fd__law_number := fd__law_number, F__law_number := F__law_number, g__law_number := He.glo_ok X G (c.fact 42 (f := .glo "_law_number") rfl), bd__law_number := FunD.bindsN (ps := p__law_number) F__law_number fun _ _ _ _ _ _ us hl => match us, hl with | [_, _], _ => rfl, fd__law_ties := fd__law_ties, F__law_ties := F__law_ties, g__law_ties := He.glo_ok X G (c.fact 43 (f := .glo "_law_ties") rfl), bd__law_ties := FunD.bindsN (ps := p__law_ties) F__law_ties fun _ _ _ _ _ _ us hl => match us, hl with | [_, _, _], _ => rfl, fd__law_weights := fd__law_weights, F__law_weights := F__law_weights, g__law_weights := He.glo_ok X G (c.fact 44 (f := .glo "_law_weights") rfl), bd__law_weights := FunD.bindsN (ps := p__law_weights) F__law_weights fun _ _ _ _ _ _ us hl => match us, hl with | [_, _], _ => rfl, fd__law_rungs := fd__law_rungs, F__law_rungs := F__law_rungs, g__law_rungs := He.glo_ok X G (c.fact 45 (f := .glo "_law_rungs") rfl), bd__law_rungs := FunD.bindsN (ps := p__law_rungs) F__law_rungs fun _ _ _ _ _ _ us hl => match us, hl with | [_, _, _], _ => rfl, fd__law_data := fd__law_data, F__law_data := F__law_data, g__law_data := He.glo_ok X G (c.fact 46 (f := .glo "_law_data") rfl), bd__law_data := FunD.bindsN (ps := p__law_data) F__law_data fun _ _ _ _ _ _ us hl => match us, hl with | [_, _, _, _], _ => rfl, fd__law_as := fd__law_as, F__law_as := F__law_as, g__law_as := He.glo_ok X G (c.fact 47 (f := .glo "_law_as") rfl), bd__law_as := FunD.bindsN (ps := p__law_as) F__law_as fun _ _ _ _ _ _ us hl => match us, hl with | [_, _], _ => rfl, fd__law_due := fd__law_due, F__law_due := F__law_due, g__law_due := He.glo_ok X G (c.fact 48 (f := .glo "_law_due") rfl), bd__law_due := FunD.bindsN (ps := p__law_due) F__law_due fun _ _ _ _ _ _ us hl => match us, hl with | [_], _ => rfl, fd__law_told := fd__law_told, F__law_told := F__law_told, g__law_told := He.glo_ok X G (c.fact 49 (f := .glo "_law_told") rfl), bd__law_told := FunD.bindsN (ps := p__law_told) F__law_told fun _ _ _ _ _ _ us hl => match us, hl with | [_], _ => rfl, fd__law_otherwise := fd__law_otherwise, F__law_otherwise := F__law_otherwise, g__law_otherwise := He.glo_ok X G (c.fact 50 (f := .glo "_law_otherwise") rfl), bd__law_otherwise := FunD.bindsN (ps := p__law_otherwise) F__law_otherwise fun _ _ _ _ _ _ us hl => match us, hl with | [_, _], _ => rfl, fd__law_spoilt := fd__law_spoilt, F__law_spoilt := F__law_spoilt, g__law_spoilt := He.glo_ok X G (c.fact 51 (f := .glo "_law_spoilt") rfl), bd__law_spoilt := FunD.bindsN (ps := p__law_spoilt) F__law_spoilt fun _ _ _ _ _ _ us hl => match us, hl with | [_], _ => rfl, fd__law_right := fd__law_right, F__law_right := F__law_right, g__law_right := He.glo_ok X G (c.fact 52 (f := .glo "_law_right") rfl), bd__law_right := FunD.bindsN (ps := p__law_right) F__law_right fun _ _ _ _ _ _ us hl => match us, hl with | [_, _], _ => rfl, fd_law := fd_law, F_law := F_law, g_law := He.glo_ok X G (c.fact 53 (f := .glo "law") rfl) }⟩
theorem glo_law {K : PySem.W.Frag} {h : Heap} {mg : Str → Option Value} (X : K.In h) (G : h.Ns mainGlobals mg) (c : He.SaysD fa fn K) : mg "law" = some (.ref (He.fAd K ("law", none))) := He.glo_ok X G (c.fact 53 (f := .glo "law") rfl)
/-! ### what else is asked of the class and of the default -/
def dfB (K : PySem.W.Frag) : Bool := match K.lookup (He.dflAt ("Hall", some "__init__") 0 K) with
  | some ⟨.type c, _, .seq its _, _⟩ => decide (c = "tuple") && (decide (its.size ≤ sizeLine) && He.relAll [V.int 1] its.toList)
  | _ => false
theorem dfB_ok (h : dfB K = true) : DfT K (He.dflAt ("Hall", some "__init__") 0 K) := by
  unfold dfB at h
  split at h
  · rename_i c dd its n sl e
    obtain ⟨h1, h2⟩ := He.ba h
    obtain ⟨h3, h4⟩ := He.ba h2
    exact ⟨_, its, n, e, congrArg Value.type (of_decide_eq_true h1), rfl, of_decide_eq_true h3, He.relAll_ok h4⟩
  · cases h
def noB (K : PySem.W.Frag) (n : String) : Bool := decide (PySem.W.kitOne K (.type n) (.ref (C0 K)) = some false) && PySem.W.notFirst K (C0 K) (.type n)
theorem noB_ok {n : String} (h : noB K n = true) : PySem.W.kitOne K (.type n) (.ref (C0 K)) = some false ∧ PySem.W.notFirst K (C0 K) (.type n) = true := by
  obtain ⟨h1, h2⟩ := He.ba h
  exact ⟨of_decide_eq_true h1, h2⟩
def mfB (K : PySem.W.Frag) : Bool := dfB K && (He.eqO (PySem.W.findIn K (.ref (C0 K)) "__class__") (some (some (.builtin "object.__class__"))) && (He.eqO (PySem.W.specialIn K (.builtin "object.__class__") "__get__") (some (some (.builtin "getset_descriptor.__get__"))) &&
  (decide (PySem.W.takesIn K (.builtin "object.__class__") = some true) && (decide (PySem.W.mroIn K (C0 K) (.type "object") = some true) && (He.eqO (PySem.W.findIn K (.ref (C0 K)) "__ne__") (some (some (.builtin "object.__ne__"))) &&
  (decide (PySem.W.subIn K (.ref (C0 K)) (.type "object") = some true) && (noB K "list" && (noB K "tuple" && (noB K "NoneType" && noB K "str")))))))))
theorem mfB_ok (h : mfB K = true) : Ow K ∧ DfT K (He.dflAt ("Hall", some "__init__") 0 K) := by
  obtain ⟨h1, h⟩ := He.ba h
  obtain ⟨h2, h⟩ := He.ba h
  obtain ⟨h3, h⟩ := He.ba h
  obtain ⟨h4, h⟩ := He.ba h
  obtain ⟨h5, h⟩ := He.ba h
  obtain ⟨h6, h⟩ := He.ba h
  obtain ⟨h7, h⟩ := He.ba h
  obtain ⟨h8, h⟩ := He.ba h
  obtain ⟨h9, h⟩ := He.ba h
  obtain ⟨h10, h11⟩ := He.ba h
  exact ⟨⟨He.eqO_ok h2, He.eqO_ok h3, of_decide_eq_true h4, of_decide_eq_true h5, He.eqO_ok h6, of_decide_eq_true h7, noB_ok h8, noB_ok h9, noB_ok h10, noB_ok h11⟩, dfB_ok h1⟩
theorem facts {h : Heap} {f : Addr} (X : K.In h) (G : h.Ns mainGlobals mg) (hfa : mg ("law" : Str) = some (.ref f)) (c : mfB K = true ∧ He.SaysD fa fn K) :
    ∃ fd : FuncData, (∀ (s : Shared) (v : Value), BindsTo s fd ⟨[v], []⟩ [("_law_script", v)]) ∧ ∀ base : Heap, K.In base → base.Ns mainGlobals mg → FnG P w K mg base 17 f fd ["_law_script"] (sp_law K) := by
  obtain ⟨T⟩ := tx_of X G c.2
  obtain ⟨O, dfl⟩ := mfB_ok c.1
  have e := hfa.symm.trans (glo_law X G c.2)
  cases e
  have bd := FunD.bindsA (ps := p_law) T.F_law fun _ _ _ _ _ _ us hl => match us, hl with | [_], _ => rfl
  exact ⟨T.fd_law, fun s v => bd s [v] rfl, fun base _ _ => ok_law T O dfl⟩
abbrev R : PySem.W.OpenRow := PySem.W.OpenLaw.row PySem.Challenge.rw_swayhalls_k01_halls_as_handed_in
def obX (g : Addr → Option Obj) : Bool × He.AlD := (mfB (He.frG g (He.asD g 6)), He.obsDG 6 fa fn g)
def hkX (fa : List He.Fa) (fn : List He.DefD) (ob : (Addr → Option Obj) → Bool × He.AlD) (h : ∀ g, ob g = (mfB (He.frG g (He.asD g 6)), He.obsDG 6 fa fn g)) : PySem.W.Hook where
  α := Bool × He.AlD
  obs := fun s => ob s.heap.get?
  val := fun _ => (true, He.valD fn)
  says := fun _ h => ∃ K : PySem.W.Frag, K.In h ∧ (mfB K = true ∧ He.SaysD fa fn K)
  of := fun _ _ e => ⟨_, He.frG_in, congrArg Prod.fst ((h _).symm.trans e), congrArg Prod.snd ((h _).symm.trans e)⟩
  keeps := fun _ _ _ ⟨K, hK, c⟩ k => ⟨K, PySem.W.Frag.In.keeps hK k, c⟩
abbrev hk : PySem.W.Hook := hkX fa fn obX fun _ => rfl
def ob (s : PySem.W.SharedT) : Bool × He.AlD := obX (HandSHeadRun.getT s)
theorem ob_eq (s : PySem.W.SharedT) : ob s = hk.obs s.abs := by
  have e : HandSHeadRun.getT s = s.abs.heap.get? := funext (HandSHeadRun.getT_eq s)
  show obX (HandSHeadRun.getT s) = obX s.abs.heap.get?
  rw [e]
def names : List Str := ["BadHall", "MOST_STEPS", "MOST_WEIGHTS", "is_number", "are_numbers", "are_rows", "does_rise", "are_strings", "is_ladder", "are_steps", "is_memory", "as_tuples", "Hall", "_law_box", "_law_take", "_law_same", "_law_number", "_law_ties", "_law_weights", "_law_rungs", "_law_data", "_law_as", "_law_due", "_law_told", "_law_otherwise", "_law_spoilt", "_law_right"]

end
end Sw

set_option maxHeartbeats 0
namespace Sw
open PySem PySem.Spec PyProof.Rows L2
theorem run (w : World) : HandSHeadRun.RunEq R (PySem.W.view R.prog [31]) hk ob 20000 names w := by
  intro os
  kernel_rfl
end Sw
open PySem PySem.W PySem.Calls PyProof.Rows
theorem PySem.Challenge.cw_swayhalls_k01_halls_as_handed_in_holds : PySem.Challenge.rw_swayhalls_k01_halls_as_handed_in.Holds := by
  w_on; o_law
  refine HandSHeadRun.head_any (r := OpenLaw.row PySem.Challenge.rw_swayhalls_k01_halls_as_handed_in) (q := view (OpenLaw.row PySem.Challenge.rw_swayhalls_k01_halls_as_handed_in).prog [31]) (H := Sw.hk) (ob := Sw.ob) (M := 20000) (loose := Sw.names) (d := HandSHeadRun.topDef (OpenLaw.row PySem.Challenge.rw_swayhalls_k01_halls_as_handed_in).prog 31) (kwd := []) Sw.ob_eq
    (by kernel_rfl) (fun s => by kernel_rfl) Sw.run (by kernel_rfl) (by kernel_rfl) (by kernel_rfl) (by rfl) (by first | assumption | decide +kernel) (by decide +kernel) ⟨rfl, rfl, rfl, rfl, rfl, by decide +kernel⟩ ?hw ?hc
  case hw => w_witness2
  case hc =>
    refine Sw.walkG (l := PySem.Challenge.rw_swayhalls_k01_halls_as_handed_in) (n := 63) (k := 17) (x := "_law_script") rfl (by decide) (by kernel_rfl) ⟨rfl, by decide, by decide⟩ ?F
    intro w mg fa h Y G hmg0
    obtain ⟨K, KX, c⟩ := Y
    have hmg : mg ("law" : PySem.Str) = some (.ref fa) := by
      have e : (HandSHeadRun.topDef (OpenLaw.row PySem.Challenge.rw_swayhalls_k01_halls_as_handed_in).prog 31).name = ("law" : PySem.Str) := by kernel_rfl
      rw [← e]
      exact hmg0
    obtain ⟨fd, hb, hF⟩ := Sw.facts (P := (PySem.Challenge.rw_swayhalls_k01_halls_as_handed_in).prog) (w := w) KX G hmg c
    exact ⟨K, fd, Sw.sp_law K, KX, hb, fun H a ns hl hS => ⟨a, ns, rfl, hS, hl, fun _ => rfl⟩, hF⟩
#print axioms PySem.Challenge.cw_swayhalls_k01_halls_as_handed_in_holds
