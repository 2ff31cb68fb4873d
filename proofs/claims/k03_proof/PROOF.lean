import PyProof.Rows.All
import Wide.All
import OpenK.AllK
import Wide.FinOn
import HandS.ForMost
import HandS.IsInst
import HandS.Flow
import HandS.Style
import HandS.Zip
import HandS.More
import HandS.Walk
import HandS.Defaults
import HandS.Head0
import HandS.Head1
import HandS.Head2
import HandS.HeadEnd
import HandS.HeadHook1
import HandS.HeadHook2
import KE.GoesMore
import KE.GoesZip
import KE.GoesEnum
import HandS.OwnEq
import HandS.FStr
import HandS.Set
import HandS.SetFor
import HandS.Strs
import HandS.Sort
import HandS.Star
import HandS.TupMul
import KE.KStateDown
import PySem.Challenge.RW_swayhalls_k03_standings_and_pasts
set_option Elab.async false
set_option linter.all false
set_option maxRecDepth 100000
set_option maxHeartbeats 2000000
namespace Sw
open PySem PySem.Spec PyProof.Rows L2
/-! ### heaps that stay but at some places -/
def Kp (bs : List Addr) (H H' : Hp) : Prop := ∀ a o, H a = some o → a ∉ bs → H' a = some o
theorem Kp.rfl' {bs : List Addr} {H : Hp} : Kp bs H H := fun _ _ h _ => h
theorem Kp.trans {bs : List Addr} {H H1 H2 : Hp} (x : Kp bs H H1) (y : Kp bs H1 H2) : Kp bs H H2 := fun a o h n => y a o (x a o h n) n
theorem Kp.sub {bs cs : List Addr} {H H' : Hp} (x : Kp bs H H') (s : ∀ a, a ∈ bs → a ∈ cs) : Kp cs H H' := fun a o h n => x a o h fun m => n (s a m)
theorem Kp.new {bs : List Addr} {H H' : Hp} {p : Addr} {o : HO} (x : Kp bs H H') (h : H' p = none) : Kp bs H (upd H' p o) := fun a o' e n => by
  have e1 := x a o' e n
  rw [upd_ne (ne_of_none e1 h)]
  exact e1
theorem Kp.put {bs : List Addr} {H H' : Hp} {p : Addr} {o : HO} (x : Kp bs H H') (h : p ∈ bs) : Kp bs H (upd H' p o) := fun a o' e n => by
  have ne : a ≠ p := fun z => n (by rw [z]; exact h)
  rw [upd_ne ne]
  exact x a o' e n
/-- a place that was free at first may change -/
theorem Kp.own {bs : List Addr} {H H' : Hp} {p : Addr} {o : HO} (x : Kp bs H H') (h : H p = none) : Kp bs H (upd H' p o) := fun a o' e n => by
  rw [upd_ne (ne_of_none e h)]
  exact x a o' e n
/-- .. by a whole step that keeps all but it -/
theorem Kp.step {bs : List Addr} {H H1 H2 : Hp} {p : Addr} (x : Kp bs H H1) (h : H p = none) (y : Kp (p :: bs) H1 H2) : Kp bs H H2 := fun a o e n =>
  y a o (x a o e n) fun m => by
    rcases List.mem_cons.mp m with z | z
    · rw [z, h] at e
      cases e
    · exact n z
theorem Kp.free {bs : List Addr} {H H' : Hp} (x : Kp bs H H') {p : Addr} (h : H' p = none) (n : p ∉ bs) : H p = none := by
  cases e : H p with
  | none => rfl
  | some o =>
    rw [x p o e n] at h
    cases h
theorem Kp.same {H H' : Hp} (x : Kp [] H H') : Same H H' := fun b o e => x b o e (by simp)
theorem Same.kp {bs : List Addr} {H H' : Hp} (x : Same H H') : Kp bs H H' := fun b o e _ => x b o e
/-! ### data of lists and tuples that lie apart from bs: at most w wide, k deep -/
mutual
inductive D (bs : List Addr) (H : Hp) (w : Nat) : Nat → V → PyData → Prop
  | non {k : Nat} : D bs H w k .non .none
  | bl {k : Nat} (b : Bool) : D bs H w k (.bl b) (.bool b)
  | int {k : Nat} (i : Int) : i.natAbs < 2 ^ 39 + w → D bs H w k (.int i) (.int i)
  | str {k : Nat} (x : Str) : (reprText x).length ≤ 20 → D bs H w k (.str x) (.str x)
  | lst {k : Nat} {a : Addr} {xs : List V} {ds : List PyData} : H a = some (.lst xs) → a ∉ bs → xs.length ≤ w → DA bs H w k xs ds → D bs H w (k + 1) (.ref a) (.list ds)
  | tup {k : Nat} {a : Addr} {xs : List V} {ds : List PyData} : H a = some (.tup xs) → a ∉ bs → xs.length ≤ w → DA bs H w k xs ds → D bs H w (k + 1) (.ref a) (.tuple ds)
inductive DA (bs : List Addr) (H : Hp) (w : Nat) : Nat → List V → List PyData → Prop
  | nil {k : Nat} : DA bs H w k [] []
  | cons {k : Nat} {v : V} {vs : List V} {d : PyData} {ds : List PyData} : D bs H w k v d → DA bs H w k vs ds → DA bs H w k (v :: vs) (d :: ds)
end
mutual
theorem D.keep {bs : List Addr} {H H' : Hp} {w : Nat} (x : Kp bs H H') : ∀ {k : Nat} {v : V} {d : PyData}, D bs H w k v d → D bs H' w k v d
  | _, _, _, .non => .non
  | _, _, _, .bl b => .bl b
  | _, _, _, .int i h => .int i h
  | _, _, _, .str y h => .str y h
  | _, _, _, .lst h n l t => .lst (x _ _ h n) n l (DA.keep x t)
  | _, _, _, .tup h n l t => .tup (x _ _ h n) n l (DA.keep x t)
theorem DA.keep {bs : List Addr} {H H' : Hp} {w : Nat} (x : Kp bs H H') : ∀ {k : Nat} {v : List V} {d : List PyData}, DA bs H w k v d → DA bs H' w k v d
  | _, _, _, .nil => .nil
  | _, _, _, .cons h t => .cons (D.keep x h) (DA.keep x t)
end
mutual
/-- other places, wider, deeper -/
theorem D.wide {bs cs : List Addr} {H : Hp} {w w' : Nat} (s : ∀ a o, H a = some o → a ∉ bs → a ∉ cs) (hw : w ≤ w') : ∀ {k k' : Nat} {v : V} {d : PyData}, k ≤ k' → D bs H w k v d → D cs H w' k' v d
  | _, _, _, _, _, .non => .non
  | _, _, _, _, _, .bl b => .bl b
  | _, _, _, _, _, .int i h => .int i (Nat.lt_of_lt_of_le h (Nat.add_le_add_left hw _))
  | _, _, _, _, _, .str y h => .str y h
  | _, k' + 1, _, _, hk, .lst h n l t => .lst h (s _ _ h n) (Nat.le_trans l hw) (DA.wide s hw (Nat.le_of_succ_le_succ hk) t)
  | _, k' + 1, _, _, hk, .tup h n l t => .tup h (s _ _ h n) (Nat.le_trans l hw) (DA.wide s hw (Nat.le_of_succ_le_succ hk) t)
theorem DA.wide {bs cs : List Addr} {H : Hp} {w w' : Nat} (s : ∀ a o, H a = some o → a ∉ bs → a ∉ cs) (hw : w ≤ w') : ∀ {k k' : Nat} {v : List V} {d : List PyData}, k ≤ k' → DA bs H w k v d → DA cs H w' k' v d
  | _, _, _, _, _, .nil => .nil
  | _, _, _, _, hk, .cons h t => .cons (D.wide s hw hk h) (DA.wide s hw hk t)
end
section
variable {bs : List Addr} {H : Hp} {w k : Nat} {v : V} {d : PyData}
theorem apart_new {l : Addr} (h : H l = none) : ∀ a o, H a = some o → a ∉ bs → a ∉ l :: bs := fun a o e n m => by
  rcases List.mem_cons.mp m with z | z
  · rw [z, h] at e
    cases e
  · exact n z
theorem apart_less {cs : List Addr} (s : ∀ a, a ∈ cs → a ∈ bs) : ∀ a o, H a = some o → a ∉ bs → a ∉ cs := fun a o _ n m => n (s a m)
theorem D.fresh {l : Addr} (x : D bs H w k v d) (h : H l = none) : D (l :: bs) H w k v d := x.wide (apart_new h) (Nat.le_refl _) (Nat.le_refl _)
theorem DA.fresh {l : Addr} {vs : List V} {ds : List PyData} (x : DA bs H w k vs ds) (h : H l = none) : DA (l :: bs) H w k vs ds := x.wide (apart_new h) (Nat.le_refl _) (Nat.le_refl _)
theorem D.less {cs : List Addr} (x : D bs H w k v d) (s : ∀ a, a ∈ cs → a ∈ bs) : D cs H w k v d := x.wide (apart_less s) (Nat.le_refl _) (Nat.le_refl _)
theorem DA.less {cs : List Addr} {vs : List V} {ds : List PyData} (x : DA bs H w k vs ds) (s : ∀ a, a ∈ cs → a ∈ bs) : DA cs H w k vs ds := x.wide (apart_less s) (Nat.le_refl _) (Nat.le_refl _)
theorem D.up {w' k' : Nat} (x : D bs H w k v d) (hw : w ≤ w') (hk : k ≤ k') : D bs H w' k' v d := x.wide (fun _ _ _ n => n) hw hk
theorem DA.up {w' k' : Nat} {vs : List V} {ds : List PyData} (x : DA bs H w k vs ds) (hw : w ≤ w') (hk : k ≤ k') : DA bs H w' k' vs ds := x.wide (fun _ _ _ n => n) hw hk
end
theorem DA.len {bs : List Addr} {H : Hp} {w k : Nat} : ∀ {vs : List V} {ds : List PyData}, DA bs H w k vs ds → vs.length = ds.length
  | _, _, .nil => rfl
  | _, _, .cons _ t => congrArg Nat.succ (DA.len t)
theorem DA.get {bs : List Addr} {H : Hp} {w k : Nat} : ∀ {vs : List V} {ds : List PyData} {i : Nat} {v : V}, DA bs H w k vs ds → vs[i]? = some v → ∃ d, ds[i]? = some d ∧ D bs H w k v d
  | _, _, i, _, .nil, e => by simp at e
  | _, _, 0, _, .cons h _, e => ⟨_, rfl, by cases (Option.some.inj e); exact h⟩
  | _, _, i + 1, _, .cons _ t, e => DA.get (i := i) t e
theorem DA.app {bs : List Addr} {H : Hp} {w k : Nat} {us : List V} {es : List PyData} : ∀ {vs : List V} {ds : List PyData}, DA bs H w k vs ds → DA bs H w k us es → DA bs H w k (vs ++ us) (ds ++ es)
  | _, _, .nil, y => y
  | _, _, .cons h t, y => .cons h (DA.app t y)
theorem DA.one {bs : List Addr} {H : Hp} {w k : Nat} {v : V} {d : PyData} (h : D bs H w k v d) : DA bs H w k [v] [d] := .cons h .nil
/-- all items are data of some kind -/
theorem DA.any {bs : List Addr} {H : Hp} {w k : Nat} : ∀ {vs : List V}, (∀ v ∈ vs, ∃ d, D bs H w k v d) → ∃ ds, DA bs H w k vs ds
  | [], _ => ⟨[], .nil⟩
  | v :: vs, h => by
    obtain ⟨d, hd⟩ := h v (List.mem_cons_self ..)
    obtain ⟨ds, hs⟩ := DA.any (vs := vs) fun u hu => h u (List.mem_cons_of_mem _ hu)
    exact ⟨d :: ds, .cons hd hs⟩
theorem DA.mem {bs : List Addr} {H : Hp} {w k : Nat} {vs : List V} {ds : List PyData} (x : DA bs H w k vs ds) : ∀ v ∈ vs, ∃ d, D bs H w k v d := fun v hv => by
  obtain ⟨i, hi, e⟩ := List.getElem_of_mem hv
  obtain ⟨d, _, h⟩ := x.get (i := i) (v := v) (by rw [List.getElem?_eq_getElem hi, e])
  exact ⟨d, h⟩
theorem DA.ints {bs : List Addr} {H : Hp} {w k : Nat} : ∀ {ns : List Int} {vs : List V}, DA bs H w k vs (ns.map PyData.int) → vs = ns.map V.int
  | [], _, .nil => rfl
  | n :: ns, _, .cons h t => by
    cases h
    rw [DA.ints t]
    rfl
theorem DA.ofInts {bs : List Addr} {H : Hp} {w k : Nat} : ∀ {ns : List Int}, (∀ n ∈ ns, n.natAbs < 2 ^ 39 + w) → DA bs H w k (ns.map V.int) (ns.map PyData.int)
  | [], _ => .nil
  | n :: ns, h => .cons (.int n (h n (List.mem_cons_self ..))) (DA.ofInts fun m hm => h m (List.mem_cons_of_mem _ hm))
/-! ### as the layer's data -/
mutual
theorem D.dp {K : PySem.W.Frag} {bs : List Addr} {H : Hp} {w : Nat} : ∀ {k : Nat} {v : V} {d : PyData}, D bs H w k v d → Dp K H v d
  | _, _, _, .non => .non
  | _, _, _, .bl b => .bl b
  | _, _, _, .int i _ => .int i
  | _, _, _, .str y _ => .str y
  | _, _, _, .lst h _ _ t => .lst (SqL.of h) (DA.dp t)
  | _, _, _, .tup h _ _ t => .tup (SqT.of h) (DA.dp t)
theorem DA.dp {K : PySem.W.Frag} {bs : List Addr} {H : Hp} {w : Nat} : ∀ {k : Nat} {v : List V} {d : List PyData}, DA bs H w k v d → DpAll K H v d
  | _, _, _, .nil => .nil
  | _, _, _, .cons h t => .cons (D.dp h) (DA.dp t)
end
/-! ### kinds -/
def kindOf : PyData → String
  | .none => "NoneType"
  | .bool _ => "bool"
  | .int _ => "int"
  | .str _ => "str"
  | .list _ => "list"
  | .tuple _ => "tuple"
  | _ => "dict"
def isK (n : String) (d : PyData) : Bool := (kitB (kindOf d) n).getD false
theorem D.tyx {K : PySem.W.Frag} {bs : List Addr} {H : Hp} {w k : Nat} {v : V} {d : PyData} (x : D bs H w k v d) : TyX K H v (.type (kindOf d)) := by
  cases x with
  | non => exact .base .non
  | bl b => exact .base (.bl b)
  | int i h => exact .base (.int i)
  | str y h => exact .base (.str y)
  | lst h n l t => exact .base (.lst h)
  | tup h n l t => exact .base (.tup h)
def isSeq (d : PyData) : Bool := match d with
  | .list _ => true
  | .tuple _ => true
  | _ => false
def isLst (d : PyData) : Bool := match d with
  | .list _ => true
  | _ => false
def isTup (d : PyData) : Bool := match d with
  | .tuple _ => true
  | _ => false
def isStr (d : PyData) : Bool := match d with
  | .str _ => true
  | _ => false
def isInt (d : PyData) : Bool := match d with
  | .int _ => true
  | .bool _ => true
  | _ => false
def isBool (d : PyData) : Bool := match d with
  | .bool _ => true
  | _ => false
theorem D.kit {K : PySem.W.Frag} {bs : List Addr} {H : Hp} {w k : Nat} {v : V} {d : PyData} (x : D bs H w k v d) :
    PySem.W.kitOne K (.type (kindOf d)) (.type "list") = some (isLst d) ∧ PySem.W.kitOne K (.type (kindOf d)) (.type "tuple") = some (isTup d) ∧ PySem.W.kitOne K (.type (kindOf d)) (.type "str") = some (isStr d) ∧
    PySem.W.kitOne K (.type (kindOf d)) (.type "int") = some (isInt d) ∧ PySem.W.kitOne K (.type (kindOf d)) (.type "bool") = some (isBool d) := by
  cases x <;> refine ⟨kit_ty ?_, kit_ty ?_, kit_ty ?_, kit_ty ?_, kit_ty ?_⟩ <;> simp only [kindOf, isLst, isTup, isStr, isInt, isBool] <;> decide +kernel
section
variable {K : PySem.W.Frag} {bs : List Addr} {H : Hp} {w k : Nat} {v : V} {d : PyData} {Q : VK}
theorem D.kL (x : D bs H w k v d) : PySem.W.kitOne K (.type (kindOf d)) (.type "list") = some (isLst d) := x.kit.1
theorem D.kT (x : D bs H w k v d) : PySem.W.kitOne K (.type (kindOf d)) (.type "tuple") = some (isTup d) := x.kit.2.1
theorem D.kS (x : D bs H w k v d) : PySem.W.kitOne K (.type (kindOf d)) (.type "str") = some (isStr d) := x.kit.2.2.1
theorem D.kI (x : D bs H w k v d) : PySem.W.kitOne K (.type (kindOf d)) (.type "int") = some (isInt d) := x.kit.2.2.2.1
theorem D.kB (x : D bs H w k v d) : PySem.W.kitOne K (.type (kindOf d)) (.type "bool") = some (isBool d) := x.kit.2.2.2.2
theorem D.kQ (x : D bs H w k v d) : PySem.W.kitAny K (.type (kindOf d)) [.type "list", .type "tuple"] = some (isSeq d) := by
  have h := x.kit (K := K)
  refine kitAny_cons h.1 (fun e => kitAny_cons h.2.1 (fun _ => ?_) fun e2 => ?_) fun e => ?_
  · rw [kitAny_nil]
    cases x <;> first | rfl | cases e | skip
    all_goals simp_all [Sw.isTup, Sw.isSeq]
  · cases x <;> first | rfl | cases e2
  · cases x <;> first | rfl | cases e
theorem tyLT : Paired ClsV [.ty "list", .ty "tuple"] [.type "list", .type "tuple"] := .cons (.ty _) (.cons (.ty _) .nil)
/-- len of it -/
def lenOf (d : PyData) : Nat := match d with
  | .list ds => ds.length
  | .tuple ds => ds.length
  | _ => 0
theorem D.lenV (x : D bs H w k v d) (s : Sw.isSeq d = true) : LenV K v H (lenOf d) := by
  cases x with
  | lst h n l t => exact .inl ⟨_, SqL.of h, (DA.len t).symm⟩
  | tup h n l t => exact .inr ⟨_, SqT.of h, (DA.len t).symm⟩
  | _ => cases s
end
/-! ### what's drawn from -/
structure Bx (H : Hp) (b : Addr) (n : Nat) : Prop where
  ex : ∃ x y z : Int, H b = some (.lst [.int x, .int y, .int z]) ∧ 0 ≤ x ∧ 0 ≤ y ∧ y < 2 ^ 33 ∧ 0 ≤ z ∧ z ≤ n
theorem Bx.keep {H H' : Hp} {b : Addr} {n : Nat} {bs : List Addr} (x : Bx H b n) (s : Kp bs H H') (h : b ∉ bs) : Bx H' b n := by
  obtain ⟨p, q, r, e, t⟩ := x.ex
  exact ⟨p, q, r, s _ _ e h, t⟩
theorem Bx.up {H : Hp} {b : Addr} {n m : Nat} (x : Bx H b n) (h : n ≤ m) : Bx H b m := by
  obtain ⟨p, q, r, e, h1, h2, h3, h4, h5⟩ := x.ex
  exact ⟨p, q, r, e, h1, h2, h3, h4, by omega⟩
end Sw

set_option maxHeartbeats 2000000
namespace Sw
open PySem PySem.Spec PyProof.Rows L2
/-! ### defs that are called where no repr is under way -/
structure FnG (P : Program) (w : World) (K : PySem.W.Frag) (mg : Str → Option Value) (base : Heap) (k : Nat) (f : Addr) (fd : FuncData) (ps : List Str) (sp : Sp) : Prop where
  lenG : ∀ vs H Q E, sp vs H Q E → vs.length = ps.length
  runG : ∀ (A : Around) (outer : List Env) (s : Shared) (H : Hp) (args : Args) (us : List Value) (vs : List V) (Q : VK) (E : XK), A.guards = some [] → Room k A → Env0 P w K mg base A outer s H → BindsTo s fd args (ps.zip us) → Vals vs us → sp vs H Q E →
    codeAny (model P w) A (.call (.ref f) args) (CR CX0 outer P w H s Q E) s
section
variable {P : Program} {w : World} {K : PySem.W.Frag} {mg : Str → Option Value} {base : Heap}
theorem okG {x qual : Str} {params : Arguments} {body : List Stmt} {scope : Scope} {dvs : List V} {kws : List (Str × V)} {f : Addr} {fd : FuncData} {N ps : List Str} {k : Nat} {sp : Sp} (F : FunD K x qual params body scope dvs kws f fd) (S : FnScope N ps scope)
    (len : ∀ vs H Q E, sp vs H Q E → vs.length = ps.length)
    (hb0 : ∀ (cdv : Value) (A : Around) (outer : List Env) (s : Shared) (H : Hp) (vs : List V) (Q : VK) (E : XK), A.guards = some [] → Room k (A.deeper (envOfC qual scope s.heap.objs.size f cdv)) → sp vs H Q E →
      ∃ t, PSs (cxOf CX0 P w K mg base N qual scope f cdv A outer s H E) body t ∧ t { nx := fun _ H' => Q .non H', rt := Q } (start N vs) H) : FnG P w K mg base (k + 1) f fd ps sp := by
  obtain ⟨oc, od, dV, kV, doc, pm, an, cdv, ct, osl, rfl, lk, hcd, _, _⟩ := F.ex
  refine ⟨len, ?_⟩
  intro A outer s H args us vs Q E hG hr e0 hb r hsp
  have kin : K.In s.heap := e0.mod.kin.keeps (fun c u z => (e0.bs c u z).1)
  have nol : s.heap.NoLimit := e0.mod.nolimit.keeps (fun c u z => (e0.bs c u z).1)
  refine codeAny_call_function hr.depth (kin _ _ lk) rfl S.co S.gen rfl (PySem.W.codeRec_of kin hcd) (hb _ _ _ _ (wpAny_newFunctionEnv_cells S.kind ?_ fun env he s1 z => ?_))
  · rintro ⟨n, v⟩ hy
    exact (S.par n (List.of_mem_zip hy).1).elim (fun c => .inl c) fun c => .inr ⟨c, PySem.W.cellsFrom_some _ _ _ (.inl c)⟩
  · subst he
    obtain ⟨t, ht, hq⟩ := hb0 cdv A outer s H vs Q E hG (hr.deeper _) hsp
    have I0 : Inv (cxOf CX0 P w K mg base N qual scope f cdv A outer s H E) [] (start N vs) H s1 := inv_start S hr.hd e0 (len _ _ _ _ hsp) r z
    refine ⟨nol.keeps z.toInCall.keep, codeAny_func (wpAny_mono (ht.run [] s1 (start N vs) H _ I0 hq) (fun fl s' hs => ?_) fun e s' hs => hs)⟩
    match fl, hs with
    | .ret u, ⟨v, σ', H', J, rv, q⟩ => exact ⟨v, H', J.os, J.bare, J.base, J.hok, rv, q⟩
    | .next, ⟨σ', H', J, q⟩ => exact ⟨V.non, H', J.os, J.bare, J.base, J.hok, rfl, q⟩
    | .brk, ⟨_, _, _, q⟩ => exact q.elim
    | .cont, ⟨_, _, _, q⟩ => exact q.elim
end
section
variable {X : Cx} {k : Nat} {f : Addr} {fd : FuncData} {ps : List Str} {sp : Sp} {x : Str} {p pos : Pos} {e : Expr} {es : List Expr} {t : TA}
theorem pe_callG (F : FnG X.prog X.w X.K X.mg X.base k f fd ps sp) (hG : X.A.guards = some []) (hr : Room k X.A) (hg : Gl X x) (hm : X.mg x = some (.ref f)) (hk : PySem.W.keepIn X.K (.ref f) = true) (hb : Binds X.K fd ps [])
    (ha : PA X (e :: es) t) (hdb : (x == ("__debug__" : Str)) = false := by decide) (he : starEach (e :: es) X.env = (false, eval e X.env) :: starEach es X.env := by rfl) (hpl : (backTo pos (starEach es X.env)).any (·.1) = false := by rfl) :
    PE X (.Call (.Name x p) (e :: es) [] pos) (tCall sp [] E0 t) := by
  refine ⟨fun pins s σ H Q I h => wpAny_Call_Name_kw (ld_glob I hg hm ?_ hdb)⟩
  refine PySem.W.callWith_K (h₀ := X.base) I.ok.mod.kin hk (thn (ha.run pos pins s σ H _ I h) fun us s1 ⟨vs, H1, I1, r, q⟩ => ⟨I1.kIn, ?_⟩) he hpl
  have r2 : Vals (vs ++ []) (us ++ []) := r.append .nil
  have hl : (us ++ []).length = ps.length := by
    rw [← r2.length]
    exact F.lenG _ _ _ _ q
  refine wpAny_call (codeAny_mono (F.runG X.A X.stack s1 H1 ⟨us, []⟩ (us ++ []) (vs ++ []) Q E0 hG hr I1.env0 (hb s1 us I1.kIn hl) r2 q) fun z s' hq => ?_)
  match z, hq with
  | .ok (.ret u), hq => exact I1.after hq
end
/-! ### the law's end -/
theorem lawG {P : Program} {w : World} {K : PySem.W.Frag} {mg mb : Str → Option Value} {k : Nat} {fa a : Addr} {fd : FuncData} {x : Str} {sp : Sp} {s1 : Shared} {vs : List Value} {ns : List Int}
    (kin : K.In s1.heap) (hns : s1.heap.Ns mainGlobals mg) (hbn : s1.heap.Ns builtinsNs mb) (hbb : ∀ x : Str, x ≠ "__name__" → mb x = bootBuiltins x) (hlim : s1.heap.NoLimit) (hg : s1.gens = #[])
    (ha : s1.heap.get? a = some { cls := .type "list", data := .seq vs.toArray }) (hi : IntsAre vs ns) (hl : ns.length ≤ sizeLine) (hr : Room k callerA)
    (F : ∀ base : Heap, K.In base → base.Ns mainGlobals mg → FnG P w K mg base k fa fd [x] sp) (hbind : ∀ (s : Shared) (u : Value), BindsTo s fd ⟨[u], []⟩ [(x, u)])
    (hsp : ∀ H : Hp, Only H → SqL K H a (ns.map V.int) → sp [.ref a] H (fun v _ => v = .bl true) fun _ _ _ => False) :
    codeAny (model P w) callerA (.call (.ref fa) ⟨[.ref a], []⟩) (fun r s' => r = .ok (.ret (.bool true)) ∧ OldK s1.heap s'.heap ∧ s'.os = s1.os ∧ AllBare s'.gens) s1 := by
  have lv : vs.length = ns.length := hi.length
  have go : ∀ H : Hp, Only H → SqL K H a (ns.map V.int) → HOk P w H s1.heap → (∀ b, H b ≠ none → b = a ∧ K.lookup a = none) →
      codeAny (model P w) callerA (.call (.ref fa) ⟨[.ref a], []⟩) (fun r s' => r = .ok (.ret (.bool true)) ∧ OldK s1.heap s'.heap ∧ s'.os = s1.os ∧ AllBare s'.gens) s1 := by
    intro H hO hS hok hA
    have noD : ∀ {b : Addr} {m : Str → Option Value}, s1.heap.Ns b m → (hidT s1.heap H).Ns b m := by
      rintro b m ⟨o, es, ep, e, d, r⟩
      refine ⟨o, es, ep, hidT_get e ?_, d, r⟩
      cases z : H b with
      | none => rfl
      | some u =>
        obtain ⟨rfl, _⟩ := hA b (by rw [z]; exact fun y => nomatch y)
        rw [ha] at e
        cases e
        exact nomatch (show Data.seq vs.toArray _ = Data.dict es ep from d)
    have kb : K.In (hidT s1.heap H) := by
      intro b o e
      refine hidT_get (kin b o e) ?_
      cases z : H b with
      | none => rfl
      | some u =>
        obtain ⟨rfl, y⟩ := hA b (by rw [z]; exact fun y => nomatch y)
        rw [y] at e
        cases e
    obtain ⟨mc, l1, l2⟩ := hlim
    have e0 : Env0 P w K mg (hidT s1.heap H) callerA [] s1 H := ⟨rfl, ⟨kb, noD hns, ⟨mb, noD hbn, hbb⟩, mc, noD l1, l2⟩, fun b o e => of_hidT e, Nat.le_of_eq (hidT_size _ _), trivial, (fun b hb => absurd (show b ∈ ([] : List Addr) from hb) List.not_mem_nil), hok, AllBare.of_eq hg⟩
    refine codeAny_mono ((F _ kb (noD hns)).runG callerA [] s1 H ⟨[.ref a], []⟩ [.ref a] [.ref a] _ _ rfl hr e0 (hbind s1 (.ref a)) (.cons rfl .nil) (hsp H hO hS)) fun r s' h => ?_
    match r, h with
    | .ok (.ret u), ⟨v, H', os, bare, un, hok', r', q⟩ =>
      obtain rfl : v = .bl true := q
      obtain rfl : u = Value.bool true := r'
      refine ⟨rfl, OldK.of_keep fun b o e => ?_, os, bare⟩
      cases z : H b with
      | none => exact un.keep b o e z (fun y => absurd (show b ∈ ([] : List Addr) from y) List.not_mem_nil) (by simp)
      | some u =>
        rcases hO b with y | ⟨ob, xs, y⟩
        · rw [z] at y
          cases y
        · obtain ⟨e1, _⟩ := hok b _ y
          obtain ⟨e2, _⟩ := hok' b _ (un.frzs b ob _ y)
          rw [e] at e1
          cases e1
          exact e2
  cases hk : K.lookup a with
  | some o =>
    have e := kin a o hk
    rw [ha] at e
    cases e
    exact go (fun _ => none) (fun _ => .inl rfl) (.inr ⟨_, vs.toArray, _, hk, rfl, rfl, rfl, by rw [List.size_toArray, lv]; exact hl, by simpa using vals_ints hi⟩) (fun b u z => nomatch (show (none : Option HO) = some u from z)) (fun b z => absurd rfl z)
  | none =>
    have at0 : ∀ b, (if b = a then some (HO.frz { cls := .type "list", data := .seq vs.toArray } (.lst (ns.map V.int))) else none) ≠ none → b = a := fun b z => by
      by_cases hb : b = a
      · exact hb
      · exact absurd (if_neg hb) z
    refine go (fun b => if b = a then some (HO.frz { cls := .type "list", data := .seq vs.toArray } (.lst (ns.map V.int))) else none) (fun b => ?_) (.inl (.inr ⟨{ cls := .type "list", data := .seq vs.toArray }, if_pos rfl⟩)) (fun b u z => ?_) (fun b z => ⟨at0 b z, hk⟩)
    · by_cases hb : b = a
      · exact .inr ⟨_, _, if_pos hb⟩
      · exact .inl (if_neg hb)
    · have hb := at0 b (fun y => by cases y.symm.trans z)
      subst hb
      cases (if_pos rfl).symm.trans z
      exact ⟨ha, by rw [List.length_map]; exact hl, vs, _, vals_ints hi, ha⟩
theorem walkG {l : PySem.W.OpenLaw} {n k : Nat} {q : Program} {loose : List Str} {XP : (Str → Option Value) → Heap → Prop} {YP : World → Heap → Prop} {d : DefRec} {x : Str}
    (hn : l.most = some n) (hn2 : n ≤ sizeLine) (hdf : d.params.defaults = []) (hr : Room k callerA)
    (F : ∀ (w : World) (mg : Str → Option Value) (fa : Addr) (h : Heap), YP w h → h.Ns mainGlobals mg → mg d.name = some (.ref fa) →
      ∃ (K : PySem.W.Frag) (fd : FuncData) (sp : Sp), K.In h ∧ (∀ (s : Shared) (u : Value), BindsTo s fd ⟨[u], []⟩ [(x, u)]) ∧
        (∀ (H : Hp) (a : Addr) (ns : List Int), ns.length ≤ n → SqL K H a (ns.map V.int) → sp [.ref a] H (fun v _ => v = .bl true) fun _ _ _ => False) ∧
        ∀ base : Heap, K.In base → base.Ns mainGlobals mg → FnG l.prog w K mg base k fa fd [x] sp) :
    PySem.W.WalkO q loose XP YP l.row.toRowW d [] (fun f vs => PySem.call f vs) := by
  refine Att.attach_call hn hdf ?_
  intro w s0 s1 mg mb fa o pm cd doc a vs ns G Y ho hd hcd hmg hobj hints hlen hg
  obtain ⟨K, fd, sp, kin, hb, hsp, hF⟩ := F w mg fa _ Y G.T.g hmg
  exact lawG kin G.T.g G.T.b G.T.builtins G.T.nolimit hg hobj hints (Nat.le_trans hlen hn2) hr hF hb fun H _ hS => hsp H a ns hlen hS
/-! ### repr of data -/
def rReprD (K : PySem.W.Frag) : List V → Hp → VK → Prop := fun xs H Q => ∃ v d, xs = [v] ∧ Dp K H v d ∧ d.showable = true ∧ d.hasDict = false ∧ d.depth ≤ 60 ∧ d.shown.length ≤ sizeLine ∧ Q (.str d.shown) H
theorem call_reprD {X : Cx} {k : Nat} (hr : Room k X.A) (hG : X.A.guards = some []) : CallR X (.builtin "repr") (rReprD X.K) := by
  intro pins s σ H xs us Q I r h
  obtain ⟨v, d, rfl, hd, h1, h2, h3, h4, q⟩ := h
  obtain ⟨u, rfl, ru⟩ := vals1 r
  obtain ⟨as, rd⟩ := Dp.reads I d v u hd ru
  have hu : X.A.units + (d.depth + 1) < cLine := by
    have z := hr.un
    omega
  have out : ∀ tk : Nat, EP X pins σ Q (.str d.shown s.toks) { s with toks := tk } := fun tk => ⟨.str _, H, I.tok _, ⟨_, rfl⟩, q⟩
  cases rd with
  | none => exact PySem.P.repr_of_none (by simpa only [PyData.shown] using out _)
  | bool b => exact PySem.P.repr_of_bool (by simpa only [PyData.shown] using out _)
  | int i t => exact PySem.P.repr_of_int (by simpa [PyData.showable] using h1) (by simpa only [PyData.shown] using out _)
  | str x t => exact PySem.P.repr_of_str (by simpa only [PyData.shown] using out _) (by simpa only [PyData.shown] using h4)
  | list e1 e2 e3 e4 => exact repr_of_reads' (.list e1 e2 e3 e4) h1 (PyData.noDict_hsm h2) hG hu (fun _ _ e => e) (fun h' u tk hk => ⟨.str _, H, I.kept hk, ⟨_, rfl⟩, q⟩) h4
  | tuple e1 e2 e3 e4 => exact repr_of_reads' (.tuple e1 e2 e3 e4) h1 (PyData.noDict_hsm h2) hG hu (fun _ _ e => e) (fun h' u tk hk => ⟨.str _, H, I.kept hk, ⟨_, rfl⟩, q⟩) h4
  | dict e1 e2 e3 e4 e5 => simp [PyData.hasDict] at h2
/-! ### how long a text of data is -/
def szL (w : Nat) : Nat → Nat
  | 0 => 48
  | k + 1 => 48 + w * (szL w k + 2)
theorem szL_le (w : Nat) : ∀ k, 48 ≤ szL w k
  | 0 => Nat.le_refl _
  | k + 1 => Nat.le_add_right _ _
theorem piled_le {m : Nat} : ∀ {ts : List Str}, (∀ t ∈ ts, t.length ≤ m) → piled ts ≤ ts.length * (m + 2)
  | [], _ => by simp [piled_nil]
  | t :: ts, h => by
    have h1 := h t (List.mem_cons_self ..)
    have h2 := piled_le (m := m) (ts := ts) fun u hu => h u (List.mem_cons_of_mem _ hu)
    rw [piled_cons, List.length_cons, Nat.succ_mul]
    omega
theorem listText_le {m : Nat} {ts : List Str} (h : ∀ t ∈ ts, t.length ≤ m) : (listText ts).length ≤ 40 + ts.length * (m + 2) := by
  have h1 := piled_le h
  rw [listText_eq_join]
  cases ts with
  | nil => exact Nat.le_trans (by decide) (Nat.le_add_right 40 _)
  | cons t ts =>
    have h2 := join_length_add (t :: ts) (fun z => nomatch z)
    have e : ((("[" : String) : Str) ++ Str.join ", " (t :: ts) ++ (("]" : String) : Str)).length = 1 + (Str.join ", " (t :: ts)).length + 1 := by
      rw [strLen_append, strLen_append]
      rfl
    omega
theorem tupleText_le {m : Nat} {ts : List Str} (h : ∀ t ∈ ts, t.length ≤ m) : (tupleText ts).length ≤ 40 + ts.length * (m + 2) := by
  have h1 := piled_le h
  unfold tupleText
  cases ts with
  | nil => exact Nat.le_trans (by decide) (Nat.le_add_right 40 _)
  | cons t ts =>
    have h2 := join_length_add (t :: ts) (fun z => nomatch z)
    rw [strLen_append, strLen_append]
    have e1 : (("(" : String) : Str).length = 1 := rfl
    have e2 : ((if (t :: ts).length == 1 then ",)" else ")" : String) : Str).length ≤ 2 := by split <;> decide
    omega
theorem shownAll_len : ∀ ds : List PyData, (PyData.shownAll ds).length = ds.length
  | [] => by simp [PyData.shownAll]
  | d :: ds => by simp [PyData.shownAll, shownAll_len ds]
theorem log40 {i : Int} (h : i.natAbs < 2 ^ 40) : i.natAbs.log2 < 41 := by
  by_cases z : i.natAbs = 0
  · rw [z]; decide
  · have := (Nat.log2_lt z).mpr h
    omega
mutual
theorem D.show {bs : List Addr} {H : Hp} {w : Nat} (hw : w ≤ 1000000) : ∀ {k : Nat} {v : V} {d : PyData}, D bs H w k v d → d.showable = true ∧ d.hasDict = false ∧ d.depth ≤ k ∧ d.shown.length ≤ szL w k
  | k, _, _, .non => by
    have := szL_le w k
    refine ⟨by simp [PyData.showable], by simp [PyData.hasDict], by simp [PyData.depth], ?_⟩
    simp only [PyData.shown]
    exact Nat.le_trans (by decide) this
  | k, _, _, .bl b => by
    have := szL_le w k
    refine ⟨by simp [PyData.showable], by simp [PyData.hasDict], by simp [PyData.depth], ?_⟩
    simp only [PyData.shown]
    exact Nat.le_trans (by cases b <;> decide) this
  | k, _, _, .int i h => by
    have := szL_le w k
    have z := log40 (i := i) (by omega)
    have y := int_text_length_le (k := 41) (by decide) z
    refine ⟨by simp only [PyData.showable, decide_eq_true_eq]; omega, by simp [PyData.hasDict], by simp [PyData.depth], ?_⟩
    simp only [PyData.shown]
    rw [PySem.ofString_length]
    omega
  | k, _, _, .str x h => by
    have := szL_le w k
    refine ⟨by simp [PyData.showable], by simp [PyData.hasDict], by simp [PyData.depth], ?_⟩
    simp only [PyData.shown]
    omega
  | k + 1, _, _, .lst (ds := ds) h n l t => by
    obtain ⟨a1, a2, a3, a4⟩ := DA.show hw t
    refine ⟨by simpa [PyData.showable] using a1, by simpa [PyData.hasDict] using a2, by simp only [PyData.depth]; omega, ?_⟩
    simp only [PyData.shown]
    have z := listText_le a4
    rw [shownAll_len, ← DA.len t] at z
    have y := Nat.mul_le_mul_right (szL w k + 2) l
    simp only [szL]
    omega
  | k + 1, _, _, .tup (ds := ds) h n l t => by
    obtain ⟨a1, a2, a3, a4⟩ := DA.show hw t
    refine ⟨by simpa [PyData.showable] using a1, by simpa [PyData.hasDict] using a2, by simp only [PyData.depth]; omega, ?_⟩
    simp only [PyData.shown]
    have z := tupleText_le a4
    rw [shownAll_len, ← DA.len t] at z
    have y := Nat.mul_le_mul_right (szL w k + 2) l
    simp only [szL]
    omega
theorem DA.show {bs : List Addr} {H : Hp} {w : Nat} (hw : w ≤ 1000000) : ∀ {k : Nat} {v : List V} {d : List PyData}, DA bs H w k v d → PyData.showableAll d = true ∧ PyData.hasDictAll d = false ∧ PyData.depthAll d ≤ k ∧ ∀ t ∈ PyData.shownAll d, t.length ≤ szL w k
  | k, _, _, .nil => ⟨by simp [PyData.showableAll], by simp [PyData.hasDictAll], by simp [PyData.depthAll], by simp [PyData.shownAll]⟩
  | k, _, _, .cons h t => by
    obtain ⟨a1, a2, a3, a4⟩ := D.show hw h
    obtain ⟨b1, b2, b3, b4⟩ := DA.show hw t
    refine ⟨by simp [PyData.showableAll, a1, b1], by simp [PyData.hasDictAll, a2, b2], by simp only [PyData.depthAll]; omega, ?_⟩
    intro u hu
    simp only [PyData.shownAll] at hu
    rcases List.mem_cons.mp hu with z | z
    · rw [z]; exact a4
    · exact b4 u z
end
theorem D.repr {K : PySem.W.Frag} {bs : List Addr} {H : Hp} {w k : Nat} {v : V} {d : PyData} {Q : VK} (x : D bs H w k v d) (hk : k ≤ 60) (hw : szL w k ≤ 16777216) (hw2 : w ≤ 1000000) (q : Q (.str d.shown) H) : rReprD K [v] H Q := by
  obtain ⟨a1, a2, a3, a4⟩ := x.show hw2
  exact ⟨v, d, rfl, x.dp, a1, a2, Nat.le_trans a3 hk, by rw [sizeLine_eq]; omega, q⟩
/-! ### a call by keywords alone; a walk over a list or a tuple -/
section
variable {X : Cx} {CX : CXT} {k n : Nat} {f : Addr} {fd : FuncData} {ps ks : List Str} {sp : Sp} {E : XK} {x : Str} {p pos : Pos} {kws : List Keyword} {tk : TA} {g : List Value → List Value → List Value} {gV : List V → List V → List V}
theorem pe_callK0 (F : FnOk X.prog X.w X.K X.mg X.base CX k f fd ps sp) (hr : Room k X.A) (hg : Gl X x) (hm : X.mg x = some (.ref f)) (hk : PySem.W.keepIn X.K (.ref f) = true) (hb : KBn X.K fd ps 0 ks g gV) (hx : Passes CX X E)
    (hkw : PK X kws tk) (hall : (backToKw pos (keywordEach kws X.env)).all (·.1.isSome) = true := by rfl) (hks : (backToKw pos (keywordEach kws X.env)).filterMap (·.1) = ks := by rfl)
    (hdb : (x == ("__debug__" : Str)) = false := by decide) (hpl : ((backTo pos (starEach [] X.env)).any (·.1) || (backToKw pos (keywordEach kws X.env)).any (·.1.isNone)) = false := by rfl) :
    PE X (.Call (.Name x p) [] kws pos) (tCallN 0 ks.length sp gV E tNil tk) := by
  refine ⟨fun pins s σ H Q I h => wpAny_Call_Name_kw (ld_glob I hg hm ?_ hdb)⟩
  refine PySem.W.callWith_KW0 (h₀ := X.base) I.ok.mod.kin hk hall (thn (hkw.run pos pins s σ H _ I h) fun ws s2 ⟨zs, H2, I2, rz, l1, l2, q2⟩ => ⟨I2.kIn, ?_⟩) hpl
  rw [hks]
  exact run_fnN (us := []) F hr hb hx I2 .nil rz l1 l2 q2
end
def sw2 {α : Type} : List α → List α
  | [a, b] => [b, a]
  | _ => []
theorem sw2_rel : ∀ {zs : List V} {ws : List Value}, Vals zs ws → Vals (sw2 zs) (sw2 ws)
  | _, _, .nil => .nil
  | _, _, .cons _ .nil => .nil
  | _, _, .cons a (.cons b .nil) => .cons b (.cons a .nil)
  | _, _, .cons _ (.cons _ (.cons _ _)) => .nil
def iSeq (K : PySem.W.Frag) (tl : TE) : TI := fun σ H R => tl σ H fun x H1 => ∃ a, x = .ref a ∧ (((∃ xs, SqL K H1 a xs) ∧ R (Itl K a) H1) ∨ ((∃ xs, SqT K H1 a xs) ∧ R (Itt K a) H1))
theorem pi_seq {X : Cx} {tg l : Expr} {tl : TE} (hl : PE X l tl) : PI X tg l (iSeq X.K tl) := by
  refine ⟨fun pins s σ H R I h => thn (hl.run pins s σ H _ I h) fun v s1 ⟨x, H1, I1, r1, a, e, q1⟩ => ?_⟩
  subst e
  obtain rfl : v = Value.ref a := r1
  have fp : ∀ b ∈ [s1.heap.objs.size], FpOk X pins H1 b := fun b hb => by
    obtain rfl : b = s1.heap.objs.size := by simpa using hb
    exact I1.fpOk (Nat.le_refl _) (I1.hok.fresh (Nat.le_refl _))
  rcases q1 with ⟨⟨xs, hq⟩, q⟩ | ⟨⟨xs, hq⟩, q⟩
  · obtain ⟨its, rv, p, hz⟩ := I1.list hq
    exact wpAny_pyIter_list p.isList ⟨s1.heap.objs.size, [s1.heap.objs.size], _, _, H1, rfl, I1.kept (t' := s1.toks) fun b o e => Heap.get?_push_of_some _ e, turn_list a _, ⟨_, Heap.get?_push_size _ rfl, rfl, rfl⟩, fp, q⟩
  · obtain ⟨its, rv, p, hz⟩ := I1.tuple hq
    exact wpAny_pyIter_tuple (show s1.heap.IsTuple a its.toArray from p) ⟨s1.heap.objs.size, [s1.heap.objs.size], _, _, H1, rfl, I1.kept (t' := s1.toks) fun b o e => Heap.get?_push_of_some _ e, turn_tuple a _, ⟨_, Heap.get?_push_size _ rfl, rfl, rfl⟩, fp, q⟩
end Sw

set_option maxHeartbeats 2000000
namespace Sw
open PySem PySem.Spec PyProof.Rows L2
/-! ### zip of two, each a list or a tuple -/
def SqK (k : Bool) (K : PySem.W.Frag) (H : Hp) (a : Addr) (xs : List V) : Prop := match k with
  | true => SqL K H a xs
  | false => SqT K H a xs
def itK (k : Bool) (h : Heap) (it a : Addr) (i : Nat) : Prop := match k with
  | true => h.IsListIter it a i
  | false => h.IsTupleIter it a i
def sqK (k : Bool) (h : Heap) (a : Addr) (its : Array Value) : Prop := match k with
  | true => h.IsList a its
  | false => h.IsTuple a its
def objK (k : Bool) (a : Addr) : Obj := match k with
  | true => { cls := .type "list_iterator", data := .fields #[.ref a, .int 0 0] }
  | false => { cls := .type "tuple_iterator", data := .fields #[.ref a, .int 0 0] }
theorem begK (k : Bool) (a : Addr) (its : Array Value) : Begins (.ref a) (objK k a) (fun h => sqK k h a its) := by
  cases k
  · exact begins_tuple a its
  · exact begins_list a its
theorem drawsK {prog : Program} {w : World} {A : Around} (k : Bool) (hh : A.handled = none) (it a : Addr) (hne : a ≠ it) (its : Array Value) : Draws prog w A it [it, a] its.size (fun i v => its[i]? = some v) (fun i h => itK k h it a i ∧ sqK k h a its) := by
  cases k
  · exact .tuple hh it a hne its
  · exact .list hh it a hne its
theorem itK_obj {k : Bool} {h : Heap} {it a : Addr} {i : Nat} (x : itK k h it a i) : ∃ o, h.get? it = some o ∧ ∀ v, o.data ≠ .cell v := by
  cases k <;> (obtain ⟨o, e, _, d⟩ := x; exact ⟨o, e, fun v q => by rw [d] at q; cases q⟩)
theorem itK_at {k : Bool} {h h' : Heap} {it a : Addr} {i : Nat} (x : itK k h it a i) (e : ∀ o, h.get? it = some o → h'.get? it = some o) : itK k h' it a i := by
  cases k
  · exact Heap.IsTupleIter.at x e
  · exact Heap.IsListIter.at x e
theorem sqK_lt {k : Bool} {h : Heap} {a : Addr} {its : Array Value} (x : sqK k h a its) : a < h.objs.size := by
  cases k
  · obtain ⟨o, e, _⟩ := x
    exact Heap.lt_size e
  · obtain ⟨o, e, _⟩ := x
    exact Heap.lt_size e
section
variable {X : Cx} {pins : List (Addr × Obj)} {σ : L2.St} {H : Hp} {s : Shared}
theorem seqK {k : Bool} {a : Addr} {xs : List V} (I : Inv X pins σ H s) (h : SqK k X.K H a xs) : ∃ its : List Value, Vals xs its ∧ sqK k s.heap a its.toArray := by
  cases k
  · obtain ⟨its, r, p, _⟩ := I.tuple h
    exact ⟨its, r, p⟩
  · obtain ⟨its, r, p, _⟩ := I.list h
    exact ⟨its, r, p.isList⟩
theorem injK {k : Bool} {a : Addr} {xs ys : List V} (I : Inv X pins σ H s) (h : SqK k X.K H a xs) (h' : SqK k X.K H a ys) : xs = ys := by
  cases k
  · exact I.tuple_inj h h'
  · exact I.list_inj h h'
end
def ItZ (ka kb : Bool) (K : PySem.W.Frag) (a b : Addr) : It :=
  ⟨fun i H => ∃ (xs ys : List V), SqK ka K H a xs ∧ SqK kb K H b ys ∧ i < xs.length ∧ i < ys.length,
    fun i H v H' => ∃ T x y, v = .ref T ∧ H T = none ∧ H' = upd H T (.tup [x, y]) ∧ (∀ xs, SqK ka K H a xs → xs[i]? = some x) ∧ ∀ ys, SqK kb K H b ys → ys[i]? = some y,
    fun i H => ∃ xs ys : List V, SqK ka K H a xs ∧ SqK kb K H b ys ∧ i = min xs.length ys.length⟩
theorem five {c z TI TO i1 i2 : Addr} {p : Prop} (h : c ∈ [z, TI, TO, i1, i2]) (h1 : c = z → p) (h2 : c = TI → p) (h3 : c = TO → p) (h4 : c = i1 → p) (h5 : c = i2 → p) : p := by
  have e : c = z ∨ c = TI ∨ c = TO ∨ c = i1 ∨ c = i2 := by simpa using h
  exact e.elim h1 fun e => e.elim h2 fun e => e.elim h3 fun e => e.elim h4 h5
theorem turnZ {P : Program} {w : World} {K : PySem.W.Frag} {elts : List Expr} {kk : Nat} {tpos : Pos} {ka kb : Bool} {a b z TI TO i1 i2 : Addr} (S : ZipSep2 z TI TO i1 i2 [i1, a] [i2, b]) (ne1 : a ≠ i1) (ne2 : b ≠ i2) :
    Turn P w K (.Tuple elts kk tpos) (ItZ ka kb K a b) [z, TI, TO, i1, i2] z (fun i h => IsZip h z TI TO .none ∧ IsTupOf2 h TI (.ref i1) (.ref i2) ∧ (∃ x y, IsTupOf2 h TO x y) ∧ itK ka h i1 a i ∧ itK kb h i2 b i) where
  mem := by simp
  obj := fun i h st c hc => by
    obtain ⟨hz, hTI, ⟨x, y, hTO⟩, h1, h2⟩ := st
    exact five hc (fun q => by rw [q]; exact ⟨_, hz, fun v q => nomatch q⟩) (fun q => by rw [q]; exact ⟨_, hTI, fun v q => nomatch q⟩) (fun q => by rw [q]; exact ⟨_, hTO, fun v q => nomatch q⟩) (fun q => by rw [q]; exact itK_obj h1) (fun q => by rw [q]; exact itK_obj h2)
  keep := fun i h h' st k => by
    obtain ⟨hz, hTI, ⟨x, y, hTO⟩, h1, h2⟩ := st
    exact ⟨k z (by simp) _ hz, k TI (by simp) _ hTI, ⟨x, y, k TO (by simp) _ hTO⟩, itK_at h1 (k i1 (by simp)), itK_at h2 (k i2 (by simp))⟩
  item := by
    intro X hP hw hK hc i pins s σ H E I hf st hg
    subst hP hw hK
    obtain ⟨hz, hTI, ⟨x0, y0, hTO⟩, h1, h2⟩ := st
    obtain ⟨xs, ys, hqx, hqy, lx, ly⟩ := hg
    obtain ⟨its, rv, p⟩ := seqK I hqx
    obtain ⟨its2, rv2, p2⟩ := seqK I hqy
    have l1 := rv.length
    have l2 := rv2.length
    have hh : X.A.in1.handled = none := I.ok.hd hc
    have gx : xs[i]? = some xs[i] := by simp [lx]
    have gy : ys[i]? = some ys[i] := by simp [ly]
    obtain ⟨u, hu, ru⟩ := rv.get gx
    obtain ⟨u2, hu2, ru2⟩ := rv2.get gy
    have zl : z < s.heap.objs.size := Heap.lt_size hz
    refine wpAny_pyNext_zipD2_item S (drawsK ka hh i1 a ne1 its.toArray) (drawsK kb hh i2 b ne2 its2.toArray) hz hTI hTO ⟨h1, p⟩ ⟨h2, p2⟩ (by simp; omega) (by simp; omega) fun x1 x2 h' tk e1 e2 z' TO' s1' s2' hT hsz hk => ?_
    obtain rfl : x1 = u := by
      have e1' : its.toArray[i]? = some x1 := e1
      rw [List.getElem?_toArray, hu] at e1'
      exact (Option.some.inj e1').symm
    obtain rfl : x2 = u2 := by
      have e2' : its2.toArray[i]? = some x2 := e2
      rw [List.getElem?_toArray, hu2] at e2'
      exact (Option.some.inj e2').symm
    refine ⟨_, rfl, wpAny_letOwnedTupleGo_zip (s := { s with heap := h', toks := tk }) z' fun h'' z'' sb => ?_⟩
    have sb2 : ∀ c, c ≠ z → h''.get? c = h'.get? c := fun c hcz => sb.2 c hcz
    have tup2 : h''.get? s.heap.objs.size = some { cls := .type "tuple", data := .seq #[x1, x2] } := (sb2 _ (Nat.ne_of_gt zl)).trans hT
    have new : ObjOk X.prog X.w (upd H s.heap.objs.size (.tup [xs[i], ys[i]])) h'' s.heap.objs.size (.tup [xs[i], ys[i]]) :=
      ⟨by show 2 ≤ sizeLine; decide, [x1, x2], .cons ru (.cons ru2 .nil), ⟨_, tup2, rfl, _, rfl⟩⟩
    have I1 : Inv X pins σ (upd H s.heap.objs.size (.tup [xs[i], ys[i]])) { s with heap := h'', toks := tk } := by
      refine I.turnedNew (t' := tk) (ch := [z, TI, TO, i1, i2]) (fun c o hb q => ?_) hf (Nat.le_refl _) new
      have nz : c ≠ z := fun e => hb (by simp [e])
      exact (sb2 c nz).trans (hk c o nz (fun e => hb (by simp [e])) (fun e => hb (by simp [e])) (fun e => hb (by simp [e])) q)
    refine ⟨.ref s.heap.objs.size, _, I1, rfl, ⟨_, xs[i], ys[i], rfl, I.hok.fresh (Nat.le_refl _), rfl, fun l hl => by rw [injK I hl hqx]; exact gx, fun l hl => by rw [injK I hl hqy]; exact gy⟩, ⟨z'', ?_, ⟨x1, x2, ?_⟩, ?_, ?_⟩, fun c hcm => ?_⟩
    · exact (sb2 _ S.TIz).trans (hk _ _ S.TIz S.TITO S.TIi1 S.TIi2 hTI)
    · exact (sb2 _ S.TOz).trans TO'
    · exact itK_at s1'.1 fun o q => (sb2 _ S.zi1.symm).trans q
    · exact itK_at s2'.1 fun o q => (sb2 _ S.zi2.symm).trans q
    · have lt : c < s.heap.objs.size := by
        obtain ⟨o1, g1, _⟩ := itK_obj h1
        obtain ⟨o2, g2, _⟩ := itK_obj h2
        exact five hcm (fun q => by rw [q]; exact zl) (fun q => by rw [q]; exact Heap.lt_size hTI) (fun q => by rw [q]; exact Heap.lt_size hTO) (fun q => by rw [q]; exact Heap.lt_size g1) (fun q => by rw [q]; exact Heap.lt_size g2)
      rw [upd_ne (Nat.ne_of_lt lt)]
      exact (hf c hcm).1
  done := by
    intro X hP hw hK hc i pins s σ H E I hf st hg
    subst hP hw hK
    obtain ⟨hz, hTI, ⟨x0, y0, hTO⟩, h1, h2⟩ := st
    obtain ⟨xs, ys, hqx, hqy, he⟩ := hg
    obtain ⟨its, rv, p⟩ := seqK I hqx
    obtain ⟨its2, rv2, p2⟩ := seqK I hqy
    have l1 := rv.length
    have l2 := rv2.length
    have hh : X.A.in1.handled = none := I.ok.hd hc
    refine wpAny_pyNext_zipD2_end S (drawsK ka hh i1 a ne1 its.toArray) (drawsK kb hh i2 b ne2 its2.toArray) hz hTI hTO ⟨h1, p⟩ ⟨h2, p2⟩ (by simp; omega) (by simp; omega) (by simp; omega) fun h' tk hk => ⟨rfl, ?_⟩
    refine I.turnedL (t' := tk) (ch := [z, TI, TO, i1, i2]) (fun c o hb q => ?_) hf
    exact hk c o (fun e => hb (by simp [e])) (fun e => hb (by simp [e])) (fun e => hb (by simp [e])) (fun e => hb (by simp [e])) q
  self := fun A i s Q E st h => wpAny_pyIter_zip st.1 h
theorem five_le {N c : Nat} (h : c ∈ [N + 4, N + 2, N + 3, N, N + 1]) : N ≤ c := by
  simp at h
  omega
def iZipS (K : PySem.W.Frag) (ta : TA) : TI := fun σ H R => ta σ H fun vs H1 => ∃ (a b : Addr) (ka kb : Bool) (xs ys : List V), vs = [.ref a, .ref b] ∧ SqK ka K H1 a xs ∧ SqK kb K H1 b ys ∧ R (ItZ ka kb K a b) H1
theorem pi_zipS {X : Cx} {e e2 : Expr} {ta : TA} {p pos tpos : Pos} {elts : List Expr} {kk : Nat} (hg : Gl X "zip") (hm : X.mg "zip" = none) (ha : PA X [e, e2] ta)
    (hs : starEach [e, e2] X.env = (false, eval e X.env) :: starEach [e2] X.env := by rfl) (hpl : (backTo pos (starEach [e2] X.env)).any (·.1) = false := by rfl) :
    PI X (.Tuple elts kk tpos) (.Call (.Name "zip" p) [e, e2] [] pos) (iZipS X.K ta) := by
  refine ⟨fun pins s σ H R I h => Call_ (ld_blt I hg hm PyProof.Rows.boot_zip (PyProof.Rows.callWith_type1 (thn (ha.run pos pins s σ H _ I h) fun us s1 ⟨vs, H1, I1, r1, q1⟩ => ?_) hs hpl))⟩
  obtain ⟨a, b, ka, kb, xs, ys, rfl, hqx, hqy, q⟩ := q1
  obtain ⟨u1, u2, rfl, ra, rb⟩ := vals2 r1
  cases (show u1 = Value.ref a from ra)
  cases (show u2 = Value.ref b from rb)
  obtain ⟨its, rv, pa⟩ := seqK I1 hqx
  obtain ⟨its2, rv2, pb⟩ := seqK I1 hqy
  have la := sqK_lt pa
  have lb := sqK_lt pb
  refine zip_begins2 (begK ka a its.toArray) (begK kb b its2.toArray) pa pb fun h' hz hTI hTO h1 h2 hsz hk => wpAny_pyIter_zip hz ?_
  have new5 : ∀ c ∈ [s1.heap.objs.size + 4, s1.heap.objs.size + 2, s1.heap.objs.size + 3, s1.heap.objs.size, s1.heap.objs.size + 1], FpOk X pins H1 c := fun c hcm => by
    have hle : s1.heap.objs.size ≤ c := five_le hcm
    exact I1.fpOk hle (I1.hok.fresh hle)
  have i1 : itK ka h' s1.heap.objs.size a 0 := by
    cases ka <;> exact ⟨_, h1, rfl, rfl⟩
  have i2 : itK kb h' (s1.heap.objs.size + 1) b 0 := by
    cases kb <;> exact ⟨_, h2, rfl, rfl⟩
  have S : ZipSep2 (s1.heap.objs.size + 4) (s1.heap.objs.size + 2) (s1.heap.objs.size + 3) s1.heap.objs.size (s1.heap.objs.size + 1) [s1.heap.objs.size, a] [s1.heap.objs.size + 1, b] := zip_sep2 (N := s1.heap.objs.size) (fp1 := [a]) (fp2 := [b]) (fun c hc => by rw [List.mem_singleton.mp hc]; exact la) (fun c hc => by rw [List.mem_singleton.mp hc]; exact lb)
  exact ⟨s1.heap.objs.size + 4, [s1.heap.objs.size + 4, s1.heap.objs.size + 2, s1.heap.objs.size + 3, s1.heap.objs.size, s1.heap.objs.size + 1], _, _, H1, rfl, I1.kept (t' := s1.toks) hk, turnZ S (Nat.ne_of_lt la) (Nat.ne_of_lt (Nat.lt_succ_of_lt lb)), ⟨hz, hTI, ⟨_, _, hTO⟩, i1, i2⟩, new5, q⟩
theorem walkZ {K : PySem.W.Frag} {a b : Addr} {ka kb : Bool} {xs ys : List V} {n : Nat} (hn : n = min xs.length ys.length) : Walk (ItZ ka kb K a b) n (fun H => SqK ka K H a xs ∧ SqK kb K H b ys) (YPair (fun i => xs[i]?) (fun i => ys[i]?)) := by
  subst hn
  refine ⟨fun i _ hi q => ⟨xs, ys, q.1, q.2, by omega, by omega⟩, fun _ q => ⟨xs, ys, q.1, q.2, rfl⟩, ?_⟩
  rintro i H v H' _ q ⟨T, x, y, h1, h2, h3, h4, h5⟩
  exact ⟨T, x, y, h1, h2, h3, h4 xs q.1, h5 ys q.2⟩
/-! ### rules by the written part's own name (within comprehensions) -/
section
variable {X : Cx} {K : PySem.W.Frag}
theorem kLen (h : X.K = K) : CallR X (.builtin "len") (fun xs H Q => ∃ x n, xs = [x] ∧ LenV K x H n ∧ Q (.int n) H) := by
  subst h
  exact call_len
theorem kIx (h : X.K = K) : IxR X (rIxL K) := by
  subst h
  exact ix_list
theorem kSl (h : X.K = K) : SlR X (rSlL K) := by
  subst h
  exact sl_list
theorem kTup (h : X.K = K) : CallR X (.type "tuple") (fun xs H Q => ∃ p ys, xs = [.ref p] ∧ ((SqL K H p ys ∧ ∀ l, H l = none → Q (.ref l) (upd H l (.tup ys))) ∨ (SqT K H p ys ∧ Q (.ref p) H))) := by
  subst h
  exact call_tuple_of
theorem kLst (h : X.K = K) : CallR X (.type "list") (fun xs H Q => ∃ p ys, xs = [.ref p] ∧ (SqL K H p ys ∨ SqT K H p ys) ∧ ∀ l, H l = none → Q (.ref l) (upd H l (.lst ys))) := by
  subst h
  exact call_list_of
theorem kIsi (h : X.K = K) : CallR X (.builtin "isinstance") (rIsi K) := by
  subst h
  exact call_isi
theorem kIsiT (h : X.K = K) : CallR X (.builtin "isinstance") (rIsiT K) := by
  subst h
  exact call_isiT
theorem kAll (h : X.K = K) (hc : X.calm = true) : CallR X (.builtin "all") (rAll K) := by
  subst h
  exact cr_all hc
theorem kSum (h : X.K = K) (hc : X.calm = true) : CallR X (.builtin "sum") (rSum K) := by
  subst h
  exact cr_sum hc
theorem kPiL {tg l : Expr} {tl : TE} (h : X.K = K) (hl : PE X l tl) : PI X tg l (iList K tl) := by
  subst h
  exact pi_list hl
end
/-! ### a truth or a number, and a number -/
def toI : V → Option Int
  | .int i => some i
  | .bl b => some (if b = true then 1 else 0)
  | _ => none
section
variable {X : Cx}
theorem op_addN : OpR X (binaryOp .Add) (fun x y H Q => ∃ i j, toI x = some i ∧ y = .int j ∧ Q (.int (i + j)) H) := by
  intro pins s σ H x y v u Q I rx ry h
  obtain ⟨i, j, e, rfl, q⟩ := h
  cases x with
  | int m =>
    cases e
    exact op_add pins s σ H _ _ v u Q I rx ry ⟨_, _, rfl, rfl, q⟩
  | bl b =>
    cases e
    obtain ⟨t, rfl⟩ := ry
    cases rx
    exact PySem.IntBool.add_bool_int ⟨.int _, H, I.tok _, ⟨_, rfl⟩, q⟩
  | _ => cases e
theorem op_subN : OpR X (binaryOp .Sub) (fun x y H Q => ∃ i j, toI x = some i ∧ y = .int j ∧ Q (.int (i - j)) H) := by
  intro pins s σ H x y v u Q I rx ry h
  obtain ⟨i, j, e, rfl, q⟩ := h
  cases x with
  | int m =>
    cases e
    exact op_sub pins s σ H _ _ v u Q I rx ry ⟨_, _, rfl, rfl, q⟩
  | bl b =>
    cases e
    obtain ⟨t, rfl⟩ := ry
    cases rx
    exact PySem.IntBool.sub_bool_int ⟨.int _, H, I.tok _, ⟨_, rfl⟩, q⟩
  | _ => cases e
theorem op_eqN : OpR X (compareOp .Eq) (fun x y H Q => ∃ i j, toI x = some i ∧ y = .int j ∧ Q (.bl (decide (i = j))) H) := by
  intro pins s σ H x y v u Q I rx ry h
  obtain ⟨i, j, e, rfl, q⟩ := h
  cases x with
  | int m =>
    cases e
    have z : decide (V.int i = V.int j) = decide (i = j) := by simp
    exact op_eq pins s σ H _ _ v u Q I rx ry ⟨rfl, by rw [z]; exact q⟩
  | bl b =>
    cases e
    obtain ⟨t, rfl⟩ := ry
    cases rx
    exact PySem.EqBoolInt.eq_bool_int ⟨.bl _, H, I, rfl, q⟩
  | _ => cases e
end
end Sw

set_option maxHeartbeats 2000000
namespace Sw
open PySem PySem.Spec PyProof.Rows L2
/-! ### an own object's own ==, !=, len, repr -/
section
variable {X : Cx} {k : Nat} {f C : Addr} {fd : FuncData} {ps : List Str} {sp : Sp}
/-- the def's run within a builtin's call -/
theorem run_at {A1 : Around} {pins : List (Addr × Obj)} {σ : L2.St} {H : Hp} {s : Shared} {Q : VK} {us : List Value} {vs : List V} (F : FnOk X.prog X.w X.K X.mg X.base CX0 k f fd ps sp) (hfr : A1.frames = X.A.frames) (hr : Room k A1) (hb : Binds X.K fd ps [])
    (I : Inv X pins σ H s) (r : Vals vs us) (h : sp vs H Q E0) : wpAny (model X.prog X.w) A1 (call (.ref f) us) (EP X pins σ Q) X.xe s := by
  have e := I.env0
  have e0 : Env0 X.prog X.w X.K X.mg X.base A1 X.stack s H := ⟨by rw [hfr]; exact e.frames, e.mod, e.bs, e.bsz, e.funs, e.frf, e.hok, e.bare⟩
  have hl : (us ++ []).length = ps.length := by
    rw [List.append_nil, ← r.length]
    exact F.len _ _ _ _ h
  have bd := hb s us I.kIn hl
  rw [List.append_nil] at bd
  refine wpAny_call (codeAny_mono (F.run A1 X.stack s H ⟨us, []⟩ us vs Q E0 hr e0 bd r h) fun z s' hq => ?_)
  match z, hq with
  | .ok (.ret u), hq => exact I.after hq
def rLenO (C : Addr) (sp : Sp) : List V → Hp → VK → Prop := fun xs H Q => ∃ a dx fs, xs = [.ref a] ∧ H a = some (.ins C dx fs) ∧ sp [.ref a] H (fun v H' => ∃ m : Int, v = .int m ∧ 0 ≤ m ∧ m < 2 ^ 63 ∧ Q (.int m) H') E0
theorem call_lenO (M : Meth X.K C "__len__" f) (F : FnOk X.prog X.w X.K X.mg X.base CX0 k f fd ps sp) (hr : Room (k + 1) X.A) (hb : Binds X.K fd ps []) : CallR X (.builtin "len") (rLenO C sp) := by
  intro pins s σ H xs us Q I r h
  obtain ⟨a, dx, fs, rfl, ha, h⟩ := h
  obtain ⟨u, rfl, ru⟩ := vals1 r
  cases (show u = Value.ref a from ru)
  obtain ⟨mA, J, _⟩ := ins_get I.hok ha
  obtain ⟨od, J, _⟩ := J.look
  obtain ⟨m, hF⟩ := I.fr
  refine PySem.W.len_K hF I.ok.mod.kin J M.1 M.fn (wpAny_mono (run_at (A1 := X.A.in1) F rfl hr.in1 hb I r h) (fun v s' hv => ?_) fun _ _ z => z)
  obtain ⟨v', H', I', rv, n, rfl, n0, n1, q⟩ := hv
  obtain ⟨t, rfl⟩ := rv
  exact ⟨⟨n0, n1⟩, .int n, H', I'.tok _, ⟨_, rfl⟩, q⟩
def rReprO (C : Addr) (sp : Sp) : List V → Hp → VK → Prop := fun xs H Q => ∃ a dx fs, xs = [.ref a] ∧ H a = some (.ins C dx fs) ∧ sp [.ref a] H (fun v H' => ∃ z : Str, v = .str z ∧ Q (.str z) H') E0
theorem call_reprO (M : Meth X.K C "__repr__" f) (F : FnOk X.prog X.w X.K X.mg X.base CX0 k f fd ps sp) (hr : Room (k + 1) X.A) (hb : Binds X.K fd ps []) : CallR X (.builtin "repr") (rReprO C sp) := by
  intro pins s σ H xs us Q I r h
  obtain ⟨a, dx, fs, rfl, ha, h⟩ := h
  obtain ⟨u, rfl, ru⟩ := vals1 r
  cases (show u = Value.ref a from ru)
  obtain ⟨mA, J, _⟩ := ins_get I.hok ha
  obtain ⟨od, J, _⟩ := J.look
  obtain ⟨m, hF⟩ := I.fr
  have hu : X.A.in1.units < cLine := by
    have z := hr.un
    show X.A.units + 1 < cLine
    omega
  refine PySem.W.repr_K hu hF I.ok.mod.kin J M.1 M.fn (wpAny_mono (run_at (A1 := X.A.in1) F rfl hr.in1 hb I r h) (fun v s' hv => ?_) fun _ _ z => z)
  obtain ⟨v', H', I', rv, n, rfl, q⟩ := hv
  obtain ⟨t, rfl⟩ := rv
  exact ⟨.str n, H', I', ⟨_, rfl⟩, q⟩
/-- what the other one's type is, as the comparison asks it -/
theorem tyx_looks {pins : List (Addr × Obj)} {σ : L2.St} {H : Hp} {s : Shared} {y : V} {u t : Value} (I : Inv X pins σ H s) (ry : RelV y u) (ty : TyX X.K H y t) : PySem.W.Looks (model X.prog X.w) s.heap (typeOf u) t := by
  obtain ⟨P, Z, p, _⟩ := kit_of I ry ty
  exact Z.ty _ _ I.kIn p
def rCmpO (K : PySem.W.Frag) (C : Addr) (sp : Sp) (g : Bool → Bool) : R2 := fun x y H Q => ∃ a dx fs t, x = .ref a ∧ H a = some (.ins C dx fs) ∧ TyX K H y t ∧ PySem.W.notFirst K C t = true ∧ sp [x, y] H (fun v H' => ∃ b : Bool, v = .bl b ∧ Q (.bl (g b)) H') E0
theorem op_eqO (M : Meth X.K C "__eq__" f) (F : FnOk X.prog X.w X.K X.mg X.base CX0 k f fd ps sp) (hr : Room (k + 1) X.A) (hb : Binds X.K fd ps []) : OpR X (compareOp .Eq) (rCmpO X.K C sp id) := by
  intro pins s σ H x y v u Q I rx ry h
  obtain ⟨a, dx, fs, t, rfl, ha, ty, hn, h⟩ := h
  cases (show v = Value.ref a from rx)
  obtain ⟨mA, J, _⟩ := ins_get I.hok ha
  obtain ⟨od, J, _⟩ := J.look
  obtain ⟨m, hF⟩ := I.fr
  have hu : X.A.units < cLine := by
    have z := hr.un
    omega
  show wpAny (model X.prog X.w) X.A (richCompare .Eq (.ref a) u) _ _ s
  refine PySem.W.cmp_K (op := .Eq) hu hF I.ok.mod.kin J (tyx_looks I ry ty) hn M.1 M.fn (wpAny_mono (run_at (A1 := X.A) F rfl (hr.mono (Nat.le_succ _)) hb I (.cons rx (.cons ry .nil)) h) (fun v s' hv => ?_) fun _ _ z => z)
  obtain ⟨v', H', I', rv, b, rfl, q⟩ := hv
  cases (show v = Value.bool b from rv)
  exact ⟨.bl b, H', I', rfl, q⟩
theorem ne_bind (self : Value) : bindSpecial (.builtin "object.__ne__") self = pure (.builtin "object.__ne__", [self]) :=
  (Slot.of (T := "object") (name := "__ne__") (owner := "object") (n := "__ne__") (by rw [typeLookup_type, builtinLookup_eq_fast]; kernel_rfl) (by decide +kernel) (by decide +kernel) (by decide +kernel) (.inl (by decide +kernel)) (by rw [isSubtype_type]; kernel_rfl)).bind self
theorem op_neO (M : Meth X.K C "__eq__" f) (hne : PySem.W.findIn X.K (.ref C) "__ne__" = some (some (.builtin "object.__ne__"))) (hob : PySem.W.subIn X.K (.ref C) (.type "object") = some true)
    (F : FnOk X.prog X.w X.K X.mg X.base CX0 k f fd ps sp) (hr : Room (k + 1) X.A) (hb : Binds X.K fd ps []) : OpR X (compareOp .NotEq) (rCmpO X.K C sp not) := by
  intro pins s σ H x y v u Q I rx ry h
  obtain ⟨a, dx, fs, t, rfl, ha, ty, hn, h⟩ := h
  cases (show v = Value.ref a from rx)
  obtain ⟨mA, J, _⟩ := ins_get I.hok ha
  obtain ⟨od, J, _⟩ := J.look
  obtain ⟨m, hF⟩ := I.fr
  have lb := tyx_looks I ry ty
  have Xk := I.kIn
  have hu : X.A.units + 1 < cLine := by
    have z := hr.un
    omega
  show wpAny (model X.prog X.w) X.A (richCompare .NotEq (.ref a) u) _ _ s
  -- object.__ne__ asks __eq__
  have inner : wpAny (model X.prog X.w) X.A.in1 (Builtin.«object.__ne__» ⟨[.ref a, u], []⟩) (fun fin s' => ∃ c : Bool, fin = .done (.ret (.bool c)) ∧ EP X pins σ Q (.bool c) s') X.xe s := by
    unfold Builtin.«object.__ne__»
    refine wpAny_bind (wpAny_of_eq (a := (Value.ref a, [u])) rfl ?_)
    show wpAny _ _ (cRoomFor _ _ >>= _) _ _ s
    refine wpAny_bind (wpAny_cRoomFor hu ?_)
    refine wpAny_bind (m := callSpecialIfBound? (.ref a) (Str.ofString "__eq__") [u]) (PySem.W.ifBound_K Xk J M.1 M.fn (wpAny_mono (run_at (A1 := X.A.in1) F rfl hr.in1 hb I (.cons rx (.cons ry .nil)) h) (fun v s' hv => ?_) fun _ _ z => z))
    obtain ⟨v', H', I', rv, b, rfl, q⟩ := hv
    cases (show v = Value.bool b from rv)
    refine wpAny_bind (wpAny_truthy_bool (wpAny_pure ⟨_, rfl, .bl (!b), H', I', rfl, q⟩))
  have slot : Slot "object" "__ne__" "object.__ne__" := Slot.of (T := "object") (name := "__ne__") (owner := "object") (n := "__ne__") (by rw [typeLookup_type, builtinLookup_eq_fast]; kernel_rfl) (by decide +kernel) (by decide +kernel) (by decide +kernel) (.inl (by decide +kernel)) (by rw [isSubtype_type]; kernel_rfl)
  have chk : ∀ (M0 : Model) (A0 : Around) (E1 : Value → Shared → Prop) (Q1 : Unit → Shared → Prop), Q1 () s → wpAny M0 A0 (checkBuiltinCall "object.__ne__" ⟨[.ref a, u], []⟩) Q1 E1 s := by
    intro M0 A0 E1 Q1 hq
    simp only [checkBuiltinCall, PySem.F.cmpKind_ne, PySem.F.cmpSplit_ne]
    refine wpAny_bind ?_
    unfold isInstance
    refine wpAny_bind (J.type.here ((PySem.W.looks_subIn Xk hob).here ?_))
    have ha2 := PySem.F.cmpArgs_ne (.ref a) u
    cases hsig : Manifest.signature? "object.__ne__" with
    | none => exact wpAny_pure hq
    | some sig =>
      simp only [argsOk, hsig] at ha2
      have h2 : Bind.checkArgs "object.__ne__" sig ⟨[.ref a, u], []⟩ = pure () := ha2
      show wpAny M0 A0 (Bind.checkArgs "object.__ne__" sig ⟨[.ref a, u], []⟩) Q1 E1 _
      rw [h2]
      exact wpAny_pure hq
  have callne : wpAny (model X.prog X.w) X.A (call (.builtin "object.__ne__") [.ref a, u]) (fun r s' => ∃ c : Bool, r = .bool c ∧ EP X pins σ Q (.bool c) s') X.xe s := by
    refine wpAny_call (codeAny_call_builtin slot.plain PySem.F.cmpEntry_ne (chk _ _ _ _ ?_))
    refine wpAny_mono inner (fun fin s' hv => ?_) fun _ _ z => z
    obtain ⟨c, rfl, q⟩ := hv
    exact ⟨c, rfl, q⟩
  have one : wpAny (model X.prog X.w) X.A (tryCompare (.ref a) "__ne__" u) (fun r s' => ∃ z, r = some z ∧ EP X pins σ Q z s') X.xe s := by
    unfold tryCompare
    refine wpAny_bind ?_
    simp only [callSpecialIfBound?, bindSpecialIfBound?]
    refine wpAny_holding (wpAny_bind (wpAny_bind (wpAny_bind (J.type.here ((PySem.W.looks_findIn Xk hne).here ?_)))))
    refine wpAny_bind (wpAny_askSetting (wpAny_ite ?_))
    have tell : ∀ (g : List Value), g = [.ref a] → wpAny (model X.prog X.w) X.A (call (.builtin "object.__ne__") (g ++ [u]) >>= fun v => pure (some v)) (fun r s' => wpAny (model X.prog X.w) X.A (match r with | some .notImplemented | none => pure none | some v => pure (some v)) (fun r s' => ∃ z, r = some z ∧ EP X pins σ Q z s') X.xe s') X.xe s := fun g hg => by
      subst hg
      refine wpAny_bind (wpAny_mono callne (fun v s' hv => ?_) fun _ _ z => z)
      obtain ⟨c, rfl, q⟩ := hv
      exact wpAny_pure (wpAny_pure ⟨_, rfl, q⟩)
    simp only [ne_bind]
    split
    · exact wpAny_bind (wpAny_pure (wpAny_pure (tell _ rfl)))
    · exact wpAny_tryCatch (wpAny_bind (wpAny_pure (wpAny_pure (tell _ rfl))))
  unfold richCompare
  simp only [oneThing_ref]
  refine wpAny_holding (wpAny_bind (wpAny_cRoomFor (by omega) ?_))
  refine wpAny_bind (J.type.here (wpAny_bind (lb.here ?_)))
  split
  · rename_i q
    have e : PySem.W.subIn X.K t (.ref C) = some false := by
      rcases Bool.or_eq_true_iff.mp hn with e | e
      · rw [beq_iff_eq.mp e] at q
        simp at q
      · exact beq_iff_eq.mp e
    refine wpAny_bind ((PySem.W.looks_subIn Xk e).here ?_)
    simp only [Bool.false_eq_true, if_false]
    refine wpAny_bind (wpAny_mono one (fun r s' z => ?_) fun _ _ e => e)
    obtain ⟨v, rfl, hq⟩ := z
    exact wpAny_pure hq
  · refine wpAny_bind (wpAny_pure ?_)
    simp only [Bool.false_eq_true, if_false]
    refine wpAny_bind (wpAny_mono one (fun r s' z => ?_) fun _ _ e => e)
    obtain ⟨v, rfl, hq⟩ := z
    exact wpAny_pure hq
end
end Sw

set_option maxHeartbeats 4000000
namespace Sw
open PySem PySem.Spec PyProof.Rows L2
/-! ### a tuple read backwards -/
section
variable {prog : Program} {w : World} {A : Around} {E : Value → Shared → Prop} {s : Shared}
theorem applied_rev {sl : Addr} {vl vu vs : Value} {n : Nat} {Q : Int × Int × Nat → Shared → Prop} (hs : s.heap.IsSliceOf sl vl vu vs) (pl : IsPart vl none) (pu : IsPart vu none) (ps : IsPart vs (some (-1)))
    (h : Q ((n : Int) - 1, -1, n) s) : wpAny (model prog w) A (Builtin.Slice.sliceApplied (.ref sl) (pure (n : Int))) Q E s := by
  obtain ⟨os, g1, _, g3⟩ := id hs
  unfold Builtin.Slice.sliceApplied Builtin.Slice.sliceFields
  refine wpAny_bind (wpAny_bind (wpAny_field g1 g3 (x := vl) rfl (wpAny_bind (wpAny_field g1 g3 (x := vu) rfl (wpAny_bind (wpAny_field g1 g3 (x := vs) rfl (wpAny_pure ?_)))))))
  refine wpAny_bind (HT.slicePart_ ps ?_)
  show wpAny _ _ (if ((-1 : Int) == 0) = true then _ else _) _ _ s
  rw [if_neg (by decide)]
  refine wpAny_bind (HT.slicePart_ pl (wpAny_bind (HT.slicePart_ pu (wpAny_bind (wpAny_pure ?_)))))
  have e : Builtin.Slice.slicePlaces ((n : Int) - 1) (-1) (-1) = n := by
    unfold Builtin.Slice.slicePlaces
    rw [if_neg (by decide)]
    by_cases c : n = 0
    · subst c
      rfl
    · rw [if_pos (by omega), show (- -1 : Int) = 1 by decide, Int.ediv_one]
      omega
  show wpAny _ _ (pure ((n : Int) - 1, (-1 : Int), Builtin.Slice.slicePlaces ((n : Int) - 1) (-1) (-1))) _ _ s
  rw [e]
  exact wpAny_pure h
theorem pick_rev (xs : Array Value) : ((List.range xs.size).filterMap fun (k : Nat) => xs[((xs.size : Int) - 1 + (k : Int) * -1).toNat]?).toArray = xs.toList.reverse.toArray := by
  have e : (List.range xs.size).filterMap (fun (k : Nat) => xs[((xs.size : Int) - 1 + (k : Int) * -1).toNat]?) = ((List.range xs.size).map fun k => xs.size - 1 - k).filterMap (xs[·]?) := by
    rw [List.filterMap_map]
    congr 1
    funext k
    have : ((xs.size : Int) - 1 + (k : Int) * -1).toNat = xs.size - 1 - k := by omega
    rw [this]
    rfl
  rw [e, PySem.W.krv_range, List.filterMap_reverse, PySem.W.krv_all]
theorem getItem_rev {t sl : Addr} {items : Array Value} {vl vu vs : Value} {Q : Value → Shared → Prop} (ht : IsTup s.heap t items) (hs : s.heap.IsSliceOf sl vl vu vs) (pl : IsPart vl none) (pu : IsPart vu none) (ps : IsPart vs (some (-1)))
    (h : Q (.ref s.heap.objs.size) { s with heap := s.heap.push { cls := .type "tuple", data := .seq items.toList.reverse.toArray } }) (hz : items.size ≤ sizeLine) : wpAny (model prog w) A (getItem (.ref t) (.ref sl)) Q E s := by
  have hz2 : sizeOk (.seq items.toList.reverse.toArray) := by
    show items.toList.reverse.toArray.size ≤ sizeLine
    rw [List.size_toArray, List.length_reverse, Array.length_toList]
    exact hz
  obtain ⟨os, g1, g2, g3⟩ := id hs
  have hT : s.TypeIs (.ref sl) "slice" := ⟨os, g1, g2⟩
  unfold getItem
  try with_reducible refine wpAny_holding ?_
  first | refine wpAny_bind (wpAny_pure ?_) | skip
  refine wpAny_bind (wpAny_sequenceKey ht.typeIs (by decide) ?_)
  refine wpAny_bind (wpAny_callSpecial?_slot (name := Str.ofString "__getitem__") ht.typeIs PyProof.Rows.slot_tuple_getitem (wpAny_call_entry PyProof.Rows.slot_tuple_getitem ht.typeIs PyProof.Rows.entry_tuple_getitem ?_ (PyProof.Rows.args_tuple_getitem _ _)))
  show wpAny _ _ (Builtin.Tuple.tupleItemsOf (.ref t) >>= _) _ _ s
  refine wpAny_bind (PyProof.Rows.tupleItemsOf_ ht (wpAny_bind (wpAny_typeOf hT ?_)))
  rw [if_pos (by decide)]
  refine wpAny_bind (applied_rev hs pl pu ps ?_)
  have no : ¬ ((((items.size : Int) - 1) == 0 && (-1 : Int) == 1 && items.size == items.size) = true) := by simp
  show wpAny _ _ (if (((items.size : Int) - 1) == 0 && (-1 : Int) == 1 && items.size == items.size) = true then _ else _) _ _ s
  rw [if_neg no, pick_rev]
  first
    | exact wpAny_bind (m := Builtin.Tuple.tupleExact _) (wpAny_newObj_type (wpAny_pure ⟨_, rfl, wpAny_pure h⟩) hz2)
    | exact wpAny_bind (wpAny_bind (m := Builtin.Tuple.tupleExact _) (wpAny_newObj_type (wpAny_pure ⟨_, rfl, wpAny_pure h⟩) hz2))
    | exact wpAny_bind (wpAny_bind (m := Builtin.Tuple.tupleExact _) (wpAny_newObj_type (wpAny_pure (wpAny_pure ⟨_, rfl, wpAny_pure h⟩)) hz2))
end
section
variable {X : Cx}
def tRevT (K : PySem.W.Frag) (te : TE) : TE := fun σ H Q => te σ H fun x H1 => ∃ a xs, x = .ref a ∧ SqT K H1 a xs ∧ ∀ p, H1 p = none → Q (.ref p) (upd H1 p (.tup xs.reverse))
theorem pe_revT {e : Expr} {te : TE} {k : Nat} {p1 p2 p3 pos : Pos} (he : PE X e te) : PE X (.Subscript e (.Slice none none (some (.UnaryOp .USub (.Constant (.int 1) k p1) p2)) p3) pos) (tRevT X.K te) := by
  refine ⟨fun pins s σ H Q I h => Subscript_ (thn (he.run pins s σ H _ I h) fun v s1 ⟨x, H1, I1, r1, q1⟩ => ?_)⟩
  obtain ⟨a, xs, rfl, hx, q⟩ := q1
  cases r1
  have hm : PO X (some (.UnaryOp .USub (.Constant (.int 1) k p1) p2)) (tPart (tUn (rU fun i => .int (-i)) (tC (.int 1)))) := po_some (pe_un un_neg pe_int)
  refine wpAny_Slice (thn (po_none.run pins s1 σ H1 (fun o H2 => o = none ∧ H2 = H1) I1 ⟨rfl, rfl⟩) fun vl s2 ⟨l, H2, I2, pl, el, e2⟩ => ?_)
  subst el e2
  refine thn (po_none.run pins s2 σ H2 (fun o H3 => o = none ∧ H3 = H2) I2 ⟨rfl, rfl⟩) fun vu s3 ⟨u, H3, I3, pu, eu, e3⟩ => ?_
  subst eu e3
  refine thn (hm.run pins s3 σ H3 (fun o H4 => o = some (-1) ∧ H4 = H3) I3 ⟨1, rfl, -1, rfl, rfl, rfl⟩) fun vm s4 ⟨o, H4, I4, pm, eo, e4⟩ => ?_
  subst eo e4
  have I5 : Inv X pins σ H4 { s4 with heap := s4.heap.push { cls := .type "slice", data := .fields #[vl, vu, vm] } } := I4.kept (t' := s4.toks) fun b ob q => Heap.get?_push_of_some _ q
  obtain ⟨its, r, ht, hz⟩ := I5.tuple hx
  have hlen := r.length
  show wpAny (model X.prog X.w) X.A (subscriptTail e (.Slice none none (some (.UnaryOp .USub (.Constant (.int 1) k p1) p2)) p3) (.ref a) (.ref s4.heap.objs.size)) (EP X pins σ Q) X.xe { s4 with heap := s4.heap.push { cls := .type "slice", data := .fields #[vl, vu, vm] } }
  refine tail_any (ops := [.ref a, .ref s4.heap.objs.size]) ht.typeIs (PyProof.Rows.slot_tuple_getitem.lookup) ?_ (by with_unfolding_all rfl)
  refine getItem_rev ht (Heap.IsSliceOf.new _ vl vu vm) pl pu pm ?_ (by rw [List.size_toArray]; omega)
  refine ⟨.ref _, _, I5.laid (t' := s4.toks) (o := .tup xs.reverse) (fun b ob q => Heap.get?_push_of_some _ q) (Nat.le_refl _) ?_, rfl, q _ (I5.hok.fresh (Nat.le_refl _))⟩
  exact ⟨by rw [List.length_reverse]; exact hz, _, r.reverse, IsTup.new _ _⟩
end
/-! ### set(xs) of a list of ints -/
abbrev bare (w : World) : Obj := { cls := .type "set", dict := none, data := .set #[] 0 (.fresh 0 0 (!w.params.followText "set-order")) }
section
variable {P : Program} {w : World} {A : Around} {E : Value → Shared → Prop} {s : Shared}
theorem call_set_lst {x : Addr} {us : Array Value} (ns : List Int) {Q : Value → Shared → Prop} (calm : A.handled = none) (hx : s.heap.IsList x us) (hi : IntsAre us.toList ns) (room : ns.length + 1 < scanBound)
    (q : ∀ (h' : Heap) (tk c : Nat), SetR w h' s.heap.objs.size (fun j => decide (j ∈ ns)) c → c ≤ ns.length → (∀ b o, s.heap.get? b = some o → h'.get? b = some o) → Q (.ref s.heap.objs.size) { s with heap := h', toks := tk }) :
    wpAny (model P w) A (call (.type "set") [.ref x]) Q E s := by
  have len : us.size = ns.length := by
    have z := IntsAre.length hi
    rwa [Array.length_toList] at z
  obtain ⟨mc, mt, hmr⟩ := F.called_set.mro
  have hmd := F.called_set.made
  have hsb := F.called_set.sub
  refine wpAny_call (codeAny_of_tree (?_ : wpAny _ _ (callAny (.type "set") _) _ _ _))
  refine wpAny_pure ⟨Code.quiet_builtin _ (by decide +kernel), codeAny_builtin F.entry_type_call ?_⟩
  rw [Around.under_plain (weight_type_call_type "set" [.ref x] []) rfl]
  have k1 := F.called_set.notType
  have k2 := F.called_set.canCreate
  have k3 := F.typeCall_set_1 (.ref x)
  repeat (any_goals (first | assumption | wp_step))
  refine codeAny_mono (code_set_led1 (.ref x) (E := E) (Q₁ := fun ob s1 => ob = .ref s.heap.objs.size ∧ s1 = { s with heap := s.heap.push (bare w) }) ⟨rfl, rfl⟩) fun r s1 hr => ?_
  cases r with
  | error e => exact hr
  | ok fl =>
    cases fl with
    | ret ob =>
      obtain ⟨rfl, rfl⟩ := hr
      have at0 : (s.heap.push (bare w)).get? s.heap.objs.size = some (bare w) := Heap.get?_push_size _ rfl
      have ty0 : Shared.TypeIs { s with heap := s.heap.push (bare w) } (.ref s.heap.objs.size) "set" := ⟨_, at0, rfl⟩
      have k4 := F.called_set.init.lookup
      have k5 := F.called_set.init.bind (.ref s.heap.objs.size)
      repeat (any_goals (first | assumption | wp_step))
      refine codeAny_mono (codeAny_call_builtin (R := wants (fun r s2 => r = .none ∧ ∃ h' tk c, s2 = { s with heap := h', toks := tk } ∧ SetR w h' s.heap.objs.size (fun j => decide (j ∈ ns)) c ∧ c ≤ ns.length ∧ (∀ b o, s.heap.get? b = some o → h'.get? b = some o)) E) F.called_set.init.plain F.entry_set_init (check_set_init_1 ty0 ?_)) fun r2 s2 hr2 => ?_
      · obtain ⟨⟨oc, od, oda, osl⟩, hox, hc, nl, hd⟩ := hx
        simp only at hc hd
        subst hc hd
        have hox2 : (s.heap.push (bare w)).get? x = some { cls := .type "list", dict := od, data := .seq us nl, slots := osl } := Heap.get?_push_of_some _ hox
        have k6 := F.sub_list_set
        have k7 := F.sub_list_frozenset
        have k8 : (Value.type "list" == Value.type "dict") = false := by decide
        have hx2 : (s.heap.push (bare w)).IsList x us := ⟨_, hox2, rfl, nl, rfl⟩
        unfold Builtin.«set.__init__» noKeywords Builtin.Frozenset.updateFrom
        generalize hPI : pyIter = PI
        wp_walk
        subst hPI
        refine wpAny_pyIter_list hx2 (wpAny_bind (wpAny_runValue ?_))
        have lx : x < s.heap.objs.size := Heap.lt_size hox
        have calm3 : A.in1.in1.in1.handled = none := by simp [calm]
        have sz1 : (s.heap.push (bare w)).objs.size = s.heap.objs.size + 1 := Heap.size_push ..
        have ne1 : x ≠ (s.heap.push (bare w)).objs.size := by
          rw [sz1]
          exact Nat.ne_of_lt (Nat.lt_succ_of_lt lx)
        have off : s.heap.objs.size ∉ [(s.heap.push (bare w)).objs.size, x] := by
          rw [sz1]
          exact fun m => (List.mem_cons.mp m).elim (fun z => absurd z (Nat.ne_of_lt (Nat.lt_succ_self _))) fun m => absurd (List.mem_singleton.mp m) (Nat.ne_of_gt lx)
        have vals : ∀ (i : Nat) (v : Value), us[i]? = some v → ∃ k t, ns[i]? = some k ∧ v = .int k t := fun i v hv => by
          have li : i < ns.length := by
            rw [← len]
            exact (Array.getElem?_eq_some_iff.mp hv).1
          obtain ⟨t, e⟩ := PyProof.Rows.IntsAre.int_at hi i v (by rwa [Array.getElem?_toList])
          exact ⟨ns[i], t, List.getElem?_eq_getElem li, by rw [e, List.getD_eq_getElem?_getD, List.getElem?_eq_getElem li]; rfl⟩
        refine set_update_ints ((Walks.list calm3 _ x ne1 us).toS) s.heap.objs.size off ns len room vals (us.size - 0) 0 _ (by omega) (Nat.zero_le _) ⟨⟨_, Heap.get?_push_size _ rfl, rfl, rfl⟩, (hx2.push _)⟩ ⟨0, Nat.le_refl 0, setR_new_at (Heap.get?_push_of_some _ (Heap.get?_push_size _ rfl))⟩ ?_
        intro s' c' mv hc' R'
        obtain ⟨h', g2, d', tk', os'⟩ := s'
        have eg : g2 = s.gens := mv.gens
        have ed : d' = s.drawn := mv.drawn
        have eo : os' = s.os := mv.os
        subst eg ed eo
        show wpAny _ _ _ _ _ _
        refine wpAny_pure (?_ : wpAny _ _ (ret Value.none) _ _ _)
        rw [len] at hc'
        refine wpAny_pure ⟨rfl, h', tk', c', rfl, R', hc', fun b o e => ?_⟩
        have lb : b < s.heap.objs.size := Heap.lt_size e
        refine mv.heap b o ?_ (Heap.get?_push_of_some _ (Heap.get?_push_of_some _ e))
        rw [sz1]
        exact fun m => (List.mem_cons.mp m).elim (Nat.ne_of_lt lb) fun m => absurd (List.mem_singleton.mp m) (Nat.ne_of_lt (Nat.lt_succ_of_lt lb))
      · cases r2 with
        | error e => exact hr2
        | ok fl2 =>
          cases fl2 with
          | ret r =>
            obtain ⟨rfl, h', tk, c', rfl, R', hc', kk⟩ := hr2
            repeat (any_goals (first | assumption | wp_step))
            exact q _ _ _ R' hc' kk
          | _ => first | exact hr2 | exact hr2.elim | cases hr2
    | _ => first | exact hr | exact hr.elim | cases hr
end
section
variable {X : Cx}
def rSetLst (K : PySem.W.Frag) (w : World) : List V → Hp → VK → Prop := fun xs H Q => ∃ (l : Addr) (ns : List Int), xs = [.ref l] ∧ SqL K H l (ns.map V.int) ∧ ns.length < 64 ∧ ∀ (p : Addr) (c : Nat), H p = none → c ≤ ns.length → Q (.ref p) (upd H p (SetO w p (fun j => decide (j ∈ ns)) c))
theorem cr_setL (hc : X.calm = true) : CallR X (.type "set") (rSetLst X.K X.w) := by
  intro pins s σ H xs us Q I r h
  obtain ⟨l, ns, rfl, hq, l64, q⟩ := h
  rw [Vals.ref1 r]
  obtain ⟨its, rv, p, hz⟩ := I.list hq
  refine call_set_lst ns (I.ok.hd hc) p.isList (by simpa using ints_of_vals rv) (by unfold scanBound; omega) fun h' tk c R hcn k => ?_
  exact ⟨.ref _, upd H s.heap.objs.size (SetO X.w s.heap.objs.size (fun j => decide (j ∈ ns)) c), I.laid (t' := tk) k (Nat.le_refl _) (setO_new R), rfl, q _ c (I.hok.fresh (Nat.le_refl _)) hcn⟩
end
end Sw

set_option maxHeartbeats 4000000
namespace Sw
open PySem PySem.Spec PyProof.Rows L2
/-! ### sum of a tuple of ints -/
theorem preSum_take (ns : List Int) : ∀ k, k ≤ ns.length → preSum (fun i => ns.getD i 0) k = (ns.take k).sum
  | 0, _ => by simp [preSum]
  | k + 1, h => by
    have e : ns[k]? = some ns[k] := by simp
    simp only [preSum]
    rw [preSum_take ns k (by omega), List.take_add_one, e, List.sum_append]
    simp [List.getD_eq_getElem?_getD, e]
section
variable {prog : Program} {w : World} {A : Around} {E : Value → Shared → Prop} {s : Shared}
theorem sum_tup {l : Addr} {its : List Value} {ns : List Int} {Q : Value → Shared → Prop} (hh : A.handled = none) (ht : s.heap.IsTuple l its.toArray) (hi : IntsAre its ns)
    (h : ∀ h' tk t', (∀ b o, s.heap.get? b = some o → h'.get? b = some o) → Q (.int ns.sum t') { s with heap := h', toks := tk }) : wpAny (model prog w) A (call (.builtin "sum") [.ref l]) Q E s := by
  have hlt : l < s.heap.objs.size := by
    obtain ⟨_, e, _⟩ := ht
    exact Heap.lt_size e
  refine call_sum_walkG (wpAny_pyIter_tuple ht ?_)
  refine ⟨_, _, _, _, _, _, fun i => ns.getD i 0, rfl, Walks.tuple (A := A.in1) hh _ l (Nat.ne_of_lt hlt) its.toArray, ⟨⟨_, Heap.get?_push_size _ rfl, rfl, rfl⟩, ht.push _⟩, fun b hb => ?_, fun i v hv => ?_, fun h' tk t' hk => ?_⟩
  · have sz : (s.heap.push { cls := .type "tuple_iterator", data := .fields #[.ref l, .int 0 0] }).objs.size = s.heap.objs.size + 1 := Heap.size_push ..
    rw [sz]
    rcases List.mem_cons.mp hb with z | z
    · rw [z]
      exact Nat.lt_succ_self _
    · rw [List.mem_singleton.mp z]
      exact Nat.lt_succ_of_lt hlt
  · exact PyProof.Rows.IntsAre.int_at hi i v (by simpa using hv)
  · have e : preSum (fun i => ns.getD i 0) its.toArray.size = ns.sum := by
      rw [List.size_toArray, hi.length, preSum_take ns _ (Nat.le_refl _), List.take_length]
    rw [e]
    refine h h' tk t' fun b o g => hk b o (fun m => ?_) (Heap.get?_push_of_some _ g)
    have := Heap.lt_size g
    rw [List.mem_singleton.mp m] at this
    exact absurd this (Nat.lt_irrefl _)
end
section
variable {X : Cx} {K : PySem.W.Frag}
def rSumQ (K : PySem.W.Frag) : List V → Hp → VK → Prop := fun vs H Q => ∃ (a : Addr) (ns : List Int), vs = [V.ref a] ∧ SqT K H a (ns.map V.int) ∧ Q (.int ns.sum) H
theorem cr_sumQ (hc : X.calm = true) : CallR X (.builtin "sum") (rSumQ X.K) := by
  intro pins s σ H vs us Q I r h
  obtain ⟨a, ns, rfl, hs, q⟩ := h
  obtain ⟨its, rv, hl, _⟩ := I.tuple hs
  rw [Vals.ref1 r]
  exact sum_tup (I.ok.hd hc) (show s.heap.IsTuple a its.toArray from hl) rv.ints fun h' tk t' hk => ⟨.int _, H, I.kept hk, ⟨_, rfl⟩, q⟩
theorem kSet {w : World} (hw : X.w = w) (hK : X.K = K) (hc : X.calm = true) : CallR X (.type "set") (rSetLst K w) := by
  subst hw hK
  exact cr_setL hc
theorem kSortSet {w : World} (hw : X.w = w) (hc : X.calm = true) : CallR X (.builtin "sorted") (rSortedSet w) := by
  subst hw
  exact cr_sortedSet hc
theorem kZipS {e e2 : Expr} {ta : TA} {p pos tpos : Pos} {elts : List Expr} {kk : Nat} (h : X.K = K) (hg : Gl X "zip") (hm : X.mg "zip" = none) (ha : PA X [e, e2] ta)
    (hs : starEach [e, e2] X.env = (false, eval e X.env) :: starEach [e2] X.env := by rfl) (hpl : (backTo pos (starEach [e2] X.env)).any (·.1) = false := by rfl) :
    PI X (.Tuple elts kk tpos) (.Call (.Name "zip" p) [e, e2] [] pos) (iZipS K ta) := by
  subst h
  exact pi_zipS hg hm ha hs hpl
end
end Sw

set_option maxHeartbeats 4000000
namespace Sw
open PySem PySem.Spec PyProof.Rows L2
/-! ### zip of any number of tuples -/
section
variable {M : Model} {A : Around} {E : Value → Shared → Prop}
theorem forIn_wp {α β : Type} {f : α → β → Sem (ForInStep β)} (I : Nat → β → Shared → Prop) (l : List α) (hs : ∀ k x b s, l[k]? = some x → I k b s → wpAny M A (f x b) (fun r s' => ∃ b', r = .yield b' ∧ I (k + 1) b' s') E s) {Q : β → Shared → Prop} (hd : ∀ b s, I l.length b s → Q b s) :
    ∀ b s, I 0 b s → wpAny M A (forIn l b f) Q E s := by
  have go : ∀ (l2 : List α) (k : Nat), l.drop k = l2 → k ≤ l.length → ∀ b s, I k b s → wpAny M A (forIn l2 b f) Q E s := by
    intro l2
    induction l2 with
    | nil =>
      intro k e hk b s h
      have z := congrArg List.length e
      rw [List.length_drop, List.length_nil] at z
      have : k = l.length := by omega
      subst this
      rw [List.forIn_nil]
      exact wpAny_pure (hd b s h)
    | cons x l2 ih =>
      intro k e hk b s h
      have hx : l[k]? = some x := by
        rw [← List.head?_drop, e]
        rfl
      have lk := (List.getElem?_eq_some_iff.mp hx).1
      rw [List.forIn_cons]
      refine wpAny_bind (wpAny_mono (hs k x b s hx h) (fun r s' hr => ?_) fun _ _ z => z)
      obtain ⟨b', rfl, h'⟩ := hr
      refine ih (k + 1) ?_ (by omega) b' s' h'
      rw [← List.drop_drop, e]
      rfl
  exact fun b s h => go l 0 (by simp) (Nat.zero_le _) b s h
theorem wp_alive {a : Addr} {Q : Option Obj → Shared → Prop} {s : Shared} (h : Q (s.heap.get? a) s) : wpAny M A (loadIfAlive a) Q E s := fun Γ p hp => by
  unfold loadIfAlive
  rw [Sem.wp_loadIfAlive, Sem.wp_pure]
  exact h
end
/-- the k-th iterator at place f k of the k-th tuple -/
def Its (h : Heap) (its ts : List Addr) (rows : List (Array Value)) (f : Nat → Nat) : Prop := ∀ (k : Nat) (it t : Addr) (us : Array Value), its[k]? = some it → ts[k]? = some t → rows[k]? = some us → h.IsTupleIter it t (f k) ∧ h.IsTuple t us
abbrev zobj (f0 f1 : Value) (TI TO : Addr) : Obj := { cls := .type "zip", data := .fields #[f0, f1, .bool false, .ref TI, .ref TO] }
abbrev tobj (vs : List Value) : Obj := { cls := .type "tuple", data := .seq vs.toArray }
structure SepN (z TI TO : Addr) (its ts : List Addr) : Prop where
  nd : its.Nodup
  zi : z ∉ its
  Ii : TI ∉ its
  Oi : TO ∉ its
  zt : z ∉ ts
  Ot : TO ∉ ts
  it : ∀ a ∈ its, a ∉ ts
  Iz : TI ≠ z
  Oz : TO ≠ z
  IO : TI ≠ TO
section
variable {prog : Program} {w : World} {A : Around} {E : Value → Shared → Prop} {s : Shared} {z TI TO : Addr} {its ts : List Addr} {rows : List (Array Value)} {i : Nat}
/-- how the heap stands amid a turn: as far as k -/
structure Amid (h0 h : Heap) (z TI TO : Addr) (its ts : List Addr) (rows : List (Array Value)) (i k : Nat) (f0 f1 : Value) (os : List Value) : Prop where
  zo : h.get? z = some (zobj f0 f1 TI TO)
  ti : h.get? TI = some (tobj (its.map Value.ref))
  to : h.get? TO = some (tobj os)
  st : Its h its ts rows fun j => if j < k then i + 1 else i
  sz : h.objs.size = h0.objs.size
  kp : ∀ c o, c ≠ z → c ≠ TO → c ∉ its → h0.get? c = some o → h.get? c = some o
/-- one iterator more -/
theorem Amid.step {h0 h h' : Heap} {k : Nat} {f0 f1 : Value} {os : List Value} {it t : Addr} (S : SepN z TI TO its ts) (a : Amid h0 h z TI TO its ts rows i k f0 f1 os) (e1 : its[k]? = some it) (e2 : ts[k]? = some t) (hs : Heap.SameBut it h h') (ni : h'.IsTupleIter it t (i + 1)) : Amid h0 h' z TI TO its ts rows i (k + 1) f0 f1 os := by
  have mi := List.mem_of_getElem? e1
  have ne : ∀ c, c ∉ its → c ≠ it := fun c n e => n (e ▸ mi)
  refine ⟨hs.extBut _ _ (ne _ S.zi) a.zo, hs.extBut _ _ (ne _ S.Ii) a.ti, hs.extBut _ _ (ne _ S.Oi) a.to, ?_, by rw [hs.1, a.sz], fun c o c1 c2 c3 e => hs.extBut _ _ (ne c c3) (a.kp c o c1 c2 c3 e)⟩
  intro j it' t' us g1 g2 g3
  obtain ⟨st1, st2⟩ := a.st j it' t' us g1 g2 g3
  have ht' : t' ≠ it := fun e => S.it it mi (e ▸ List.mem_of_getElem? g2)
  have st2' : h'.IsTuple t' us := st2.at fun o e => hs.extBut _ _ ht' e
  by_cases c : j = k
  · subst c
    rw [e1] at g1
    rw [e2] at g2
    cases g1
    cases g2
    exact ⟨by show h'.IsTupleIter it t (if j < j + 1 then i + 1 else i); rw [if_pos (Nat.lt_succ_self _)]; exact ni, st2'⟩
  · have n2 : it' ≠ it := fun e => c (by
      obtain ⟨l1, q1⟩ := List.getElem?_eq_some_iff.mp g1
      obtain ⟨l2, q2⟩ := List.getElem?_eq_some_iff.mp e1
      exact (List.getElem_inj S.nd).mp (q1.trans (e.trans q2.symm)))
    have e3 : (if j < k + 1 then i + 1 else i) = (if j < k then i + 1 else i) := by
      by_cases d : j < k
      · rw [if_pos d, if_pos (by omega)]
      · rw [if_neg d, if_neg (by omega)]
    exact ⟨by show h'.IsTupleIter it' t' (if j < k + 1 then i + 1 else i); rw [e3]; exact Heap.IsTupleIter.at st1 fun o e => hs.extBut _ _ n2 e, st2'⟩
theorem Amid.put {h0 h h' : Heap} {k : Nat} {f0 f1 : Value} {os os' : List Value} (S : SepN z TI TO its ts) (a : Amid h0 h z TI TO its ts rows i k f0 f1 os) (hs : Heap.SameBut TO h h') (ho : h'.get? TO = some (tobj os')) : Amid h0 h' z TI TO its ts rows i k f0 f1 os' := by
  refine ⟨hs.extBut _ _ S.Oz.symm a.zo, hs.extBut _ _ S.IO a.ti, ho, ?_, by rw [hs.1, a.sz], fun c o c1 c2 c3 e => hs.extBut _ _ c2 (a.kp c o c1 c2 c3 e)⟩
  intro j it' t' us g1 g2 g3
  obtain ⟨st1, st2⟩ := a.st j it' t' us g1 g2 g3
  exact ⟨Heap.IsTupleIter.at st1 fun o e => hs.extBut _ _ (fun q => S.Oi (q ▸ List.mem_of_getElem? g1)) e, st2.at fun o e => hs.extBut _ _ (fun q => S.Ot (q ▸ List.mem_of_getElem? g2)) e⟩
theorem Amid.mark {h0 h h' : Heap} {k : Nat} {f0 f1 g0 g1 : Value} {os : List Value} (S : SepN z TI TO its ts) (a : Amid h0 h z TI TO its ts rows i k f0 f1 os) (hs : Heap.SameBut z h h') (hz : h'.get? z = some (zobj g0 g1 TI TO)) : Amid h0 h' z TI TO its ts rows i k g0 g1 os := by
  refine ⟨hz, hs.extBut _ _ S.Iz a.ti, hs.extBut _ _ S.Oz a.to, ?_, by rw [hs.1, a.sz], fun c o c1 c2 c3 e => hs.extBut _ _ c1 (a.kp c o c1 c2 c3 e)⟩
  intro j it' t' us e1 e2 e3
  obtain ⟨st1, st2⟩ := a.st j it' t' us e1 e2 e3
  exact ⟨Heap.IsTupleIter.at st1 fun o e => hs.extBut _ _ (fun q => S.zi (q ▸ List.mem_of_getElem? e1)) e, st2.at fun o e => hs.extBut _ _ (fun q => S.zt (q ▸ List.mem_of_getElem? e2)) e⟩
/-- what the turn tells -/
def tells (rows : List (Array Value)) (i : Nat) : List Value := rows.map fun us => us.getD i .none
theorem tells_len (rows : List (Array Value)) (i : Nat) : (tells rows i).length = rows.length := by simp [tells]
/-- how the heap stands behind a turn -/
structure Turned (h0 h : Heap) (z TI TO : Addr) (its ts : List Addr) (rows : List (Array Value)) (i : Nat) : Prop where
  zo : ∃ g0 g1, h.get? z = some (zobj g0 g1 TI TO) ∧ (g0 = .none ∨ ∃ a, g0 = rawInt a)
  ti : h.get? TI = some (tobj (its.map Value.ref))
  to : ∃ os, os.length = its.length ∧ h.get? TO = some (tobj os)
  st : Its h its ts rows fun _ => i + 1
  tup : h.get? h0.objs.size = some (tobj (tells rows i))
  kp : ∀ c o, c ≠ z → c ≠ TO → c ∉ its → h0.get? c = some o → h.get? c = some o
/-- one turn of an iterator -/
theorem draw_at {h0 : Heap} {k : Nat} {f0 f1 : Value} {os : List Value} {it t : Addr} {us : Array Value} {Q : Value → Shared → Prop} (hh : A.handled = none) (S : SepN z TI TO its ts) (a : Amid h0 s.heap z TI TO its ts rows i k f0 f1 os) (e1 : its[k]? = some it) (e2 : ts[k]? = some t) (e3 : rows[k]? = some us) (hi : i < us.size)
    (hQ : ∀ h' tk, Amid h0 h' z TI TO its ts rows i (k + 1) f0 f1 os → Q (us.getD i .none) { s with heap := h', toks := tk }) : wpAny (model prog w) A (Builtin.SmallTypes.nextOf (.ref it)) Q E s := by
  obtain ⟨st1, st2⟩ := a.st k it t us e1 e2 e3
  have st1 : s.heap.IsTupleIter it t (if k < k then i + 1 else i) := st1
  rw [if_neg (Nat.lt_irrefl _)] at st1
  have nt : t ≠ it := fun e => S.it it (List.mem_of_getElem? e1) (e ▸ List.mem_of_getElem? e2)
  refine (Draws.tuple (prog := prog) (w := w) hh it t nt us).item i s Q E hi ⟨st1, st2⟩ fun x h' tk hx st' hs => ?_
  have hx : us[i]? = some x := hx
  have : x = us.getD i .none := by
    rw [Array.getD_eq_getD_getElem?, hx]
    rfl
  rw [this]
  exact hQ h' tk (a.step S e1 e2 hs st'.1)
theorem next_free {f0 f1 : Value} {os : List Value} {x : Addr} {rest : List Addr} {Q : Value → Shared → Prop} (hh : A.handled = none) (S : SepN z TI TO (x :: rest) ts) (a : Amid s.heap s.heap z TI TO (x :: rest) ts rows i 0 f0 f1 os) (hf : f0 = .none ∨ ∃ n, f0 = rawInt n ∧ (s.heap.get? n.toNat).isNone = true) (l1 : (x :: rest).length = ts.length) (l2 : rows.length = (x :: rest).length) (l3 : os.length = (x :: rest).length) (hi : ∀ us ∈ rows, i < us.size) (small : (x :: rest).length ≤ 1000)
    (hQ : ∀ h' tk, Turned s.heap h' z TI TO (x :: rest) ts rows i → Q (.ref s.heap.objs.size) { s with heap := h', toks := tk }) :
    wpAny (model prog w) A (Builtin.«zip.__next__» ⟨[.ref z], []⟩) (fun fin s' => ∃ v, fin = .done (.ret v) ∧ Q v s') E s := by
  obtain ⟨hp, g, d, tk0, os0⟩ := s
  show wpAny _ _ (field (.ref z) 2 >>= _) _ _ _
  refine wpAny_bind (wpAny_field a.zo rfl (x := .bool false) rfl ?_)
  show wpAny _ _ (field (.ref z) 3 >>= _) _ _ _
  refine wpAny_bind (wpAny_field a.zo rfl (x := .ref TI) rfl (wpAny_bind (wpAny_seqItems a.ti rfl ?_)))
  show wpAny _ _ (Builtin.SmallTypes.ownedTupleIsFree (.ref z) >>= _) _ _ _
  refine wpAny_bind (wpAny_mono (Q := fun c s' => c = true ∧ s' = ⟨hp, g, d, tk0, os0⟩) ?_ (fun c s' hc => ?_) fun _ _ e => e)
  · unfold Builtin.SmallTypes.ownedTupleIsFree
    refine wpAny_bind (wpAny_field a.zo rfl (x := f0) rfl ?_)
    rcases hf with rfl | ⟨n, rfl, gone⟩
    · exact wpAny_pure ⟨rfl, rfl⟩
    · refine wpAny_bind (wp_alive ?_)
      have gone : (hp.get? n.toNat).isNone = true := gone
      simp only [gone, if_true]
      exact wpAny_pure ⟨rfl, rfl⟩
  obtain ⟨rfl, rfl⟩ := hc
  simp only [if_true]
  refine wpAny_bind (wpAny_rule (wpAny_bind (wpAny_field a.zo rfl (x := .ref TO) rfl ?_)))
  refine wpAny_bind (wpAny_setField_rec a.zo (by simp) fun g0 hz0 hs0 => ?_)
  replace hs0 : Heap.SameBut z hp g0 := hs0
  have a0 : Amid hp g0 z TI TO (x :: rest) ts rows i 0 .ellipsis f1 os := a.mark S hs0 hz0
  refine wpAny_bind ?_
  refine forIn_wp (fun k b s' => b = (none, ()) ∧ ∃ h tk os', s' = ⟨h, g, d, tk, os0⟩ ∧ Amid hp h z TI TO (x :: rest) ts rows i k .ellipsis f1 os' ∧ os'.length = (x :: rest).length ∧ ∀ j, j < k → os'[j]? = (tells rows i)[j]?) _ ?_ ?_ _ _ ⟨rfl, g0, tk0, os, rfl, a0, l3, fun j hj => absurd hj (Nat.not_lt_zero _)⟩
  · rintro k y b s' hy ⟨rfl, h, tk, os', rfl, ak, lo, ho⟩
    rw [List.getElem?_zipIdx, List.getElem?_map] at hy
    obtain ⟨v, hv, rfl⟩ := Option.map_eq_some_iff.mp hy
    obtain ⟨it, hit, rfl⟩ := Option.map_eq_some_iff.mp hv
    have lk := (List.getElem?_eq_some_iff.mp hit).1
    have e2 : ts[k]? = some ts[k] := by simp
    have e3 : rows[k]? = some rows[k] := by simp
    have ek : 0 + k = k := Nat.zero_add k
    refine wpAny_bind (wpAny_onRaise ?_)
    show wpAny _ _ (Builtin.SmallTypes.nextOf (.ref it) >>= _) _ _ ⟨h, g, d, tk, os0⟩
    refine wpAny_bind (draw_at (s := ⟨h, g, d, tk, os0⟩) hh S ak hit e2 e3 (hi _ (List.mem_of_getElem? e3)) fun h' tk' ak' => wpAny_pure ?_)
    refine wpAny_bind (wpAny_seqItems (s := ⟨h', g, d, tk', os0⟩) ak'.to rfl ?_)
    refine wpAny_bind (wpAny_updateSeq (s := ⟨h', g, d, tk', os0⟩) ak'.to rfl ?_ (_hz' := by
      rw [Array.size_setIfInBounds, List.size_toArray]
      have := small1000 (n := os'.length) (by omega)
      omega))
    refine wpAny_bind (wpAny_letGo (wpAny_pure ⟨_, rfl, rfl, _, tk', os'.set k (rows[k].getD i .none), rfl, ak'.put S (Heap.SameBut.update ..) ?_, by simpa using lo, fun j hj => ?_⟩))
    · rw [Heap.get?_update_self _ ak'.to rfl]
      simp [Obj.mapSeq, ek]
    · rw [List.getElem?_set]
      have er : (tells rows i)[k]? = some (rows[k].getD i .none) := by
        unfold tells
        rw [List.getElem?_map, e3]
        rfl
      by_cases c : k = j
      · subst c
        rw [if_pos rfl, if_pos (by omega), er]
      · rw [if_neg c]
        exact ho j (by omega)
  · rintro b s' ⟨rfl, h, tk, os', rfl, ak, lo, ho⟩
    have ek : ((x :: rest).map Value.ref).zipIdx.length = (x :: rest).length := by simp
    rw [ek] at ak ho
    have eo : os' = tells rows i := by
      apply List.ext_getElem?
      intro j
      by_cases c : j < (x :: rest).length
      · exact ho j c
      · rw [List.getElem?_eq_none (by omega), List.getElem?_eq_none (by rw [tells_len]; omega)]
    subst eo
    show wpAny _ _ (seqItems? (.ref TO) >>= _) _ _ ⟨h, g, d, tk, os0⟩
    refine wpAny_bind (wpAny_seqItems (s := ⟨h, g, d, tk, os0⟩) ak.to rfl ?_)
    refine wpAny_bind (wpAny_newTuple ?_ (by rw [tells_len]; exact Nat.le_of_lt (small1000 (by omega))))
    have hzlt : z < h.objs.size := Heap.lt_size ak.zo
    have hz6 : (h.push (tobj (tells rows i))).get? z = some (zobj .ellipsis f1 TI TO) := Heap.get?_push_of_some _ ak.zo
    show wpAny _ _ (Builtin.SmallTypes.ownedTupleHandOut (.ref z) (.ref h.objs.size) >>= _) _ _ ⟨h.push (tobj (tells rows i)), g, d, tk, os0⟩
    refine wpAny_bind ?_
    unfold Builtin.SmallTypes.ownedTupleHandOut
    refine wpAny_bind (wpAny_setField_rec hz6 (by simp) fun h7 hz7 hs7 => ?_)
    refine wpAny_setField_rec hz7 (by simp) fun h8 hz8 hs8 => ?_
    replace hs7 : Heap.SameBut z (h.push (tobj (tells rows i))) h7 := hs7
    replace hs8 : Heap.SameBut z h7 h8 := hs8
    have up : ∀ c o, c ≠ z → h.get? c = some o → h8.get? c = some o := fun c o c1 e => hs8.extBut _ _ c1 (hs7.extBut _ _ c1 (Heap.get?_push_of_some _ e))
    have esz : h.objs.size = hp.objs.size := ak.sz
    refine wpAny_pure ⟨_, rfl, ?_⟩
    have res := hQ h8 tk ⟨⟨_, _, hz8, .inr ⟨_, rfl⟩⟩, up _ _ S.Iz ak.ti, ⟨_, by rw [tells_len, l2], up _ _ S.Oz ak.to⟩, fun j it' t' us e1 e2 e3 => ?_, ?_, fun c o c1 c2 c3 e => up c o c1 (ak.kp c o c1 c2 c3 e)⟩
    · show Q (.ref h.objs.size) ⟨h8, g, d, tk, os0⟩
      rw [esz]
      exact res
    · obtain ⟨st1, st2⟩ := ak.st j it' t' us e1 e2 e3
      have lj := (List.getElem?_eq_some_iff.mp e1).1
      have st1 : h.IsTupleIter it' t' (if j < (x :: rest).length then i + 1 else i) := st1
      rw [if_pos lj] at st1
      exact ⟨Heap.IsTupleIter.at st1 fun o e => up _ _ (fun q => S.zi (q ▸ List.mem_of_getElem? e1)) e, st2.at fun o e => up _ _ (fun q => S.zt (q ▸ List.mem_of_getElem? e2)) e⟩
    · show h8.get? hp.objs.size = _
      rw [← esz]
      exact hs8.extBut _ _ (Nat.ne_of_gt hzlt) (hs7.extBut _ _ (Nat.ne_of_gt hzlt) (Heap.get?_push_size _ rfl))
theorem next_kept {f0 : Int} {f1 : Value} {os : List Value} {x : Addr} {rest : List Addr} {Q : Value → Shared → Prop} (hh : A.handled = none) (S : SepN z TI TO (x :: rest) ts) (a : Amid s.heap s.heap z TI TO (x :: rest) ts rows i 0 (rawInt f0) f1 os) (l1 : (x :: rest).length = ts.length) (l2 : rows.length = (x :: rest).length) (l3 : os.length = (x :: rest).length) (hi : ∀ us ∈ rows, i < us.size) (small : (x :: rest).length ≤ 1000) (alive : (s.heap.get? f0.toNat).isNone = false)
    (hQ : ∀ h' tk, Turned s.heap h' z TI TO (x :: rest) ts rows i → Q (.ref s.heap.objs.size) { s with heap := h', toks := tk }) :
    wpAny (model prog w) A (Builtin.«zip.__next__» ⟨[.ref z], []⟩) (fun fin s' => ∃ v, fin = .done (.ret v) ∧ Q v s') E s := by
  obtain ⟨hp, g, d, tk0, os0⟩ := s
  show wpAny _ _ (field (.ref z) 2 >>= _) _ _ _
  refine wpAny_bind (wpAny_field a.zo rfl (x := .bool false) rfl ?_)
  show wpAny _ _ (field (.ref z) 3 >>= _) _ _ _
  refine wpAny_bind (wpAny_field a.zo rfl (x := .ref TI) rfl (wpAny_bind (wpAny_seqItems a.ti rfl ?_)))
  show wpAny _ _ (Builtin.SmallTypes.ownedTupleIsFree (.ref z) >>= _) _ _ _
  refine wpAny_bind ?_
  unfold Builtin.SmallTypes.ownedTupleIsFree
  refine wpAny_bind (wpAny_field a.zo rfl (x := rawInt f0) rfl ?_)
  refine wpAny_bind (wp_alive ?_)
  have alive : (hp.get? f0.toNat).isNone = false := alive
  simp only [alive, Bool.false_eq_true, if_false]
  refine wpAny_bind (wpAny_field a.zo rfl (x := f1) rfl ?_)
  refine wpAny_mono (Q := fun c s' => c = false ∧ ∃ hq g1, s' = ⟨hq, g, d, tk0, os0⟩ ∧ Amid hp hq z TI TO (x :: rest) ts rows i 0 (rawInt f0) g1 os) ?_ (fun c s' hc => ?_) fun _ _ e => e
  · split
    · refine wpAny_bind (wpAny_setField_rec a.zo (by simp) fun h7 hz7 hs7 => wpAny_pure ⟨rfl, h7, _, rfl, a.mark S hs7 hz7⟩)
    · exact wpAny_pure ⟨rfl, hp, f1, rfl, a⟩
  obtain ⟨rfl, hq, g1, rfl, aq⟩ := hc
  simp only [Bool.false_eq_true, if_false]
  rw [← Array.forIn_toList]
  refine wpAny_bind ?_
  refine forIn_wp (fun k b s' => b = (none, ((tells rows i).take k).toArray) ∧ ∃ h tk, s' = ⟨h, g, d, tk, os0⟩ ∧ Amid hp h z TI TO (x :: rest) ts rows i k (rawInt f0) g1 os) _ ?_ ?_ _ _ ⟨rfl, hq, tk0, rfl, aq⟩
  · rintro k y b s' hy ⟨rfl, h, tk, rfl, ak⟩
    have hy : ((x :: rest).map Value.ref)[k]? = some y := hy
    rw [List.getElem?_map] at hy
    obtain ⟨it, hit, rfl⟩ := Option.map_eq_some_iff.mp hy
    have lk := (List.getElem?_eq_some_iff.mp hit).1
    have e2 : ts[k]? = some ts[k] := by simp
    have e3 : rows[k]? = some rows[k] := by simp
    refine wpAny_bind (wpAny_holding ?_)
    show wpAny _ _ (Builtin.SmallTypes.nextOf (.ref it) >>= _) _ _ ⟨h, g, d, tk, os0⟩
    refine wpAny_bind (draw_at (s := ⟨h, g, d, tk, os0⟩) hh S ak hit e2 e3 (hi _ (List.mem_of_getElem? e3)) fun h' tk' ak' => wpAny_pure ?_)
    refine wpAny_pure ⟨_, rfl, ?_, h', tk', rfl, ak'⟩
    have er : (tells rows i)[k]? = some (rows[k].getD i .none) := by
      unfold tells
      rw [List.getElem?_map, e3]
      rfl
    rw [List.take_add_one, er]
    simp
  · rintro b s' ⟨rfl, h, tk, rfl, ak⟩
    have ek : ((x :: rest).map Value.ref).toArray.toList.length = (x :: rest).length := by simp
    rw [ek] at ak ⊢
    have et : (tells rows i).take (x :: rest).length = tells rows i := List.take_of_length_le (by rw [tells_len]; omega)
    rw [et]
    show wpAny _ _ (newTuple (tells rows i) >>= _) _ _ ⟨h, g, d, tk, os0⟩
    refine wpAny_bind (wpAny_newTuple ?_ (by rw [tells_len]; exact Nat.le_of_lt (small1000 (by omega))))
    have up : ∀ c o, h.get? c = some o → (h.push (tobj (tells rows i))).get? c = some o := fun c o e => Heap.get?_push_of_some _ e
    have esz : h.objs.size = hp.objs.size := ak.sz
    refine wpAny_pure ⟨_, rfl, ?_⟩
    have res := hQ (h.push (tobj (tells rows i))) tk ⟨⟨_, _, up _ _ ak.zo, .inr ⟨_, rfl⟩⟩, up _ _ ak.ti, ⟨os, l3, up _ _ ak.to⟩, fun j it' t' us e1 e2 e3 => ?_, ?_, fun c o c1 c2 c3 e => up c o (ak.kp c o c1 c2 c3 e)⟩
    · show Q (.ref h.objs.size) ⟨h.push (tobj (tells rows i)), g, d, tk, os0⟩
      rw [esz]
      exact res
    · obtain ⟨st1, st2⟩ := ak.st j it' t' us e1 e2 e3
      have lj := (List.getElem?_eq_some_iff.mp e1).1
      have st1 : h.IsTupleIter it' t' (if j < (x :: rest).length then i + 1 else i) := st1
      rw [if_pos lj] at st1
      exact ⟨Heap.IsTupleIter.at st1 fun o e => up _ _ e, st2.at fun o e => up _ _ e⟩
    · show (h.push (tobj (tells rows i))).get? hp.objs.size = _
      rw [← esz]
      exact Heap.get?_push_size _ rfl
/-- the end: all are as long as one another, so the first one ends -/
theorem next_ends {f0 f1 : Value} {os : List Value} {x : Addr} {rest : List Addr} {Q : PySem.Fin → Shared → Prop} (hh : A.handled = none) (S : SepN z TI TO (x :: rest) ts) (a : Amid s.heap s.heap z TI TO (x :: rest) ts rows i 0 f0 f1 os) (hf : f0 = .none ∨ ∃ n, f0 = rawInt n) (l1 : (x :: rest).length = ts.length) (l2 : rows.length = (x :: rest).length) (hi : ∀ us ∈ rows, us.size = i)
    (hE : ∀ h' tk e, (∀ c o, c ≠ z → c ≠ TO → c ∉ x :: rest → s.heap.get? c = some o → h'.get? c = some o) → (∃ o, h'.get? e = some o ∧ o.cls = .type "StopIteration") → E (.ref e) { s with heap := h', toks := tk }) :
    wpAny (model prog w) A (Builtin.«zip.__next__» ⟨[.ref z], []⟩) Q E s := by
  obtain ⟨hp, g, d, tk0, os0⟩ := s
  have e1 : (x :: rest)[0]? = some x := rfl
  have lt0 : 0 < ts.length := by
    rw [← l1]
    simp
  have lr0 : 0 < rows.length := by
    rw [l2]
    simp
  have e2 : ts[0]? = some ts[0] := by simp
  have e3 : rows[0]? = some rows[0] := by simp
  have hlast : ∀ (hq : Heap) (g0 g1 : Value) (Q : Value → Shared → Prop) (E' : Value → Shared → Prop), Amid hp hq z TI TO (x :: rest) ts rows i 0 g0 g1 os → (∀ q e, Heap.ExtBut x hq q → (∃ o, q.get? e = some o ∧ o.cls = .type "StopIteration") → E' (.ref e) ⟨q, g, d, tk0, os0⟩) → wpAny (model prog w) A (Builtin.SmallTypes.nextOf (.ref x)) Q E' ⟨hq, g, d, tk0, os0⟩ := fun hq g0 g1 Q E' aq k => by
    obtain ⟨st1, st2⟩ := aq.st 0 x _ _ e1 e2 e3
    have st1 : hq.IsTupleIter x ts[0] (if 0 < 0 then i + 1 else i) := st1
    rw [if_neg (Nat.lt_irrefl _), ← hi _ (List.mem_of_getElem? e3)] at st1
    have nt : ts[0] ≠ x := fun e => S.it x (by simp) (e ▸ List.mem_of_getElem? e2)
    exact (Draws.tuple (prog := prog) (w := w) hh x _ nt _).done ⟨hq, g, d, tk0, os0⟩ Q E' ⟨st1, st2⟩ k
  have nx : ∀ c, c ∉ x :: rest → c ≠ x := fun c n e => n (by rw [e]; simp)
  have zx : z ≠ x := nx z S.zi
  show wpAny _ _ (field (.ref z) 2 >>= _) _ _ _
  refine wpAny_bind (wpAny_field a.zo rfl (x := .bool false) rfl ?_)
  show wpAny _ _ (field (.ref z) 3 >>= _) _ _ _
  refine wpAny_bind (wpAny_field a.zo rfl (x := .ref TI) rfl (wpAny_bind (wpAny_seqItems a.ti rfl ?_)))
  show wpAny _ _ (Builtin.SmallTypes.ownedTupleIsFree (.ref z) >>= _) _ _ _
  refine wpAny_bind (wpAny_mono (Q := fun c s' => ∃ hq g1, s' = ⟨hq, g, d, tk0, os0⟩ ∧ Amid hp hq z TI TO (x :: rest) ts rows i 0 f0 g1 os) ?_ (fun c s' hc => ?_) fun _ _ e => e)
  · unfold Builtin.SmallTypes.ownedTupleIsFree
    refine wpAny_bind (wpAny_field a.zo rfl (x := f0) rfl ?_)
    rcases hf with rfl | ⟨n, rfl⟩
    · exact wpAny_pure ⟨hp, f1, rfl, a⟩
    · refine wpAny_bind (wp_alive ?_)
      split
      · exact wpAny_pure ⟨hp, f1, rfl, a⟩
      · refine wpAny_bind (wpAny_field a.zo rfl (x := f1) rfl ?_)
        split
        · exact wpAny_bind (wpAny_setField_rec a.zo (by simp) fun h7 hz7 hs7 => wpAny_pure ⟨h7, _, rfl, a.mark S hs7 hz7⟩)
        · exact wpAny_pure ⟨hp, f1, rfl, a⟩
  obtain ⟨hq, g1, rfl, aq⟩ := hc
  cases c with
  | true =>
    simp only [if_true]
    refine wpAny_bind (wpAny_rule (wpAny_bind (wpAny_field aq.zo rfl (x := .ref TO) rfl ?_)))
    refine wpAny_bind (wpAny_setField_rec aq.zo (by simp) fun g0 hz0 hs0 => ?_)
    have a0 : Amid hp g0 z TI TO (x :: rest) ts rows i 0 .ellipsis g1 os := aq.mark S hs0 hz0
    refine wpAny_bind ?_
    simp only [List.map_cons, List.zipIdx_cons, List.forIn_cons]
    refine wpAny_bind (wpAny_bind (wpAny_onRaise ?_))
    show wpAny _ _ (Builtin.SmallTypes.nextOf (.ref x) >>= _) _ _ ⟨g0, g, d, tk0, os0⟩
    refine wpAny_bind (hlast g0 _ _ _ _ a0 fun q e hqx he => ?_)
    obtain ⟨oe, hoe, hce⟩ := he
    have hzq : q.get? z = some (zobj .ellipsis g1 TI TO) := hqx _ _ zx a0.zo
    have hez : e ≠ z := fun y => by
      subst y
      rw [hzq] at hoe
      cases hoe
      simp at hce
    refine wpAny_setField_rec (s := ⟨q, g, d, tk0, os0⟩) hzq (by simp) fun q' _ hq' => ?_
    replace hq' : Heap.SameBut z q q' := hq'
    exact hE q' tk0 e (fun c o cz cT ci y => hq'.extBut _ _ cz (hqx _ _ (nx c ci) (a0.kp c o cz cT ci y))) ⟨oe, hq'.extBut _ _ hez hoe, hce⟩
  | false =>
    simp only [Bool.false_eq_true, if_false]
    rw [← Array.forIn_toList]
    refine wpAny_bind ?_
    simp only [List.map_cons, List.forIn_cons]
    refine wpAny_bind (wpAny_bind (wpAny_holding ?_))
    show wpAny _ _ (Builtin.SmallTypes.nextOf (.ref x) >>= _) _ _ ⟨hq, g, d, tk0, os0⟩
    refine wpAny_bind (hlast hq _ _ _ _ aq fun q e hqx he => ?_)
    exact hE q tk0 e (fun c o cz cT ci y => hqx _ _ (nx c ci) (aq.kp c o cz cT ci y)) he
/-- pyNext of the zip -/
theorem zip_item {f0 f1 : Value} {os : List Value} {x : Addr} {rest : List Addr} {Q : Option Value → Shared → Prop} (hh : A.handled = none) (S : SepN z TI TO (x :: rest) ts) (a : Amid s.heap s.heap z TI TO (x :: rest) ts rows i 0 f0 f1 os) (hf : f0 = .none ∨ ∃ n, f0 = rawInt n) (l1 : (x :: rest).length = ts.length) (l2 : rows.length = (x :: rest).length) (l3 : os.length = (x :: rest).length) (hi : ∀ us ∈ rows, i < us.size) (small : (x :: rest).length ≤ 1000)
    (hQ : ∀ h' tk, Turned s.heap h' z TI TO (x :: rest) ts rows i → Q (some (.ref s.heap.objs.size)) { s with heap := h', toks := tk }) :
    wpAny (model prog w) A (pyNext (.ref z)) Q E s := by
  have hT : s.TypeIs (.ref z) "zip" := ⟨_, a.zo, rfl⟩
  have one : wpAny (model prog w) A.in1 (Builtin.«zip.__next__» ⟨[.ref z], []⟩) (fun fin s' => ∃ v, fin = .done (.ret v) ∧ (∃ h' tk, v = .ref s.heap.objs.size ∧ s' = { s with heap := h', toks := tk } ∧ Turned s.heap h' z TI TO (x :: rest) ts rows i)) (fun _ _ => False) s := by
    rcases hf with rfl | ⟨n, rfl⟩
    · exact next_free (A := A.in1) (by simpa using hh) S a (.inl rfl) l1 l2 l3 hi small fun h' tk t => ⟨h', tk, rfl, rfl, t⟩
    · cases e : (s.heap.get? n.toNat).isNone with
      | true => exact next_free (A := A.in1) (by simpa using hh) S a (.inr ⟨n, rfl, e⟩) l1 l2 l3 hi small fun h' tk t => ⟨h', tk, rfl, rfl, t⟩
      | false => exact next_kept (A := A.in1) (by simpa using hh) S a l1 l2 l3 hi small e fun h' tk t => ⟨h', tk, rfl, rfl, t⟩
  unfold pyNext
  refine wpAny_bind (wpAny_attempt (wpAny_callSpecial?_slot (name := Str.ofString "__next__") hT F.slot_zip_next (wpAny_call_entry F.slot_zip_next hT F.entry_zip_next ?_ (F.args_zip_next_1 _))))
  refine wpAny_mono one (fun fin s' hv => ?_) fun _ _ e => e.elim
  obtain ⟨v, rfl, h', tk, rfl, rfl, t⟩ := hv
  exact ⟨_, rfl, wpAny_pure (hQ h' tk t)⟩
theorem zip_end {f0 f1 : Value} {os : List Value} {x : Addr} {rest : List Addr} {Q : Option Value → Shared → Prop} (hh : A.handled = none) (S : SepN z TI TO (x :: rest) ts) (a : Amid s.heap s.heap z TI TO (x :: rest) ts rows i 0 f0 f1 os) (hf : f0 = .none ∨ ∃ n, f0 = rawInt n) (l1 : (x :: rest).length = ts.length) (l2 : rows.length = (x :: rest).length) (hi : ∀ us ∈ rows, us.size = i)
    (hQ : ∀ h' tk, (∀ c o, c ≠ z → c ≠ TO → c ∉ x :: rest → s.heap.get? c = some o → h'.get? c = some o) → Q none { s with heap := h', toks := tk }) : wpAny (model prog w) A (pyNext (.ref z)) Q E s := by
  have hT : s.TypeIs (.ref z) "zip" := ⟨_, a.zo, rfl⟩
  unfold pyNext
  refine wpAny_bind (wpAny_attempt (wpAny_callSpecial?_slot (name := Str.ofString "__next__") hT F.slot_zip_next (wpAny_call_entry F.slot_zip_next hT F.entry_zip_next ?_ (F.args_zip_next_1 _))))
  refine next_ends (A := A.in1) (by simpa using hh) S a hf l1 l2 hi fun h' tk e hk he => ?_
  obtain ⟨o, ho, hc⟩ := he
  refine wpAny_bind (wpAny_isInstance (T := "StopIteration") (b := true) ⟨o, ho, hc⟩ isSubtype_stop ?_)
  exact wpAny_pure (hQ _ _ hk)
end
/-! ### it begins -/
section
variable {prog : Program} {w : World} {A : Around} {E : Value → Shared → Prop} {s : Shared}
def itObj (t : Addr) : Obj := { cls := .type "tuple_iterator", data := .fields #[.ref t, .int 0 0] }
def pushAll (h : Heap) : List Addr → Heap
  | [] => h
  | t :: ts => pushAll (h.push (itObj t)) ts
theorem pushAll_size : ∀ (ts : List Addr) (h : Heap), (pushAll h ts).objs.size = h.objs.size + ts.length
  | [], h => rfl
  | t :: ts, h => by
    have e : (h.push (itObj t)).objs.size = h.objs.size + 1 := Heap.size_push ..
    rw [pushAll, pushAll_size ts, e, List.length_cons]
    omega
theorem pushAll_old : ∀ (ts : List Addr) (h : Heap) (c : Addr) (o : Obj), h.get? c = some o → (pushAll h ts).get? c = some o
  | [], h, c, o, e => e
  | t :: ts, h, c, o, e => pushAll_old ts _ c o (Heap.get?_push_of_some _ e)
theorem pushAll_at : ∀ (ts : List Addr) (h : Heap) (k : Nat) (t : Addr), ts[k]? = some t → (pushAll h ts).get? (h.objs.size + k) = some (itObj t)
  | [], h, k, t, e => by simp at e
  | u :: ts, h, 0, t, e => by
    cases e
    exact pushAll_old ts _ _ _ (Heap.get?_push_size _ rfl)
  | u :: ts, h, k + 1, t, e => by
    have z := pushAll_at ts (h.push (itObj u)) k t e
    have e2 : (h.push (itObj u)).objs.size = h.objs.size + 1 := Heap.size_push ..
    rw [e2] at z
    have e3 : h.objs.size + (k + 1) = h.objs.size + 1 + k := by omega
    rw [e3]
    exact z
def newIts (h : Heap) (n : Nat) : List Addr := (List.range n).map (h.objs.size + ·)
theorem iterAll_tup {ts : List Addr} {Q : List Value → Shared → Prop} (ht : ∀ t ∈ ts, ∃ us, s.heap.IsTuple t us) (h : Q ((newIts s.heap ts.length).map Value.ref) { s with heap := pushAll s.heap ts }) : wpAny (model prog w) A (Builtin.SmallTypes.iterAll (ts.map Value.ref)) Q E s := by
  unfold Builtin.SmallTypes.iterAll
  refine wpAny_bind ?_
  refine forIn_wp (fun k b s' => b = ((newIts s.heap k).map Value.ref).toArray ∧ s' = { s with heap := pushAll s.heap (ts.take k) }) _ ?_ ?_ _ _ ⟨rfl, rfl⟩
  · rintro k y b s' hy ⟨rfl, rfl⟩
    rw [List.getElem?_map] at hy
    obtain ⟨t, ht', rfl⟩ := Option.map_eq_some_iff.mp hy
    obtain ⟨us, hus⟩ := ht t (List.mem_of_getElem? ht')
    have lk := (List.getElem?_eq_some_iff.mp ht').1
    have hus' : (pushAll s.heap (ts.take k)).IsTuple t us := hus.at fun o e => pushAll_old _ _ _ _ e
    refine wpAny_bind (wpAny_holding (wpAny_pyIter_tuple hus' (wpAny_pure ⟨_, rfl, ?_, ?_⟩)))
    · have e : (pushAll s.heap (ts.take k)).objs.size = s.heap.objs.size + k := by
        rw [pushAll_size, List.length_take]
        omega
      unfold newIts
      rw [List.range_succ]
      simp [e]
    · have : ∀ (l : List Addr) (h : Heap), pushAll h (l ++ [t]) = (pushAll h l).push (itObj t) := by
        intro l
        induction l with
        | nil => intro h; rfl
        | cons a l ih => intro h; exact ih _
      rw [List.take_add_one, ht']
      show _ = { s with heap := pushAll s.heap (ts.take k ++ [t]) }
      rw [this]
      rfl
  · rintro b s' ⟨rfl, rfl⟩
    rw [List.length_map, List.take_length]
    exact wpAny_pure h
abbrev zT (h : Heap) (ts : List Addr) : Heap := (pushAll h ts).push (tobj ((newIts h ts.length).map Value.ref))
abbrev zO (h : Heap) (ts : List Addr) : Heap := (zT h ts).push (tobj ((newIts h ts.length).map fun _ => Value.none))
abbrev zZ (h : Heap) (ts : List Addr) : Heap := (zO h ts).push (zobj .none (.bool false) (pushAll h ts).objs.size (zT h ts).objs.size)
theorem meets_zipN (ts : List Addr) : Meets (Builtin.«zip.__new__» ⟨.type "zip" :: ts.map Value.ref, []⟩) (fun _ R s => ((∀ t ∈ ts, ∃ us, s.heap.IsTuple t us) ∧ ts.length ≤ 1000) ∧ R (.ok (.ret (.ref (zO s.heap ts).objs.size))) { s with heap := zZ s.heap ts }) :=
  .of_wp fun prog w A R s h => by
    obtain ⟨hp, g, d, tk, os⟩ := s
    obtain ⟨⟨h1, h2⟩, h⟩ := h
    have hsub := sub_zip
    have q1 : ∀ {A' : Around} {E : Value → Shared → Prop} {Q : List Value → Shared → Prop}, Q ((newIts hp ts.length).map Value.ref) ⟨pushAll hp ts, g, d, tk, os⟩ → wpAny (model prog w) A' (Builtin.SmallTypes.iterAll (ts.map Value.ref)) Q E ⟨hp, g, d, tk, os⟩ := fun q => iterAll_tup (s := ⟨hp, g, d, tk, os⟩) h1 q
    unfold Builtin.«zip.__new__»
    generalize hIA : Builtin.SmallTypes.iterAll = IA at q1
    generalize hNT : newTuple = NT
    generalize hNR : Builtin.SmallTypes.newRecord = NR
    wp_walk using q1
    subst hNT hNR
    have sz : (newIts hp ts.length).length ≤ 1000 := by simpa [newIts] using h2
    refine wpAny_newTuple ?_ (by rw [List.length_map]; exact Nat.le_of_lt (small1000 sz))
    refine wpAny_bind (wpAny_newTuple ?_ (by rw [List.length_map, List.length_map]; exact Nat.le_of_lt (small1000 sz)))
    unfold Builtin.SmallTypes.newRecord
    rw [List.map_map]
    exact wpAny_bind (wpAny_newObj_type (wpAny_pure ⟨_, rfl, h⟩) (by simp [sizeOk]; show 3 ≤ sizeLine; decide))
theorem zip_begins {ts : List Addr} {Q : Value → Shared → Prop} (ht : ∀ t ∈ ts, ∃ us, s.heap.IsTuple t us) (l5 : ts.length ≤ 5)
    (h : Q (.ref (zO s.heap ts).objs.size) { s with heap := zZ s.heap ts }) : wpAny (model prog w) A (call (.type "zip") (ts.map Value.ref)) Q E s := by
  have c1 : checkTypeCall "zip" ⟨ts.map Value.ref, []⟩ = pure () := by
    match ts, l5 with
    | [], _ => kernel_rfl
    | [_], _ => kernel_rfl
    | [_, _], _ => kernel_rfl
    | [_, _, _], _ => kernel_rfl
    | [_, _, _, _], _ => kernel_rfl
    | [_, _, _, _, _], _ => kernel_rfl
    | _ :: _ :: _ :: _ :: _ :: _ :: _, l => simp at l
  have c2 : checkBuiltinCall "zip.__new__" ⟨.type "zip" :: ts.map Value.ref, []⟩ = pure () := by
    match ts, l5 with
    | [], _ => kernel_rfl
    | [_], _ => kernel_rfl
    | [_, _], _ => kernel_rfl
    | [_, _, _], _ => kernel_rfl
    | [_, _, _, _], _ => kernel_rfl
    | [_, _, _, _, _], _ => kernel_rfl
    | _ :: _ :: _ :: _ :: _ :: _ :: _, l => simp at l
  have c3 : ∀ obj, argsOk "object.__init__" ⟨obj :: ts.map Value.ref, []⟩ := by
    intro obj
    unfold argsOk
    match ts, l5 with
    | [], _ => kernel_rfl
    | [_], _ => kernel_rfl
    | [_, _], _ => kernel_rfl
    | [_, _, _], _ => kernel_rfl
    | [_, _, _, _], _ => kernel_rfl
    | [_, _, _, _, _], _ => kernel_rfl
    | _ :: _ :: _ :: _ :: _ :: _ :: _, l => simp at l
  refine callType_new F.called_zip (by decide) c1 c2 c3 F.entry_zip_new (meets_zipN ts) ⟨⟨ht, by omega⟩, ?_⟩
  exact ⟨⟨_, Heap.get?_push_size _ rfl, rfl⟩, h⟩
end
end Sw

set_option maxHeartbeats 4000000
namespace Sw
open PySem PySem.Spec PyProof.Rows L2
/-! ### for x in zip(*rows) -/
def RowsAt (K : PySem.W.Frag) (H : Hp) (ts : List Addr) (xss : List (List V)) : Prop := ts.length = xss.length ∧ ∀ (k : Nat) (t : Addr) (xs : List V), ts[k]? = some t → xss[k]? = some xs → SqT K H t xs
def col (xss : List (List V)) (i : Nat) : List V := xss.map fun xs => xs.getD i .non
def ItN (K : PySem.W.Frag) (ts : List Addr) : It :=
  ⟨fun i H => ∃ xss, RowsAt K H ts xss ∧ ∀ xs ∈ xss, i < xs.length,
    fun i H v H' => ∃ T, v = .ref T ∧ H T = none ∧ ∃ ys, H' = upd H T (.tup ys) ∧ ∀ xss, RowsAt K H ts xss → ys = col xss i,
    fun i H => ∃ xss, RowsAt K H ts xss ∧ ∀ xs ∈ xss, xs.length = i⟩
section
variable {X : Cx} {pins : List (Addr × Obj)} {σ : L2.St} {H : Hp} {s : Shared}
theorem rows_of (I : Inv X pins σ H s) : ∀ {ts : List Addr} {xss : List (List V)}, RowsAt X.K H ts xss → ∃ rows : List (Array Value), rows.length = ts.length ∧ ∀ (k : Nat) (t : Addr) (xs : List V) (us : Array Value), ts[k]? = some t → xss[k]? = some xs → rows[k]? = some us → s.heap.IsTuple t us ∧ Vals xs us.toList ∧ us.size = xs.length
  | [], xss, _ => ⟨[], rfl, fun k t xs us e => by simp at e⟩
  | t :: ts, [], h => by
    have := h.1
    simp at this
  | t :: ts, xs :: xss, h => by
    obtain ⟨rows, l, al⟩ := rows_of I (ts := ts) (xss := xss) ⟨by simpa using h.1, fun k t xs e1 e2 => h.2 (k + 1) t xs e1 e2⟩
    obtain ⟨its, rv, p, hz⟩ := I.tuple (h.2 0 t xs rfl rfl)
    refine ⟨its.toArray :: rows, by simp [l], fun k t' xs' us e1 e2 e3 => ?_⟩
    cases k with
    | zero =>
      cases e1
      cases e2
      cases e3
      exact ⟨p, by simpa using rv, by rw [List.size_toArray]; exact rv.length.symm⟩
    | succ k => exact al k t' xs' us e1 e2 e3
theorem rows_inj (I : Inv X pins σ H s) {ts : List Addr} {xss yss : List (List V)} (h1 : RowsAt X.K H ts xss) (h2 : RowsAt X.K H ts yss) : xss = yss := by
  apply List.ext_getElem?
  intro k
  by_cases c : k < ts.length
  · have e : ts[k]? = some ts[k] := by simp
    have l1 : k < xss.length := by rw [← h1.1]; exact c
    have l2 : k < yss.length := by rw [← h2.1]; exact c
    have g1 : xss[k]? = some xss[k] := by simp
    have g2 : yss[k]? = some yss[k] := by simp
    rw [g1, g2, I.tuple_inj (h1.2 k _ _ e g1) (h2.2 k _ _ e g2)]
  · rw [List.getElem?_eq_none (by rw [← h1.1]; omega), List.getElem?_eq_none (by rw [← h2.1]; omega)]
end
def stN (z TI TO : Addr) (its ts : List Addr) (i : Nat) (h : Heap) : Prop := (∃ f0 f1, h.get? z = some (zobj f0 f1 TI TO) ∧ (f0 = .none ∨ ∃ n, f0 = rawInt n)) ∧ h.get? TI = some (tobj (its.map Value.ref)) ∧ (∃ os, os.length = its.length ∧ h.get? TO = some (tobj os)) ∧ ∀ (k : Nat) (it t : Addr), its[k]? = some it → ts[k]? = some t → h.IsTupleIter it t i
theorem vals_col {i : Nat} : ∀ {xss : List (List V)} {rows : List (Array Value)}, xss.length = rows.length → (∀ (k : Nat) (xs : List V) (us : Array Value), xss[k]? = some xs → rows[k]? = some us → Vals xs us.toList ∧ i < us.size) → Vals (col xss i) (tells rows i)
  | [], [], _, _ => .nil
  | [], _ :: _, l, _ => nomatch l
  | _ :: _, [], l, _ => nomatch l
  | xs :: xss, us :: rows, l, h => by
    obtain ⟨h1, h2⟩ := h 0 xs us rfl rfl
    have lx : i < xs.length := by
      rw [h1.length, Array.length_toList]
      exact h2
    have gx : xs[i]? = some xs[i] := by simp
    obtain ⟨u, hu, ru⟩ := h1.get gx
    have e1 : xs.getD i .non = xs[i] := by rw [List.getD_eq_getElem?_getD, gx]; rfl
    have e2 : us.getD i .none = u := by
      rw [Array.getElem?_toList] at hu
      rw [Array.getD_eq_getD_getElem?, hu]
      rfl
    refine .cons ?_ (vals_col (by simpa using l) fun k xs us e1 e2 => h (k + 1) xs us e1 e2)
    show L2.RelV (xs.getD i .non) (us.getD i .none)
    rw [e1, e2]
    exact ru
theorem turnN {P : Program} {w : World} {K : PySem.W.Frag} {n : Str} {tpos : Pos} {x : Addr} {rest ts : List Addr} {z TI TO : Addr} (S : SepN z TI TO (x :: rest) ts) (l1 : (x :: rest).length = ts.length) (l5 : ts.length ≤ 1000) :
    Turn P w K (.Name n tpos) (ItN K ts) (z :: TI :: TO :: x :: rest) z (stN z TI TO (x :: rest) ts) where
  mem := by simp
  obj := fun i h st c hc => by
    obtain ⟨⟨f0, f1, hz, _⟩, hTI, ⟨os, _, hTO⟩, hit⟩ := st
    rcases List.mem_cons.mp hc with q | hc
    · rw [q]
      exact ⟨_, hz, fun v q => nomatch q⟩
    rcases List.mem_cons.mp hc with q | hc
    · rw [q]
      exact ⟨_, hTI, fun v q => nomatch q⟩
    rcases List.mem_cons.mp hc with q | hc
    · rw [q]
      exact ⟨_, hTO, fun v q => nomatch q⟩
    obtain ⟨k, hk, e⟩ := List.getElem_of_mem hc
    have lk : k < ts.length := by rw [← l1]; exact hk
    obtain ⟨o, ho, _, hd⟩ := hit k c ts[k] (by rw [List.getElem?_eq_getElem hk, e]) (by simp)
    exact ⟨o, ho, fun v q => by rw [hd] at q; cases q⟩
  keep := fun i h h' st k => by
    obtain ⟨⟨f0, f1, hz, hf⟩, hTI, ⟨os, lo, hTO⟩, hit⟩ := st
    exact ⟨⟨f0, f1, k z (by simp) _ hz, hf⟩, k TI (by simp) _ hTI, ⟨os, lo, k TO (by simp) _ hTO⟩, fun j it t e1 e2 => (hit j it t e1 e2).at fun o e => k it (by have := List.mem_of_getElem? e1; simp only [List.mem_cons] at this ⊢; exact .inr (.inr (.inr this))) o e⟩
  item := by
    intro X hP hw hK hc i pins s σ H E I hf st hg
    subst hP hw hK
    obtain ⟨⟨f0, f1, hz, hf0⟩, hTI, ⟨os, lo, hTO⟩, hit⟩ := st
    obtain ⟨xss, hx, lx⟩ := hg
    obtain ⟨rows, lr, al⟩ := rows_of I hx
    have hh : X.A.handled = none := I.ok.hd hc
    have am : Amid s.heap s.heap z TI TO (x :: rest) ts rows i 0 f0 f1 os := ⟨hz, hTI, hTO, fun k it t us e1 e2 e3 => by
      have lk := (List.getElem?_eq_some_iff.mp e2).1
      have lk2 : k < xss.length := by rw [← hx.1]; exact lk
      exact ⟨by show s.heap.IsTupleIter it t (if k < 0 then i + 1 else i); rw [if_neg (Nat.not_lt_zero _)]; exact hit k it t e1 e2, (al k t xss[k] us e2 (by simp) e3).1⟩, rfl, fun c o _ _ _ e => e⟩
    have szs : ∀ us ∈ rows, i < us.size := fun us hu => by
      obtain ⟨k, hk, e⟩ := List.getElem_of_mem hu
      have lk : k < ts.length := by omega
      have lk2 : k < xss.length := by rw [← hx.1]; exact lk
      rw [(al k ts[k] xss[k] us (by simp) (by simp) (by rw [List.getElem?_eq_getElem hk, e])).2.2]
      exact lx _ (List.getElem_mem lk2)
    refine zip_item hh S am hf0 l1 (by omega) lo szs (by omega) fun h' tk t => ?_
    refine ⟨_, rfl, ?_⟩
    have tup := t.tup
    have new : ObjOk X.prog X.w (upd H s.heap.objs.size (.tup (col xss i))) h' s.heap.objs.size (.tup (col xss i)) := by
      refine ⟨?_, tells rows i, vals_col (by rw [← hx.1]; omega) fun k xs us e1 e2 => ?_, ⟨_, tup, rfl, _, rfl⟩⟩
      · show (col xss i).length ≤ sizeLine
        unfold col
        rw [List.length_map, ← hx.1]
        exact Nat.le_of_lt (small1000 l5)
      · have lk := (List.getElem?_eq_some_iff.mp e1).1
        have lk2 : k < ts.length := by rw [hx.1]; exact lk
        obtain ⟨_, g2, g3⟩ := al k ts[k] xs us (by simp) e1 e2
        exact ⟨g2, szs us (List.mem_of_getElem? e2)⟩
    have I1 : Inv X pins σ (upd H s.heap.objs.size (.tup (col xss i))) { s with heap := h', toks := tk } := by
      refine I.turnedNew (t' := tk) (ch := z :: TI :: TO :: x :: rest) (fun c o hb q => ?_) hf (Nat.le_refl _) new
      simp only [List.mem_cons, not_or] at hb
      exact t.kp c o hb.1 hb.2.2.1 (by simp only [List.mem_cons, not_or]; exact hb.2.2.2) q
    refine wpAny_pure ⟨.ref s.heap.objs.size, _, I1, rfl, ⟨_, rfl, I.hok.fresh (Nat.le_refl _), col xss i, rfl, fun yss hy => by rw [rows_inj I hy hx]⟩, ?_, fun c hcm => ?_⟩
    · obtain ⟨g0, g1, hz', hg0⟩ := t.zo
      obtain ⟨os', lo', hTO'⟩ := t.to
      refine ⟨⟨g0, g1, hz', hg0⟩, t.ti, ⟨os', lo', hTO'⟩, fun k it tt e1 e2 => ?_⟩
      have lk := (List.getElem?_eq_some_iff.mp e2).1
      have lk2 : k < rows.length := by omega
      exact (t.st k it tt rows[k] e1 e2 (by simp)).1
    · have lt : c < s.heap.objs.size := by
        rcases List.mem_cons.mp hcm with q | hcm
        · rw [q]
          exact Heap.lt_size hz
        rcases List.mem_cons.mp hcm with q | hcm
        · rw [q]
          exact Heap.lt_size hTI
        rcases List.mem_cons.mp hcm with q | hcm
        · rw [q]
          exact Heap.lt_size hTO
        obtain ⟨k, hk, e⟩ := List.getElem_of_mem hcm
        have lk : k < ts.length := by rw [← l1]; exact hk
        obtain ⟨o, ho, _⟩ := hit k c ts[k] (by rw [List.getElem?_eq_getElem hk, e]) (by simp)
        exact Heap.lt_size ho
      rw [upd_ne (Nat.ne_of_lt lt)]
      exact (hf c hcm).1
  done := by
    intro X hP hw hK hc i pins s σ H E I hf st hg
    subst hP hw hK
    obtain ⟨⟨f0, f1, hz, hf0⟩, hTI, ⟨os, lo, hTO⟩, hit⟩ := st
    obtain ⟨xss, hx, lx⟩ := hg
    obtain ⟨rows, lr, al⟩ := rows_of I hx
    have hh : X.A.handled = none := I.ok.hd hc
    have am : Amid s.heap s.heap z TI TO (x :: rest) ts rows i 0 f0 f1 os := ⟨hz, hTI, hTO, fun k it t us e1 e2 e3 => by
      have lk := (List.getElem?_eq_some_iff.mp e2).1
      have lk2 : k < xss.length := by rw [← hx.1]; exact lk
      exact ⟨by show s.heap.IsTupleIter it t (if k < 0 then i + 1 else i); rw [if_neg (Nat.not_lt_zero _)]; exact hit k it t e1 e2, (al k t xss[k] us e2 (by simp) e3).1⟩, rfl, fun c o _ _ _ e => e⟩
    have szs : ∀ us ∈ rows, us.size = i := fun us hu => by
      obtain ⟨k, hk, e⟩ := List.getElem_of_mem hu
      have lk : k < ts.length := by omega
      have lk2 : k < xss.length := by rw [← hx.1]; exact lk
      rw [(al k ts[k] xss[k] us (by simp) (by simp) (by rw [List.getElem?_eq_getElem hk, e])).2.2]
      exact lx _ (List.getElem_mem lk2)
    refine zip_end hh S am hf0 l1 (by omega) szs fun h' tk hk => ⟨rfl, ?_⟩
    refine I.turnedL (t' := tk) (ch := z :: TI :: TO :: x :: rest) (fun c o hb q => ?_) hf
    simp only [List.mem_cons, not_or] at hb
    exact hk c o hb.1 hb.2.2.1 (by simp only [List.mem_cons, not_or]; exact hb.2.2.2) q
  self := fun A i s Q E st h => by
    obtain ⟨⟨f0, f1, hz, _⟩, _⟩ := st
    have hT : s.TypeIs (.ref z) "zip" := ⟨_, hz, rfl⟩
    refine wpAny_pyIter_slot hT F.slot_zip_iter (wpAny_call_entry F.slot_zip_iter hT F.entry_zip_iter (?_ : wpAny _ _ (ret (.ref z)) _ _ s) (F.args_zip_iter_1 _))
    exact wpAny_pure ⟨_, rfl, "zip", _, hT, F.slot_zip_next.lookup, h⟩
theorem callWith_starT {M : Model} {A : Around} {E : Value → Shared → Prop} {s : Shared} {env : Env} {pos p : Pos} {T : String} {e : Expr} {Q : Value → Shared → Prop} (h : wpAny M A (eval e env) (fun v s1 => PySem.W.StarOf M A E v (fun vs s2 => wpAny M A (call (.type T) vs) Q E s2) s1) E s)
    (he : starEach [.Starred e p] env = [(true, eval e env)] := by rfl) : wpAny M A (callWith pos (.type T) [] (backTo pos (starEach [.Starred e p] env)) []) Q E s := by
  rw [he]
  refine PySem.W.ks_call (P := fun _ => True) rfl (fun h _ => ⟨.machine, .inr (.inl rfl), ?_⟩) (PySem.W.ks_lone ?_)
  · exact fun A Q E s _ q => wpAny_pure q
  · refine wpAny_mono h (fun v s1 h1 => ?_) fun _ _ z => z
    unfold PySem.W.StarOf at h1 ⊢
    exact wpAny_mono h1 (fun b s2 ⟨hb, h2⟩ => ⟨hb, wpAny_mono h2 (fun vs s3 h3 => ⟨trivial, h3⟩) fun _ _ z => z⟩) fun _ _ z => z
def iZipN (K : PySem.W.Frag) (te : TE) : TI := fun σ H R => te σ H fun x H1 => ∃ (p : Addr) (ts : List Addr) (xss : List (List V)), x = .ref p ∧ (SqT K H1 p (ts.map V.ref) ∨ SqL K H1 p (ts.map V.ref)) ∧ 1 ≤ ts.length ∧ ts.length ≤ 5 ∧ RowsAt K H1 ts xss ∧ R (ItN K ts) H1
theorem vals_refs : ∀ {ts : List Addr} {us : List Value}, Vals (ts.map V.ref) us → us = ts.map Value.ref
  | [], _, .nil => rfl
  | t :: ts, _, .cons r h => by
    cases (show _ = Value.ref t from r)
    rw [vals_refs h]
    rfl
theorem newIts_at (h : Heap) {n k : Nat} {it : Addr} (e : (newIts h n)[k]? = some it) : it = h.objs.size + k ∧ k < n := by
  have lk : k < n := by
    have := (List.getElem?_eq_some_iff.mp e).1
    simpa [newIts] using this
  unfold newIts at e
  rw [List.getElem?_map, List.getElem?_range lk] at e
  exact ⟨(Option.some.inj e).symm, lk⟩
theorem pi_zipN {X : Cx} {n : Str} {e : Expr} {te : TE} {p sp pos tpos : Pos} (hg : Gl X "zip") (hm : X.mg "zip" = none) (he : PE X e te)
    (hst : starEach [.Starred e sp] X.env = [(true, eval e X.env)] := by rfl) : PI X (.Name n tpos) (.Call (.Name "zip" p) [.Starred e sp] [] pos) (iZipN X.K te) := by
  refine ⟨fun pins s σ H R I h => Call_ (ld_blt I hg hm PyProof.Rows.boot_zip (callWith_starT (thn (he.run pins s σ H _ I h) fun v s1 ⟨y, H1, I1, ry, q1⟩ => ?_) hst))⟩
  obtain ⟨a, ts, xss, rfl, hq, l1, l5, hx, q⟩ := q1
  obtain rfl : v = Value.ref a := ry
  refine StX.star_any I1 hq fun us s2 I2 rv => ?_
  rw [vals_refs rv]
  obtain ⟨rows, lr, al⟩ := rows_of I2 hx
  have ht : ∀ t ∈ ts, ∃ us, s2.heap.IsTuple t us := fun t htm => by
    obtain ⟨k, hk, e⟩ := List.getElem_of_mem htm
    have lk2 : k < xss.length := by rw [← hx.1]; exact hk
    have lk3 : k < rows.length := by omega
    exact ⟨_, (al k t xss[k] rows[k] (by rw [List.getElem?_eq_getElem hk, e]) (by simp) (by simp)).1⟩
  have lt : ∀ t ∈ ts, t < s2.heap.objs.size := fun t htm => by
    obtain ⟨us, o, e, _⟩ := ht t htm
    exact Heap.lt_size e
  refine zip_begins ht l5 ?_
  have z1 : (pushAll s2.heap ts).objs.size = s2.heap.objs.size + ts.length := pushAll_size ts _
  have z2 : (zT s2.heap ts).objs.size = s2.heap.objs.size + ts.length + 1 := by
    have : (zT s2.heap ts).objs.size = (pushAll s2.heap ts).objs.size + 1 := Heap.size_push ..
    rw [this, z1]
  have z3 : (zO s2.heap ts).objs.size = s2.heap.objs.size + ts.length + 2 := by
    have : (zO s2.heap ts).objs.size = (zT s2.heap ts).objs.size + 1 := Heap.size_push ..
    rw [this, z2]
  have gZ : (zZ s2.heap ts).get? (zO s2.heap ts).objs.size = some (zobj .none (.bool false) (pushAll s2.heap ts).objs.size (zT s2.heap ts).objs.size) := Heap.get?_push_size _ rfl
  have gO : (zZ s2.heap ts).get? (zT s2.heap ts).objs.size = some (tobj ((newIts s2.heap ts.length).map fun _ => Value.none)) := Heap.get?_push_of_some _ (Heap.get?_push_size _ rfl)
  have gT : (zZ s2.heap ts).get? (pushAll s2.heap ts).objs.size = some (tobj ((newIts s2.heap ts.length).map Value.ref)) := Heap.get?_push_of_some _ (Heap.get?_push_of_some _ (Heap.get?_push_size _ rfl))
  have old : ∀ c o, s2.heap.get? c = some o → (zZ s2.heap ts).get? c = some o := fun c o e => Heap.get?_push_of_some _ (Heap.get?_push_of_some _ (Heap.get?_push_of_some _ (pushAll_old ts _ c o e)))
  have gI : ∀ (k : Nat) (it t : Addr), (newIts s2.heap ts.length)[k]? = some it → ts[k]? = some t → (zZ s2.heap ts).IsTupleIter it t 0 := fun k it t e1 e2 => by
    obtain ⟨rfl, _⟩ := newIts_at _ e1
    exact ⟨_, Heap.get?_push_of_some _ (Heap.get?_push_of_some _ (Heap.get?_push_of_some _ (pushAll_at ts _ k t e2))), rfl, rfl⟩
  have mI : ∀ c ∈ newIts s2.heap ts.length, s2.heap.objs.size ≤ c ∧ c < s2.heap.objs.size + ts.length := fun c hc => by
    obtain ⟨k, hk, e⟩ := List.getElem_of_mem hc
    obtain ⟨rfl, lk⟩ := newIts_at (k := k) s2.heap (by rw [List.getElem?_eq_getElem hk, e])
    exact ⟨Nat.le_add_right _ _, Nat.add_lt_add_left lk _⟩
  have sep : SepN (zO s2.heap ts).objs.size (pushAll s2.heap ts).objs.size (zT s2.heap ts).objs.size (newIts s2.heap ts.length) ts := by
    refine ⟨?_, fun m => ?_, fun m => ?_, fun m => ?_, fun m => ?_, fun m => ?_, fun c hc m => ?_, ?_, ?_, ?_⟩
    · unfold newIts List.Nodup
      rw [List.pairwise_map]
      exact (List.nodup_range (n := ts.length)).imp fun h z => h (Nat.add_left_cancel z)
    · have := (mI _ m).2
      rw [z3] at this
      exact Nat.lt_irrefl _ (Nat.lt_of_lt_of_le this (show s2.heap.objs.size + ts.length ≤ s2.heap.objs.size + ts.length + 2 by omega))
    · have := (mI _ m).2
      rw [z1] at this
      exact absurd this (Nat.lt_irrefl _)
    · have := (mI _ m).2
      rw [z2] at this
      exact Nat.lt_irrefl _ (Nat.lt_of_lt_of_le this (show s2.heap.objs.size + ts.length ≤ s2.heap.objs.size + ts.length + 1 by omega))
    · have := lt _ m
      rw [z3] at this
      exact Nat.lt_irrefl _ (Nat.lt_of_lt_of_le this (show s2.heap.objs.size ≤ s2.heap.objs.size + ts.length + 2 by omega))
    · have := lt _ m
      rw [z2] at this
      exact Nat.lt_irrefl _ (Nat.lt_of_lt_of_le this (show s2.heap.objs.size ≤ s2.heap.objs.size + ts.length + 1 by omega))
    · exact absurd (lt c m) (Nat.not_lt_of_le (mI c hc).1)
    · rw [z1, z3]
      exact Nat.ne_of_lt (by omega)
    · rw [z2, z3]
      exact Nat.ne_of_lt (by omega)
    · rw [z1, z2]
      exact Nat.ne_of_lt (by omega)
  have ln : (newIts s2.heap ts.length).length = ts.length := by simp [newIts]
  generalize hits : newIts s2.heap ts.length = its at gO gT gI mI sep ln
  match its, ln with
  | [], ln => exact absurd ln (by simp; omega)
  | x :: rest, ln =>
    have T := turnN (P := X.prog) (w := X.w) (K := X.K) (n := n) (tpos := tpos) sep ln (by omega)
    have new : ∀ c ∈ (zO s2.heap ts).objs.size :: (pushAll s2.heap ts).objs.size :: (zT s2.heap ts).objs.size :: x :: rest, s2.heap.objs.size ≤ c := fun c hc => by
      rcases List.mem_cons.mp hc with q | hc
      · rw [q, z3]
        omega
      rcases List.mem_cons.mp hc with q | hc
      · rw [q, z1]
        omega
      rcases List.mem_cons.mp hc with q | hc
      · rw [q, z2]
        omega
      exact (mI c hc).1
    have st0 : stN (zO s2.heap ts).objs.size (pushAll s2.heap ts).objs.size (zT s2.heap ts).objs.size (x :: rest) ts 0 (zZ s2.heap ts) := ⟨⟨_, _, gZ, .inl rfl⟩, gT, ⟨_, by simp, gO⟩, gI⟩
    refine T.self X.A 0 { s2 with heap := zZ s2.heap ts } _ _ st0 ?_
    exact ⟨_, _, _, _, H1, rfl, I2.kept (t' := s2.toks) old, T, st0, fun c hc => I2.fpOk (new c hc) (I2.hok.fresh (new c hc)), q⟩
theorem walkN {K : PySem.W.Frag} {ts : List Addr} {xss : List (List V)} {n : Nat} (hl : ∀ xs ∈ xss, xs.length = n) : Walk (ItN K ts) n (fun H => RowsAt K H ts xss) (fun i H v H' => ∃ T, v = .ref T ∧ H T = none ∧ H' = upd H T (.tup (col xss i))) := by
  refine ⟨fun i _ hi q => ⟨xss, q, fun xs hx => by rw [hl xs hx]; exact hi⟩, fun _ q => ⟨xss, q, hl⟩, ?_⟩
  rintro i H v H' _ q ⟨T, h1, h2, ys, h3, h4⟩
  exact ⟨T, h1, h2, by rw [h3, h4 xss q]⟩
theorem PE.or {X : Cx} {e : Expr} {t u : TE} (h1 : PE X e t) (h2 : PE X e u) : PE X e (fun σ H Q => t σ H Q ∨ u σ H Q) := ⟨fun pins s σ H Q I h => h.elim (h1.run pins s σ H Q I) (h2.run pins s σ H Q I)⟩
/-! ### t * 1, t * k -/
theorem tuple_mul1 (l : Addr) (items : Array Value) (n : Nat) (dd : Option Addr) (sl : Array (Option Value)) (u : Tok) :
    Meets (Builtin.«tuple.__mul__» ⟨[.ref l, .int 1 u], []⟩) (fun _ R s => s.heap.get? l = some { cls := .type "tuple", dict := dd, data := .seq items n, slots := sl } ∧ R (.ok (.ret (Value.ref l))) s) :=
  .of_wp fun prog w A R s h => by
    obtain ⟨hp, g, d, tk, os⟩ := s
    obtain ⟨hl, h⟩ := h
    have f1 := AutoSeq1.idx_int
    wp_walk using wpAny_loadPart' hl
    exact ⟨_, rfl, h⟩
def rRepT1 (K : PySem.W.Frag) : R2 := fun x y H Q => ∃ l xs, x = .ref l ∧ y = .int 1 ∧ SqT K H l xs ∧ Q (.ref l) H
theorem op_repT1 {X : Cx} : OpR X (binaryOp .Mult) (rRepT1 X.K) := by
  intro pins s σ H x y v u Q I rx ry h
  obtain ⟨l, xs, rfl, rfl, hT, q⟩ := h
  cases rx
  obtain ⟨t, rfl⟩ := ry
  obtain ⟨its, r, ⟨⟨cls, dd, data, sl⟩, ho, hc, n, hd⟩, hs⟩ := I.tuple hT
  simp only at hc hd
  subst hc hd
  refine wpAny_binaryOp_repeat_ref (T := "tuple") (U := "int") (by decide) ⟨_, ho, rfl⟩ (fun s' => typeIs_int s' 1 t) noFill_tuple_mul F.fills_int_mul F.slot_int_rmul repeat_tuple F.slot_int_index.lookup
    (call_meets F.slot_int_rmul (typeIs_int s 1 t) F.entry_int_rmul (F.args_int_rmul_2 _ _) (int_rmul_tuple 1 t l its.toArray n dd sl) ⟨ho, rfl, ⟨_, ho, rfl⟩, call_meets F.slot_tuple_mul ⟨_, ho, rfl⟩ F.entry_tuple_mul (F.args_tuple_mul_2 _ _) (tuple_mul1 l its.toArray n dd sl t) ⟨ho, ?_⟩⟩)
  exact ⟨.ref l, H, I, rfl, q⟩
theorem kIxT {X : Cx} {K : PySem.W.Frag} (h : X.K = K) : IxR X (rIxT K) := by
  subst h
  exact ix_tup
end Sw

set_option maxHeartbeats 4000000
namespace Sw
open PySem PySem.Spec PyProof.Rows L2
/-! ### enumerate(tuple) -/
def enO (it : Addr) : Obj := { cls := .type "enumerate", data := .fields #[.none, .bool false, .ref it, rawInt 0, .none, .none] }
theorem new_enum {v : Value} {o : Obj} {G : Heap → Prop} (B : Begins v o G) :
    Meets (Builtin.«enumerate.__new__» ⟨[.type "enumerate", v], []⟩) fun _ R s => G s.heap ∧
      R (.ok (.ret (.ref (s.heap.push o).objs.size))) { s with heap := (s.heap.push o).push (enO s.heap.objs.size) } :=
  .of_wp fun prog w A R s hs => by
    obtain ⟨hp, gl, dd, tk, oo⟩ := s
    obtain ⟨g1, hR⟩ := hs
    have sub := sub_enumerate
    have itr : ∀ {A2 : Around} {E2 : Value → Shared → Prop} {Q2 : Value → Shared → Prop}, Q2 (.ref hp.objs.size) ⟨hp.push o, gl, dd, tk, oo⟩ → wpAny (model prog w) A2 (pyIter v) Q2 E2 ⟨hp, gl, dd, tk, oo⟩ :=
      fun z => B.iter prog w _ _ ⟨hp, gl, dd, tk, oo⟩ _ g1 z
    wp_walk using itr
    refine wpAny_stack_any fun stk => wpAny_pure ?_
    split
    · rename_i cc _ _ _ _ _
      cases (cc == Value.type "enumerate")
      · wp_walk using itr
        exact ⟨_, rfl, hR⟩
      · wp_walk using itr
        exact ⟨_, rfl, hR⟩
    · wp_walk using itr
      exact ⟨_, rfl, hR⟩
theorem call_enumT {prog : Program} {w : World} {A : Around} {E : Value → Shared → Prop} {s : Shared} {a : Addr} {us : Array Value} {Q : Value → Shared → Prop} (hT : s.heap.IsTuple a us)
    (q : ∀ h2, IsEnum h2 (s.heap.objs.size + 1) s.heap.objs.size 0 .none → h2.IsTupleIter s.heap.objs.size a 0 → h2.objs.size = s.heap.objs.size + 2 → (∀ c o, s.heap.get? c = some o → h2.get? c = some o) → Q (.ref (s.heap.objs.size + 1)) { s with heap := h2 }) :
    wpAny (model prog w) A (call (.type "enumerate") [.ref a]) Q E s := by
  have B := begins_tuple a us
  refine callType_new F.called_enumerate (by decide) (F.typeCall_enumerate_1 _) (F.newCall_enumerate_1 _) (fun ob => F.args_object_init_2 ob _) F.entry_enumerate_new (new_enum B) ⟨hT, ?_⟩
  have sz := Heap.size_push s.heap { cls := .type "tuple_iterator", data := .fields #[.ref a, .int 0 0] }
  show _ ∧ _
  rw [sz]
  have en := Heap.get?_push_size (s.heap.push { cls := .type "tuple_iterator", data := .fields #[.ref a, .int 0 0] }) (o := enO s.heap.objs.size) rfl
  rw [sz] at en
  exact ⟨⟨_, en, rfl⟩, q _ en ⟨_, Heap.get?_push_of_some _ (Heap.get?_push_size _ rfl), rfl, rfl⟩ (by rw [Heap.size_push, sz]) fun c o e => Heap.get?_push_of_some _ (Heap.get?_push_of_some _ e)⟩
def ItET (K : PySem.W.Frag) (a : Addr) : It :=
  ⟨fun i H => ∃ (xs : List V) (x : V), SqT K H a xs ∧ xs[i]? = some x,
   fun i H v H' => ∃ t x, v = .ref t ∧ H t = none ∧ H' = upd H t (.tup [.int (i : Nat), x]) ∧ ∀ xs, SqT K H a xs → xs[i]? = some x,
   fun i H => ∃ xs : List V, SqT K H a xs ∧ xs.length = i⟩
theorem turn_enumT {P : Program} {w : World} {K : PySem.W.Frag} {elts : List Expr} {kk : Nat} {tpos : Pos} (a e it : Addr) :
    Turn P w K (.Tuple elts kk tpos) (ItET K a) [e, it] e fun i h => (∃ old, IsEnum h e it (i : Nat) old) ∧ h.IsTupleIter it a i ∧ e ≠ it ∧ a ≠ it ∧ e ≠ a where
  mem := List.mem_cons_self ..
  obj := fun i h ⟨⟨old, he⟩, ⟨o, ho, _, hd⟩, _⟩ c hc => by
    rcases (by simpa using hc : c = e ∨ c = it) with rfl | rfl
    · exact ⟨_, he, fun v z => nomatch z⟩
    · exact ⟨o, ho, fun v z => by rw [hd] at z; cases z⟩
  keep := fun i h h2 ⟨⟨old, he⟩, hi, n1, n2, n3⟩ k => ⟨⟨old, k e (by simp) _ he⟩, Heap.IsTupleIter.at hi fun o z => k it (by simp) o z, n1, n2, n3⟩
  item := by
    rintro X rfl rfl rfl calm i pins s σ H E I hf ⟨⟨old, he⟩, hit, n1, n2, n3⟩ ⟨xs, x, hq, hx⟩
    obtain ⟨its, rv, tp, hz⟩ := I.tuple hq
    have D := Draws.tuple (prog := X.prog) (w := X.w) (A := X.A.in1) (I.ok.hd calm) it a n2 its.toArray
    have li : i < its.toArray.size := by
      have l1 := (List.getElem?_eq_some_iff.mp hx).1
      have l2 := rv.length
      simp
      omega
    obtain ⟨u, hu, ru⟩ := rv.get hx
    have le : e < s.heap.objs.size := Heap.lt_size he
    have lit : it < s.heap.objs.size := by
      obtain ⟨_, z, _⟩ := hit
      exact Heap.lt_size z
    refine wpAny_pyNext_enum_itemC D he ⟨hit, tp⟩ li n1 (by simp [n1, n3]) fun y h2 tk hy ho st2 hT hsz hk => ⟨_, rfl, ?_⟩
    obtain rfl : y = u := by
      have hy : its.toArray[i]? = some y := hy
      rw [List.getElem?_toArray, hu] at hy
      exact (Option.some.inj hy).symm
    refine wpAny_letOwnedTupleGo_enum (s := { s with heap := h2, toks := tk + 1 }) ho fun h3 he3 sb => ?_
    have hT3 := (sb.2 _ (Nat.ne_of_gt le)).trans hT
    have ok : ObjOk X.prog X.w (upd H s.heap.objs.size (.tup [.int (i : Nat), x])) h3 s.heap.objs.size (.tup [.int (i : Nat), x]) :=
      ⟨by show 2 ≤ sizeLine; decide, [.int i tk, y], .cons ⟨_, rfl⟩ (.cons ru .nil), ⟨_, hT3, rfl, _, rfl⟩⟩
    have I3 : Inv X pins σ (upd H s.heap.objs.size (.tup [.int (i : Nat), x])) { s with heap := h3, toks := tk + 1 } :=
      I.turnedNew (ch := [e, it]) (fun c o hc z => (sb.2 c fun k => hc (by simp [k])).trans (hk c o (fun k => hc (by simp [k])) (fun k => hc (by simp [k])) z)) hf (Nat.le_refl _) ok
    have st3 : h3.IsTupleIter it a (i + 1) := Heap.IsTupleIter.at st2.1 fun o z => (sb.2 it n1.symm).trans z
    refine ⟨.ref s.heap.objs.size, _, I3, rfl, ⟨_, x, rfl, I.hok.fresh (Nat.le_refl _), rfl, fun ys hy => by rw [I.tuple_inj hy hq]; exact hx⟩, ⟨⟨y, ?_⟩, st3, n1, n2, n3⟩, fun c hc => ?_⟩
    · rw [show ((i + 1 : Nat) : Int) = (i : Int) + 1 by omega]
      exact he3
    · have lc : c < s.heap.objs.size := by
        rcases (by simpa using hc : c = e ∨ c = it) with rfl | rfl
        · exact le
        · exact lit
      rw [upd_ne (Nat.ne_of_lt lc)]
      exact (hf c hc).1
  done := by
    rintro X rfl rfl rfl calm i pins s σ H E I hf ⟨⟨old, he⟩, hit, n1, n2, n3⟩ ⟨xs, hq, hx⟩
    obtain ⟨its, rv, tp, hz⟩ := I.tuple hq
    obtain ⟨f0, f1, f2, f3, f4, f5⟩ := hf it (by simp)
    have D := Draws.tuple (prog := X.prog) (w := X.w) (A := X.A.in1) (I.ok.hd calm) it a n2 its.toArray
    have li : i = its.toArray.size := by
      have l2 := rv.length
      simp
      omega
    exact wpAny_pyNext_enum_endD D he ⟨li ▸ hit, tp⟩ fun h2 eb => ⟨rfl, I.turned (t' := s.toks) (fun c o hc z => eb c o hc z) f0 f1 f3 f4 f5⟩
  self := fun A i s Q E ⟨⟨_, he⟩, _⟩ q => wpAny_pyIter_enum he q
def iEnumT (K : PySem.W.Frag) (ta : TA) : TI := fun σ H R => ta σ H fun vs H1 => ∃ a xs, vs = [.ref a] ∧ SqT K H1 a xs ∧ R (ItET K a) H1
theorem pi_enumT {X : Cx} {e : Expr} {ta : TA} {p pos tpos : Pos} {elts : List Expr} {kk : Nat} (hg : Gl X "enumerate") (hm : X.mg "enumerate" = none) (ha : PA X [e] ta) (hs : starEach [e] X.env = [(false, eval e X.env)] := by rfl) :
    PI X (.Tuple elts kk tpos) (.Call (.Name "enumerate" p) [e] [] pos) (iEnumT X.K ta) := by
  refine ⟨fun pins s σ H R I h => Call_ (ld_blt I hg hm boot_enumerate (PyProof.Rows.callWith_type1 (thn (ha.run pos pins s σ H _ I h) fun us s1 ⟨vs, H1, I1, r1, q1⟩ => ?_) hs rfl))⟩
  obtain ⟨a, xs, rfl, hq, q⟩ := q1
  cases r1 with
  | cons r rr =>
    cases rr
    cases r
    obtain ⟨its, rv, tp, hz⟩ := I1.tuple hq
    have la : a < s1.heap.objs.size := by
      obtain ⟨_, z, _⟩ := tp
      exact Heap.lt_size z
    refine call_enumT tp fun h2 he hit hsz hk => wpAny_pyIter_enum he ?_
    refine ⟨s1.heap.objs.size + 1, [s1.heap.objs.size + 1, s1.heap.objs.size], _, _, H1, rfl, I1.kept (t' := s1.toks) hk, turn_enumT a (s1.heap.objs.size + 1) s1.heap.objs.size, ⟨⟨.none, he⟩, hit, Nat.succ_ne_self _, Nat.ne_of_lt la, (Nat.ne_of_lt (Nat.lt_succ_of_lt la)).symm⟩, fun c hc => ?_, q⟩
    have lc : s1.heap.objs.size ≤ c := by
      rcases (by simpa using hc : c = s1.heap.objs.size + 1 ∨ c = s1.heap.objs.size) with rfl | rfl
      · exact Nat.le_succ _
      · exact Nat.le_refl _
    exact I1.fpOk lc (I1.hok.fresh lc)
theorem walk_enumT {K : PySem.W.Frag} {a : Addr} {xs : List V} : Walk (ItET K a) xs.length (fun H => SqT K H a xs) (YPair (fun i => some (.int (i : Nat))) fun i => xs[i]?) :=
  ⟨fun i _ hi z => ⟨xs, xs[i], z, by simp [hi]⟩, fun _ z => ⟨xs, z, rfl⟩, fun i H v H2 _ z ⟨t, x, h1, h2, h3, h4⟩ => ⟨t, .int (i : Nat), x, h1, h2, h3, rfl, h4 xs z⟩⟩
end Sw

set_option maxHeartbeats 2000000
namespace Sw
open PySem PySem.Spec PyProof.Rows L2
def top (i : Nat) : Stmt := PySem.Challenge.pw_swayhalls_k03_standings_and_pasts.main.body.getD i (.Pass ⟨0, 0, 0, 0⟩)
def retOf (s : Stmt) : Expr := match defBody s with
  | (.Return (some e) _) :: _ => e
  | _ => .Constant .none 0 ⟨0, 0, 0, 0⟩
def lcScope : Expr → Scope
  | .ListComp _ _ sc _ => sc
  | _ => { kind := .function, names := [], isGenerator := false, isCoroutine := false }
abbrev s_is_number : Stmt := top 5
abbrev n_is_number : List Str := ["thing"]
abbrev p_is_number : List Str := ["thing"]
theorem sc_is_number : FnScope n_is_number p_is_number (defScope s_is_number) := ⟨rfl, rfl, rfl, by decide +kernel, rfl, by decide +kernel, by decide +kernel⟩
abbrev s_are_numbers : Stmt := top 6
abbrev n_are_numbers : List Str := ["thing", "one"]
abbrev p_are_numbers : List Str := ["thing"]
theorem sc_are_numbers : FnScope n_are_numbers p_are_numbers (defScope s_are_numbers) := ⟨rfl, rfl, rfl, by decide +kernel, rfl, by decide +kernel, by decide +kernel⟩
abbrev s_are_rows : Stmt := top 7
abbrev n_are_rows : List Str := ["thing", "row"]
abbrev p_are_rows : List Str := ["thing"]
theorem sc_are_rows : FnScope n_are_rows p_are_rows (defScope s_are_rows) := ⟨rfl, rfl, rfl, by decide +kernel, rfl, by decide +kernel, by decide +kernel⟩
abbrev s_does_rise : Stmt := top 8
abbrev n_does_rise : List Str := ["numbers", "low", "high"]
abbrev p_does_rise : List Str := ["numbers"]
theorem sc_does_rise : FnScope n_does_rise p_does_rise (defScope s_does_rise) := ⟨rfl, rfl, rfl, by decide +kernel, rfl, by decide +kernel, by decide +kernel⟩
abbrev s_are_strings : Stmt := top 10
abbrev n_are_strings : List Str := ["thing", "row"]
abbrev p_are_strings : List Str := ["thing"]
theorem sc_are_strings : FnScope n_are_strings p_are_strings (defScope s_are_strings) := ⟨rfl, rfl, rfl, by decide +kernel, rfl, by decide +kernel, by decide +kernel⟩
abbrev s_is_ladder : Stmt := top 11
abbrev n_is_ladder : List Str := ["numbers"]
abbrev p_is_ladder : List Str := ["numbers"]
theorem sc_is_ladder : FnScope n_is_ladder p_is_ladder (defScope s_is_ladder) := ⟨rfl, rfl, rfl, by decide +kernel, rfl, by decide +kernel, by decide +kernel⟩
abbrev s_are_steps : Stmt := top 12
abbrev n_are_steps : List Str := ["thing", "persons", "row"]
abbrev p_are_steps : List Str := ["thing", "persons"]
theorem sc_are_steps : FnScope n_are_steps p_are_steps (defScope s_are_steps) := ⟨rfl, rfl, rfl, by decide +kernel, rfl, by decide +kernel, by decide +kernel⟩
abbrev s_is_memory : Stmt := top 13
abbrev n_is_memory : List Str := ["thing"]
abbrev p_is_memory : List Str := ["thing"]
theorem sc_is_memory : FnScope n_is_memory p_is_memory (defScope s_is_memory) := ⟨rfl, rfl, rfl, by decide +kernel, rfl, by decide +kernel, by decide +kernel⟩
abbrev s_as_tuples : Stmt := top 14
abbrev n_as_tuples : List Str := ["rows", "row"]
abbrev p_as_tuples : List Str := ["rows"]
theorem sc_as_tuples : FnScope n_as_tuples p_as_tuples (defScope s_as_tuples) := ⟨rfl, rfl, rfl, by decide +kernel, rfl, by decide +kernel, by decide +kernel⟩
abbrev s_Hall___init__ : Stmt := inClass (top 15) 0
abbrev n_Hall___init__ : List Str := ["self", "strings", "steps", "memory"]
abbrev p_Hall___init__ : List Str := ["self", "strings", "steps", "memory"]
theorem sc_Hall___init__ : FnScope n_Hall___init__ p_Hall___init__ (defScope s_Hall___init__) := ⟨rfl, rfl, rfl, by decide +kernel, rfl, by decide +kernel, by decide +kernel⟩
abbrev s_Hall_memory : Stmt := inClass (top 15) 3
abbrev n_Hall_memory : List Str := ["self"]
abbrev p_Hall_memory : List Str := ["self"]
theorem sc_Hall_memory : FnScope n_Hall_memory p_Hall_memory (defScope s_Hall_memory) := ⟨rfl, rfl, rfl, by decide +kernel, rfl, by decide +kernel, by decide +kernel⟩
abbrev s_Hall_tops : Stmt := inClass (top 15) 4
abbrev n_Hall_tops : List Str := ["self", "row"]
abbrev p_Hall_tops : List Str := ["self"]
theorem sc_Hall_tops : FnScope n_Hall_tops p_Hall_tops (defScope s_Hall_tops) := ⟨rfl, rfl, rfl, by decide +kernel, rfl, by decide +kernel, by decide +kernel⟩
abbrev s_Hall___len__ : Stmt := inClass (top 15) 6
abbrev n_Hall___len__ : List Str := ["self"]
abbrev p_Hall___len__ : List Str := ["self"]
theorem sc_Hall___len__ : FnScope n_Hall___len__ p_Hall___len__ (defScope s_Hall___len__) := ⟨rfl, rfl, rfl, by decide +kernel, rfl, by decide +kernel, by decide +kernel⟩
abbrev s_is_posture : Stmt := top 16
abbrev n_is_posture : List Str := ["hall", "person", "thing"]
abbrev p_is_posture : List Str := ["hall", "person", "thing"]
theorem sc_is_posture : FnScope n_is_posture p_is_posture (defScope s_is_posture) := ⟨rfl, rfl, rfl, by decide +kernel, rfl, by decide +kernel, by decide +kernel⟩
abbrev s_is_standing : Stmt := top 17
abbrev n_is_standing : List Str := ["hall", "thing", "person", "one"]
abbrev p_is_standing : List Str := ["hall", "thing"]
theorem sc_is_standing : FnScope n_is_standing p_is_standing (defScope s_is_standing) := ⟨rfl, rfl, rfl, by decide +kernel, rfl, by decide +kernel, by decide +kernel⟩
abbrev s_is_past : Stmt := top 18
abbrev n_is_past : List Str := ["hall", "thing", "one"]
abbrev p_is_past : List Str := ["hall", "thing"]
theorem sc_is_past : FnScope n_is_past p_is_past (defScope s_is_past) := ⟨rfl, rfl, rfl, by decide +kernel, rfl, by decide +kernel, by decide +kernel⟩
abbrev s__law_box : Stmt := top 20
abbrev n__law_box : List Str := ["_law_script", "_law_k", "_law_cell"]
abbrev p__law_box : List Str := ["_law_script", "_law_k"]
theorem sc__law_box : FnScope n__law_box p__law_box (defScope s__law_box) := ⟨rfl, rfl, rfl, by decide +kernel, rfl, by decide +kernel, by decide +kernel⟩
abbrev s__law_take : Stmt := top 21
abbrev n__law_take : List Str := ["_law_box_here", "_law_below", "_law_once", "_law_found"]
abbrev p__law_take : List Str := ["_law_box_here", "_law_below"]
theorem sc__law_take : FnScope n__law_take p__law_take (defScope s__law_take) := ⟨rfl, rfl, rfl, by decide +kernel, rfl, by decide +kernel, by decide +kernel⟩
abbrev s__law_pick : Stmt := top 22
abbrev n__law_pick : List Str := ["_law_box_here", "_law_some"]
abbrev p__law_pick : List Str := ["_law_box_here", "_law_some"]
theorem sc__law_pick : FnScope n__law_pick p__law_pick (defScope s__law_pick) := ⟨rfl, rfl, rfl, by decide +kernel, rfl, by decide +kernel, by decide +kernel⟩
abbrev s__law_same : Stmt := top 23
abbrev n__law_same : List Str := ["_law_found", "_law_due", "_law_one", "_law_two"]
abbrev p__law_same : List Str := ["_law_found", "_law_due"]
theorem sc__law_same : FnScope n__law_same p__law_same (defScope s__law_same) := ⟨rfl, rfl, rfl, by decide +kernel, rfl, by decide +kernel, by decide +kernel⟩
abbrev s__law_number : Stmt := top 24
abbrev n__law_number : List Str := ["_law_box_here", "_law_widely", "_law_way"]
abbrev p__law_number : List Str := ["_law_box_here", "_law_widely"]
theorem sc__law_number : FnScope n__law_number p__law_number (defScope s__law_number) := ⟨rfl, rfl, rfl, by decide +kernel, rfl, by decide +kernel, by decide +kernel⟩
abbrev s__law_ties : Stmt := top 25
abbrev n__law_ties : List Str := ["_law_box_here", "_law_count", "_law_widely", "_law_one", "_law_other"]
abbrev p__law_ties : List Str := ["_law_box_here", "_law_count", "_law_widely"]
theorem sc__law_ties : FnScope n__law_ties p__law_ties (defScope s__law_ties) := ⟨rfl, rfl, rfl, by decide +kernel, rfl, by decide +kernel, by decide +kernel⟩
abbrev s__law_weights : Stmt := top 26
abbrev n__law_weights : List Str := ["_law_box_here", "_law_beats", "_law_found", "_law_k", "_law_last", "_law_way"]
abbrev p__law_weights : List Str := ["_law_box_here", "_law_beats"]
theorem sc__law_weights : FnScope n__law_weights p__law_weights (defScope s__law_weights) := ⟨rfl, rfl, rfl, by decide +kernel, rfl, by decide +kernel, by decide +kernel⟩
abbrev s__law_rungs : Stmt := top 27
abbrev n__law_rungs : List Str := ["_law_box_here", "_law_ties_here", "_law_weights_here", "_law_found", "_law_row", "_law_room", "_law_some", "_law_k", "_law_tie", "_law_weight"]
abbrev p__law_rungs : List Str := ["_law_box_here", "_law_ties_here", "_law_weights_here"]
theorem sc__law_rungs : FnScope n__law_rungs p__law_rungs (defScope s__law_rungs) := ⟨rfl, rfl, rfl, by decide +kernel, rfl, by decide +kernel, by decide +kernel⟩
abbrev s__law_data : Stmt := top 28
abbrev n__law_data : List Str := ["_law_box_here", "_law_count", "_law_beats", "_law_widely", "_law_ties_here", "_law_weights_here"]
abbrev p__law_data : List Str := ["_law_box_here", "_law_count", "_law_beats", "_law_widely"]
theorem sc__law_data : FnScope n__law_data p__law_data (defScope s__law_data) := ⟨rfl, rfl, rfl, by decide +kernel, rfl, by decide +kernel, by decide +kernel⟩
abbrev s__law_past : Stmt := top 29
abbrev n__law_past : List Str := ["_law_box_here", "_law_rungs_here", "_law_beats", "_law_k", "_law_some"]
abbrev p__law_past : List Str := ["_law_box_here", "_law_rungs_here", "_law_beats"]
theorem sc__law_past : FnScope n__law_past p__law_past (defScope s__law_past) := ⟨rfl, rfl, rfl, by decide +kernel, rfl, by decide +kernel, by decide +kernel⟩
abbrev s__law_odd : Stmt := top 30
abbrev n__law_odd : List Str := ["_law_box_here"]
abbrev p__law_odd : List Str := ["_law_box_here"]
theorem sc__law_odd : FnScope n__law_odd p__law_odd (defScope s__law_odd) := ⟨rfl, rfl, rfl, by decide +kernel, rfl, by decide +kernel, by decide +kernel⟩
abbrev s__law_bent : Stmt := top 31
abbrev n__law_bent : List Str := ["_law_box_here", "_law_odd_here", "_law_way", "_law_some", "_law_at"]
abbrev p__law_bent : List Str := ["_law_box_here", "_law_odd_here"]
theorem sc__law_bent : FnScope n__law_bent p__law_bent (defScope s__law_bent) := ⟨rfl, rfl, rfl, by decide +kernel, rfl, by decide +kernel, by decide +kernel⟩
abbrev s__law_stands : Stmt := top 32
abbrev n__law_stands : List Str := ["_law_rungs_here", "_law_odd_here", "_law_some", "_law_posture"]
abbrev p__law_stands : List Str := ["_law_rungs_here", "_law_odd_here"]
theorem sc__law_stands : FnScope n__law_stands p__law_stands (defScope s__law_stands) := ⟨rfl, rfl, rfl, by decide +kernel, rfl, by decide +kernel, by decide +kernel⟩
abbrev s__law_right : Stmt := top 33
abbrev n__law_right : List Str := ["_law_box_here", "_law_data_here", "_law_things", "_law_turn", "_law_odd_here", "_law_ties_here", "_law_rungs_here", "_law_weights_here", "_law_made", "_law_was", "_law_due", "_law_again", "_law_kept", "_law_told", "_law_one"]
abbrev p__law_right : List Str := ["_law_box_here"]
theorem sc__law_right : FnScope n__law_right p__law_right (defScope s__law_right) := ⟨rfl, rfl, rfl, by decide +kernel, rfl, by decide +kernel, by decide +kernel⟩
abbrev s_law : Stmt := top 34
abbrev n_law : List Str := ["_law_script", "_law_k"]
abbrev p_law : List Str := ["_law_script"]
theorem sc_law : FnScope n_law p_law (defScope s_law) := ⟨rfl, rfl, rfl, by decide +kernel, rfl, by decide +kernel, by decide +kernel⟩
structure Tx (K : PySem.W.Frag) (mg : Str → Option Value) : Type where
  b_abs : mg "abs" = none
  b_all : mg "all" = none
  b_bool : mg "bool" = none
  b_enumerate : mg "enumerate" = none
  b_int : mg "int" = none
  b_isinstance : mg "isinstance" = none
  b_len : mg "len" = none
  b_list : mg "list" = none
  b_min : mg "min" = none
  b_range : mg "range" = none
  b_repr : mg "repr" = none
  b_str : mg "str" = none
  b_sum : mg "sum" = none
  b_tuple : mg "tuple" = none
  b_zip : mg "zip" = none
  t_MOST_STEPS : Tok
  c_MOST_STEPS : mg "MOST_STEPS" = some (.int 4 t_MOST_STEPS)
  t_MOST_WEIGHTS : Tok
  c_MOST_WEIGHTS : mg "MOST_WEIGHTS" = some (.int 5 t_MOST_WEIGHTS)
  g_Hall : mg "Hall" = some (.ref (He.ga K "Hall"))
  cl_Hall : Cls K (He.ga K "Hall")
  mk_Hall : Mk K (He.ga K "Hall") (He.ma K (He.ga K "Hall") "__init__")
  na_Hall_string_rows : NoAttr K (He.ga K "Hall") "string_rows"
  na_Hall_step_rows : NoAttr K (He.ga K "Hall") "step_rows"
  na_Hall_weights : NoAttr K (He.ga K "Hall") "weights"
  fd_is_number : FuncData
  F_is_number : FunD K "is_number" "is_number" (defArgs s_is_number) (defBody s_is_number) (defScope s_is_number) [] [] (He.fAd K ("is_number", none)) fd_is_number
  g_is_number : mg "is_number" = some (.ref (He.fAd K ("is_number", none)))
  bd_is_number : Binds K fd_is_number p_is_number []
  fd_are_numbers : FuncData
  F_are_numbers : FunD K "are_numbers" "are_numbers" (defArgs s_are_numbers) (defBody s_are_numbers) (defScope s_are_numbers) [] [] (He.fAd K ("are_numbers", none)) fd_are_numbers
  g_are_numbers : mg "are_numbers" = some (.ref (He.fAd K ("are_numbers", none)))
  bd_are_numbers : Binds K fd_are_numbers p_are_numbers []
  fd_are_rows : FuncData
  F_are_rows : FunD K "are_rows" "are_rows" (defArgs s_are_rows) (defBody s_are_rows) (defScope s_are_rows) [] [] (He.fAd K ("are_rows", none)) fd_are_rows
  g_are_rows : mg "are_rows" = some (.ref (He.fAd K ("are_rows", none)))
  bd_are_rows : Binds K fd_are_rows p_are_rows []
  fd_does_rise : FuncData
  F_does_rise : FunD K "does_rise" "does_rise" (defArgs s_does_rise) (defBody s_does_rise) (defScope s_does_rise) [] [] (He.fAd K ("does_rise", none)) fd_does_rise
  g_does_rise : mg "does_rise" = some (.ref (He.fAd K ("does_rise", none)))
  bd_does_rise : Binds K fd_does_rise p_does_rise []
  fd_are_strings : FuncData
  F_are_strings : FunD K "are_strings" "are_strings" (defArgs s_are_strings) (defBody s_are_strings) (defScope s_are_strings) [] [] (He.fAd K ("are_strings", none)) fd_are_strings
  g_are_strings : mg "are_strings" = some (.ref (He.fAd K ("are_strings", none)))
  bd_are_strings : Binds K fd_are_strings p_are_strings []
  fd_is_ladder : FuncData
  F_is_ladder : FunD K "is_ladder" "is_ladder" (defArgs s_is_ladder) (defBody s_is_ladder) (defScope s_is_ladder) [] [] (He.fAd K ("is_ladder", none)) fd_is_ladder
  g_is_ladder : mg "is_ladder" = some (.ref (He.fAd K ("is_ladder", none)))
  bd_is_ladder : Binds K fd_is_ladder p_is_ladder []
  fd_are_steps : FuncData
  F_are_steps : FunD K "are_steps" "are_steps" (defArgs s_are_steps) (defBody s_are_steps) (defScope s_are_steps) [] [] (He.fAd K ("are_steps", none)) fd_are_steps
  g_are_steps : mg "are_steps" = some (.ref (He.fAd K ("are_steps", none)))
  bd_are_steps : Binds K fd_are_steps p_are_steps []
  fd_is_memory : FuncData
  F_is_memory : FunD K "is_memory" "is_memory" (defArgs s_is_memory) (defBody s_is_memory) (defScope s_is_memory) [] [] (He.fAd K ("is_memory", none)) fd_is_memory
  g_is_memory : mg "is_memory" = some (.ref (He.fAd K ("is_memory", none)))
  bd_is_memory : Binds K fd_is_memory p_is_memory []
  fd_as_tuples : FuncData
  F_as_tuples : FunD K "as_tuples" "as_tuples" (defArgs s_as_tuples) (defBody s_as_tuples) (defScope s_as_tuples) [] [] (He.fAd K ("as_tuples", none)) fd_as_tuples
  g_as_tuples : mg "as_tuples" = some (.ref (He.fAd K ("as_tuples", none)))
  bd_as_tuples : Binds K fd_as_tuples p_as_tuples []
  fd_Hall___init__ : FuncData
  F_Hall___init__ : FunD K "__init__" "Hall.__init__" (defArgs s_Hall___init__) (defBody s_Hall___init__) (defScope s_Hall___init__) [V.ref (He.dflAt ("Hall", some "__init__") 0 K)] [] (He.fAd K ("Hall", some "__init__")) fd_Hall___init__
  bd_Hall___init__ : Binds K fd_Hall___init__ p_Hall___init__ []
  fd_Hall_memory : FuncData
  F_Hall_memory : FunD K "memory" "Hall.memory" (defArgs s_Hall_memory) (defBody s_Hall_memory) (defScope s_Hall_memory) [] [] (He.fAd K ("Hall", some "memory")) fd_Hall_memory
  m_Hall_memory : Meth K (He.ga K "Hall") "memory" (He.fAd K ("Hall", some "memory"))
  bd_Hall_memory : Binds K fd_Hall_memory p_Hall_memory []
  fd_Hall_tops : FuncData
  F_Hall_tops : FunD K "tops" "Hall.tops" (defArgs s_Hall_tops) (defBody s_Hall_tops) (defScope s_Hall_tops) [] [] (He.fAd K ("Hall", some "tops")) fd_Hall_tops
  m_Hall_tops : Meth K (He.ga K "Hall") "tops" (He.fAd K ("Hall", some "tops"))
  bd_Hall_tops : Binds K fd_Hall_tops p_Hall_tops []
  fd_Hall___len__ : FuncData
  F_Hall___len__ : FunD K "__len__" "Hall.__len__" (defArgs s_Hall___len__) (defBody s_Hall___len__) (defScope s_Hall___len__) [] [] (He.fAd K ("Hall", some "__len__")) fd_Hall___len__
  m_Hall___len__ : Meth K (He.ga K "Hall") "__len__" (He.fAd K ("Hall", some "__len__"))
  bd_Hall___len__ : Binds K fd_Hall___len__ p_Hall___len__ []
  fd_is_posture : FuncData
  F_is_posture : FunD K "is_posture" "is_posture" (defArgs s_is_posture) (defBody s_is_posture) (defScope s_is_posture) [] [] (He.fAd K ("is_posture", none)) fd_is_posture
  g_is_posture : mg "is_posture" = some (.ref (He.fAd K ("is_posture", none)))
  bd_is_posture : Binds K fd_is_posture p_is_posture []
  fd_is_standing : FuncData
  F_is_standing : FunD K "is_standing" "is_standing" (defArgs s_is_standing) (defBody s_is_standing) (defScope s_is_standing) [] [] (He.fAd K ("is_standing", none)) fd_is_standing
  g_is_standing : mg "is_standing" = some (.ref (He.fAd K ("is_standing", none)))
  bd_is_standing : Binds K fd_is_standing p_is_standing []
  kb_is_standing : KBn K fd_is_standing p_is_standing 0 ["thing", "hall"] (fun _ ws => sw2 ws) (fun _ zs => sw2 zs)
  fd_is_past : FuncData
  F_is_past : FunD K "is_past" "is_past" (defArgs s_is_past) (defBody s_is_past) (defScope s_is_past) [] [] (He.fAd K ("is_past", none)) fd_is_past
  g_is_past : mg "is_past" = some (.ref (He.fAd K ("is_past", none)))
  bd_is_past : Binds K fd_is_past p_is_past []
  kb_is_past : KBn K fd_is_past p_is_past 0 ["thing", "hall"] (fun _ ws => sw2 ws) (fun _ zs => sw2 zs)
  fd__law_box : FuncData
  F__law_box : FunD K "_law_box" "_law_box" (defArgs s__law_box) (defBody s__law_box) (defScope s__law_box) [] [] (He.fAd K ("_law_box", none)) fd__law_box
  g__law_box : mg "_law_box" = some (.ref (He.fAd K ("_law_box", none)))
  bd__law_box : Binds K fd__law_box p__law_box []
  fd__law_take : FuncData
  F__law_take : FunD K "_law_take" "_law_take" (defArgs s__law_take) (defBody s__law_take) (defScope s__law_take) [] [] (He.fAd K ("_law_take", none)) fd__law_take
  g__law_take : mg "_law_take" = some (.ref (He.fAd K ("_law_take", none)))
  bd__law_take : Binds K fd__law_take p__law_take []
  fd__law_pick : FuncData
  F__law_pick : FunD K "_law_pick" "_law_pick" (defArgs s__law_pick) (defBody s__law_pick) (defScope s__law_pick) [] [] (He.fAd K ("_law_pick", none)) fd__law_pick
  g__law_pick : mg "_law_pick" = some (.ref (He.fAd K ("_law_pick", none)))
  bd__law_pick : Binds K fd__law_pick p__law_pick []
  fd__law_same : FuncData
  F__law_same : FunD K "_law_same" "_law_same" (defArgs s__law_same) (defBody s__law_same) (defScope s__law_same) [] [] (He.fAd K ("_law_same", none)) fd__law_same
  g__law_same : mg "_law_same" = some (.ref (He.fAd K ("_law_same", none)))
  bd__law_same : Binds K fd__law_same p__law_same []
  fd__law_number : FuncData
  F__law_number : FunD K "_law_number" "_law_number" (defArgs s__law_number) (defBody s__law_number) (defScope s__law_number) [] [] (He.fAd K ("_law_number", none)) fd__law_number
  g__law_number : mg "_law_number" = some (.ref (He.fAd K ("_law_number", none)))
  bd__law_number : Binds K fd__law_number p__law_number []
  fd__law_ties : FuncData
  F__law_ties : FunD K "_law_ties" "_law_ties" (defArgs s__law_ties) (defBody s__law_ties) (defScope s__law_ties) [] [] (He.fAd K ("_law_ties", none)) fd__law_ties
  g__law_ties : mg "_law_ties" = some (.ref (He.fAd K ("_law_ties", none)))
  bd__law_ties : Binds K fd__law_ties p__law_ties []
  fd__law_weights : FuncData
  F__law_weights : FunD K "_law_weights" "_law_weights" (defArgs s__law_weights) (defBody s__law_weights) (defScope s__law_weights) [] [] (He.fAd K ("_law_weights", none)) fd__law_weights
  g__law_weights : mg "_law_weights" = some (.ref (He.fAd K ("_law_weights", none)))
  bd__law_weights : Binds K fd__law_weights p__law_weights []
  fd__law_rungs : FuncData
  F__law_rungs : FunD K "_law_rungs" "_law_rungs" (defArgs s__law_rungs) (defBody s__law_rungs) (defScope s__law_rungs) [] [] (He.fAd K ("_law_rungs", none)) fd__law_rungs
  g__law_rungs : mg "_law_rungs" = some (.ref (He.fAd K ("_law_rungs", none)))
  bd__law_rungs : Binds K fd__law_rungs p__law_rungs []
  fd__law_data : FuncData
  F__law_data : FunD K "_law_data" "_law_data" (defArgs s__law_data) (defBody s__law_data) (defScope s__law_data) [] [] (He.fAd K ("_law_data", none)) fd__law_data
  g__law_data : mg "_law_data" = some (.ref (He.fAd K ("_law_data", none)))
  bd__law_data : Binds K fd__law_data p__law_data []
  fd__law_past : FuncData
  F__law_past : FunD K "_law_past" "_law_past" (defArgs s__law_past) (defBody s__law_past) (defScope s__law_past) [] [] (He.fAd K ("_law_past", none)) fd__law_past
  g__law_past : mg "_law_past" = some (.ref (He.fAd K ("_law_past", none)))
  bd__law_past : Binds K fd__law_past p__law_past []
  fd__law_odd : FuncData
  F__law_odd : FunD K "_law_odd" "_law_odd" (defArgs s__law_odd) (defBody s__law_odd) (defScope s__law_odd) [] [] (He.fAd K ("_law_odd", none)) fd__law_odd
  g__law_odd : mg "_law_odd" = some (.ref (He.fAd K ("_law_odd", none)))
  bd__law_odd : Binds K fd__law_odd p__law_odd []
  fd__law_bent : FuncData
  F__law_bent : FunD K "_law_bent" "_law_bent" (defArgs s__law_bent) (defBody s__law_bent) (defScope s__law_bent) [] [] (He.fAd K ("_law_bent", none)) fd__law_bent
  g__law_bent : mg "_law_bent" = some (.ref (He.fAd K ("_law_bent", none)))
  bd__law_bent : Binds K fd__law_bent p__law_bent []
  fd__law_stands : FuncData
  F__law_stands : FunD K "_law_stands" "_law_stands" (defArgs s__law_stands) (defBody s__law_stands) (defScope s__law_stands) [] [] (He.fAd K ("_law_stands", none)) fd__law_stands
  g__law_stands : mg "_law_stands" = some (.ref (He.fAd K ("_law_stands", none)))
  bd__law_stands : Binds K fd__law_stands p__law_stands []
  fd__law_right : FuncData
  F__law_right : FunD K "_law_right" "_law_right" (defArgs s__law_right) (defBody s__law_right) (defScope s__law_right) [] [] (He.fAd K ("_law_right", none)) fd__law_right
  g__law_right : mg "_law_right" = some (.ref (He.fAd K ("_law_right", none)))
  bd__law_right : Binds K fd__law_right p__law_right []
  fd_law : FuncData
  F_law : FunD K "law" "law" (defArgs s_law) (defBody s_law) (defScope s_law) [] [] (He.fAd K ("law", none)) fd_law
  g_law : mg "law" = some (.ref (He.fAd K ("law", none)))
end Sw

set_option maxHeartbeats 2000000
namespace Sw
open PySem PySem.Spec PyProof.Rows L2
section
variable {P : Program} {w : World} {K : PySem.W.Frag} {mg : Str → Option Value} {base : Heap}
def sp_take : Sp := fun vs H Q _ => ∃ (b : Addr) (m : Int) (n : Nat), vs = [.ref b, .int m] ∧ Bx H b n ∧ 0 < m ∧ m < 1073741824 ∧ n ≤ 1000000 ∧
  ∀ (r : Int) (H' : Hp), 0 ≤ r → r < m → Bx H' b (n + 1) → Kp [b] H H' → Q (.int r) H'
theorem ok_take (T : Tx K mg) : FnOk P w K mg base CX0 1 (He.fAd K ("_law_take", none)) T.fd__law_take p__law_take sp_take := by
  refine T.F__law_take.ok sc__law_take (fun vs H Q E h => ?_) (fun cdv A outer s H vs Q E hr h => ?_)
  · obtain ⟨b, m, n, rfl, _⟩ := h
    rfl
  · obtain ⟨b, m, n, rfl, hB, m0, m1, hn, k⟩ := h
    obtain ⟨x, y, z, hb, hx, hy, hy2, hz, hz2⟩ := hB.ex
    refine ⟨_, PSs.nox (pss_cons (ps_if (pt_cmpR op_gt (pe_ix ix_list (pv 0) pe_int (fun _ _ => rfl)) pe_int (nomark _))
      (pss_cons (ps_set (i := 3) sc__law_take.nd rfl (by first | exact Or.inl rfl | exact Or.inr rfl) (pe_op op_modN (pe_ix ix_list (pv 0) pe_int (fun _ _ => rfl)) (pv 1)))
      (pss_cons (ps_asg (pe_op op_fdivN (pe_ix ix_list (pv 0) pe_int (fun _ _ => rfl)) (pv 1)) (pg_sub (pv 0) pe_int set_list))
      (pss_one (ps_ret (pv 3)))))
      pss_nil)
      (pss_cons (ps_asg (pe_op op_add (pe_ix ix_list (pv 0) pe_int (fun _ _ => rfl)) pe_int) (pg_sub (pv 0) pe_int set_list))
      (pss_cons (ps_set (i := 2) sc__law_take.nd rfl (by first | exact Or.inl rfl | exact Or.inr rfl) (pe_op op_modN (pe_op op_pow (pe_op op_add (pe_ix ix_list (pv 0) pe_int (fun _ _ => rfl)) (pe_op op_mul pe_int (pe_ix ix_list (pv 0) pe_int (fun _ _ => rfl)))) pe_int) pe_int))
      (pss_one (ps_ret (pe_op op_modN (pe_op op_fdivN (pe_op op_modN (pe_op op_add (pe_op op_mul (pv 2) (pe_op op_add (pe_op op_modN (pv 2) pe_int) pe_int)) (pe_op op_mul (pe_ix ix_list (pv 0) pe_int (fun _ _ => rfl)) pe_int)) pe_int) pe_int) (pv 1))))))), ?_⟩
    refine ⟨_, rfl, b, _, _, _, rfl, rfl, SqL.of hb, rfl, _, _, rfl, rfl, _, rfl, ite2 (fun c => ?_) (fun c => ?_)⟩
    · refine ⟨_, rfl, b, _, _, _, rfl, rfl, SqL.of hb, rfl, _, rfl, _, _, rfl, rfl, (Int.ne_of_gt m0), ?_⟩
      refine ⟨_, rfl, b, _, _, _, rfl, rfl, SqL.of hb, rfl, _, rfl, _, _, rfl, rfl, ⟨Int.ne_of_gt m0, by omega⟩, ?_⟩
      refine ⟨_, rfl, b, _, _, _, rfl, rfl, hb, rfl, _, rfl, ?_⟩
      exact k _ _ (Int.fmod_nonneg_of_pos _ m0) (Int.fmod_lt_of_pos _ m0) ⟨_, _, _, upd_same, Int.fdiv_nonneg hx (Int.le_of_lt m0), hy, hy2, hz, by omega⟩ (Kp.rfl'.put (by simp))
    · refine ⟨_, rfl, b, _, _, _, rfl, rfl, SqL.of hb, rfl, _, _, rfl, rfl, _, rfl, b, _, _, _, rfl, rfl, hb, rfl, ?_⟩
      have hb1 : (upd H b (.lst ([V.int x, V.int y, V.int z].set 2 (V.int (z + 1))))) b = some (.lst [V.int x, V.int y, V.int (z + 1)]) := upd_same
      have e1 : (y + 39373 * (z + 1)).natAbs < 2 ^ 64 := by omega
      refine ⟨_, rfl, b, _, _, _, rfl, rfl, SqL.of hb1, rfl, _, rfl, b, _, _, _, rfl, rfl, SqL.of hb1, rfl, _, _, rfl, rfl, .inl ⟨by decide, by decide⟩, _, _, rfl, rfl, _, _, rfl, rfl, ⟨by decide, by decide, e1⟩, _, _, rfl, rfl, (show (2147483647 : Int) ≠ 0 by decide), ?_⟩
      have o0 : 0 ≤ ((y + 39373 * (z + 1)) ^ (5 : Int).toNat).fmod 2147483647 := Int.fmod_nonneg_of_pos _ (by decide)
      have o1 : ((y + 39373 * (z + 1)) ^ (5 : Int).toNat).fmod 2147483647 < 2147483647 := Int.fmod_lt_of_pos _ (by decide)
      refine ⟨_, rfl, _, rfl, _, _, rfl, rfl, (show (40009 : Int) ≠ 0 by decide), _, _, rfl, rfl, _, _, rfl, rfl, .inl ⟨by omega, by omega⟩, ?_⟩
      refine ⟨_, rfl, b, _, _, _, rfl, rfl, SqL.of hb1, rfl, _, _, rfl, rfl, .inr ⟨by decide, by decide⟩, _, _, rfl, rfl, _, _, rfl, rfl, (show (2147483629 : Int) ≠ 0 by decide), _, _, rfl, rfl, ⟨by decide, by decide⟩, _, rfl, _, _, rfl, rfl, (Int.ne_of_gt m0), ?_⟩
      exact k _ _ (Int.fmod_nonneg_of_pos _ m0) (Int.fmod_lt_of_pos _ m0) ⟨_, _, _, hb1, hx, hy, hy2, by omega, by omega⟩ (Kp.rfl'.put (by simp))

end
end Sw

set_option maxHeartbeats 2000000
namespace Sw
open PySem PySem.Spec PyProof.Rows L2
section
variable {P : Program} {w : World} {K : PySem.W.Frag} {mg : Str → Option Value} {base : Heap}
theorem b01lo (c : Prop) [Decidable c] : -(2 ^ 64) < (if c then (1 : Int) else 0) := by split <;> decide
theorem b01hi (c : Prop) [Decidable c] : (if c then (1 : Int) else 0) < 2 ^ 64 := by split <;> decide
def sp_box (K : PySem.W.Frag) : Sp := fun vs H Q _ => ∃ (a : Addr) (ns : List Int) (k : Int), vs = [.ref a, .int k] ∧ SqL K H a (ns.map V.int) ∧ 0 ≤ k ∧ k ≤ 63 ∧
  ∀ (p : Addr) (H' : Hp), H p = none → Bx H' p 0 → Kp [] H H' → Q (.ref p) H'
theorem ok_box (T : Tx K mg) : FnOk P w K mg base CX0 1 (He.fAd K ("_law_box", none)) T.fd__law_box p__law_box (sp_box K) := by
  refine T.F__law_box.ok sc__law_box (fun vs H Q E h => ?_) (fun cdv A outer s H vs Q E hr h => ?_)
  · obtain ⟨b, m, n, rfl, _⟩ := h
    rfl
  · obtain ⟨a, ns, k, rfl, hS, k0, k1, q⟩ := h
    refine ⟨_, PSs.nox (pss_cons (ps_set (i := 2) sc__law_box.nd rfl (by first | exact Or.inl rfl | exact Or.inr rfl) (pe_ifExp (pt_cmpR op_lt (pv 1) (pe_callB call_len (by rfl) T.b_len (by decide +kernel) (pa_cons (pv 0) pa_nil)) (nomark _)) (pe_ix ix_list (pv 0) (pv 1) (fun _ _ => rfl)) pe_int))
      (pss_one (ps_ret (pe_lst (pa_cons (pe_op op_mul (pe_callB call_abs (by rfl) T.b_abs (by decide +kernel) (pa_cons (pv 2) pa_nil)) (pe_callTy call_int1 (by rfl) T.b_int (by decide +kernel) (pa_cons (pe_cmpR op_ge (pe_callB call_abs (by rfl) T.b_abs (by decide +kernel) (pa_cons (pv 2) pa_nil)) (pe_op op_pow pe_int pe_int) (nomark _)) pa_nil))) (pa_cons (pe_op op_add (pe_op op_add (pe_op op_modN (pv 2) pe_int) (pe_op op_mul pe_int (pv 1))) pe_int) (pa_cons pe_int pa_nil))))))), ?_⟩
    have fin : ∀ (c : Int) (p : Addr), H p = none → Q (.ref p) (upd H p (.lst [V.int ((if c < 0 then -c else c) * (if decide ((10 : Int) ^ (18 : Int).toNat ≤ (if c < 0 then -c else c)) = true then 1 else 0)), V.int (c.fmod 2147483629 + 7919 * k + 11), V.int 0])) := fun c p hp => by
      have a0 : 0 ≤ (if c < 0 then -c else c) := by split <;> omega
      have f0 : 0 ≤ c.fmod 2147483629 := Int.fmod_nonneg_of_pos _ (by decide)
      have f1 : c.fmod 2147483629 < 2147483629 := Int.fmod_lt_of_pos _ (by decide)
      refine q p _ hp ⟨_, _, _, upd_same, Int.mul_nonneg a0 (by split <;> omega), by omega, by omega, Int.le_refl 0, Int.le_refl 0⟩ (Kp.rfl'.new hp)
    refine ⟨_, rfl, _, rfl, _, ns.length, rfl, .inl ⟨_, hS, (List.length_map ..).symm⟩, _, _, rfl, rfl, _, rfl, ite2 (fun c => ?_) (fun c => ?_)⟩
    · have lt : k.toNat < ns.length := by
        have := of_decide_eq_true c
        omega
      refine ⟨_, rfl, _, rfl, a, _, _, V.int ns[k.toNat], rfl, rfl, hS, at_of (j := k.toNat) (by omega) (by simp [lt]), ?_⟩
      refine ⟨_, rfl, _, rfl, _, rfl, _, rfl, _, _, rfl, rfl, ⟨by decide, by decide, by decide⟩, _, _, rfl, rfl, .inr ⟨_, rfl, _, _, rfl, rfl, .inr ⟨b01lo _, b01hi _⟩, ?_⟩⟩
      refine ⟨_, rfl, _, _, rfl, rfl, (show (2147483629 : Int) ≠ 0 by decide), _, rfl, _, _, rfl, rfl, .inl ⟨by decide, by decide⟩, _, _, rfl, rfl, _, _, rfl, rfl, (by show 3 ≤ sizeLine; decide), fun p hp => ?_⟩
      exact fin _ p hp
    · refine ⟨_, rfl, _, rfl, _, rfl, _, rfl, _, _, rfl, rfl, ⟨by decide, by decide, by decide⟩, _, _, rfl, rfl, .inr ⟨_, rfl, _, _, rfl, rfl, .inr ⟨b01lo _, b01hi _⟩, ?_⟩⟩
      refine ⟨_, rfl, _, _, rfl, rfl, (show (2147483629 : Int) ≠ 0 by decide), _, rfl, _, _, rfl, rfl, .inl ⟨by decide, by decide⟩, _, _, rfl, rfl, _, _, rfl, rfl, (by show 3 ≤ sizeLine; decide), fun p hp => ?_⟩
      exact fin 0 p hp
def sp_number : Sp := fun vs H Q _ => ∃ (b : Addr) (wd : Bool) (n : Nat), vs = [.ref b, .bl wd] ∧ Bx H b n ∧ n ≤ 900000 ∧
  ∀ (r : Int) (H' : Hp), -99 ≤ r → r ≤ 99 → Bx H' b (n + 2) → Kp [b] H H' → Q (.int r) H'
theorem ok_number (T : Tx K mg) : FnOk P w K mg base CX0 2 (He.fAd K ("_law_number", none)) T.fd__law_number p__law_number sp_number := by
  have G__law_take := ok_take (P := P) (w := w) (base := base) T
  refine T.F__law_number.ok sc__law_number (fun vs H Q E h => ?_) (fun cdv A outer s H vs Q E hr h => ?_)
  · obtain ⟨b, m, n, rfl, _⟩ := h
    rfl
  · obtain ⟨b, wd, n, rfl, hB, hn, q⟩ := h
    refine ⟨_, PSs.nox (pss_cons (ps_set (i := 2) sc__law_number.nd rfl (by first | exact Or.inl rfl | exact Or.inr rfl) (pe_call G__law_take (hr.mono (by first | decide | omega)) rfl T.g__law_take T.F__law_take.kp T.bd__law_take .nil pass0 (pa_cons (pv 0) (pa_cons pe_int pa_nil))))
      (pss_cons (ps_if (PW.pt (pw_and (pt_cmpR op_eq (pv 2) pe_int (nomark _)) (pw_and1 (pt_val (pv 1)))))
      (pss_one (ps_ret (pe_op op_sub (pe_call G__law_take (hr.mono (by first | decide | omega)) rfl T.g__law_take T.F__law_take.kp T.bd__law_take .nil pass0 (pa_cons (pv 0) (pa_cons pe_int pa_nil))) pe_int)))
      pss_nil)
      (pss_one (ps_ret (pe_ifExp (pt_cmpR op_lt (pv 2) pe_int (nomark _)) pe_int (pe_op op_sub (pe_call G__law_take (hr.mono (by first | decide | omega)) rfl T.g__law_take T.F__law_take.kp T.bd__law_take .nil pass0 (pa_cons (pv 0) (pa_cons pe_int pa_nil))) pe_int)))))), ?_⟩
    refine ⟨_, rfl, b, 8, n, rfl, hB, by decide, by decide, by omega, fun r H1 r0 r1 hB1 k1 => ?_⟩
    refine ⟨_, rfl, rfl, _, rfl, ite2 (fun c => ?_) (fun c => ?_)⟩
    · refine ⟨_, rfl, wd, rfl, ?_⟩
      cases wd with
      | true =>
        refine iteT ?_
        refine ⟨_, rfl, b, 199, n + 1, rfl, hB1, by decide, by decide, by omega, fun r2 H2 z0 z1 hB2 k2 => ⟨_, _, rfl, rfl, ?_⟩⟩
        exact q _ H2 (by omega) (by omega) hB2 (k1.trans k2)
      | false =>
        refine iteF ?_
        refine ⟨_, rfl, _, _, rfl, rfl, _, rfl, ite2 (fun c2 => ?_) (fun c2 => ?_)⟩
        · exact q 0 H1 (by decide) (by decide) (hB1.up (by omega)) k1
        · refine ⟨_, rfl, b, 7, n + 1, rfl, hB1, by decide, by decide, by omega, fun r2 H2 z0 z1 hB2 k2 => ⟨_, _, rfl, rfl, ?_⟩⟩
          exact q _ H2 (by omega) (by omega) hB2 (k1.trans k2)
    · refine iteF ?_
      refine ⟨_, rfl, _, _, rfl, rfl, _, rfl, ite2 (fun c2 => ?_) (fun c2 => ?_)⟩
      · exact q 0 H1 (by decide) (by decide) (hB1.up (by omega)) k1
      · refine ⟨_, rfl, b, 7, n + 1, rfl, hB1, by decide, by decide, by omega, fun r2 H2 z0 z1 hB2 k2 => ⟨_, _, rfl, rfl, ?_⟩⟩
        exact q _ H2 (by omega) (by omega) hB2 (k1.trans k2)

end
end Sw

set_option maxHeartbeats 2000000
namespace Sw
open PySem PySem.Spec PyProof.Rows L2
section
variable {P : Program} {w : World} {K : PySem.W.Frag} {mg : Str → Option Value} {base : Heap}
theorem yesT {σ : L2.St} {H : Hp} {A : Hp → Prop} {B : Hp → Prop} (h : A H) : tYes σ H fun b H3 => if b = true then A H3 else B H3 := by
  show if true = true then A H else B H
  exact iteT h
/-! data of whole numbers -/
abbrev dI (ns : List Int) : PyData := .list (ns.map PyData.int)
abbrev dII (rows : List (List Int)) : PyData := .list (rows.map dI)
theorem D.ints {bs : List Addr} {H : Hp} {w k : Nat} {v : V} {ns : List Int} (x : D bs H w k v (dI ns)) : ∃ a, v = .ref a ∧ H a = some (.lst (ns.map V.int)) ∧ a ∉ bs ∧ ns.length ≤ w := by
  cases x with
  | lst h n l t =>
    have e := DA.ints t
    subst e
    exact ⟨_, rfl, h, n, by simpa using l⟩
theorem D.ofInts {bs : List Addr} {H : Hp} {w k : Nat} {a : Addr} {ns : List Int} (h : H a = some (.lst (ns.map V.int))) (n : a ∉ bs) (l : ns.length ≤ w) (hs : ∀ n ∈ ns, n.natAbs < 2 ^ 39 + w) : D bs H w (k + 1) (.ref a) (dI ns) :=
  .lst h n (by simpa using l) (DA.ofInts hs)
theorem small40 {x : Int} {m w : Nat} (h0 : -(m : Int) ≤ x) (h1 : x ≤ m) (hm : m < 2 ^ 39 := by decide) : x.natAbs < 2 ^ 39 + w := by omega
def sp_ties : Sp := fun vs H Q _ => ∃ (b : Addr) (c : Int) (wd : Bool) (n : Nat), vs = [.ref b, .int c, .bl wd] ∧ Bx H b n ∧ n ≤ 800000 ∧ 1 ≤ c ∧ c ≤ 12 ∧
  ∀ (p : Addr) (rows : List (List Int)) (H' : Hp), H p = none → D [b] H' 12 2 (.ref p) (dII rows) → rows.length = c.toNat → (∀ r ∈ rows, r.length = c.toNat ∧ ∀ x ∈ r, -99 ≤ x ∧ x ≤ 99) → Bx H' b (n + 300) → Kp [b] H H' → Q (.ref p) H'
theorem ok_ties (T : Tx K mg) : FnOk P w K mg base CX0 3 (He.fAd K ("_law_ties", none)) T.fd__law_ties p__law_ties sp_ties := by
  have G__law_number := ok_number (P := P) (w := w) (base := base) T
  refine T.F__law_ties.ok sc__law_ties (fun vs H Q E h => ?_) (fun cdv A outer s H vs Q E hr h => ?_)
  · obtain ⟨b, m, wd, n, rfl, _⟩ := h
    rfl
  · obtain ⟨b, c, wd, n, rfl, hB, hn, c1, c2, q⟩ := h
    refine ⟨_, PSs.nox (pss_one (ps_ret (pe_lc (own := [("_law_one", 3)]) (g := (gName 3)) (tt := tYes) rfl sc__law_ties.nd (pi_range1 (by rfl) T.b_range (pa_cons (pv 1) pa_nil)) (blkOk_by (own := [("_law_one", 3)]) (N := n__law_ties) (sc := defScope s__law_ties) (by decide +kernel)) (fun _ _ _ _ _ => (pg_name (i := 3) sc__law_ties.nd rfl (by first | exact Or.inl rfl | exact Or.inr rfl))) (fun _ _ _ _ _ => pts_nil) (fun _ _ _ _ _ => (pe_lc (own := [("_law_other", 4)]) (g := (gName 4)) (tt := tYes) rfl sc__law_ties.nd (pi_range1 (by rfl) T.b_range (pa_cons (pv 1) pa_nil)) (blkOk_by (own := [("_law_other", 4)]) (N := n__law_ties) (sc := relabel (lcScope (retOf s__law_ties)) (envOfC "" (defScope s__law_ties) 0 0 .none)) (by decide +kernel)) (fun _ _ _ _ _ => (pg_name (i := 4) sc__law_ties.nd rfl (by first | exact Or.inl rfl | exact Or.inr rfl))) (fun _ _ _ _ _ => pts_nil) (fun _ _ _ _ _ => (pe_call G__law_number (hr.mono (by first | decide | omega)) rfl T.g__law_number T.F__law_number.kp T.bd__law_number .nil pass0 (pa_cons (pv 0) (pa_cons (pv 2) pa_nil))))))))), ?_⟩
    refine ⟨_, rfl, c, rfl, by omega, by omega, fun p hp => lc_range (n := c.toNat) (fun i H2 => ∃ (xs : List V) (rows : List (List Int)), H2 p = some (.lst xs) ∧ DA [p, b] H2 12 1 xs (rows.map dI) ∧ rows.length = i ∧ (∀ r ∈ rows, r.length = c.toNat ∧ ∀ x ∈ r, -99 ≤ x ∧ x ≤ 99) ∧ Bx H2 b (n + 24 * i) ∧ Kp [b] H H2) ?_ ?_ ?_⟩
    · have nb : b ≠ p := by
        obtain ⟨_, _, _, e, _⟩ := hB.ex
        exact ne_of_none e hp
      exact ⟨[], [], upd_same, .nil, rfl, (fun r hr => nomatch hr), (hB.keep (Kp.rfl'.new (bs := []) hp) (by simp)).up (by omega), Kp.rfl'.new hp⟩
    · rintro i H2 hi ⟨xs, rows, hD, hX, hl, hg, hB2, k2⟩
      obtain ⟨_, _, _, eb, _⟩ := hB2.ex
      refine ⟨rfl, yesT ?_⟩
      refine ⟨_, rfl, c, rfl, by omega, by omega, fun p2 hp2 => lc_range (n := c.toNat) (fun j H3 => ∃ (r : List Int), H3 p2 = some (.lst (r.map V.int)) ∧ r.length = j ∧ (∀ x ∈ r, -99 ≤ x ∧ x ≤ 99) ∧ Bx H3 b (n + 24 * i + 2 * j) ∧ Kp [b] H2 H3) ?_ ?_ ?_⟩
      · exact ⟨[], upd_same, rfl, (fun r hr => nomatch hr), hB2.keep (Kp.rfl'.new (bs := []) hp2) (by simp), Kp.rfl'.new hp2⟩
      · rintro j H3 hj ⟨r, hr2, hlr, hgr, hB3, k3⟩
        obtain ⟨_, _, _, eb3, _⟩ := hB3.ex
        have nb : p2 ≠ b := fun z => by
          rw [z, eb] at hp2
          cases hp2
        refine ⟨rfl, yesT ?_⟩
        refine ⟨_, rfl, _, rfl, b, wd, _, rfl, hB3, by omega, fun x H4 x0 x1 hB4 k4 => ⟨_, k4 _ _ hr2 (by simpa using nb), ?_, ?_⟩⟩
        · rw [List.length_map]
          exact small1000 (by omega)
        · refine ⟨r ++ [x], by rw [upd_same]; simp, by simp [hlr], ?_, ?_, ?_⟩
          · intro y hy
            rcases List.mem_append.mp hy with z | z
            · exact hgr y z
            · rw [List.mem_singleton.mp z]
              exact ⟨x0, x1⟩
          · refine (hB4.keep (Kp.rfl'.put (bs := [p2]) (by simp)) (by simpa using nb.symm)).up (by omega)
          · exact (k3.trans k4).own hp2
      · rintro H3 ⟨r, hr2, hlr, hgr, hB3, k3⟩
        have np : p2 ≠ p := (ne_of_none hD hp2).symm
        have nb : p2 ≠ b := (ne_of_none eb hp2).symm
        have npb : p ≠ b := fun z => by
          rw [z] at hp
          obtain ⟨_, _, _, e, _⟩ := hB.ex
          rw [hp] at e
          cases e
        refine ⟨xs, k3 _ _ hD (by simpa using npb), ?_, xs ++ [.ref p2], rows ++ [r], upd_same, ?_, by simp [hl], ?_, ?_, ?_⟩
        · rw [DA.len hX, List.length_map]
          exact small1000 (by omega)
        · rw [List.map_append]
          have k5 : Kp [p, b] H3 (upd H3 p (.lst (xs ++ [.ref p2]))) := Kp.rfl'.put (by simp)
          refine ((hX.keep (k3.sub (by simp))).keep k5).app (DA.one ?_)
          exact (D.ofInts (w := 12) (k := 0) hr2 (by simp [np, nb]) (by omega) fun x hx => small40 (m := 99) (hgr x hx).1 (hgr x hx).2).keep k5
        · intro y hy
          rcases List.mem_append.mp hy with z | z
          · exact hg y z
          · rw [List.mem_singleton.mp z]
            exact ⟨hlr, hgr⟩
        · refine (hB3.keep (Kp.rfl'.put (bs := [p]) (by simp)) (by simpa using npb.symm)).up (by omega)
        · exact (k2.trans k3).own hp
    · rintro H2 ⟨xs, rows, hD, hX, hl, hg, hB2, k2⟩
      have npb : p ≠ b := fun z => by
        rw [z] at hp
        obtain ⟨_, _, _, e, _⟩ := hB.ex
        rw [hp] at e
        cases e
      exact q p rows H2 hp (.lst hD (by simpa using npb) (by rw [DA.len hX, List.length_map]; omega) (hX.less (by simp))) hl hg (hB2.up (by omega)) k2

end
end Sw

set_option maxHeartbeats 2000000
namespace Sw
open PySem PySem.Spec PyProof.Rows L2
section
variable {P : Program} {w : World} {K : PySem.W.Frag} {mg : Str → Option Value} {base : Heap}
theorem atI_end {ns : List Int} (h : ns ≠ []) : atI (ns.map V.int) (-1) = some (.int (ns.getLast h)) := by
  have e : ns.map V.int = (ns.dropLast).map V.int ++ [.int (ns.getLast h)] := by
    rw [← List.map_singleton, ← List.map_append, List.dropLast_concat_getLast h]
  rw [e]
  exact atI_last _ _
theorem cut_end (xs : List V) : cutV xs none (some (-1)) = xs.take (xs.length - 1) := by
  have e : HT.sIx xs.length xs.length (some (-1)) = xs.length - 1 := by
    unfold HT.sIx
    simp only []
    rw [if_pos (by decide)]
    omega
  unfold cutV
  rw [HT.sIx_none, e, List.drop_zero, Nat.sub_zero]
theorem ints_snoc (ws : List Int) (x : Int) : ws.map V.int ++ [V.int x] = (ws ++ [x]).map V.int := by simp
def sp_weights : Sp := fun vs H Q _ => ∃ (b : Addr) (c : Int) (n : Nat), vs = [.ref b, .int c] ∧ Bx H b n ∧ n ≤ 800000 ∧ 1 ≤ c ∧ c ≤ 5 ∧
  ∀ (p : Addr) (ws : List Int) (H' : Hp), H p = none → H' p = some (.lst (ws.map V.int)) → ws.length = c.toNat → (∀ x ∈ ws, -9 ≤ x ∧ x ≤ 9) → (∀ h : ws ≠ [], ws.getLast h ≠ 0) → Bx H' b (n + 20) → Kp [b] H H' → Q (.ref p) H'
theorem ok_weights (T : Tx K mg) : FnOk P w K mg base CX0 2 (He.fAd K ("_law_weights", none)) T.fd__law_weights p__law_weights sp_weights := by
  have G__law_take := ok_take (P := P) (w := w) (base := base) T
  refine T.F__law_weights.ok sc__law_weights (fun vs H Q E h => ?_) (fun cdv A outer s H vs Q E hr h => ?_)
  · obtain ⟨b, m, n, rfl, _⟩ := h
    rfl
  · obtain ⟨b, c, n, rfl, hB, hn, c1, c2, q⟩ := h
    have eb : ∃ o, H b = some o := by
      obtain ⟨_, _, _, e, _⟩ := hB.ex
      exact ⟨_, e⟩
    obtain ⟨ob, eb⟩ := eb
    refine ⟨_, PSs.nox (pss_cons (ps_set (i := 2) sc__law_weights.nd rfl (by first | exact Or.inl rfl | exact Or.inr rfl) (pe_lst pa_nil))
      (pss_cons (ps_for PassesOwn.never rfl (pi_range1 (by rfl) T.b_range (pa_cons (pv 1) pa_nil)) (pg_name (i := 3) sc__law_weights.nd rfl (by first | exact Or.inl rfl | exact Or.inr rfl))
      (pss_cons (ps_set (i := 5) sc__law_weights.nd rfl (by first | exact Or.inl rfl | exact Or.inr rfl) (pe_call G__law_take (hr.mono (by first | decide | omega)) rfl T.g__law_take T.F__law_take.kp T.bd__law_take .nil pass0 (pa_cons (pv 0) (pa_cons pe_int pa_nil))))
      (pss_one (ps_expr (pe_bm PySem.F.plainAttrs_list PySem.F.slot_list_append PySem.F.type_list_append mt_append (pv 2) (pa_cons (pe_ifExp (pt_cmpR op_eq (pv 5) pe_int (nomark _)) (pe_op op_sub (pe_call G__law_take (hr.mono (by first | decide | omega)) rfl T.g__law_take T.F__law_take.kp T.bd__law_take .nil pass0 (pa_cons (pv 0) (pa_cons pe_int pa_nil))) pe_int) (pe_op op_sub (pe_call G__law_take (hr.mono (by first | decide | omega)) rfl T.g__law_take T.F__law_take.kp T.bd__law_take .nil pass0 (pa_cons (pv 0) (pa_cons pe_int pa_nil))) pe_int)) pa_nil))))))
      (pss_cons (ps_set (i := 4) sc__law_weights.nd rfl (by first | exact Or.inl rfl | exact Or.inr rfl) (pe_ix ix_list (pe_lst (pa_cons pe_int (pa_cons (pe_un un_neg pe_int) (pa_cons pe_int (pa_cons pe_int pa_nil))))) (pe_call G__law_take (hr.mono (by first | decide | omega)) rfl T.g__law_take T.F__law_take.kp T.bd__law_take .nil pass0 (pa_cons (pv 0) (pa_cons pe_int pa_nil))) (fun _ _ => rfl)))
      (pss_one (ps_ret (pe_op op_cat (pe_slice sl_list (pv 2) po_none (po_some (pe_un un_neg pe_int))) (pe_lst (pa_cons (pe_ifExp (pt_cmpR op_ne (pe_ix ix_list (pv 2) (pe_un un_neg pe_int) (fun _ _ => rfl)) pe_int (nomark _)) (pe_ix ix_list (pv 2) (pe_un un_neg pe_int) (fun _ _ => rfl)) (pv 4)) pa_nil)))))))), ?_⟩
    refine ⟨Nat.zero_le _, fun p hp => ?_⟩
    have npb : p ≠ b := (ne_of_none eb hp).symm
    refine ⟨_, rfl, c, rfl, by omega, by omega, for_range (n := c.toNat) (fun i σ H2 => ∃ (o3 o5 : Option V) (ws : List Int), σ = [some (.ref b), some (.int c), some (.ref p), o3, none, o5] ∧ H2 p = some (.lst (ws.map V.int)) ∧ ws.length = i ∧ (∀ x ∈ ws, -9 ≤ x ∧ x ≤ 9) ∧ Bx H2 b (n + 2 * i) ∧ Kp [b] H H2) ?_ ?_ ?_⟩
    · exact ⟨none, none, [], rfl, upd_same, rfl, (fun r hr => nomatch hr), hB.keep (Kp.rfl'.new (bs := []) hp) (by simp), Kp.rfl'.new hp⟩
    · rintro i σ H2 hi ⟨o3, o5, ws, rfl, hP, hl, hg, hB2, k2⟩
      refine ⟨_, rfl, b, 4, _, rfl, hB2, by decide, by decide, by omega, fun r H3 r0 r1 hB3 k3 => ?_⟩
      have hP3 := k3 _ _ hP (by simpa using npb)
      have fin : ∀ (x : Int) (H4 : Hp), -9 ≤ x → x ≤ 9 → Bx H4 b (n + 2 * i + 1 + 1) → Kp [b] H3 H4 → ∃ l xs y, V.ref p = V.ref l ∧ [V.int x] = [y] ∧ H4 l = some (.lst xs) ∧ xs.length < sizeLine ∧
          ∃ (o3 o5 : Option V) (ws : List Int), [some (V.ref b), some (.int c), some (.ref p), some (.int (0 + (i : Int))), none, some (.int r)] = [some (.ref b), some (.int c), some (.ref p), o3, none, o5] ∧ upd H4 l (.lst (xs ++ [y])) p = some (.lst (ws.map V.int)) ∧ ws.length = i + 1 ∧ (∀ x ∈ ws, -9 ≤ x ∧ x ≤ 9) ∧ Bx (upd H4 l (.lst (xs ++ [y]))) b (n + 2 * (i + 1)) ∧ Kp [b] H (upd H4 l (.lst (xs ++ [y]))) := by
        intro x H4 x0 x1 hB4 k4
        have hP4 := k4 _ _ hP3 (by simpa using npb)
        refine ⟨p, _, _, rfl, rfl, hP4, by rw [List.length_map]; exact small1000 (by omega), _, _, ws ++ [x], rfl, by rw [upd_same, ints_snoc], by simp [hl], ?_, (hB4.keep (Kp.rfl'.put (bs := [p]) (by simp)) (by simpa using npb.symm)).up (by omega), ((k2.trans k3).trans k4).own hp⟩
        intro y hy
        rcases List.mem_append.mp hy with z | z
        · exact hg y z
        · rw [List.mem_singleton.mp z]
          exact ⟨x0, x1⟩
      refine ⟨_, rfl, .inl ⟨rfl, _, SqL.of hP3⟩, _, rfl, rfl, _, rfl, ite2 (fun cc => ?_) (fun cc => ?_)⟩
      · refine ⟨_, rfl, b, 19, _, rfl, hB3, by decide, by decide, by omega, fun r2 H4 z0 z1 hB4 k4 => ⟨_, _, rfl, rfl, ?_⟩⟩
        exact fin _ H4 (by omega) (by omega) hB4 k4
      · refine ⟨_, rfl, b, 5, _, rfl, hB3, by decide, by decide, by omega, fun r2 H4 z0 z1 hB4 k4 => ⟨_, _, rfl, rfl, ?_⟩⟩
        exact fin _ H4 (by omega) (by omega) hB4 k4
    · rintro σ H2 ⟨o3, o5, ws, rfl, hP, hl, hg, hB2, k2⟩
      have nw : ws ≠ [] := fun z => by
        rw [z] at hl
        simp at hl
        omega
      refine ⟨1, rfl, by show 4 ≤ sizeLine; decide, fun p2 hp2 => ?_⟩
      have np2 : p2 ≠ b := by
        obtain ⟨_, _, _, e, _⟩ := hB2.ex
        exact (ne_of_none e hp2).symm
      have n12 : p2 ≠ p := (ne_of_none hP hp2).symm
      refine ⟨_, rfl, b, 4, _, rfl, hB2.keep (Kp.rfl'.new (bs := []) hp2) (by simp), by decide, by decide, by omega, fun r H3 r0 r1 hB3 k3 => ?_⟩
      obtain ⟨lw, hlw, lw0, lw1, lw2⟩ : ∃ v : Int, atI [V.int 1, V.int (-1), V.int 2, V.int 3] r = some (.int v) ∧ v ≠ 0 ∧ -9 ≤ v ∧ v ≤ 9 := by
        have : r = 0 ∨ r = 1 ∨ r = 2 ∨ r = 3 := by omega
        rcases this with z | z | z | z <;> subst z
        · exact ⟨1, rfl, by decide, by decide, by decide⟩
        · exact ⟨-1, rfl, by decide, by decide, by decide⟩
        · exact ⟨2, rfl, by decide, by decide, by decide⟩
        · exact ⟨3, rfl, by decide, by decide, by decide⟩
      refine ⟨p2, _, _, _, rfl, rfl, SqL.of (k3 _ _ upd_same (by simpa using np2)), hlw, ?_⟩
      have hP3 : H3 p = some (.lst (ws.map V.int)) := k3 _ _ (by rw [upd_ne n12.symm]; exact hP) (by simpa using npb)
      refine ⟨_, rfl, 1, rfl, _, rfl, p, _, rfl, SqL.of hP3, fun p4 hp4 => ?_⟩
      have hP4 : (upd H3 p4 (.lst (cutV (ws.map V.int) none (some (-1))))) p = some (.lst (ws.map V.int)) := by
        rw [upd_ne (ne_of_none hP3 hp4)]
        exact hP3
      refine ⟨_, rfl, 1, rfl, p, _, _, _, rfl, rfl, SqL.of hP4, atI_end nw, rfl, _, rfl, ?_⟩
      have fin : ∀ v : Int, v ≠ 0 → -9 ≤ v → v ≤ 9 → 1 ≤ sizeLine ∧ ∀ p5, (upd H3 p4 (.lst (cutV (ws.map V.int) none (some (-1))))) p5 = none → rCat (.ref p4) (.ref p5) (upd (upd H3 p4 (.lst (cutV (ws.map V.int) none (some (-1))))) p5 (.lst [.int v])) Q := by
        intro v v0 v1 v2
        refine ⟨by decide, fun p5 hp5 => ?_⟩
        have n45 : p4 ≠ p5 := fun z => by
          rw [← z, upd_same] at hp5
          cases hp5
        refine ⟨p4, p5, _, _, rfl, rfl, by rw [upd_ne n45, upd_same], upd_same, ?_, fun p6 hp6 => ?_⟩
        · have := cutV_length (ws.map V.int) none (some (-1))
          rw [List.length_map] at this
          exact Nat.le_of_lt (small1000 (by simp only [List.length_singleton]; omega))
        have f5 : H3 p5 = none := by
          rw [upd_ne n45.symm] at hp5
          exact hp5
        have f6 : H3 p6 = none := by
          by_cases z : p6 = p5
          · rw [z, upd_same] at hp6
            cases hp6
          · rw [upd_ne z] at hp6
            by_cases y : p6 = p4
            · rw [y, upd_same] at hp6
              cases hp6
            · rw [upd_ne y] at hp6
              exact hp6
        have kk : Kp [b] H2 H3 := fun a o e na => k3 a o (by rw [upd_ne (ne_of_none e hp2)]; exact e) na
        have f06 : H p6 = none := k2.free (kk.free f6 fun z => by
          have z := List.mem_singleton.mp z
          obtain ⟨_, _, _, e, _⟩ := hB3.ex
          rw [← z, f6] at e
          cases e) fun z => by
          have z := List.mem_singleton.mp z
          obtain ⟨_, _, _, e, _⟩ := hB3.ex
          rw [← z, f6] at e
          cases e
        have kz : Kp [b] H (upd (upd (upd H3 p4 (.lst (cutV (ws.map V.int) none (some (-1))))) p5 (.lst [.int v])) p6 (.lst (cutV (ws.map V.int) none (some (-1)) ++ [.int v]))) := (((k2.trans kk).new hp4).new hp5).new hp6
        have hz : ws.length - 1 + 1 = c.toNat := by omega
        refine q p6 (ws.take (ws.length - 1) ++ [v]) _ f06 ?_ ?_ ?_ ?_ ?_ kz
        · rw [upd_same, cut_end]
          simp
        · rw [List.length_append, List.length_take, List.length_singleton]
          omega
        · intro y hy
          rcases List.mem_append.mp hy with z | z
          · exact hg y (List.mem_of_mem_take z)
          · rw [List.mem_singleton.mp z]
            exact ⟨v1, v2⟩
        · intro hne
          simpa using v0
        · exact (hB3.keep (bs := []) ((((Kp.rfl').new hp4).new hp5).new hp6) (by simp)).up (by omega)
      refine ite2 (fun cc => ?_) (fun cc => ?_)
      · refine ⟨_, rfl, 1, rfl, p, _, _, _, rfl, rfl, SqL.of hP4, atI_end nw, ?_⟩
        exact fin _ (fun z => by simp [z] at cc) (hg _ (List.getLast_mem nw)).1 (hg _ (List.getLast_mem nw)).2
      · exact ⟨_, rfl, fin _ lw0 lw1 lw2⟩

end
end Sw

set_option maxHeartbeats 2000000
namespace Sw
open PySem PySem.Spec PyProof.Rows L2
section
variable {P : Program} {w : World} {K : PySem.W.Frag} {mg : Str → Option Value} {base : Heap}
theorem sum_bd {m : Int} : ∀ {ns : List Int}, (∀ x ∈ ns, 0 ≤ x ∧ x ≤ m) → 0 ≤ ns.sum ∧ ns.sum ≤ ns.length * m
  | [], _ => by simp
  | a :: r, h => by
    have h1 := h a (List.mem_cons_self ..)
    have h2 := sum_bd (ns := r) fun x hx => h x (List.mem_cons_of_mem _ hx)
    have e : ((a :: r).length : Int) * m = (r.length : Int) * m + m := by
      rw [List.length_cons, Int.natCast_succ, Int.add_mul, Int.one_mul]
    rw [List.sum_cons, e]
    omega
def absI (x : Int) : Int := if x < 0 then -x else x
def rises (r : List Int) : Prop := ∀ (i : Nat) (x y : Int), r[i]? = some x → r[i + 1]? = some y → x < y
theorem rises_one (x : Int) : rises [x] := fun i a b h1 h2 => by
  cases i <;> simp at h2
theorem rises_snoc {r : List Int} {z : Int} (h : rises r) (ne : r ≠ []) (hz : r.getLast ne < z) : rises (r ++ [z]) := fun i x y h1 h2 => by
  have hl : r.length ≠ 0 := fun e => ne (List.eq_nil_of_length_eq_zero e)
  by_cases c : i + 1 < r.length
  · rw [List.getElem?_append_left (by omega)] at h1
    rw [List.getElem?_append_left c] at h2
    exact h i x y h1 h2
  · by_cases e : i + 1 = r.length
    · rw [List.getElem?_append_left (by omega)] at h1
      rw [List.getElem?_append_right (by omega), e, Nat.sub_self] at h2
      have hy : z = y := by simpa using h2
      have hx : r.getLast ne = x := by
        rw [List.getLast_eq_getElem]
        have e2 : i = r.length - 1 := by omega
        subst e2
        rw [List.getElem?_eq_getElem (by omega)] at h1
        exact Option.some.inj h1
      omega
    · rw [List.getElem?_eq_none (by simp; omega)] at h2
      cases h2
structure Rung (r : List Int) : Prop where
  l1 : 1 ≤ r.length
  l4 : r.length ≤ 4
  up : rises r
  bd : ∀ x ∈ r, -20000 ≤ x ∧ x ≤ 20000
def sp_rungs : Sp := fun vs H Q _ => ∃ (b t wa : Addr) (rows : List (List Int)) (ws : List Int) (n : Nat), vs = [.ref b, .ref t, .ref wa] ∧ Bx H b n ∧ n ≤ 800000 ∧ D [b] H 12 2 (.ref t) (dII rows) ∧ H wa = some (.lst (ws.map V.int)) ∧ wa ≠ b ∧
  (∀ r ∈ rows, ∀ x ∈ r, -99 ≤ x ∧ x ≤ 99) ∧ ws.length ≤ 5 ∧ (∀ x ∈ ws, -9 ≤ x ∧ x ≤ 9) ∧
  ∀ (p : Addr) (steps : List (List Int)) (H' : Hp), H p = none → D [b] H' 12 2 (.ref p) (dII steps) → steps.length = rows.length → (∀ r ∈ steps, Rung r) → Bx H' b (n + 100) → Kp [b] H H' → Q (.ref p) H'
theorem ok_rungs (T : Tx K mg) : FnOk P w K mg base CX0 2 (He.fAd K ("_law_rungs", none)) T.fd__law_rungs p__law_rungs sp_rungs := by
  have G__law_take := ok_take (P := P) (w := w) (base := base) T
  refine T.F__law_rungs.ok sc__law_rungs (fun vs H Q E h => ?_) (fun cdv A outer s H vs Q E hr h => ?_)
  · obtain ⟨b, m, n, _, _, _, rfl, _⟩ := h
    rfl
  · obtain ⟨b, t, wa, rows, ws, n, rfl, hB, hn, hT, hW, nwb, hrows, lws, hws, q⟩ := h
    have eb : ∃ o, H b = some o := by
      obtain ⟨_, _, _, e, _⟩ := hB.ex
      exact ⟨_, e⟩
    obtain ⟨ob, eb⟩ := eb
    cases hT with
    | @lst _ _ ts _ hT0 nT lT dT =>
    refine ⟨_, PSs.nox (pss_cons (ps_set (i := 3) sc__law_rungs.nd rfl (by first | exact Or.inl rfl | exact Or.inr rfl) (pe_lst pa_nil))
      (pss_cons (ps_for PassesOwn.never rfl (pi_list (pv 1)) (pg_name (i := 4) sc__law_rungs.nd rfl (by first | exact Or.inl rfl | exact Or.inr rfl))
      (pss_cons (ps_set (i := 5) sc__law_rungs.nd rfl (by first | exact Or.inl rfl | exact Or.inr rfl) (pe_callB (call_min2 rfl) (by rfl) T.b_min (by decide +kernel) (pa_cons pe_int (pa_cons (pe_op op_add (pe_op op_mul (pe_op op_mul pe_int (pe_callB (cr_sum rfl) (by rfl) T.b_sum (by decide +kernel) (pa_cons (pe_lc (own := [("_law_weight", 9)]) (g := (gName 9)) (tt := tYes) rfl sc__law_rungs.nd (pi_list (pv 2)) (blkOk_by (own := [("_law_weight", 9)]) (N := n__law_rungs) (sc := defScope s__law_rungs) (by decide +kernel)) (fun _ _ _ _ _ => (pg_name (i := 9) sc__law_rungs.nd rfl (by first | exact Or.inl rfl | exact Or.inr rfl))) (fun _ _ _ _ _ => pts_nil) (fun _ _ _ _ _ => (pe_callB call_abs (by rfl) T.b_abs (by decide +kernel) (pa_cons (pv 9) pa_nil)))) pa_nil))) (pe_callB (cr_sum rfl) (by rfl) T.b_sum (by decide +kernel) (pa_cons (pe_lc (own := [("_law_tie", 8)]) (g := (gName 8)) (tt := tYes) rfl sc__law_rungs.nd (pi_list (pv 4)) (blkOk_by (own := [("_law_tie", 8)]) (N := n__law_rungs) (sc := defScope s__law_rungs) (by decide +kernel)) (fun _ _ _ _ _ => (pg_name (i := 8) sc__law_rungs.nd rfl (by first | exact Or.inl rfl | exact Or.inr rfl))) (fun _ _ _ _ _ => pts_nil) (fun _ _ _ _ _ => (pe_callB call_abs (by rfl) T.b_abs (by decide +kernel) (pa_cons (pv 8) pa_nil)))) pa_nil))) pe_int) pa_nil))))
      (pss_cons (ps_set (i := 6) sc__law_rungs.nd rfl (by first | exact Or.inl rfl | exact Or.inr rfl) (pe_lst (pa_cons (pe_op op_sub (pe_call G__law_take (hr.mono (by first | decide | omega)) rfl T.g__law_take T.F__law_take.kp T.bd__law_take .nil pass0 (pa_cons (pv 0) (pa_cons (pe_op op_add (pe_op op_mul pe_int (pv 5)) pe_int) pa_nil))) (pv 5)) pa_nil)))
      (pss_cons (ps_for PassesOwn.never rfl (pi_range1 (by rfl) T.b_range (pa_cons (pe_call G__law_take (hr.mono (by first | decide | omega)) rfl T.g__law_take T.F__law_take.kp T.bd__law_take .nil pass0 (pa_cons (pv 0) (pa_cons pe_int pa_nil))) pa_nil)) (pg_name (i := 7) sc__law_rungs.nd rfl (by first | exact Or.inl rfl | exact Or.inr rfl))
      (pss_one (ps_expr (pe_bm PySem.F.plainAttrs_list PySem.F.slot_list_append PySem.F.type_list_append mt_append (pv 6) (pa_cons (pe_op op_add (pe_op op_add (pe_ix ix_list (pv 6) (pe_un un_neg pe_int) (fun _ _ => rfl)) pe_int) (pe_call G__law_take (hr.mono (by first | decide | omega)) rfl T.g__law_take T.F__law_take.kp T.bd__law_take .nil pass0 (pa_cons (pv 0) (pa_cons (pe_op op_add (pe_op op_fdivN (pv 5) pe_int) pe_int) pa_nil)))) pa_nil)))))
      (pss_one (ps_expr (pe_bm PySem.F.plainAttrs_list PySem.F.slot_list_append PySem.F.type_list_append mt_append (pv 3) (pa_cons (pv 6) pa_nil))))))))
      (pss_one (ps_ret (pv 3))))), ?_⟩
    refine ⟨Nat.zero_le _, fun p hp => ?_⟩
    have npb : p ≠ b := (ne_of_none eb hp).symm
    refine ⟨_, rfl, t, rfl, ⟨_, SqL.of (by rw [upd_ne (ne_of_none hT0 hp)]; exact hT0)⟩, for_list (K := K) (a := t) (xs := ts) (fun i σ H2 => ∃ (o4 o5 o6 o7 : Option V) (fs : List V) (steps : List (List Int)), σ = [some (.ref b), some (.ref t), some (.ref wa), some (.ref p), o4, o5, o6, o7, none, none] ∧ H2 p = some (.lst fs) ∧ DA [p, b] H2 12 1 fs (steps.map dI) ∧ steps.length = i ∧ (∀ r ∈ steps, Rung r) ∧ Bx H2 b (n + 5 * i) ∧ Kp [b] H H2) ?_ ?_ ?_ ?_⟩
    · exact ⟨none, none, none, none, [], [], rfl, upd_same, .nil, rfl, (fun r hr => nomatch hr), hB.keep (Kp.rfl'.new (bs := []) hp) (by simp), Kp.rfl'.new hp⟩
    · rintro i σ H2 _ ⟨_, _, _, _, _, _, _, _, _, _, _, _, k2⟩
      exact SqL.of (k2 _ _ hT0 nT)
    · rintro i x σ H2 hi ⟨o4, o5, o6, o7, fs, steps, rfl, hP, hF, hl, hg, hB2, k2⟩
      have hi2 : i < 12 := by
        have := (List.getElem?_eq_some_iff.mp hi).1
        omega
      obtain ⟨dr, hdr, hx⟩ := dT.get hi
      rw [List.getElem?_map] at hdr
      obtain ⟨row, hrow, rfl⟩ := Option.map_eq_some_iff.mp hdr
      obtain ⟨ra, rfl, hR0, nR, lR⟩ := hx.ints
      have hR := k2 _ _ hR0 nR
      have hW2 := k2 _ _ hW (by simpa using nwb)
      have hrow2 := hrows row (List.mem_of_getElem? hrow)
      -- the sums
      refine ⟨_, rfl, wa, rfl, ⟨_, SqL.of hW2⟩, fun d1 hd1 => lc_list (K := K) (a := wa) (xs := ws.map V.int) (fun j H3 => H3 d1 = some (.lst (((ws.take j).map absI).map V.int)) ∧ Kp [] H2 H3) ?_ ?_ ?_ ?_⟩
      · exact ⟨by rw [upd_same]; rfl, Kp.rfl'.new hd1⟩
      · rintro j H3 _ ⟨_, k3⟩
        exact SqL.of (k3 _ _ hW2 (by simp))
      · rintro j y H3 hj ⟨h3, k3⟩
        rw [List.getElem?_map] at hj
        obtain ⟨z, hz, rfl⟩ := Option.map_eq_some_iff.mp hj
        refine ⟨rfl, yesT ?_⟩
        refine ⟨_, rfl, z, rfl, _, h3, ?_, ?_, ?_⟩
        · simp only [List.length_map, List.length_take]
          exact small1000 (by omega)
        · rw [upd_same, List.take_add_one, hz]
          simp [absI]
        · exact k3.own hd1
      · rintro H3 ⟨h3, k3⟩
        rw [List.length_map, List.take_length] at h3
        refine ⟨d1, _, rfl, SqL.of h3, 2, _, rfl, rfl, .inl ⟨by decide, by decide⟩, ?_⟩
        have s1 := sum_bd (m := 9) (ns := ws.map absI) (fun x hx => by
          obtain ⟨y, hy, rfl⟩ := List.mem_map.mp hx
          have := hws y hy
          unfold absI
          split <;> omega)
        rw [List.length_map] at s1
        have hR3 := k3 _ _ hR (by simp)
        refine ⟨_, rfl, ra, rfl, ⟨_, SqL.of hR3⟩, fun d2 hd2 => lc_list (K := K) (a := ra) (xs := row.map V.int) (fun j H4 => H4 d2 = some (.lst (((row.take j).map absI).map V.int)) ∧ Kp [] H3 H4) ?_ ?_ ?_ ?_⟩
        · exact ⟨by rw [upd_same]; rfl, Kp.rfl'.new hd2⟩
        · rintro j H4 _ ⟨_, k4⟩
          exact SqL.of (k4 _ _ hR3 (by simp))
        · rintro j y H4 hj ⟨h4, k4⟩
          rw [List.getElem?_map] at hj
          obtain ⟨z, hz, rfl⟩ := Option.map_eq_some_iff.mp hj
          refine ⟨rfl, yesT ?_⟩
          refine ⟨_, rfl, z, rfl, _, h4, ?_, ?_, ?_⟩
          · simp only [List.length_map, List.length_take]
            exact small1000 (by omega)
          · rw [upd_same, List.take_add_one, hz]
            simp [absI]
          · exact k4.own hd2
        · rintro H4 ⟨h4, k4⟩
          rw [List.length_map, List.take_length] at h4
          have s2 := sum_bd (m := 99) (ns := row.map absI) (fun x hx => by
            obtain ⟨y, hy, rfl⟩ := List.mem_map.mp hx
            have := hrow2 y hy
            unfold absI
            split <;> omega)
          rw [List.length_map] at s2
          refine ⟨d2, _, rfl, SqL.of h4, _, _, rfl, rfl, .inl ⟨by omega, by omega⟩, _, _, rfl, rfl, _, _, rfl, ?_⟩
          have r1 : 0 ≤ 2 * (ws.map absI).sum * (row.map absI).sum := Int.mul_nonneg (by omega) s2.1
          obtain ⟨R, hR, R1, R2⟩ : ∃ R : Int, (if 2 * (ws.map absI).sum * (row.map absI).sum + 1 < 3000 then 2 * (ws.map absI).sum * (row.map absI).sum + 1 else 3000) = R ∧ 1 ≤ R ∧ R ≤ 3000 := ⟨_, rfl, by split <;> omega, by split <;> omega⟩
          rw [hR]
          have k24 : Kp [b] H2 H4 := (k3.trans k4).sub (by simp)
          have hB4 := hB2.keep (k3.trans k4) (by simp)
          have hP4 := k24 _ _ hP (by simpa using npb)
          have hF4 := hF.keep (k24.sub (cs := [p, b]) (by simp))
          refine ⟨_, rfl, _, rfl, _, _, rfl, rfl, .inl ⟨by decide, by decide⟩, _, _, rfl, rfl, b, _, _, rfl, hB4, by omega, by omega, by omega, fun r H5 r0 r1' hB5 k5 => ⟨_, rfl, _, _, rfl, rfl, by show 1 ≤ sizeLine; decide, fun d3 hd3 => ?_⟩⟩
          have nd3b : d3 ≠ b := by
            obtain ⟨_, _, _, e, _⟩ := hB5.ex
            exact (ne_of_none e hd3).symm
          have hP5 := k5 _ _ hP4 (by simpa using npb)
          have nd3p : d3 ≠ p := (ne_of_none hP5 hd3).symm
          refine ⟨_, rfl, b, 4, _, rfl, hB5.keep (Kp.rfl'.new (bs := []) hd3) (by simp), by decide, by decide, by omega, fun r2 H6 z0 z1 hB6 k6 => ⟨r2, rfl, by omega, by omega, ?_⟩⟩
          have h6 : H6 d3 = some (.lst ([r - R].map V.int)) := k6 _ _ upd_same (by simpa using nd3b)
          have k56 : Kp [b] H5 H6 := fun a o e na => k6 a o (by rw [upd_ne (ne_of_none e hd3)]; exact e) na
          refine for_range (n := r2.toNat) (fun j σ H7 => ∃ (o7 : Option V) (rs : List Int), σ = [some (.ref b), some (.ref t), some (.ref wa), some (.ref p), some (.ref ra), some (.int R), some (.ref d3), o7, none, none] ∧ H7 d3 = some (.lst (rs.map V.int)) ∧ rs.length = j + 1 ∧ rises rs ∧ (∀ x ∈ rs, -3000 ≤ x ∧ x ≤ 3000 + 1002 * j) ∧ Bx H7 b (n + 5 * i + 2 + j) ∧ Kp [b] H5 H7) ?_ ?_ ?_
          · exact ⟨o7, [r - R], rfl, h6, rfl, rises_one _, fun x hx => by rw [List.mem_singleton.mp hx]; omega, hB6, k56⟩
          · rintro j σ H7 hj ⟨o7, rs, rfl, h7, l7, up7, bd7, hB7, k7⟩
            have ne7 : rs ≠ [] := fun z => by
              rw [z] at l7
              cases l7
            have hR3 : 0 ≤ R / 3 ∧ R / 3 ≤ 1000 := ⟨by omega, by omega⟩
            have eR : R.fdiv 3 = R / 3 := Int.fdiv_eq_ediv_of_nonneg _ (by decide)
            refine ⟨_, rfl, .inl ⟨rfl, _, SqL.of h7⟩, _, rfl, 1, rfl, d3, _, _, _, rfl, rfl, SqL.of h7, atI_end ne7, _, _, rfl, rfl, ?_⟩
            refine ⟨_, rfl, _, rfl, _, _, rfl, rfl, ⟨by decide, by decide⟩, _, _, rfl, rfl, b, _, _, rfl, hB7, by omega, by omega, by omega, fun r3 H8 y0 y1 hB8 k8 => ⟨_, _, rfl, rfl, ?_⟩⟩
            have h8 := k8 _ _ h7 (by simpa using nd3b)
            have lb := bd7 _ (List.getLast_mem ne7)
            refine ⟨d3, _, _, rfl, rfl, h8, by rw [List.length_map]; exact small1000 (by omega), _, rs ++ [rs.getLast ne7 + 1 + r3], rfl, by rw [upd_same, ints_snoc], by simp [l7], rises_snoc up7 ne7 (by omega), ?_, (hB8.keep (Kp.rfl'.put (bs := [d3]) (by simp)) (by simpa using nd3b.symm)).up (by omega), (k7.trans k8).own hd3⟩
            intro x hx
            rcases List.mem_append.mp hx with z | z
            · have := bd7 x z
              omega
            · rw [List.mem_singleton.mp z]
              omega
          · rintro σ H7 ⟨o7, rs, rfl, h7, l7, up7, bd7, hB7, k7⟩
            have k27 : Kp [b] H2 H7 := k24.trans (k5.trans k7)
            have hP7 := k27 _ _ hP (by simpa using npb)
            refine ⟨_, rfl, .inl ⟨rfl, _, SqL.of hP7⟩, _, rfl, p, _, _, rfl, rfl, hP7, by rw [DA.len hF, List.length_map]; exact small1000 (by omega), ?_⟩
            have k8 : Kp [p, b] H7 (upd H7 p (.lst (fs ++ [.ref d3]))) := Kp.rfl'.put (by simp)
            refine ⟨_, _, _, _, fs ++ [.ref d3], steps ++ [rs], rfl, upd_same, ?_, by simp [hl], ?_, (hB7.keep (Kp.rfl'.put (bs := [p]) (by simp)) (by simpa using npb.symm)).up (by omega), (k2.trans k27).own hp⟩
            · rw [List.map_append]
              refine ((hF.keep (k27.sub (by simp))).keep k8).app (DA.one ((D.ofInts (w := 12) (k := 0) h7 (by simp [nd3p, nd3b]) (by omega) fun x hx => ?_).keep k8))
              have := bd7 x hx
              omega
            · intro y hy
              rcases List.mem_append.mp hy with z | z
              · exact hg y z
              · rw [List.mem_singleton.mp z]
                exact ⟨by omega, by omega, up7, fun x hx => by have := bd7 x hx; omega⟩
    · rintro σ H2 ⟨o4, o5, o6, o7, fs, steps, rfl, hP, hF, hl, hg, hB2, k2⟩
      have lt := DA.len dT
      rw [List.length_map] at lt
      exact ⟨_, rfl, q p steps H2 hp (.lst hP (by simpa using npb) (by rw [DA.len hF, List.length_map]; omega) (hF.less (by simp))) (by omega) hg (hB2.up (by omega)) k2⟩

end
end Sw

set_option maxHeartbeats 2000000
namespace Sw
open PySem PySem.Spec PyProof.Rows L2
section
variable {P : Program} {w : World} {K : PySem.W.Frag} {mg : Str → Option Value} {base : Heap}
structure HallData (c c2 : Nat) (rows steps : List (List Int)) (ws : List Int) : Prop where
  c1 : 1 ≤ c
  c12 : c ≤ 12
  w1 : 1 ≤ c2
  w5 : c2 ≤ 5
  lr : rows.length = c
  row : ∀ r ∈ rows, r.length = c ∧ ∀ x ∈ r, -99 ≤ x ∧ x ≤ 99
  ls : steps.length = c
  step : ∀ r ∈ steps, Rung r
  lw : ws.length = c2
  wt : ∀ x ∈ ws, -9 ≤ x ∧ x ≤ 9
  last : ∀ h : ws ≠ [], ws.getLast h ≠ 0
def sp_data : Sp := fun vs H Q _ => ∃ (b : Addr) (c c2 : Int) (wd : Bool) (n : Nat), vs = [.ref b, .int c, .int c2, .bl wd] ∧ Bx H b n ∧ n ≤ 700000 ∧ 1 ≤ c ∧ c ≤ 12 ∧ 1 ≤ c2 ∧ c2 ≤ 5 ∧
  ∀ (t p s wa : Addr) (rows steps : List (List Int)) (ws : List Int) (H' : Hp), H t = none → H' t = some (.tup [.ref p, .ref s, .ref wa]) → D [b] H' 12 2 (.ref p) (dII rows) → D [b] H' 12 2 (.ref s) (dII steps) → D [b] H' 12 1 (.ref wa) (dI ws) →
    HallData c.toNat c2.toNat rows steps ws → Bx H' b (n + 500) → Kp [b] H H' → Q (.ref t) H'
theorem ok_data (T : Tx K mg) : FnOk P w K mg base CX0 4 (He.fAd K ("_law_data", none)) T.fd__law_data p__law_data sp_data := by
  have G__law_ties := ok_ties (P := P) (w := w) (base := base) T
  have G__law_weights := ok_weights (P := P) (w := w) (base := base) T
  have G__law_rungs := ok_rungs (P := P) (w := w) (base := base) T
  refine T.F__law_data.ok sc__law_data (fun vs H Q E h => ?_) (fun cdv A outer s H vs Q E hr h => ?_)
  · obtain ⟨b, c, c2, wd, n, rfl, _⟩ := h
    rfl
  · obtain ⟨b, c, c2, wd, n, rfl, hB, hn, c1, c12, d1, d5, q⟩ := h
    refine ⟨_, PSs.nox (pss_cons (ps_par (i := 4) (j := 5) (by rfl) sc__law_data.nd rfl rfl (by decide) rfl rfl (pa_cons (pe_call G__law_ties (hr.mono (by first | decide | omega)) rfl T.g__law_ties T.F__law_ties.kp T.bd__law_ties .nil pass0 (pa_cons (pv 0) (pa_cons (pv 1) (pa_cons (pv 3) pa_nil)))) (pa_cons (pe_call G__law_weights (hr.mono (by first | decide | omega)) rfl T.g__law_weights T.F__law_weights.kp T.bd__law_weights .nil pass0 (pa_cons (pv 0) (pa_cons (pv 2) pa_nil))) pa_nil)) (by rfl))
      (pss_one (ps_ret (pe_tup (pa_cons (pv 4) (pa_cons (pe_call G__law_rungs (hr.mono (by first | decide | omega)) rfl T.g__law_rungs T.F__law_rungs.kp T.bd__law_rungs .nil pass0 (pa_cons (pv 0) (pa_cons (pv 4) (pa_cons (pv 5) pa_nil)))) (pa_cons (pv 5) pa_nil))))))), ?_⟩
    refine ⟨_, rfl, _, rfl, _, rfl, b, c, wd, n, rfl, hB, by omega, c1, c12, fun p rows H1 hp hD hl hg hB1 k1 => ?_⟩
    refine ⟨_, rfl, _, rfl, b, c2, _, rfl, hB1, by omega, d1, d5, fun p2 ws H2 hp2 hw hlw hgw hlast hB2 k2 => ⟨_, _, rfl, ?_⟩⟩
    have nb : p2 ≠ b := by
      obtain ⟨_, _, _, e, _⟩ := hB1.ex
      exact (ne_of_none e hp2).symm
    refine ⟨_, rfl, _, rfl, _, rfl, _, rfl, b, p, p2, rows, ws, _, rfl, hB2, by omega, hD.keep k2, hw, nb, (fun r hr => (hg r hr).2), by omega, hgw, fun p3 steps H3 hp3 hS hls hgs hB3 k3 => ?_⟩
    refine ⟨_, rfl, by show 3 ≤ sizeLine; decide, fun t ht => ?_⟩
    have nt : t ≠ b := by
      obtain ⟨_, _, _, e, _⟩ := hB3.ex
      exact (ne_of_none e ht).symm
    have k13 : Kp [b] H H3 := k1.trans (k2.trans k3)
    have kt : Kp [b] H3 (upd H3 t (.tup [.ref p, .ref p3, .ref p2])) := Kp.rfl'.new ht
    refine q t p p3 p2 rows steps ws _ (k13.free ht (by simpa using nt)) upd_same (((hD.keep k2).keep k3).keep kt) (hS.keep kt) ((D.ofInts (w := 12) (k := 0) (k3 _ _ hw (by simpa using nb)) (by simpa using nb) (by omega) fun x hx => small40 (m := 9) (hgw x hx).1 (hgw x hx).2).keep kt)
      ⟨by omega, by omega, by omega, by omega, hl, hg, by omega, hgs, hlw, hgw, hlast⟩ ((hB3.keep (bs := []) (Kp.rfl'.new ht) (by simp)).up (by omega)) (k13.trans kt)

end
end Sw

set_option maxHeartbeats 2000000
namespace Sw
open PySem PySem.Spec PyProof.Rows L2
section
variable {P : Program} {w : World} {K : PySem.W.Frag} {mg : Str → Option Value} {base : Heap}

def isNum (d : PyData) : Bool := match d with
  | .int _ => true
  | _ => false
def allOf (f : PyData → Bool) (d : PyData) : Bool := match d with
  | .list ds => ds.all f
  | .tuple ds => ds.all f
  | _ => false
def areNums (d : PyData) : Bool := allOf isNum d
def areRows (d : PyData) : Bool := allOf areNums d
/-- a def that tells a truth of a thing -/
def sp_tell (f : PyData → Bool) : Sp := fun vs H Q _ => ∃ (v : V) (d : PyData) (bs : List Addr) (w k : Nat), vs = [v] ∧ D bs H w k v d ∧ w ≤ 1000 ∧ ∀ H', Kp [] H H' → Q (.bl (f d)) H'
theorem ok_is_number (T : Tx K mg) : FnOk P w K mg base CX0 1 (He.fAd K ("is_number", none)) T.fd_is_number p_is_number (sp_tell isNum) := by
  refine T.F_is_number.ok sc_is_number (fun vs H Q E h => ?_) (fun cdv A outer s H vs Q E hr h => ?_)
  · obtain ⟨v, d, bs, w', k, rfl, _⟩ := h
    rfl
  · obtain ⟨v, d, bs, w', k, rfl, hD, _, q⟩ := h
    refine ⟨_, PSs.nox (pss_one (ps_ret (pe_and (pe_callB call_isi (by rfl) T.b_isinstance (by decide +kernel) (pa_cons (pv 0) (pa_cons (pe_bltn (v := .ty "int") (by rfl) T.b_int (by decide +kernel) rfl) pa_nil))) (pe_one (pe_not (pe_callB call_isi (by rfl) T.b_isinstance (by decide +kernel) (pa_cons (pv 0) (pa_cons (pe_bltn (v := .ty "bool") (by rfl) T.b_bool (by decide +kernel) rfl) pa_nil)))))))), ?_⟩
    refine ⟨_, rfl, _, _, _, _, _, rfl, .ty _, hD.tyx, hD.kI, _, rfl, ?_⟩
    cases hD with
    | int i hi => exact iteT ⟨_, rfl, _, _, _, _, _, rfl, .ty _, (D.int (bs := bs) (w := w') (k := k) i hi).tyx, (D.int (bs := bs) (H := H) (w := w') (k := k) i hi).kB, _, rfl, q H Kp.rfl'⟩
    | bl b => exact iteT ⟨_, rfl, _, _, _, _, _, rfl, .ty _, (D.bl (bs := bs) (w := w') (k := k) b).tyx, (D.bl (bs := bs) (H := H) (w := w') (k := k) b).kB, _, rfl, q H Kp.rfl'⟩
    | _ => exact iteF (q H Kp.rfl')

theorem ok_are_numbers (T : Tx K mg) : FnOk P w K mg base CX0 2 (He.fAd K ("are_numbers", none)) T.fd_are_numbers p_are_numbers (sp_tell areNums) := by
  have G_is_number := ok_is_number (P := P) (w := w) (base := base) T
  refine T.F_are_numbers.ok sc_are_numbers (fun vs H Q E h => ?_) (fun cdv A outer s H vs Q E hr h => ?_)
  · obtain ⟨v, d, bs, w', k, rfl, _⟩ := h
    rfl
  · obtain ⟨v, d, bs, w', k, rfl, hD, lw, q⟩ := h
    refine ⟨_, PSs.nox (pss_one (ps_ret (pe_and (pe_callB call_isiT (by rfl) T.b_isinstance (by decide +kernel) (pa_cons (pv 0) (pa_cons (pe_tup (pa_cons (pe_bltn (v := .ty "list") (by rfl) T.b_list (by decide +kernel) rfl) (pa_cons (pe_bltn (v := .ty "tuple") (by rfl) T.b_tuple (by decide +kernel) rfl) pa_nil))) pa_nil))) (pe_one (pe_callB (cr_all rfl) (by rfl) T.b_all (by decide +kernel) (pa_cons (pe_lc (own := [("one", 1)]) (g := (gName 1)) (tt := tYes) rfl sc_are_numbers.nd (pi_seq (pv 0)) (blkOk_by (own := [("one", 1)]) (N := n_are_numbers) (sc := defScope s_are_numbers) (by decide +kernel)) (fun _ _ _ _ _ => (pg_name (i := 1) sc_are_numbers.nd rfl (by first | exact Or.inl rfl | exact Or.inr rfl))) (fun _ _ _ _ _ => pts_nil) (fun _ _ _ _ _ => (pe_call G_is_number (hr.mono (by first | decide | omega)) rfl T.g_is_number T.F_is_number.kp T.bd_is_number .nil pass0 (pa_cons (pv 1) pa_nil)))) pa_nil)))))), ?_⟩
    refine ⟨_, rfl, by show 2 ≤ sizeLine; decide, fun t ht => ?_⟩
    have k1 : ∀ cs, Kp cs H (upd H t (.tup [.ty "list", .ty "tuple"])) := fun cs => Kp.rfl'.new ht
    have hD1 := hD.keep (k1 bs)
    refine ⟨_, t, _, _, [.type "list", .type "tuple"], _, rfl, upd_same, tyLT, hD1.tyx, hD1.kQ, _, rfl, ?_⟩
    cases hD1 with
    | @lst k' a xs ds h n l da =>
      refine iteT ⟨_, rfl, a, rfl, .inl ⟨⟨_, SqL.of h⟩, fun p hp => lc_list (K := K) (a := a) (xs := xs) (fun j H3 => H3 p = some (.lst (((ds.take j).map isNum).map V.bl)) ∧ Kp [] (upd H t (.tup [.ty "list", .ty "tuple"])) H3) ?_ ?_ ?_ ?_⟩⟩
      · exact ⟨by rw [upd_same]; rfl, Kp.rfl'.new hp⟩
      · rintro j H3 _ ⟨_, k3⟩
        exact SqL.of (k3 _ _ h (by simp))
      · rintro j y H3 hj ⟨h3, k3⟩
        obtain ⟨e, he, hy⟩ := da.get hj
        have hjl := (List.getElem?_eq_some_iff.mp hj).1
        refine ⟨rfl, yesT ⟨_, rfl, y, e, bs, w', k', rfl, hy.keep (k3.sub (by simp)), lw, fun H4 k4 => ⟨_, k4 _ _ h3 (by simp), ?_, ?_, ?_⟩⟩⟩
        · simp only [List.length_map, List.length_take]
          exact small1000 (by omega)
        · rw [upd_same, List.take_add_one, he]
          simp
        · exact (k3.trans k4).own hp
      · rintro H3 ⟨h3, k3⟩
        rw [DA.len da, List.take_length] at h3
        refine ⟨p, _, rfl, SqL.of h3, ?_⟩
        have e : (ds.map isNum).all id = areNums (.list ds) := by simp [areNums, allOf, List.all_map, Function.comp_def]
        rw [e]
        exact q _ ((k1 []).trans k3)
    | @tup k' a xs ds h n l da =>
      refine iteT ⟨_, rfl, a, rfl, .inr ⟨⟨_, SqT.of h⟩, fun p hp => lc_tup (K := K) (a := a) (xs := xs) (fun j H3 => H3 p = some (.lst (((ds.take j).map isNum).map V.bl)) ∧ Kp [] (upd H t (.tup [.ty "list", .ty "tuple"])) H3) ?_ ?_ ?_ ?_⟩⟩
      · exact ⟨by rw [upd_same]; rfl, Kp.rfl'.new hp⟩
      · rintro j H3 _ ⟨_, k3⟩
        exact SqT.of (k3 _ _ h (by simp))
      · rintro j y H3 hj ⟨h3, k3⟩
        obtain ⟨e, he, hy⟩ := da.get hj
        have hjl := (List.getElem?_eq_some_iff.mp hj).1
        refine ⟨rfl, yesT ⟨_, rfl, y, e, bs, w', k', rfl, hy.keep (k3.sub (by simp)), lw, fun H4 k4 => ⟨_, k4 _ _ h3 (by simp), ?_, ?_, ?_⟩⟩⟩
        · simp only [List.length_map, List.length_take]
          exact small1000 (by omega)
        · rw [upd_same, List.take_add_one, he]
          simp
        · exact (k3.trans k4).own hp
      · rintro H3 ⟨h3, k3⟩
        rw [DA.len da, List.take_length] at h3
        refine ⟨p, _, rfl, SqL.of h3, ?_⟩
        have e : (ds.map isNum).all id = areNums (.tuple ds) := by simp [areNums, allOf, List.all_map, Function.comp_def]
        rw [e]
        exact q _ ((k1 []).trans k3)
    | _ => exact iteF (q _ (k1 []))

theorem ok_are_rows (T : Tx K mg) : FnOk P w K mg base CX0 3 (He.fAd K ("are_rows", none)) T.fd_are_rows p_are_rows (sp_tell areRows) := by
  have G_are_numbers := ok_are_numbers (P := P) (w := w) (base := base) T
  refine T.F_are_rows.ok sc_are_rows (fun vs H Q E h => ?_) (fun cdv A outer s H vs Q E hr h => ?_)
  · obtain ⟨v, d, bs, w', k, rfl, _⟩ := h
    rfl
  · obtain ⟨v, d, bs, w', k, rfl, hD, lw, q⟩ := h
    refine ⟨_, PSs.nox (pss_one (ps_ret (pe_and (pe_callB call_isiT (by rfl) T.b_isinstance (by decide +kernel) (pa_cons (pv 0) (pa_cons (pe_tup (pa_cons (pe_bltn (v := .ty "list") (by rfl) T.b_list (by decide +kernel) rfl) (pa_cons (pe_bltn (v := .ty "tuple") (by rfl) T.b_tuple (by decide +kernel) rfl) pa_nil))) pa_nil))) (pe_one (pe_callB (cr_all rfl) (by rfl) T.b_all (by decide +kernel) (pa_cons (pe_lc (own := [("row", 1)]) (g := (gName 1)) (tt := tYes) rfl sc_are_rows.nd (pi_seq (pv 0)) (blkOk_by (own := [("row", 1)]) (N := n_are_rows) (sc := defScope s_are_rows) (by decide +kernel)) (fun _ _ _ _ _ => (pg_name (i := 1) sc_are_rows.nd rfl (by first | exact Or.inl rfl | exact Or.inr rfl))) (fun _ _ _ _ _ => pts_nil) (fun _ _ _ _ _ => (pe_call G_are_numbers (hr.mono (by first | decide | omega)) rfl T.g_are_numbers T.F_are_numbers.kp T.bd_are_numbers .nil pass0 (pa_cons (pv 1) pa_nil)))) pa_nil)))))), ?_⟩
    refine ⟨_, rfl, by show 2 ≤ sizeLine; decide, fun t ht => ?_⟩
    have k1 : ∀ cs, Kp cs H (upd H t (.tup [.ty "list", .ty "tuple"])) := fun cs => Kp.rfl'.new ht
    have hD1 := hD.keep (k1 bs)
    refine ⟨_, t, _, _, [.type "list", .type "tuple"], _, rfl, upd_same, tyLT, hD1.tyx, hD1.kQ, _, rfl, ?_⟩
    cases hD1 with
    | @lst k' a xs ds h n l da =>
      refine iteT ⟨_, rfl, a, rfl, .inl ⟨⟨_, SqL.of h⟩, fun p hp => lc_list (K := K) (a := a) (xs := xs) (fun j H3 => H3 p = some (.lst (((ds.take j).map areNums).map V.bl)) ∧ Kp [] (upd H t (.tup [.ty "list", .ty "tuple"])) H3) ?_ ?_ ?_ ?_⟩⟩
      · exact ⟨by rw [upd_same]; rfl, Kp.rfl'.new hp⟩
      · rintro j H3 _ ⟨_, k3⟩
        exact SqL.of (k3 _ _ h (by simp))
      · rintro j y H3 hj ⟨h3, k3⟩
        obtain ⟨e, he, hy⟩ := da.get hj
        have hjl := (List.getElem?_eq_some_iff.mp hj).1
        refine ⟨rfl, yesT ⟨_, rfl, y, e, bs, w', k', rfl, hy.keep (k3.sub (by simp)), lw, fun H4 k4 => ⟨_, k4 _ _ h3 (by simp), ?_, ?_, ?_⟩⟩⟩
        · simp only [List.length_map, List.length_take]
          exact small1000 (by omega)
        · rw [upd_same, List.take_add_one, he]
          simp
        · exact (k3.trans k4).own hp
      · rintro H3 ⟨h3, k3⟩
        rw [DA.len da, List.take_length] at h3
        refine ⟨p, _, rfl, SqL.of h3, ?_⟩
        have e : (ds.map areNums).all id = areRows (.list ds) := by simp [areRows, allOf, List.all_map, Function.comp_def]
        rw [e]
        exact q _ ((k1 []).trans k3)
    | @tup k' a xs ds h n l da =>
      refine iteT ⟨_, rfl, a, rfl, .inr ⟨⟨_, SqT.of h⟩, fun p hp => lc_tup (K := K) (a := a) (xs := xs) (fun j H3 => H3 p = some (.lst (((ds.take j).map areNums).map V.bl)) ∧ Kp [] (upd H t (.tup [.ty "list", .ty "tuple"])) H3) ?_ ?_ ?_ ?_⟩⟩
      · exact ⟨by rw [upd_same]; rfl, Kp.rfl'.new hp⟩
      · rintro j H3 _ ⟨_, k3⟩
        exact SqT.of (k3 _ _ h (by simp))
      · rintro j y H3 hj ⟨h3, k3⟩
        obtain ⟨e, he, hy⟩ := da.get hj
        have hjl := (List.getElem?_eq_some_iff.mp hj).1
        refine ⟨rfl, yesT ⟨_, rfl, y, e, bs, w', k', rfl, hy.keep (k3.sub (by simp)), lw, fun H4 k4 => ⟨_, k4 _ _ h3 (by simp), ?_, ?_, ?_⟩⟩⟩
        · simp only [List.length_map, List.length_take]
          exact small1000 (by omega)
        · rw [upd_same, List.take_add_one, he]
          simp
        · exact (k3.trans k4).own hp
      · rintro H3 ⟨h3, k3⟩
        rw [DA.len da, List.take_length] at h3
        refine ⟨p, _, rfl, SqL.of h3, ?_⟩
        have e : (ds.map areNums).all id = areRows (.tuple ds) := by simp [areRows, allOf, List.all_map, Function.comp_def]
        rw [e]
        exact q _ ((k1 []).trans k3)
    | _ => exact iteF (q _ (k1 []))

end
end Sw

set_option maxHeartbeats 2000000
namespace Sw
open PySem PySem.Spec PyProof.Rows L2
section
variable {P : Program} {w : World} {K : PySem.W.Frag} {mg : Str → Option Value} {base : Heap}
theorem cut_one (xs : List V) : cutV xs (some 1) none = xs.drop 1 := by
  have e : HT.sIx xs.length 0 (some 1) = min 1 xs.length := HT.sIx_nat xs.length 0 1
  unfold cutV
  rw [HT.sIx_none, e]
  cases xs with
  | nil => rfl
  | cons a r =>
    have e2 : min 1 (a :: r).length = 1 := by simp
    rw [e2, List.take_of_length_le (by simp)]
def risesB (ns : List Int) : List Bool := (ns.zip (ns.drop 1)).map fun p => decide (p.1 < p.2)
theorem risesB_of {ns : List Int} (h : rises ns) : (risesB ns).all id = true := by
  rw [risesB, List.all_map, List.all_eq_true]
  rintro ⟨x, y⟩ hp
  obtain ⟨i, hi, e⟩ := List.getElem_of_mem hp
  have e1 : (ns.zip (ns.drop 1))[i]? = some (x, y) := by rw [List.getElem?_eq_getElem hi, e]
  rw [List.getElem?_zip_eq_some] at e1
  obtain ⟨e2, e3⟩ := e1
  rw [List.getElem?_drop] at e3
  have := h i x y e2 (by rw [Nat.add_comm]; exact e3)
  simpa using this
def sp_rise : Sp := fun vs H Q _ => ∃ (a : Addr) (ns : List Int), vs = [.ref a] ∧ H a = some (.lst (ns.map V.int)) ∧ ns.length ≤ 1000 ∧ ∀ H', Kp [] H H' → Q (.bl ((risesB ns).all id)) H'
theorem ok_rise (T : Tx K mg) : FnOk P w K mg base CX0 1 (He.fAd K ("does_rise", none)) T.fd_does_rise p_does_rise sp_rise := by
  refine T.F_does_rise.ok sc_does_rise (fun vs H Q E h => ?_) (fun cdv A outer s H vs Q E hr h => ?_)
  · obtain ⟨a, ns, rfl, _⟩ := h
    rfl
  · obtain ⟨a, ns, rfl, hA, hl, q⟩ := h
    refine ⟨_, PSs.nox (pss_one (ps_ret (pe_callB (cr_all rfl) (by rfl) T.b_all (by decide +kernel) (pa_cons (pe_lc (own := [("low", 1), ("high", 2)]) (g := (gTup K 2 (gCons (gName 1) (gCons (gName 2) gNil)))) (tt := tYes) rfl sc_does_rise.nd (pi_zip (by rfl) T.b_zip (pa_cons (pv 0) (pa_cons (pe_slice sl_list (pv 0) (po_some pe_int) po_none) pa_nil))) (blkOk_by (own := [("low", 1), ("high", 2)]) (N := n_does_rise) (sc := defScope s_does_rise) (by decide +kernel)) (fun _ _ _ _ _ => (pg_tup rfl (pgs_cons (pg_name (i := 1) sc_does_rise.nd rfl (by first | exact Or.inl rfl | exact Or.inr rfl)) (pgs_cons (pg_name (i := 2) sc_does_rise.nd rfl (by first | exact Or.inl rfl | exact Or.inr rfl)) pgs_nil)))) (fun _ _ _ _ _ => pts_nil) (fun _ _ _ _ _ => (pe_cmpR op_lt (pv 1) (pv 2) (nomark _)))) pa_nil)))), ?_⟩
    refine ⟨_, rfl, _, rfl, 1, rfl, a, _, rfl, SqL.of hA, fun p hp => ?_⟩
    have nap := ne_of_none hA hp
    have hA1 : (upd H p (.lst (cutV (ns.map V.int) (some 1) none))) a = some (.lst (ns.map V.int)) := by
      rw [upd_ne nap]
      exact hA
    have hP1 : (upd H p (.lst (cutV (ns.map V.int) (some 1) none))) p = some (.lst ((ns.drop 1).map V.int)) := by
      rw [upd_same, cut_one, List.map_drop]
    refine ⟨a, p, _, _, rfl, SqL.of hA1, SqL.of hP1, fun d hd => lc_it (walk_zip (xs := ns.map V.int) (ys := (ns.drop 1).map V.int) rfl) (fun j H3 => H3 d = some (.lst (((risesB ns).take j).map V.bl)) ∧ Kp [] (upd H p (.lst (cutV (ns.map V.int) (some 1) none))) H3) ?_ ?_ ?_ ?_⟩
    · exact ⟨by rw [upd_same]; rfl, Kp.rfl'.new hd⟩
    · rintro j H3 _ ⟨_, k3⟩
      exact ⟨SqL.of (k3 _ _ hA1 (by simp)), SqL.of (k3 _ _ hP1 (by simp))⟩
    · rintro j x H3 H4 hj ⟨h3, k3⟩ ⟨t, y, z, rfl, ht, rfl, hy, hz⟩
      simp only [List.getElem?_map] at hy hz
      obtain ⟨y', hy', rfl⟩ := Option.map_eq_some_iff.mp hy
      obtain ⟨z', hz', rfl⟩ := Option.map_eq_some_iff.mp hz
      refine ⟨t, _, rfl, SqT.of upd_same, rfl, _, _, rfl, _, _, rfl, rfl, rfl, yesT ⟨_, rfl, _, rfl, _, _, rfl, rfl, ?_⟩⟩
      refine ⟨_, by rw [upd_ne (ne_of_none h3 ht)]; exact h3, ?_, ?_, ?_⟩
      · simp only [List.length_map, List.length_take, risesB, List.length_zip]
        exact small1000 (by omega)
      · have e : (risesB ns)[j]? = some (decide (y' < z')) := by
          rw [risesB, List.getElem?_map, (List.getElem?_zip_eq_some (i := j) (z := (y', z'))).mpr ⟨hy', hz'⟩]
          rfl
        rw [upd_same, List.take_add_one, e]
        simp
      · exact (k3.new ht).own hd
    · rintro H3 ⟨h3, k3⟩
      have e : (risesB ns).take (min (ns.map V.int).length ((ns.drop 1).map V.int).length) = risesB ns := by
        apply List.take_of_length_le
        simp [risesB]
      rw [e] at h3
      exact ⟨d, _, rfl, SqL.of h3, q _ ((Kp.rfl'.new hp).trans k3)⟩
theorem iteC {c : Bool} {A B : Prop} (h : c = true) (k : A) : if c = true then A else B := by
  rw [if_pos h]
  exact k
theorem iteN {c : Bool} {A B : Prop} (h : c = false) (k : B) : if c = true then A else B := by
  rw [h]
  exact iteF k
theorem areNums_dI (r : List Int) : areNums (dI r) = true := by
  simp [areNums, allOf, isNum, List.all_map]
theorem areRows_dII (rows : List (List Int)) : areRows (dII rows) = true := by
  simp only [areRows, allOf, List.all_map, List.all_eq_true, Function.comp]
  intro r _
  exact areNums_dI r
theorem rep_snoc (j : Nat) : (List.replicate j true).map V.bl ++ [V.bl true] = (List.replicate (j + 1) true).map V.bl := by
  rw [List.replicate_succ']
  simp
theorem rep_all (j : Nat) : (List.replicate j true).all id = true := by simp
theorem D.rows {bs : List Addr} {H : Hp} {w k : Nat} {v : V} {rows : List (List Int)} (x : D bs H w k v (dII rows)) : ∃ a xs k', v = .ref a ∧ k = k' + 1 ∧ H a = some (.lst xs) ∧ a ∉ bs ∧ xs.length = rows.length ∧ xs.length ≤ w ∧ DA bs H w k' xs (rows.map dI) := by
  cases x with
  | lst h n l t =>
    have e := DA.len t
    rw [List.length_map] at e
    exact ⟨_, _, _, rfl, rfl, h, n, e, l, t⟩
theorem DA.rowAt {bs : List Addr} {H : Hp} {w k : Nat} {xs : List V} {rows : List (List Int)} {i : Nat} {x : V} (t : DA bs H w k xs (rows.map dI)) (h : xs[i]? = some x) : ∃ r a, rows[i]? = some r ∧ x = .ref a ∧ H a = some (.lst (r.map V.int)) ∧ a ∉ bs ∧ r.length ≤ w ∧ D bs H w k x (dI r) := by
  obtain ⟨d, hd, hx⟩ := t.get h
  rw [List.getElem?_map] at hd
  obtain ⟨r, hr, rfl⟩ := Option.map_eq_some_iff.mp hd
  obtain ⟨a, e, h1, h2, h3⟩ := hx.ints
  exact ⟨r, a, hr, e, h1, h2, h3, hx⟩
def sp_strings : Sp := fun vs H Q _ => ∃ (t : Addr) (rows : List (List Int)) (bs : List Addr), vs = [.ref t] ∧ D bs H 12 2 (.ref t) (dII rows) ∧ 1 ≤ rows.length ∧ (∀ r ∈ rows, r.length = rows.length) ∧ ∀ H', Kp [] H H' → Q (.bl true) H'
theorem ok_strings (T : Tx K mg) : FnOk P w K mg base CX0 4 (He.fAd K ("are_strings", none)) T.fd_are_strings p_are_strings sp_strings := by
  have G_are_rows := ok_are_rows (P := P) (w := w) (base := base) T
  refine T.F_are_strings.ok sc_are_strings (fun vs H Q E h => ?_) (fun cdv A outer s H vs Q E hr h => ?_)
  · obtain ⟨t, rows, bs, rfl, _⟩ := h
    rfl
  · obtain ⟨t, rows, bs, rfl, hD, l1, hl, q⟩ := h
    refine ⟨_, PSs.nox (pss_one (ps_ret (pe_and (pe_call G_are_rows (hr.mono (by first | decide | omega)) rfl T.g_are_rows T.F_are_rows.kp T.bd_are_rows .nil pass0 (pa_cons (pv 0) pa_nil)) (pe_and (pe_cmpR op_gt (pe_callB call_len (by rfl) T.b_len (by decide +kernel) (pa_cons (pv 0) pa_nil)) pe_int (nomark _)) (pe_one (pe_callB (cr_all rfl) (by rfl) T.b_all (by decide +kernel) (pa_cons (pe_lc (own := [("row", 1)]) (g := (gName 1)) (tt := tYes) rfl sc_are_strings.nd (pi_list (pv 0)) (blkOk_by (own := [("row", 1)]) (N := n_are_strings) (sc := defScope s_are_strings) (by decide +kernel)) (fun _ _ _ _ _ => (pg_name (i := 1) sc_are_strings.nd rfl (by first | exact Or.inl rfl | exact Or.inr rfl))) (fun _ _ _ _ _ => pts_nil) (fun _ _ _ _ _ => (pe_cmpR op_eq (pe_callB (kLen (K := K) rfl) (by rfl) T.b_len (by decide +kernel) (pa_cons (pv 1) pa_nil)) (pe_callB (kLen (K := K) rfl) (by rfl) T.b_len (by decide +kernel) (pa_cons (pv 0) pa_nil)) (nomark _)))) pa_nil))))))), ?_⟩
    refine ⟨_, rfl, _, _, bs, 12, 2, rfl, hD, by decide, fun H1 k1 => ⟨_, rfl, iteC (areRows_dII rows) ?_⟩⟩
    obtain ⟨a, xs, k', e, ek, h, n, lx, lw, da⟩ := (hD.keep (k1.sub (by simp))).rows
    cases e
    cases ek
    refine ⟨_, rfl, _, rows.length, rfl, .inl ⟨_, SqL.of h, lx.symm⟩, _, _, rfl, rfl, _, rfl, iteC (by simp; omega) ?_⟩
    refine ⟨_, rfl, t, rfl, ⟨_, SqL.of h⟩, fun p hp => lc_list (K := K) (a := t) (xs := xs) (fun j H3 => H3 p = some (.lst ((List.replicate j true).map V.bl)) ∧ Kp [] H1 H3) ?_ ?_ ?_ ?_⟩
    · exact ⟨by rw [upd_same]; rfl, Kp.rfl'.new hp⟩
    · rintro j H3 _ ⟨_, k3⟩
      exact SqL.of (k3 _ _ h (by simp))
    · rintro j y H3 hj ⟨h3, k3⟩
      obtain ⟨r, ra, hr2, rfl, hR, _, _, _⟩ := da.rowAt hj
      have hjl := (List.getElem?_eq_some_iff.mp hj).1
      have hrl := hl r (List.mem_of_getElem? hr2)
      refine ⟨rfl, yesT ⟨_, rfl, _, r.length, rfl, .inl ⟨_, SqL.of (k3 _ _ hR (by simp)), by simp⟩, _, rfl, _, rows.length, rfl, .inl ⟨_, SqL.of (k3 _ _ h (by simp)), lx.symm⟩, rfl, ?_⟩⟩
      refine ⟨_, h3, by simp only [List.length_map, List.length_replicate]; exact small1000 (by omega), ?_, k3.own hp⟩
      rw [upd_same, hrl, decide_eq_true rfl, rep_snoc]
    · rintro H3 ⟨h3, k3⟩
      refine ⟨p, _, rfl, SqL.of h3, ?_⟩
      rw [rep_all]
      exact q _ (k1.trans k3)
def sp_ladder : Sp := fun vs H Q _ => ∃ (a : Addr) (r : List Int), vs = [.ref a] ∧ H a = some (.lst (r.map V.int)) ∧ Rung r ∧ ∀ H', Kp [] H H' → Q (.bl true) H'
theorem ok_ladder (T : Tx K mg) : FnOk P w K mg base CX0 2 (He.fAd K ("is_ladder", none)) T.fd_is_ladder p_is_ladder sp_ladder := by
  have G_does_rise := ok_rise (P := P) (w := w) (base := base) T
  refine T.F_is_ladder.ok sc_is_ladder (fun vs H Q E h => ?_) (fun cdv A outer s H vs Q E hr h => ?_)
  · obtain ⟨t, rows, rfl, _⟩ := h
    rfl
  · obtain ⟨a, r, rfl, hA, hR, q⟩ := h
    refine ⟨_, PSs.nox (pss_one (ps_ret (pe_and (pe_chain op_le op_le pe_int (pe_callB call_len (by rfl) T.b_len (by decide +kernel) (pa_cons (pv 0) pa_nil)) (pe_glob (v := .int 4) rfl T.c_MOST_STEPS ⟨_, rfl⟩)) (pe_one (pe_call G_does_rise (hr.mono (by first | decide | omega)) rfl T.g_does_rise T.F_does_rise.kp T.bd_does_rise .nil pass0 (pa_cons (pv 0) pa_nil)))))), ?_⟩
    have l1 := hR.l1
    have l4 := hR.l4
    refine ⟨_, rfl, _, r.length, rfl, .inl ⟨_, SqL.of hA, by simp⟩, _, _, rfl, rfl, _, rfl, iteC (by simp; omega) ?_⟩
    refine ⟨_, _, rfl, rfl, _, rfl, iteC (by simp; omega) ?_⟩
    refine ⟨_, rfl, a, r, rfl, hA, by omega, fun H1 k1 => ?_⟩
    rw [risesB_of hR.up]
    exact q _ k1
def sp_steps : Sp := fun vs H Q _ => ∃ (t : Addr) (rows : List (List Int)) (bs : List Addr), vs = [.ref t, .int rows.length] ∧ D bs H 12 2 (.ref t) (dII rows) ∧ (∀ r ∈ rows, Rung r) ∧ ∀ H', Kp [] H H' → Q (.bl true) H'
theorem ok_steps (T : Tx K mg) : FnOk P w K mg base CX0 4 (He.fAd K ("are_steps", none)) T.fd_are_steps p_are_steps sp_steps := by
  have G_are_rows := ok_are_rows (P := P) (w := w) (base := base) T
  have G_is_ladder := ok_ladder (P := P) (w := w) (base := base) T
  refine T.F_are_steps.ok sc_are_steps (fun vs H Q E h => ?_) (fun cdv A outer s H vs Q E hr h => ?_)
  · obtain ⟨t, rows, bs, rfl, _⟩ := h
    rfl
  · obtain ⟨t, rows, bs, rfl, hD, hl, q⟩ := h
    refine ⟨_, PSs.nox (pss_one (ps_ret (pe_and (pe_call G_are_rows (hr.mono (by first | decide | omega)) rfl T.g_are_rows T.F_are_rows.kp T.bd_are_rows .nil pass0 (pa_cons (pv 0) pa_nil)) (pe_and (pe_cmpR op_eq (pe_callB call_len (by rfl) T.b_len (by decide +kernel) (pa_cons (pv 0) pa_nil)) (pv 1) (nomark _)) (pe_one (pe_callB (cr_all rfl) (by rfl) T.b_all (by decide +kernel) (pa_cons (pe_lc (own := [("row", 2)]) (g := (gName 2)) (tt := tYes) rfl sc_are_steps.nd (pi_list (pv 0)) (blkOk_by (own := [("row", 2)]) (N := n_are_steps) (sc := defScope s_are_steps) (by decide +kernel)) (fun _ _ _ _ _ => (pg_name (i := 2) sc_are_steps.nd rfl (by first | exact Or.inl rfl | exact Or.inr rfl))) (fun _ _ _ _ _ => pts_nil) (fun _ _ _ _ _ => (pe_call G_is_ladder (hr.mono (by first | decide | omega)) rfl T.g_is_ladder T.F_is_ladder.kp T.bd_is_ladder .nil pass0 (pa_cons (pv 2) pa_nil)))) pa_nil))))))), ?_⟩
    refine ⟨_, rfl, _, _, bs, 12, 2, rfl, hD, by decide, fun H1 k1 => ⟨_, rfl, iteC (areRows_dII rows) ?_⟩⟩
    obtain ⟨a, xs, k', e, ek, h, n, lx, lw, da⟩ := (hD.keep (k1.sub (by simp))).rows
    cases e
    cases ek
    refine ⟨_, rfl, _, rows.length, rfl, .inl ⟨_, SqL.of h, lx.symm⟩, _, rfl, rfl, _, rfl, iteC (by simp) ?_⟩
    refine ⟨_, rfl, t, rfl, ⟨_, SqL.of h⟩, fun p hp => lc_list (K := K) (a := t) (xs := xs) (fun j H3 => H3 p = some (.lst ((List.replicate j true).map V.bl)) ∧ Kp [] H1 H3) ?_ ?_ ?_ ?_⟩
    · exact ⟨by rw [upd_same]; rfl, Kp.rfl'.new hp⟩
    · rintro j H3 _ ⟨_, k3⟩
      exact SqL.of (k3 _ _ h (by simp))
    · rintro j y H3 hj ⟨h3, k3⟩
      obtain ⟨r, ra, hr2, rfl, hR, _, _, _⟩ := da.rowAt hj
      have hjl := (List.getElem?_eq_some_iff.mp hj).1
      refine ⟨rfl, yesT ⟨_, rfl, ra, r, rfl, k3 _ _ hR (by simp), hl r (List.mem_of_getElem? hr2), fun H4 k4 => ?_⟩⟩
      refine ⟨_, k4 _ _ h3 (by simp), by simp only [List.length_map, List.length_replicate]; exact small1000 (by omega), ?_, (k3.trans k4).own hp⟩
      rw [upd_same, rep_snoc]
    · rintro H3 ⟨h3, k3⟩
      refine ⟨p, _, rfl, SqL.of h3, ?_⟩
      rw [rep_all]
      exact q _ (k1.trans k3)
def sp_memory : Sp := fun vs H Q _ => ∃ (a : Addr) (ws : List Int) (bs : List Addr), vs = [.ref a] ∧ D bs H 12 1 (.ref a) (dI ws) ∧ 1 ≤ ws.length ∧ ws.length ≤ 5 ∧ (∀ h : ws ≠ [], ws.getLast h ≠ 0) ∧ ∀ H', Kp [] H H' → Q (.bl true) H'
theorem ok_memory (T : Tx K mg) : FnOk P w K mg base CX0 3 (He.fAd K ("is_memory", none)) T.fd_is_memory p_is_memory sp_memory := by
  have G_are_numbers := ok_are_numbers (P := P) (w := w) (base := base) T
  refine T.F_is_memory.ok sc_is_memory (fun vs H Q E h => ?_) (fun cdv A outer s H vs Q E hr h => ?_)
  · obtain ⟨t, rows, bs, rfl, _⟩ := h
    rfl
  · obtain ⟨t, ws, bs, rfl, hD, l1, l5, hl, q⟩ := h
    refine ⟨_, PSs.nox (pss_one (ps_ret (pe_and (pe_call G_are_numbers (hr.mono (by first | decide | omega)) rfl T.g_are_numbers T.F_are_numbers.kp T.bd_are_numbers .nil pass0 (pa_cons (pv 0) pa_nil)) (pe_and (pe_chain op_le op_le pe_int (pe_callB call_len (by rfl) T.b_len (by decide +kernel) (pa_cons (pv 0) pa_nil)) (pe_glob (v := .int 5) rfl T.c_MOST_WEIGHTS ⟨_, rfl⟩)) (pe_one (pe_cmpR op_ne (pe_ix ix_list (pv 0) (pe_un un_neg pe_int) (fun _ _ => rfl)) pe_int (nomark _))))))), ?_⟩
    refine ⟨_, rfl, _, _, bs, 12, 1, rfl, hD, by decide, fun H1 k1 => ⟨_, rfl, iteC (areNums_dI ws) ?_⟩⟩
    obtain ⟨a, e, h, n, lw⟩ := (hD.keep (k1.sub (by simp))).ints
    cases e
    have ne : ws ≠ [] := fun z => by
      rw [z] at l1
      cases l1
    refine ⟨_, rfl, _, ws.length, rfl, .inl ⟨_, SqL.of h, by simp⟩, _, _, rfl, rfl, _, rfl, iteC (by simp; omega) ?_⟩
    refine ⟨_, _, rfl, rfl, _, rfl, iteC (by simp; omega) ?_⟩
    refine ⟨_, rfl, 1, rfl, t, _, _, _, rfl, rfl, SqL.of h, atI_end ne, rfl, ?_⟩
    have e : (!decide (V.int (ws.getLast ne) = V.int 0)) = true := by
      have := hl ne
      simp [this]
    rw [e]
    exact q _ k1

end
end Sw

set_option maxHeartbeats 2000000
namespace Sw
open PySem PySem.Spec PyProof.Rows L2
section
variable {P : Program} {w : World} {K : PySem.W.Frag} {mg : Str → Option Value} {base : Heap}
abbrev dT (ns : List Int) : PyData := .tuple (ns.map PyData.int)
abbrev dTT (rows : List (List Int)) : PyData := .tuple (rows.map dT)
theorem DA.small {bs : List Addr} {H : Hp} {w k : Nat} : ∀ {ns : List Int} {vs : List V}, DA bs H w k vs (ns.map PyData.int) → ∀ n ∈ ns, n.natAbs < 2 ^ 39 + w
  | [], _, _, n, hn => nomatch hn
  | m :: ns, _, .cons h t, n, hn => by
    rcases List.mem_cons.mp hn with z | z
    · subst z
      cases h with
      | int _ hi => exact hi
    · exact DA.small t n z
theorem D.small {bs : List Addr} {H : Hp} {w k : Nat} {v : V} {ns : List Int} (x : D bs H w k v (dI ns)) : ∀ n ∈ ns, n.natAbs < 2 ^ 39 + w := by
  cases x with
  | lst h n l t => exact DA.small t
theorem away {H H1 : Hp} {bs : List Addr} {p : Addr} (hb : ∀ b ∈ bs, ∃ o, H b = some o) (k : Kp [] H H1) (hp : H1 p = none) : p ∉ bs := fun m => by
  obtain ⟨o, e⟩ := hb p m
  rw [k p o e (by simp)] at hp
  cases hp
def sp_tuples : Sp := fun vs H Q _ => ∃ (t : Addr) (rows : List (List Int)) (cs bs : List Addr), vs = [.ref t] ∧ D cs H 12 2 (.ref t) (dII rows) ∧ (∀ b ∈ bs, ∃ o, H b = some o) ∧
  ∀ (p : Addr) (H' : Hp), H p = none → Kp [] H H' → D bs H' 12 2 (.ref p) (dTT rows) → Q (.ref p) H'
theorem ok_tuples (T : Tx K mg) : FnOk P w K mg base CX0 1 (He.fAd K ("as_tuples", none)) T.fd_as_tuples p_as_tuples sp_tuples := by
  refine T.F_as_tuples.ok sc_as_tuples (fun vs H Q E h => ?_) (fun cdv A outer s H vs Q E hr h => ?_)
  · obtain ⟨t, rows, cs, bs, rfl, _⟩ := h
    rfl
  · obtain ⟨t, rows, cs, bs, rfl, hD, hbs, q⟩ := h
    obtain ⟨a, xs, k', e, ek, h, n, lx, lw, da⟩ := hD.rows
    cases e
    cases ek
    refine ⟨_, PSs.nox (pss_one (ps_ret (pe_callTy call_tuple_of (by rfl) T.b_tuple (by decide +kernel) (pa_cons (pe_lc (own := [("row", 1)]) (g := (gName 1)) (tt := tYes) rfl sc_as_tuples.nd (pi_list (pv 0)) (blkOk_by (own := [("row", 1)]) (N := n_as_tuples) (sc := defScope s_as_tuples) (by decide +kernel)) (fun _ _ _ _ _ => (pg_name (i := 1) sc_as_tuples.nd rfl (by first | exact Or.inl rfl | exact Or.inr rfl))) (fun _ _ _ _ _ => pts_nil) (fun _ _ _ _ _ => (pe_callTy (kTup (K := K) rfl) (by rfl) T.b_tuple (by decide +kernel) (pa_cons (pv 1) pa_nil)))) pa_nil)))), ?_⟩
    refine ⟨_, rfl, t, rfl, ⟨_, SqL.of h⟩, fun p hp => lc_list (K := K) (a := t) (xs := xs) (fun j H3 => ∃ ys, H3 p = some (.lst ys) ∧ DA (p :: bs) H3 12 1 ys ((rows.take j).map dT) ∧ Kp [] H H3) ?_ ?_ ?_ ?_⟩
    · exact ⟨[], upd_same, .nil, Kp.rfl'.new hp⟩
    · rintro j H3 _ ⟨_, _, _, k3⟩
      exact SqL.of (k3 _ _ h (by simp))
    · rintro j y H3 hj ⟨ys, h3, d3, k3⟩
      obtain ⟨r, ra, hr2, rfl, hR, _, lr, dr⟩ := da.rowAt hj
      have hjl := (List.getElem?_eq_some_iff.mp hj).1
      refine ⟨rfl, yesT ⟨_, rfl, ra, _, rfl, .inl ⟨SqL.of (k3 _ _ hR (by simp)), fun l hl => ?_⟩⟩⟩
      have nlp : l ≠ p := (ne_of_none h3 hl).symm
      have k4 : ∀ cs, Kp cs H3 (upd H3 l (.tup (r.map V.int))) := fun cs => Kp.rfl'.new hl
      have k5 : Kp (p :: bs) (upd H3 l (.tup (r.map V.int))) (upd (upd H3 l (.tup (r.map V.int))) p (.lst (ys ++ [.ref l]))) := Kp.rfl'.put (by simp)
      refine ⟨ys, (k4 [] _ _ h3 (by simp)), ?_, ys ++ [.ref l], upd_same, ?_, (k3.new hl).own hp⟩
      · rw [DA.len d3, List.length_map, List.length_take]
        exact small1000 (by omega)
      · rw [List.take_add_one, hr2, List.map_append]
        refine ((d3.keep (k4 _)).keep k5).app (DA.one ((D.tup (k := 0) upd_same ?_ (by simpa using lr) (DA.ofInts dr.small)).keep k5))
        intro m
        rcases List.mem_cons.mp m with z | z
        · exact nlp z
        · exact away hbs k3 hl z
    · rintro H3 ⟨ys, h3, d3, k3⟩
      rw [lx, List.take_length] at d3
      refine ⟨p, ys, rfl, .inl ⟨SqL.of h3, fun l hl => ?_⟩⟩
      have k4 : ∀ cs, Kp cs H3 (upd H3 l (.tup ys)) := fun cs => Kp.rfl'.new hl
      refine q l _ (k3.free hl (by simp)) (k3.new hl) (.tup upd_same (away hbs k3 hl) (by rw [DA.len d3, List.length_map]; omega) ((d3.less (by simp +contextual)).keep (k4 _)))
mutual
theorem D.noIns {bs : List Addr} {H : Hp} {w : Nat} {x C dx : Addr} {fs : List (Str × V)} (hx : H x = some (.ins C dx fs)) : ∀ {k : Nat} {v : V} {d : PyData}, D bs H w k v d → D (x :: bs) H w k v d
  | _, _, _, .non => .non
  | _, _, _, .bl b => .bl b
  | _, _, _, .int i h => .int i h
  | _, _, _, .str y h => .str y h
  | _, _, _, .lst h n l t => .lst h (fun m => (List.mem_cons.mp m).elim (fun z => by rw [z, hx] at h; cases h) n) l (DA.noIns hx t)
  | _, _, _, .tup h n l t => .tup h (fun m => (List.mem_cons.mp m).elim (fun z => by rw [z, hx] at h; cases h) n) l (DA.noIns hx t)
theorem DA.noIns {bs : List Addr} {H : Hp} {w : Nat} {x C dx : Addr} {fs : List (Str × V)} (hx : H x = some (.ins C dx fs)) : ∀ {k : Nat} {v : List V} {d : List PyData}, DA bs H w k v d → DA (x :: bs) H w k v d
  | _, _, _, .nil => .nil
  | _, _, _, .cons h t => .cons (D.noIns hx h) (DA.noIns hx t)
end
theorem putF_le (f : Str) (v : V) : ∀ fs : List (Str × V), (putF f v fs).length ≤ fs.length + 1
  | [] => Nat.le_refl _
  | (g, u) :: r => by
    show (if g = f then (g, v) :: r else (g, u) :: putF f v r).length ≤ _
    have := putF_le f v r
    split <;> simp <;> omega
/-! ### the hall -/
abbrev C0 (K : PySem.W.Frag) : Addr := He.ga K "Hall"
theorem n12 : ¬ (("string_rows" : Str) = "step_rows") := by decide +kernel
theorem n13 : ¬ (("string_rows" : Str) = "weights") := by decide +kernel
theorem n23 : ¬ (("step_rows" : Str) = "weights") := by decide +kernel
def flds (a1 a2 a3 : Addr) : List (Str × V) := putF "weights" (.ref a3) (putF "step_rows" (.ref a2) (putF "string_rows" (.ref a1) []))
theorem flds_1 (a1 a2 a3 : Addr) : (flds a1 a2 a3).lookup ("string_rows" : Str) = some (.ref a1) := by
  unfold flds
  rw [lookup_putF, if_neg n13, lookup_putF, if_neg n12, lookup_putF, if_pos rfl]
theorem flds_2 (a1 a2 a3 : Addr) : (flds a1 a2 a3).lookup ("step_rows" : Str) = some (.ref a2) := by
  unfold flds
  rw [lookup_putF, if_neg n23, lookup_putF, if_pos rfl]
theorem flds_3 (a1 a2 a3 : Addr) : (flds a1 a2 a3).lookup ("weights" : Str) = some (.ref a3) := by
  unfold flds
  rw [lookup_putF, if_pos rfl]
theorem flds_no (a1 a2 a3 : Addr) {m : Str} (h1 : ¬ m = "weights") (h2 : ¬ m = "step_rows") (h3 : ¬ m = "string_rows") : (flds a1 a2 a3).lookup m = none := by
  unfold flds
  rw [lookup_putF, if_neg h1, lookup_putF, if_neg h2, lookup_putF, if_neg h3]
  rfl
structure HallAt (K : PySem.W.Frag) (bs : List Addr) (H : Hp) (x : Addr) (rows steps : List (List Int)) (ws : List Int) : Prop where
  ls : steps.length = rows.length
  ex : ∃ dx a1 a2 a3, H x = some (.ins (C0 K) dx (flds a1 a2 a3)) ∧ x ∉ bs ∧ D bs H 12 2 (.ref a1) (dTT rows) ∧ D bs H 12 2 (.ref a2) (dTT steps) ∧ D bs H 12 1 (.ref a3) (dT ws)
theorem HallAt.keep {bs : List Addr} {H H' : Hp} {x : Addr} {rows steps : List (List Int)} {ws : List Int} (h : HallAt K bs H x rows steps ws) (k : Kp bs H H') : HallAt K bs H' x rows steps ws := by
  obtain ⟨dx, a1, a2, a3, e, n, d1, d2, d3⟩ := h.ex
  exact ⟨h.ls, dx, a1, a2, a3, k _ _ e n, n, d1.keep k, d2.keep k, d3.keep k⟩
def sp_init (K : PySem.W.Frag) : Sp := fun vs H Q _ => ∃ (x dx p s wa : Addr) (rows steps : List (List Int)) (ws : List Int) (c c2 : Nat) (cs bs : List Addr), vs = [.ref x, .ref p, .ref s, .ref wa] ∧ H x = some (.ins (C0 K) dx []) ∧
  D cs H 12 2 (.ref p) (dII rows) ∧ D cs H 12 2 (.ref s) (dII steps) ∧ D cs H 12 1 (.ref wa) (dI ws) ∧ HallData c c2 rows steps ws ∧ (∀ b ∈ bs, ∃ o, H b = some o) ∧ x ∉ bs ∧
  ∀ H', HallAt K bs H' x rows steps ws → Kp [x] H H' → Q .non H'
theorem ok_init (T : Tx K mg) : FnOk P w K mg base CX0 5 (He.fAd K ("Hall", some "__init__")) T.fd_Hall___init__ p_Hall___init__ (sp_init K) := by
  have G_are_strings := ok_strings (P := P) (w := w) (base := base) T
  have G_are_steps := ok_steps (P := P) (w := w) (base := base) T
  have G_is_memory := ok_memory (P := P) (w := w) (base := base) T
  have G_as_tuples := ok_tuples (P := P) (w := w) (base := base) T
  refine T.F_Hall___init__.ok sc_Hall___init__ (fun vs H Q E h => ?_) (fun cdv A outer s H vs Q E hr h => ?_)
  · obtain ⟨_, _, _, _, _, _, _, _, _, _, _, _, rfl, _⟩ := h
    rfl
  · obtain ⟨x, dx, p, sa, wa, rows, steps, ws, c, c2, cs, bs, rfl, hx, dP, dS, dW, hd, hbs, nx, q⟩ := h
    refine ⟨_, PSs.nox (pss_cons (ps_if (pt_not (pt_val (pe_call G_are_strings (hr.mono (by first | decide | omega)) rfl T.g_are_strings T.F_are_strings.kp T.bd_are_strings .nil pass0 (pa_cons (pv 1) pa_nil))))
      (pss_one ps_never)
      pss_nil)
      (pss_cons (ps_if (pt_not (pt_val (pe_call G_are_steps (hr.mono (by first | decide | omega)) rfl T.g_are_steps T.F_are_steps.kp T.bd_are_steps .nil pass0 (pa_cons (pv 2) (pa_cons (pe_callB call_len (by rfl) T.b_len (by decide +kernel) (pa_cons (pv 1) pa_nil)) pa_nil)))))
      (pss_one ps_never)
      pss_nil)
      (pss_cons (ps_if (pt_not (pt_val (pe_call G_is_memory (hr.mono (by first | decide | omega)) rfl T.g_is_memory T.F_is_memory.kp T.bd_is_memory .nil pass0 (pa_cons (pv 3) pa_nil))))
      (pss_one ps_never)
      pss_nil)
      (pss_cons (ps_fld (pv 0) (pe_call G_as_tuples (hr.mono (by first | decide | omega)) rfl T.g_as_tuples T.F_as_tuples.kp T.bd_as_tuples .nil pass0 (pa_cons (pv 1) pa_nil)) rfl)
      (pss_cons (ps_fld (pv 0) (pe_call G_as_tuples (hr.mono (by first | decide | omega)) rfl T.g_as_tuples T.F_as_tuples.kp T.bd_as_tuples .nil pass0 (pa_cons (pv 2) pa_nil)) rfl)
      (pss_one (ps_fld (pv 0) (pe_callTy call_tuple_of (by rfl) T.b_tuple (by decide +kernel) (pa_cons (pv 3) pa_nil)) rfl))))))), ?_⟩
    refine ⟨_, rfl, p, rows, cs, rfl, dP, by have := hd.lr; have := hd.c1; omega, (fun r hr => by rw [(hd.row r hr).1, hd.lr]), fun H1 k1 => ⟨_, rfl, ?_⟩⟩
    refine iteF ?_
    have dP1 := dP.keep (k1.sub (by simp))
    have dS1 := dS.keep (k1.sub (by simp))
    obtain ⟨a, xs, k', e, ek, hp1, _, lx, _, _⟩ := dP1.rows
    cases e
    have el : (rows.length : Int) = (steps.length : Int) := by rw [hd.lr, hd.ls]
    refine ⟨_, rfl, _, rfl, _, rows.length, rfl, .inl ⟨_, SqL.of hp1, lx.symm⟩, sa, steps, cs, (by rw [el]; rfl), dS1, hd.step, fun H2 k2 => ⟨_, rfl, ?_⟩⟩
    refine iteF ?_
    refine ⟨_, rfl, wa, ws, cs, rfl, dW.keep ((k1.trans k2).sub (by simp)), by have := hd.lw; have := hd.w1; omega, by have := hd.lw; have := hd.w5; omega, hd.last, fun H3 k3 => ⟨_, rfl, ?_⟩⟩
    refine iteF ?_
    have k13 : Kp [] H H3 := k1.trans (k2.trans k3)
    have bs3 : ∀ b ∈ x :: bs, ∃ o, H3 b = some o := fun b hb => by
      rcases List.mem_cons.mp hb with z | z
      · exact ⟨_, by rw [z]; exact k13 _ _ hx (by simp)⟩
      · obtain ⟨o, e⟩ := hbs b z
        exact ⟨o, k13 _ _ e (by simp)⟩
    -- self.string_rows = as_tuples(strings)
    refine ⟨_, rfl, p, rows, cs, x :: bs, rfl, dP.keep (k13.sub (by simp)), bs3, fun a1 H4 f4 k4 d4 => ?_⟩
    have hx4 : H4 x = some (.ins (C0 K) dx []) := (k13.trans k4) _ _ hx (by simp)
    refine ⟨_, rfl, x, C0 K, dx, [], rfl, hx4, T.cl_Hall, T.na_Hall_string_rows, (by show 0 < 1000; decide), ?_⟩
    have k5 : ∀ cs, Kp (x :: cs) H4 (upd H4 x (.ins (C0 K) dx (putF "string_rows" (.ref a1) []))) := fun cs => Kp.rfl'.put (by simp)
    have k04 : Kp [] H H4 := k13.trans k4
    have bs5 : ∀ b ∈ x :: bs, ∃ o, (upd H4 x (.ins (C0 K) dx (putF "string_rows" (.ref a1) []))) b = some o := fun b hb => by
      by_cases z : b = x
      · exact ⟨_, by rw [z]; exact upd_same⟩
      · obtain ⟨o, e⟩ := bs3 b hb
        exact ⟨o, by rw [upd_ne z]; exact k4 _ _ e (by simp)⟩
    have dS5 := ((dS.noIns hx).keep (k04.sub (by simp))).keep (k5 cs)
    have dW5 := ((dW.noIns hx).keep (k04.sub (by simp))).keep (k5 cs)
    have d5 := d4.keep (k5 bs)
    refine ⟨_, rfl, sa, steps, x :: cs, x :: bs, rfl, dS5, bs5, fun a2 H6 f6 k6 d6 => ?_⟩
    have hx6 := k6 _ _ upd_same (show x ∉ [] by simp)
    refine ⟨_, rfl, x, C0 K, dx, _, rfl, hx6, T.cl_Hall, T.na_Hall_step_rows, (by show 1 < 1000; decide), ?_⟩
    have k7 : ∀ cs, Kp (x :: cs) H6 (upd H6 x (.ins (C0 K) dx (putF "step_rows" (.ref a2) (putF "string_rows" (.ref a1) [])))) := fun cs => Kp.rfl'.put (by simp)
    have dW7 := (dW5.keep (k6.sub (by simp))).keep (k7 cs)
    have d57 := (d5.keep (k6.sub (by simp))).keep (k7 bs)
    have d67 := d6.keep (k7 bs)
    obtain ⟨aw, ew, hw7, _, lw7⟩ := dW7.ints
    cases ew
    refine ⟨_, rfl, wa, _, rfl, .inl ⟨SqL.of hw7, fun a3 h8 => ?_⟩⟩
    have na3 : a3 ∉ x :: bs := fun m => by
      rcases List.mem_cons.mp m with z | z
      · rw [z, upd_same] at h8
        cases h8
      · obtain ⟨o, e⟩ := bs5 a3 m
        by_cases y : a3 = x
        · rw [y, upd_same] at h8
          cases h8
        · rw [upd_ne y, k6 _ _ e (by simp)] at h8
          cases h8
    have k8 : ∀ cs, Kp cs (upd H6 x (.ins (C0 K) dx (putF "step_rows" (.ref a2) (putF "string_rows" (.ref a1) [])))) (upd (upd H6 x (.ins (C0 K) dx (putF "step_rows" (.ref a2) (putF "string_rows" (.ref a1) [])))) a3 (.tup (ws.map V.int))) := fun cs => Kp.rfl'.new h8
    have nx3 : x ≠ a3 := fun z => na3 (by rw [z]; simp)
    have hx8 : (upd (upd H6 x (.ins (C0 K) dx (putF "step_rows" (.ref a2) (putF "string_rows" (.ref a1) [])))) a3 (.tup (ws.map V.int))) x = some (.ins (C0 K) dx (putF "step_rows" (.ref a2) (putF "string_rows" (.ref a1) []))) := by
      rw [upd_ne nx3, upd_same]
    refine ⟨_, rfl, x, C0 K, dx, _, rfl, hx8, T.cl_Hall, T.na_Hall_weights, Nat.lt_of_le_of_lt (putF_le _ _ _) (by show 2 < 1000; decide), ?_⟩
    have k9 : ∀ (cs : List Addr) (o : HO), Kp (x :: cs) (upd (upd H6 x (.ins (C0 K) dx (putF "step_rows" (.ref a2) (putF "string_rows" (.ref a1) [])))) a3 (.tup (ws.map V.int))) (upd (upd (upd H6 x (.ins (C0 K) dx (putF "step_rows" (.ref a2) (putF "string_rows" (.ref a1) [])))) a3 (.tup (ws.map V.int))) x o) := fun cs o => Kp.rfl'.put (by simp)
    have sub1 : ∀ a, a ∈ bs → a ∈ x :: bs := fun a h => List.mem_cons_of_mem _ h
    refine q _ ⟨hd.ls.trans hd.lr.symm, dx, a1, a2, a3, upd_same, nx, ((d57.keep (k8 _)).keep (k9 bs _)).less sub1, ((d67.keep (k8 _)).keep (k9 bs _)).less sub1, ((D.tup (k := 0) upd_same na3 (by simpa using lw7) (DA.ofInts dW.small)).keep (k9 bs _)).less sub1⟩ ?_
    exact ((((k04.sub (by simp)).trans (k5 [])).trans (k6.sub (by simp))).trans (k7 [])).trans ((k8 [x]).trans (k9 [] _))
def sp_get (K : PySem.W.Frag) (f : Addr → Addr → Addr → Addr) : Sp := fun vs H Q _ => ∃ (x dx a1 a2 a3 : Addr), vs = [.ref x] ∧ H x = some (.ins (C0 K) dx (flds a1 a2 a3)) ∧ Q (.ref (f a1 a2 a3)) H
theorem ok_getm (T : Tx K mg) : FnOk P w K mg base CX0 1 (He.fAd K ("Hall", some "memory")) T.fd_Hall_memory p_Hall_memory (sp_get K fun _ _ a => a) := by
  refine T.F_Hall_memory.ok sc_Hall_memory (fun vs H Q E h => ?_) (fun cdv A outer s H vs Q E hr h => ?_)
  · obtain ⟨_, _, _, _, _, rfl, _⟩ := h
    rfl
  · obtain ⟨x, dx, a1, a2, a3, rfl, hx, q⟩ := h
    refine ⟨_, PSs.nox (pss_one (ps_ret (pe_fld (pv 0) rfl))), ?_⟩
    exact ⟨_, rfl, x, C0 K, dx, _, _, rfl, hx, T.cl_Hall, T.na_Hall_weights, flds_3 _ _ _, q⟩
theorem DA.trowAt {bs : List Addr} {H : Hp} {w k : Nat} {xs : List V} {rows : List (List Int)} {i : Nat} {x : V} (t : DA bs H w k xs (rows.map dT)) (h : xs[i]? = some x) : ∃ r a, rows[i]? = some r ∧ x = .ref a ∧ H a = some (.tup (r.map V.int)) ∧ r.length ≤ w := by
  obtain ⟨d, hd, hx⟩ := t.get h
  rw [List.getElem?_map] at hd
  obtain ⟨r, hr, rfl⟩ := Option.map_eq_some_iff.mp hd
  cases hx with
  | tup h1 n l t2 =>
    have e := DA.ints t2
    subst e
    exact ⟨r, _, hr, rfl, h1, by simpa using l⟩
def topsOf (steps : List (List Int)) : List Int := steps.map fun r => (r.length : Int)
def sp_tops (K : PySem.W.Frag) : Sp := fun vs H Q _ => ∃ (x : Addr) (rows steps : List (List Int)) (ws : List Int) (bs : List Addr), vs = [.ref x] ∧ HallAt K bs H x rows steps ws ∧
  ∀ (p : Addr) (H' : Hp), H p = none → Kp [] H H' → H' p = some (.tup ((topsOf steps).map V.int)) → Q (.ref p) H'
theorem ok_tops (T : Tx K mg) : FnOk P w K mg base CX0 1 (He.fAd K ("Hall", some "tops")) T.fd_Hall_tops p_Hall_tops (sp_tops K) := by
  refine T.F_Hall_tops.ok sc_Hall_tops (fun vs H Q E h => ?_) (fun cdv A outer s H vs Q E hr h => ?_)
  · obtain ⟨_, _, _, _, _, rfl, _⟩ := h
    rfl
  · obtain ⟨x, rows, steps, ws, bs, rfl, hA, q⟩ := h
    obtain ⟨dx, a1, a2, a3, hx, nx, d1, d2, d3⟩ := hA.ex
    refine ⟨_, PSs.nox (pss_one (ps_ret (pe_callTy call_tuple_of (by rfl) T.b_tuple (by decide +kernel) (pa_cons (pe_lc (own := [("row", 1)]) (g := (gName 1)) (tt := tYes) rfl sc_Hall_tops.nd (pi_tup (pe_fld (pv 0) rfl)) (blkOk_by (own := [("row", 1)]) (N := n_Hall_tops) (sc := defScope s_Hall_tops) (by decide +kernel)) (fun _ _ _ _ _ => (pg_name (i := 1) sc_Hall_tops.nd rfl (by first | exact Or.inl rfl | exact Or.inr rfl))) (fun _ _ _ _ _ => pts_nil) (fun _ _ _ _ _ => (pe_callB (kLen (K := K) rfl) (by rfl) T.b_len (by decide +kernel) (pa_cons (pv 1) pa_nil)))) pa_nil)))), ?_⟩
    cases d2 with
    | @tup _ _ xs _ h2 n2 l2 t2 =>
    refine ⟨_, rfl, x, C0 K, dx, _, _, rfl, hx, T.cl_Hall, T.na_Hall_step_rows, flds_2 _ _ _, a2, rfl, ⟨_, SqT.of h2⟩, fun p hp => lc_tup (K := K) (a := a2) (xs := xs) (fun j H3 => H3 p = some (.lst ((topsOf (steps.take j)).map V.int)) ∧ Kp [] H H3) ?_ ?_ ?_ ?_⟩
    · exact ⟨by rw [upd_same]; rfl, Kp.rfl'.new hp⟩
    · rintro j H3 _ ⟨_, k3⟩
      exact SqT.of (k3 _ _ h2 (by simp))
    · rintro j y H3 hj ⟨h3, k3⟩
      obtain ⟨r, ra, hr2, rfl, hR, _⟩ := t2.trowAt hj
      have hjl := (List.getElem?_eq_some_iff.mp hj).1
      refine ⟨rfl, yesT ⟨_, rfl, _, r.length, rfl, .inr ⟨_, SqT.of (k3 _ _ hR (by simp)), by simp⟩, _, h3, ?_, ?_, k3.own hp⟩⟩
      · simp only [topsOf, List.length_map, List.length_take]
        exact small1000 (by omega)
      · rw [upd_same, List.take_add_one, hr2]
        simp [topsOf]
    · rintro H3 ⟨h3, k3⟩
      have ls := DA.len t2
      rw [List.length_map] at ls
      rw [ls, List.take_length] at h3
      refine ⟨p, _, rfl, .inl ⟨SqL.of h3, fun l hl => ?_⟩⟩
      exact q l _ (k3.free hl (by simp)) (k3.new hl) upd_same
def sp_len (K : PySem.W.Frag) : Sp := fun vs H Q _ => ∃ (x : Addr) (rows steps : List (List Int)) (ws : List Int) (bs : List Addr), vs = [.ref x] ∧ HallAt K bs H x rows steps ws ∧ Q (.int (steps.length : Int)) H
theorem ok_len (T : Tx K mg) : FnOk P w K mg base CX0 1 (He.fAd K ("Hall", some "__len__")) T.fd_Hall___len__ p_Hall___len__ (sp_len K) := by
  refine T.F_Hall___len__.ok sc_Hall___len__ (fun vs H Q E h => ?_) (fun cdv A outer s H vs Q E hr h => ?_)
  · obtain ⟨_, _, _, _, _, rfl, _⟩ := h
    rfl
  · obtain ⟨x, rows, steps, ws, bs, rfl, hA, q⟩ := h
    obtain ⟨dx, a1, a2, a3, hx, _, d1, d2, d3⟩ := hA.ex
    refine ⟨_, PSs.nox (pss_one (ps_ret (pe_callB call_len (by rfl) T.b_len (by decide +kernel) (pa_cons (pe_fld (pv 0) rfl) pa_nil)))), ?_⟩
    cases d1 with
    | @tup _ _ xs _ h1 _ _ t1 =>
    have l1 := DA.len t1
    rw [List.length_map] at l1
    exact ⟨_, rfl, x, C0 K, dx, _, _, rfl, hx, T.cl_Hall, T.na_Hall_string_rows, flds_1 _ _ _, _, steps.length, rfl, .inr ⟨_, SqT.of h1, by rw [l1]; exact hA.ls⟩, q⟩

end
end Sw

set_option maxHeartbeats 2000000
namespace Sw
open PySem PySem.Spec PyProof.Rows L2
section
variable {P : Program} {w : World} {K : PySem.W.Frag} {mg : Str → Option Value} {base : Heap}
def stOne (e : PyData) (t : Int) : Bool := match e with
  | .int i => decide (0 ≤ i) && decide (i ≤ t)
  | _ => false
def stAll (ds : List PyData) (tops : List Int) : List Bool := (ds.zip tops).map fun p => stOne p.1 p.2
def isSt (tops : List Int) (d : PyData) : Bool := match d with
  | .tuple ds => decide (ds.length = tops.length) && (stAll ds tops).all id
  | _ => false
def isPs (tops : List Int) (n : Nat) (d : PyData) : Bool := match d with
  | .list ds => decide (ds.length = n) && ds.all (isSt tops)
  | _ => false
theorem isSt_not {tops : List Int} {d : PyData} (h : isTup d = false) : isSt tops d = false := by
  cases d <;> first | rfl | cases h
theorem isPs_not {tops : List Int} {n : Nat} {d : PyData} (h : isLst d = false) : isPs tops n d = false := by
  cases d <;> first | rfl | cases h
def sp_stand (K : PySem.W.Frag) : Sp := fun vs H Q _ => ∃ (x : Addr) (v : V) (d : PyData) (rows steps : List (List Int)) (ws : List Int) (bs cs : List Addr) (w k : Nat), vs = [.ref x, v] ∧ HallAt K bs H x rows steps ws ∧ D cs H w k v d ∧ w ≤ 1000 ∧
  ∀ H', Kp [] H H' → Q (.bl (isSt (topsOf steps) d)) H'
def sp_post (K : PySem.W.Frag) : Sp := fun vs H Q _ => ∃ (x : Addr) (j : Nat) (v : V) (d : PyData) (z : Int) (rows steps : List (List Int)) (ws : List Int) (bs cs : List Addr) (w k : Nat), vs = [.ref x, .int j, v] ∧ HallAt K bs H x rows steps ws ∧ D cs H w k v d ∧ w ≤ 1000 ∧ (topsOf steps)[j]? = some z ∧
  ∀ H', Kp [] H H' → Q (.bl (stOne d z)) H'
theorem ok_post (T : Tx K mg) : FnOk P w K mg base CX0 2 (He.fAd K ("is_posture", none)) T.fd_is_posture p_is_posture (sp_post K) := by
  have G_is_number := ok_is_number (P := P) (w := w) (base := base) T
  have G_Hall_tops := ok_tops (P := P) (w := w) (base := base) T
  refine T.F_is_posture.ok sc_is_posture (fun vs H Q E h => ?_) (fun cdv A outer s H vs Q E hr h => ?_)
  · obtain ⟨_, _, _, _, _, _, _, _, _, _, _, _, rfl, _⟩ := h
    rfl
  · obtain ⟨x, j, v, d, z, rows, steps, ws, bs, cs, w', k, rfl, hA, hD, lw, ez, q⟩ := h
    refine ⟨_, PSs.nox (pss_one (ps_ret (pe_and (pe_call G_is_number (hr.mono (by first | decide | omega)) rfl T.g_is_number T.F_is_number.kp T.bd_is_number .nil pass0 (pa_cons (pv 2) pa_nil)) (pe_one (pe_chain op_le op_le pe_int (pv 2) (pe_ix ix_tup (pe_meth0 (pv 0) T.cl_Hall T.m_Hall_tops G_Hall_tops (hr.mono (by first | decide | omega)) T.bd_Hall_tops .nil pass0) (pv 1) (fun _ _ => rfl))))))), ?_⟩
    refine ⟨_, rfl, v, d, cs, w', k, rfl, hD, lw, fun H1 k1 => ⟨_, rfl, ?_⟩⟩
    obtain ⟨dx, a1, a2, a3, hx, _⟩ := id (hA.keep (k1.sub (by simp))).ex
    have hA1 := hA.keep (k1.sub (by simp))
    cases hD with
    | int i hi =>
      refine iteT ⟨_, rfl, _, _, rfl, rfl, _, rfl, ?_⟩
      by_cases c0 : 0 ≤ i
      · refine iteC (by simp [c0]) ⟨_, rfl, x, dx, _, rfl, hx, flds_no _ _ _ (by decide +kernel) (by decide +kernel) (by decide +kernel), x, rows, steps, ws, bs, rfl, hA1, fun p H2 f2 k2 h2 => ?_⟩
        have at1 : atI ((topsOf steps).map V.int) (j : Int) = some (.int z) := atI_nat (by rw [List.getElem?_map, ez]; rfl)
        have e0 : stOne (.int i) z = decide (i ≤ z) := by simp [stOne, c0]
        have f := q H2 (k1.trans k2)
        rw [e0] at f
        exact ⟨_, rfl, p, _, _, _, rfl, rfl, SqT.of h2, at1, _, _, rfl, rfl, f⟩
      · refine iteN (by simp [c0]) ?_
        have e0 : stOne (.int i) z = false := by simp [stOne, c0]
        have f := q H1 k1
        rw [e0] at f
        exact f
    | _ => exact iteF (q H1 k1)
theorem ok_stand (T : Tx K mg) : FnOk P w K mg base CX0 3 (He.fAd K ("is_standing", none)) T.fd_is_standing p_is_standing (sp_stand K) := by
  have G_is_posture := ok_post (P := P) (w := w) (base := base) T
  have G_len := ok_len (P := P) (w := w) (base := base) T
  refine T.F_is_standing.ok sc_is_standing (fun vs H Q E h => ?_) (fun cdv A outer s H vs Q E hr h => ?_)
  · obtain ⟨_, _, _, _, _, _, _, _, _, _, rfl, _⟩ := h
    rfl
  · obtain ⟨x, v, d, rows, steps, ws, bs, cs, w', k, rfl, hA, hD, lw, q⟩ := h
    refine ⟨_, PSs.nox (pss_cons (ps_if (PW.pt (pw_or (pt_not (pt_val (pe_callB call_isi (by rfl) T.b_isinstance (by decide +kernel) (pa_cons (pv 1) (pa_cons (pe_bltn (v := .ty "tuple") (by rfl) T.b_tuple (by decide +kernel) rfl) pa_nil))))) (pw_or1 (pt_cmpR op_ne (pe_callB call_len (by rfl) T.b_len (by decide +kernel) (pa_cons (pv 1) pa_nil)) (pe_callB (call_lenO T.m_Hall___len__ G_len (hr.mono (by first | decide | omega)) T.bd_Hall___len__) (by rfl) T.b_len (by decide +kernel) (pa_cons (pv 0) pa_nil)) (nomark _)))))
      (pss_one (ps_ret pe_bl))
      pss_nil)
      (pss_one (ps_ret (pe_callB (cr_all rfl) (by rfl) T.b_all (by decide +kernel) (pa_cons (pe_lc (own := [("person", 2), ("one", 3)]) (g := (gTup K 2 (gCons (gName 2) (gCons (gName 3) gNil)))) (tt := tYes) rfl sc_is_standing.nd (pi_enumT (by rfl) T.b_enumerate (pa_cons (pv 1) pa_nil)) (blkOk_by (own := [("person", 2), ("one", 3)]) (N := n_is_standing) (sc := defScope s_is_standing) (by decide +kernel)) (fun _ _ _ _ _ => (pg_tup rfl (pgs_cons (pg_name (i := 2) sc_is_standing.nd rfl (by first | exact Or.inl rfl | exact Or.inr rfl)) (pgs_cons (pg_name (i := 3) sc_is_standing.nd rfl (by first | exact Or.inl rfl | exact Or.inr rfl)) pgs_nil)))) (fun _ _ _ _ _ => pts_nil) (fun _ _ _ _ _ => (pe_call G_is_posture (hr.mono (by first | decide | omega)) rfl T.g_is_posture T.F_is_posture.kp T.bd_is_posture .nil pass0 (pa_cons (pv 0) (pa_cons (pv 2) (pa_cons (pv 3) pa_nil)))))) pa_nil))))), ?_⟩
    obtain ⟨dx, a1, a2, a3, hx, _, _, d2, _⟩ := id hA.ex
    have lsz : steps.length ≤ 12 := by
      cases d2 with
      | tup _ _ l t =>
        have := DA.len t
        rw [List.length_map] at this
        omega
    refine ⟨_, rfl, _, _, _, _, _, rfl, .ty _, hD.tyx, hD.kT, _, rfl, ?_⟩
    cases ht : isTup d with
    | false =>
      refine iteT (iteT ?_)
      rw [← isSt_not ht]
      exact q _ Kp.rfl'
    | true =>
      refine iteF ?_
      cases hD with
      | @tup k' a xs ds h n l da =>
        have lx := DA.len da
        have ltp : (topsOf steps).length = steps.length := by simp [topsOf]
        refine ⟨_, rfl, _, ds.length, rfl, .inr ⟨_, SqT.of h, lx.symm⟩, _, rfl, x, dx, _, rfl, hx, x, rows, steps, ws, bs, rfl, hA, _, rfl, by omega, by omega, rfl, _, rfl, ?_⟩
        by_cases hl : ds.length = (topsOf steps).length
        · refine iteN (by simp [hl, ltp]) ?_
          refine ⟨_, rfl, a, xs, rfl, SqT.of h, fun c hc => lc_it (walk_enumT (K := K) (a := a) (xs := xs)) (fun j H3 => H3 c = some (.lst (((stAll ds (topsOf steps)).take j).map V.bl)) ∧ Kp [] H H3) ?_ ?_ ?_ ?_⟩
          · exact ⟨by rw [upd_same]; rfl, Kp.rfl'.new hc⟩
          · rintro j H3 _ ⟨_, k3⟩
            exact SqT.of (k3 _ _ h (by simp))
          · rintro j y H3 H4 hj ⟨h3, k3⟩ ⟨t, y1, y2, rfl, ft, rfl, e1, e2⟩
            cases e1
            have e2 : xs[j]? = some y2 := e2
            obtain ⟨e, he, hy⟩ := da.get e2
            have lj : j < (topsOf steps).length := by omega
            have hz : (topsOf steps)[j]? = some (topsOf steps)[j] := by simp
            have kt : ∀ cs, Kp cs H3 (upd H3 t (.tup [.int (j : Nat), y2])) := fun cs => Kp.rfl'.new ft
            have ez : (stAll ds (topsOf steps))[j]? = some (stOne e (topsOf steps)[j]) := by
              rw [stAll, List.getElem?_map, (List.getElem?_zip_eq_some (i := j) (z := (e, (topsOf steps)[j]))).mpr ⟨he, hz⟩]
              rfl
            refine ⟨t, _, rfl, SqT.of upd_same, rfl, _, _, rfl, _, _, rfl, rfl, rfl, yesT ⟨_, rfl, _, rfl, _, rfl, x, j, y2, e, _, rows, steps, ws, bs, cs, w', k', rfl, (hA.keep (k3.sub (by simp))).keep (kt _), (hy.keep (k3.sub (by simp))).keep (kt _), lw, hz, fun H5 k5 => ⟨_, k5 _ _ (kt [] _ _ h3 (by simp)) (by simp), ?_, ?_, ((k3.trans (kt [])).trans k5).own hc⟩⟩⟩
            · simp only [List.length_map, List.length_take]
              exact small1000 (by omega)
            · rw [upd_same, List.take_add_one, ez]
              simp only [Option.toList_some, List.map_append, List.map_cons, List.map_nil]
          · rintro H3 ⟨h3, k3⟩
            have e : (stAll ds (topsOf steps)).take xs.length = stAll ds (topsOf steps) := List.take_of_length_le (by simp [stAll, hl, lx])
            rw [e] at h3
            refine ⟨c, _, rfl, SqL.of h3, ?_⟩
            have e2 : isSt (topsOf steps) (.tuple ds) = (stAll ds (topsOf steps)).all id := by simp [isSt, hl]
            rw [← e2]
            exact q _ k3
        · refine iteC (by simp; omega) ?_
          have e2 : isSt (topsOf steps) (.tuple ds) = false := by simp [isSt, hl]
          rw [← e2]
          exact q _ Kp.rfl'
      | _ => cases ht
def sp_past (K : PySem.W.Frag) : Sp := fun vs H Q _ => ∃ (x : Addr) (v : V) (d : PyData) (rows steps : List (List Int)) (ws : List Int) (bs cs : List Addr) (w k : Nat), vs = [.ref x, v] ∧ HallAt K bs H x rows steps ws ∧ D cs H w k v d ∧ w ≤ 1000 ∧
  ∀ H', Kp [] H H' → Q (.bl (isPs (topsOf steps) ws.length d)) H'
theorem ok_ispast (T : Tx K mg) : FnOk P w K mg base CX0 4 (He.fAd K ("is_past", none)) T.fd_is_past p_is_past (sp_past K) := by
  have G_is_standing := ok_stand (P := P) (w := w) (base := base) T
  have G_Hall_memory := ok_getm (P := P) (w := w) (base := base) T
  refine T.F_is_past.ok sc_is_past (fun vs H Q E h => ?_) (fun cdv A outer s H vs Q E hr h => ?_)
  · obtain ⟨_, _, _, _, _, _, _, _, _, _, rfl, _⟩ := h
    rfl
  · obtain ⟨x, v, d, rows, steps, ws, bs, cs, w', k, rfl, hA, hD, lw, q⟩ := h
    refine ⟨_, PSs.nox (pss_cons (ps_if (PW.pt (pw_or (pt_not (pt_val (pe_callB call_isi (by rfl) T.b_isinstance (by decide +kernel) (pa_cons (pv 1) (pa_cons (pe_bltn (v := .ty "list") (by rfl) T.b_list (by decide +kernel) rfl) pa_nil))))) (pw_or1 (pt_cmpR op_ne (pe_callB call_len (by rfl) T.b_len (by decide +kernel) (pa_cons (pv 1) pa_nil)) (pe_callB call_len (by rfl) T.b_len (by decide +kernel) (pa_cons (pe_meth0 (pv 0) T.cl_Hall T.m_Hall_memory G_Hall_memory (hr.mono (by first | decide | omega)) T.bd_Hall_memory .nil pass0) pa_nil)) (nomark _)))))
      (pss_one (ps_ret pe_bl))
      pss_nil)
      (pss_one (ps_ret (pe_callB (cr_all rfl) (by rfl) T.b_all (by decide +kernel) (pa_cons (pe_lc (own := [("one", 2)]) (g := (gName 2)) (tt := tYes) rfl sc_is_past.nd (pi_list (pv 1)) (blkOk_by (own := [("one", 2)]) (N := n_is_past) (sc := defScope s_is_past) (by decide +kernel)) (fun _ _ _ _ _ => (pg_name (i := 2) sc_is_past.nd rfl (by first | exact Or.inl rfl | exact Or.inr rfl))) (fun _ _ _ _ _ => pts_nil) (fun _ _ _ _ _ => (pe_call G_is_standing (hr.mono (by first | decide | omega)) rfl T.g_is_standing T.F_is_standing.kp T.bd_is_standing .nil pass0 (pa_cons (pv 0) (pa_cons (pv 2) pa_nil))))) pa_nil))))), ?_⟩
    obtain ⟨dx, a1, a2, a3, hx, _, _, _, d3⟩ := id hA.ex
    refine ⟨_, rfl, _, _, _, _, _, rfl, .ty _, hD.tyx, hD.kL, _, rfl, ?_⟩
    cases ht : isLst d with
    | false =>
      refine iteT (iteT ?_)
      rw [← isPs_not ht]
      exact q _ Kp.rfl'
    | true =>
      refine iteF ?_
      cases d3 with
      | @tup _ _ wv _ hw3 _ _ t3 =>
      have lw3 := DA.len t3
      rw [List.length_map] at lw3
      cases hD with
      | @lst k' a xs ds h n l da =>
        have lx := DA.len da
        refine ⟨_, rfl, _, ds.length, rfl, .inl ⟨_, SqL.of h, lx.symm⟩, _, rfl, x, dx, _, rfl, hx, flds_no _ _ _ (by decide +kernel) (by decide +kernel) (by decide +kernel), x, dx, a1, a2, a3, rfl, hx, _, ws.length, rfl, .inr ⟨_, SqT.of hw3, lw3.symm⟩, rfl, _, rfl, ?_⟩
        by_cases hl : ds.length = ws.length
        · refine iteN (by simp [hl]) ?_
          refine ⟨_, rfl, a, rfl, ⟨_, SqL.of h⟩, fun c hc => lc_list (K := K) (a := a) (xs := xs) (fun j H3 => H3 c = some (.lst (((ds.take j).map (isSt (topsOf steps))).map V.bl)) ∧ Kp [] H H3) ?_ ?_ ?_ ?_⟩
          · exact ⟨by rw [upd_same]; rfl, Kp.rfl'.new hc⟩
          · rintro j H3 _ ⟨_, k3⟩
            exact SqL.of (k3 _ _ h (by simp))
          · rintro j y H3 hj ⟨h3, k3⟩
            obtain ⟨e, he, hy⟩ := da.get hj
            have hjl := (List.getElem?_eq_some_iff.mp hj).1
            refine ⟨rfl, yesT ⟨_, rfl, _, rfl, x, y, e, rows, steps, ws, bs, cs, w', k', rfl, hA.keep (k3.sub (by simp)), hy.keep (k3.sub (by simp)), lw, fun H4 k4 => ⟨_, k4 _ _ h3 (by simp), ?_, ?_, ?_⟩⟩⟩
            · simp only [List.length_map, List.length_take]
              exact small1000 (by omega)
            · rw [upd_same, List.take_add_one, he]
              simp
            · exact (k3.trans k4).own hc
          · rintro H3 ⟨h3, k3⟩
            rw [lx, List.take_length] at h3
            refine ⟨c, _, rfl, SqL.of h3, ?_⟩
            have e : (ds.map (isSt (topsOf steps))).all id = isPs (topsOf steps) ws.length (.list ds) := by simp [isPs, hl, List.all_map, Function.comp_def]
            rw [e]
            exact q _ k3
        · refine iteC (by simp; omega) ?_
          have e2 : isPs (topsOf steps) ws.length (.list ds) = false := by simp [isPs, hl]
          rw [← e2]
          exact q _ Kp.rfl'
      | _ => cases ht

end
end Sw

set_option maxHeartbeats 2000000
namespace Sw
open PySem PySem.Spec PyProof.Rows L2
section
variable {P : Program} {w : World} {K : PySem.W.Frag} {mg : Str → Option Value} {base : Heap}
def sp_stands : Sp := fun vs H Q _ => ∃ (sa : Addr) (v : V) (d : PyData) (steps : List (List Int)) (bs cs : List Addr) (w k : Nat), vs = [.ref sa, v] ∧ D bs H 12 2 (.ref sa) (dII steps) ∧ D cs H w k v d ∧ w ≤ 1000 ∧
  ∀ H', Kp [] H H' → Q (.bl (isSt (topsOf steps) d)) H'
theorem ok_stands (T : Tx K mg) : FnOk P w K mg base CX0 1 (He.fAd K ("_law_stands", none)) T.fd__law_stands p__law_stands sp_stands := by
  refine T.F__law_stands.ok sc__law_stands (fun vs H Q E h => ?_) (fun cdv A outer s H vs Q E hr h => ?_)
  · obtain ⟨_, _, _, _, _, _, _, _, rfl, _⟩ := h
    rfl
  · obtain ⟨sa, v, d, steps, bs, cs, w', k, rfl, hS, hD, lw, q⟩ := h
    refine ⟨_, PSs.nox (pss_cons (ps_if (PW.pt (pw_or (pt_not (pt_val (pe_callB call_isi (by rfl) T.b_isinstance (by decide +kernel) (pa_cons (pv 1) (pa_cons (pe_bltn (v := .ty "tuple") (by rfl) T.b_tuple (by decide +kernel) rfl) pa_nil))))) (pw_or1 (pt_cmpR op_ne (pe_callB call_len (by rfl) T.b_len (by decide +kernel) (pa_cons (pv 1) pa_nil)) (pe_callB call_len (by rfl) T.b_len (by decide +kernel) (pa_cons (pv 0) pa_nil)) (nomark _)))))
      (pss_one (ps_ret pe_bl))
      pss_nil)
      (pss_cons (ps_for PassesOwn.never rfl (pi_zipS (by rfl) T.b_zip (pa_cons (pv 0) (pa_cons (pv 1) pa_nil))) (pg_tup rfl (pgs_cons (pg_name (i := 2) sc__law_stands.nd rfl (by first | exact Or.inl rfl | exact Or.inr rfl)) (pgs_cons (pg_name (i := 3) sc__law_stands.nd rfl (by first | exact Or.inl rfl | exact Or.inr rfl)) pgs_nil)))
      (pss_one (ps_if (PW.pt (pw_or (pt_not (pt_val (pe_callB call_isi (by rfl) T.b_isinstance (by decide +kernel) (pa_cons (pv 3) (pa_cons (pe_bltn (v := .ty "int") (by rfl) T.b_int (by decide +kernel) rfl) pa_nil))))) (pw_or (pt_val (pe_callB call_isi (by rfl) T.b_isinstance (by decide +kernel) (pa_cons (pv 3) (pa_cons (pe_bltn (v := .ty "bool") (by rfl) T.b_bool (by decide +kernel) rfl) pa_nil)))) (pw_or1 (pt_not (pt_chain op_le op_le pe_int (pv 3) (pe_callB call_len (by rfl) T.b_len (by decide +kernel) (pa_cons (pv 2) pa_nil))))))))
      (pss_one (ps_ret pe_bl))
      pss_nil)))
      (pss_one (ps_ret pe_bl)))), ?_⟩
    refine ⟨_, rfl, _, _, _, _, _, rfl, .ty _, hD.tyx, hD.kT, _, rfl, ?_⟩
    cases ht : isTup d with
    | false =>
      refine iteT (iteT ?_)
      rw [← isSt_not ht]
      exact q _ Kp.rfl'
    | true =>
      refine iteF ?_
      obtain ⟨sa', sx, sk, e, ek, hs0, sn, sl, sw, sd⟩ := hS.rows
      cases e
      cases hD with
      | @tup k' a xs ds h n l da =>
        have lx := DA.len da
        have lt : (topsOf steps).length = steps.length := by simp [topsOf]
        refine ⟨_, rfl, _, ds.length, rfl, .inr ⟨_, SqT.of h, lx.symm⟩, _, rfl, _, steps.length, rfl, .inl ⟨_, SqL.of hs0, sl.symm⟩, rfl, _, rfl, ?_⟩
        by_cases hl : ds.length = steps.length
        · refine iteN (by simp [hl]) ?_
          have fl : ∀ (j : Nat) (e : PyData) (r : List Int), ds[j]? = some e → steps[j]? = some r → stOne e r.length = false → isSt (topsOf steps) (.tuple ds) = false := fun j e r he hr hf => by
            have ez : (stAll ds (topsOf steps))[j]? = some (stOne e r.length) := by
              rw [stAll, List.getElem?_map, (List.getElem?_zip_eq_some (i := j) (z := (e, (r.length : Int)))).mpr ⟨he, by rw [topsOf, List.getElem?_map, hr]; rfl⟩]
              rfl
            rw [hf] at ez
            have m := List.mem_of_getElem? ez
            have : (stAll ds (topsOf steps)).all id = false := by
              rw [List.all_eq_false]
              exact ⟨_, m, by simp⟩
            simp [isSt, this]
          refine ⟨_, rfl, _, rfl, sa, a, true, false, sx, xs, rfl, SqL.of hs0, SqT.of h, for_it (walkZ (n := ds.length) (xs := sx) (ys := xs) (by simp [lx, sl, hl])) (fun j σ H3 => ∃ o2 o3 : Option V, σ = [some (.ref sa), some (.ref a), o2, o3] ∧ (∀ (i : Nat) (e : PyData) (r : List Int), i < j → ds[i]? = some e → steps[i]? = some r → stOne e r.length = true) ∧ Kp [] H H3) ?_ ?_ ?_ ?_⟩
          · exact ⟨none, none, rfl, fun i e r hi => absurd hi (Nat.not_lt_zero _), Kp.rfl'⟩
          · rintro j σ H3 _ ⟨_, _, _, _, k3⟩
            exact ⟨SqL.of (k3 _ _ hs0 (by simp)), SqT.of (k3 _ _ h (by simp))⟩
          · rintro j y σ H3 H4 hj ⟨o2, o3, rfl, hok, k3⟩ ⟨t, y1, y2, rfl, ft, rfl, e1, e2⟩
            have e1 : sx[j]? = some y1 := e1
            have e2 : xs[j]? = some y2 := e2
            obtain ⟨r, ra, hr2, rfl, hR, _, _, _⟩ := sd.rowAt e1
            obtain ⟨e, he, hy⟩ := da.get e2
            have kt : ∀ cs, Kp cs H3 (upd H3 t (.tup [.ref ra, y2])) := fun cs => Kp.rfl'.new ft
            have hy4 := (hy.keep (k3.sub (by simp))).keep (kt cs)
            have hR4 := kt [] _ _ (k3 _ _ hR (by simp)) (by simp)
            have bad : stOne e r.length = false → Q (.bl false) (upd H3 t (.tup [.ref ra, y2])) := fun hf => by
              rw [← fl j e r he hr2 hf]
              exact q _ (k3.trans (kt []))
            refine ⟨t, _, rfl, SqT.of upd_same, rfl, _, _, rfl, _, _, rfl, rfl, ?_⟩
            refine ⟨_, rfl, _, _, _, _, _, rfl, .ty _, hy4.tyx, hy4.kI, _, rfl, ?_⟩
            cases hy4 with
            | int i hi =>
              refine iteF ⟨_, rfl, _, _, _, _, _, rfl, .ty _, (D.int (bs := cs) (w := w') (k := k') i hi).tyx, (D.int (bs := cs) (H := H) (w := w') (k := k') i hi).kB, _, rfl, ?_⟩
              refine iteF ⟨_, rfl, _, _, rfl, rfl, _, rfl, ?_⟩
              by_cases c0 : 0 ≤ i
              · refine iteC (by simp [c0]) ⟨_, rfl, _, r.length, rfl, .inl ⟨_, SqL.of hR4, by simp⟩, _, _, rfl, rfl, _, rfl, ?_⟩
                by_cases c1 : i ≤ r.length
                · refine iteN (by simp [c1]) ⟨_, _, rfl, fun i2 e2 r2 hi2 he2 hr3 => ?_, k3.trans (kt [])⟩
                  by_cases ei : i2 = j
                  · subst ei
                    rw [he] at he2
                    rw [hr2] at hr3
                    cases he2
                    cases hr3
                    simp [stOne, c0, c1]
                  · exact hok i2 e2 r2 (by omega) he2 hr3
                · exact iteC (by simp [c1]) (bad (by simp [stOne, c1]))
              · exact iteN (by simp [c0]) ⟨_, rfl, iteC rfl (bad (by simp [stOne, c0]))⟩
            | bl b => exact iteF ⟨_, rfl, _, _, _, _, _, rfl, .ty _, (D.bl (bs := cs) (w := w') (k := k') b).tyx, (D.bl (bs := cs) (H := H) (w := w') (k := k') b).kB, _, rfl, iteT (iteT (bad rfl))⟩
            | _ => exact iteT (iteT (bad rfl))
          · rintro σ H3 ⟨o2, o3, rfl, hok, k3⟩
            have e : isSt (topsOf steps) (.tuple ds) = true := by
              have : (stAll ds (topsOf steps)).all id = true := by
                rw [List.all_eq_true]
                intro b hb
                obtain ⟨i, hi, e⟩ := List.getElem_of_mem hb
                have e1 : (stAll ds (topsOf steps))[i]? = some b := by rw [List.getElem?_eq_getElem hi, e]
                rw [stAll, List.getElem?_map] at e1
                obtain ⟨⟨d1, t1⟩, e2, rfl⟩ := Option.map_eq_some_iff.mp e1
                rw [List.getElem?_zip_eq_some] at e2
                obtain ⟨e3, e4⟩ := e2
                rw [topsOf, List.getElem?_map] at e4
                obtain ⟨r, e5, rfl⟩ := Option.map_eq_some_iff.mp e4
                exact hok i d1 r ((List.getElem?_eq_some_iff.mp e3).1) e3 e5
              simp [isSt, this, hl, lt]
            have f := q _ k3
            rw [e] at f
            exact f
        · refine iteC (by simp; omega) ?_
          have e2 : isSt (topsOf steps) (.tuple ds) = false := by simp [isSt, lt, hl]
          rw [← e2]
          exact q _ Kp.rfl'
      | _ => cases ht

end
end Sw

set_option maxHeartbeats 2000000
namespace Sw
open PySem PySem.Spec PyProof.Rows L2
section
variable {P : Program} {w : World} {K : PySem.W.Frag} {mg : Str → Option Value} {base : Heap}
/-- alike, where both hold the same -/
def sp_same (m : Nat) : Sp := fun vs H Q _ => ∃ (v1 v2 : V) (d : PyData) (bs cs : List Addr) (w k : Nat), vs = [v1, v2] ∧ D bs H w k v1 d ∧ D cs H w k v2 d ∧ k < m ∧ w ≤ 1000 ∧ ∀ H', Kp [] H H' → Q (.bl true) H'
theorem ok_same (T : Tx K mg) : ∀ m : Nat, FnOk P w K mg base CX0 (m + 1) (He.fAd K ("_law_same", none)) T.fd__law_same p__law_same (sp_same m)
  | 0 => by
    refine T.F__law_same.ok sc__law_same (fun vs H Q E h => ?_) (fun cdv A outer s H vs Q E hr h => ?_)
    · obtain ⟨_, _, _, _, _, _, _, rfl, _⟩ := h
      rfl
    · obtain ⟨_, _, _, _, _, _, _, _, _, _, z, _⟩ := h
      exact absurd z (Nat.not_lt_zero _)
  | m + 1 => by
    have G__law_same := ok_same T m
    refine T.F__law_same.ok sc__law_same (fun vs H Q E h => ?_) (fun cdv A outer s H vs Q E hr h => ?_)
    · obtain ⟨_, _, _, _, _, _, _, rfl, _⟩ := h
      rfl
    · obtain ⟨v1, v2, d, bs, cs, w', k, rfl, h1, h2, km, lw, q⟩ := h
      refine ⟨_, PSs.nox (pss_cons (ps_if (pt_val (pe_callB call_isiT (by rfl) T.b_isinstance (by decide +kernel) (pa_cons (pv 1) (pa_cons (pe_tup (pa_cons (pe_bltn (v := .ty "list") (by rfl) T.b_list (by decide +kernel) rfl) (pa_cons (pe_bltn (v := .ty "tuple") (by rfl) T.b_tuple (by decide +kernel) rfl) pa_nil))) pa_nil))))
      (pss_cons (ps_if (PW.pt (pw_or (pt_cmpR op_ne (pe_callB call_isi (by rfl) T.b_isinstance (by decide +kernel) (pa_cons (pv 0) (pa_cons (pe_bltn (v := .ty "list") (by rfl) T.b_list (by decide +kernel) rfl) pa_nil))) (pe_callB call_isi (by rfl) T.b_isinstance (by decide +kernel) (pa_cons (pv 1) (pa_cons (pe_bltn (v := .ty "list") (by rfl) T.b_list (by decide +kernel) rfl) pa_nil))) (nomark _)) (pw_or1 (pt_cmpR op_ne (pe_callB call_isi (by rfl) T.b_isinstance (by decide +kernel) (pa_cons (pv 0) (pa_cons (pe_bltn (v := .ty "tuple") (by rfl) T.b_tuple (by decide +kernel) rfl) pa_nil))) (pe_callB call_isi (by rfl) T.b_isinstance (by decide +kernel) (pa_cons (pv 1) (pa_cons (pe_bltn (v := .ty "tuple") (by rfl) T.b_tuple (by decide +kernel) rfl) pa_nil))) (nomark _)))))
      (pss_one (ps_ret pe_bl))
      pss_nil)
      (pss_one (ps_ret (pe_and (pe_cmpR op_eq (pe_callB call_len (by rfl) T.b_len (by decide +kernel) (pa_cons (pv 0) pa_nil)) (pe_callB call_len (by rfl) T.b_len (by decide +kernel) (pa_cons (pv 1) pa_nil)) (nomark _)) (pe_one (pe_callB (cr_all rfl) (by rfl) T.b_all (by decide +kernel) (pa_cons (pe_lc (own := [("_law_one", 2), ("_law_two", 3)]) (g := (gTup K 2 (gCons (gName 2) (gCons (gName 3) gNil)))) (tt := tYes) rfl sc__law_same.nd (pi_zipS (by rfl) T.b_zip (pa_cons (pv 0) (pa_cons (pv 1) pa_nil))) (blkOk_by (own := [("_law_one", 2), ("_law_two", 3)]) (N := n__law_same) (sc := defScope s__law_same) (by decide +kernel)) (fun _ _ _ _ _ => (pg_tup rfl (pgs_cons (pg_name (i := 2) sc__law_same.nd rfl (by first | exact Or.inl rfl | exact Or.inr rfl)) (pgs_cons (pg_name (i := 3) sc__law_same.nd rfl (by first | exact Or.inl rfl | exact Or.inr rfl)) pgs_nil)))) (fun _ _ _ _ _ => pts_nil) (fun _ _ _ _ _ => (pe_call G__law_same hr rfl T.g__law_same T.F__law_same.kp T.bd__law_same .nil pass0 (pa_cons (pv 2) (pa_cons (pv 3) pa_nil))))) pa_nil)))))))
      pss_nil)
      (pss_cons (ps_if (PW.pt (pw_or (pt_cmpR op_isN (pv 1) pe_non (nomark _)) (pw_or1 (pt_val (pe_callB call_isi (by rfl) T.b_isinstance (by decide +kernel) (pa_cons (pv 1) (pa_cons (pe_bltn (v := .ty "str") (by rfl) T.b_str (by decide +kernel) rfl) pa_nil)))))))
      (pss_one (ps_ret (pe_and (pe_cmpR op_eq (pv 0) (pv 1) (nomark _)) (pe_one (pe_cmpR op_eq (pe_callB call_isi (by rfl) T.b_isinstance (by decide +kernel) (pa_cons (pv 0) (pa_cons (pe_bltn (v := .ty "str") (by rfl) T.b_str (by decide +kernel) rfl) pa_nil))) (pe_callB call_isi (by rfl) T.b_isinstance (by decide +kernel) (pa_cons (pv 1) (pa_cons (pe_bltn (v := .ty "str") (by rfl) T.b_str (by decide +kernel) rfl) pa_nil))) (nomark _))))))
      pss_nil)
      (pss_one (ps_ret (pe_and (pe_callB call_isi (by rfl) T.b_isinstance (by decide +kernel) (pa_cons (pv 0) (pa_cons (pe_bltn (v := .ty "int") (by rfl) T.b_int (by decide +kernel) rfl) pa_nil))) (pe_and (pe_cmpR op_eq (pe_callB call_isi (by rfl) T.b_isinstance (by decide +kernel) (pa_cons (pv 0) (pa_cons (pe_bltn (v := .ty "bool") (by rfl) T.b_bool (by decide +kernel) rfl) pa_nil))) (pe_callB call_isi (by rfl) T.b_isinstance (by decide +kernel) (pa_cons (pv 1) (pa_cons (pe_bltn (v := .ty "bool") (by rfl) T.b_bool (by decide +kernel) rfl) pa_nil))) (nomark _)) (pe_one (pe_cmpR op_eq (pv 0) (pv 1) (nomark _))))))))), ?_⟩
      refine ⟨_, rfl, by show 2 ≤ sizeLine; decide, fun t ht => ?_⟩
      have k0 : ∀ cs, Kp cs H (upd H t (.tup [.ty "list", .ty "tuple"])) := fun cs => Kp.rfl'.new ht
      have g1 := h1.keep (k0 bs)
      have g2 := h2.keep (k0 cs)
      generalize hH : upd H t (.tup [.ty "list", .ty "tuple"]) = H1 at g1 g2 k0
      have tup1 : H1 t = some (.tup [.ty "list", .ty "tuple"]) := by
        rw [← hH]
        exact upd_same
      refine ⟨_, t, _, _, [.type "list", .type "tuple"], _, rfl, tup1, tyLT, g2.tyx, g2.kQ, _, rfl, ?_⟩
      have kk1 := g1.kit (K := K)
      have kk2 := g2.kit (K := K)
      have isi1 := g1.tyx (K := K)
      have isi2 := g2.tyx (K := K)
      have seqs : ∀ (ka : Bool) (a1 a2 : Addr) (x1 x2 : List V) (ds : List PyData) (k' : Nat), SqK ka K H1 a1 x1 → SqK ka K H1 a2 x2 → DA bs H1 w' k' x1 ds → DA cs H1 w' k' x2 ds → (∀ H', Kp [] H1 H' → SqK ka K H' a1 x1 ∧ SqK ka K H' a2 x2) → x1.length ≤ w' → k' < m →
          ∀ p, H1 p = none → ∃ W : Nat → Nat → Hp → Prop, (∃ j, W 0 j (upd H1 p (.lst []))) ∧ ∀ i j H, W i j H →
          ((ItZ ka ka K a1 a2).stop i H ∧ rAll K [.ref p] H Q) ∨ ((ItZ ka ka K a1 a2).go i H ∧ ∃ Nx : Hp → Prop, (∀ H', Nx H' → ∃ j', j' < j ∧ W (i + 1) j' H') ∧ ∀ x H', (ItZ ka ka K a1 a2).yld i H x H' → (gTup K 2 (gCons (gName 2) (gCons (gName 3) gNil))) x (wipe [some v1, some v2, none, none] [2, 3]) H' fun σ2 H2 => wipe σ2 [2, 3] = wipe [some v1, some v2, none, none] [2, 3] ∧ tYes σ2 H2 fun b H3 =>
            if b = true then (tCall (sp_same m) [] E0 (tCons (tVar 2) (tCons (tVar 3) tNil))) σ2 H3 fun y H4 => ∃ acc, H4 p = some (.lst acc) ∧ acc.length < sizeLine ∧ Nx (upd H4 p (.lst (acc ++ [y]))) else Nx H3) := by
        intro ka a1 a2 x1 x2 ds k' s1 s2 t1 t2 hk lx km' p hp
        have l1 := DA.len t1
        have l2 := DA.len t2
        refine lc_it (walkZ (n := ds.length) (xs := x1) (ys := x2) (by simp [l1, l2])) (fun j H3 => H3 p = some (.lst ((List.replicate j true).map V.bl)) ∧ Kp [] H1 H3) ?_ ?_ ?_ ?_
        · exact ⟨by rw [upd_same]; rfl, Kp.rfl'.new hp⟩
        · rintro j H3 _ ⟨_, k3⟩
          exact hk H3 k3
        · rintro j y H3 H4 hj ⟨h3, k3⟩ ⟨t', y1, y2, rfl, ft, rfl, e1, e2⟩
          have e1 : x1[j]? = some y1 := e1
          have e2 : x2[j]? = some y2 := e2
          obtain ⟨e, he, hy1⟩ := t1.get e1
          obtain ⟨e', he', hy2⟩ := t2.get e2
          rw [he] at he'
          cases he'
          have kt : ∀ cs, Kp cs H3 (upd H3 t' (.tup [y1, y2])) := fun cs => Kp.rfl'.new ft
          refine ⟨t', _, rfl, SqT.of upd_same, rfl, _, _, rfl, _, _, rfl, rfl, rfl, yesT ⟨_, rfl, _, rfl, y1, y2, e, bs, cs, w', k', rfl, (hy1.keep (k3.sub (by simp))).keep (kt _), (hy2.keep (k3.sub (by simp))).keep (kt _), km', lw, fun H5 k5 => ⟨_, k5 _ _ (kt [] _ _ h3 (by simp)) (by simp), ?_, ?_, ?_⟩⟩⟩
          · simp only [List.length_map, List.length_replicate]
            exact small1000 (by omega)
          · rw [upd_same, rep_snoc]
          · exact ((k3.trans (kt [])).trans k5).own hp
        · rintro H3 ⟨h3, k3⟩
          refine ⟨p, _, rfl, SqL.of h3, ?_⟩
          rw [rep_all]
          exact q _ ((k0 []).trans k3)
      cases g2 with
      | @lst k' a2 x2 ds e2 n2 l2 t2 =>
        cases g1 with
        | @lst _ a1 x1 _ e1 n1 l1 t1 =>
        refine iteT ?_
        refine ⟨_, rfl, _, _, _, _, _, rfl, .ty _, isi1, kk1.1, _, rfl, _, _, _, _, _, rfl, .ty _, isi2, kk2.1, rfl, _, rfl, iteF ?_⟩
        refine ⟨_, rfl, _, _, _, _, _, rfl, .ty _, isi1, kk1.2.1, _, rfl, _, _, _, _, _, rfl, .ty _, isi2, kk2.2.1, rfl, _, rfl, iteF ?_⟩
        refine ⟨_, rfl, _, ds.length, rfl, .inl ⟨_, SqL.of e1, (DA.len t1).symm⟩, _, rfl, _, ds.length, rfl, .inl ⟨_, SqL.of e2, (DA.len t2).symm⟩, rfl, _, rfl, iteC (by simp) ?_⟩
        exact ⟨_, rfl, _, rfl, a1, a2, true, true, x1, x2, rfl, SqL.of e1, SqL.of e2, seqs true a1 a2 x1 x2 ds k' (SqL.of e1) (SqL.of e2) t1 t2 (fun H' k3 => ⟨SqL.of (k3 _ _ e1 (by simp)), SqL.of (k3 _ _ e2 (by simp))⟩) l1 (by omega)⟩
      | @tup k' a2 x2 ds e2 n2 l2 t2 =>
        cases g1 with
        | @tup _ a1 x1 _ e1 n1 l1 t1 =>
        refine iteT ?_
        refine ⟨_, rfl, _, _, _, _, _, rfl, .ty _, isi1, kk1.1, _, rfl, _, _, _, _, _, rfl, .ty _, isi2, kk2.1, rfl, _, rfl, iteF ?_⟩
        refine ⟨_, rfl, _, _, _, _, _, rfl, .ty _, isi1, kk1.2.1, _, rfl, _, _, _, _, _, rfl, .ty _, isi2, kk2.2.1, rfl, _, rfl, iteF ?_⟩
        refine ⟨_, rfl, _, ds.length, rfl, .inr ⟨_, SqT.of e1, (DA.len t1).symm⟩, _, rfl, _, ds.length, rfl, .inr ⟨_, SqT.of e2, (DA.len t2).symm⟩, rfl, _, rfl, iteC (by simp) ?_⟩
        exact ⟨_, rfl, _, rfl, a1, a2, false, false, x1, x2, rfl, SqT.of e1, SqT.of e2, seqs false a1 a2 x1 x2 ds k' (SqT.of e1) (SqT.of e2) t1 t2 (fun H' k3 => ⟨SqT.of (k3 _ _ e1 (by simp)), SqT.of (k3 _ _ e2 (by simp))⟩) l1 (by omega)⟩
      | non =>
        cases g1
        refine iteF ⟨_, rfl, rfl, _, rfl, iteT (iteT ?_)⟩
        refine ⟨_, rfl, _, rfl, rfl, _, rfl, iteC (by simp) ?_⟩
        refine ⟨_, rfl, _, _, _, _, _, rfl, .ty _, isi1, kk1.2.2.1, _, rfl, _, _, _, _, _, rfl, .ty _, isi2, kk2.2.2.1, rfl, ?_⟩
        exact q _ (k0 [])
      | str y hy =>
        cases g1
        refine iteF ⟨_, rfl, rfl, _, rfl, iteF ⟨_, rfl, _, _, _, _, _, rfl, .ty _, isi2, kk2.2.2.1, _, rfl, iteT ?_⟩⟩
        refine ⟨_, rfl, _, rfl, rfl, _, rfl, iteC (by simp) ?_⟩
        refine ⟨_, rfl, _, _, _, _, _, rfl, .ty _, isi1, kk1.2.2.1, _, rfl, _, _, _, _, _, rfl, .ty _, isi2, kk2.2.2.1, rfl, ?_⟩
        exact q _ (k0 [])
      | int i hi =>
        cases g1
        refine iteF ⟨_, rfl, rfl, _, rfl, iteF ⟨_, rfl, _, _, _, _, _, rfl, .ty _, isi2, kk2.2.2.1, _, rfl, iteF ?_⟩⟩
        refine ⟨_, rfl, _, _, _, _, _, rfl, .ty _, isi1, kk1.2.2.2.1, _, rfl, iteT ?_⟩
        refine ⟨_, rfl, _, _, _, _, _, rfl, .ty _, isi1, kk1.2.2.2.2, _, rfl, _, _, _, _, _, rfl, .ty _, isi2, kk2.2.2.2.2, rfl, _, rfl, iteT ?_⟩
        refine ⟨_, rfl, _, rfl, rfl, ?_⟩
        rw [decide_eq_true rfl]
        exact q _ (k0 [])
      | bl b =>
        cases g1
        refine iteF ⟨_, rfl, rfl, _, rfl, iteF ⟨_, rfl, _, _, _, _, _, rfl, .ty _, isi2, kk2.2.2.1, _, rfl, iteF ?_⟩⟩
        refine ⟨_, rfl, _, _, _, _, _, rfl, .ty _, isi1, kk1.2.2.2.1, _, rfl, iteT ?_⟩
        refine ⟨_, rfl, _, _, _, _, _, rfl, .ty _, isi1, kk1.2.2.2.2, _, rfl, _, _, _, _, _, rfl, .ty _, isi2, kk2.2.2.2.2, rfl, _, rfl, iteT ?_⟩
        refine ⟨_, rfl, _, rfl, rfl, ?_⟩
        rw [decide_eq_true rfl]
        exact q _ (k0 [])

end
end Sw

set_option maxHeartbeats 2000000
namespace Sw
open PySem PySem.Spec PyProof.Rows L2
section
variable {P : Program} {w : World} {K : PySem.W.Frag} {mg : Str → Option Value} {base : Heap}
def sp_pick : Sp := fun vs H Q _ => ∃ (b l : Addr) (xs : List V) (n : Nat), vs = [.ref b, .ref l] ∧ Bx H b n ∧ n ≤ 900000 ∧ H l = some (.lst xs) ∧ l ≠ b ∧ 1 ≤ xs.length ∧ xs.length ≤ 1000 ∧
  ∀ (i : Nat) (v : V) (H' : Hp), xs[i]? = some v → Bx H' b (n + 1) → Kp [b] H H' → Q v H'
theorem ok_pick (T : Tx K mg) : FnOk P w K mg base CX0 2 (He.fAd K ("_law_pick", none)) T.fd__law_pick p__law_pick sp_pick := by
  have G__law_take := ok_take (P := P) (w := w) (base := base) T
  refine T.F__law_pick.ok sc__law_pick (fun vs H Q E h => ?_) (fun cdv A outer s H vs Q E hr h => ?_)
  · obtain ⟨_, _, _, _, rfl, _⟩ := h
    rfl
  · obtain ⟨b, l, xs, n, rfl, hB, hn, hL, nb, l1, l2, q⟩ := h
    refine ⟨_, PSs.nox (pss_one (ps_ret (pe_ix ix_list (pv 1) (pe_call G__law_take (hr.mono (by first | decide | omega)) rfl T.g__law_take T.F__law_take.kp T.bd__law_take .nil pass0 (pa_cons (pv 0) (pa_cons (pe_callB call_len (by rfl) T.b_len (by decide +kernel) (pa_cons (pv 1) pa_nil)) pa_nil))) (fun _ _ => rfl)))), ?_⟩
    refine ⟨_, rfl, _, rfl, _, rfl, _, xs.length, rfl, .inl ⟨_, SqL.of hL, rfl⟩, b, _, n, rfl, hB, by omega, by omega, by omega, fun r H1 r0 r1 hB1 k1 => ?_⟩
    have lt : r.toNat < xs.length := by omega
    have e : xs[r.toNat]? = some xs[r.toNat] := by simp [lt]
    exact ⟨l, _, _, _, rfl, rfl, SqL.of (k1 _ _ hL (by simpa using nb)), at_of (j := r.toNat) (by omega) e, q _ _ H1 e hB1 k1⟩
def sp_lpast : Sp := fun vs H Q _ => ∃ (b sa : Addr) (steps : List (List Int)) (c2 : Int) (n wd : Nat), vs = [.ref b, .ref sa, .int c2] ∧ Bx H b n ∧ n ≤ 700000 ∧ D [b] H 12 2 (.ref sa) (dII steps) ∧ 1 ≤ c2 ∧ c2 ≤ 5 ∧ steps.length ≤ wd ∧ 5 ≤ wd ∧ wd ≤ 12 ∧ (∀ r ∈ steps, Rung r) ∧
  ∀ (p : Addr) (ss : List (List Int)) (H' : Hp), H p = none → D [b] H' wd 2 (.ref p) (.list (ss.map dT)) → ss.length = c2.toNat → (∀ r ∈ ss, r.length = steps.length) → Bx H' b (n + 100) → Kp [b] H H' → Q (.ref p) H'
theorem ok_lpast (T : Tx K mg) : FnOk P w K mg base CX0 2 (He.fAd K ("_law_past", none)) T.fd__law_past p__law_past sp_lpast := by
  have G__law_take := ok_take (P := P) (w := w) (base := base) T
  refine T.F__law_past.ok sc__law_past (fun vs H Q E h => ?_) (fun cdv A outer s H vs Q E hr h => ?_)
  · obtain ⟨_, _, _, _, _, _, rfl, _⟩ := h
    rfl
  · obtain ⟨b, sa, steps, c2, n, wd, rfl, hB, hn, hS, c1, c5, ls, w5, w12, hg, q⟩ := h
    refine ⟨_, PSs.nox (pss_one (ps_ret (pe_lc (own := [("_law_k", 3)]) (g := (gName 3)) (tt := tYes) rfl sc__law_past.nd (pi_range1 (by rfl) T.b_range (pa_cons (pv 2) pa_nil)) (blkOk_by (own := [("_law_k", 3)]) (N := n__law_past) (sc := defScope s__law_past) (by decide +kernel)) (fun _ _ _ _ _ => (pg_name (i := 3) sc__law_past.nd rfl (by first | exact Or.inl rfl | exact Or.inr rfl))) (fun _ _ _ _ _ => pts_nil) (fun _ _ _ _ _ => (pe_callTy (kTup (K := K) rfl) (by rfl) T.b_tuple (by decide +kernel) (pa_cons (pe_lc (own := [("_law_some", 4)]) (g := (gName 4)) (tt := tYes) rfl sc__law_past.nd (kPiL (K := K) rfl (pv 1)) (blkOk_by (own := [("_law_some", 4)]) (N := n__law_past) (sc := relabel (lcScope (retOf s__law_past)) (envOfC "" (defScope s__law_past) 0 0 .none)) (by decide +kernel)) (fun _ _ _ _ _ => (pg_name (i := 4) sc__law_past.nd rfl (by first | exact Or.inl rfl | exact Or.inr rfl))) (fun _ _ _ _ _ => pts_nil) (fun _ _ _ _ _ => (pe_call G__law_take (hr.mono (by first | decide | omega)) rfl T.g__law_take T.F__law_take.kp T.bd__law_take .nil pass0 (pa_cons (pv 0) (pa_cons (pe_op op_add (pe_callB (kLen (K := K) rfl) (by rfl) T.b_len (by decide +kernel) (pa_cons (pv 4) pa_nil)) pe_int) pa_nil))))) pa_nil)))))), ?_⟩
    obtain ⟨sa', sx, sk, e, ek, hs0, sn, sl, sw, sd⟩ := hS.rows
    cases e
    cases ek
    obtain ⟨_, _, _, eb, _⟩ := id hB.ex
    refine ⟨_, rfl, c2, rfl, by omega, by omega, fun p hp => lc_range (n := c2.toNat) (fun i H2 => ∃ (xs : List V) (ss : List (List Int)), H2 p = some (.lst xs) ∧ DA [p, b] H2 wd 1 xs (ss.map dT) ∧ ss.length = i ∧ (∀ r ∈ ss, r.length = steps.length) ∧ Bx H2 b (n + 12 * i) ∧ Kp [b] H H2) ?_ ?_ ?_⟩
    · exact ⟨[], [], upd_same, .nil, rfl, (fun r hr => nomatch hr), hB.keep (Kp.rfl'.new (bs := []) hp) (by simp), Kp.rfl'.new hp⟩
    · rintro i H2 hi ⟨xs, ss, hP, hX, hl, hgs, hB2, k2⟩
      have npb : p ≠ b := (ne_of_none eb hp).symm
      obtain ⟨_, _, _, eb2, _⟩ := id hB2.ex
      have hs2 := k2 _ _ hs0 sn
      refine ⟨rfl, yesT ⟨_, rfl, sa, rfl, ⟨_, SqL.of hs2⟩, fun p2 hp2 => lc_list (K := K) (a := sa) (xs := sx) (fun j H3 => ∃ ps : List Int, H3 p2 = some (.lst (ps.map V.int)) ∧ ps.length = j ∧ (∀ x ∈ ps, 0 ≤ x ∧ x ≤ 4) ∧ Bx H3 b (n + 12 * i + j) ∧ Kp [b] H2 H3) ?_ ?_ ?_ ?_⟩⟩
      · exact ⟨[], upd_same, rfl, (fun x hx => nomatch hx), hB2.keep (Kp.rfl'.new (bs := []) hp2) (by simp), Kp.rfl'.new hp2⟩
      · rintro j H3 _ ⟨_, _, _, _, _, k3⟩
        exact SqL.of (k3 _ _ hs2 sn)
      · rintro j y H3 hj ⟨ps, h3, lp, bp, hB3, k3⟩
        have n2b : p2 ≠ b := (ne_of_none eb2 hp2).symm
        obtain ⟨r, ra, hr2, rfl, hR, nR, _, _⟩ := sd.rowAt hj
        have hjl := (List.getElem?_eq_some_iff.mp hj).1
        have hR3 := k3 _ _ (k2 _ _ hR nR) nR
        have g4 := (hg r (List.mem_of_getElem? hr2)).l4
        refine ⟨rfl, yesT ⟨_, rfl, _, rfl, _, r.length, rfl, .inl ⟨_, SqL.of hR3, by simp⟩, _, _, rfl, rfl, b, _, _, rfl, hB3, by omega, by omega, by omega, fun x H4 x0 x1 hB4 k4 => ⟨_, k4 _ _ h3 (by simpa using n2b), by rw [List.length_map]; exact small1000 (by omega), ps ++ [x], by rw [upd_same, ints_snoc], by simp [lp], ?_, (hB4.keep (Kp.rfl'.put (bs := [p2]) (by simp)) (by simpa using n2b.symm)).up (by omega), (k3.trans k4).own hp2⟩⟩⟩
        intro z hz
        rcases List.mem_append.mp hz with y | y
        · exact bp z y
        · rw [List.mem_singleton.mp y]
          omega
      · rintro H3 ⟨ps, h3, lp, bp, hB3, k3⟩
        refine ⟨p2, _, rfl, .inl ⟨SqL.of h3, fun t ht => ?_⟩⟩
        have hP3 := k3 _ _ hP (by simpa using npb)
        obtain ⟨_, _, _, eb3, _⟩ := id hB3.ex
        have ntp : t ≠ p := (ne_of_none hP3 ht).symm
        have ntb : t ≠ b := (ne_of_none eb3 ht).symm
        have kt : ∀ cs, Kp cs H3 (upd H3 t (.tup (ps.map V.int))) := fun cs => Kp.rfl'.new ht
        have kp : Kp [p, b] (upd H3 t (.tup (ps.map V.int))) (upd (upd H3 t (.tup (ps.map V.int))) p (.lst (xs ++ [.ref t]))) := Kp.rfl'.put (by simp)
        refine ⟨xs, kt [] _ _ hP3 (by simp), by rw [DA.len hX, List.length_map]; exact small1000 (by omega), xs ++ [.ref t], ss ++ [ps], upd_same, ?_, by simp [hl], ?_, ((hB3.keep (kt []) (by simp)).keep (Kp.rfl'.put (bs := [p]) (by simp)) (by simpa using npb.symm)).up (by omega), ((k2.trans k3).trans (kt _)).own hp⟩
        · rw [List.map_append]
          exact (((hX.keep (k3.sub (by simp))).keep (kt _)).keep kp).app (DA.one ((D.tup (k := 0) upd_same (by simp [ntp, ntb]) (by rw [List.length_map]; omega) (DA.ofInts fun x hx => small40 (m := 4) (by have := bp x hx; omega) (bp x hx).2)).keep kp))
        · intro z hz
          rcases List.mem_append.mp hz with y | y
          · exact hgs z y
          · rw [List.mem_singleton.mp y]
            omega
    · rintro H2 ⟨xs, ss, hP, hX, hl, hgs, hB2, k2⟩
      have npb : p ≠ b := (ne_of_none eb hp).symm
      exact q p ss H2 hp (.lst hP (by simpa using npb) (by rw [DA.len hX, List.length_map]; omega) (hX.less (by simp))) hl hgs (hB2.up (by omega)) k2
def sp_odd : Sp := fun vs H Q _ => ∃ (b : Addr) (n : Nat) (cs : List Addr), vs = [.ref b] ∧ Bx H b n ∧ n ≤ 900000 ∧ (∀ c ∈ cs, ∃ o, H c = some o) ∧
  ∀ (v : V) (d : PyData) (H' : Hp), D (b :: cs) H' 1 2 v d → Bx H' b (n + 1) → Kp [b] H H' → Q v H'
theorem ok_odd (T : Tx K mg) : FnOk P w K mg base CX0 3 (He.fAd K ("_law_odd", none)) T.fd__law_odd p__law_odd sp_odd := by
  have G__law_pick := ok_pick (P := P) (w := w) (base := base) T
  refine T.F__law_odd.ok sc__law_odd (fun vs H Q E h => ?_) (fun cdv A outer s H vs Q E hr h => ?_)
  · obtain ⟨_, _, _, rfl, _⟩ := h
    rfl
  · obtain ⟨b, n, cs, rfl, hB, hn, hcs, q⟩ := h
    refine ⟨_, PSs.nox (pss_one (ps_ret (pe_call G__law_pick (hr.mono (by first | decide | omega)) rfl T.g__law_pick T.F__law_pick.kp T.bd__law_pick .nil pass0 (pa_cons (pv 0) (pa_cons (pe_lst (pa_cons pe_non (pa_cons pe_bl (pa_cons pe_bl (pa_cons pe_int (pa_cons pe_int (pa_cons pe_int (pa_cons (pe_un un_neg pe_int) (pa_cons pe_str (pa_cons pe_str (pa_cons (pe_tup pa_nil) (pa_cons (pe_lst pa_nil) (pa_cons (pe_tup (pa_cons pe_int pa_nil)) (pa_cons (pe_lst (pa_cons pe_int pa_nil)) (pa_cons (pe_tup (pa_cons (pe_tup (pa_cons pe_int pa_nil)) pa_nil)) (pa_cons (pe_lst (pa_cons (pe_tup (pa_cons pe_int pa_nil)) pa_nil)) (pa_cons (pe_lst (pa_cons (pe_lst (pa_cons pe_int pa_nil)) pa_nil)) (pa_cons (pe_lst (pa_cons (pe_tup pa_nil) pa_nil)) pa_nil)))))))))))))))))) pa_nil))))), ?_⟩
    obtain ⟨_, _, _, eb, _⟩ := id hB.ex
    have hbc : ∀ c ∈ b :: cs, ∃ o, H c = some o := fun c hc => (List.mem_cons.mp hc).elim (fun z => ⟨_, z ▸ eb⟩) (hcs c)
    refine ⟨_, rfl, 1, rfl, by show 0 ≤ sizeLine; decide, fun p1 f1 => ?_⟩
    have n1 : p1 ∉ b :: cs := away hbc (Kp.rfl' (bs := [])) f1
    have k1 : ∀ cs, Kp cs H (upd H p1 (.tup [])) := fun cs => Kp.rfl'.new f1
    have e1 : D (b :: cs) (upd H p1 (.tup [])) 1 1 (.ref p1) (.tuple []) := .tup upd_same n1 (by decide) .nil
    have c1 : Kp [] H (upd H p1 (.tup [])) := k1 []
    generalize upd H p1 (.tup []) = H1 at k1 c1 e1 ⊢
    refine ⟨by show 0 ≤ sizeLine; decide, fun p2 f2 => ?_⟩
    have n2 : p2 ∉ b :: cs := away hbc c1 f2
    have k2 : ∀ cs, Kp cs H1 (upd H1 p2 (.lst [])) := fun cs => Kp.rfl'.new f2
    have e2 : D (b :: cs) (upd H1 p2 (.lst [])) 1 1 (.ref p2) (.list []) := .lst upd_same n2 (by decide) .nil
    replace e1 := e1.keep (k2 _)
    have c2 : Kp [] H (upd H1 p2 (.lst [])) := c1.trans (k2 [])
    generalize upd H1 p2 (.lst []) = H2 at k2 c2 e1 e2 ⊢
    refine ⟨by show 1 ≤ sizeLine; decide, fun p3 f3 => ?_⟩
    have n3 : p3 ∉ b :: cs := away hbc c2 f3
    have k3 : ∀ cs, Kp cs H2 (upd H2 p3 (.tup [.int 0])) := fun cs => Kp.rfl'.new f3
    have e3 : D (b :: cs) (upd H2 p3 (.tup [.int 0])) 1 1 (.ref p3) (.tuple [.int 0]) := .tup upd_same n3 (by decide) (.cons (.int 0 (by decide)) .nil)
    replace e1 := e1.keep (k3 _)
    replace e2 := e2.keep (k3 _)
    have c3 : Kp [] H (upd H2 p3 (.tup [.int 0])) := c2.trans (k3 [])
    generalize upd H2 p3 (.tup [.int 0]) = H3 at k3 c3 e1 e2 e3 ⊢
    refine ⟨by show 1 ≤ sizeLine; decide, fun p4 f4 => ?_⟩
    have n4 : p4 ∉ b :: cs := away hbc c3 f4
    have k4 : ∀ cs, Kp cs H3 (upd H3 p4 (.lst [.int 0])) := fun cs => Kp.rfl'.new f4
    have e4 : D (b :: cs) (upd H3 p4 (.lst [.int 0])) 1 1 (.ref p4) (.list [.int 0]) := .lst upd_same n4 (by decide) (.cons (.int 0 (by decide)) .nil)
    replace e1 := e1.keep (k4 _)
    replace e2 := e2.keep (k4 _)
    replace e3 := e3.keep (k4 _)
    have c4 : Kp [] H (upd H3 p4 (.lst [.int 0])) := c3.trans (k4 [])
    generalize upd H3 p4 (.lst [.int 0]) = H4 at k4 c4 e1 e2 e3 e4 ⊢
    refine ⟨by show 1 ≤ sizeLine; decide, fun p5 f5 => ?_⟩
    have n5 : p5 ∉ b :: cs := away hbc c4 f5
    have k5 : ∀ cs, Kp cs H4 (upd H4 p5 (.tup [.int 0])) := fun cs => Kp.rfl'.new f5
    have e5 : D (b :: cs) (upd H4 p5 (.tup [.int 0])) 1 1 (.ref p5) (.tuple [.int 0]) := .tup upd_same n5 (by decide) (.cons (.int 0 (by decide)) .nil)
    replace e1 := e1.keep (k5 _)
    replace e2 := e2.keep (k5 _)
    replace e3 := e3.keep (k5 _)
    replace e4 := e4.keep (k5 _)
    have c5 : Kp [] H (upd H4 p5 (.tup [.int 0])) := c4.trans (k5 [])
    generalize upd H4 p5 (.tup [.int 0]) = H5 at k5 c5 e1 e2 e3 e4 e5 ⊢
    refine ⟨by show 1 ≤ sizeLine; decide, fun p6 f6 => ?_⟩
    have n6 : p6 ∉ b :: cs := away hbc c5 f6
    have k6 : ∀ cs, Kp cs H5 (upd H5 p6 (.tup [.ref p5])) := fun cs => Kp.rfl'.new f6
    have e6 : D (b :: cs) (upd H5 p6 (.tup [.ref p5])) 1 2 (.ref p6) (.tuple [.tuple [.int 0]]) := .tup upd_same n6 (Nat.le_refl 1) (.cons (e5.keep (k6 _)) .nil)
    replace e1 := e1.keep (k6 _)
    replace e2 := e2.keep (k6 _)
    replace e3 := e3.keep (k6 _)
    replace e4 := e4.keep (k6 _)
    replace e5 := e5.keep (k6 _)
    have c6 : Kp [] H (upd H5 p6 (.tup [.ref p5])) := c5.trans (k6 [])
    generalize upd H5 p6 (.tup [.ref p5]) = H6 at k6 c6 e1 e2 e3 e4 e5 e6 ⊢
    refine ⟨by show 1 ≤ sizeLine; decide, fun p7 f7 => ?_⟩
    have n7 : p7 ∉ b :: cs := away hbc c6 f7
    have k7 : ∀ cs, Kp cs H6 (upd H6 p7 (.tup [.int 0])) := fun cs => Kp.rfl'.new f7
    have e7 : D (b :: cs) (upd H6 p7 (.tup [.int 0])) 1 1 (.ref p7) (.tuple [.int 0]) := .tup upd_same n7 (by decide) (.cons (.int 0 (by decide)) .nil)
    replace e1 := e1.keep (k7 _)
    replace e2 := e2.keep (k7 _)
    replace e3 := e3.keep (k7 _)
    replace e4 := e4.keep (k7 _)
    replace e5 := e5.keep (k7 _)
    replace e6 := e6.keep (k7 _)
    have c7 : Kp [] H (upd H6 p7 (.tup [.int 0])) := c6.trans (k7 [])
    generalize upd H6 p7 (.tup [.int 0]) = H7 at k7 c7 e1 e2 e3 e4 e5 e6 e7 ⊢
    refine ⟨by show 1 ≤ sizeLine; decide, fun p8 f8 => ?_⟩
    have n8 : p8 ∉ b :: cs := away hbc c7 f8
    have k8 : ∀ cs, Kp cs H7 (upd H7 p8 (.lst [.ref p7])) := fun cs => Kp.rfl'.new f8
    have e8 : D (b :: cs) (upd H7 p8 (.lst [.ref p7])) 1 2 (.ref p8) (.list [.tuple [.int 0]]) := .lst upd_same n8 (Nat.le_refl 1) (.cons (e7.keep (k8 _)) .nil)
    replace e1 := e1.keep (k8 _)
    replace e2 := e2.keep (k8 _)
    replace e3 := e3.keep (k8 _)
    replace e4 := e4.keep (k8 _)
    replace e5 := e5.keep (k8 _)
    replace e6 := e6.keep (k8 _)
    replace e7 := e7.keep (k8 _)
    have c8 : Kp [] H (upd H7 p8 (.lst [.ref p7])) := c7.trans (k8 [])
    generalize upd H7 p8 (.lst [.ref p7]) = H8 at k8 c8 e1 e2 e3 e4 e5 e6 e7 e8 ⊢
    refine ⟨by show 1 ≤ sizeLine; decide, fun p9 f9 => ?_⟩
    have n9 : p9 ∉ b :: cs := away hbc c8 f9
    have k9 : ∀ cs, Kp cs H8 (upd H8 p9 (.lst [.int 0])) := fun cs => Kp.rfl'.new f9
    have e9 : D (b :: cs) (upd H8 p9 (.lst [.int 0])) 1 1 (.ref p9) (.list [.int 0]) := .lst upd_same n9 (by decide) (.cons (.int 0 (by decide)) .nil)
    replace e1 := e1.keep (k9 _)
    replace e2 := e2.keep (k9 _)
    replace e3 := e3.keep (k9 _)
    replace e4 := e4.keep (k9 _)
    replace e5 := e5.keep (k9 _)
    replace e6 := e6.keep (k9 _)
    replace e7 := e7.keep (k9 _)
    replace e8 := e8.keep (k9 _)
    have c9 : Kp [] H (upd H8 p9 (.lst [.int 0])) := c8.trans (k9 [])
    generalize upd H8 p9 (.lst [.int 0]) = H9 at k9 c9 e1 e2 e3 e4 e5 e6 e7 e8 e9 ⊢
    refine ⟨by show 1 ≤ sizeLine; decide, fun p10 f10 => ?_⟩
    have n10 : p10 ∉ b :: cs := away hbc c9 f10
    have k10 : ∀ cs, Kp cs H9 (upd H9 p10 (.lst [.ref p9])) := fun cs => Kp.rfl'.new f10
    have e10 : D (b :: cs) (upd H9 p10 (.lst [.ref p9])) 1 2 (.ref p10) (.list [.list [.int 0]]) := .lst upd_same n10 (Nat.le_refl 1) (.cons (e9.keep (k10 _)) .nil)
    replace e1 := e1.keep (k10 _)
    replace e2 := e2.keep (k10 _)
    replace e3 := e3.keep (k10 _)
    replace e4 := e4.keep (k10 _)
    replace e5 := e5.keep (k10 _)
    replace e6 := e6.keep (k10 _)
    replace e7 := e7.keep (k10 _)
    replace e8 := e8.keep (k10 _)
    replace e9 := e9.keep (k10 _)
    have c10 : Kp [] H (upd H9 p10 (.lst [.ref p9])) := c9.trans (k10 [])
    generalize upd H9 p10 (.lst [.ref p9]) = H10 at k10 c10 e1 e2 e3 e4 e5 e6 e7 e8 e9 e10 ⊢
    refine ⟨by show 0 ≤ sizeLine; decide, fun p11 f11 => ?_⟩
    have n11 : p11 ∉ b :: cs := away hbc c10 f11
    have k11 : ∀ cs, Kp cs H10 (upd H10 p11 (.tup [])) := fun cs => Kp.rfl'.new f11
    have e11 : D (b :: cs) (upd H10 p11 (.tup [])) 1 1 (.ref p11) (.tuple []) := .tup upd_same n11 (by decide) .nil
    replace e1 := e1.keep (k11 _)
    replace e2 := e2.keep (k11 _)
    replace e3 := e3.keep (k11 _)
    replace e4 := e4.keep (k11 _)
    replace e5 := e5.keep (k11 _)
    replace e6 := e6.keep (k11 _)
    replace e7 := e7.keep (k11 _)
    replace e8 := e8.keep (k11 _)
    replace e9 := e9.keep (k11 _)
    replace e10 := e10.keep (k11 _)
    have c11 : Kp [] H (upd H10 p11 (.tup [])) := c10.trans (k11 [])
    generalize upd H10 p11 (.tup []) = H11 at k11 c11 e1 e2 e3 e4 e5 e6 e7 e8 e9 e10 e11 ⊢
    refine ⟨by show 1 ≤ sizeLine; decide, fun p12 f12 => ?_⟩
    have n12 : p12 ∉ b :: cs := away hbc c11 f12
    have k12 : ∀ cs, Kp cs H11 (upd H11 p12 (.lst [.ref p11])) := fun cs => Kp.rfl'.new f12
    have e12 : D (b :: cs) (upd H11 p12 (.lst [.ref p11])) 1 2 (.ref p12) (.list [.tuple []]) := .lst upd_same n12 (Nat.le_refl 1) (.cons (e11.keep (k12 _)) .nil)
    replace e1 := e1.keep (k12 _)
    replace e2 := e2.keep (k12 _)
    replace e3 := e3.keep (k12 _)
    replace e4 := e4.keep (k12 _)
    replace e5 := e5.keep (k12 _)
    replace e6 := e6.keep (k12 _)
    replace e7 := e7.keep (k12 _)
    replace e8 := e8.keep (k12 _)
    replace e9 := e9.keep (k12 _)
    replace e10 := e10.keep (k12 _)
    replace e11 := e11.keep (k12 _)
    have c12 : Kp [] H (upd H11 p12 (.lst [.ref p11])) := c11.trans (k12 [])
    generalize upd H11 p12 (.lst [.ref p11]) = H12 at k12 c12 e1 e2 e3 e4 e5 e6 e7 e8 e9 e10 e11 e12 ⊢
    refine ⟨by show 17 ≤ sizeLine; decide, fun p13 f13 => ?_⟩
    have n13 : p13 ≠ b := (ne_of_none (c12 _ _ eb (by simp)) f13).symm
    have da : DA (b :: cs) H12 1 2 [V.non, V.bl true, V.bl false, V.int 0, V.int 1, V.int 2, V.int (-1), V.str "", V.str "0", V.ref p1, V.ref p2, V.ref p3, V.ref p4, V.ref p6, V.ref p8, V.ref p10, V.ref p12] [.none, .bool true, .bool false, .int 0, .int 1, .int 2, .int (-1), .str "", .str "0", (.tuple []), (.list []), (.tuple [.int 0]), (.list [.int 0]), (.tuple [.tuple [.int 0]]), (.list [.tuple [.int 0]]), (.list [.list [.int 0]]), (.list [.tuple []])] := 
      (.cons D.non (.cons (D.bl true) (.cons (D.bl false) (.cons (D.int 0 (by decide)) (.cons (D.int 1 (by decide)) (.cons (D.int 2 (by decide)) (.cons (D.int (-1) (by decide)) (.cons (D.str _ (by decide +kernel)) (.cons (D.str _ (by decide +kernel)) (.cons (e1.up (Nat.le_refl 1) (by decide)) (.cons (e2.up (Nat.le_refl 1) (by decide)) (.cons (e3.up (Nat.le_refl 1) (by decide)) (.cons (e4.up (Nat.le_refl 1) (by decide)) (.cons (e6.up (Nat.le_refl 1) (by decide)) (.cons (e8.up (Nat.le_refl 1) (by decide)) (.cons (e10.up (Nat.le_refl 1) (by decide)) (.cons (e12.up (Nat.le_refl 1) (by decide)) .nil)))))))))))))))))
    have k13 : ∀ cs, Kp cs H12 (upd H12 p13 (.lst [V.non, V.bl true, V.bl false, V.int 0, V.int 1, V.int 2, V.int (-1), V.str "", V.str "0", V.ref p1, V.ref p2, V.ref p3, V.ref p4, V.ref p6, V.ref p8, V.ref p10, V.ref p12])) := fun cs => Kp.rfl'.new f13
    refine ⟨b, p13, _, n, rfl, hB.keep (c12.trans (k13 [])) (by simp), hn, upd_same, n13, by show 1 ≤ 17; decide, by show 17 ≤ 1000; decide, fun i v H' e hB' k' => ?_⟩
    obtain ⟨d, _, hd⟩ := da.get e
    exact q v d H' ((hd.keep (k13 _)).keep (k'.sub (by simp))) hB' (((c12.trans (k13 [])).sub (by simp)).trans k')

end
end Sw

set_option maxHeartbeats 2000000
namespace Sw
open PySem PySem.Spec PyProof.Rows L2
section
variable {P : Program} {w : World} {K : PySem.W.Frag} {mg : Str → Option Value} {base : Heap}

theorem ixN_of {n : Nat} {r : Int} (h0 : 0 ≤ r) (h1 : r.toNat < n) : ixN n r = some r.toNat := by
  unfold ixN
  rw [if_pos h0, if_pos (by omega)]
theorem sIx_of {n d : Nat} {r : Int} (h0 : 0 ≤ r) : HT.sIx n d (some r) = min r.toNat n := by
  unfold HT.sIx
  simp only []
  rw [if_neg (by omega)]
theorem cut_to (xs : List V) {r : Int} (h0 : 0 ≤ r) : cutV xs none (some r) = xs.take r.toNat := by
  unfold cutV
  rw [HT.sIx_none, sIx_of h0, List.drop_zero, Nat.sub_zero]
  rw [List.take_eq_take_iff]
  omega
theorem cut_from (xs : List V) {r : Int} (h0 : 0 ≤ r) : cutV xs (some r) none = xs.drop r.toNat := by
  unfold cutV
  rw [HT.sIx_none, sIx_of h0]
  by_cases c : r.toNat ≤ xs.length
  · rw [Nat.min_eq_left c, List.take_of_length_le (by simp)]
  · rw [Nat.min_eq_right (by omega), List.drop_of_length_le (Nat.le_refl _), List.drop_of_length_le (by omega)]
    simp
theorem cut_two (xs : List V) {r : Int} (h0 : 0 ≤ r) : ∃ ys, cutV xs (some r) (some (r + 2)) = ys ∧ ys.length ≤ min 2 (xs.length - r.toNat) ∧ ∀ y ∈ ys, y ∈ xs := by
  refine ⟨_, rfl, ?_, ?_⟩
  · unfold cutV
    rw [sIx_of h0, sIx_of (show 0 ≤ r + 2 by omega), List.length_take, List.length_drop]
    omega
  · intro y hy
    unfold cutV at hy
    exact List.mem_of_mem_drop (List.mem_of_mem_take hy)
theorem ins_mem {xs : List V} {va : V} (h : va ∈ xs) {i : Nat} : ∀ u ∈ xs.take i ++ [va] ++ xs.drop i, u ∈ xs := fun u hu => by
  rcases List.mem_append.mp hu with z | z
  · rcases List.mem_append.mp z with y | y
    · exact List.mem_of_mem_take y
    · rw [List.mem_singleton.mp y]
      exact h
  · exact List.mem_of_mem_drop z
theorem swp {l b : Addr} {cs : List Addr} : ∀ a, a ∈ b :: l :: cs → a ∈ l :: b :: cs := fun a h => by
  simp only [List.mem_cons] at h ⊢
  exact h.elim (fun z => .inr (.inl z)) fun z => z.elim .inl fun y => .inr (.inr y)
theorem swp2 {l b : Addr} {cs : List Addr} : ∀ a, a ∈ l :: b :: cs → a ∈ b :: l :: cs := swp
def sp_bent (m : Nat) : Sp := fun vs H Q _ => ∃ (b : Addr) (v : V) (d : PyData) (n w k : Nat) (cs : List Addr), vs = [.ref b, v] ∧ Bx H b n ∧ n + 10 * m ≤ 700000 ∧ D (b :: cs) H w k v d ∧ k < m ∧ m ≤ 10 ∧ 1 ≤ w ∧ w ≤ 20 ∧ (∀ c ∈ cs, ∃ o, H c = some o) ∧
  ∀ (v' : V) (d' : PyData) (H' : Hp), D (b :: cs) H' (w + 1) (k + 2) v' d' → Bx H' b (n + 5 * m) → Kp [b] H H' → Q v' H'
theorem ok_bent (T : Tx K mg) : ∀ m : Nat, FnOk P w K mg base CX0 (m + 4) (He.fAd K ("_law_bent", none)) T.fd__law_bent p__law_bent (sp_bent m)
  | 0 => by
    refine T.F__law_bent.ok sc__law_bent (fun vs H Q E h => ?_) (fun cdv A outer s H vs Q E hr h => ?_)
    · obtain ⟨_, _, _, _, _, _, _, rfl, _⟩ := h
      rfl
    · obtain ⟨_, _, _, _, _, _, _, _, _, _, _, z, _⟩ := h
      exact absurd z (Nat.not_lt_zero _)
  | m + 1 => by
    have G__law_bent := ok_bent T m
    have G__law_take := ok_take (P := P) (w := w) (base := base) T
    have G__law_odd := ok_odd (P := P) (w := w) (base := base) T
    refine T.F__law_bent.ok sc__law_bent (fun vs H Q E h => ?_) (fun cdv A outer s H vs Q E hr h => ?_)
    · obtain ⟨_, _, _, _, _, _, _, rfl, _⟩ := h
      rfl
    · obtain ⟨b, v, d, n, w', k, cs, rfl, hB, hn, hD, km, m10, w1, w20, hcs, q⟩ := h
      refine ⟨_, PSs.nox (pss_cons (ps_set (i := 2) sc__law_bent.nd rfl (by first | exact Or.inl rfl | exact Or.inr rfl) (pe_call G__law_take (hr.mono (by first | decide | omega)) rfl T.g__law_take T.F__law_take.kp T.bd__law_take .nil pass0 (pa_cons (pv 0) (pa_cons pe_int pa_nil))))
      (pss_cons (ps_if (PW.pt (pw_or (pt_not (pt_val (pe_callB call_isiT (by rfl) T.b_isinstance (by decide +kernel) (pa_cons (pv 1) (pa_cons (pe_tup (pa_cons (pe_bltn (v := .ty "list") (by rfl) T.b_list (by decide +kernel) rfl) (pa_cons (pe_bltn (v := .ty "tuple") (by rfl) T.b_tuple (by decide +kernel) rfl) pa_nil))) pa_nil))))) (pw_or (pt_cmpR op_eq (pe_callB call_len (by rfl) T.b_len (by decide +kernel) (pa_cons (pv 1) pa_nil)) pe_int (nomark _)) (pw_or1 (pt_cmpR op_eq (pv 2) pe_int (nomark _))))))
      (pss_cons (ps_if (PW.pt (pw_and (pt_val (pe_callB call_isi (by rfl) T.b_isinstance (by decide +kernel) (pa_cons (pv 1) (pa_cons (pe_bltn (v := .ty "int") (by rfl) T.b_int (by decide +kernel) rfl) pa_nil)))) (pw_and1 (pt_cmpR op_gt (pv 2) pe_int (nomark _)))))
      (pss_one (ps_ret (pe_ix ix_list (pe_lst (pa_cons pe_int (pa_cons pe_int (pa_cons (pe_op op_addN (pv 1) pe_int) (pa_cons (pe_op op_subN (pv 1) pe_int) (pa_cons (pe_cmpR op_eqN (pv 1) pe_int (nomark _)) (pa_cons (pe_un un_neg pe_int) (pa_cons pe_int (pa_cons pe_non pa_nil))))))))) (pe_op op_sub (pv 2) pe_int) (fun _ _ => rfl))))
      pss_nil)
      (pss_one (ps_ret (pe_call G__law_odd (hr.mono (by first | decide | omega)) rfl T.g__law_odd T.F__law_odd.kp T.bd__law_odd .nil pass0 (pa_cons (pv 0) pa_nil)))))
      pss_nil)
      (pss_cons (ps_par (i := 3) (j := 4) (by rfl) sc__law_bent.nd rfl rfl (by decide) rfl rfl (pa_cons (pe_callTy call_list_of (by rfl) T.b_list (by decide +kernel) (pa_cons (pv 1) pa_nil)) (pa_cons (pe_call G__law_take (hr.mono (by first | decide | omega)) rfl T.g__law_take T.F__law_take.kp T.bd__law_take .nil pass0 (pa_cons (pv 0) (pa_cons (pe_callB call_len (by rfl) T.b_len (by decide +kernel) (pa_cons (pv 1) pa_nil)) pa_nil))) pa_nil)) (by rfl))
      (pss_cons (ps_if (pt_cmpR op_lt (pv 2) pe_int (nomark _))
      (pss_one (ps_asg (pe_call G__law_bent hr rfl T.g__law_bent T.F__law_bent.kp T.bd__law_bent .nil pass0 (pa_cons (pv 0) (pa_cons (pe_ix ix_list (pv 3) (pv 4) (fun _ _ => rfl)) pa_nil))) (pg_sub (pv 3) (pv 4) set_list)))
      (pss_one (ps_if (pt_cmpR op_eq (pv 2) pe_int (nomark _))
      (pss_one (ps_expr (pe_bm PySem.F.plainAttrs_list PySem.F.slot_list_pop PySem.F.type_list_pop mt_popAt (pv 3) (pa_cons (pv 4) pa_nil))))
      (pss_one (ps_if (pt_cmpR op_eq (pv 2) pe_int (nomark _))
      (pss_one (ps_expr (pe_bm PySem.F.plainAttrs_list PySem.F.slot_list_insert PySem.F.type_list_insert mt_insert (pv 3) (pa_cons (pv 4) (pa_cons (pe_ix ix_list (pv 3) (pv 4) (fun _ _ => rfl)) pa_nil)))))
      (pss_one (ps_if (pt_cmpR op_eq (pv 2) pe_int (nomark _))
      (pss_one (ps_set (i := 3) sc__law_bent.nd rfl (by first | exact Or.inl rfl | exact Or.inr rfl) (pe_op op_cat (pe_op op_cat (pe_slice sl_list (pv 3) po_none (po_some (pv 4))) (pe_revL (pe_slice sl_list (pv 3) (po_some (pv 4)) (po_some (pe_op op_add (pv 4) pe_int))))) (pe_slice sl_list (pv 3) (po_some (pe_op op_add (pv 4) pe_int)) po_none))))
      (pss_one (ps_if (pt_cmpR op_eq (pv 2) pe_int (nomark _))
      (pss_one (ps_expr (pe_bm PySem.F.plainAttrs_list PySem.F.slot_list_insert PySem.F.type_list_insert mt_insert (pv 3) (pa_cons (pe_call G__law_take (hr.mono (by first | decide | omega)) rfl T.g__law_take T.F__law_take.kp T.bd__law_take .nil pass0 (pa_cons (pv 0) (pa_cons (pe_op op_add (pe_callB call_len (by rfl) T.b_len (by decide +kernel) (pa_cons (pv 3) pa_nil)) pe_int) pa_nil))) (pa_cons (pe_call G__law_odd (hr.mono (by first | decide | omega)) rfl T.g__law_odd T.F__law_odd.kp T.bd__law_odd .nil pass0 (pa_cons (pv 0) pa_nil)) pa_nil)))))
      (pss_one (ps_ret (pe_ifExp (pt_val (pe_callB call_isi (by rfl) T.b_isinstance (by decide +kernel) (pa_cons (pv 1) (pa_cons (pe_bltn (v := .ty "list") (by rfl) T.b_list (by decide +kernel) rfl) pa_nil)))) (pe_callTy call_tuple_of (by rfl) T.b_tuple (by decide +kernel) (pa_cons (pv 3) pa_nil)) (pv 3)))))))))))))
      (pss_one (ps_ret (pe_ifExp (pt_val (pe_callB call_isi (by rfl) T.b_isinstance (by decide +kernel) (pa_cons (pv 1) (pa_cons (pe_bltn (v := .ty "list") (by rfl) T.b_list (by decide +kernel) rfl) pa_nil)))) (pv 3) (pe_callTy call_tuple_of (by rfl) T.b_tuple (by decide +kernel) (pa_cons (pv 3) pa_nil))))))))), ?_⟩
      refine ⟨_, rfl, b, 12, n, rfl, hB, by decide, by decide, by omega, fun r H1 r0 r1 hB1 k1 => ?_⟩
      refine ⟨_, rfl, by show 2 ≤ sizeLine; decide, fun t ht => ?_⟩
      have k2 : ∀ cs, Kp cs H1 (upd H1 t (.tup [.ty "list", .ty "tuple"])) := fun cs => Kp.rfl'.new ht
      have hD2 := (hD.keep (k1.sub (by simp))).keep (k2 (b :: cs))
      have hB2 := hB1.keep (k2 []) (by simp)
      have k02 := k1.trans (k2 [b])
      obtain ⟨_, _, _, eb0, _⟩ := id hB.ex
      have nbc : ∀ {H6 : Hp} {c : Addr}, Bx H6 b 10000000 → Kp [b] H H6 → H6 c = none → c ∉ b :: cs := fun {H6 c} b6 k6 h6 m6 => by
        rcases List.mem_cons.mp m6 with z | z
        · obtain ⟨_, _, _, e6, _⟩ := id b6.ex
          rw [z, e6] at h6
          cases h6
        · by_cases y : c = b
          · obtain ⟨_, _, _, e6, _⟩ := id b6.ex
            rw [y, e6] at h6
            cases h6
          · obtain ⟨o, e⟩ := hcs c z
            rw [k6 _ _ e (by simpa using y)] at h6
            cases h6
      have ht2 : (upd H1 t (.tup [.ty "list", .ty "tuple"])) t = some (.tup [.ty "list", .ty "tuple"]) := upd_same
      generalize upd H1 t (.tup [.ty "list", .ty "tuple"]) = H2 at hD2 hB2 k02 ht2
      refine ⟨_, t, _, _, [.type "list", .type "tuple"], _, rfl, ht2, tyLT, hD2.tyx, hD2.kQ, _, rfl, ?_⟩
      have kept : ∀ {H6 : Hp} {n6 : Nat}, Kp [b] H H6 → Bx H6 b n6 → ∀ c ∈ cs, ∃ o, H6 c = some o := fun {H6 n6} k6 b6 c hc => by
        by_cases y : c = b
        · obtain ⟨_, _, _, e6, _⟩ := id b6.ex
          exact ⟨_, y ▸ e6⟩
        · obtain ⟨o, e⟩ := hcs c hc
          exact ⟨o, k6 _ _ e (by simpa using y)⟩
      have asodd : ∃ (b' : Addr) (n' : Nat) (cs' : List Addr), [V.ref b] ++ [] = [.ref b'] ∧ Bx H2 b' n' ∧ n' ≤ 900000 ∧ (∀ c ∈ cs', ∃ o, H2 c = some o) ∧ ∀ (v : V) (d : PyData) (H' : Hp), D (b' :: cs') H' 1 2 v d → Bx H' b' (n' + 1) → Kp [b'] H2 H' → Q v H' :=
        ⟨b, n + 1, cs, rfl, hB2, by omega, kept k02 hB2, fun v' d' H3 hd' hB3 k3 => q v' d' H3 (hd'.up (by omega) (by omega)) (hB3.up (by omega)) (k02.trans k3)⟩
      have isi := hD2.tyx (K := K)
      have kk := hD2.kit (K := K)
      cases hD2 with
      | non => exact iteT (iteT ⟨_, rfl, _, _, _, _, _, rfl, .ty _, isi, kk.2.2.2.1, _, rfl, iteF (iteF ⟨_, rfl, asodd⟩)⟩)
      | str y hy => exact iteT (iteT ⟨_, rfl, _, _, _, _, _, rfl, .ty _, isi, kk.2.2.2.1, _, rfl, iteF (iteF ⟨_, rfl, asodd⟩)⟩)

      | int i hi =>
        refine iteT (iteT ⟨_, rfl, _, _, _, _, _, rfl, .ty _, isi, kk.2.2.2.1, _, rfl, iteT ⟨_, rfl, _, _, rfl, rfl, _, rfl, ?_⟩⟩)
        by_cases c3 : 3 < r
        · refine iteC (by simp [c3]) ?_
          refine ⟨_, rfl, i, 1, rfl, rfl, _, rfl, i, 1, rfl, rfl, _, rfl, i, 1, rfl, rfl, 1, rfl, by show 8 ≤ sizeLine; decide, fun l hl => ?_⟩
          refine ⟨_, rfl, _, _, rfl, rfl, ?_⟩
          have kl : ∀ cs o, Kp cs H2 (upd H2 l o) := fun cs o => Kp.rfl'.new hl
          have out : ∀ (x : V) (dx : PyData) (o : HO), D (b :: cs) (upd H2 l o) (w' + 1) (k + 2) x dx → Q x (upd H2 l o) := fun x dx o hx => q x dx _ hx ((hB2.keep (kl [] o) (by simp)).up (by omega)) (k02.trans (kl _ o))
          have cases8 : r = 4 ∨ r = 5 ∨ r = 6 ∨ r = 7 ∨ r = 8 ∨ r = 9 ∨ r = 10 ∨ r = 11 := by omega
          have ib : (i).natAbs < 2 ^ 39 + w' := by omega
          rcases cases8 with z | z | z | z | z | z | z | z <;> subst z
          · exact ⟨l, _, _, _, rfl, rfl, SqL.of upd_same, rfl, out _ _ _ (.int 0 (by omega))⟩
          · exact ⟨l, _, _, _, rfl, rfl, SqL.of upd_same, rfl, out _ _ _ (.int 4 (by omega))⟩
          · exact ⟨l, _, _, _, rfl, rfl, SqL.of upd_same, rfl, out _ _ _ (.int _ (by omega))⟩
          · exact ⟨l, _, _, _, rfl, rfl, SqL.of upd_same, rfl, out _ _ _ (.int _ (by omega))⟩
          · exact ⟨l, _, _, _, rfl, rfl, SqL.of upd_same, rfl, out _ _ _ (.bl _)⟩
          · exact ⟨l, _, _, _, rfl, rfl, SqL.of upd_same, rfl, out _ _ _ (.int (-1) (by omega))⟩
          · exact ⟨l, _, _, _, rfl, rfl, SqL.of upd_same, rfl, out _ _ _ (.int 5 (by omega))⟩
          · exact ⟨l, _, _, _, rfl, rfl, SqL.of upd_same, rfl, out _ _ _ .non⟩
        · exact iteN (by simp [c3]) ⟨_, rfl, asodd⟩

      | bl bb =>
        refine iteT (iteT ⟨_, rfl, _, _, _, _, _, rfl, .ty _, isi, kk.2.2.2.1, _, rfl, iteT ⟨_, rfl, _, _, rfl, rfl, _, rfl, ?_⟩⟩)
        by_cases c3 : 3 < r
        · refine iteC (by simp [c3]) ?_
          refine ⟨_, rfl, (if bb = true then (1 : Int) else 0), 1, rfl, rfl, _, rfl, (if bb = true then (1 : Int) else 0), 1, rfl, rfl, _, rfl, (if bb = true then (1 : Int) else 0), 1, rfl, rfl, 1, rfl, by show 8 ≤ sizeLine; decide, fun l hl => ?_⟩
          refine ⟨_, rfl, _, _, rfl, rfl, ?_⟩
          have kl : ∀ cs o, Kp cs H2 (upd H2 l o) := fun cs o => Kp.rfl'.new hl
          have out : ∀ (x : V) (dx : PyData) (o : HO), D (b :: cs) (upd H2 l o) (w' + 1) (k + 2) x dx → Q x (upd H2 l o) := fun x dx o hx => q x dx _ hx ((hB2.keep (kl [] o) (by simp)).up (by omega)) (k02.trans (kl _ o))
          have cases8 : r = 4 ∨ r = 5 ∨ r = 6 ∨ r = 7 ∨ r = 8 ∨ r = 9 ∨ r = 10 ∨ r = 11 := by omega
          have ib : ((if bb = true then (1 : Int) else 0)).natAbs < 2 ^ 39 + w' := by split <;> omega
          rcases cases8 with z | z | z | z | z | z | z | z <;> subst z
          · exact ⟨l, _, _, _, rfl, rfl, SqL.of upd_same, rfl, out _ _ _ (.int 0 (by omega))⟩
          · exact ⟨l, _, _, _, rfl, rfl, SqL.of upd_same, rfl, out _ _ _ (.int 4 (by omega))⟩
          · exact ⟨l, _, _, _, rfl, rfl, SqL.of upd_same, rfl, out _ _ _ (.int _ (by omega))⟩
          · exact ⟨l, _, _, _, rfl, rfl, SqL.of upd_same, rfl, out _ _ _ (.int _ (by omega))⟩
          · exact ⟨l, _, _, _, rfl, rfl, SqL.of upd_same, rfl, out _ _ _ (.bl _)⟩
          · exact ⟨l, _, _, _, rfl, rfl, SqL.of upd_same, rfl, out _ _ _ (.int (-1) (by omega))⟩
          · exact ⟨l, _, _, _, rfl, rfl, SqL.of upd_same, rfl, out _ _ _ (.int 5 (by omega))⟩
          · exact ⟨l, _, _, _, rfl, rfl, SqL.of upd_same, rfl, out _ _ _ .non⟩
        · exact iteN (by simp [c3]) ⟨_, rfl, asodd⟩

      | @lst k' a xs ds hA nA lA dA =>
        refine iteF ?_
        have lx := DA.len dA
        refine ⟨_, rfl, _, xs.length, rfl, .inl ⟨_, SqL.of hA, rfl⟩, rfl, _, rfl, ?_⟩
        by_cases cl : xs.length = 0
        · exact iteC (by simp [cl]) (iteT ⟨_, rfl, _, _, _, _, _, rfl, .ty _, isi, kk.2.2.2.1, _, rfl, iteF (iteF ⟨_, rfl, asodd⟩)⟩)
        refine iteN (decide_eq_false fun z => cl (by have := V.int.inj z; omega)) ?_
        refine ⟨_, rfl, rfl, _, rfl, ?_⟩
        by_cases cr : r = 0
        · exact iteC (by simp [cr]) ⟨_, rfl, _, _, _, _, _, rfl, .ty _, isi, kk.2.2.2.1, _, rfl, iteF (iteF ⟨_, rfl, asodd⟩)⟩
        refine iteN (by simp [cr]) ?_
        -- some, at = list(odd), take(box, len(odd))
        refine ⟨_, rfl, a, xs, rfl, .inl (SqL.of hA), fun l hl => ?_⟩
        have kl : ∀ cs, Kp cs H2 (upd H2 l (.lst xs)) := fun cs => Kp.rfl'.new hl
        have nla : a ≠ l := ne_of_none hA hl
        obtain ⟨_, _, _, eb2, _⟩ := id hB2.ex
        have nlb : l ≠ b := (ne_of_none eb2 hl).symm
        have hA3 : (upd H2 l (.lst xs)) a = some (.lst xs) := kl [] _ _ hA (by simp)
        have dl3 : DA (l :: b :: cs) (upd H2 l (.lst xs)) w' k' xs ds := (dA.fresh hl).keep (kl _)
        refine ⟨_, rfl, _, rfl, _, xs.length, rfl, .inl ⟨_, SqL.of hA3, rfl⟩, b, xs.length, n + 1, rfl, hB2.keep (kl []) (by simp), by omega, by omega, by omega, fun at0 H4 a0 a1 hB4 k4 => ⟨_, _, rfl, ?_⟩⟩
        have hl4 : H4 l = some (.lst xs) := k4 _ _ upd_same (by simpa using nlb)
        have nA1 : a ∉ [b] := fun z => nA (by rw [List.mem_singleton.mp z]; simp)
        have hA4 : H4 a = some (.lst xs) := k4 _ _ hA3 nA1
        have d4 : DA (l :: b :: cs) H4 w' k' xs ds := dl3.keep (k4.sub fun a h => by rw [List.mem_singleton.mp h]; simp)
        have k04 : Kp [b] H H4 := (k02.trans (kl _)).trans k4
        have lt0 : at0.toNat < xs.length := by omega
        obtain ⟨va, hva⟩ : ∃ va, xs[at0.toNat]? = some va := ⟨xs[at0.toNat], by simp [lt0]⟩
        obtain ⟨da0, hda0, hDa⟩ := d4.get hva
        have hat : atI xs at0 = some va := at_of (j := at0.toNat) (by omega) hva
        have fl : H l = none := k02.free hl (by simpa using nlb)
        -- what is told at last
        have done : ∀ (l' : Addr) (xs' : List V) (H6 : Hp), H6 l' = some (.lst xs') → l' ∉ b :: cs → xs'.length ≤ w' + 1 → (∀ u ∈ xs', ∃ e, D (b :: cs) H6 (w' + 1) (k' + 2) u e) → Bx H6 b (n + 5 * (m + 1)) → Kp [b] H H6 → Q (.ref l') H6 ∧ ∀ t', H6 t' = none → Q (.ref t') (upd H6 t' (.tup xs')) := by
          intro l' xs' H6 h6 n6 l6 i6 b6 k6
          obtain ⟨es, he⟩ := DA.any i6
          refine ⟨q _ _ H6 (.lst h6 n6 l6 he) b6 k6, fun t' ht' => ?_⟩
          have kt : ∀ cs, Kp cs H6 (upd H6 t' (.tup xs')) := fun cs => Kp.rfl'.new ht'
          exact q _ _ _ (.tup upd_same (nbc (b6.up (by omega)) k6 ht') l6 (he.keep (kt _))) (b6.keep (kt []) (by simp)) (k6.trans (kt _))
        have items : ∀ (H6 : Hp), Kp (l :: b :: cs) H4 H6 → ∀ u ∈ xs, ∃ e, D (b :: cs) H6 (w' + 1) (k' + 2) u e := fun H6 k6 u hu => by
          obtain ⟨e, he⟩ := d4.mem u hu
          exact ⟨e, ((he.keep k6).up (by omega) (by omega)).less fun a h => List.mem_cons_of_mem _ h⟩
        have nAl : a ∉ l :: b :: cs := fun z => (List.mem_cons.mp z).elim nla nA
        have nlc : l ∉ b :: cs := nbc (hB2.up (by omega)) k02 hl
        have lcs : ∀ {H6 : Hp} {n6 : Nat}, Kp [b] H H6 → Bx H6 b n6 → H6 l = some (.lst xs) → ∀ c ∈ l :: cs, ∃ o, H6 c = some o := fun {H6 n6} k6 b6 h6 c hc => (List.mem_cons.mp hc).elim (fun z => ⟨_, z ▸ h6⟩) (kept k6 b6 c)
        refine ⟨_, rfl, _, _, rfl, rfl, _, rfl, ?_⟩
        by_cases c7 : r < 7
        · refine iteC (by simp [c7]) ?_
          refine ⟨_, rfl, _, rfl, _, rfl, l, _, _, va, rfl, rfl, SqL.of hl4, hat, b, va, da0, n + 1 + 1, w', k', l :: cs, rfl, hB4, by omega, hDa.less swp, by omega, by omega, w1, w20, lcs k04 hB4 hl4, fun v' d' H5 hd5 hB5 k5 => ?_⟩
          have hl5 := k5 _ _ hl4 (by simpa using nlb)
          refine ⟨_, rfl, _, rfl, l, _, _, _, rfl, rfl, hl5, ixN_of a0 lt0, ?_⟩
          have kp : Kp (l :: b :: cs) H5 (upd H5 l (.lst (xs.set at0.toNat v'))) := Kp.rfl'.put (by simp)
          have hA6 : (upd H5 l (.lst (xs.set at0.toNat v'))) a = some (.lst xs) := kp _ _ (k5 _ _ hA4 nA1) nAl
          have items6 : ∀ u ∈ xs.set at0.toNat v', ∃ e, D (b :: cs) (upd H5 l (.lst (xs.set at0.toNat v'))) (w' + 1) (k' + 2) u e := fun u hu => by
            rcases List.mem_or_eq_of_mem_set hu with z | z
            · exact items _ ((k5.sub fun a h => by rw [List.mem_singleton.mp h]; simp).trans kp) u z
            · subst z
              exact ⟨d', ((hd5.less swp2).keep kp).less fun a h => List.mem_cons_of_mem _ h⟩
          exact ⟨_, rfl, _, _, _, _, _, rfl, .ty _, .base (.lst hA6), kk.1, _, rfl, iteT ⟨_, rfl, (done l (xs.set at0.toNat v') _ upd_same nlc (by rw [List.length_set]; omega) items6 ((hB5.keep (Kp.rfl'.put (bs := [l]) (by simp)) (by simpa using nlb.symm)).up (by omega)) ((k04.trans k5).own fl)).1⟩⟩
        refine iteN (by simp; omega) ⟨_, rfl, rfl, _, rfl, ?_⟩
        by_cases c8 : r = 7
        · refine iteC (by simp [c8]) ?_
          refine ⟨_, rfl, .inl ⟨rfl, _, SqL.of hl4⟩, _, rfl, l, _, _, _, _, rfl, rfl, hl4, by omega, by omega, (ixN_seq (ixN_of a0 lt0)).1, hva, ?_⟩
          have kp : Kp (l :: b :: cs) H4 (upd H4 l (.lst (xs.eraseIdx at0.toNat))) := Kp.rfl'.put (by simp)
          have hA6 : (upd H4 l (.lst (xs.eraseIdx at0.toNat))) a = some (.lst xs) := kp _ _ hA4 nAl
          exact ⟨_, rfl, _, _, _, _, _, rfl, .ty _, .base (.lst hA6), kk.1, _, rfl, iteT ⟨_, rfl, (done l (xs.eraseIdx at0.toNat) _ upd_same nlc (by have := List.length_eraseIdx_le xs at0.toNat; omega) (fun u hu => items _ kp u (List.mem_of_mem_eraseIdx hu)) ((hB4.keep (Kp.rfl'.put (bs := [l]) (by simp)) (by simpa using nlb.symm)).up (by omega)) (k04.own fl)).1⟩⟩
        refine iteN (by simp [c8]) ⟨_, rfl, rfl, _, rfl, ?_⟩
        by_cases c9 : r = 8
        · refine iteC (by simp [c9]) ?_
          refine ⟨_, rfl, .inl ⟨rfl, _, SqL.of hl4⟩, _, rfl, _, rfl, _, rfl, l, _, _, va, rfl, rfl, SqL.of hl4, hat, l, _, _, _, rfl, rfl, hl4, small1000 (by omega), a0, by omega, ?_⟩
          have kp : Kp (l :: b :: cs) H4 (upd H4 l (.lst (xs.take at0.toNat ++ [va] ++ xs.drop at0.toNat))) := Kp.rfl'.put (by simp)
          have hA6 : (upd H4 l (.lst (xs.take at0.toNat ++ [va] ++ xs.drop at0.toNat))) a = some (.lst xs) := kp _ _ hA4 nAl
          exact ⟨_, rfl, _, _, _, _, _, rfl, .ty _, .base (.lst hA6), kk.1, _, rfl, iteT ⟨_, rfl, (done l (xs.take at0.toNat ++ [va] ++ xs.drop at0.toNat) _ upd_same nlc (by simp; omega) (fun u hu => items _ kp u (ins_mem (List.mem_of_getElem? hva) u hu)) ((hB4.keep (Kp.rfl'.put (bs := [l]) (by simp)) (by simpa using nlb.symm)).up (by omega)) (k04.own fl)).1⟩⟩
        refine iteN (by simp [c9]) ⟨_, rfl, rfl, _, rfl, ?_⟩
        by_cases c10 : r = 9
        · refine iteC (by simp [c10]) ?_
          refine ⟨_, rfl, _, rfl, _, rfl, l, _, rfl, SqL.of hl4, fun q1 f1 => ?_⟩
          have k5 : ∀ cs, Kp cs H4 (upd H4 q1 (.lst (cutV xs none (some at0)))) := fun cs => Kp.rfl'.new f1
          have g1 : (upd H4 q1 (.lst (cutV xs none (some at0)))) q1 = some (.lst (cutV xs none (some at0))) := upd_same
          generalize upd H4 q1 (.lst (cutV xs none (some at0))) = H5 at k5 g1
          have hl5 := k5 [] _ _ hl4 (by simp)
          refine ⟨_, rfl, _, rfl, _, rfl, _, rfl, _, _, rfl, rfl, _, rfl, l, _, rfl, SqL.of hl5, fun q2 f2 => ?_⟩
          have k6 : ∀ cs, Kp cs H5 (upd H5 q2 (.lst (cutV xs (some at0) (some (at0 + 2))))) := fun cs => Kp.rfl'.new f2
          have g2 : (upd H5 q2 (.lst (cutV xs (some at0) (some (at0 + 2))))) q2 = some (.lst (cutV xs (some at0) (some (at0 + 2)))) := upd_same
          generalize upd H5 q2 (.lst (cutV xs (some at0) (some (at0 + 2)))) = H6 at k6 g2
          obtain ⟨X2, e2, l2, m2⟩ := cut_two xs a0
          rw [e2] at g2
          have l1 : (cutV xs none (some at0)).length = at0.toNat := by
            rw [cut_to xs a0, List.length_take]
            omega
          have l3 : (cutV xs (some (at0 + 2)) none).length = xs.length - (at0 + 2).toNat := by
            rw [cut_from xs (by omega), List.length_drop]
          refine ⟨q2, _, rfl, SqL.of g2, fun q3 f3 => ?_⟩
          have k7 : ∀ cs, Kp cs H6 (upd H6 q3 (.lst X2.reverse)) := fun cs => Kp.rfl'.new f3
          have g3 : (upd H6 q3 (.lst X2.reverse)) q3 = some (.lst X2.reverse) := upd_same
          generalize upd H6 q3 (.lst X2.reverse) = H7 at k7 g3
          refine ⟨q1, q3, _, _, rfl, rfl, k7 [] _ _ (k6 [] _ _ g1 (by simp)) (by simp), g3, Nat.le_of_lt (small1000 (by rw [l1, List.length_reverse]; omega)), fun q4 f4 => ?_⟩
          have k8 : ∀ cs, Kp cs H7 (upd H7 q4 (.lst (cutV xs none (some at0) ++ X2.reverse))) := fun cs => Kp.rfl'.new f4
          have g4 : (upd H7 q4 (.lst (cutV xs none (some at0) ++ X2.reverse))) q4 = some (.lst (cutV xs none (some at0) ++ X2.reverse)) := upd_same
          generalize upd H7 q4 (.lst (cutV xs none (some at0) ++ X2.reverse)) = H8 at k8 g4
          have k48 : ∀ cs, Kp cs H4 H8 := fun cs => (((k5 cs).trans (k6 cs)).trans (k7 cs)).trans (k8 cs)
          refine ⟨_, rfl, _, rfl, _, _, rfl, rfl, _, rfl, l, _, rfl, SqL.of (k48 [] _ _ hl4 (by simp)), fun q5 f5 => ?_⟩
          have k9 : ∀ cs, Kp cs H8 (upd H8 q5 (.lst (cutV xs (some (at0 + 2)) none))) := fun cs => Kp.rfl'.new f5
          have g5 : (upd H8 q5 (.lst (cutV xs (some (at0 + 2)) none))) q5 = some (.lst (cutV xs (some (at0 + 2)) none)) := upd_same
          generalize upd H8 q5 (.lst (cutV xs (some (at0 + 2)) none)) = H9 at k9 g5
          have lall : (cutV xs none (some at0) ++ X2.reverse ++ cutV xs (some (at0 + 2)) none).length ≤ w' + 1 := by
            rw [List.length_append, List.length_append, l1, l3, List.length_reverse]
            omega
          have mall : ∀ u ∈ cutV xs none (some at0) ++ X2.reverse ++ cutV xs (some (at0 + 2)) none, u ∈ xs := fun u hu => by
            rw [cut_to xs a0, cut_from xs (by omega)] at hu
            rcases List.mem_append.mp hu with z | z
            · rcases List.mem_append.mp z with y | y
              · exact List.mem_of_mem_take y
              · exact m2 u (List.mem_reverse.mp y)
            · exact List.mem_of_mem_drop z
          refine ⟨q4, q5, _, _, rfl, rfl, k9 [] _ _ g4 (by simp), g5, ?_, fun q6 f6 => ?_⟩
          · rw [List.length_append] at lall
            exact Nat.le_of_lt (small1000 (by omega))
          generalize hX : cutV xs none (some at0) ++ X2.reverse ++ cutV xs (some (at0 + 2)) none = X at lall mall
          have k49 : ∀ cs, Kp cs H4 H9 := fun cs => (k48 cs).trans (k9 cs)
          have k410 : ∀ cs, Kp cs H4 (upd H9 q6 (.lst X)) := fun cs => (k49 cs).new f6
          have hA6 : (upd H9 q6 (.lst X)) a = some (.lst xs) := k410 [] _ _ hA4 (by simp)
          have nq6 : q6 ∉ b :: cs := nbc ((hB4.keep (k49 []) (by simp)).up (by omega)) (k04.trans (k49 _)) f6
          exact ⟨_, rfl, _, _, _, _, _, rfl, .ty _, .base (.lst hA6), kk.1, _, rfl, iteT ⟨_, rfl, (done q6 (X) _ upd_same nq6 (lall) (fun u hu => items _ (k410 _) u (mall u hu)) ((hB4.keep (k410 []) (by simp)).up (by omega)) (k04.trans (k410 _))).1⟩⟩
        refine iteN (by simp [c10]) ⟨_, rfl, rfl, _, rfl, ?_⟩
        by_cases c11 : r = 10
        · refine iteC (by simp [c11]) ?_
          refine ⟨_, rfl, .inl ⟨rfl, _, SqL.of hl4⟩, _, rfl, _, rfl, _, xs.length, rfl, .inl ⟨_, SqL.of hl4, rfl⟩, _, _, rfl, rfl, b, _, n + 1 + 1, rfl, hB4, by omega, by omega, by omega, fun r2 H5 z0 z1 hB5 k5 => ?_⟩
          have hl5 := k5 _ _ hl4 (by simpa using nlb)
          refine ⟨_, rfl, b, _, l :: cs, rfl, hB5, by omega, lcs (k04.trans k5) hB5 hl5, fun v' d' H6 hd6 hB6 k6 => ?_⟩
          have k46 : Kp [b] H4 H6 := k5.trans k6
          have hl6 := k46 _ _ hl4 (by simpa using nlb)
          refine ⟨l, _, _, _, rfl, rfl, hl6, small1000 (by omega), z0, by omega, ?_⟩
          have kp : Kp (l :: b :: cs) H6 (upd H6 l (.lst (xs.take r2.toNat ++ [v'] ++ xs.drop r2.toNat))) := Kp.rfl'.put (by simp)
          have hA6 : (upd H6 l (.lst (xs.take r2.toNat ++ [v'] ++ xs.drop r2.toNat))) a = some (.lst xs) := kp _ _ (k46 _ _ hA4 nA1) nAl
          have items6 : ∀ u ∈ xs.take r2.toNat ++ [v'] ++ xs.drop r2.toNat, ∃ e, D (b :: cs) (upd H6 l (.lst (xs.take r2.toNat ++ [v'] ++ xs.drop r2.toNat))) (w' + 1) (k' + 2) u e := fun u hu => by
            by_cases z : u = v'
            · rw [z]
              exact ⟨d', (((hd6.up (by omega) (by omega)).less swp2).keep kp).less fun a h => List.mem_cons_of_mem _ h⟩
            · refine items _ ((k46.sub fun a h => by rw [List.mem_singleton.mp h]; simp).trans kp) u ?_
              rcases List.mem_append.mp hu with y | y
              · rcases List.mem_append.mp y with x | x
                · exact List.mem_of_mem_take x
                · exact absurd (List.mem_singleton.mp x) z
              · exact List.mem_of_mem_drop y
          exact ⟨_, rfl, _, _, _, _, _, rfl, .ty _, .base (.lst hA6), kk.1, _, rfl, iteT ⟨_, rfl, (done l (xs.take r2.toNat ++ [v'] ++ xs.drop r2.toNat) _ upd_same nlc (by simp; omega) items6 ((hB6.keep (Kp.rfl'.put (bs := [l]) (by simp)) (by simpa using nlb.symm)).up (by omega)) ((k04.trans k46).own fl)).1⟩⟩
        refine iteN (by simp [c11]) ?_
        exact ⟨_, rfl, _, _, _, _, _, rfl, .ty _, .base (.lst hA4), kk.1, _, rfl, iteT ⟨_, rfl, l, _, rfl, .inl ⟨SqL.of hl4, (done l xs H4 hl4 nlc (by omega) (items H4 Kp.rfl') (hB4.up (by omega)) k04).2⟩⟩⟩

      | @tup k' a xs ds hA nA lA dA =>
        refine iteF ?_
        have lx := DA.len dA
        refine ⟨_, rfl, _, xs.length, rfl, .inr ⟨_, SqT.of hA, rfl⟩, rfl, _, rfl, ?_⟩
        by_cases cl : xs.length = 0
        · exact iteC (by simp [cl]) (iteT ⟨_, rfl, _, _, _, _, _, rfl, .ty _, isi, kk.2.2.2.1, _, rfl, iteF (iteF ⟨_, rfl, asodd⟩)⟩)
        refine iteN (decide_eq_false fun z => cl (by have := V.int.inj z; omega)) ?_
        refine ⟨_, rfl, rfl, _, rfl, ?_⟩
        by_cases cr : r = 0
        · exact iteC (by simp [cr]) ⟨_, rfl, _, _, _, _, _, rfl, .ty _, isi, kk.2.2.2.1, _, rfl, iteF (iteF ⟨_, rfl, asodd⟩)⟩
        refine iteN (by simp [cr]) ?_
        -- some, at = list(odd), take(box, len(odd))
        refine ⟨_, rfl, a, xs, rfl, .inr (SqT.of hA), fun l hl => ?_⟩
        have kl : ∀ cs, Kp cs H2 (upd H2 l (.lst xs)) := fun cs => Kp.rfl'.new hl
        have nla : a ≠ l := ne_of_none hA hl
        obtain ⟨_, _, _, eb2, _⟩ := id hB2.ex
        have nlb : l ≠ b := (ne_of_none eb2 hl).symm
        have hA3 : (upd H2 l (.lst xs)) a = some (.tup xs) := kl [] _ _ hA (by simp)
        have dl3 : DA (l :: b :: cs) (upd H2 l (.lst xs)) w' k' xs ds := (dA.fresh hl).keep (kl _)
        refine ⟨_, rfl, _, rfl, _, xs.length, rfl, .inr ⟨_, SqT.of hA3, rfl⟩, b, xs.length, n + 1, rfl, hB2.keep (kl []) (by simp), by omega, by omega, by omega, fun at0 H4 a0 a1 hB4 k4 => ⟨_, _, rfl, ?_⟩⟩
        have hl4 : H4 l = some (.lst xs) := k4 _ _ upd_same (by simpa using nlb)
        have nA1 : a ∉ [b] := fun z => nA (by rw [List.mem_singleton.mp z]; simp)
        have hA4 : H4 a = some (.tup xs) := k4 _ _ hA3 nA1
        have d4 : DA (l :: b :: cs) H4 w' k' xs ds := dl3.keep (k4.sub fun a h => by rw [List.mem_singleton.mp h]; simp)
        have k04 : Kp [b] H H4 := (k02.trans (kl _)).trans k4
        have lt0 : at0.toNat < xs.length := by omega
        obtain ⟨va, hva⟩ : ∃ va, xs[at0.toNat]? = some va := ⟨xs[at0.toNat], by simp [lt0]⟩
        obtain ⟨da0, hda0, hDa⟩ := d4.get hva
        have hat : atI xs at0 = some va := at_of (j := at0.toNat) (by omega) hva
        have fl : H l = none := k02.free hl (by simpa using nlb)
        -- what is told at last
        have done : ∀ (l' : Addr) (xs' : List V) (H6 : Hp), H6 l' = some (.lst xs') → l' ∉ b :: cs → xs'.length ≤ w' + 1 → (∀ u ∈ xs', ∃ e, D (b :: cs) H6 (w' + 1) (k' + 2) u e) → Bx H6 b (n + 5 * (m + 1)) → Kp [b] H H6 → Q (.ref l') H6 ∧ ∀ t', H6 t' = none → Q (.ref t') (upd H6 t' (.tup xs')) := by
          intro l' xs' H6 h6 n6 l6 i6 b6 k6
          obtain ⟨es, he⟩ := DA.any i6
          refine ⟨q _ _ H6 (.lst h6 n6 l6 he) b6 k6, fun t' ht' => ?_⟩
          have kt : ∀ cs, Kp cs H6 (upd H6 t' (.tup xs')) := fun cs => Kp.rfl'.new ht'
          exact q _ _ _ (.tup upd_same (nbc (b6.up (by omega)) k6 ht') l6 (he.keep (kt _))) (b6.keep (kt []) (by simp)) (k6.trans (kt _))
        have items : ∀ (H6 : Hp), Kp (l :: b :: cs) H4 H6 → ∀ u ∈ xs, ∃ e, D (b :: cs) H6 (w' + 1) (k' + 2) u e := fun H6 k6 u hu => by
          obtain ⟨e, he⟩ := d4.mem u hu
          exact ⟨e, ((he.keep k6).up (by omega) (by omega)).less fun a h => List.mem_cons_of_mem _ h⟩
        have nAl : a ∉ l :: b :: cs := fun z => (List.mem_cons.mp z).elim nla nA
        have nlc : l ∉ b :: cs := nbc (hB2.up (by omega)) k02 hl
        have lcs : ∀ {H6 : Hp} {n6 : Nat}, Kp [b] H H6 → Bx H6 b n6 → H6 l = some (.lst xs) → ∀ c ∈ l :: cs, ∃ o, H6 c = some o := fun {H6 n6} k6 b6 h6 c hc => (List.mem_cons.mp hc).elim (fun z => ⟨_, z ▸ h6⟩) (kept k6 b6 c)
        refine ⟨_, rfl, _, _, rfl, rfl, _, rfl, ?_⟩
        by_cases c7 : r < 7
        · refine iteC (by simp [c7]) ?_
          refine ⟨_, rfl, _, rfl, _, rfl, l, _, _, va, rfl, rfl, SqL.of hl4, hat, b, va, da0, n + 1 + 1, w', k', l :: cs, rfl, hB4, by omega, hDa.less swp, by omega, by omega, w1, w20, lcs k04 hB4 hl4, fun v' d' H5 hd5 hB5 k5 => ?_⟩
          have hl5 := k5 _ _ hl4 (by simpa using nlb)
          refine ⟨_, rfl, _, rfl, l, _, _, _, rfl, rfl, hl5, ixN_of a0 lt0, ?_⟩
          have kp : Kp (l :: b :: cs) H5 (upd H5 l (.lst (xs.set at0.toNat v'))) := Kp.rfl'.put (by simp)
          have hA6 : (upd H5 l (.lst (xs.set at0.toNat v'))) a = some (.tup xs) := kp _ _ (k5 _ _ hA4 nA1) nAl
          have items6 : ∀ u ∈ xs.set at0.toNat v', ∃ e, D (b :: cs) (upd H5 l (.lst (xs.set at0.toNat v'))) (w' + 1) (k' + 2) u e := fun u hu => by
            rcases List.mem_or_eq_of_mem_set hu with z | z
            · exact items _ ((k5.sub fun a h => by rw [List.mem_singleton.mp h]; simp).trans kp) u z
            · subst z
              exact ⟨d', ((hd5.less swp2).keep kp).less fun a h => List.mem_cons_of_mem _ h⟩
          exact ⟨_, rfl, _, _, _, _, _, rfl, .ty _, .base (.tup hA6), kk.1, _, rfl, iteF ⟨_, rfl, l, _, rfl, .inl ⟨SqL.of upd_same, (done l (xs.set at0.toNat v') _ upd_same nlc (by rw [List.length_set]; omega) items6 ((hB5.keep (Kp.rfl'.put (bs := [l]) (by simp)) (by simpa using nlb.symm)).up (by omega)) ((k04.trans k5).own fl)).2⟩⟩⟩
        refine iteN (by simp; omega) ⟨_, rfl, rfl, _, rfl, ?_⟩
        by_cases c8 : r = 7
        · refine iteC (by simp [c8]) ?_
          refine ⟨_, rfl, .inl ⟨rfl, _, SqL.of hl4⟩, _, rfl, l, _, _, _, _, rfl, rfl, hl4, by omega, by omega, (ixN_seq (ixN_of a0 lt0)).1, hva, ?_⟩
          have kp : Kp (l :: b :: cs) H4 (upd H4 l (.lst (xs.eraseIdx at0.toNat))) := Kp.rfl'.put (by simp)
          have hA6 : (upd H4 l (.lst (xs.eraseIdx at0.toNat))) a = some (.tup xs) := kp _ _ hA4 nAl
          exact ⟨_, rfl, _, _, _, _, _, rfl, .ty _, .base (.tup hA6), kk.1, _, rfl, iteF ⟨_, rfl, l, _, rfl, .inl ⟨SqL.of upd_same, (done l (xs.eraseIdx at0.toNat) _ upd_same nlc (by have := List.length_eraseIdx_le xs at0.toNat; omega) (fun u hu => items _ kp u (List.mem_of_mem_eraseIdx hu)) ((hB4.keep (Kp.rfl'.put (bs := [l]) (by simp)) (by simpa using nlb.symm)).up (by omega)) (k04.own fl)).2⟩⟩⟩
        refine iteN (by simp [c8]) ⟨_, rfl, rfl, _, rfl, ?_⟩
        by_cases c9 : r = 8
        · refine iteC (by simp [c9]) ?_
          refine ⟨_, rfl, .inl ⟨rfl, _, SqL.of hl4⟩, _, rfl, _, rfl, _, rfl, l, _, _, va, rfl, rfl, SqL.of hl4, hat, l, _, _, _, rfl, rfl, hl4, small1000 (by omega), a0, by omega, ?_⟩
          have kp : Kp (l :: b :: cs) H4 (upd H4 l (.lst (xs.take at0.toNat ++ [va] ++ xs.drop at0.toNat))) := Kp.rfl'.put (by simp)
          have hA6 : (upd H4 l (.lst (xs.take at0.toNat ++ [va] ++ xs.drop at0.toNat))) a = some (.tup xs) := kp _ _ hA4 nAl
          exact ⟨_, rfl, _, _, _, _, _, rfl, .ty _, .base (.tup hA6), kk.1, _, rfl, iteF ⟨_, rfl, l, _, rfl, .inl ⟨SqL.of upd_same, (done l (xs.take at0.toNat ++ [va] ++ xs.drop at0.toNat) _ upd_same nlc (by simp; omega) (fun u hu => items _ kp u (ins_mem (List.mem_of_getElem? hva) u hu)) ((hB4.keep (Kp.rfl'.put (bs := [l]) (by simp)) (by simpa using nlb.symm)).up (by omega)) (k04.own fl)).2⟩⟩⟩
        refine iteN (by simp [c9]) ⟨_, rfl, rfl, _, rfl, ?_⟩
        by_cases c10 : r = 9
        · refine iteC (by simp [c10]) ?_
          refine ⟨_, rfl, _, rfl, _, rfl, l, _, rfl, SqL.of hl4, fun q1 f1 => ?_⟩
          have k5 : ∀ cs, Kp cs H4 (upd H4 q1 (.lst (cutV xs none (some at0)))) := fun cs => Kp.rfl'.new f1
          have g1 : (upd H4 q1 (.lst (cutV xs none (some at0)))) q1 = some (.lst (cutV xs none (some at0))) := upd_same
          generalize upd H4 q1 (.lst (cutV xs none (some at0))) = H5 at k5 g1
          have hl5 := k5 [] _ _ hl4 (by simp)
          refine ⟨_, rfl, _, rfl, _, rfl, _, rfl, _, _, rfl, rfl, _, rfl, l, _, rfl, SqL.of hl5, fun q2 f2 => ?_⟩
          have k6 : ∀ cs, Kp cs H5 (upd H5 q2 (.lst (cutV xs (some at0) (some (at0 + 2))))) := fun cs => Kp.rfl'.new f2
          have g2 : (upd H5 q2 (.lst (cutV xs (some at0) (some (at0 + 2))))) q2 = some (.lst (cutV xs (some at0) (some (at0 + 2)))) := upd_same
          generalize upd H5 q2 (.lst (cutV xs (some at0) (some (at0 + 2)))) = H6 at k6 g2
          obtain ⟨X2, e2, l2, m2⟩ := cut_two xs a0
          rw [e2] at g2
          have l1 : (cutV xs none (some at0)).length = at0.toNat := by
            rw [cut_to xs a0, List.length_take]
            omega
          have l3 : (cutV xs (some (at0 + 2)) none).length = xs.length - (at0 + 2).toNat := by
            rw [cut_from xs (by omega), List.length_drop]
          refine ⟨q2, _, rfl, SqL.of g2, fun q3 f3 => ?_⟩
          have k7 : ∀ cs, Kp cs H6 (upd H6 q3 (.lst X2.reverse)) := fun cs => Kp.rfl'.new f3
          have g3 : (upd H6 q3 (.lst X2.reverse)) q3 = some (.lst X2.reverse) := upd_same
          generalize upd H6 q3 (.lst X2.reverse) = H7 at k7 g3
          refine ⟨q1, q3, _, _, rfl, rfl, k7 [] _ _ (k6 [] _ _ g1 (by simp)) (by simp), g3, Nat.le_of_lt (small1000 (by rw [l1, List.length_reverse]; omega)), fun q4 f4 => ?_⟩
          have k8 : ∀ cs, Kp cs H7 (upd H7 q4 (.lst (cutV xs none (some at0) ++ X2.reverse))) := fun cs => Kp.rfl'.new f4
          have g4 : (upd H7 q4 (.lst (cutV xs none (some at0) ++ X2.reverse))) q4 = some (.lst (cutV xs none (some at0) ++ X2.reverse)) := upd_same
          generalize upd H7 q4 (.lst (cutV xs none (some at0) ++ X2.reverse)) = H8 at k8 g4
          have k48 : ∀ cs, Kp cs H4 H8 := fun cs => (((k5 cs).trans (k6 cs)).trans (k7 cs)).trans (k8 cs)
          refine ⟨_, rfl, _, rfl, _, _, rfl, rfl, _, rfl, l, _, rfl, SqL.of (k48 [] _ _ hl4 (by simp)), fun q5 f5 => ?_⟩
          have k9 : ∀ cs, Kp cs H8 (upd H8 q5 (.lst (cutV xs (some (at0 + 2)) none))) := fun cs => Kp.rfl'.new f5
          have g5 : (upd H8 q5 (.lst (cutV xs (some (at0 + 2)) none))) q5 = some (.lst (cutV xs (some (at0 + 2)) none)) := upd_same
          generalize upd H8 q5 (.lst (cutV xs (some (at0 + 2)) none)) = H9 at k9 g5
          have lall : (cutV xs none (some at0) ++ X2.reverse ++ cutV xs (some (at0 + 2)) none).length ≤ w' + 1 := by
            rw [List.length_append, List.length_append, l1, l3, List.length_reverse]
            omega
          have mall : ∀ u ∈ cutV xs none (some at0) ++ X2.reverse ++ cutV xs (some (at0 + 2)) none, u ∈ xs := fun u hu => by
            rw [cut_to xs a0, cut_from xs (by omega)] at hu
            rcases List.mem_append.mp hu with z | z
            · rcases List.mem_append.mp z with y | y
              · exact List.mem_of_mem_take y
              · exact m2 u (List.mem_reverse.mp y)
            · exact List.mem_of_mem_drop z
          refine ⟨q4, q5, _, _, rfl, rfl, k9 [] _ _ g4 (by simp), g5, ?_, fun q6 f6 => ?_⟩
          · rw [List.length_append] at lall
            exact Nat.le_of_lt (small1000 (by omega))
          generalize hX : cutV xs none (some at0) ++ X2.reverse ++ cutV xs (some (at0 + 2)) none = X at lall mall
          have k49 : ∀ cs, Kp cs H4 H9 := fun cs => (k48 cs).trans (k9 cs)
          have k410 : ∀ cs, Kp cs H4 (upd H9 q6 (.lst X)) := fun cs => (k49 cs).new f6
          have hA6 : (upd H9 q6 (.lst X)) a = some (.tup xs) := k410 [] _ _ hA4 (by simp)
          have nq6 : q6 ∉ b :: cs := nbc ((hB4.keep (k49 []) (by simp)).up (by omega)) (k04.trans (k49 _)) f6
          exact ⟨_, rfl, _, _, _, _, _, rfl, .ty _, .base (.tup hA6), kk.1, _, rfl, iteF ⟨_, rfl, q6, _, rfl, .inl ⟨SqL.of upd_same, (done q6 (X) _ upd_same nq6 (lall) (fun u hu => items _ (k410 _) u (mall u hu)) ((hB4.keep (k410 []) (by simp)).up (by omega)) (k04.trans (k410 _))).2⟩⟩⟩
        refine iteN (by simp [c10]) ⟨_, rfl, rfl, _, rfl, ?_⟩
        by_cases c11 : r = 10
        · refine iteC (by simp [c11]) ?_
          refine ⟨_, rfl, .inl ⟨rfl, _, SqL.of hl4⟩, _, rfl, _, rfl, _, xs.length, rfl, .inl ⟨_, SqL.of hl4, rfl⟩, _, _, rfl, rfl, b, _, n + 1 + 1, rfl, hB4, by omega, by omega, by omega, fun r2 H5 z0 z1 hB5 k5 => ?_⟩
          have hl5 := k5 _ _ hl4 (by simpa using nlb)
          refine ⟨_, rfl, b, _, l :: cs, rfl, hB5, by omega, lcs (k04.trans k5) hB5 hl5, fun v' d' H6 hd6 hB6 k6 => ?_⟩
          have k46 : Kp [b] H4 H6 := k5.trans k6
          have hl6 := k46 _ _ hl4 (by simpa using nlb)
          refine ⟨l, _, _, _, rfl, rfl, hl6, small1000 (by omega), z0, by omega, ?_⟩
          have kp : Kp (l :: b :: cs) H6 (upd H6 l (.lst (xs.take r2.toNat ++ [v'] ++ xs.drop r2.toNat))) := Kp.rfl'.put (by simp)
          have hA6 : (upd H6 l (.lst (xs.take r2.toNat ++ [v'] ++ xs.drop r2.toNat))) a = some (.tup xs) := kp _ _ (k46 _ _ hA4 nA1) nAl
          have items6 : ∀ u ∈ xs.take r2.toNat ++ [v'] ++ xs.drop r2.toNat, ∃ e, D (b :: cs) (upd H6 l (.lst (xs.take r2.toNat ++ [v'] ++ xs.drop r2.toNat))) (w' + 1) (k' + 2) u e := fun u hu => by
            by_cases z : u = v'
            · rw [z]
              exact ⟨d', (((hd6.up (by omega) (by omega)).less swp2).keep kp).less fun a h => List.mem_cons_of_mem _ h⟩
            · refine items _ ((k46.sub fun a h => by rw [List.mem_singleton.mp h]; simp).trans kp) u ?_
              rcases List.mem_append.mp hu with y | y
              · rcases List.mem_append.mp y with x | x
                · exact List.mem_of_mem_take x
                · exact absurd (List.mem_singleton.mp x) z
              · exact List.mem_of_mem_drop y
          exact ⟨_, rfl, _, _, _, _, _, rfl, .ty _, .base (.tup hA6), kk.1, _, rfl, iteF ⟨_, rfl, l, _, rfl, .inl ⟨SqL.of upd_same, (done l (xs.take r2.toNat ++ [v'] ++ xs.drop r2.toNat) _ upd_same nlc (by simp; omega) items6 ((hB6.keep (Kp.rfl'.put (bs := [l]) (by simp)) (by simpa using nlb.symm)).up (by omega)) ((k04.trans k46).own fl)).2⟩⟩⟩
        refine iteN (by simp [c11]) ?_
        exact ⟨_, rfl, _, _, _, _, _, rfl, .ty _, .base (.tup hA4), kk.1, _, rfl, iteF ⟨_, rfl, (done l xs H4 hl4 nlc (by omega) (items H4 Kp.rfl') (hB4.up (by omega)) k04).1⟩⟩

end
end Sw

set_option maxHeartbeats 2000000
namespace Sw
open PySem PySem.Spec PyProof.Rows L2
section
variable {P : Program} {w : World} {K : PySem.W.Frag} {mg : Str → Option Value} {base : Heap}
/-- some data -/
def Ex (bs : List Addr) (H : Hp) (w k : Nat) (v : V) : Prop := ∃ d, D bs H w k v d
theorem Ex.keep {bs : List Addr} {H H' : Hp} {w k : Nat} {v : V} (x : Ex bs H w k v) (h : Kp bs H H') : Ex bs H' w k v := by
  obtain ⟨d, hd⟩ := x
  exact ⟨d, hd.keep h⟩
theorem Ex.up {bs : List Addr} {H : Hp} {w w' k k' : Nat} {v : V} (x : Ex bs H w k v) (h : w ≤ w') (hk : k ≤ k') : Ex bs H w' k' v := by
  obtain ⟨d, hd⟩ := x
  exact ⟨d, hd.up h hk⟩
theorem Ex.lst {bs : List Addr} {H : Hp} {w k : Nat} {a : Addr} {xs : List V} (h : H a = some (.lst xs)) (n : a ∉ bs) (l : xs.length ≤ w) (i : ∀ x ∈ xs, Ex bs H w k x) : Ex bs H w (k + 1) (.ref a) := by
  obtain ⟨ds, hd⟩ := DA.any i
  exact ⟨_, .lst h n l hd⟩
theorem Ex.tup {bs : List Addr} {H : Hp} {w k : Nat} {a : Addr} {xs : List V} (h : H a = some (.tup xs)) (n : a ∉ bs) (l : xs.length ≤ w) (i : ∀ x ∈ xs, Ex bs H w k x) : Ex bs H w (k + 1) (.ref a) := by
  obtain ⟨ds, hd⟩ := DA.any i
  exact ⟨_, .tup h n l hd⟩
theorem fmod2 (i : Nat) : ((0 : Int) + (i : Int)).fmod 2 = 0 ∨ ((0 : Int) + (i : Int)).fmod 2 = 1 := by
  have h0 := Int.fmod_nonneg_of_pos ((0 : Int) + (i : Int)) (show (0 : Int) < 2 by decide)
  have h1 := Int.fmod_lt_of_pos ((0 : Int) + (i : Int)) (show (0 : Int) < 2 by decide)
  omega
theorem at_last {xs : List V} (h : xs ≠ []) : atI xs (-1) = some (xs.getLast h) := by
  have e : xs = xs.dropLast ++ [xs.getLast h] := (List.dropLast_concat_getLast h).symm
  have := atI_last xs.dropLast (xs.getLast h)
  rw [← e] at this
  exact this
def sp_right : Sp := fun vs H Q _ => ∃ b : Addr, vs = [.ref b] ∧ Bx H b 0 ∧ ∀ H', Kp [b] H H' → Q (.bl true) H'
theorem ok_right (T : Tx K mg) : FnG P w K mg base 16 (He.fAd K ("_law_right", none)) T.fd__law_right p__law_right sp_right := by
  have G__law_data := ok_data (P := P) (w := w) (base := base) T
  have G__law_take := ok_take (P := P) (w := w) (base := base) T
  have G_Hall___init__ := ok_init (P := P) (w := w) (base := base) T
  have G__law_past := ok_lpast (P := P) (w := w) (base := base) T
  have G__law_bent := ok_bent (P := P) (w := w) (base := base) T 10
  have G__law_stands := ok_stands (P := P) (w := w) (base := base) T
  have G_is_standing := ok_stand (P := P) (w := w) (base := base) T
  have G_is_past := ok_ispast (P := P) (w := w) (base := base) T
  have G__law_same := ok_same (P := P) (w := w) (base := base) T 4
  refine okG T.F__law_right sc__law_right (fun vs H Q E h => ?_) (fun cdv A outer s H vs Q E hG hr h => ?_)
  · obtain ⟨_, rfl, _⟩ := h
    rfl
  · obtain ⟨b, rfl, hB, q⟩ := h
    refine ⟨_, PSs.nox (pss_cons (ps_set (i := 1) sc__law_right.nd rfl (by first | exact Or.inl rfl | exact Or.inr rfl) (pe_call G__law_data (hr.mono (by first | decide | omega)) rfl T.g__law_data T.F__law_data.kp T.bd__law_data .nil pass0 (pa_cons (pv 0) (pa_cons (pe_op op_add pe_int (pe_call G__law_take (hr.mono (by first | decide | omega)) rfl T.g__law_take T.F__law_take.kp T.bd__law_take .nil pass0 (pa_cons (pv 0) (pa_cons pe_int pa_nil)))) (pa_cons (pe_op op_add pe_int (pe_call G__law_take (hr.mono (by first | decide | omega)) rfl T.g__law_take T.F__law_take.kp T.bd__law_take .nil pass0 (pa_cons (pv 0) (pa_cons pe_int pa_nil)))) (pa_cons pe_bl pa_nil))))))
      (pss_cons (ps_asg (pv 1) (pg_tup rfl (pgs_cons (pg_name (i := 5) sc__law_right.nd rfl (by first | exact Or.inl rfl | exact Or.inr rfl)) (pgs_cons (pg_name (i := 6) sc__law_right.nd rfl (by first | exact Or.inl rfl | exact Or.inr rfl)) (pgs_cons (pg_name (i := 7) sc__law_right.nd rfl (by first | exact Or.inl rfl | exact Or.inr rfl)) pgs_nil)))))
      (pss_cons (ps_par (i := 8) (j := 9) (by rfl) sc__law_right.nd rfl rfl (by decide) rfl rfl (pa_cons (pe_make T.mk_Hall G_Hall___init__ (hr.mono (by first | decide | omega)) rfl T.g_Hall T.bd_Hall___init__ .nil pass0 (pa_cons (pv 5) (pa_cons (pv 6) (pa_cons (pv 7) pa_nil)))) (pa_cons (pe_call G__law_past (hr.mono (by first | decide | omega)) rfl T.g__law_past T.F__law_past.kp T.bd__law_past .nil pass0 (pa_cons (pv 0) (pa_cons (pv 6) (pa_cons (pe_callB call_len (by rfl) T.b_len (by decide +kernel) (pa_cons (pv 7) pa_nil)) pa_nil)))) pa_nil)) (by rfl))
      (pss_cons (ps_set (i := 2) sc__law_right.nd rfl (by first | exact Or.inl rfl | exact Or.inr rfl) (pe_lst (pa_cons (pv 9) (pa_cons (pe_ix ix_list (pv 9) pe_int (fun _ _ => rfl)) (pa_cons (pe_slice sl_list (pv 9) (po_some pe_int) po_none) (pa_cons (pe_op op_cat (pv 9) (pe_slice sl_list (pv 9) po_none (po_some pe_int))) (pa_cons (pe_callTy call_tuple_of (by rfl) T.b_tuple (by decide +kernel) (pa_cons (pv 9) pa_nil)) (pa_cons (pe_callTy call_list_of (by rfl) T.b_list (by decide +kernel) (pa_cons (pe_ix ix_list (pv 9) pe_int (fun _ _ => rfl)) pa_nil)) (pa_cons (pe_lst (pa_cons (pv 9) pa_nil)) (pa_cons (pe_tup (pa_cons (pe_ix ix_list (pv 9) pe_int (fun _ _ => rfl)) pa_nil)) (pa_cons (pe_lst pa_nil) pa_nil)))))))))))
      (pss_cons (ps_for PassesOwn.never rfl (pi_range1 (by rfl) T.b_range (pa_cons pe_int pa_nil)) (pg_name (i := 3) sc__law_right.nd rfl (by first | exact Or.inl rfl | exact Or.inr rfl))
      (pss_cons (ps_set (i := 4) sc__law_right.nd rfl (by first | exact Or.inl rfl | exact Or.inr rfl) (pe_call G__law_bent (hr.mono (by first | decide | omega)) rfl T.g__law_bent T.F__law_bent.kp T.bd__law_bent .nil pass0 (pa_cons (pv 0) (pa_cons (pe_ix ix_list (pe_lst (pa_cons (pv 9) (pa_cons (pe_ix ix_list (pv 9) (pe_un un_neg pe_int) (fun _ _ => rfl)) pa_nil))) (pe_op op_modN (pv 3) pe_int) (fun _ _ => rfl)) pa_nil))))
      (pss_one (ps_expr (pe_bm PySem.F.plainAttrs_list PySem.F.slot_list_append PySem.F.type_list_append mt_append (pv 2) (pa_cons (pe_ifExp (pt_cmpR op_eq (pe_call G__law_take (hr.mono (by first | decide | omega)) rfl T.g__law_take T.F__law_take.kp T.bd__law_take .nil pass0 (pa_cons (pv 0) (pa_cons pe_int pa_nil))) pe_int (nomark _)) (pe_call G__law_bent (hr.mono (by first | decide | omega)) rfl T.g__law_bent T.F__law_bent.kp T.bd__law_bent .nil pass0 (pa_cons (pv 0) (pa_cons (pv 4) pa_nil))) (pv 4)) pa_nil))))))
      (pss_cons (ps_for PassesOwn.never rfl (pi_list (pv 2)) (pg_name (i := 4) sc__law_right.nd rfl (by first | exact Or.inl rfl | exact Or.inr rfl))
      (pss_cons (ps_set (i := 10) sc__law_right.nd rfl (by first | exact Or.inl rfl | exact Or.inr rfl) (pe_lst (pa_cons (pe_call G__law_stands (hr.mono (by first | decide | omega)) rfl T.g__law_stands T.F__law_stands.kp T.bd__law_stands .nil pass0 (pa_cons (pv 6) (pa_cons (pv 4) pa_nil))) (pa_cons (pe_and (pe_callB call_isi (by rfl) T.b_isinstance (by decide +kernel) (pa_cons (pv 4) (pa_cons (pe_bltn (v := .ty "list") (by rfl) T.b_list (by decide +kernel) rfl) pa_nil))) (pe_one (pe_cmpR op_eq (pe_callB call_len (by rfl) T.b_len (by decide +kernel) (pa_cons (pv 4) pa_nil)) (pe_callB call_len (by rfl) T.b_len (by decide +kernel) (pa_cons (pv 7) pa_nil)) (nomark _)))) pa_nil))))
      (pss_cons (ps_asg (pe_and (pe_ix ix_list (pv 10) pe_int (fun _ _ => rfl)) (pe_one (pe_callB (cr_all rfl) (by rfl) T.b_all (by decide +kernel) (pa_cons (pe_lc (own := [("_law_one", 14)]) (g := (gName 14)) (tt := tYes) rfl sc__law_right.nd (pi_seq (pv 4)) (blkOk_by (own := [("_law_one", 14)]) (N := n__law_right) (sc := defScope s__law_right) (by decide +kernel)) (fun _ _ _ _ _ => (pg_name (i := 14) sc__law_right.nd rfl (by first | exact Or.inl rfl | exact Or.inr rfl))) (fun _ _ _ _ _ => pts_nil) (fun _ _ _ _ _ => (pe_call G__law_stands (hr.mono (by first | decide | omega)) rfl T.g__law_stands T.F__law_stands.kp T.bd__law_stands .nil pass0 (pa_cons (pv 6) (pa_cons (pv 14) pa_nil))))) pa_nil)))) (pg_sub (pv 10) pe_int set_list))
      (pss_cons (ps_par (i := 12) (j := 13) (by rfl) sc__law_right.nd rfl rfl (by decide) rfl rfl (pa_cons (pe_callB (call_reprD hr hG) (by rfl) T.b_repr (by decide +kernel) (pa_cons (pv 4) pa_nil)) (pa_cons (pe_lst (pa_cons (pe_call G_is_standing (hr.mono (by first | decide | omega)) rfl T.g_is_standing T.F_is_standing.kp T.bd_is_standing .nil pass0 (pa_cons (pv 8) (pa_cons (pv 4) pa_nil))) (pa_cons (pe_call G_is_past (hr.mono (by first | decide | omega)) rfl T.g_is_past T.F_is_past.kp T.bd_is_past .nil pass0 (pa_cons (pv 8) (pa_cons (pv 4) pa_nil))) pa_nil))) pa_nil)) (by rfl))
      (pss_cons (ps_set (i := 11) sc__law_right.nd rfl (by first | exact Or.inl rfl | exact Or.inr rfl) (pe_lst (pa_cons (pe_callK0 G_is_standing (hr.mono (by first | decide | omega)) rfl T.g_is_standing T.F_is_standing.kp T.kb_is_standing pass0 (pk_cons (pv 4) (pk_cons (pv 8) pk_nil))) (pa_cons (pe_callK0 G_is_past (hr.mono (by first | decide | omega)) rfl T.g_is_past T.F_is_past.kp T.kb_is_past pass0 (pk_cons (pv 4) (pk_cons (pv 8) pk_nil))) pa_nil))))
      (pss_one (ps_if (PW.pt (pw_or (pt_not (pt_val (pe_call G__law_same (hr.mono (by first | decide | omega)) rfl T.g__law_same T.F__law_same.kp T.bd__law_same .nil pass0 (pa_cons (pe_lst (pa_cons (pv 13) (pa_cons (pv 11) pa_nil))) (pa_cons (pe_lst (pa_cons (pv 10) (pa_cons (pv 10) pa_nil))) pa_nil))))) (pw_or1 (pt_cmpR op_ne (pe_callB (call_reprD hr hG) (by rfl) T.b_repr (by decide +kernel) (pa_cons (pv 4) pa_nil)) (pv 12) (nomark _)))))
      (pss_one (ps_ret pe_bl))
      pss_nil)))))))
      (pss_one (ps_ret pe_bl)))))))), ?_⟩
    refine ⟨_, rfl, _, rfl, b, 5, 0, rfl, hB, by decide, by decide, by omega, fun c1 H1 c10 c11 hB1 k1 => ⟨_, _, rfl, rfl, _, rfl, b, 5, 1, rfl, hB1, by decide, by decide, by omega, fun c2 H2 c20 c21 hB2 k2 => ⟨_, _, rfl, rfl, ?_⟩⟩⟩
    refine ⟨b, _, _, false, 2, rfl, hB2, by omega, by omega, by omega, by omega, by omega, fun t p sa wa rows steps ws H3 ft ht dP dS dW hd hB3 k3 => ?_⟩
    have k03 : Kp [b] H H3 := (k1.trans k2).trans k3
    obtain ⟨_, _, _, eb3, _⟩ := id hB3.ex
    refine ⟨_, rfl, t, _, rfl, SqT.of ht, rfl, _, _, rfl, _, _, rfl, _, _, rfl, rfl, ?_⟩
    -- the hall
    refine ⟨_, rfl, _, rfl, _, rfl, fun x dx fx fdx nxd => ?_⟩
    have fx2 : (upd H3 dx (.own x)) x = none := by
      rw [upd_ne nxd.symm]
      exact fx
    have km : ∀ cs, Kp cs H3 (upd (upd H3 dx (.own x)) x (.ins (C0 K) dx [])) := fun cs => (Kp.rfl'.new fdx).new fx2
    have nxb : x ≠ b := (ne_of_none eb3 fx).symm
    refine ⟨x, dx, p, sa, wa, rows, steps, ws, _, _, [b], [b], rfl, upd_same, dP.keep (km _), dS.keep (km _), dW.keep (km _), hd, (fun c hc => by obtain rfl := List.mem_singleton.mp hc; exact ⟨_, km [] _ _ eb3 (by simp)⟩), by simpa using nxb, fun H4 hH kx => ⟨rfl, ?_⟩⟩
    have k34 : ∀ cs, Kp cs H3 H4 := fun cs a o e n => kx a o (km [] a o e (by simp)) (by simpa using ne_of_none e fx)
    have k04 : Kp [b] H H4 := k03.trans (k34 _)
    have hB4 := hB3.keep (k34 []) (by simp)
    have dS4 := dS.keep (k34 _)
    obtain ⟨aw, ew, hw4, nw4, lw4⟩ := (dW.keep (k34 _)).ints
    cases ew
    have cb : (1 + c1).toNat ≤ 5 := by omega
    have hls := hd.ls
    have hlw := hd.lw
    refine ⟨_, rfl, _, rfl, _, rfl, _, ws.length, rfl, .inl ⟨_, SqL.of hw4, by simp⟩, b, sa, steps, _, _, 5, rfl, hB4, by omega, dS4, by omega, by omega, by omega, by omega, by omega, hd.step, fun pw ss H5 fp dw lss lr hB5 k5 => ⟨_, _, rfl, ?_⟩⟩
    have k05 : Kp [b] H H5 := k04.trans k5
    cases dw with
    | @lst _ _ wl _ hpw0 npw lpw daw =>
    have lwl := DA.len daw
    rw [List.length_map] at lwl
    have l1wl : 1 ≤ wl.length := by omega
    have npwb : pw ≠ b := by simpa using npw
    obtain ⟨v0, hv0⟩ : ∃ v0, wl[0]? = some v0 := ⟨wl[0], by simp⟩
    obtain ⟨s0, p0, _, rfl, hp0, ls0⟩ := daw.trowAt hv0
    obtain ⟨_, _, dv0⟩ := daw.get hv0
    have at0 : atI wl 0 = some (.ref p0) := atI_nat (j := 0) hv0
    have np0 : p0 ∉ [b] := by
      cases dv0 with
      | lst _ n _ _ => exact n
      | tup _ n _ _ => exact n
    have iw : ∀ y ∈ wl, Ex [b] H5 5 1 y := fun y hy => daw.mem y hy
    have i0 : ∀ y ∈ s0.map V.int, Ex [b] H5 5 0 y := by
      intro y hy
      cases dv0 with
      | lst h _ _ _ =>
        rw [hp0] at h
        cases h
      | tup h _ _ t =>
        rw [hp0] at h
        cases h
        exact t.mem y hy
    obtain ⟨_, _, _, eb5, _⟩ := id hB5.ex
    refine ⟨_, rfl, _, rfl, pw, _, _, _, rfl, rfl, SqL.of hpw0, at0, _, rfl, 1, rfl, pw, _, rfl, SqL.of hpw0, fun q1 f1 => ?_⟩
    have kk1 : ∀ cs, Kp cs H5 (upd H5 q1 (.lst (cutV wl (some 1) none))) := fun cs => Kp.rfl'.new f1
    have g1 : (upd H5 q1 (.lst (cutV wl (some 1) none))) q1 = some (.lst (cutV wl (some 1) none)) := upd_same
    have nb1 : q1 ∉ [b] := by simpa using (ne_of_none eb5 f1).symm
    have cc1 : Kp [] H5 (upd H5 q1 (.lst (cutV wl (some 1) none))) := kk1 []
    have c1 : Kp [b] H5 (upd H5 q1 (.lst (cutV wl (some 1) none))) := kk1 _
    generalize upd H5 q1 (.lst (cutV wl (some 1) none)) = G1 at kk1 c1 cc1 g1 ⊢
    refine ⟨_, rfl, _, rfl, 1, rfl, pw, _, rfl, SqL.of (c1 _ _ hpw0 npw), fun q2 f2 => ?_⟩
    have kk2 : ∀ cs, Kp cs G1 (upd G1 q2 (.lst (cutV wl none (some 1)))) := fun cs => Kp.rfl'.new f2
    have g2 : (upd G1 q2 (.lst (cutV wl none (some 1)))) q2 = some (.lst (cutV wl none (some 1))) := upd_same
    have nb2 : q2 ∉ [b] := by simpa using (ne_of_none (cc1 _ _ eb5 (by simp)) f2).symm
    have cc2 : Kp [] H5 (upd G1 q2 (.lst (cutV wl none (some 1)))) := cc1.trans (kk2 [])
    have c2 : Kp [b] H5 (upd G1 q2 (.lst (cutV wl none (some 1)))) := c1.trans (kk2 _)
    replace g1 := kk2 [] _ _ g1 (by simp)
    generalize upd G1 q2 (.lst (cutV wl none (some 1))) = G2 at kk2 c2 cc2 g1 g2 ⊢
    refine ⟨pw, q2, _, _, rfl, rfl, (c2 _ _ hpw0 npw), g2, Nat.le_of_lt (small1000 (by have := cutV_length wl none (some 1); omega)), fun q3 f3 => ?_⟩
    have kk3 : ∀ cs, Kp cs G2 (upd G2 q3 (.lst (wl ++ cutV wl none (some 1)))) := fun cs => Kp.rfl'.new f3
    have g3 : (upd G2 q3 (.lst (wl ++ cutV wl none (some 1)))) q3 = some (.lst (wl ++ cutV wl none (some 1))) := upd_same
    have nb3 : q3 ∉ [b] := by simpa using (ne_of_none (cc2 _ _ eb5 (by simp)) f3).symm
    have cc3 : Kp [] H5 (upd G2 q3 (.lst (wl ++ cutV wl none (some 1)))) := cc2.trans (kk3 [])
    have c3 : Kp [b] H5 (upd G2 q3 (.lst (wl ++ cutV wl none (some 1)))) := c2.trans (kk3 _)
    replace g1 := kk3 [] _ _ g1 (by simp)
    replace g2 := kk3 [] _ _ g2 (by simp)
    generalize upd G2 q3 (.lst (wl ++ cutV wl none (some 1))) = G3 at kk3 c3 cc3 g1 g2 g3 ⊢
    refine ⟨_, rfl, pw, _, rfl, .inl ⟨SqL.of (c3 _ _ hpw0 npw), fun q4 f4 => ?_⟩⟩
    have kk4 : ∀ cs, Kp cs G3 (upd G3 q4 (.tup wl)) := fun cs => Kp.rfl'.new f4
    have g4 : (upd G3 q4 (.tup wl)) q4 = some (.tup wl) := upd_same
    have nb4 : q4 ∉ [b] := by simpa using (ne_of_none (cc3 _ _ eb5 (by simp)) f4).symm
    have cc4 : Kp [] H5 (upd G3 q4 (.tup wl)) := cc3.trans (kk4 [])
    have c4 : Kp [b] H5 (upd G3 q4 (.tup wl)) := c3.trans (kk4 _)
    replace g1 := kk4 [] _ _ g1 (by simp)
    replace g2 := kk4 [] _ _ g2 (by simp)
    replace g3 := kk4 [] _ _ g3 (by simp)
    generalize upd G3 q4 (.tup wl) = G4 at kk4 c4 cc4 g1 g2 g3 g4 ⊢
    refine ⟨_, rfl, pw, _, _, _, rfl, rfl, SqL.of (c4 _ _ hpw0 npw), at0, p0, _, rfl, .inr (SqT.of (c4 _ _ hp0 np0)), fun q5 f5 => ?_⟩
    have kk5 : ∀ cs, Kp cs G4 (upd G4 q5 (.lst (s0.map V.int))) := fun cs => Kp.rfl'.new f5
    have g5 : (upd G4 q5 (.lst (s0.map V.int))) q5 = some (.lst (s0.map V.int)) := upd_same
    have nb5 : q5 ∉ [b] := by simpa using (ne_of_none (cc4 _ _ eb5 (by simp)) f5).symm
    have cc5 : Kp [] H5 (upd G4 q5 (.lst (s0.map V.int))) := cc4.trans (kk5 [])
    have c5 : Kp [b] H5 (upd G4 q5 (.lst (s0.map V.int))) := c4.trans (kk5 _)
    replace g1 := kk5 [] _ _ g1 (by simp)
    replace g2 := kk5 [] _ _ g2 (by simp)
    replace g3 := kk5 [] _ _ g3 (by simp)
    replace g4 := kk5 [] _ _ g4 (by simp)
    generalize upd G4 q5 (.lst (s0.map V.int)) = G5 at kk5 c5 cc5 g1 g2 g3 g4 g5 ⊢
    refine ⟨_, rfl, by show 1 ≤ sizeLine; decide, fun q6 f6 => ?_⟩
    have kk6 : ∀ cs, Kp cs G5 (upd G5 q6 (.lst [.ref pw])) := fun cs => Kp.rfl'.new f6
    have g6 : (upd G5 q6 (.lst [.ref pw])) q6 = some (.lst [.ref pw]) := upd_same
    have nb6 : q6 ∉ [b] := by simpa using (ne_of_none (cc5 _ _ eb5 (by simp)) f6).symm
    have cc6 : Kp [] H5 (upd G5 q6 (.lst [.ref pw])) := cc5.trans (kk6 [])
    have c6 : Kp [b] H5 (upd G5 q6 (.lst [.ref pw])) := c5.trans (kk6 _)
    replace g1 := kk6 [] _ _ g1 (by simp)
    replace g2 := kk6 [] _ _ g2 (by simp)
    replace g3 := kk6 [] _ _ g3 (by simp)
    replace g4 := kk6 [] _ _ g4 (by simp)
    replace g5 := kk6 [] _ _ g5 (by simp)
    generalize upd G5 q6 (.lst [.ref pw]) = G6 at kk6 c6 cc6 g1 g2 g3 g4 g5 g6 ⊢
    refine ⟨_, rfl, pw, _, _, _, rfl, rfl, SqL.of (c6 _ _ hpw0 npw), at0, by show 1 ≤ sizeLine; decide, fun q7 f7 => ?_⟩
    have kk7 : ∀ cs, Kp cs G6 (upd G6 q7 (.tup [.ref p0])) := fun cs => Kp.rfl'.new f7
    have g7 : (upd G6 q7 (.tup [.ref p0])) q7 = some (.tup [.ref p0]) := upd_same
    have nb7 : q7 ∉ [b] := by simpa using (ne_of_none (cc6 _ _ eb5 (by simp)) f7).symm
    have cc7 : Kp [] H5 (upd G6 q7 (.tup [.ref p0])) := cc6.trans (kk7 [])
    have c7 : Kp [b] H5 (upd G6 q7 (.tup [.ref p0])) := c6.trans (kk7 _)
    replace g1 := kk7 [] _ _ g1 (by simp)
    replace g2 := kk7 [] _ _ g2 (by simp)
    replace g3 := kk7 [] _ _ g3 (by simp)
    replace g4 := kk7 [] _ _ g4 (by simp)
    replace g5 := kk7 [] _ _ g5 (by simp)
    replace g6 := kk7 [] _ _ g6 (by simp)
    generalize upd G6 q7 (.tup [.ref p0]) = G7 at kk7 c7 cc7 g1 g2 g3 g4 g5 g6 g7 ⊢
    refine ⟨by show 0 ≤ sizeLine; decide, fun q8 f8 => ?_⟩
    have kk8 : ∀ cs, Kp cs G7 (upd G7 q8 (.lst [])) := fun cs => Kp.rfl'.new f8
    have g8 : (upd G7 q8 (.lst [])) q8 = some (.lst []) := upd_same
    have nb8 : q8 ∉ [b] := by simpa using (ne_of_none (cc7 _ _ eb5 (by simp)) f8).symm
    have cc8 : Kp [] H5 (upd G7 q8 (.lst [])) := cc7.trans (kk8 [])
    have c8 : Kp [b] H5 (upd G7 q8 (.lst [])) := c7.trans (kk8 _)
    replace g1 := kk8 [] _ _ g1 (by simp)
    replace g2 := kk8 [] _ _ g2 (by simp)
    replace g3 := kk8 [] _ _ g3 (by simp)
    replace g4 := kk8 [] _ _ g4 (by simp)
    replace g5 := kk8 [] _ _ g5 (by simp)
    replace g6 := kk8 [] _ _ g6 (by simp)
    replace g7 := kk8 [] _ _ g7 (by simp)
    generalize upd G7 q8 (.lst []) = G8 at kk8 c8 cc8 g1 g2 g3 g4 g5 g6 g7 g8 ⊢
    refine ⟨by show 9 ≤ sizeLine; decide, fun th fth => ?_⟩
    have iw8 : ∀ y ∈ wl, Ex [b] G8 7 1 y := fun y hy => ((iw y hy).keep c8).up (by decide) (by decide)
    have hpw8 := c8 _ _ hpw0 npw
    have hp08 := c8 _ _ hp0 np0
    have ewas : Ex [b] G8 7 2 (.ref pw) := .lst hpw8 npw (by omega) iw8
    have ev0 : Ex [b] G8 7 1 (.ref p0) := iw8 _ (List.mem_of_getElem? hv0)
    have nthb : th ≠ b := (ne_of_none (cc8 _ _ eb5 (by simp)) fth).symm
    have all9 : ∀ u ∈ [V.ref pw, .ref p0, .ref q1, .ref q3, .ref q4, .ref q5, .ref q6, .ref q7, .ref q8], Ex [b] G8 7 6 u := by
      intro u hu
      simp only [List.mem_cons, List.not_mem_nil, or_false] at hu
      rcases hu with z | z | z | z | z | z | z | z | z <;> subst z
      · exact ewas.up (by decide) (by decide)
      · exact ev0.up (by decide) (by decide)
      · refine (Ex.lst (k := 1) g1 nb1 ?_ fun y hy => ?_).up (Nat.le_refl _) (by decide)
        · rw [cut_one, List.length_drop]
          omega
        · rw [cut_one] at hy
          exact iw8 y (List.mem_of_mem_drop hy)
      · refine (Ex.lst (k := 1) g3 nb3 ?_ fun y hy => ?_).up (Nat.le_refl _) (by decide)
        · rw [List.length_append, cut_to wl (by decide), List.length_take]
          have : (1 : Int).toNat = 1 := rfl
          omega
        · rcases List.mem_append.mp hy with z | z
          · exact iw8 y z
          · rw [cut_to wl (by decide)] at z
            exact iw8 y (List.mem_of_mem_take z)
      · exact (Ex.tup (k := 1) g4 nb4 (by omega) iw8).up (Nat.le_refl _) (by decide)
      · exact (Ex.lst (k := 1) g5 nb5 (by rw [List.length_map]; omega) fun y hy => ((i0 y hy).keep c8).up (by decide) (by decide)).up (Nat.le_refl _) (by decide)
      · exact (Ex.lst (k := 2) g6 nb6 (by show 1 ≤ 7; decide) fun y hy => by rw [List.mem_singleton.mp hy]; exact ewas).up (Nat.le_refl _) (by decide)
      · exact (Ex.tup (k := 2) g7 nb7 (by show 1 ≤ 7; decide) fun y hy => by rw [List.mem_singleton.mp hy]; exact ev0.up (by decide) (by decide)).up (Nat.le_refl _) (by decide)
      · exact (Ex.lst (k := 2) g8 nb8 (by decide) fun y hy => nomatch hy).up (Nat.le_refl _) (by decide)
    have hB8 := hB5.keep cc8 (by simp)
    have lastw : wl ≠ [] := fun z => by
      rw [z] at l1wl
      cases l1wl
    have dwas : D [b] G8 5 2 (.ref pw) (.list (ss.map dT)) := (D.lst hpw0 npw lpw daw).keep c8
    have k08 : Kp [b] H G8 := k05.trans c8
    have hH8 := hH.keep ((k5.trans c8))
    have dS8 := dS4.keep (k5.trans c8)
    have hw8 := (k5.trans c8) _ _ hw4 nw4
    clear kk1 kk2 kk3 kk4 kk5 kk6 kk7 kk8 c1 c2 c3 c4 c5 c6 c7
    refine ⟨20, rfl, by decide, by decide, for_range (n := 20) (fun i σ Hh => ∃ (o3 o4 : Option V) (xs : List V), σ = [some (.ref b), some (.ref t), some (.ref th), o3, o4, some (.ref p), some (.ref sa), some (.ref wa), some (.ref x), some (.ref pw), none, none, none, none, none] ∧ Hh th = some (.lst xs) ∧ xs.length = 9 + i ∧ (∀ u ∈ xs, Ex [th, b] Hh 7 6 u) ∧ Bx Hh b (2000 + 200 * i) ∧ Kp [b] G8 Hh) ?_ ?_ ?_⟩
    · have kt : ∀ cs o, Kp cs G8 (upd G8 th o) := fun cs o => Kp.rfl'.new fth
      refine ⟨none, none, _, rfl, upd_same, rfl, fun u hu => ?_, (hB8.keep (kt [] _) (by simp)).up (by omega), kt _ _⟩
      obtain ⟨d, hd⟩ := all9 u hu
      exact ⟨d, (hd.fresh fth).keep (kt _ _)⟩
    · rintro i σ Hh hi ⟨o3, o4, xs, rfl, hth, lxs, hxs, hBh, kh⟩
      have nth : th ∉ [b] := by simpa using nthb
      have hpwh := kh _ _ hpw8 npw
      refine ⟨_, rfl, _, rfl, _, rfl, 1, rfl, pw, _, _, _, rfl, rfl, SqL.of hpwh, at_last lastw, by show 2 ≤ sizeLine; decide, fun d1 f1 => ?_⟩
      have k1 : ∀ (cs : List Addr) (o : HO), Kp cs Hh (upd Hh d1 o) := fun cs o => Kp.rfl'.new f1
      have sub1 : ∀ a, a ∈ [b] → a ∈ [th, b] := fun a h => List.mem_cons_of_mem _ h
      have dwh : D [th, b] Hh 5 2 (.ref pw) (.list (ss.map dT)) := (dwas.fresh fth).keep (kh.sub sub1)
      obtain ⟨vv, hvv, dd, hdd⟩ : ∃ vv, atI [V.ref pw, wl.getLast lastw] (((0 : Int) + (i : Int)).fmod 2) = some vv ∧ ∃ dd, D [th, b] Hh 5 2 vv dd := by
        rcases fmod2 i with z | z <;> rw [z]
        · exact ⟨_, rfl, _, dwh⟩
        · refine ⟨_, rfl, ?_⟩
          obtain ⟨e, he⟩ := (iw _ (List.getLast_mem lastw))
          exact ⟨e, ((((he.keep c8).fresh fth).keep (kh.sub sub1)).up (Nat.le_refl _) (by decide))⟩
      refine ⟨_, rfl, _, _, rfl, rfl, (show (2 : Int) ≠ 0 by decide), d1, _, _, vv, rfl, rfl, SqL.of upd_same, hvv, ?_⟩
      have hdd1 := hdd.keep (k1 [th, b] (.lst [.ref pw, wl.getLast lastw]))
      have hB1 := hBh.keep (k1 [] (.lst [.ref pw, wl.getLast lastw])) (by simp)
      have hth1 := k1 [] (.lst [.ref pw, wl.getLast lastw]) _ _ hth (by simp)
      have kh1 := kh.trans (k1 [b] (.lst [.ref pw, wl.getLast lastw]))
      have hxs1 : ∀ u ∈ xs, Ex [th, b] (upd Hh d1 (.lst [.ref pw, wl.getLast lastw])) 7 6 u := fun u hu => (hxs u hu).keep (k1 _ _)
      generalize upd Hh d1 (.lst [.ref pw, wl.getLast lastw]) = H1' at hdd1 hB1 hth1 kh1 hxs1 ⊢
      refine ⟨b, vv, dd, _, 5, 2, [th], rfl, hB1, by omega, hdd1.less swp, by decide, by decide, by decide, by decide, (fun c hc => by obtain rfl := List.mem_singleton.mp hc; exact ⟨_, hth1⟩), fun v1 e1 H2' hd1 hB2' k2' => ?_⟩
      have hth2 := k2' _ _ hth1 nth
      have hxs2 : ∀ u ∈ xs, Ex [th, b] H2' 7 6 u := fun u hu => (hxs1 u hu).keep (k2'.sub sub1)
      refine ⟨_, rfl, .inl ⟨rfl, _, SqL.of hth2⟩, _, rfl, b, 3, _, rfl, hB2', by decide, by decide, by omega, fun r3 H3' z0 z1 hB3' k3' => ⟨rfl, _, rfl, ?_⟩⟩
      have hth3 := k3' _ _ hth2 nth
      have fin : ∀ (u : V) (e : PyData) (H4' : Hp) (n' : Nat), D [b, th] H4' 7 6 u e → Kp [b] H3' H4' → Bx H4' b n' → n' ≤ 2000 + 200 * (i + 1) → ∃ l ys y, V.ref th = V.ref l ∧ [u] = [y] ∧ H4' l = some (.lst ys) ∧ ys.length < sizeLine ∧
          ∃ (o3 o4 : Option V) (xs : List V), [some (V.ref b), some (.ref t), some (.ref th), some (.int (0 + (i : Int))), some v1, some (.ref p), some (.ref sa), some (.ref wa), some (.ref x), some (.ref pw), none, none, none, none, none] = [some (.ref b), some (.ref t), some (.ref th), o3, o4, some (.ref p), some (.ref sa), some (.ref wa), some (.ref x), some (.ref pw), none, none, none, none, none] ∧
            (upd H4' l (.lst (ys ++ [y]))) th = some (.lst xs) ∧ xs.length = 9 + (i + 1) ∧ (∀ u ∈ xs, Ex [th, b] (upd H4' l (.lst (ys ++ [y]))) 7 6 u) ∧ Bx (upd H4' l (.lst (ys ++ [y]))) b (2000 + 200 * (i + 1)) ∧ Kp [b] G8 (upd H4' l (.lst (ys ++ [y]))) := by
        intro u e H4' n' hu k4' b4' hn'
        have kp : Kp [th, b] H4' (upd H4' th (.lst (xs ++ [u]))) := Kp.rfl'.put (by simp)
        refine ⟨th, _, _, rfl, rfl, k4' _ _ hth3 nth, small1000 (by omega), _, _, xs ++ [u], rfl, upd_same, by simp [lxs]; omega, ?_, (b4'.keep (Kp.rfl'.put (bs := [th]) (by simp)) (by simpa using nthb.symm)).up hn', (((kh1.trans k2').trans k3').trans k4').own fth⟩
        intro y hy
        rcases List.mem_append.mp hy with z | z
        · exact ((hxs2 y z).keep ((k3'.trans k4').sub sub1)).keep kp
        · rw [List.mem_singleton.mp z]
          exact ⟨e, ((hu.less swp).up (by decide) (by decide)).keep kp⟩
      refine ite2 (fun cc => ?_) (fun cc => ?_)
      · refine ⟨_, rfl, _, rfl, b, v1, e1, _, 6, 4, [th], rfl, hB3', by omega, hd1.keep (k3'.sub (by simp)), by decide, by decide, by decide, by decide, (fun c hc => by obtain rfl := List.mem_singleton.mp hc; exact ⟨_, hth3⟩), fun v2 e2 H4' hd2 hB4' k4' => ?_⟩
        exact fin v2 e2 H4' _ hd2 k4' hB4' (by omega)
      · exact ⟨_, rfl, fin v1 e1 H3' _ ((hd1.keep (k3'.sub (by simp))).up (by decide) (by decide)) Kp.rfl' hB3' (by omega)⟩
    · rintro σ Hh ⟨o3, o4, xs, rfl, hth, lxs, hxs, hBh, kh⟩
      have hHh0 := hH8.keep kh
      have dSh := dS8.keep kh
      have hwh := kh _ _ hw8 nw4
      have k0h : Kp [b] H Hh := k08.trans kh
      refine ⟨_, rfl, th, rfl, ⟨_, SqL.of hth⟩, for_list (K := K) (a := th) (xs := xs) (fun j σ Hj => ∃ o4 o10 o11 o12 o13 : Option V, σ = [some (.ref b), some (.ref t), some (.ref th), o3, o4, some (.ref p), some (.ref sa), some (.ref wa), some (.ref x), some (.ref pw), o10, o11, o12, o13, none] ∧ Kp [] Hh Hj) ?_ ?_ ?_ ?_⟩
      · exact ⟨_, _, _, _, _, rfl, Kp.rfl'⟩
      · rintro j σ Hj _ ⟨_, _, _, _, _, _, kj⟩
        exact SqL.of (kj _ _ hth (by simp))
      · rintro j u σ Hj hj ⟨o4, o10, o11, o12, o13, rfl, kj⟩
        obtain ⟨d, hd0⟩ := hxs u (List.mem_of_getElem? hj)
        have huh := hd0.keep (kj.sub (cs := [th, b]) (by simp))
        have hHh := hHh0.keep (kj.sub (cs := [b]) (by simp))
        have dSj := dSh.keep (kj.sub (cs := [b]) (by simp))
        have hwj := kj _ _ hwh (by simp)
        have sh := huh.show (by decide)
        refine ⟨_, rfl, _, rfl, sa, u, d, steps, [b], [th, b], 7, 6, rfl, dSj, huh, by decide, fun H1' k01 => ?_⟩
        have hu1 := huh.keep (k01.sub (cs := [th, b]) (by simp))
        refine ⟨_, rfl, _, _, _, _, _, rfl, .ty _, hu1.tyx, hu1.kL, _, rfl, ?_⟩
        cases ht : isLst d with
        | false =>
          refine iteF ?_
          refine ⟨by show 2 ≤ sizeLine; decide, fun du fdu => ?_⟩
          have kdu : ∀ cs, Kp cs H1' (upd H1' du (.lst [.bl (isSt (topsOf steps) d), .bl false])) := fun cs => Kp.rfl'.new fdu
          have gdu0 : (upd H1' du (.lst [.bl (isSt (topsOf steps) d), .bl false])) du = some (.lst [.bl (isSt (topsOf steps) d), .bl false]) := upd_same
          have k02 := k01.trans (kdu [])
          generalize upd H1' du (.lst [.bl (isSt (topsOf steps) d), .bl false]) = H2' at kdu gdu0 k02 ⊢
          refine ⟨_, rfl, du, _, _, _, rfl, rfl, SqL.of gdu0, rfl, _, rfl, ?_⟩
          refine iteF ?_
          have fduj : Hj du = none := k01.free fdu (by simp)
          have ev : isPs (topsOf steps) ws.length d = false := isPs_not ht
          refine ⟨_, rfl, du, [.bl (isSt (topsOf steps) d), .bl false], 1, 1, rfl, rfl, gdu0, rfl, ?_⟩
          have k4 : Kp [] Hj (upd H2' du (.lst [.bl (isSt (topsOf steps) d), .bl (isPs (topsOf steps) ws.length d)])) := (k02).own fduj
          have gdu : (upd H2' du (.lst [.bl (isSt (topsOf steps) d), .bl (isPs (topsOf steps) ws.length d)])) du = some (.lst [.bl (isSt (topsOf steps) d), .bl (isPs (topsOf steps) ws.length d)]) := upd_same
          have heq : upd H2' du (.lst ([.bl (isSt (topsOf steps) d), .bl false].set 1 (.bl false))) = upd H2' du (.lst [.bl (isSt (topsOf steps) d), .bl (isPs (topsOf steps) ws.length d)]) := by
            rw [ev]
            rfl
          rw [heq]
          generalize upd H2' du (.lst [.bl (isSt (topsOf steps) d), .bl (isPs (topsOf steps) ws.length d)]) = H4' at k4 gdu ⊢
          have hu4 := huh.keep (k4.sub (by simp))
          refine ⟨_, rfl, u, d, rfl, hu4.dp, sh.1, sh.2.1, Nat.le_trans sh.2.2.1 (by decide), by rw [sizeLine_eq]; exact Nat.le_trans sh.2.2.2 (by decide), ?_⟩
          refine ⟨_, rfl, _, rfl, x, u, d, rows, steps, ws, [b], [th, b], 7, 6, rfl, hHh.keep (k4.sub (by simp)), hu4, by decide, fun H5' k5 => ?_⟩
          have k05' := k4.trans k5
          refine ⟨_, rfl, _, rfl, x, u, d, rows, steps, ws, [b], [th, b], 7, 6, rfl, hHh.keep (k05'.sub (by simp)), huh.keep (k05'.sub (by simp)), by decide, fun H6' k6 => ⟨by show 2 ≤ sizeLine; decide, fun tl ftl => ⟨_, _, rfl, ?_⟩⟩⟩
          have k06 := k05'.trans k6
          have kt : ∀ cs, Kp cs H6' (upd H6' tl (.lst [.bl (isSt (topsOf steps) d), .bl (isPs (topsOf steps) ws.length d)])) := fun cs => Kp.rfl'.new ftl
          have gtl : (upd H6' tl (.lst [.bl (isSt (topsOf steps) d), .bl (isPs (topsOf steps) ws.length d)])) tl = some (.lst [.bl (isSt (topsOf steps) d), .bl (isPs (topsOf steps) ws.length d)]) := upd_same
          have k07 := k06.trans (kt [])
          have gdu7 := ((k5.trans k6).trans (kt [])) _ _ gdu (by simp)
          generalize upd H6' tl (.lst [.bl (isSt (topsOf steps) d), .bl (isPs (topsOf steps) ws.length d)]) = H7' at kt gtl k07 gdu7 ⊢
          refine ⟨_, rfl, _, rfl, rfl, rfl, x, u, d, rows, steps, ws, [b], [th, b], 7, 6, rfl, hHh.keep (k07.sub (by simp)), huh.keep (k07.sub (by simp)), by decide, fun H8' k8 => ?_⟩
          have k08' := k07.trans k8
          refine ⟨_, rfl, _, rfl, rfl, rfl, x, u, d, rows, steps, ws, [b], [th, b], 7, 6, rfl, hHh.keep (k08'.sub (by simp)), huh.keep (k08'.sub (by simp)), by decide, fun H9' k9 => ⟨by show 2 ≤ sizeLine; decide, fun ag fag => ?_⟩⟩
          have k09 := k08'.trans k9
          have ka : ∀ cs, Kp cs H9' (upd H9' ag (.lst [.bl (isSt (topsOf steps) d), .bl (isPs (topsOf steps) ws.length d)])) := fun cs => Kp.rfl'.new fag
          have gag : (upd H9' ag (.lst [.bl (isSt (topsOf steps) d), .bl (isPs (topsOf steps) ws.length d)])) ag = some (.lst [.bl (isSt (topsOf steps) d), .bl (isPs (topsOf steps) ws.length d)]) := upd_same
          have k010 := k09.trans (ka [])
          have gdu10 := ((k8.trans k9).trans (ka [])) _ _ gdu7 (by simp)
          have gtl10 := ((k8.trans k9).trans (ka [])) _ _ gtl (by simp)
          generalize upd H9' ag (.lst [.bl (isSt (topsOf steps) d), .bl (isPs (topsOf steps) ws.length d)]) = H10' at ka gag k010 gdu10 gtl10 ⊢
          refine ⟨_, rfl, _, rfl, by show 2 ≤ sizeLine; decide, fun l1 f1 => ⟨_, rfl, _, rfl, by show 2 ≤ sizeLine; decide, fun l2 f2 => ?_⟩⟩
          have kl1 : ∀ cs, Kp cs H10' (upd H10' l1 (.lst [.ref tl, .ref ag])) := fun cs => Kp.rfl'.new f1
          have kl2 : ∀ cs, Kp cs (upd H10' l1 (.lst [.ref tl, .ref ag])) (upd (upd H10' l1 (.lst [.ref tl, .ref ag])) l2 (.lst [.ref du, .ref du])) := fun cs => Kp.rfl'.new f2
          have kl : ∀ cs, Kp cs H10' (upd (upd H10' l1 (.lst [.ref tl, .ref ag])) l2 (.lst [.ref du, .ref du])) := fun cs => (kl1 cs).trans (kl2 cs)
          have g1 := kl2 [] _ _ (upd_same (H := H10') (a := l1) (o := .lst [.ref tl, .ref ag])) (by simp)
          have g2 : (upd (upd H10' l1 (.lst [.ref tl, .ref ag])) l2 (.lst [.ref du, .ref du])) l2 = some (.lst [.ref du, .ref du]) := upd_same
          have two : ∀ (a : Addr) (Hx : Hp), Hx a = some (.lst [.bl (isSt (topsOf steps) d), .bl (isPs (topsOf steps) ws.length d)]) → D [] Hx 2 1 (.ref a) (.list [.bool (isSt (topsOf steps) d), .bool (isPs (topsOf steps) ws.length d)]) := fun a Hx ha => .lst ha (by simp) (by show 2 ≤ 2; decide) (.cons (.bl _) (.cons (.bl _) .nil))
          have k011 := k010.trans (kl [])
          refine ⟨.ref l1, .ref l2, _, [], [], 2, 2, rfl, .lst g1 (by simp) (by show 2 ≤ 2; decide) (.cons (two tl _ (kl [] _ _ gtl10 (by simp))) (.cons (two ag _ (kl [] _ _ gag (by simp))) .nil)), .lst g2 (by simp) (by show 2 ≤ 2; decide) (.cons (two du _ (kl [] _ _ gdu10 (by simp))) (.cons (two du _ (kl [] _ _ gdu10 (by simp))) .nil)), by decide, by decide, fun H12' k12 => ⟨_, rfl, iteF ?_⟩⟩
          have k012 := k011.trans k12
          refine ⟨_, rfl, u, d, rfl, (huh.keep (k012.sub (by simp))).dp, sh.1, sh.2.1, Nat.le_trans sh.2.2.1 (by decide), by rw [sizeLine_eq]; exact Nat.le_trans sh.2.2.2 (by decide), _, rfl, rfl, _, rfl, iteNS rfl ?_⟩
          exact ⟨_, _, _, _, _, rfl, kj.trans k012⟩
        | true =>
          refine iteT ?_
          cases huh with
          | @lst _ a xo ds ha na la da =>
          have huh : D [th, b] Hj 7 6 (.ref a) (.list ds) := .lst ha na la da
          have lx := DA.len da
          have ha1 := k01 _ _ ha (by simp)
          refine ⟨_, rfl, _, ds.length, rfl, .inl ⟨_, SqL.of ha1, lx.symm⟩, _, rfl, _, ws.length, rfl, .inl ⟨_, SqL.of (k01 _ _ hwj (by simp)), by simp⟩, rfl, ?_⟩
          have fdj : ∀ du, H1' du = none → Hj du = none := fun du f => k01.free f (by simp)
          by_cases hl : ds.length = ws.length
          · refine ⟨by show 2 ≤ sizeLine; decide, fun du fdu => ?_⟩
            have kdu : ∀ cs, Kp cs H1' (upd H1' du (.lst [.bl (isSt (topsOf steps) (.list ds)), .bl (decide (V.int (ds.length : Int) = V.int (ws.length : Int)))])) := fun cs => Kp.rfl'.new fdu
            have gdu0 : (upd H1' du (.lst [.bl (isSt (topsOf steps) (.list ds)), .bl (decide (V.int (ds.length : Int) = V.int (ws.length : Int)))])) du = some (.lst [.bl (isSt (topsOf steps) (.list ds)), .bl (decide (V.int (ds.length : Int) = V.int (ws.length : Int)))]) := upd_same
            have k02 := k01.trans (kdu [])
            generalize upd H1' du (.lst [.bl (isSt (topsOf steps) (.list ds)), .bl (decide (V.int (ds.length : Int) = V.int (ws.length : Int)))]) = H2' at kdu gdu0 k02 ⊢
            refine ⟨_, rfl, du, _, _, _, rfl, rfl, SqL.of gdu0, rfl, _, rfl, ?_⟩
            refine iteC (by simp [hl]) ?_
            have fduj : Hj du = none := fdj _ fdu
            have ha2 := k02 _ _ ha (by simp)
            refine ⟨_, rfl, a, rfl, .inl ⟨⟨_, SqL.of ha2⟩, fun c hc => lc_list (K := K) (a := a) (xs := xo) (fun j H3 => H3 c = some (.lst (((ds.take j).map (isSt (topsOf steps))).map V.bl)) ∧ Kp [] H2' H3) ?_ ?_ ?_ ?_⟩⟩
            · exact ⟨by rw [upd_same]; rfl, Kp.rfl'.new hc⟩
            · rintro j H3 _ ⟨_, k3⟩
              exact SqL.of (k3 _ _ ha2 (by simp))
            · rintro j y H3 hj ⟨h3, k3⟩
              obtain ⟨e, he, hy⟩ := da.get hj
              have hjl := (List.getElem?_eq_some_iff.mp hj).1
              have k03' := k02.trans k3
              refine ⟨rfl, yesT ⟨_, rfl, _, rfl, sa, y, e, steps, [b], [th, b], 7, 5, rfl, dSj.keep (k03'.sub (by simp)), hy.keep (k03'.sub (by simp)), by decide, fun H4 k4 => ⟨_, k4 _ _ h3 (by simp), ?_, ?_, ?_⟩⟩⟩
              · simp only [List.length_map, List.length_take]
                exact small1000 (by omega)
              · rw [upd_same, List.take_add_one, he]
                simp
              · exact (k3.trans k4).own hc
            · rintro H3' ⟨h3, k3⟩
              rw [lx, List.take_length] at h3
              refine ⟨c, _, rfl, SqL.of h3, ?_⟩
              have ev : isPs (topsOf steps) ws.length (.list ds) = ((ds.map (isSt (topsOf steps))).all id) := by simp [isPs, hl, List.all_map, Function.comp_def]
              refine ⟨_, rfl, du, [.bl (isSt (topsOf steps) (.list ds)), .bl (decide (V.int (ds.length : Int) = V.int (ws.length : Int)))], 1, 1, rfl, rfl, (k3 _ _ gdu0 (by simp)), rfl, ?_⟩
              have k4 : Kp [] Hj (upd H3' du (.lst [.bl (isSt (topsOf steps) (.list ds)), .bl (isPs (topsOf steps) ws.length (.list ds))])) := (k02.trans k3).own fduj
              have gdu : (upd H3' du (.lst [.bl (isSt (topsOf steps) (.list ds)), .bl (isPs (topsOf steps) ws.length (.list ds))])) du = some (.lst [.bl (isSt (topsOf steps) (.list ds)), .bl (isPs (topsOf steps) ws.length (.list ds))]) := upd_same
              have heq : upd H3' du (.lst ([.bl (isSt (topsOf steps) (.list ds)), .bl (decide (V.int (ds.length : Int) = V.int (ws.length : Int)))].set 1 (.bl ((ds.map (isSt (topsOf steps))).all id)))) = upd H3' du (.lst [.bl (isSt (topsOf steps) (.list ds)), .bl (isPs (topsOf steps) ws.length (.list ds))]) := by
                rw [ev]
                rfl
              rw [heq]
              generalize upd H3' du (.lst [.bl (isSt (topsOf steps) (.list ds)), .bl (isPs (topsOf steps) ws.length (.list ds))]) = H4' at k4 gdu ⊢
              have hu4 := huh.keep (k4.sub (by simp))
              refine ⟨_, rfl, (.ref a), (.list ds), rfl, hu4.dp, sh.1, sh.2.1, Nat.le_trans sh.2.2.1 (by decide), by rw [sizeLine_eq]; exact Nat.le_trans sh.2.2.2 (by decide), ?_⟩
              refine ⟨_, rfl, _, rfl, x, (.ref a), (.list ds), rows, steps, ws, [b], [th, b], 7, 6, rfl, hHh.keep (k4.sub (by simp)), hu4, by decide, fun H5' k5 => ?_⟩
              have k05' := k4.trans k5
              refine ⟨_, rfl, _, rfl, x, (.ref a), (.list ds), rows, steps, ws, [b], [th, b], 7, 6, rfl, hHh.keep (k05'.sub (by simp)), huh.keep (k05'.sub (by simp)), by decide, fun H6' k6 => ⟨by show 2 ≤ sizeLine; decide, fun tl ftl => ⟨_, _, rfl, ?_⟩⟩⟩
              have k06 := k05'.trans k6
              have kt : ∀ cs, Kp cs H6' (upd H6' tl (.lst [.bl (isSt (topsOf steps) (.list ds)), .bl (isPs (topsOf steps) ws.length (.list ds))])) := fun cs => Kp.rfl'.new ftl
              have gtl : (upd H6' tl (.lst [.bl (isSt (topsOf steps) (.list ds)), .bl (isPs (topsOf steps) ws.length (.list ds))])) tl = some (.lst [.bl (isSt (topsOf steps) (.list ds)), .bl (isPs (topsOf steps) ws.length (.list ds))]) := upd_same
              have k07 := k06.trans (kt [])
              have gdu7 := ((k5.trans k6).trans (kt [])) _ _ gdu (by simp)
              generalize upd H6' tl (.lst [.bl (isSt (topsOf steps) (.list ds)), .bl (isPs (topsOf steps) ws.length (.list ds))]) = H7' at kt gtl k07 gdu7 ⊢
              refine ⟨_, rfl, _, rfl, rfl, rfl, x, (.ref a), (.list ds), rows, steps, ws, [b], [th, b], 7, 6, rfl, hHh.keep (k07.sub (by simp)), huh.keep (k07.sub (by simp)), by decide, fun H8' k8 => ?_⟩
              have k08' := k07.trans k8
              refine ⟨_, rfl, _, rfl, rfl, rfl, x, (.ref a), (.list ds), rows, steps, ws, [b], [th, b], 7, 6, rfl, hHh.keep (k08'.sub (by simp)), huh.keep (k08'.sub (by simp)), by decide, fun H9' k9 => ⟨by show 2 ≤ sizeLine; decide, fun ag fag => ?_⟩⟩
              have k09 := k08'.trans k9
              have ka : ∀ cs, Kp cs H9' (upd H9' ag (.lst [.bl (isSt (topsOf steps) (.list ds)), .bl (isPs (topsOf steps) ws.length (.list ds))])) := fun cs => Kp.rfl'.new fag
              have gag : (upd H9' ag (.lst [.bl (isSt (topsOf steps) (.list ds)), .bl (isPs (topsOf steps) ws.length (.list ds))])) ag = some (.lst [.bl (isSt (topsOf steps) (.list ds)), .bl (isPs (topsOf steps) ws.length (.list ds))]) := upd_same
              have k010 := k09.trans (ka [])
              have gdu10 := ((k8.trans k9).trans (ka [])) _ _ gdu7 (by simp)
              have gtl10 := ((k8.trans k9).trans (ka [])) _ _ gtl (by simp)
              generalize upd H9' ag (.lst [.bl (isSt (topsOf steps) (.list ds)), .bl (isPs (topsOf steps) ws.length (.list ds))]) = H10' at ka gag k010 gdu10 gtl10 ⊢
              refine ⟨_, rfl, _, rfl, by show 2 ≤ sizeLine; decide, fun l1 f1 => ⟨_, rfl, _, rfl, by show 2 ≤ sizeLine; decide, fun l2 f2 => ?_⟩⟩
              have kl1 : ∀ cs, Kp cs H10' (upd H10' l1 (.lst [.ref tl, .ref ag])) := fun cs => Kp.rfl'.new f1
              have kl2 : ∀ cs, Kp cs (upd H10' l1 (.lst [.ref tl, .ref ag])) (upd (upd H10' l1 (.lst [.ref tl, .ref ag])) l2 (.lst [.ref du, .ref du])) := fun cs => Kp.rfl'.new f2
              have kl : ∀ cs, Kp cs H10' (upd (upd H10' l1 (.lst [.ref tl, .ref ag])) l2 (.lst [.ref du, .ref du])) := fun cs => (kl1 cs).trans (kl2 cs)
              have g1 := kl2 [] _ _ (upd_same (H := H10') (a := l1) (o := .lst [.ref tl, .ref ag])) (by simp)
              have g2 : (upd (upd H10' l1 (.lst [.ref tl, .ref ag])) l2 (.lst [.ref du, .ref du])) l2 = some (.lst [.ref du, .ref du]) := upd_same
              have two : ∀ (a : Addr) (Hx : Hp), Hx a = some (.lst [.bl (isSt (topsOf steps) (.list ds)), .bl (isPs (topsOf steps) ws.length (.list ds))]) → D [] Hx 2 1 (.ref a) (.list [.bool (isSt (topsOf steps) (.list ds)), .bool (isPs (topsOf steps) ws.length (.list ds))]) := fun a Hx ha => .lst ha (by simp) (by show 2 ≤ 2; decide) (.cons (.bl _) (.cons (.bl _) .nil))
              have k011 := k010.trans (kl [])
              refine ⟨.ref l1, .ref l2, _, [], [], 2, 2, rfl, .lst g1 (by simp) (by show 2 ≤ 2; decide) (.cons (two tl _ (kl [] _ _ gtl10 (by simp))) (.cons (two ag _ (kl [] _ _ gag (by simp))) .nil)), .lst g2 (by simp) (by show 2 ≤ 2; decide) (.cons (two du _ (kl [] _ _ gdu10 (by simp))) (.cons (two du _ (kl [] _ _ gdu10 (by simp))) .nil)), by decide, by decide, fun H12' k12 => ⟨_, rfl, iteF ?_⟩⟩
              have k012 := k011.trans k12
              refine ⟨_, rfl, (.ref a), (.list ds), rfl, (huh.keep (k012.sub (by simp))).dp, sh.1, sh.2.1, Nat.le_trans sh.2.2.1 (by decide), by rw [sizeLine_eq]; exact Nat.le_trans sh.2.2.2 (by decide), _, rfl, rfl, _, rfl, iteNS rfl ?_⟩
              exact ⟨_, _, _, _, _, rfl, kj.trans k012⟩
          · refine ⟨by show 2 ≤ sizeLine; decide, fun du fdu => ?_⟩
            have kdu : ∀ cs, Kp cs H1' (upd H1' du (.lst [.bl (isSt (topsOf steps) (.list ds)), .bl (decide (V.int (ds.length : Int) = V.int (ws.length : Int)))])) := fun cs => Kp.rfl'.new fdu
            have gdu0 : (upd H1' du (.lst [.bl (isSt (topsOf steps) (.list ds)), .bl (decide (V.int (ds.length : Int) = V.int (ws.length : Int)))])) du = some (.lst [.bl (isSt (topsOf steps) (.list ds)), .bl (decide (V.int (ds.length : Int) = V.int (ws.length : Int)))]) := upd_same
            have k02 := k01.trans (kdu [])
            generalize upd H1' du (.lst [.bl (isSt (topsOf steps) (.list ds)), .bl (decide (V.int (ds.length : Int) = V.int (ws.length : Int)))]) = H2' at kdu gdu0 k02 ⊢
            refine ⟨_, rfl, du, _, _, _, rfl, rfl, SqL.of gdu0, rfl, _, rfl, ?_⟩
            refine iteN (by simp; omega) ?_
            have fduj : Hj du = none := fdj _ fdu
            have ev : isPs (topsOf steps) ws.length (.list ds) = false := by simp [isPs, hl]
            refine ⟨_, rfl, du, [.bl (isSt (topsOf steps) (.list ds)), .bl (decide (V.int (ds.length : Int) = V.int (ws.length : Int)))], 1, 1, rfl, rfl, gdu0, rfl, ?_⟩
            have k4 : Kp [] Hj (upd H2' du (.lst [.bl (isSt (topsOf steps) (.list ds)), .bl (isPs (topsOf steps) ws.length (.list ds))])) := (k02).own fduj
            have gdu : (upd H2' du (.lst [.bl (isSt (topsOf steps) (.list ds)), .bl (isPs (topsOf steps) ws.length (.list ds))])) du = some (.lst [.bl (isSt (topsOf steps) (.list ds)), .bl (isPs (topsOf steps) ws.length (.list ds))]) := upd_same
            have heq : upd H2' du (.lst ([.bl (isSt (topsOf steps) (.list ds)), .bl (decide (V.int (ds.length : Int) = V.int (ws.length : Int)))].set 1 (.bl false))) = upd H2' du (.lst [.bl (isSt (topsOf steps) (.list ds)), .bl (isPs (topsOf steps) ws.length (.list ds))]) := by
              rw [ev]
              rfl
            rw [heq]
            generalize upd H2' du (.lst [.bl (isSt (topsOf steps) (.list ds)), .bl (isPs (topsOf steps) ws.length (.list ds))]) = H4' at k4 gdu ⊢
            have hu4 := huh.keep (k4.sub (by simp))
            refine ⟨_, rfl, (.ref a), (.list ds), rfl, hu4.dp, sh.1, sh.2.1, Nat.le_trans sh.2.2.1 (by decide), by rw [sizeLine_eq]; exact Nat.le_trans sh.2.2.2 (by decide), ?_⟩
            refine ⟨_, rfl, _, rfl, x, (.ref a), (.list ds), rows, steps, ws, [b], [th, b], 7, 6, rfl, hHh.keep (k4.sub (by simp)), hu4, by decide, fun H5' k5 => ?_⟩
            have k05' := k4.trans k5
            refine ⟨_, rfl, _, rfl, x, (.ref a), (.list ds), rows, steps, ws, [b], [th, b], 7, 6, rfl, hHh.keep (k05'.sub (by simp)), huh.keep (k05'.sub (by simp)), by decide, fun H6' k6 => ⟨by show 2 ≤ sizeLine; decide, fun tl ftl => ⟨_, _, rfl, ?_⟩⟩⟩
            have k06 := k05'.trans k6
            have kt : ∀ cs, Kp cs H6' (upd H6' tl (.lst [.bl (isSt (topsOf steps) (.list ds)), .bl (isPs (topsOf steps) ws.length (.list ds))])) := fun cs => Kp.rfl'.new ftl
            have gtl : (upd H6' tl (.lst [.bl (isSt (topsOf steps) (.list ds)), .bl (isPs (topsOf steps) ws.length (.list ds))])) tl = some (.lst [.bl (isSt (topsOf steps) (.list ds)), .bl (isPs (topsOf steps) ws.length (.list ds))]) := upd_same
            have k07 := k06.trans (kt [])
            have gdu7 := ((k5.trans k6).trans (kt [])) _ _ gdu (by simp)
            generalize upd H6' tl (.lst [.bl (isSt (topsOf steps) (.list ds)), .bl (isPs (topsOf steps) ws.length (.list ds))]) = H7' at kt gtl k07 gdu7 ⊢
            refine ⟨_, rfl, _, rfl, rfl, rfl, x, (.ref a), (.list ds), rows, steps, ws, [b], [th, b], 7, 6, rfl, hHh.keep (k07.sub (by simp)), huh.keep (k07.sub (by simp)), by decide, fun H8' k8 => ?_⟩
            have k08' := k07.trans k8
            refine ⟨_, rfl, _, rfl, rfl, rfl, x, (.ref a), (.list ds), rows, steps, ws, [b], [th, b], 7, 6, rfl, hHh.keep (k08'.sub (by simp)), huh.keep (k08'.sub (by simp)), by decide, fun H9' k9 => ⟨by show 2 ≤ sizeLine; decide, fun ag fag => ?_⟩⟩
            have k09 := k08'.trans k9
            have ka : ∀ cs, Kp cs H9' (upd H9' ag (.lst [.bl (isSt (topsOf steps) (.list ds)), .bl (isPs (topsOf steps) ws.length (.list ds))])) := fun cs => Kp.rfl'.new fag
            have gag : (upd H9' ag (.lst [.bl (isSt (topsOf steps) (.list ds)), .bl (isPs (topsOf steps) ws.length (.list ds))])) ag = some (.lst [.bl (isSt (topsOf steps) (.list ds)), .bl (isPs (topsOf steps) ws.length (.list ds))]) := upd_same
            have k010 := k09.trans (ka [])
            have gdu10 := ((k8.trans k9).trans (ka [])) _ _ gdu7 (by simp)
            have gtl10 := ((k8.trans k9).trans (ka [])) _ _ gtl (by simp)
            generalize upd H9' ag (.lst [.bl (isSt (topsOf steps) (.list ds)), .bl (isPs (topsOf steps) ws.length (.list ds))]) = H10' at ka gag k010 gdu10 gtl10 ⊢
            refine ⟨_, rfl, _, rfl, by show 2 ≤ sizeLine; decide, fun l1 f1 => ⟨_, rfl, _, rfl, by show 2 ≤ sizeLine; decide, fun l2 f2 => ?_⟩⟩
            have kl1 : ∀ cs, Kp cs H10' (upd H10' l1 (.lst [.ref tl, .ref ag])) := fun cs => Kp.rfl'.new f1
            have kl2 : ∀ cs, Kp cs (upd H10' l1 (.lst [.ref tl, .ref ag])) (upd (upd H10' l1 (.lst [.ref tl, .ref ag])) l2 (.lst [.ref du, .ref du])) := fun cs => Kp.rfl'.new f2
            have kl : ∀ cs, Kp cs H10' (upd (upd H10' l1 (.lst [.ref tl, .ref ag])) l2 (.lst [.ref du, .ref du])) := fun cs => (kl1 cs).trans (kl2 cs)
            have g1 := kl2 [] _ _ (upd_same (H := H10') (a := l1) (o := .lst [.ref tl, .ref ag])) (by simp)
            have g2 : (upd (upd H10' l1 (.lst [.ref tl, .ref ag])) l2 (.lst [.ref du, .ref du])) l2 = some (.lst [.ref du, .ref du]) := upd_same
            have two : ∀ (a : Addr) (Hx : Hp), Hx a = some (.lst [.bl (isSt (topsOf steps) (.list ds)), .bl (isPs (topsOf steps) ws.length (.list ds))]) → D [] Hx 2 1 (.ref a) (.list [.bool (isSt (topsOf steps) (.list ds)), .bool (isPs (topsOf steps) ws.length (.list ds))]) := fun a Hx ha => .lst ha (by simp) (by show 2 ≤ 2; decide) (.cons (.bl _) (.cons (.bl _) .nil))
            have k011 := k010.trans (kl [])
            refine ⟨.ref l1, .ref l2, _, [], [], 2, 2, rfl, .lst g1 (by simp) (by show 2 ≤ 2; decide) (.cons (two tl _ (kl [] _ _ gtl10 (by simp))) (.cons (two ag _ (kl [] _ _ gag (by simp))) .nil)), .lst g2 (by simp) (by show 2 ≤ 2; decide) (.cons (two du _ (kl [] _ _ gdu10 (by simp))) (.cons (two du _ (kl [] _ _ gdu10 (by simp))) .nil)), by decide, by decide, fun H12' k12 => ⟨_, rfl, iteF ?_⟩⟩
            have k012 := k011.trans k12
            refine ⟨_, rfl, (.ref a), (.list ds), rfl, (huh.keep (k012.sub (by simp))).dp, sh.1, sh.2.1, Nat.le_trans sh.2.2.1 (by decide), by rw [sizeLine_eq]; exact Nat.le_trans sh.2.2.2 (by decide), _, rfl, rfl, _, rfl, iteNS rfl ?_⟩
            exact ⟨_, _, _, _, _, rfl, kj.trans k012⟩
          | _ => cases ht
      · rintro σ Hj ⟨_, _, _, _, _, rfl, kj⟩
        exact q _ (k0h.trans (kj.sub (by simp)))

end
end Sw

set_option maxHeartbeats 2000000
namespace Sw
open PySem PySem.Spec PyProof.Rows L2
section
variable {P : Program} {w : World} {K : PySem.W.Frag} {mg : Str → Option Value} {base : Heap}
def sp_law (K : PySem.W.Frag) : Sp := fun vs H Q _ => ∃ (a : Addr) (ns : List Int), vs = [.ref a] ∧ SqL K H a (ns.map V.int) ∧ ns.length ≤ 63 ∧ ∀ H', Q (.bl true) H'
theorem ok_law (T : Tx K mg) : FnG P w K mg base 17 (He.fAd K ("law", none)) T.fd_law p_law (sp_law K) := by
  have G__law_right := ok_right (P := P) (w := w) (base := base) T
  have G__law_box := ok_box (P := P) (w := w) (base := base) T
  refine okG T.F_law sc_law (fun vs H Q E h => ?_) (fun cdv A outer s H vs Q E hG hr h => ?_)
  · obtain ⟨_, _, rfl, _⟩ := h
    rfl
  · obtain ⟨a, ns, rfl, hS, hl, q⟩ := h
    refine ⟨_, PSs.nox (pss_one (ps_ret (pe_callB (cr_all rfl) (by rfl) T.b_all (by decide +kernel) (pa_cons (pe_lc (own := [("_law_k", 1)]) (g := (gName 1)) (tt := tYes) rfl sc_law.nd (pi_range1 (by rfl) T.b_range (pa_cons (pe_op op_add pe_int (pe_callB (call_min2 rfl) (by rfl) T.b_min (by decide +kernel) (pa_cons pe_int (pa_cons (pe_callB call_len (by rfl) T.b_len (by decide +kernel) (pa_cons (pv 0) pa_nil)) pa_nil)))) pa_nil)) (blkOk_by (own := [("_law_k", 1)]) (N := n_law) (sc := defScope s_law) (by decide +kernel)) (fun _ _ _ _ _ => (pg_name (i := 1) sc_law.nd rfl (by first | exact Or.inl rfl | exact Or.inr rfl))) (fun _ _ _ _ _ => pts_nil) (fun _ _ _ _ _ => (pe_callG G__law_right hG (hr.mono (by first | decide | omega)) rfl T.g__law_right T.F__law_right.kp T.bd__law_right (pa_cons (pe_call G__law_box (hr.mono (by first | decide | omega)) rfl T.g__law_box T.F__law_box.kp T.bd__law_box .nil pass0 (pa_cons (pv 0) (pa_cons (pv 1) pa_nil))) pa_nil)))) pa_nil)))), ?_⟩
    refine ⟨_, rfl, _, ns.length, rfl, .inl ⟨_, hS, (List.length_map ..).symm⟩, _, _, rfl, _, _, rfl, rfl, ?_⟩
    have cb : 0 ≤ (1 : Int) + (if (ns.length : Int) < 3 then (ns.length : Int) else 3) ∧ (1 : Int) + (if (ns.length : Int) < 3 then (ns.length : Int) else 3) ≤ 4 := by split <;> omega
    refine ⟨_, rfl, by omega, by omega, fun p hp => lc_range (n := ((1 : Int) + (if (ns.length : Int) < 3 then (ns.length : Int) else 3)).toNat) (fun j H3 => H3 p = some (.lst ((List.replicate j true).map V.bl)) ∧ Kp [] H H3) ?_ ?_ ?_⟩
    · exact ⟨by rw [upd_same]; rfl, Kp.rfl'.new hp⟩
    · rintro j H3 hj ⟨h3, k3⟩
      refine ⟨rfl, yesT ⟨_, rfl, _, rfl, a, ns, _, rfl, k3.same.seq hS, by omega, by omega, fun bx H4 fbx hB4 k4 => ?_⟩⟩
      refine ⟨bx, rfl, hB4, fun H5 k5 => ?_⟩
      have k35 : Kp [] H3 H5 := fun c o e _ => k5 c o (k4 c o e (by simp)) (by simpa using ne_of_none e fbx)
      refine ⟨_, k35 _ _ h3 (by simp), by simp only [List.length_map, List.length_replicate]; exact small1000 (by omega), ?_, (k3.trans k35).own hp⟩
      rw [upd_same, rep_snoc]
    · rintro H3 ⟨h3, k3⟩
      refine ⟨p, _, rfl, SqL.of h3, ?_⟩
      rw [rep_all]
      exact q _
theorem bd_Hall___init__ {f : Addr} {fd : FuncData} (F : FunD K "__init__" "Hall.__init__" (defArgs s_Hall___init__) (defBody s_Hall___init__) (defScope s_Hall___init__) [V.ref (He.dflAt ("Hall", some "__init__") 0 K)] [] f fd) : Binds K fd p_Hall___init__ [] := by
  obtain ⟨ds, r, bd⟩ := F.binds1 (ps := p_Hall___init__) 4 1 (by simp) rfl (fun T kV doc pm an cdv ct us its h1 h2 => match us, its, h1, h2 with | [_, _, _, _], [_], _, _ => ⟨_, rfl, rfl⟩)
  cases r
  exact bd
theorem kb_is_standing {f : Addr} {fd : FuncData} (F : FunD K "is_standing" "is_standing" (defArgs s_is_standing) (defBody s_is_standing) (defScope s_is_standing) [] [] f fd) : KBn K fd p_is_standing 0 ["thing", "hall"] (fun _ ws => sw2 ws) (fun _ zs => sw2 zs) := by
  obtain ⟨oc, od, dV, kV, doc, pm, an, cdv, ct, osl, rfl, lk, hcd, hD, hK⟩ := F.ex
  rcases hD with ⟨_, rfl⟩ | ⟨e, _⟩
  · exact ⟨fun s us ws _ l1 l2 => match us, ws, l1, l2 with | [], [_, _], _, _ => .of_eq rfl, fun _ r => sw2_rel r⟩
  · exact absurd rfl e
theorem kb_is_past {f : Addr} {fd : FuncData} (F : FunD K "is_past" "is_past" (defArgs s_is_past) (defBody s_is_past) (defScope s_is_past) [] [] f fd) : KBn K fd p_is_past 0 ["thing", "hall"] (fun _ ws => sw2 ws) (fun _ zs => sw2 zs) := by
  obtain ⟨oc, od, dV, kV, doc, pm, an, cdv, ct, osl, rfl, lk, hcd, hD, hK⟩ := F.ex
  rcases hD with ⟨_, rfl⟩ | ⟨e, _⟩
  · exact ⟨fun s us ws _ l1 l2 => match us, ws, l1, l2 with | [], [_, _], _, _ => .of_eq rfl, fun _ r => sw2_rel r⟩
  · exact absurd rfl e
def dd_is_number : He.DefD := ⟨("is_number", none), "is_number", "is_number", defArgs s_is_number, defBody s_is_number, defScope s_is_number, [], []⟩
def dd_are_numbers : He.DefD := ⟨("are_numbers", none), "are_numbers", "are_numbers", defArgs s_are_numbers, defBody s_are_numbers, defScope s_are_numbers, [], []⟩
def dd_are_rows : He.DefD := ⟨("are_rows", none), "are_rows", "are_rows", defArgs s_are_rows, defBody s_are_rows, defScope s_are_rows, [], []⟩
def dd_does_rise : He.DefD := ⟨("does_rise", none), "does_rise", "does_rise", defArgs s_does_rise, defBody s_does_rise, defScope s_does_rise, [], []⟩
def dd_are_strings : He.DefD := ⟨("are_strings", none), "are_strings", "are_strings", defArgs s_are_strings, defBody s_are_strings, defScope s_are_strings, [], []⟩
def dd_is_ladder : He.DefD := ⟨("is_ladder", none), "is_ladder", "is_ladder", defArgs s_is_ladder, defBody s_is_ladder, defScope s_is_ladder, [], []⟩
def dd_are_steps : He.DefD := ⟨("are_steps", none), "are_steps", "are_steps", defArgs s_are_steps, defBody s_are_steps, defScope s_are_steps, [], []⟩
def dd_is_memory : He.DefD := ⟨("is_memory", none), "is_memory", "is_memory", defArgs s_is_memory, defBody s_is_memory, defScope s_is_memory, [], []⟩
def dd_as_tuples : He.DefD := ⟨("as_tuples", none), "as_tuples", "as_tuples", defArgs s_as_tuples, defBody s_as_tuples, defScope s_as_tuples, [], []⟩
def dd_Hall___init__ : He.DefD := ⟨("Hall", some "__init__"), "__init__", "Hall.__init__", defArgs s_Hall___init__, defBody s_Hall___init__, defScope s_Hall___init__, [.adr (He.dflAt ("Hall", some "__init__") 0)], []⟩
def dd_Hall_memory : He.DefD := ⟨("Hall", some "memory"), "memory", "Hall.memory", defArgs s_Hall_memory, defBody s_Hall_memory, defScope s_Hall_memory, [], []⟩
def dd_Hall_tops : He.DefD := ⟨("Hall", some "tops"), "tops", "Hall.tops", defArgs s_Hall_tops, defBody s_Hall_tops, defScope s_Hall_tops, [], []⟩
def dd_Hall___len__ : He.DefD := ⟨("Hall", some "__len__"), "__len__", "Hall.__len__", defArgs s_Hall___len__, defBody s_Hall___len__, defScope s_Hall___len__, [], []⟩
def dd_is_posture : He.DefD := ⟨("is_posture", none), "is_posture", "is_posture", defArgs s_is_posture, defBody s_is_posture, defScope s_is_posture, [], []⟩
def dd_is_standing : He.DefD := ⟨("is_standing", none), "is_standing", "is_standing", defArgs s_is_standing, defBody s_is_standing, defScope s_is_standing, [], []⟩
def dd_is_past : He.DefD := ⟨("is_past", none), "is_past", "is_past", defArgs s_is_past, defBody s_is_past, defScope s_is_past, [], []⟩
def dd__law_box : He.DefD := ⟨("_law_box", none), "_law_box", "_law_box", defArgs s__law_box, defBody s__law_box, defScope s__law_box, [], []⟩
def dd__law_take : He.DefD := ⟨("_law_take", none), "_law_take", "_law_take", defArgs s__law_take, defBody s__law_take, defScope s__law_take, [], []⟩
def dd__law_pick : He.DefD := ⟨("_law_pick", none), "_law_pick", "_law_pick", defArgs s__law_pick, defBody s__law_pick, defScope s__law_pick, [], []⟩
def dd__law_same : He.DefD := ⟨("_law_same", none), "_law_same", "_law_same", defArgs s__law_same, defBody s__law_same, defScope s__law_same, [], []⟩
def dd__law_number : He.DefD := ⟨("_law_number", none), "_law_number", "_law_number", defArgs s__law_number, defBody s__law_number, defScope s__law_number, [], []⟩
def dd__law_ties : He.DefD := ⟨("_law_ties", none), "_law_ties", "_law_ties", defArgs s__law_ties, defBody s__law_ties, defScope s__law_ties, [], []⟩
def dd__law_weights : He.DefD := ⟨("_law_weights", none), "_law_weights", "_law_weights", defArgs s__law_weights, defBody s__law_weights, defScope s__law_weights, [], []⟩
def dd__law_rungs : He.DefD := ⟨("_law_rungs", none), "_law_rungs", "_law_rungs", defArgs s__law_rungs, defBody s__law_rungs, defScope s__law_rungs, [], []⟩
def dd__law_data : He.DefD := ⟨("_law_data", none), "_law_data", "_law_data", defArgs s__law_data, defBody s__law_data, defScope s__law_data, [], []⟩
def dd__law_past : He.DefD := ⟨("_law_past", none), "_law_past", "_law_past", defArgs s__law_past, defBody s__law_past, defScope s__law_past, [], []⟩
def dd__law_odd : He.DefD := ⟨("_law_odd", none), "_law_odd", "_law_odd", defArgs s__law_odd, defBody s__law_odd, defScope s__law_odd, [], []⟩
def dd__law_bent : He.DefD := ⟨("_law_bent", none), "_law_bent", "_law_bent", defArgs s__law_bent, defBody s__law_bent, defScope s__law_bent, [], []⟩
def dd__law_stands : He.DefD := ⟨("_law_stands", none), "_law_stands", "_law_stands", defArgs s__law_stands, defBody s__law_stands, defScope s__law_stands, [], []⟩
def dd__law_right : He.DefD := ⟨("_law_right", none), "_law_right", "_law_right", defArgs s__law_right, defBody s__law_right, defScope s__law_right, [], []⟩
def dd_law : He.DefD := ⟨("law", none), "law", "law", defArgs s_law, defBody s_law, defScope s_law, [], []⟩
def fn : List He.DefD := [dd_is_number, dd_are_numbers, dd_are_rows, dd_does_rise, dd_are_strings, dd_is_ladder, dd_are_steps, dd_is_memory, dd_as_tuples, dd_Hall___init__, dd_Hall_memory, dd_Hall_tops, dd_Hall___len__, dd_is_posture, dd_is_standing, dd_is_past, dd__law_box, dd__law_take, dd__law_pick, dd__law_same, dd__law_number, dd__law_ties, dd__law_weights, dd__law_rungs, dd__law_data, dd__law_past, dd__law_odd, dd__law_bent, dd__law_stands, dd__law_right, dd_law]
def fa : List He.Fa := [.free "abs", .free "all", .free "bool", .free "enumerate", .free "int", .free "isinstance", .free "len", .free "list", .free "min", .free "range", .free "repr", .free "str", .free "sum", .free "tuple", .free "zip", .int "MOST_STEPS" 4, .int "MOST_WEIGHTS" 5, .glo "Hall", .cls "Hall", .mkr "Hall", .noat "Hall" "string_rows", .noat "Hall" "step_rows", .noat "Hall" "weights", .glo "is_number", .glo "are_numbers", .glo "are_rows", .glo "does_rise", .glo "are_strings", .glo "is_ladder", .glo "are_steps", .glo "is_memory", .glo "as_tuples", .meth "Hall" "memory", .meth "Hall" "tops", .meth "Hall" "__len__", .glo "is_posture", .glo "is_standing", .glo "is_past", .glo "_law_box", .glo "_law_take", .glo "_law_pick", .glo "_law_same", .glo "_law_number", .glo "_law_ties", .glo "_law_weights", .glo "_law_rungs", .glo "_law_data", .glo "_law_past", .glo "_law_odd", .glo "_law_bent", .glo "_law_stands", .glo "_law_right", .glo "law"]
theorem tx_of {K : PySem.W.Frag} {h : Heap} {mg : Str → Option Value} (X : K.In h) (G : h.Ns mainGlobals mg) (c : He.SaysD fa fn K) : Nonempty (Tx K mg) := by
  obtain ⟨t_MOST_STEPS, h_MOST_STEPS⟩ := He.int_ok X G (c.fact 15 (f := .int "MOST_STEPS" 4) rfl)
  obtain ⟨t_MOST_WEIGHTS, h_MOST_WEIGHTS⟩ := He.int_ok X G (c.fact 16 (f := .int "MOST_WEIGHTS" 5) rfl)
  obtain ⟨fd_is_number, F_is_number⟩ := c.def_ 0 (d := dd_is_number) rfl
  obtain ⟨fd_are_numbers, F_are_numbers⟩ := c.def_ 1 (d := dd_are_numbers) rfl
  obtain ⟨fd_are_rows, F_are_rows⟩ := c.def_ 2 (d := dd_are_rows) rfl
  obtain ⟨fd_does_rise, F_does_rise⟩ := c.def_ 3 (d := dd_does_rise) rfl
  obtain ⟨fd_are_strings, F_are_strings⟩ := c.def_ 4 (d := dd_are_strings) rfl
  obtain ⟨fd_is_ladder, F_is_ladder⟩ := c.def_ 5 (d := dd_is_ladder) rfl
  obtain ⟨fd_are_steps, F_are_steps⟩ := c.def_ 6 (d := dd_are_steps) rfl
  obtain ⟨fd_is_memory, F_is_memory⟩ := c.def_ 7 (d := dd_is_memory) rfl
  obtain ⟨fd_as_tuples, F_as_tuples⟩ := c.def_ 8 (d := dd_as_tuples) rfl
  obtain ⟨fd_Hall___init__, F_Hall___init__⟩ := c.def_ 9 (d := dd_Hall___init__) rfl
  obtain ⟨fd_Hall_memory, F_Hall_memory⟩ := c.def_ 10 (d := dd_Hall_memory) rfl
  obtain ⟨fd_Hall_tops, F_Hall_tops⟩ := c.def_ 11 (d := dd_Hall_tops) rfl
  obtain ⟨fd_Hall___len__, F_Hall___len__⟩ := c.def_ 12 (d := dd_Hall___len__) rfl
  obtain ⟨fd_is_posture, F_is_posture⟩ := c.def_ 13 (d := dd_is_posture) rfl
  obtain ⟨fd_is_standing, F_is_standing⟩ := c.def_ 14 (d := dd_is_standing) rfl
  obtain ⟨fd_is_past, F_is_past⟩ := c.def_ 15 (d := dd_is_past) rfl
  obtain ⟨fd__law_box, F__law_box⟩ := c.def_ 16 (d := dd__law_box) rfl
  obtain ⟨fd__law_take, F__law_take⟩ := c.def_ 17 (d := dd__law_take) rfl
  obtain ⟨fd__law_pick, F__law_pick⟩ := c.def_ 18 (d := dd__law_pick) rfl
  obtain ⟨fd__law_same, F__law_same⟩ := c.def_ 19 (d := dd__law_same) rfl
  obtain ⟨fd__law_number, F__law_number⟩ := c.def_ 20 (d := dd__law_number) rfl
  obtain ⟨fd__law_ties, F__law_ties⟩ := c.def_ 21 (d := dd__law_ties) rfl
  obtain ⟨fd__law_weights, F__law_weights⟩ := c.def_ 22 (d := dd__law_weights) rfl
  obtain ⟨fd__law_rungs, F__law_rungs⟩ := c.def_ 23 (d := dd__law_rungs) rfl
  obtain ⟨fd__law_data, F__law_data⟩ := c.def_ 24 (d := dd__law_data) rfl
  obtain ⟨fd__law_past, F__law_past⟩ := c.def_ 25 (d := dd__law_past) rfl
  obtain ⟨fd__law_odd, F__law_odd⟩ := c.def_ 26 (d := dd__law_odd) rfl
  obtain ⟨fd__law_bent, F__law_bent⟩ := c.def_ 27 (d := dd__law_bent) rfl
  obtain ⟨fd__law_stands, F__law_stands⟩ := c.def_ 28 (d := dd__law_stands) rfl
  obtain ⟨fd__law_right, F__law_right⟩ := c.def_ 29 (d := dd__law_right) rfl
  obtain ⟨fd_law, F_law⟩ := c.def_ 30 (d := dd_law) rfl
  exact ⟨{ b_abs := He.free_ok X G (c.fact 0 (f := .free "abs") rfl), b_all := He.free_ok X G (c.fact 1 (f := .free "all") rfl), b_bool := He.free_ok X G (c.fact 2 (f := .free "bool") rfl), b_enumerate := He.free_ok X G (c.fact 3 (f := .free "enumerate") rfl), b_int := He.free_ok X G (c.fact 4 (f := .free "int") rfl), b_isinstance := He.free_ok X G (c.fact 5 (f := .free "isinstance") rfl), b_len := He.free_ok X G (c.fact 6 (f := .free "len") rfl), b_list := He.free_ok X G (c.fact 7 (f := .free "list") rfl), b_min := He.free_ok X G (c.fact 8 (f := .free "min") rfl), b_range := He.free_ok X G (c.fact 9 (f := .free "range") rfl), b_repr := He.free_ok X G (c.fact 10 (f := .free "repr") rfl), b_str := He.free_ok X G (c.fact 11 (f := .free "str") rfl), b_sum := He.free_ok X G (c.fact 12 (f := .free "sum") rfl), b_tuple := He.free_ok X G (c.fact 13 (f := .free "tuple") rfl), b_zip := He.free_ok X G (c.fact 14 (f := .free "zip") rfl), t_MOST_STEPS := t_MOST_STEPS, c_MOST_STEPS := h_MOST_STEPS, t_MOST_WEIGHTS := t_MOST_WEIGHTS, c_MOST_WEIGHTS := h_MOST_WEIGHTS, g_Hall := He.glo_ok X G (c.fact 17 (f := .glo "Hall") rfl), cl_Hall := He.cls_ok (c.fact 18 (f := .cls "Hall") rfl), mk_Hall := He.mkr_ok (c.fact 19 (f := .mkr "Hall") rfl), na_Hall_string_rows := He.noat_ok (c.fact 20 (f := .noat "Hall" "string_rows") rfl), na_Hall_step_rows := He.noat_ok (c.fact 21 (f := .noat "Hall" "step_rows") rfl), na_Hall_weights := He.noat_ok (c.fact 22 (f := .noat "Hall" "weights") rfl), fd_is_number := fd_is_number, F_is_number := F_is_number, g_is_number := He.glo_ok X G (c.fact 23 (f := .glo "is_number") rfl), bd_is_number := FunD.bindsN (ps := p_is_number) F_is_number fun _ _ _ _ _ _ us hl => match us, hl with | [_], _ => rfl, fd_are_numbers := fd_are_numbers, F_are_numbers := F_are_numbers, g_are_numbers := He.glo_ok X G (c.fact 24 (f := .glo "are_numbers") rfl), bd_are_numbers := FunD.bindsN (ps := p_are_numbers) F_are_numbers fun _ _ _ _ _ _ us hl => match us, hl with | [_], _ => rfl, fd_are_rows := fd_are_rows, F_are_rows := F_are_rows, g_are_rows := He.glo_ok X G (c.fact 25 (f := .glo "are_rows") rfl), bd_are_rows := FunD.bindsN (ps := p_are_rows) F_are_rows fun _ _ _ _ _ _ us hl => match us, hl with | [_], _ => rfl, fd_does_rise := fd_does_rise, F_does_rise := F_does_rise, g_does_rise := He.glo_ok X G (c.fact 26 (f := .glo "does_rise") rfl), bd_does_rise := FunD.bindsN (ps := p_does_rise) F_does_rise fun _ _ _ _ _ _ us hl => match us, hl with | [_], _ => rfl, fd_are_strings := fd_are_strings, F_are_strings := F_are_strings, g_are_strings := He.glo_ok X G (c.fact 27 (f := .glo "are_strings") rfl), bd_are_strings := FunD.bindsN (ps := p_are_strings) F_are_strings fun _ _ _ _ _ _ us hl => match us, hl with | [_], _ => rfl, fd_is_ladder := fd_is_ladder, F_is_ladder := F_is_ladder, g_is_ladder := He.glo_ok X G (c.fact 28 (f := .glo "is_ladder") rfl), bd_is_ladder := FunD.bindsN (ps := p_is_ladder) F_is_ladder fun _ _ _ _ _ _ us hl => match us, hl with | [_], _ => rfl, fd_are_steps := fd_are_steps, F_are_steps := F_are_steps, g_are_steps := He.glo_ok X G (c.fact 29 (f := .glo "are_steps") rfl), bd_are_steps := FunD.bindsN (ps := p_are_steps) F_are_steps fun _ _ _ _ _ _ us hl => match us, hl with | [_, _], _ => rfl, fd_is_memory := fd_is_memory, F_is_memory := F_is_memory, g_is_memory := He.glo_ok X G (c.fact 30 (f := .glo "is_memory") rfl), bd_is_memory := FunD.bindsN (ps := p_is_memory) F_is_memory fun _ _ _ _ _ _ us hl => match us, hl with | [_], _ => rfl, fd_as_tuples := fd_as_tuples, F_as_tuples := F_as_tuples, g_as_tuples := He.glo_ok X G (c.fact 31 (f := .glo "as_tuples") rfl), bd_as_tuples := FunD.bindsN (ps := p_as_tuples) F_as_tuples fun _ _ _ _ _ _ us hl => match us, hl with | [_], _ => rfl, fd_Hall___init__ := fd_Hall___init__, F_Hall___init__ := F_Hall___init__, bd_Hall___init__ := bd_Hall___init__ F_Hall___init__, fd_Hall_memory := fd_Hall_memory, F_Hall_memory := F_Hall_memory, m_Hall_memory := He.meth_ok (c.fact 32 (f := .meth "Hall" "memory") rfl), bd_Hall_memory := FunD.bindsN (ps := p_Hall_memory) F_Hall_memory fun _ _ _ _ _ _ us hl => match us, hl with | [_], _ => rfl, fd_Hall_tops := fd_Hall_tops, F_Hall_tops := F_Hall_tops, m_Hall_tops := He.meth_ok (c.fact 33 (f := .meth "Hall" "tops") rfl), bd_Hall_tops := FunD.bindsN (ps := p_Hall_tops) F_Hall_tops fun _ _ _ _ _ _ us hl => match us, hl with | [_], _ => rfl, fd_Hall___len__ := fd_Hall___len__, F_Hall___len__ := F_Hall___len__, m_Hall___len__ := He.meth_ok (c.fact 34 (f := .meth "Hall" "__len__") rfl), bd_Hall___len__ := FunD.bindsN (ps := p_Hall___len__) F_Hall___len__ fun _ _ _ _ _ _ us hl => match us, hl with | [_], _ => rfl, fd_is_posture := fd_is_posture, F_is_posture := F_is_posture, g_is_posture := He.glo_ok X G (c.fact 35 (f := .glo "is_posture") rfl), bd_is_posture := FunD.bindsN (ps := p_is_posture) F_is_posture fun _ _ _ _ _ _ us hl => match us, hl with | [_, _, _], _ => rfl, fd_is_standing := fd_is_standing, F_is_standing := F_is_standing, g_is_standing := He.glo_ok X G (c.fact 36 (f := .glo "is_standing") rfl), bd_is_standing := FunD.bindsN (ps := p_is_standing) F_is_standing fun _ _ _ _ _ _ us hl => match us, hl with | [_, _], _ => rfl, kb_is_standing := kb_is_standing F_is_standing, fd_is_past := fd_is_past, F_is_past := F_is_past, g_is_past := He.glo_ok X G (c.fact 37 (f := .glo "is_past") rfl), bd_is_past := FunD.bindsN (ps := p_is_past) F_is_past fun _ _ _ _ _ _ us hl => match us, hl with | [_, _], _ => rfl, kb_is_past := kb_is_past F_is_past, fd__law_box := fd__law_box, F__law_box := F__law_box, g__law_box := He.glo_ok X G (c.fact 38 (f := .glo "_law_box") rfl), bd__law_box := FunD.bindsN (ps := p__law_box) F__law_box fun _ _ _ _ _ _ us hl => match us, hl with | [_, _], _ => rfl, fd__law_take := fd__law_take, F__law_take := F__law_take, g__law_take := He.glo_ok X G (c.fact 39 (f := .glo "_law_take") rfl), bd__law_take := FunD.bindsN (ps := p__law_take) F__law_take fun _ _ _ _ _ _ us hl => match us, hl with | [_, _], _ => rfl, fd__law_pick := fd__law_pick, F__law_pick := F__law_pick, g__law_pick := He.glo_ok X G (c.fact 40 (f := .glo "_law_pick") rfl), bd__law_pick := FunD.bindsN (ps := p__law_pick) F__law_pick fun _ _ _ _ _ _ us hl => match us, hl with | [_, _], _ => rfl, fd__law_same := fd__law_same, F__law_same := F__law_same, g__law_same := He.glo_ok X G (c.fact 41 (f := .glo "_law_same") rfl), bd__law_same := FunD.bindsN (ps := p__law_same) F__law_same fun _ _ _ _ _ _ us hl => match us, hl with | [_, _], _ => rfl, fd__law_number := fd__law_number, F__law_number := F__law_number, g__law_number := He.glo_ok X G (c.fact 42 (f := .glo "_law_number") rfl), bd__law_number := FunD.bindsN (ps := p__law_number) F__law_number fun _ _ _ _ _ _ us hl => match us, hl with | [_, _], _ => rfl, fd__law_ties := fd__law_ties, F__law_ties := F__law_ties, g__law_ties := He.glo_ok X G (c.fact 43 (f := .glo "_law_ties") rfl), bd__law_ties := FunD.bindsN (ps := p__law_ties) F__law_ties fun _ _ _ _ _ _ us hl => match us, hl with | [_, _, _], _ => rfl, fd__law_weights := fd__law_weights, F__law_weights := F__law_weights, g__law_weights := He.glo_ok X G (c.fact 44 (f := .glo "_law_weights") rfl), bd__law_weights := FunD.bindsN (ps := p__law_weights) F__law_weights fun _ _ _ _ _ _ us hl => match us, hl with | [_, _], _ => rfl, fd__law_rungs := fd__law_rungs, F__law_rungs := F__law_rungs, g__law_rungs := He.glo_ok X G (c.fact 45 (f := .glo "_law_rungs") rfl), bd__law_rungs := FunD.bindsN (ps := p__law_rungs) F__law_rungs fun _ _ _ _ _ _ us hl => match us, hl with | [_, _, _], _ => rfl, fd__law_data := fd__law_data, F__law_data := F__law_data, g__law_data := He.glo_ok X G (c.fact 46 (f := .glo "_law_data") rfl), bd__law_data := FunD.bindsN (ps := p__law_data) F__law_data fun _ _ _ _ _ _ us hl => match us, hl with | [_, _, _, _], _ => rfl, fd__law_past := fd__law_past, F__law_past := F__law_past, g__law_past := He.glo_ok X G (c.fact 47 (f := .glo "_law_past") rfl), bd__law_past := FunD.bindsN (ps := p__law_past) F__law_past fun _ _ _ _ _ _ us hl => match us, hl with | [_, _, _], _ => rfl, fd__law_odd := fd__law_odd, F__law_odd := F__law_odd, g__law_odd := He.glo_ok X G (c.fact 48 (f := .glo "_law_odd") rfl), bd__law_odd := FunD.bindsN (ps := p__law_odd) F__law_odd fun _ _ _ _ _ _ us hl => match us, hl with | [_], _ => rfl, fd__law_bent := fd__law_bent, F__law_bent := F__law_bent, g__law_bent := He.glo_ok X G (c.fact 49 (f := .glo "_law_bent") rfl), bd__law_bent := FunD.bindsN (ps := p__law_bent) F__law_bent fun _ _ _ _ _ _ us hl => match us, hl with | [_, _], _ => rfl, fd__law_stands := fd__law_stands, F__law_stands := F__law_stands, g__law_stands := He.glo_ok X G (c.fact 50 (f := .glo "_law_stands") rfl), bd__law_stands := FunD.bindsN (ps := p__law_stands) F__law_stands fun _ _ _ _ _ _ us hl => match us, hl with | [_, _], _ => rfl, fd__law_right := fd__law_right, F__law_right := F__law_right, g__law_right := He.glo_ok X G (c.fact 51 (f := .glo "_law_right") rfl), bd__law_right := FunD.bindsN (ps := p__law_right) F__law_right fun _ _ _ _ _ _ us hl => match us, hl with | [_], _ => rfl, fd_law := fd_law, F_law := F_law, g_law := He.glo_ok X G (c.fact 52 (f := .glo "law") rfl) }⟩
theorem glo_law {K : PySem.W.Frag} {h : Heap} {mg : Str → Option Value} (X : K.In h) (G : h.Ns mainGlobals mg) (c : He.SaysD fa fn K) : mg "law" = some (.ref (He.fAd K ("law", none))) := He.glo_ok X G (c.fact 52 (f := .glo "law") rfl)
theorem facts {h : Heap} {f : Addr} (X : K.In h) (G : h.Ns mainGlobals mg) (hfa : mg ("law" : Str) = some (.ref f)) (c : He.SaysD fa fn K) :
    ∃ fd : FuncData, (∀ (s : Shared) (v : Value), BindsTo s fd ⟨[v], []⟩ [("_law_script", v)]) ∧ ∀ base : Heap, K.In base → base.Ns mainGlobals mg → FnG P w K mg base 17 f fd ["_law_script"] (sp_law K) := by
  obtain ⟨T⟩ := tx_of X G c
  have e := hfa.symm.trans (glo_law X G c)
  cases e
  have bd := FunD.bindsA (ps := p_law) T.F_law fun _ _ _ _ _ _ us hl => match us, hl with | [_], _ => rfl
  exact ⟨T.fd_law, fun s v => bd s [v] rfl, fun base _ _ => ok_law T⟩
abbrev R : PySem.W.OpenRow := PySem.W.OpenLaw.row PySem.Challenge.rw_swayhalls_k03_standings_and_pasts
abbrev hk : PySem.W.Hook := He.hookD 6 fa fn
def ob (s : PySem.W.SharedT) : He.AlD := He.obsDG 6 fa fn (HandSHeadRun.getT s)
theorem ob_eq (s : PySem.W.SharedT) : ob s = hk.obs s.abs := He.obsDG_eq (HandSHeadRun.getT_eq s)
def names : List Str := ["BadHall", "MOST_STEPS", "MOST_WEIGHTS", "is_number", "are_numbers", "are_rows", "does_rise", "are_strings", "is_ladder", "are_steps", "is_memory", "as_tuples", "Hall", "is_posture", "is_standing", "is_past", "_law_box", "_law_take", "_law_pick", "_law_same", "_law_number", "_law_ties", "_law_weights", "_law_rungs", "_law_data", "_law_past", "_law_odd", "_law_bent", "_law_stands", "_law_right"]

end
end Sw

set_option maxHeartbeats 0
namespace Sw
open PySem PySem.Spec PyProof.Rows L2
theorem run (w : World) : HandSHeadRun.RunEq R (PySem.W.view R.prog [34]) hk ob 20000 names w := by
  intro os
  kernel_rfl
end Sw
open PySem PySem.W PySem.Calls PyProof.Rows
theorem PySem.Challenge.cw_swayhalls_k03_standings_and_pasts_holds : PySem.Challenge.rw_swayhalls_k03_standings_and_pasts.Holds := by
  w_on; o_law
  refine HandSHeadRun.head_any (r := OpenLaw.row PySem.Challenge.rw_swayhalls_k03_standings_and_pasts) (q := view (OpenLaw.row PySem.Challenge.rw_swayhalls_k03_standings_and_pasts).prog [34]) (H := Sw.hk) (ob := Sw.ob) (M := 20000) (loose := Sw.names) (d := HandSHeadRun.topDef (OpenLaw.row PySem.Challenge.rw_swayhalls_k03_standings_and_pasts).prog 34) (kwd := []) Sw.ob_eq
    (by kernel_rfl) (fun s => by kernel_rfl) Sw.run (by kernel_rfl) (by kernel_rfl) (by kernel_rfl) (by rfl) (by first | assumption | decide +kernel) (by decide +kernel) ⟨rfl, rfl, rfl, rfl, rfl, by decide +kernel⟩ ?hw ?hc
  case hw => w_witness2
  case hc =>
    refine Sw.walkG (l := PySem.Challenge.rw_swayhalls_k03_standings_and_pasts) (n := 63) (k := 17) (x := "_law_script") rfl (by decide) (by kernel_rfl) ⟨rfl, by decide, by decide⟩ ?F
    intro w mg fa h Y G hmg0
    obtain ⟨K, KX, c⟩ := Y
    have hmg : mg ("law" : PySem.Str) = some (.ref fa) := by
      have e : (HandSHeadRun.topDef (OpenLaw.row PySem.Challenge.rw_swayhalls_k03_standings_and_pasts).prog 34).name = ("law" : PySem.Str) := by kernel_rfl
      rw [← e]
      exact hmg0
    obtain ⟨fd, hb, hF⟩ := Sw.facts (P := (PySem.Challenge.rw_swayhalls_k03_standings_and_pasts).prog) (w := w) KX G hmg c
    exact ⟨K, fd, Sw.sp_law K, KX, hb, fun H a ns hl hS => ⟨a, ns, rfl, hS, hl, fun _ => rfl⟩, hF⟩
#print axioms PySem.Challenge.cw_swayhalls_k03_standings_and_pasts_holds
