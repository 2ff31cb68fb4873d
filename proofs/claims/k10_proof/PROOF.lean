import PyProof.Rows.All
import Wide.All
import OpenK.AllK
import Wide.FinOn
import HandS.ForMost
import HandS.IsInst
import HandS.Flow
import HandS.Style
import HandS.Zip
import HandS.More
import HandS.Walk
import HandS.Defaults
import HandS.Head0
import HandS.Head1
import HandS.Head2
import HandS.HeadEnd
import HandS.HeadHook1
import HandS.HeadHook2
import KE.GoesMore
import KE.GoesZip
import KE.GoesEnum
import HandS.OwnEq
import HandS.FStr
import HandS.Set
import HandS.SetFor
import HandS.Strs
import HandS.Sort
import HandS.Star
import HandS.TupMul
import HandS.DictComp
import HandS.ListItems
import HandS.Words
import HandS.WordsDict
import HandS.MakeKwOnly
import HandS.SortRule
import HandS.TupAny
import HandS.NoneIn
import HandS.Conv
import KE.KStateDown
import PySem.Challenge.RW_swayhalls_k10_whole_mirrors_of_balanced
set_option Elab.async false
set_option linter.all false
set_option maxRecDepth 100000
set_option maxHeartbeats 2000000
namespace Sw
open PySem PySem.Spec PyProof.Rows L2
/-! ### heaps that stay but at some places -/
def Kp (bs : List Addr) (H H' : Hp) : Prop := ∀ a o, H a = some o → a ∉ bs → H' a = some o
theorem Kp.rfl' {bs : List Addr} {H : Hp} : Kp bs H H := fun _ _ h _ => h
theorem Kp.trans {bs : List Addr} {H H1 H2 : Hp} (x : Kp bs H H1) (y : Kp bs H1 H2) : Kp bs H H2 := fun a o h n => y a o (x a o h n) n
theorem Kp.sub {bs cs : List Addr} {H H' : Hp} (x : Kp bs H H') (s : ∀ a, a ∈ bs → a ∈ cs) : Kp cs H H' := fun a o h n => x a o h fun m => n (s a m)
theorem Kp.new {bs : List Addr} {H H' : Hp} {p : Addr} {o : HO} (x : Kp bs H H') (h : H' p = none) : Kp bs H (upd H' p o) := fun a o' e n => by
  have e1 := x a o' e n
  rw [upd_ne (ne_of_none e1 h)]
  exact e1
theorem Kp.put {bs : List Addr} {H H' : Hp} {p : Addr} {o : HO} (x : Kp bs H H') (h : p ∈ bs) : Kp bs H (upd H' p o) := fun a o' e n => by
  have ne : a ≠ p := fun z => n (by rw [z]; exact h)
  rw [upd_ne ne]
  exact x a o' e n
/-- a place that was free at first may change -/
theorem Kp.own {bs : List Addr} {H H' : Hp} {p : Addr} {o : HO} (x : Kp bs H H') (h : H p = none) : Kp bs H (upd H' p o) := fun a o' e n => by
  rw [upd_ne (ne_of_none e h)]
  exact x a o' e n
/-- .. by a whole step that keeps all but it -/
theorem Kp.step {bs : List Addr} {H H1 H2 : Hp} {p : Addr} (x : Kp bs H H1) (h : H p = none) (y : Kp (p :: bs) H1 H2) : Kp bs H H2 := fun a o e n =>
  y a o (x a o e n) fun m => by
    rcases List.mem_cons.mp m with z | z
    · rw [z, h] at e
      cases e
    · exact n z
theorem Kp.free {bs : List Addr} {H H' : Hp} (x : Kp bs H H') {p : Addr} (h : H' p = none) (n : p ∉ bs) : H p = none := by
  cases e : H p with
  | none => rfl
  | some o =>
    rw [x p o e n] at h
    cases h
theorem Kp.same {H H' : Hp} (x : Kp [] H H') : Same H H' := fun b o e => x b o e (by simp)
theorem Same.kp {bs : List Addr} {H H' : Hp} (x : Same H H') : Kp bs H H' := fun b o e _ => x b o e
/-! ### data of lists and tuples that lie apart from bs: at most w wide, k deep -/
mutual
inductive D (bs : List Addr) (H : Hp) (w : Nat) : Nat → V → PyData → Prop
  | non {k : Nat} : D bs H w k .non .none
  | bl {k : Nat} (b : Bool) : D bs H w k (.bl b) (.bool b)
  | int {k : Nat} (i : Int) : i.natAbs < 2 ^ 39 + w → D bs H w k (.int i) (.int i)
  | str {k : Nat} (x : Str) : (reprText x).length ≤ 20 → D bs H w k (.str x) (.str x)
  | lst {k : Nat} {a : Addr} {xs : List V} {ds : List PyData} : H a = some (.lst xs) → a ∉ bs → xs.length ≤ w → DA bs H w k xs ds → D bs H w (k + 1) (.ref a) (.list ds)
  | tup {k : Nat} {a : Addr} {xs : List V} {ds : List PyData} : H a = some (.tup xs) → a ∉ bs → xs.length ≤ w → DA bs H w k xs ds → D bs H w (k + 1) (.ref a) (.tuple ds)
inductive DA (bs : List Addr) (H : Hp) (w : Nat) : Nat → List V → List PyData → Prop
  | nil {k : Nat} : DA bs H w k [] []
  | cons {k : Nat} {v : V} {vs : List V} {d : PyData} {ds : List PyData} : D bs H w k v d → DA bs H w k vs ds → DA bs H w k (v :: vs) (d :: ds)
end
mutual
theorem D.keep {bs : List Addr} {H H' : Hp} {w : Nat} (x : Kp bs H H') : ∀ {k : Nat} {v : V} {d : PyData}, D bs H w k v d → D bs H' w k v d
  | _, _, _, .non => .non
  | _, _, _, .bl b => .bl b
  | _, _, _, .int i h => .int i h
  | _, _, _, .str y h => .str y h
  | _, _, _, .lst h n l t => .lst (x _ _ h n) n l (DA.keep x t)
  | _, _, _, .tup h n l t => .tup (x _ _ h n) n l (DA.keep x t)
theorem DA.keep {bs : List Addr} {H H' : Hp} {w : Nat} (x : Kp bs H H') : ∀ {k : Nat} {v : List V} {d : List PyData}, DA bs H w k v d → DA bs H' w k v d
  | _, _, _, .nil => .nil
  | _, _, _, .cons h t => .cons (D.keep x h) (DA.keep x t)
end
mutual
/-- other places, wider, deeper -/
theorem D.wide {bs cs : List Addr} {H : Hp} {w w' : Nat} (s : ∀ a o, H a = some o → a ∉ bs → a ∉ cs) (hw : w ≤ w') : ∀ {k k' : Nat} {v : V} {d : PyData}, k ≤ k' → D bs H w k v d → D cs H w' k' v d
  | _, _, _, _, _, .non => .non
  | _, _, _, _, _, .bl b => .bl b
  | _, _, _, _, _, .int i h => .int i (Nat.lt_of_lt_of_le h (Nat.add_le_add_left hw _))
  | _, _, _, _, _, .str y h => .str y h
  | _, k' + 1, _, _, hk, .lst h n l t => .lst h (s _ _ h n) (Nat.le_trans l hw) (DA.wide s hw (Nat.le_of_succ_le_succ hk) t)
  | _, k' + 1, _, _, hk, .tup h n l t => .tup h (s _ _ h n) (Nat.le_trans l hw) (DA.wide s hw (Nat.le_of_succ_le_succ hk) t)
theorem DA.wide {bs cs : List Addr} {H : Hp} {w w' : Nat} (s : ∀ a o, H a = some o → a ∉ bs → a ∉ cs) (hw : w ≤ w') : ∀ {k k' : Nat} {v : List V} {d : List PyData}, k ≤ k' → DA bs H w k v d → DA cs H w' k' v d
  | _, _, _, _, _, .nil => .nil
  | _, _, _, _, hk, .cons h t => .cons (D.wide s hw hk h) (DA.wide s hw hk t)
end
section
variable {bs : List Addr} {H : Hp} {w k : Nat} {v : V} {d : PyData}
theorem apart_new {l : Addr} (h : H l = none) : ∀ a o, H a = some o → a ∉ bs → a ∉ l :: bs := fun a o e n m => by
  rcases List.mem_cons.mp m with z | z
  · rw [z, h] at e
    cases e
  · exact n z
theorem apart_less {cs : List Addr} (s : ∀ a, a ∈ cs → a ∈ bs) : ∀ a o, H a = some o → a ∉ bs → a ∉ cs := fun a o _ n m => n (s a m)
theorem D.fresh {l : Addr} (x : D bs H w k v d) (h : H l = none) : D (l :: bs) H w k v d := x.wide (apart_new h) (Nat.le_refl _) (Nat.le_refl _)
theorem DA.fresh {l : Addr} {vs : List V} {ds : List PyData} (x : DA bs H w k vs ds) (h : H l = none) : DA (l :: bs) H w k vs ds := x.wide (apart_new h) (Nat.le_refl _) (Nat.le_refl _)
theorem D.less {cs : List Addr} (x : D bs H w k v d) (s : ∀ a, a ∈ cs → a ∈ bs) : D cs H w k v d := x.wide (apart_less s) (Nat.le_refl _) (Nat.le_refl _)
theorem DA.less {cs : List Addr} {vs : List V} {ds : List PyData} (x : DA bs H w k vs ds) (s : ∀ a, a ∈ cs → a ∈ bs) : DA cs H w k vs ds := x.wide (apart_less s) (Nat.le_refl _) (Nat.le_refl _)
theorem D.up {w' k' : Nat} (x : D bs H w k v d) (hw : w ≤ w') (hk : k ≤ k') : D bs H w' k' v d := x.wide (fun _ _ _ n => n) hw hk
theorem DA.up {w' k' : Nat} {vs : List V} {ds : List PyData} (x : DA bs H w k vs ds) (hw : w ≤ w') (hk : k ≤ k') : DA bs H w' k' vs ds := x.wide (fun _ _ _ n => n) hw hk
end
theorem DA.len {bs : List Addr} {H : Hp} {w k : Nat} : ∀ {vs : List V} {ds : List PyData}, DA bs H w k vs ds → vs.length = ds.length
  | _, _, .nil => rfl
  | _, _, .cons _ t => congrArg Nat.succ (DA.len t)
theorem DA.get {bs : List Addr} {H : Hp} {w k : Nat} : ∀ {vs : List V} {ds : List PyData} {i : Nat} {v : V}, DA bs H w k vs ds → vs[i]? = some v → ∃ d, ds[i]? = some d ∧ D bs H w k v d
  | _, _, i, _, .nil, e => by simp at e
  | _, _, 0, _, .cons h _, e => ⟨_, rfl, by cases (Option.some.inj e); exact h⟩
  | _, _, i + 1, _, .cons _ t, e => DA.get (i := i) t e
theorem DA.app {bs : List Addr} {H : Hp} {w k : Nat} {us : List V} {es : List PyData} : ∀ {vs : List V} {ds : List PyData}, DA bs H w k vs ds → DA bs H w k us es → DA bs H w k (vs ++ us) (ds ++ es)
  | _, _, .nil, y => y
  | _, _, .cons h t, y => .cons h (DA.app t y)
theorem DA.one {bs : List Addr} {H : Hp} {w k : Nat} {v : V} {d : PyData} (h : D bs H w k v d) : DA bs H w k [v] [d] := .cons h .nil
/-- all items are data of some kind -/
theorem DA.any {bs : List Addr} {H : Hp} {w k : Nat} : ∀ {vs : List V}, (∀ v ∈ vs, ∃ d, D bs H w k v d) → ∃ ds, DA bs H w k vs ds
  | [], _ => ⟨[], .nil⟩
  | v :: vs, h => by
    obtain ⟨d, hd⟩ := h v (List.mem_cons_self ..)
    obtain ⟨ds, hs⟩ := DA.any (vs := vs) fun u hu => h u (List.mem_cons_of_mem _ hu)
    exact ⟨d :: ds, .cons hd hs⟩
theorem DA.mem {bs : List Addr} {H : Hp} {w k : Nat} {vs : List V} {ds : List PyData} (x : DA bs H w k vs ds) : ∀ v ∈ vs, ∃ d, D bs H w k v d := fun v hv => by
  obtain ⟨i, hi, e⟩ := List.getElem_of_mem hv
  obtain ⟨d, _, h⟩ := x.get (i := i) (v := v) (by rw [List.getElem?_eq_getElem hi, e])
  exact ⟨d, h⟩
theorem DA.ints {bs : List Addr} {H : Hp} {w k : Nat} : ∀ {ns : List Int} {vs : List V}, DA bs H w k vs (ns.map PyData.int) → vs = ns.map V.int
  | [], _, .nil => rfl
  | n :: ns, _, .cons h t => by
    cases h
    rw [DA.ints t]
    rfl
theorem DA.ofInts {bs : List Addr} {H : Hp} {w k : Nat} : ∀ {ns : List Int}, (∀ n ∈ ns, n.natAbs < 2 ^ 39 + w) → DA bs H w k (ns.map V.int) (ns.map PyData.int)
  | [], _ => .nil
  | n :: ns, h => .cons (.int n (h n (List.mem_cons_self ..))) (DA.ofInts fun m hm => h m (List.mem_cons_of_mem _ hm))
/-! ### as the layer's data -/
mutual
theorem D.dp {K : PySem.W.Frag} {bs : List Addr} {H : Hp} {w : Nat} : ∀ {k : Nat} {v : V} {d : PyData}, D bs H w k v d → Dp K H v d
  | _, _, _, .non => .non
  | _, _, _, .bl b => .bl b
  | _, _, _, .int i _ => .int i
  | _, _, _, .str y _ => .str y
  | _, _, _, .lst h _ _ t => .lst (SqL.of h) (DA.dp t)
  | _, _, _, .tup h _ _ t => .tup (SqT.of h) (DA.dp t)
theorem DA.dp {K : PySem.W.Frag} {bs : List Addr} {H : Hp} {w : Nat} : ∀ {k : Nat} {v : List V} {d : List PyData}, DA bs H w k v d → DpAll K H v d
  | _, _, _, .nil => .nil
  | _, _, _, .cons h t => .cons (D.dp h) (DA.dp t)
end
/-! ### kinds -/
def kindOf : PyData → String
  | .none => "NoneType"
  | .bool _ => "bool"
  | .int _ => "int"
  | .str _ => "str"
  | .list _ => "list"
  | .tuple _ => "tuple"
  | _ => "dict"
def isK (n : String) (d : PyData) : Bool := (kitB (kindOf d) n).getD false
theorem D.tyx {K : PySem.W.Frag} {bs : List Addr} {H : Hp} {w k : Nat} {v : V} {d : PyData} (x : D bs H w k v d) : TyX K H v (.type (kindOf d)) := by
  cases x with
  | non => exact .base .non
  | bl b => exact .base (.bl b)
  | int i h => exact .base (.int i)
  | str y h => exact .base (.str y)
  | lst h n l t => exact .base (.lst h)
  | tup h n l t => exact .base (.tup h)
def isSeq (d : PyData) : Bool := match d with
  | .list _ => true
  | .tuple _ => true
  | _ => false
def isLst (d : PyData) : Bool := match d with
  | .list _ => true
  | _ => false
def isTup (d : PyData) : Bool := match d with
  | .tuple _ => true
  | _ => false
def isStr (d : PyData) : Bool := match d with
  | .str _ => true
  | _ => false
def isInt (d : PyData) : Bool := match d with
  | .int _ => true
  | .bool _ => true
  | _ => false
def isBool (d : PyData) : Bool := match d with
  | .bool _ => true
  | _ => false
theorem D.kit {K : PySem.W.Frag} {bs : List Addr} {H : Hp} {w k : Nat} {v : V} {d : PyData} (x : D bs H w k v d) :
    PySem.W.kitOne K (.type (kindOf d)) (.type "list") = some (isLst d) ∧ PySem.W.kitOne K (.type (kindOf d)) (.type "tuple") = some (isTup d) ∧ PySem.W.kitOne K (.type (kindOf d)) (.type "str") = some (isStr d) ∧
    PySem.W.kitOne K (.type (kindOf d)) (.type "int") = some (isInt d) ∧ PySem.W.kitOne K (.type (kindOf d)) (.type "bool") = some (isBool d) := by
  cases x <;> refine ⟨kit_ty ?_, kit_ty ?_, kit_ty ?_, kit_ty ?_, kit_ty ?_⟩ <;> simp only [kindOf, isLst, isTup, isStr, isInt, isBool] <;> decide +kernel
section
variable {K : PySem.W.Frag} {bs : List Addr} {H : Hp} {w k : Nat} {v : V} {d : PyData} {Q : VK}
theorem D.kL (x : D bs H w k v d) : PySem.W.kitOne K (.type (kindOf d)) (.type "list") = some (isLst d) := x.kit.1
theorem D.kT (x : D bs H w k v d) : PySem.W.kitOne K (.type (kindOf d)) (.type "tuple") = some (isTup d) := x.kit.2.1
theorem D.kS (x : D bs H w k v d) : PySem.W.kitOne K (.type (kindOf d)) (.type "str") = some (isStr d) := x.kit.2.2.1
theorem D.kI (x : D bs H w k v d) : PySem.W.kitOne K (.type (kindOf d)) (.type "int") = some (isInt d) := x.kit.2.2.2.1
theorem D.kB (x : D bs H w k v d) : PySem.W.kitOne K (.type (kindOf d)) (.type "bool") = some (isBool d) := x.kit.2.2.2.2
theorem D.kQ (x : D bs H w k v d) : PySem.W.kitAny K (.type (kindOf d)) [.type "list", .type "tuple"] = some (isSeq d) := by
  have h := x.kit (K := K)
  refine kitAny_cons h.1 (fun e => kitAny_cons h.2.1 (fun _ => ?_) fun e2 => ?_) fun e => ?_
  · rw [kitAny_nil]
    cases x <;> first | rfl | cases e | skip
    all_goals simp_all [Sw.isTup, Sw.isSeq]
  · cases x <;> first | rfl | cases e2
  · cases x <;> first | rfl | cases e
theorem tyLT : Paired ClsV [.ty "list", .ty "tuple"] [.type "list", .type "tuple"] := .cons (.ty _) (.cons (.ty _) .nil)
/-- len of it -/
def lenOf (d : PyData) : Nat := match d with
  | .list ds => ds.length
  | .tuple ds => ds.length
  | _ => 0
theorem D.lenV (x : D bs H w k v d) (s : Sw.isSeq d = true) : LenV K v H (lenOf d) := by
  cases x with
  | lst h n l t => exact .inl ⟨_, SqL.of h, (DA.len t).symm⟩
  | tup h n l t => exact .inr ⟨_, SqT.of h, (DA.len t).symm⟩
  | _ => cases s
end
/-! ### what's drawn from -/
structure Bx (H : Hp) (b : Addr) (n : Nat) : Prop where
  ex : ∃ x y z : Int, H b = some (.lst [.int x, .int y, .int z]) ∧ 0 ≤ x ∧ 0 ≤ y ∧ y < 2 ^ 33 ∧ 0 ≤ z ∧ z ≤ n
theorem Bx.keep {H H' : Hp} {b : Addr} {n : Nat} {bs : List Addr} (x : Bx H b n) (s : Kp bs H H') (h : b ∉ bs) : Bx H' b n := by
  obtain ⟨p, q, r, e, t⟩ := x.ex
  exact ⟨p, q, r, s _ _ e h, t⟩
theorem Bx.up {H : Hp} {b : Addr} {n m : Nat} (x : Bx H b n) (h : n ≤ m) : Bx H b m := by
  obtain ⟨p, q, r, e, h1, h2, h3, h4, h5⟩ := x.ex
  exact ⟨p, q, r, e, h1, h2, h3, h4, by omega⟩
end Sw

set_option maxHeartbeats 2000000
namespace Sw
open PySem PySem.Spec PyProof.Rows L2
/-! ### defs that are called where no repr is under way -/
structure FnG (P : Program) (w : World) (K : PySem.W.Frag) (mg : Str → Option Value) (base : Heap) (k : Nat) (f : Addr) (fd : FuncData) (ps : List Str) (sp : Sp) : Prop where
  lenG : ∀ vs H Q E, sp vs H Q E → vs.length = ps.length
  runG : ∀ (A : Around) (outer : List Env) (s : Shared) (H : Hp) (args : Args) (us : List Value) (vs : List V) (Q : VK) (E : XK), A.guards = some [] → Room k A → Env0 P w K mg base A outer s H → BindsTo s fd args (ps.zip us) → Vals vs us → sp vs H Q E →
    codeAny (model P w) A (.call (.ref f) args) (CR CX0 outer P w H s Q E) s
section
variable {P : Program} {w : World} {K : PySem.W.Frag} {mg : Str → Option Value} {base : Heap}
theorem okG {x qual : Str} {params : Arguments} {body : List Stmt} {scope : Scope} {dvs : List V} {kws : List (Str × V)} {f : Addr} {fd : FuncData} {N ps : List Str} {k : Nat} {sp : Sp} (F : FunD K x qual params body scope dvs kws f fd) (S : FnScope N ps scope)
    (len : ∀ vs H Q E, sp vs H Q E → vs.length = ps.length)
    (hb0 : ∀ (cdv : Value) (A : Around) (outer : List Env) (s : Shared) (H : Hp) (vs : List V) (Q : VK) (E : XK), A.guards = some [] → Room k (A.deeper (envOfC qual scope s.heap.objs.size f cdv)) → sp vs H Q E →
      ∃ t, PSs (cxOf CX0 P w K mg base N qual scope f cdv A outer s H E) body t ∧ t { nx := fun _ H' => Q .non H', rt := Q } (start N vs) H) : FnG P w K mg base (k + 1) f fd ps sp := by
  obtain ⟨oc, od, dV, kV, doc, pm, an, cdv, ct, osl, rfl, lk, hcd, _, _⟩ := F.ex
  refine ⟨len, ?_⟩
  intro A outer s H args us vs Q E hG hr e0 hb r hsp
  have kin : K.In s.heap := e0.mod.kin.keeps (fun c u z => (e0.bs c u z).1)
  have nol : s.heap.NoLimit := e0.mod.nolimit.keeps (fun c u z => (e0.bs c u z).1)
  refine codeAny_call_function hr.depth (kin _ _ lk) rfl S.co S.gen rfl (PySem.W.codeRec_of kin hcd) (hb _ _ _ _ (wpAny_newFunctionEnv_cells S.kind ?_ fun env he s1 z => ?_))
  · rintro ⟨n, v⟩ hy
    exact (S.par n (List.of_mem_zip hy).1).elim (fun c => .inl c) fun c => .inr ⟨c, PySem.W.cellsFrom_some _ _ _ (.inl c)⟩
  · subst he
    obtain ⟨t, ht, hq⟩ := hb0 cdv A outer s H vs Q E hG (hr.deeper _) hsp
    have I0 : Inv (cxOf CX0 P w K mg base N qual scope f cdv A outer s H E) [] (start N vs) H s1 := inv_start S hr.hd e0 (len _ _ _ _ hsp) r z
    refine ⟨nol.keeps z.toInCall.keep, codeAny_func (wpAny_mono (ht.run [] s1 (start N vs) H _ I0 hq) (fun fl s' hs => ?_) fun e s' hs => hs)⟩
    match fl, hs with
    | .ret u, ⟨v, σ', H', J, rv, q⟩ => exact ⟨v, H', J.os, J.bare, J.base, J.hok, rv, q⟩
    | .next, ⟨σ', H', J, q⟩ => exact ⟨V.non, H', J.os, J.bare, J.base, J.hok, rfl, q⟩
    | .brk, ⟨_, _, _, q⟩ => exact q.elim
    | .cont, ⟨_, _, _, q⟩ => exact q.elim
end
section
variable {X : Cx} {k : Nat} {f : Addr} {fd : FuncData} {ps : List Str} {sp : Sp} {x : Str} {p pos : Pos} {e : Expr} {es : List Expr} {t : TA}
theorem pe_callG (F : FnG X.prog X.w X.K X.mg X.base k f fd ps sp) (hG : X.A.guards = some []) (hr : Room k X.A) (hg : Gl X x) (hm : X.mg x = some (.ref f)) (hk : PySem.W.keepIn X.K (.ref f) = true) (hb : Binds X.K fd ps [])
    (ha : PA X (e :: es) t) (hdb : (x == ("__debug__" : Str)) = false := by decide) (he : starEach (e :: es) X.env = (false, eval e X.env) :: starEach es X.env := by rfl) (hpl : (backTo pos (starEach es X.env)).any (·.1) = false := by rfl) :
    PE X (.Call (.Name x p) (e :: es) [] pos) (tCall sp [] E0 t) := by
  refine ⟨fun pins s σ H Q I h => wpAny_Call_Name_kw (ld_glob I hg hm ?_ hdb)⟩
  refine PySem.W.callWith_K (h₀ := X.base) I.ok.mod.kin hk (thn (ha.run pos pins s σ H _ I h) fun us s1 ⟨vs, H1, I1, r, q⟩ => ⟨I1.kIn, ?_⟩) he hpl
  have r2 : Vals (vs ++ []) (us ++ []) := r.append .nil
  have hl : (us ++ []).length = ps.length := by
    rw [← r2.length]
    exact F.lenG _ _ _ _ q
  refine wpAny_call (codeAny_mono (F.runG X.A X.stack s1 H1 ⟨us, []⟩ (us ++ []) (vs ++ []) Q E0 hG hr I1.env0 (hb s1 us I1.kIn hl) r2 q) fun z s' hq => ?_)
  match z, hq with
  | .ok (.ret u), hq => exact I1.after hq
end
/-! ### the law's end -/
theorem lawG {P : Program} {w : World} {K : PySem.W.Frag} {mg mb : Str → Option Value} {k : Nat} {fa a : Addr} {fd : FuncData} {x : Str} {sp : Sp} {s1 : Shared} {vs : List Value} {ns : List Int}
    (kin : K.In s1.heap) (hns : s1.heap.Ns mainGlobals mg) (hbn : s1.heap.Ns builtinsNs mb) (hbb : ∀ x : Str, x ≠ "__name__" → mb x = bootBuiltins x) (hlim : s1.heap.NoLimit) (hg : s1.gens = #[])
    (ha : s1.heap.get? a = some { cls := .type "list", data := .seq vs.toArray }) (hi : IntsAre vs ns) (hl : ns.length ≤ sizeLine) (hr : Room k callerA)
    (F : ∀ base : Heap, K.In base → base.Ns mainGlobals mg → FnG P w K mg base k fa fd [x] sp) (hbind : ∀ (s : Shared) (u : Value), BindsTo s fd ⟨[u], []⟩ [(x, u)])
    (hsp : ∀ H : Hp, Only H → SqL K H a (ns.map V.int) → sp [.ref a] H (fun v _ => v = .bl true) fun _ _ _ => False) :
    codeAny (model P w) callerA (.call (.ref fa) ⟨[.ref a], []⟩) (fun r s' => r = .ok (.ret (.bool true)) ∧ OldK s1.heap s'.heap ∧ s'.os = s1.os ∧ AllBare s'.gens) s1 := by
  have lv : vs.length = ns.length := hi.length
  have go : ∀ H : Hp, Only H → SqL K H a (ns.map V.int) → HOk P w H s1.heap → (∀ b, H b ≠ none → b = a ∧ K.lookup a = none) →
      codeAny (model P w) callerA (.call (.ref fa) ⟨[.ref a], []⟩) (fun r s' => r = .ok (.ret (.bool true)) ∧ OldK s1.heap s'.heap ∧ s'.os = s1.os ∧ AllBare s'.gens) s1 := by
    intro H hO hS hok hA
    have noD : ∀ {b : Addr} {m : Str → Option Value}, s1.heap.Ns b m → (hidT s1.heap H).Ns b m := by
      rintro b m ⟨o, es, ep, e, d, r⟩
      refine ⟨o, es, ep, hidT_get e ?_, d, r⟩
      cases z : H b with
      | none => rfl
      | some u =>
        obtain ⟨rfl, _⟩ := hA b (by rw [z]; exact fun y => nomatch y)
        rw [ha] at e
        cases e
        exact nomatch (show Data.seq vs.toArray _ = Data.dict es ep from d)
    have kb : K.In (hidT s1.heap H) := by
      intro b o e
      refine hidT_get (kin b o e) ?_
      cases z : H b with
      | none => rfl
      | some u =>
        obtain ⟨rfl, y⟩ := hA b (by rw [z]; exact fun y => nomatch y)
        rw [y] at e
        cases e
    obtain ⟨mc, l1, l2⟩ := hlim
    have e0 : Env0 P w K mg (hidT s1.heap H) callerA [] s1 H := ⟨rfl, ⟨kb, noD hns, ⟨mb, noD hbn, hbb⟩, mc, noD l1, l2⟩, fun b o e => of_hidT e, Nat.le_of_eq (hidT_size _ _), trivial, (fun b hb => absurd (show b ∈ ([] : List Addr) from hb) List.not_mem_nil), hok, AllBare.of_eq hg⟩
    refine codeAny_mono ((F _ kb (noD hns)).runG callerA [] s1 H ⟨[.ref a], []⟩ [.ref a] [.ref a] _ _ rfl hr e0 (hbind s1 (.ref a)) (.cons rfl .nil) (hsp H hO hS)) fun r s' h => ?_
    match r, h with
    | .ok (.ret u), ⟨v, H', os, bare, un, hok', r', q⟩ =>
      obtain rfl : v = .bl true := q
      obtain rfl : u = Value.bool true := r'
      refine ⟨rfl, OldK.of_keep fun b o e => ?_, os, bare⟩
      cases z : H b with
      | none => exact un.keep b o e z (fun y => absurd (show b ∈ ([] : List Addr) from y) List.not_mem_nil) (by simp)
      | some u =>
        rcases hO b with y | ⟨ob, xs, y⟩
        · rw [z] at y
          cases y
        · obtain ⟨e1, _⟩ := hok b _ y
          obtain ⟨e2, _⟩ := hok' b _ (un.frzs b ob _ y)
          rw [e] at e1
          cases e1
          exact e2
  cases hk : K.lookup a with
  | some o =>
    have e := kin a o hk
    rw [ha] at e
    cases e
    exact go (fun _ => none) (fun _ => .inl rfl) (.inr ⟨_, vs.toArray, _, hk, rfl, rfl, rfl, by rw [List.size_toArray, lv]; exact hl, by simpa using vals_ints hi⟩) (fun b u z => nomatch (show (none : Option HO) = some u from z)) (fun b z => absurd rfl z)
  | none =>
    have at0 : ∀ b, (if b = a then some (HO.frz { cls := .type "list", data := .seq vs.toArray } (.lst (ns.map V.int))) else none) ≠ none → b = a := fun b z => by
      by_cases hb : b = a
      · exact hb
      · exact absurd (if_neg hb) z
    refine go (fun b => if b = a then some (HO.frz { cls := .type "list", data := .seq vs.toArray } (.lst (ns.map V.int))) else none) (fun b => ?_) (.inl (.inr ⟨{ cls := .type "list", data := .seq vs.toArray }, if_pos rfl⟩)) (fun b u z => ?_) (fun b z => ⟨at0 b z, hk⟩)
    · by_cases hb : b = a
      · exact .inr ⟨_, _, if_pos hb⟩
      · exact .inl (if_neg hb)
    · have hb := at0 b (fun y => by cases y.symm.trans z)
      subst hb
      cases (if_pos rfl).symm.trans z
      exact ⟨ha, by rw [List.length_map]; exact hl, vs, _, vals_ints hi, ha⟩
theorem walkG {l : PySem.W.OpenLaw} {n k : Nat} {q : Program} {loose : List Str} {XP : (Str → Option Value) → Heap → Prop} {YP : World → Heap → Prop} {d : DefRec} {x : Str}
    (hn : l.most = some n) (hn2 : n ≤ sizeLine) (hdf : d.params.defaults = []) (hr : Room k callerA)
    (F : ∀ (w : World) (mg : Str → Option Value) (fa : Addr) (h : Heap), YP w h → h.Ns mainGlobals mg → mg d.name = some (.ref fa) →
      ∃ (K : PySem.W.Frag) (fd : FuncData) (sp : Sp), K.In h ∧ (∀ (s : Shared) (u : Value), BindsTo s fd ⟨[u], []⟩ [(x, u)]) ∧
        (∀ (H : Hp) (a : Addr) (ns : List Int), ns.length ≤ n → SqL K H a (ns.map V.int) → sp [.ref a] H (fun v _ => v = .bl true) fun _ _ _ => False) ∧
        ∀ base : Heap, K.In base → base.Ns mainGlobals mg → FnG l.prog w K mg base k fa fd [x] sp) :
    PySem.W.WalkO q loose XP YP l.row.toRowW d [] (fun f vs => PySem.call f vs) := by
  refine Att.attach_call hn hdf ?_
  intro w s0 s1 mg mb fa o pm cd doc a vs ns G Y ho hd hcd hmg hobj hints hlen hg
  obtain ⟨K, fd, sp, kin, hb, hsp, hF⟩ := F w mg fa _ Y G.T.g hmg
  exact lawG kin G.T.g G.T.b G.T.builtins G.T.nolimit hg hobj hints (Nat.le_trans hlen hn2) hr hF hb fun H _ hS => hsp H a ns hlen hS
/-! ### repr of data -/
def rReprD (K : PySem.W.Frag) : List V → Hp → VK → Prop := fun xs H Q => ∃ v d, xs = [v] ∧ Dp K H v d ∧ d.showable = true ∧ d.hasDict = false ∧ d.depth ≤ 60 ∧ d.shown.length ≤ sizeLine ∧ Q (.str d.shown) H
theorem call_reprD {X : Cx} {k : Nat} (hr : Room k X.A) (hG : X.A.guards = some []) : CallR X (.builtin "repr") (rReprD X.K) := by
  intro pins s σ H xs us Q I r h
  obtain ⟨v, d, rfl, hd, h1, h2, h3, h4, q⟩ := h
  obtain ⟨u, rfl, ru⟩ := vals1 r
  obtain ⟨as, rd⟩ := Dp.reads I d v u hd ru
  have hu : X.A.units + (d.depth + 1) < cLine := by
    have z := hr.un
    omega
  have out : ∀ tk : Nat, EP X pins σ Q (.str d.shown s.toks) { s with toks := tk } := fun tk => ⟨.str _, H, I.tok _, ⟨_, rfl⟩, q⟩
  cases rd with
  | none => exact PySem.P.repr_of_none (by simpa only [PyData.shown] using out _)
  | bool b => exact PySem.P.repr_of_bool (by simpa only [PyData.shown] using out _)
  | int i t => exact PySem.P.repr_of_int (by simpa [PyData.showable] using h1) (by simpa only [PyData.shown] using out _)
  | str x t => exact PySem.P.repr_of_str (by simpa only [PyData.shown] using out _) (by simpa only [PyData.shown] using h4)
  | list e1 e2 e3 e4 => exact repr_of_reads' (.list e1 e2 e3 e4) h1 (PyData.noDict_hsm h2) hG hu (fun _ _ e => e) (fun h' u tk hk => ⟨.str _, H, I.kept hk, ⟨_, rfl⟩, q⟩) h4
  | tuple e1 e2 e3 e4 => exact repr_of_reads' (.tuple e1 e2 e3 e4) h1 (PyData.noDict_hsm h2) hG hu (fun _ _ e => e) (fun h' u tk hk => ⟨.str _, H, I.kept hk, ⟨_, rfl⟩, q⟩) h4
  | dict e1 e2 e3 e4 e5 => simp [PyData.hasDict] at h2
/-! ### how long a text of data is -/
def szL (w : Nat) : Nat → Nat
  | 0 => 48
  | k + 1 => 48 + w * (szL w k + 2)
theorem szL_le (w : Nat) : ∀ k, 48 ≤ szL w k
  | 0 => Nat.le_refl _
  | k + 1 => Nat.le_add_right _ _
theorem piled_le {m : Nat} : ∀ {ts : List Str}, (∀ t ∈ ts, t.length ≤ m) → piled ts ≤ ts.length * (m + 2)
  | [], _ => by simp [piled_nil]
  | t :: ts, h => by
    have h1 := h t (List.mem_cons_self ..)
    have h2 := piled_le (m := m) (ts := ts) fun u hu => h u (List.mem_cons_of_mem _ hu)
    rw [piled_cons, List.length_cons, Nat.succ_mul]
    omega
theorem listText_le {m : Nat} {ts : List Str} (h : ∀ t ∈ ts, t.length ≤ m) : (listText ts).length ≤ 40 + ts.length * (m + 2) := by
  have h1 := piled_le h
  rw [listText_eq_join]
  cases ts with
  | nil => exact Nat.le_trans (by decide) (Nat.le_add_right 40 _)
  | cons t ts =>
    have h2 := join_length_add (t :: ts) (fun z => nomatch z)
    have e : ((("[" : String) : Str) ++ Str.join ", " (t :: ts) ++ (("]" : String) : Str)).length = 1 + (Str.join ", " (t :: ts)).length + 1 := by
      rw [strLen_append, strLen_append]
      rfl
    omega
theorem tupleText_le {m : Nat} {ts : List Str} (h : ∀ t ∈ ts, t.length ≤ m) : (tupleText ts).length ≤ 40 + ts.length * (m + 2) := by
  have h1 := piled_le h
  unfold tupleText
  cases ts with
  | nil => exact Nat.le_trans (by decide) (Nat.le_add_right 40 _)
  | cons t ts =>
    have h2 := join_length_add (t :: ts) (fun z => nomatch z)
    rw [strLen_append, strLen_append]
    have e1 : (("(" : String) : Str).length = 1 := rfl
    have e2 : ((if (t :: ts).length == 1 then ",)" else ")" : String) : Str).length ≤ 2 := by split <;> decide
    omega
theorem shownAll_len : ∀ ds : List PyData, (PyData.shownAll ds).length = ds.length
  | [] => by simp [PyData.shownAll]
  | d :: ds => by simp [PyData.shownAll, shownAll_len ds]
theorem log40 {i : Int} (h : i.natAbs < 2 ^ 40) : i.natAbs.log2 < 41 := by
  by_cases z : i.natAbs = 0
  · rw [z]; decide
  · have := (Nat.log2_lt z).mpr h
    omega
mutual
theorem D.show {bs : List Addr} {H : Hp} {w : Nat} (hw : w ≤ 1000000) : ∀ {k : Nat} {v : V} {d : PyData}, D bs H w k v d → d.showable = true ∧ d.hasDict = false ∧ d.depth ≤ k ∧ d.shown.length ≤ szL w k
  | k, _, _, .non => by
    have := szL_le w k
    refine ⟨by simp [PyData.showable], by simp [PyData.hasDict], by simp [PyData.depth], ?_⟩
    simp only [PyData.shown]
    exact Nat.le_trans (by decide) this
  | k, _, _, .bl b => by
    have := szL_le w k
    refine ⟨by simp [PyData.showable], by simp [PyData.hasDict], by simp [PyData.depth], ?_⟩
    simp only [PyData.shown]
    exact Nat.le_trans (by cases b <;> decide) this
  | k, _, _, .int i h => by
    have := szL_le w k
    have z := log40 (i := i) (by omega)
    have y := int_text_length_le (k := 41) (by decide) z
    refine ⟨by simp only [PyData.showable, decide_eq_true_eq]; omega, by simp [PyData.hasDict], by simp [PyData.depth], ?_⟩
    simp only [PyData.shown]
    rw [PySem.ofString_length]
    omega
  | k, _, _, .str x h => by
    have := szL_le w k
    refine ⟨by simp [PyData.showable], by simp [PyData.hasDict], by simp [PyData.depth], ?_⟩
    simp only [PyData.shown]
    omega
  | k + 1, _, _, .lst (ds := ds) h n l t => by
    obtain ⟨a1, a2, a3, a4⟩ := DA.show hw t
    refine ⟨by simpa [PyData.showable] using a1, by simpa [PyData.hasDict] using a2, by simp only [PyData.depth]; omega, ?_⟩
    simp only [PyData.shown]
    have z := listText_le a4
    rw [shownAll_len, ← DA.len t] at z
    have y := Nat.mul_le_mul_right (szL w k + 2) l
    simp only [szL]
    omega
  | k + 1, _, _, .tup (ds := ds) h n l t => by
    obtain ⟨a1, a2, a3, a4⟩ := DA.show hw t
    refine ⟨by simpa [PyData.showable] using a1, by simpa [PyData.hasDict] using a2, by simp only [PyData.depth]; omega, ?_⟩
    simp only [PyData.shown]
    have z := tupleText_le a4
    rw [shownAll_len, ← DA.len t] at z
    have y := Nat.mul_le_mul_right (szL w k + 2) l
    simp only [szL]
    omega
theorem DA.show {bs : List Addr} {H : Hp} {w : Nat} (hw : w ≤ 1000000) : ∀ {k : Nat} {v : List V} {d : List PyData}, DA bs H w k v d → PyData.showableAll d = true ∧ PyData.hasDictAll d = false ∧ PyData.depthAll d ≤ k ∧ ∀ t ∈ PyData.shownAll d, t.length ≤ szL w k
  | k, _, _, .nil => ⟨by simp [PyData.showableAll], by simp [PyData.hasDictAll], by simp [PyData.depthAll], by simp [PyData.shownAll]⟩
  | k, _, _, .cons h t => by
    obtain ⟨a1, a2, a3, a4⟩ := D.show hw h
    obtain ⟨b1, b2, b3, b4⟩ := DA.show hw t
    refine ⟨by simp [PyData.showableAll, a1, b1], by simp [PyData.hasDictAll, a2, b2], by simp only [PyData.depthAll]; omega, ?_⟩
    intro u hu
    simp only [PyData.shownAll] at hu
    rcases List.mem_cons.mp hu with z | z
    · rw [z]; exact a4
    · exact b4 u z
end
theorem D.repr {K : PySem.W.Frag} {bs : List Addr} {H : Hp} {w k : Nat} {v : V} {d : PyData} {Q : VK} (x : D bs H w k v d) (hk : k ≤ 60) (hw : szL w k ≤ 16777216) (hw2 : w ≤ 1000000) (q : Q (.str d.shown) H) : rReprD K [v] H Q := by
  obtain ⟨a1, a2, a3, a4⟩ := x.show hw2
  exact ⟨v, d, rfl, x.dp, a1, a2, Nat.le_trans a3 hk, by rw [sizeLine_eq]; omega, q⟩
/-! ### a call by keywords alone; a walk over a list or a tuple -/
section
variable {X : Cx} {CX : CXT} {k n : Nat} {f : Addr} {fd : FuncData} {ps ks : List Str} {sp : Sp} {E : XK} {x : Str} {p pos : Pos} {kws : List Keyword} {tk : TA} {g : List Value → List Value → List Value} {gV : List V → List V → List V}
theorem pe_callK0 (F : FnOk X.prog X.w X.K X.mg X.base CX k f fd ps sp) (hr : Room k X.A) (hg : Gl X x) (hm : X.mg x = some (.ref f)) (hk : PySem.W.keepIn X.K (.ref f) = true) (hb : KBn X.K fd ps 0 ks g gV) (hx : Passes CX X E)
    (hkw : PK X kws tk) (hall : (backToKw pos (keywordEach kws X.env)).all (·.1.isSome) = true := by rfl) (hks : (backToKw pos (keywordEach kws X.env)).filterMap (·.1) = ks := by rfl)
    (hdb : (x == ("__debug__" : Str)) = false := by decide) (hpl : ((backTo pos (starEach [] X.env)).any (·.1) || (backToKw pos (keywordEach kws X.env)).any (·.1.isNone)) = false := by rfl) :
    PE X (.Call (.Name x p) [] kws pos) (tCallN 0 ks.length sp gV E tNil tk) := by
  refine ⟨fun pins s σ H Q I h => wpAny_Call_Name_kw (ld_glob I hg hm ?_ hdb)⟩
  refine PySem.W.callWith_KW0 (h₀ := X.base) I.ok.mod.kin hk hall (thn (hkw.run pos pins s σ H _ I h) fun ws s2 ⟨zs, H2, I2, rz, l1, l2, q2⟩ => ⟨I2.kIn, ?_⟩) hpl
  rw [hks]
  exact run_fnN (us := []) F hr hb hx I2 .nil rz l1 l2 q2
end
def sw2 {α : Type} : List α → List α
  | [a, b] => [b, a]
  | _ => []
theorem sw2_rel : ∀ {zs : List V} {ws : List Value}, Vals zs ws → Vals (sw2 zs) (sw2 ws)
  | _, _, .nil => .nil
  | _, _, .cons _ .nil => .nil
  | _, _, .cons a (.cons b .nil) => .cons b (.cons a .nil)
  | _, _, .cons _ (.cons _ (.cons _ _)) => .nil
def iSeq (K : PySem.W.Frag) (tl : TE) : TI := fun σ H R => tl σ H fun x H1 => ∃ a, x = .ref a ∧ (((∃ xs, SqL K H1 a xs) ∧ R (Itl K a) H1) ∨ ((∃ xs, SqT K H1 a xs) ∧ R (Itt K a) H1))
theorem pi_seq {X : Cx} {tg l : Expr} {tl : TE} (hl : PE X l tl) : PI X tg l (iSeq X.K tl) := by
  refine ⟨fun pins s σ H R I h => thn (hl.run pins s σ H _ I h) fun v s1 ⟨x, H1, I1, r1, a, e, q1⟩ => ?_⟩
  subst e
  obtain rfl : v = Value.ref a := r1
  have fp : ∀ b ∈ [s1.heap.objs.size], FpOk X pins H1 b := fun b hb => by
    obtain rfl : b = s1.heap.objs.size := by simpa using hb
    exact I1.fpOk (Nat.le_refl _) (I1.hok.fresh (Nat.le_refl _))
  rcases q1 with ⟨⟨xs, hq⟩, q⟩ | ⟨⟨xs, hq⟩, q⟩
  · obtain ⟨its, rv, p, hz⟩ := I1.list hq
    exact wpAny_pyIter_list p.isList ⟨s1.heap.objs.size, [s1.heap.objs.size], _, _, H1, rfl, I1.kept (t' := s1.toks) fun b o e => Heap.get?_push_of_some _ e, turn_list a _, ⟨_, Heap.get?_push_size _ rfl, rfl, rfl⟩, fp, q⟩
  · obtain ⟨its, rv, p, hz⟩ := I1.tuple hq
    exact wpAny_pyIter_tuple (show s1.heap.IsTuple a its.toArray from p) ⟨s1.heap.objs.size, [s1.heap.objs.size], _, _, H1, rfl, I1.kept (t' := s1.toks) fun b o e => Heap.get?_push_of_some _ e, turn_tuple a _, ⟨_, Heap.get?_push_size _ rfl, rfl, rfl⟩, fp, q⟩
end Sw

set_option maxHeartbeats 2000000
namespace Sw
open PySem PySem.Spec PyProof.Rows L2
/-! ### zip of two, each a list or a tuple -/
def SqK (k : Bool) (K : PySem.W.Frag) (H : Hp) (a : Addr) (xs : List V) : Prop := match k with
  | true => SqL K H a xs
  | false => SqT K H a xs
def itK (k : Bool) (h : Heap) (it a : Addr) (i : Nat) : Prop := match k with
  | true => h.IsListIter it a i
  | false => h.IsTupleIter it a i
def sqK (k : Bool) (h : Heap) (a : Addr) (its : Array Value) : Prop := match k with
  | true => h.IsList a its
  | false => h.IsTuple a its
def objK (k : Bool) (a : Addr) : Obj := match k with
  | true => { cls := .type "list_iterator", data := .fields #[.ref a, .int 0 0] }
  | false => { cls := .type "tuple_iterator", data := .fields #[.ref a, .int 0 0] }
theorem begK (k : Bool) (a : Addr) (its : Array Value) : Begins (.ref a) (objK k a) (fun h => sqK k h a its) := by
  cases k
  · exact begins_tuple a its
  · exact begins_list a its
theorem drawsK {prog : Program} {w : World} {A : Around} (k : Bool) (hh : A.handled = none) (it a : Addr) (hne : a ≠ it) (its : Array Value) : Draws prog w A it [it, a] its.size (fun i v => its[i]? = some v) (fun i h => itK k h it a i ∧ sqK k h a its) := by
  cases k
  · exact .tuple hh it a hne its
  · exact .list hh it a hne its
theorem itK_obj {k : Bool} {h : Heap} {it a : Addr} {i : Nat} (x : itK k h it a i) : ∃ o, h.get? it = some o ∧ ∀ v, o.data ≠ .cell v := by
  cases k <;> (obtain ⟨o, e, _, d⟩ := x; exact ⟨o, e, fun v q => by rw [d] at q; cases q⟩)
theorem itK_at {k : Bool} {h h' : Heap} {it a : Addr} {i : Nat} (x : itK k h it a i) (e : ∀ o, h.get? it = some o → h'.get? it = some o) : itK k h' it a i := by
  cases k
  · exact Heap.IsTupleIter.at x e
  · exact Heap.IsListIter.at x e
theorem sqK_lt {k : Bool} {h : Heap} {a : Addr} {its : Array Value} (x : sqK k h a its) : a < h.objs.size := by
  cases k
  · obtain ⟨o, e, _⟩ := x
    exact Heap.lt_size e
  · obtain ⟨o, e, _⟩ := x
    exact Heap.lt_size e
section
variable {X : Cx} {pins : List (Addr × Obj)} {σ : L2.St} {H : Hp} {s : Shared}
theorem seqK {k : Bool} {a : Addr} {xs : List V} (I : Inv X pins σ H s) (h : SqK k X.K H a xs) : ∃ its : List Value, Vals xs its ∧ sqK k s.heap a its.toArray := by
  cases k
  · obtain ⟨its, r, p, _⟩ := I.tuple h
    exact ⟨its, r, p⟩
  · obtain ⟨its, r, p, _⟩ := I.list h
    exact ⟨its, r, p.isList⟩
theorem injK {k : Bool} {a : Addr} {xs ys : List V} (I : Inv X pins σ H s) (h : SqK k X.K H a xs) (h' : SqK k X.K H a ys) : xs = ys := by
  cases k
  · exact I.tuple_inj h h'
  · exact I.list_inj h h'
end
def ItZ (ka kb : Bool) (K : PySem.W.Frag) (a b : Addr) : It :=
  ⟨fun i H => ∃ (xs ys : List V), SqK ka K H a xs ∧ SqK kb K H b ys ∧ i < xs.length ∧ i < ys.length,
    fun i H v H' => ∃ T x y, v = .ref T ∧ H T = none ∧ H' = upd H T (.tup [x, y]) ∧ (∀ xs, SqK ka K H a xs → xs[i]? = some x) ∧ ∀ ys, SqK kb K H b ys → ys[i]? = some y,
    fun i H => ∃ xs ys : List V, SqK ka K H a xs ∧ SqK kb K H b ys ∧ i = min xs.length ys.length⟩
theorem five {c z TI TO i1 i2 : Addr} {p : Prop} (h : c ∈ [z, TI, TO, i1, i2]) (h1 : c = z → p) (h2 : c = TI → p) (h3 : c = TO → p) (h4 : c = i1 → p) (h5 : c = i2 → p) : p := by
  have e : c = z ∨ c = TI ∨ c = TO ∨ c = i1 ∨ c = i2 := by simpa using h
  exact e.elim h1 fun e => e.elim h2 fun e => e.elim h3 fun e => e.elim h4 h5
theorem turnZ {P : Program} {w : World} {K : PySem.W.Frag} {elts : List Expr} {kk : Nat} {tpos : Pos} {ka kb : Bool} {a b z TI TO i1 i2 : Addr} (S : ZipSep2 z TI TO i1 i2 [i1, a] [i2, b]) (ne1 : a ≠ i1) (ne2 : b ≠ i2) :
    Turn P w K (.Tuple elts kk tpos) (ItZ ka kb K a b) [z, TI, TO, i1, i2] z (fun i h => IsZip h z TI TO .none ∧ IsTupOf2 h TI (.ref i1) (.ref i2) ∧ (∃ x y, IsTupOf2 h TO x y) ∧ itK ka h i1 a i ∧ itK kb h i2 b i) where
  mem := by simp
  obj := fun i h st c hc => by
    obtain ⟨hz, hTI, ⟨x, y, hTO⟩, h1, h2⟩ := st
    exact five hc (fun q => by rw [q]; exact ⟨_, hz, fun v q => nomatch q⟩) (fun q => by rw [q]; exact ⟨_, hTI, fun v q => nomatch q⟩) (fun q => by rw [q]; exact ⟨_, hTO, fun v q => nomatch q⟩) (fun q => by rw [q]; exact itK_obj h1) (fun q => by rw [q]; exact itK_obj h2)
  keep := fun i h h' st k => by
    obtain ⟨hz, hTI, ⟨x, y, hTO⟩, h1, h2⟩ := st
    exact ⟨k z (by simp) _ hz, k TI (by simp) _ hTI, ⟨x, y, k TO (by simp) _ hTO⟩, itK_at h1 (k i1 (by simp)), itK_at h2 (k i2 (by simp))⟩
  item := by
    intro X hP hw hK hc i pins s σ H E I hf st hg
    subst hP hw hK
    obtain ⟨hz, hTI, ⟨x0, y0, hTO⟩, h1, h2⟩ := st
    obtain ⟨xs, ys, hqx, hqy, lx, ly⟩ := hg
    obtain ⟨its, rv, p⟩ := seqK I hqx
    obtain ⟨its2, rv2, p2⟩ := seqK I hqy
    have l1 := rv.length
    have l2 := rv2.length
    have hh : X.A.in1.handled = none := I.ok.hd hc
    have gx : xs[i]? = some xs[i] := by simp [lx]
    have gy : ys[i]? = some ys[i] := by simp [ly]
    obtain ⟨u, hu, ru⟩ := rv.get gx
    obtain ⟨u2, hu2, ru2⟩ := rv2.get gy
    have zl : z < s.heap.objs.size := Heap.lt_size hz
    refine wpAny_pyNext_zipD2_item S (drawsK ka hh i1 a ne1 its.toArray) (drawsK kb hh i2 b ne2 its2.toArray) hz hTI hTO ⟨h1, p⟩ ⟨h2, p2⟩ (by simp; omega) (by simp; omega) fun x1 x2 h' tk e1 e2 z' TO' s1' s2' hT hsz hk => ?_
    obtain rfl : x1 = u := by
      have e1' : its.toArray[i]? = some x1 := e1
      rw [List.getElem?_toArray, hu] at e1'
      exact (Option.some.inj e1').symm
    obtain rfl : x2 = u2 := by
      have e2' : its2.toArray[i]? = some x2 := e2
      rw [List.getElem?_toArray, hu2] at e2'
      exact (Option.some.inj e2').symm
    refine ⟨_, rfl, wpAny_letOwnedTupleGo_zip (s := { s with heap := h', toks := tk }) z' fun h'' z'' sb => ?_⟩
    have sb2 : ∀ c, c ≠ z → h''.get? c = h'.get? c := fun c hcz => sb.2 c hcz
    have tup2 : h''.get? s.heap.objs.size = some { cls := .type "tuple", data := .seq #[x1, x2] } := (sb2 _ (Nat.ne_of_gt zl)).trans hT
    have new : ObjOk X.prog X.w (upd H s.heap.objs.size (.tup [xs[i], ys[i]])) h'' s.heap.objs.size (.tup [xs[i], ys[i]]) :=
      ⟨by show 2 ≤ sizeLine; decide, [x1, x2], .cons ru (.cons ru2 .nil), ⟨_, tup2, rfl, _, rfl⟩⟩
    have I1 : Inv X pins σ (upd H s.heap.objs.size (.tup [xs[i], ys[i]])) { s with heap := h'', toks := tk } := by
      refine I.turnedNew (t' := tk) (ch := [z, TI, TO, i1, i2]) (fun c o hb q => ?_) hf (Nat.le_refl _) new
      have nz : c ≠ z := fun e => hb (by simp [e])
      exact (sb2 c nz).trans (hk c o nz (fun e => hb (by simp [e])) (fun e => hb (by simp [e])) (fun e => hb (by simp [e])) q)
    refine ⟨.ref s.heap.objs.size, _, I1, rfl, ⟨_, xs[i], ys[i], rfl, I.hok.fresh (Nat.le_refl _), rfl, fun l hl => by rw [injK I hl hqx]; exact gx, fun l hl => by rw [injK I hl hqy]; exact gy⟩, ⟨z'', ?_, ⟨x1, x2, ?_⟩, ?_, ?_⟩, fun c hcm => ?_⟩
    · exact (sb2 _ S.TIz).trans (hk _ _ S.TIz S.TITO S.TIi1 S.TIi2 hTI)
    · exact (sb2 _ S.TOz).trans TO'
    · exact itK_at s1'.1 fun o q => (sb2 _ S.zi1.symm).trans q
    · exact itK_at s2'.1 fun o q => (sb2 _ S.zi2.symm).trans q
    · have lt : c < s.heap.objs.size := by
        obtain ⟨o1, g1, _⟩ := itK_obj h1
        obtain ⟨o2, g2, _⟩ := itK_obj h2
        exact five hcm (fun q => by rw [q]; exact zl) (fun q => by rw [q]; exact Heap.lt_size hTI) (fun q => by rw [q]; exact Heap.lt_size hTO) (fun q => by rw [q]; exact Heap.lt_size g1) (fun q => by rw [q]; exact Heap.lt_size g2)
      rw [upd_ne (Nat.ne_of_lt lt)]
      exact (hf c hcm).1
  done := by
    intro X hP hw hK hc i pins s σ H E I hf st hg
    subst hP hw hK
    obtain ⟨hz, hTI, ⟨x0, y0, hTO⟩, h1, h2⟩ := st
    obtain ⟨xs, ys, hqx, hqy, he⟩ := hg
    obtain ⟨its, rv, p⟩ := seqK I hqx
    obtain ⟨its2, rv2, p2⟩ := seqK I hqy
    have l1 := rv.length
    have l2 := rv2.length
    have hh : X.A.in1.handled = none := I.ok.hd hc
    refine wpAny_pyNext_zipD2_end S (drawsK ka hh i1 a ne1 its.toArray) (drawsK kb hh i2 b ne2 its2.toArray) hz hTI hTO ⟨h1, p⟩ ⟨h2, p2⟩ (by simp; omega) (by simp; omega) (by simp; omega) fun h' tk hk => ⟨rfl, ?_⟩
    refine I.turnedL (t' := tk) (ch := [z, TI, TO, i1, i2]) (fun c o hb q => ?_) hf
    exact hk c o (fun e => hb (by simp [e])) (fun e => hb (by simp [e])) (fun e => hb (by simp [e])) (fun e => hb (by simp [e])) q
  self := fun A i s Q E st h => wpAny_pyIter_zip st.1 h
theorem five_le {N c : Nat} (h : c ∈ [N + 4, N + 2, N + 3, N, N + 1]) : N ≤ c := by
  simp at h
  omega
def iZipS (K : PySem.W.Frag) (ta : TA) : TI := fun σ H R => ta σ H fun vs H1 => ∃ (a b : Addr) (ka kb : Bool) (xs ys : List V), vs = [.ref a, .ref b] ∧ SqK ka K H1 a xs ∧ SqK kb K H1 b ys ∧ R (ItZ ka kb K a b) H1
theorem pi_zipS {X : Cx} {e e2 : Expr} {ta : TA} {p pos tpos : Pos} {elts : List Expr} {kk : Nat} (hg : Gl X "zip") (hm : X.mg "zip" = none) (ha : PA X [e, e2] ta)
    (hs : starEach [e, e2] X.env = (false, eval e X.env) :: starEach [e2] X.env := by rfl) (hpl : (backTo pos (starEach [e2] X.env)).any (·.1) = false := by rfl) :
    PI X (.Tuple elts kk tpos) (.Call (.Name "zip" p) [e, e2] [] pos) (iZipS X.K ta) := by
  refine ⟨fun pins s σ H R I h => Call_ (ld_blt I hg hm PyProof.Rows.boot_zip (PyProof.Rows.callWith_type1 (thn (ha.run pos pins s σ H _ I h) fun us s1 ⟨vs, H1, I1, r1, q1⟩ => ?_) hs hpl))⟩
  obtain ⟨a, b, ka, kb, xs, ys, rfl, hqx, hqy, q⟩ := q1
  obtain ⟨u1, u2, rfl, ra, rb⟩ := vals2 r1
  cases (show u1 = Value.ref a from ra)
  cases (show u2 = Value.ref b from rb)
  obtain ⟨its, rv, pa⟩ := seqK I1 hqx
  obtain ⟨its2, rv2, pb⟩ := seqK I1 hqy
  have la := sqK_lt pa
  have lb := sqK_lt pb
  refine zip_begins2 (begK ka a its.toArray) (begK kb b its2.toArray) pa pb fun h' hz hTI hTO h1 h2 hsz hk => wpAny_pyIter_zip hz ?_
  have new5 : ∀ c ∈ [s1.heap.objs.size + 4, s1.heap.objs.size + 2, s1.heap.objs.size + 3, s1.heap.objs.size, s1.heap.objs.size + 1], FpOk X pins H1 c := fun c hcm => by
    have hle : s1.heap.objs.size ≤ c := five_le hcm
    exact I1.fpOk hle (I1.hok.fresh hle)
  have i1 : itK ka h' s1.heap.objs.size a 0 := by
    cases ka <;> exact ⟨_, h1, rfl, rfl⟩
  have i2 : itK kb h' (s1.heap.objs.size + 1) b 0 := by
    cases kb <;> exact ⟨_, h2, rfl, rfl⟩
  have S : ZipSep2 (s1.heap.objs.size + 4) (s1.heap.objs.size + 2) (s1.heap.objs.size + 3) s1.heap.objs.size (s1.heap.objs.size + 1) [s1.heap.objs.size, a] [s1.heap.objs.size + 1, b] := zip_sep2 (N := s1.heap.objs.size) (fp1 := [a]) (fp2 := [b]) (fun c hc => by rw [List.mem_singleton.mp hc]; exact la) (fun c hc => by rw [List.mem_singleton.mp hc]; exact lb)
  exact ⟨s1.heap.objs.size + 4, [s1.heap.objs.size + 4, s1.heap.objs.size + 2, s1.heap.objs.size + 3, s1.heap.objs.size, s1.heap.objs.size + 1], _, _, H1, rfl, I1.kept (t' := s1.toks) hk, turnZ S (Nat.ne_of_lt la) (Nat.ne_of_lt (Nat.lt_succ_of_lt lb)), ⟨hz, hTI, ⟨_, _, hTO⟩, i1, i2⟩, new5, q⟩
theorem walkZ {K : PySem.W.Frag} {a b : Addr} {ka kb : Bool} {xs ys : List V} {n : Nat} (hn : n = min xs.length ys.length) : Walk (ItZ ka kb K a b) n (fun H => SqK ka K H a xs ∧ SqK kb K H b ys) (YPair (fun i => xs[i]?) (fun i => ys[i]?)) := by
  subst hn
  refine ⟨fun i _ hi q => ⟨xs, ys, q.1, q.2, by omega, by omega⟩, fun _ q => ⟨xs, ys, q.1, q.2, rfl⟩, ?_⟩
  rintro i H v H' _ q ⟨T, x, y, h1, h2, h3, h4, h5⟩
  exact ⟨T, x, y, h1, h2, h3, h4 xs q.1, h5 ys q.2⟩
/-! ### rules by the written part's own name (within comprehensions) -/
section
variable {X : Cx} {K : PySem.W.Frag}
theorem kLen (h : X.K = K) : CallR X (.builtin "len") (fun xs H Q => ∃ x n, xs = [x] ∧ LenV K x H n ∧ Q (.int n) H) := by
  subst h
  exact call_len
theorem kIx (h : X.K = K) : IxR X (rIxL K) := by
  subst h
  exact ix_list
theorem kSl (h : X.K = K) : SlR X (rSlL K) := by
  subst h
  exact sl_list
theorem kTup (h : X.K = K) : CallR X (.type "tuple") (fun xs H Q => ∃ p ys, xs = [.ref p] ∧ ((SqL K H p ys ∧ ∀ l, H l = none → Q (.ref l) (upd H l (.tup ys))) ∨ (SqT K H p ys ∧ Q (.ref p) H))) := by
  subst h
  exact call_tuple_of
theorem kLst (h : X.K = K) : CallR X (.type "list") (fun xs H Q => ∃ p ys, xs = [.ref p] ∧ (SqL K H p ys ∨ SqT K H p ys) ∧ ∀ l, H l = none → Q (.ref l) (upd H l (.lst ys))) := by
  subst h
  exact call_list_of
theorem kIsi (h : X.K = K) : CallR X (.builtin "isinstance") (rIsi K) := by
  subst h
  exact call_isi
theorem kIsiT (h : X.K = K) : CallR X (.builtin "isinstance") (rIsiT K) := by
  subst h
  exact call_isiT
theorem kAll (h : X.K = K) (hc : X.calm = true) : CallR X (.builtin "all") (rAll K) := by
  subst h
  exact cr_all hc
theorem kSum (h : X.K = K) (hc : X.calm = true) : CallR X (.builtin "sum") (rSum K) := by
  subst h
  exact cr_sum hc
theorem kPiL {tg l : Expr} {tl : TE} (h : X.K = K) (hl : PE X l tl) : PI X tg l (iList K tl) := by
  subst h
  exact pi_list hl
end
/-! ### a truth or a number, and a number -/
def toI : V → Option Int
  | .int i => some i
  | .bl b => some (if b = true then 1 else 0)
  | _ => none
section
variable {X : Cx}
theorem op_addN : OpR X (binaryOp .Add) (fun x y H Q => ∃ i j, toI x = some i ∧ y = .int j ∧ Q (.int (i + j)) H) := by
  intro pins s σ H x y v u Q I rx ry h
  obtain ⟨i, j, e, rfl, q⟩ := h
  cases x with
  | int m =>
    cases e
    exact op_add pins s σ H _ _ v u Q I rx ry ⟨_, _, rfl, rfl, q⟩
  | bl b =>
    cases e
    obtain ⟨t, rfl⟩ := ry
    cases rx
    exact PySem.IntBool.add_bool_int ⟨.int _, H, I.tok _, ⟨_, rfl⟩, q⟩
  | _ => cases e
theorem op_subN : OpR X (binaryOp .Sub) (fun x y H Q => ∃ i j, toI x = some i ∧ y = .int j ∧ Q (.int (i - j)) H) := by
  intro pins s σ H x y v u Q I rx ry h
  obtain ⟨i, j, e, rfl, q⟩ := h
  cases x with
  | int m =>
    cases e
    exact op_sub pins s σ H _ _ v u Q I rx ry ⟨_, _, rfl, rfl, q⟩
  | bl b =>
    cases e
    obtain ⟨t, rfl⟩ := ry
    cases rx
    exact PySem.IntBool.sub_bool_int ⟨.int _, H, I.tok _, ⟨_, rfl⟩, q⟩
  | _ => cases e
theorem op_eqN : OpR X (compareOp .Eq) (fun x y H Q => ∃ i j, toI x = some i ∧ y = .int j ∧ Q (.bl (decide (i = j))) H) := by
  intro pins s σ H x y v u Q I rx ry h
  obtain ⟨i, j, e, rfl, q⟩ := h
  cases x with
  | int m =>
    cases e
    have z : decide (V.int i = V.int j) = decide (i = j) := by simp
    exact op_eq pins s σ H _ _ v u Q I rx ry ⟨rfl, by rw [z]; exact q⟩
  | bl b =>
    cases e
    obtain ⟨t, rfl⟩ := ry
    cases rx
    exact PySem.EqBoolInt.eq_bool_int ⟨.bl _, H, I, rfl, q⟩
  | _ => cases e
end
end Sw

set_option maxHeartbeats 2000000
namespace Sw
open PySem PySem.Spec PyProof.Rows L2
/-! ### an own object's own ==, !=, len, repr -/
section
variable {X : Cx} {k : Nat} {f C : Addr} {fd : FuncData} {ps : List Str} {sp : Sp}
/-- the def's run within a builtin's call -/
theorem run_at {A1 : Around} {pins : List (Addr × Obj)} {σ : L2.St} {H : Hp} {s : Shared} {Q : VK} {us : List Value} {vs : List V} (F : FnOk X.prog X.w X.K X.mg X.base CX0 k f fd ps sp) (hfr : A1.frames = X.A.frames) (hr : Room k A1) (hb : Binds X.K fd ps [])
    (I : Inv X pins σ H s) (r : Vals vs us) (h : sp vs H Q E0) : wpAny (model X.prog X.w) A1 (call (.ref f) us) (EP X pins σ Q) X.xe s := by
  have e := I.env0
  have e0 : Env0 X.prog X.w X.K X.mg X.base A1 X.stack s H := ⟨by rw [hfr]; exact e.frames, e.mod, e.bs, e.bsz, e.funs, e.frf, e.hok, e.bare⟩
  have hl : (us ++ []).length = ps.length := by
    rw [List.append_nil, ← r.length]
    exact F.len _ _ _ _ h
  have bd := hb s us I.kIn hl
  rw [List.append_nil] at bd
  refine wpAny_call (codeAny_mono (F.run A1 X.stack s H ⟨us, []⟩ us vs Q E0 hr e0 bd r h) fun z s' hq => ?_)
  match z, hq with
  | .ok (.ret u), hq => exact I.after hq
def rLenO (C : Addr) (sp : Sp) : List V → Hp → VK → Prop := fun xs H Q => ∃ a dx fs, xs = [.ref a] ∧ H a = some (.ins C dx fs) ∧ sp [.ref a] H (fun v H' => ∃ m : Int, v = .int m ∧ 0 ≤ m ∧ m < 2 ^ 63 ∧ Q (.int m) H') E0
theorem call_lenO (M : Meth X.K C "__len__" f) (F : FnOk X.prog X.w X.K X.mg X.base CX0 k f fd ps sp) (hr : Room (k + 1) X.A) (hb : Binds X.K fd ps []) : CallR X (.builtin "len") (rLenO C sp) := by
  intro pins s σ H xs us Q I r h
  obtain ⟨a, dx, fs, rfl, ha, h⟩ := h
  obtain ⟨u, rfl, ru⟩ := vals1 r
  cases (show u = Value.ref a from ru)
  obtain ⟨mA, J, _⟩ := ins_get I.hok ha
  obtain ⟨od, J, _⟩ := J.look
  obtain ⟨m, hF⟩ := I.fr
  refine PySem.W.len_K hF I.ok.mod.kin J M.1 M.fn (wpAny_mono (run_at (A1 := X.A.in1) F rfl hr.in1 hb I r h) (fun v s' hv => ?_) fun _ _ z => z)
  obtain ⟨v', H', I', rv, n, rfl, n0, n1, q⟩ := hv
  obtain ⟨t, rfl⟩ := rv
  exact ⟨⟨n0, n1⟩, .int n, H', I'.tok _, ⟨_, rfl⟩, q⟩
def rReprO (C : Addr) (sp : Sp) : List V → Hp → VK → Prop := fun xs H Q => ∃ a dx fs, xs = [.ref a] ∧ H a = some (.ins C dx fs) ∧ sp [.ref a] H (fun v H' => ∃ z : Str, v = .str z ∧ Q (.str z) H') E0
theorem call_reprO (M : Meth X.K C "__repr__" f) (F : FnOk X.prog X.w X.K X.mg X.base CX0 k f fd ps sp) (hr : Room (k + 1) X.A) (hb : Binds X.K fd ps []) : CallR X (.builtin "repr") (rReprO C sp) := by
  intro pins s σ H xs us Q I r h
  obtain ⟨a, dx, fs, rfl, ha, h⟩ := h
  obtain ⟨u, rfl, ru⟩ := vals1 r
  cases (show u = Value.ref a from ru)
  obtain ⟨mA, J, _⟩ := ins_get I.hok ha
  obtain ⟨od, J, _⟩ := J.look
  obtain ⟨m, hF⟩ := I.fr
  have hu : X.A.in1.units < cLine := by
    have z := hr.un
    show X.A.units + 1 < cLine
    omega
  refine PySem.W.repr_K hu hF I.ok.mod.kin J M.1 M.fn (wpAny_mono (run_at (A1 := X.A.in1) F rfl hr.in1 hb I r h) (fun v s' hv => ?_) fun _ _ z => z)
  obtain ⟨v', H', I', rv, n, rfl, q⟩ := hv
  obtain ⟨t, rfl⟩ := rv
  exact ⟨.str n, H', I', ⟨_, rfl⟩, q⟩
/-- what the other one's type is, as the comparison asks it -/
theorem tyx_looks {pins : List (Addr × Obj)} {σ : L2.St} {H : Hp} {s : Shared} {y : V} {u t : Value} (I : Inv X pins σ H s) (ry : RelV y u) (ty : TyX X.K H y t) : PySem.W.Looks (model X.prog X.w) s.heap (typeOf u) t := by
  obtain ⟨P, Z, p, _⟩ := kit_of I ry ty
  exact Z.ty _ _ I.kIn p
def rCmpO (K : PySem.W.Frag) (C : Addr) (sp : Sp) (g : Bool → Bool) : R2 := fun x y H Q => ∃ a dx fs t, x = .ref a ∧ H a = some (.ins C dx fs) ∧ TyX K H y t ∧ PySem.W.notFirst K C t = true ∧ sp [x, y] H (fun v H' => ∃ b : Bool, v = .bl b ∧ Q (.bl (g b)) H') E0
theorem op_eqO (M : Meth X.K C "__eq__" f) (F : FnOk X.prog X.w X.K X.mg X.base CX0 k f fd ps sp) (hr : Room (k + 1) X.A) (hb : Binds X.K fd ps []) : OpR X (compareOp .Eq) (rCmpO X.K C sp id) := by
  intro pins s σ H x y v u Q I rx ry h
  obtain ⟨a, dx, fs, t, rfl, ha, ty, hn, h⟩ := h
  cases (show v = Value.ref a from rx)
  obtain ⟨mA, J, _⟩ := ins_get I.hok ha
  obtain ⟨od, J, _⟩ := J.look
  obtain ⟨m, hF⟩ := I.fr
  have hu : X.A.units < cLine := by
    have z := hr.un
    omega
  show wpAny (model X.prog X.w) X.A (richCompare .Eq (.ref a) u) _ _ s
  refine PySem.W.cmp_K (op := .Eq) hu hF I.ok.mod.kin J (tyx_looks I ry ty) hn M.1 M.fn (wpAny_mono (run_at (A1 := X.A) F rfl (hr.mono (Nat.le_succ _)) hb I (.cons rx (.cons ry .nil)) h) (fun v s' hv => ?_) fun _ _ z => z)
  obtain ⟨v', H', I', rv, b, rfl, q⟩ := hv
  cases (show v = Value.bool b from rv)
  exact ⟨.bl b, H', I', rfl, q⟩
theorem ne_bind (self : Value) : bindSpecial (.builtin "object.__ne__") self = pure (.builtin "object.__ne__", [self]) :=
  (Slot.of (T := "object") (name := "__ne__") (owner := "object") (n := "__ne__") (by rw [typeLookup_type, builtinLookup_eq_fast]; kernel_rfl) (by decide +kernel) (by decide +kernel) (by decide +kernel) (.inl (by decide +kernel)) (by rw [isSubtype_type]; kernel_rfl)).bind self
theorem op_neO (M : Meth X.K C "__eq__" f) (hne : PySem.W.findIn X.K (.ref C) "__ne__" = some (some (.builtin "object.__ne__"))) (hob : PySem.W.subIn X.K (.ref C) (.type "object") = some true)
    (F : FnOk X.prog X.w X.K X.mg X.base CX0 k f fd ps sp) (hr : Room (k + 1) X.A) (hb : Binds X.K fd ps []) : OpR X (compareOp .NotEq) (rCmpO X.K C sp not) := by
  intro pins s σ H x y v u Q I rx ry h
  obtain ⟨a, dx, fs, t, rfl, ha, ty, hn, h⟩ := h
  cases (show v = Value.ref a from rx)
  obtain ⟨mA, J, _⟩ := ins_get I.hok ha
  obtain ⟨od, J, _⟩ := J.look
  obtain ⟨m, hF⟩ := I.fr
  have lb := tyx_looks I ry ty
  have Xk := I.kIn
  have hu : X.A.units + 1 < cLine := by
    have z := hr.un
    omega
  show wpAny (model X.prog X.w) X.A (richCompare .NotEq (.ref a) u) _ _ s
  -- object.__ne__ asks __eq__
  have inner : wpAny (model X.prog X.w) X.A.in1 (Builtin.«object.__ne__» ⟨[.ref a, u], []⟩) (fun fin s' => ∃ c : Bool, fin = .done (.ret (.bool c)) ∧ EP X pins σ Q (.bool c) s') X.xe s := by
    unfold Builtin.«object.__ne__»
    refine wpAny_bind (wpAny_of_eq (a := (Value.ref a, [u])) rfl ?_)
    show wpAny _ _ (cRoomFor _ _ >>= _) _ _ s
    refine wpAny_bind (wpAny_cRoomFor hu ?_)
    refine wpAny_bind (m := callSpecialIfBound? (.ref a) (Str.ofString "__eq__") [u]) (PySem.W.ifBound_K Xk J M.1 M.fn (wpAny_mono (run_at (A1 := X.A.in1) F rfl hr.in1 hb I (.cons rx (.cons ry .nil)) h) (fun v s' hv => ?_) fun _ _ z => z))
    obtain ⟨v', H', I', rv, b, rfl, q⟩ := hv
    cases (show v = Value.bool b from rv)
    refine wpAny_bind (wpAny_truthy_bool (wpAny_pure ⟨_, rfl, .bl (!b), H', I', rfl, q⟩))
  have slot : Slot "object" "__ne__" "object.__ne__" := Slot.of (T := "object") (name := "__ne__") (owner := "object") (n := "__ne__") (by rw [typeLookup_type, builtinLookup_eq_fast]; kernel_rfl) (by decide +kernel) (by decide +kernel) (by decide +kernel) (.inl (by decide +kernel)) (by rw [isSubtype_type]; kernel_rfl)
  have chk : ∀ (M0 : Model) (A0 : Around) (E1 : Value → Shared → Prop) (Q1 : Unit → Shared → Prop), Q1 () s → wpAny M0 A0 (checkBuiltinCall "object.__ne__" ⟨[.ref a, u], []⟩) Q1 E1 s := by
    intro M0 A0 E1 Q1 hq
    simp only [checkBuiltinCall, PySem.F.cmpKind_ne, PySem.F.cmpSplit_ne]
    refine wpAny_bind ?_
    unfold isInstance
    refine wpAny_bind (J.type.here ((PySem.W.looks_subIn Xk hob).here ?_))
    have ha2 := PySem.F.cmpArgs_ne (.ref a) u
    cases hsig : Manifest.signature? "object.__ne__" with
    | none => exact wpAny_pure hq
    | some sig =>
      simp only [argsOk, hsig] at ha2
      have h2 : Bind.checkArgs "object.__ne__" sig ⟨[.ref a, u], []⟩ = pure () := ha2
      show wpAny M0 A0 (Bind.checkArgs "object.__ne__" sig ⟨[.ref a, u], []⟩) Q1 E1 _
      rw [h2]
      exact wpAny_pure hq
  have callne : wpAny (model X.prog X.w) X.A (call (.builtin "object.__ne__") [.ref a, u]) (fun r s' => ∃ c : Bool, r = .bool c ∧ EP X pins σ Q (.bool c) s') X.xe s := by
    refine wpAny_call (codeAny_call_builtin slot.plain PySem.F.cmpEntry_ne (chk _ _ _ _ ?_))
    refine wpAny_mono inner (fun fin s' hv => ?_) fun _ _ z => z
    obtain ⟨c, rfl, q⟩ := hv
    exact ⟨c, rfl, q⟩
  have one : wpAny (model X.prog X.w) X.A (tryCompare (.ref a) "__ne__" u) (fun r s' => ∃ z, r = some z ∧ EP X pins σ Q z s') X.xe s := by
    unfold tryCompare
    refine wpAny_bind ?_
    simp only [callSpecialIfBound?, bindSpecialIfBound?]
    refine wpAny_holding (wpAny_bind (wpAny_bind (wpAny_bind (J.type.here ((PySem.W.looks_findIn Xk hne).here ?_)))))
    refine wpAny_bind (wpAny_askSetting (wpAny_ite ?_))
    have tell : ∀ (g : List Value), g = [.ref a] → wpAny (model X.prog X.w) X.A (call (.builtin "object.__ne__") (g ++ [u]) >>= fun v => pure (some v)) (fun r s' => wpAny (model X.prog X.w) X.A (match r with | some .notImplemented | none => pure none | some v => pure (some v)) (fun r s' => ∃ z, r = some z ∧ EP X pins σ Q z s') X.xe s') X.xe s := fun g hg => by
      subst hg
      refine wpAny_bind (wpAny_mono callne (fun v s' hv => ?_) fun _ _ z => z)
      obtain ⟨c, rfl, q⟩ := hv
      exact wpAny_pure (wpAny_pure ⟨_, rfl, q⟩)
    simp only [ne_bind]
    split
    · exact wpAny_bind (wpAny_pure (wpAny_pure (tell _ rfl)))
    · exact wpAny_tryCatch (wpAny_bind (wpAny_pure (wpAny_pure (tell _ rfl))))
  unfold richCompare
  simp only [oneThing_ref]
  refine wpAny_holding (wpAny_bind (wpAny_cRoomFor (by omega) ?_))
  refine wpAny_bind (J.type.here (wpAny_bind (lb.here ?_)))
  split
  · rename_i q
    have e : PySem.W.subIn X.K t (.ref C) = some false := by
      rcases Bool.or_eq_true_iff.mp hn with e | e
      · rw [beq_iff_eq.mp e] at q
        simp at q
      · exact beq_iff_eq.mp e
    refine wpAny_bind ((PySem.W.looks_subIn Xk e).here ?_)
    simp only [Bool.false_eq_true, if_false]
    refine wpAny_bind (wpAny_mono one (fun r s' z => ?_) fun _ _ e => e)
    obtain ⟨v, rfl, hq⟩ := z
    exact wpAny_pure hq
  · refine wpAny_bind (wpAny_pure ?_)
    simp only [Bool.false_eq_true, if_false]
    refine wpAny_bind (wpAny_mono one (fun r s' z => ?_) fun _ _ e => e)
    obtain ⟨v, rfl, hq⟩ := z
    exact wpAny_pure hq
end
end Sw

set_option maxHeartbeats 4000000
namespace Sw
open PySem PySem.Spec PyProof.Rows L2
/-! ### a tuple read backwards -/
section
variable {prog : Program} {w : World} {A : Around} {E : Value → Shared → Prop} {s : Shared}
theorem applied_rev {sl : Addr} {vl vu vs : Value} {n : Nat} {Q : Int × Int × Nat → Shared → Prop} (hs : s.heap.IsSliceOf sl vl vu vs) (pl : IsPart vl none) (pu : IsPart vu none) (ps : IsPart vs (some (-1)))
    (h : Q ((n : Int) - 1, -1, n) s) : wpAny (model prog w) A (Builtin.Slice.sliceApplied (.ref sl) (pure (n : Int))) Q E s := by
  obtain ⟨os, g1, _, g3⟩ := id hs
  unfold Builtin.Slice.sliceApplied Builtin.Slice.sliceFields
  refine wpAny_bind (wpAny_bind (wpAny_field g1 g3 (x := vl) rfl (wpAny_bind (wpAny_field g1 g3 (x := vu) rfl (wpAny_bind (wpAny_field g1 g3 (x := vs) rfl (wpAny_pure ?_)))))))
  refine wpAny_bind (HT.slicePart_ ps ?_)
  show wpAny _ _ (if ((-1 : Int) == 0) = true then _ else _) _ _ s
  rw [if_neg (by decide)]
  refine wpAny_bind (HT.slicePart_ pl (wpAny_bind (HT.slicePart_ pu (wpAny_bind (wpAny_pure ?_)))))
  have e : Builtin.Slice.slicePlaces ((n : Int) - 1) (-1) (-1) = n := by
    unfold Builtin.Slice.slicePlaces
    rw [if_neg (by decide)]
    by_cases c : n = 0
    · subst c
      rfl
    · rw [if_pos (by omega), show (- -1 : Int) = 1 by decide, Int.ediv_one]
      omega
  show wpAny _ _ (pure ((n : Int) - 1, (-1 : Int), Builtin.Slice.slicePlaces ((n : Int) - 1) (-1) (-1))) _ _ s
  rw [e]
  exact wpAny_pure h
theorem pick_rev (xs : Array Value) : ((List.range xs.size).filterMap fun (k : Nat) => xs[((xs.size : Int) - 1 + (k : Int) * -1).toNat]?).toArray = xs.toList.reverse.toArray := by
  have e : (List.range xs.size).filterMap (fun (k : Nat) => xs[((xs.size : Int) - 1 + (k : Int) * -1).toNat]?) = ((List.range xs.size).map fun k => xs.size - 1 - k).filterMap (xs[·]?) := by
    rw [List.filterMap_map]
    congr 1
    funext k
    have : ((xs.size : Int) - 1 + (k : Int) * -1).toNat = xs.size - 1 - k := by omega
    rw [this]
    rfl
  rw [e, PySem.W.krv_range, List.filterMap_reverse, PySem.W.krv_all]
theorem getItem_rev {t sl : Addr} {items : Array Value} {vl vu vs : Value} {Q : Value → Shared → Prop} (ht : IsTup s.heap t items) (hs : s.heap.IsSliceOf sl vl vu vs) (pl : IsPart vl none) (pu : IsPart vu none) (ps : IsPart vs (some (-1)))
    (h : Q (.ref s.heap.objs.size) { s with heap := s.heap.push { cls := .type "tuple", data := .seq items.toList.reverse.toArray } }) (hz : items.size ≤ sizeLine) : wpAny (model prog w) A (getItem (.ref t) (.ref sl)) Q E s := by
  have hz2 : sizeOk (.seq items.toList.reverse.toArray) := by
    show items.toList.reverse.toArray.size ≤ sizeLine
    rw [List.size_toArray, List.length_reverse, Array.length_toList]
    exact hz
  obtain ⟨os, g1, g2, g3⟩ := id hs
  have hT : s.TypeIs (.ref sl) "slice" := ⟨os, g1, g2⟩
  unfold getItem
  try with_reducible refine wpAny_holding ?_
  first | refine wpAny_bind (wpAny_pure ?_) | skip
  refine wpAny_bind (wpAny_sequenceKey ht.typeIs (by decide) ?_)
  refine wpAny_bind (wpAny_callSpecial?_slot (name := Str.ofString "__getitem__") ht.typeIs PyProof.Rows.slot_tuple_getitem (wpAny_call_entry PyProof.Rows.slot_tuple_getitem ht.typeIs PyProof.Rows.entry_tuple_getitem ?_ (PyProof.Rows.args_tuple_getitem _ _)))
  show wpAny _ _ (Builtin.Tuple.tupleItemsOf (.ref t) >>= _) _ _ s
  refine wpAny_bind (PyProof.Rows.tupleItemsOf_ ht (wpAny_bind (wpAny_typeOf hT ?_)))
  rw [if_pos (by decide)]
  refine wpAny_bind (applied_rev hs pl pu ps ?_)
  have no : ¬ ((((items.size : Int) - 1) == 0 && (-1 : Int) == 1 && items.size == items.size) = true) := by simp
  show wpAny _ _ (if (((items.size : Int) - 1) == 0 && (-1 : Int) == 1 && items.size == items.size) = true then _ else _) _ _ s
  rw [if_neg no, pick_rev]
  first
    | exact wpAny_bind (m := Builtin.Tuple.tupleExact _) (wpAny_newObj_type (wpAny_pure ⟨_, rfl, wpAny_pure h⟩) hz2)
    | exact wpAny_bind (wpAny_bind (m := Builtin.Tuple.tupleExact _) (wpAny_newObj_type (wpAny_pure ⟨_, rfl, wpAny_pure h⟩) hz2))
    | exact wpAny_bind (wpAny_bind (m := Builtin.Tuple.tupleExact _) (wpAny_newObj_type (wpAny_pure (wpAny_pure ⟨_, rfl, wpAny_pure h⟩)) hz2))
end
section
variable {X : Cx}
def tRevT (K : PySem.W.Frag) (te : TE) : TE := fun σ H Q => te σ H fun x H1 => ∃ a xs, x = .ref a ∧ SqT K H1 a xs ∧ ∀ p, H1 p = none → Q (.ref p) (upd H1 p (.tup xs.reverse))
theorem pe_revT {e : Expr} {te : TE} {k : Nat} {p1 p2 p3 pos : Pos} (he : PE X e te) : PE X (.Subscript e (.Slice none none (some (.UnaryOp .USub (.Constant (.int 1) k p1) p2)) p3) pos) (tRevT X.K te) := by
  refine ⟨fun pins s σ H Q I h => Subscript_ (thn (he.run pins s σ H _ I h) fun v s1 ⟨x, H1, I1, r1, q1⟩ => ?_)⟩
  obtain ⟨a, xs, rfl, hx, q⟩ := q1
  cases r1
  have hm : PO X (some (.UnaryOp .USub (.Constant (.int 1) k p1) p2)) (tPart (tUn (rU fun i => .int (-i)) (tC (.int 1)))) := po_some (pe_un un_neg pe_int)
  refine wpAny_Slice (thn (po_none.run pins s1 σ H1 (fun o H2 => o = none ∧ H2 = H1) I1 ⟨rfl, rfl⟩) fun vl s2 ⟨l, H2, I2, pl, el, e2⟩ => ?_)
  subst el e2
  refine thn (po_none.run pins s2 σ H2 (fun o H3 => o = none ∧ H3 = H2) I2 ⟨rfl, rfl⟩) fun vu s3 ⟨u, H3, I3, pu, eu, e3⟩ => ?_
  subst eu e3
  refine thn (hm.run pins s3 σ H3 (fun o H4 => o = some (-1) ∧ H4 = H3) I3 ⟨1, rfl, -1, rfl, rfl, rfl⟩) fun vm s4 ⟨o, H4, I4, pm, eo, e4⟩ => ?_
  subst eo e4
  have I5 : Inv X pins σ H4 { s4 with heap := s4.heap.push { cls := .type "slice", data := .fields #[vl, vu, vm] } } := I4.kept (t' := s4.toks) fun b ob q => Heap.get?_push_of_some _ q
  obtain ⟨its, r, ht, hz⟩ := I5.tuple hx
  have hlen := r.length
  show wpAny (model X.prog X.w) X.A (subscriptTail e (.Slice none none (some (.UnaryOp .USub (.Constant (.int 1) k p1) p2)) p3) (.ref a) (.ref s4.heap.objs.size)) (EP X pins σ Q) X.xe { s4 with heap := s4.heap.push { cls := .type "slice", data := .fields #[vl, vu, vm] } }
  refine tail_any (ops := [.ref a, .ref s4.heap.objs.size]) ht.typeIs (PyProof.Rows.slot_tuple_getitem.lookup) ?_ (by with_unfolding_all rfl)
  refine getItem_rev ht (Heap.IsSliceOf.new _ vl vu vm) pl pu pm ?_ (by rw [List.size_toArray]; omega)
  refine ⟨.ref _, _, I5.laid (t' := s4.toks) (o := .tup xs.reverse) (fun b ob q => Heap.get?_push_of_some _ q) (Nat.le_refl _) ?_, rfl, q _ (I5.hok.fresh (Nat.le_refl _))⟩
  exact ⟨by rw [List.length_reverse]; exact hz, _, r.reverse, IsTup.new _ _⟩
end
/-! ### set(xs) of a list of ints -/
abbrev bare (w : World) : Obj := { cls := .type "set", dict := none, data := .set #[] 0 (.fresh 0 0 (!w.params.followText "set-order")) }
section
variable {P : Program} {w : World} {A : Around} {E : Value → Shared → Prop} {s : Shared}
theorem call_set_lst {x : Addr} {us : Array Value} (ns : List Int) {Q : Value → Shared → Prop} (calm : A.handled = none) (hx : s.heap.IsList x us) (hi : IntsAre us.toList ns) (room : ns.length + 1 < scanBound)
    (q : ∀ (h' : Heap) (tk c : Nat), SetR w h' s.heap.objs.size (fun j => decide (j ∈ ns)) c → c ≤ ns.length → (∀ b o, s.heap.get? b = some o → h'.get? b = some o) → Q (.ref s.heap.objs.size) { s with heap := h', toks := tk }) :
    wpAny (model P w) A (call (.type "set") [.ref x]) Q E s := by
  have len : us.size = ns.length := by
    have z := IntsAre.length hi
    rwa [Array.length_toList] at z
  obtain ⟨mc, mt, hmr⟩ := F.called_set.mro
  have hmd := F.called_set.made
  have hsb := F.called_set.sub
  refine wpAny_call (codeAny_of_tree (?_ : wpAny _ _ (callAny (.type "set") _) _ _ _))
  refine wpAny_pure ⟨Code.quiet_builtin _ (by decide +kernel), codeAny_builtin F.entry_type_call ?_⟩
  rw [Around.under_plain (weight_type_call_type "set" [.ref x] []) rfl]
  have k1 := F.called_set.notType
  have k2 := F.called_set.canCreate
  have k3 := F.typeCall_set_1 (.ref x)
  repeat (any_goals (first | assumption | wp_step))
  refine codeAny_mono (code_set_led1 (.ref x) (E := E) (Q₁ := fun ob s1 => ob = .ref s.heap.objs.size ∧ s1 = { s with heap := s.heap.push (bare w) }) ⟨rfl, rfl⟩) fun r s1 hr => ?_
  cases r with
  | error e => exact hr
  | ok fl =>
    cases fl with
    | ret ob =>
      obtain ⟨rfl, rfl⟩ := hr
      have at0 : (s.heap.push (bare w)).get? s.heap.objs.size = some (bare w) := Heap.get?_push_size _ rfl
      have ty0 : Shared.TypeIs { s with heap := s.heap.push (bare w) } (.ref s.heap.objs.size) "set" := ⟨_, at0, rfl⟩
      have k4 := F.called_set.init.lookup
      have k5 := F.called_set.init.bind (.ref s.heap.objs.size)
      repeat (any_goals (first | assumption | wp_step))
      refine codeAny_mono (codeAny_call_builtin (R := wants (fun r s2 => r = .none ∧ ∃ h' tk c, s2 = { s with heap := h', toks := tk } ∧ SetR w h' s.heap.objs.size (fun j => decide (j ∈ ns)) c ∧ c ≤ ns.length ∧ (∀ b o, s.heap.get? b = some o → h'.get? b = some o)) E) F.called_set.init.plain F.entry_set_init (check_set_init_1 ty0 ?_)) fun r2 s2 hr2 => ?_
      · obtain ⟨⟨oc, od, oda, osl⟩, hox, hc, nl, hd⟩ := hx
        simp only at hc hd
        subst hc hd
        have hox2 : (s.heap.push (bare w)).get? x = some { cls := .type "list", dict := od, data := .seq us nl, slots := osl } := Heap.get?_push_of_some _ hox
        have k6 := F.sub_list_set
        have k7 := F.sub_list_frozenset
        have k8 : (Value.type "list" == Value.type "dict") = false := by decide
        have hx2 : (s.heap.push (bare w)).IsList x us := ⟨_, hox2, rfl, nl, rfl⟩
        unfold Builtin.«set.__init__» noKeywords Builtin.Frozenset.updateFrom
        generalize hPI : pyIter = PI
        wp_walk
        subst hPI
        refine wpAny_pyIter_list hx2 (wpAny_bind (wpAny_runValue ?_))
        have lx : x < s.heap.objs.size := Heap.lt_size hox
        have calm3 : A.in1.in1.in1.handled = none := by simp [calm]
        have sz1 : (s.heap.push (bare w)).objs.size = s.heap.objs.size + 1 := Heap.size_push ..
        have ne1 : x ≠ (s.heap.push (bare w)).objs.size := by
          rw [sz1]
          exact Nat.ne_of_lt (Nat.lt_succ_of_lt lx)
        have off : s.heap.objs.size ∉ [(s.heap.push (bare w)).objs.size, x] := by
          rw [sz1]
          exact fun m => (List.mem_cons.mp m).elim (fun z => absurd z (Nat.ne_of_lt (Nat.lt_succ_self _))) fun m => absurd (List.mem_singleton.mp m) (Nat.ne_of_gt lx)
        have vals : ∀ (i : Nat) (v : Value), us[i]? = some v → ∃ k t, ns[i]? = some k ∧ v = .int k t := fun i v hv => by
          have li : i < ns.length := by
            rw [← len]
            exact (Array.getElem?_eq_some_iff.mp hv).1
          obtain ⟨t, e⟩ := PyProof.Rows.IntsAre.int_at hi i v (by rwa [Array.getElem?_toList])
          exact ⟨ns[i], t, List.getElem?_eq_getElem li, by rw [e, List.getD_eq_getElem?_getD, List.getElem?_eq_getElem li]; rfl⟩
        refine set_update_ints ((Walks.list calm3 _ x ne1 us).toS) s.heap.objs.size off ns len room vals (us.size - 0) 0 _ (by omega) (Nat.zero_le _) ⟨⟨_, Heap.get?_push_size _ rfl, rfl, rfl⟩, (hx2.push _)⟩ ⟨0, Nat.le_refl 0, setR_new_at (Heap.get?_push_of_some _ (Heap.get?_push_size _ rfl))⟩ ?_
        intro s' c' mv hc' R'
        obtain ⟨h', g2, d', tk', os'⟩ := s'
        have eg : g2 = s.gens := mv.gens
        have ed : d' = s.drawn := mv.drawn
        have eo : os' = s.os := mv.os
        subst eg ed eo
        show wpAny _ _ _ _ _ _
        refine wpAny_pure (?_ : wpAny _ _ (ret Value.none) _ _ _)
        rw [len] at hc'
        refine wpAny_pure ⟨rfl, h', tk', c', rfl, R', hc', fun b o e => ?_⟩
        have lb : b < s.heap.objs.size := Heap.lt_size e
        refine mv.heap b o ?_ (Heap.get?_push_of_some _ (Heap.get?_push_of_some _ e))
        rw [sz1]
        exact fun m => (List.mem_cons.mp m).elim (Nat.ne_of_lt lb) fun m => absurd (List.mem_singleton.mp m) (Nat.ne_of_lt (Nat.lt_succ_of_lt lb))
      · cases r2 with
        | error e => exact hr2
        | ok fl2 =>
          cases fl2 with
          | ret r =>
            obtain ⟨rfl, h', tk, c', rfl, R', hc', kk⟩ := hr2
            repeat (any_goals (first | assumption | wp_step))
            exact q _ _ _ R' hc' kk
          | _ => first | exact hr2 | exact hr2.elim | cases hr2
    | _ => first | exact hr | exact hr.elim | cases hr
end
section
variable {X : Cx}
def rSetLst (K : PySem.W.Frag) (w : World) : List V → Hp → VK → Prop := fun xs H Q => ∃ (l : Addr) (ns : List Int), xs = [.ref l] ∧ SqL K H l (ns.map V.int) ∧ ns.length < 64 ∧ ∀ (p : Addr) (c : Nat), H p = none → c ≤ ns.length → Q (.ref p) (upd H p (SetO w p (fun j => decide (j ∈ ns)) c))
theorem cr_setL (hc : X.calm = true) : CallR X (.type "set") (rSetLst X.K X.w) := by
  intro pins s σ H xs us Q I r h
  obtain ⟨l, ns, rfl, hq, l64, q⟩ := h
  rw [Vals.ref1 r]
  obtain ⟨its, rv, p, hz⟩ := I.list hq
  refine call_set_lst ns (I.ok.hd hc) p.isList (by simpa using ints_of_vals rv) (by unfold scanBound; omega) fun h' tk c R hcn k => ?_
  exact ⟨.ref _, upd H s.heap.objs.size (SetO X.w s.heap.objs.size (fun j => decide (j ∈ ns)) c), I.laid (t' := tk) k (Nat.le_refl _) (setO_new R), rfl, q _ c (I.hok.fresh (Nat.le_refl _)) hcn⟩
end
end Sw

set_option maxHeartbeats 4000000
namespace Sw
open PySem PySem.Spec PyProof.Rows L2
/-! ### sum of a tuple of ints -/
theorem preSum_take (ns : List Int) : ∀ k, k ≤ ns.length → preSum (fun i => ns.getD i 0) k = (ns.take k).sum
  | 0, _ => by simp [preSum]
  | k + 1, h => by
    have e : ns[k]? = some ns[k] := by simp
    simp only [preSum]
    rw [preSum_take ns k (by omega), List.take_add_one, e, List.sum_append]
    simp [List.getD_eq_getElem?_getD, e]
section
variable {prog : Program} {w : World} {A : Around} {E : Value → Shared → Prop} {s : Shared}
theorem sum_tup {l : Addr} {its : List Value} {ns : List Int} {Q : Value → Shared → Prop} (hh : A.handled = none) (ht : s.heap.IsTuple l its.toArray) (hi : IntsAre its ns)
    (h : ∀ h' tk t', (∀ b o, s.heap.get? b = some o → h'.get? b = some o) → Q (.int ns.sum t') { s with heap := h', toks := tk }) : wpAny (model prog w) A (call (.builtin "sum") [.ref l]) Q E s := by
  have hlt : l < s.heap.objs.size := by
    obtain ⟨_, e, _⟩ := ht
    exact Heap.lt_size e
  refine call_sum_walkG (wpAny_pyIter_tuple ht ?_)
  refine ⟨_, _, _, _, _, _, fun i => ns.getD i 0, rfl, Walks.tuple (A := A.in1) hh _ l (Nat.ne_of_lt hlt) its.toArray, ⟨⟨_, Heap.get?_push_size _ rfl, rfl, rfl⟩, ht.push _⟩, fun b hb => ?_, fun i v hv => ?_, fun h' tk t' hk => ?_⟩
  · have sz : (s.heap.push { cls := .type "tuple_iterator", data := .fields #[.ref l, .int 0 0] }).objs.size = s.heap.objs.size + 1 := Heap.size_push ..
    rw [sz]
    rcases List.mem_cons.mp hb with z | z
    · rw [z]
      exact Nat.lt_succ_self _
    · rw [List.mem_singleton.mp z]
      exact Nat.lt_succ_of_lt hlt
  · exact PyProof.Rows.IntsAre.int_at hi i v (by simpa using hv)
  · have e : preSum (fun i => ns.getD i 0) its.toArray.size = ns.sum := by
      rw [List.size_toArray, hi.length, preSum_take ns _ (Nat.le_refl _), List.take_length]
    rw [e]
    refine h h' tk t' fun b o g => hk b o (fun m => ?_) (Heap.get?_push_of_some _ g)
    have := Heap.lt_size g
    rw [List.mem_singleton.mp m] at this
    exact absurd this (Nat.lt_irrefl _)
end
section
variable {X : Cx} {K : PySem.W.Frag}
def rSumQ (K : PySem.W.Frag) : List V → Hp → VK → Prop := fun vs H Q => ∃ (a : Addr) (ns : List Int), vs = [V.ref a] ∧ SqT K H a (ns.map V.int) ∧ Q (.int ns.sum) H
theorem cr_sumQ (hc : X.calm = true) : CallR X (.builtin "sum") (rSumQ X.K) := by
  intro pins s σ H vs us Q I r h
  obtain ⟨a, ns, rfl, hs, q⟩ := h
  obtain ⟨its, rv, hl, _⟩ := I.tuple hs
  rw [Vals.ref1 r]
  exact sum_tup (I.ok.hd hc) (show s.heap.IsTuple a its.toArray from hl) rv.ints fun h' tk t' hk => ⟨.int _, H, I.kept hk, ⟨_, rfl⟩, q⟩
theorem kSet {w : World} (hw : X.w = w) (hK : X.K = K) (hc : X.calm = true) : CallR X (.type "set") (rSetLst K w) := by
  subst hw hK
  exact cr_setL hc
theorem kSortSet {w : World} (hw : X.w = w) (hc : X.calm = true) : CallR X (.builtin "sorted") (rSortedSet w) := by
  subst hw
  exact cr_sortedSet hc
theorem kZipS {e e2 : Expr} {ta : TA} {p pos tpos : Pos} {elts : List Expr} {kk : Nat} (h : X.K = K) (hg : Gl X "zip") (hm : X.mg "zip" = none) (ha : PA X [e, e2] ta)
    (hs : starEach [e, e2] X.env = (false, eval e X.env) :: starEach [e2] X.env := by rfl) (hpl : (backTo pos (starEach [e2] X.env)).any (·.1) = false := by rfl) :
    PI X (.Tuple elts kk tpos) (.Call (.Name "zip" p) [e, e2] [] pos) (iZipS K ta) := by
  subst h
  exact pi_zipS hg hm ha hs hpl
end
end Sw

set_option maxHeartbeats 4000000
namespace Sw
open PySem PySem.Spec PyProof.Rows L2
/-! ### zip of any number of tuples -/
section
variable {M : Model} {A : Around} {E : Value → Shared → Prop}
theorem forIn_wp {α β : Type} {f : α → β → Sem (ForInStep β)} (I : Nat → β → Shared → Prop) (l : List α) (hs : ∀ k x b s, l[k]? = some x → I k b s → wpAny M A (f x b) (fun r s' => ∃ b', r = .yield b' ∧ I (k + 1) b' s') E s) {Q : β → Shared → Prop} (hd : ∀ b s, I l.length b s → Q b s) :
    ∀ b s, I 0 b s → wpAny M A (forIn l b f) Q E s := by
  have go : ∀ (l2 : List α) (k : Nat), l.drop k = l2 → k ≤ l.length → ∀ b s, I k b s → wpAny M A (forIn l2 b f) Q E s := by
    intro l2
    induction l2 with
    | nil =>
      intro k e hk b s h
      have z := congrArg List.length e
      rw [List.length_drop, List.length_nil] at z
      have : k = l.length := by omega
      subst this
      rw [List.forIn_nil]
      exact wpAny_pure (hd b s h)
    | cons x l2 ih =>
      intro k e hk b s h
      have hx : l[k]? = some x := by
        rw [← List.head?_drop, e]
        rfl
      have lk := (List.getElem?_eq_some_iff.mp hx).1
      rw [List.forIn_cons]
      refine wpAny_bind (wpAny_mono (hs k x b s hx h) (fun r s' hr => ?_) fun _ _ z => z)
      obtain ⟨b', rfl, h'⟩ := hr
      refine ih (k + 1) ?_ (by omega) b' s' h'
      rw [← List.drop_drop, e]
      rfl
  exact fun b s h => go l 0 (by simp) (Nat.zero_le _) b s h
theorem wp_alive {a : Addr} {Q : Option Obj → Shared → Prop} {s : Shared} (h : Q (s.heap.get? a) s) : wpAny M A (loadIfAlive a) Q E s := fun Γ p hp => by
  unfold loadIfAlive
  rw [Sem.wp_loadIfAlive, Sem.wp_pure]
  exact h
end
/-- the k-th iterator at place f k of the k-th tuple -/
def Its (h : Heap) (its ts : List Addr) (rows : List (Array Value)) (f : Nat → Nat) : Prop := ∀ (k : Nat) (it t : Addr) (us : Array Value), its[k]? = some it → ts[k]? = some t → rows[k]? = some us → h.IsTupleIter it t (f k) ∧ h.IsTuple t us
abbrev zobj (f0 f1 : Value) (TI TO : Addr) : Obj := { cls := .type "zip", data := .fields #[f0, f1, .bool false, .ref TI, .ref TO] }
abbrev tobj (vs : List Value) : Obj := { cls := .type "tuple", data := .seq vs.toArray }
structure SepN (z TI TO : Addr) (its ts : List Addr) : Prop where
  nd : its.Nodup
  zi : z ∉ its
  Ii : TI ∉ its
  Oi : TO ∉ its
  zt : z ∉ ts
  Ot : TO ∉ ts
  it : ∀ a ∈ its, a ∉ ts
  Iz : TI ≠ z
  Oz : TO ≠ z
  IO : TI ≠ TO
section
variable {prog : Program} {w : World} {A : Around} {E : Value → Shared → Prop} {s : Shared} {z TI TO : Addr} {its ts : List Addr} {rows : List (Array Value)} {i : Nat}
/-- how the heap stands amid a turn: as far as k -/
structure Amid (h0 h : Heap) (z TI TO : Addr) (its ts : List Addr) (rows : List (Array Value)) (i k : Nat) (f0 f1 : Value) (os : List Value) : Prop where
  zo : h.get? z = some (zobj f0 f1 TI TO)
  ti : h.get? TI = some (tobj (its.map Value.ref))
  to : h.get? TO = some (tobj os)
  st : Its h its ts rows fun j => if j < k then i + 1 else i
  sz : h.objs.size = h0.objs.size
  kp : ∀ c o, c ≠ z → c ≠ TO → c ∉ its → h0.get? c = some o → h.get? c = some o
/-- one iterator more -/
theorem Amid.step {h0 h h' : Heap} {k : Nat} {f0 f1 : Value} {os : List Value} {it t : Addr} (S : SepN z TI TO its ts) (a : Amid h0 h z TI TO its ts rows i k f0 f1 os) (e1 : its[k]? = some it) (e2 : ts[k]? = some t) (hs : Heap.SameBut it h h') (ni : h'.IsTupleIter it t (i + 1)) : Amid h0 h' z TI TO its ts rows i (k + 1) f0 f1 os := by
  have mi := List.mem_of_getElem? e1
  have ne : ∀ c, c ∉ its → c ≠ it := fun c n e => n (e ▸ mi)
  refine ⟨hs.extBut _ _ (ne _ S.zi) a.zo, hs.extBut _ _ (ne _ S.Ii) a.ti, hs.extBut _ _ (ne _ S.Oi) a.to, ?_, by rw [hs.1, a.sz], fun c o c1 c2 c3 e => hs.extBut _ _ (ne c c3) (a.kp c o c1 c2 c3 e)⟩
  intro j it' t' us g1 g2 g3
  obtain ⟨st1, st2⟩ := a.st j it' t' us g1 g2 g3
  have ht' : t' ≠ it := fun e => S.it it mi (e ▸ List.mem_of_getElem? g2)
  have st2' : h'.IsTuple t' us := st2.at fun o e => hs.extBut _ _ ht' e
  by_cases c : j = k
  · subst c
    rw [e1] at g1
    rw [e2] at g2
    cases g1
    cases g2
    exact ⟨by show h'.IsTupleIter it t (if j < j + 1 then i + 1 else i); rw [if_pos (Nat.lt_succ_self _)]; exact ni, st2'⟩
  · have n2 : it' ≠ it := fun e => c (by
      obtain ⟨l1, q1⟩ := List.getElem?_eq_some_iff.mp g1
      obtain ⟨l2, q2⟩ := List.getElem?_eq_some_iff.mp e1
      exact (List.getElem_inj S.nd).mp (q1.trans (e.trans q2.symm)))
    have e3 : (if j < k + 1 then i + 1 else i) = (if j < k then i + 1 else i) := by
      by_cases d : j < k
      · rw [if_pos d, if_pos (by omega)]
      · rw [if_neg d, if_neg (by omega)]
    exact ⟨by show h'.IsTupleIter it' t' (if j < k + 1 then i + 1 else i); rw [e3]; exact Heap.IsTupleIter.at st1 fun o e => hs.extBut _ _ n2 e, st2'⟩
theorem Amid.put {h0 h h' : Heap} {k : Nat} {f0 f1 : Value} {os os' : List Value} (S : SepN z TI TO its ts) (a : Amid h0 h z TI TO its ts rows i k f0 f1 os) (hs : Heap.SameBut TO h h') (ho : h'.get? TO = some (tobj os')) : Amid h0 h' z TI TO its ts rows i k f0 f1 os' := by
  refine ⟨hs.extBut _ _ S.Oz.symm a.zo, hs.extBut _ _ S.IO a.ti, ho, ?_, by rw [hs.1, a.sz], fun c o c1 c2 c3 e => hs.extBut _ _ c2 (a.kp c o c1 c2 c3 e)⟩
  intro j it' t' us g1 g2 g3
  obtain ⟨st1, st2⟩ := a.st j it' t' us g1 g2 g3
  exact ⟨Heap.IsTupleIter.at st1 fun o e => hs.extBut _ _ (fun q => S.Oi (q ▸ List.mem_of_getElem? g1)) e, st2.at fun o e => hs.extBut _ _ (fun q => S.Ot (q ▸ List.mem_of_getElem? g2)) e⟩
theorem Amid.mark {h0 h h' : Heap} {k : Nat} {f0 f1 g0 g1 : Value} {os : List Value} (S : SepN z TI TO its ts) (a : Amid h0 h z TI TO its ts rows i k f0 f1 os) (hs : Heap.SameBut z h h') (hz : h'.get? z = some (zobj g0 g1 TI TO)) : Amid h0 h' z TI TO its ts rows i k g0 g1 os := by
  refine ⟨hz, hs.extBut _ _ S.Iz a.ti, hs.extBut _ _ S.Oz a.to, ?_, by rw [hs.1, a.sz], fun c o c1 c2 c3 e => hs.extBut _ _ c1 (a.kp c o c1 c2 c3 e)⟩
  intro j it' t' us e1 e2 e3
  obtain ⟨st1, st2⟩ := a.st j it' t' us e1 e2 e3
  exact ⟨Heap.IsTupleIter.at st1 fun o e => hs.extBut _ _ (fun q => S.zi (q ▸ List.mem_of_getElem? e1)) e, st2.at fun o e => hs.extBut _ _ (fun q => S.zt (q ▸ List.mem_of_getElem? e2)) e⟩
/-- what the turn tells -/
def tells (rows : List (Array Value)) (i : Nat) : List Value := rows.map fun us => us.getD i .none
theorem tells_len (rows : List (Array Value)) (i : Nat) : (tells rows i).length = rows.length := by simp [tells]
/-- how the heap stands behind a turn -/
structure Turned (h0 h : Heap) (z TI TO : Addr) (its ts : List Addr) (rows : List (Array Value)) (i : Nat) : Prop where
  zo : ∃ g0 g1, h.get? z = some (zobj g0 g1 TI TO) ∧ (g0 = .none ∨ ∃ a, g0 = rawInt a)
  ti : h.get? TI = some (tobj (its.map Value.ref))
  to : ∃ os, os.length = its.length ∧ h.get? TO = some (tobj os)
  st : Its h its ts rows fun _ => i + 1
  tup : h.get? h0.objs.size = some (tobj (tells rows i))
  kp : ∀ c o, c ≠ z → c ≠ TO → c ∉ its → h0.get? c = some o → h.get? c = some o
/-- one turn of an iterator -/
theorem draw_at {h0 : Heap} {k : Nat} {f0 f1 : Value} {os : List Value} {it t : Addr} {us : Array Value} {Q : Value → Shared → Prop} (hh : A.handled = none) (S : SepN z TI TO its ts) (a : Amid h0 s.heap z TI TO its ts rows i k f0 f1 os) (e1 : its[k]? = some it) (e2 : ts[k]? = some t) (e3 : rows[k]? = some us) (hi : i < us.size)
    (hQ : ∀ h' tk, Amid h0 h' z TI TO its ts rows i (k + 1) f0 f1 os → Q (us.getD i .none) { s with heap := h', toks := tk }) : wpAny (model prog w) A (Builtin.SmallTypes.nextOf (.ref it)) Q E s := by
  obtain ⟨st1, st2⟩ := a.st k it t us e1 e2 e3
  have st1 : s.heap.IsTupleIter it t (if k < k then i + 1 else i) := st1
  rw [if_neg (Nat.lt_irrefl _)] at st1
  have nt : t ≠ it := fun e => S.it it (List.mem_of_getElem? e1) (e ▸ List.mem_of_getElem? e2)
  refine (Draws.tuple (prog := prog) (w := w) hh it t nt us).item i s Q E hi ⟨st1, st2⟩ fun x h' tk hx st' hs => ?_
  have hx : us[i]? = some x := hx
  have : x = us.getD i .none := by
    rw [Array.getD_eq_getD_getElem?, hx]
    rfl
  rw [this]
  exact hQ h' tk (a.step S e1 e2 hs st'.1)
theorem next_free {f0 f1 : Value} {os : List Value} {x : Addr} {rest : List Addr} {Q : Value → Shared → Prop} (hh : A.handled = none) (S : SepN z TI TO (x :: rest) ts) (a : Amid s.heap s.heap z TI TO (x :: rest) ts rows i 0 f0 f1 os) (hf : f0 = .none ∨ ∃ n, f0 = rawInt n ∧ (s.heap.get? n.toNat).isNone = true) (l1 : (x :: rest).length = ts.length) (l2 : rows.length = (x :: rest).length) (l3 : os.length = (x :: rest).length) (hi : ∀ us ∈ rows, i < us.size) (small : (x :: rest).length ≤ 1000)
    (hQ : ∀ h' tk, Turned s.heap h' z TI TO (x :: rest) ts rows i → Q (.ref s.heap.objs.size) { s with heap := h', toks := tk }) :
    wpAny (model prog w) A (Builtin.«zip.__next__» ⟨[.ref z], []⟩) (fun fin s' => ∃ v, fin = .done (.ret v) ∧ Q v s') E s := by
  obtain ⟨hp, g, d, tk0, os0⟩ := s
  show wpAny _ _ (field (.ref z) 2 >>= _) _ _ _
  refine wpAny_bind (wpAny_field a.zo rfl (x := .bool false) rfl ?_)
  show wpAny _ _ (field (.ref z) 3 >>= _) _ _ _
  refine wpAny_bind (wpAny_field a.zo rfl (x := .ref TI) rfl (wpAny_bind (wpAny_seqItems a.ti rfl ?_)))
  show wpAny _ _ (Builtin.SmallTypes.ownedTupleIsFree (.ref z) >>= _) _ _ _
  refine wpAny_bind (wpAny_mono (Q := fun c s' => c = true ∧ s' = ⟨hp, g, d, tk0, os0⟩) ?_ (fun c s' hc => ?_) fun _ _ e => e)
  · unfold Builtin.SmallTypes.ownedTupleIsFree
    refine wpAny_bind (wpAny_field a.zo rfl (x := f0) rfl ?_)
    rcases hf with rfl | ⟨n, rfl, gone⟩
    · exact wpAny_pure ⟨rfl, rfl⟩
    · refine wpAny_bind (wp_alive ?_)
      have gone : (hp.get? n.toNat).isNone = true := gone
      simp only [gone, if_true]
      exact wpAny_pure ⟨rfl, rfl⟩
  obtain ⟨rfl, rfl⟩ := hc
  simp only [if_true]
  refine wpAny_bind (wpAny_rule (wpAny_bind (wpAny_field a.zo rfl (x := .ref TO) rfl ?_)))
  refine wpAny_bind (wpAny_setField_rec a.zo (by simp) fun g0 hz0 hs0 => ?_)
  replace hs0 : Heap.SameBut z hp g0 := hs0
  have a0 : Amid hp g0 z TI TO (x :: rest) ts rows i 0 .ellipsis f1 os := a.mark S hs0 hz0
  refine wpAny_bind ?_
  refine forIn_wp (fun k b s' => b = (none, ()) ∧ ∃ h tk os', s' = ⟨h, g, d, tk, os0⟩ ∧ Amid hp h z TI TO (x :: rest) ts rows i k .ellipsis f1 os' ∧ os'.length = (x :: rest).length ∧ ∀ j, j < k → os'[j]? = (tells rows i)[j]?) _ ?_ ?_ _ _ ⟨rfl, g0, tk0, os, rfl, a0, l3, fun j hj => absurd hj (Nat.not_lt_zero _)⟩
  · rintro k y b s' hy ⟨rfl, h, tk, os', rfl, ak, lo, ho⟩
    rw [List.getElem?_zipIdx, List.getElem?_map] at hy
    obtain ⟨v, hv, rfl⟩ := Option.map_eq_some_iff.mp hy
    obtain ⟨it, hit, rfl⟩ := Option.map_eq_some_iff.mp hv
    have lk := (List.getElem?_eq_some_iff.mp hit).1
    have e2 : ts[k]? = some ts[k] := by simp
    have e3 : rows[k]? = some rows[k] := by simp
    have ek : 0 + k = k := Nat.zero_add k
    refine wpAny_bind (wpAny_onRaise ?_)
    show wpAny _ _ (Builtin.SmallTypes.nextOf (.ref it) >>= _) _ _ ⟨h, g, d, tk, os0⟩
    refine wpAny_bind (draw_at (s := ⟨h, g, d, tk, os0⟩) hh S ak hit e2 e3 (hi _ (List.mem_of_getElem? e3)) fun h' tk' ak' => wpAny_pure ?_)
    refine wpAny_bind (wpAny_seqItems (s := ⟨h', g, d, tk', os0⟩) ak'.to rfl ?_)
    refine wpAny_bind (wpAny_updateSeq (s := ⟨h', g, d, tk', os0⟩) ak'.to rfl ?_ (_hz' := by
      rw [Array.size_setIfInBounds, List.size_toArray]
      have := small1000 (n := os'.length) (by omega)
      omega))
    refine wpAny_bind (wpAny_letGo (wpAny_pure ⟨_, rfl, rfl, _, tk', os'.set k (rows[k].getD i .none), rfl, ak'.put S (Heap.SameBut.update ..) ?_, by simpa using lo, fun j hj => ?_⟩))
    · rw [Heap.get?_update_self _ ak'.to rfl]
      simp [Obj.mapSeq, ek]
    · rw [List.getElem?_set]
      have er : (tells rows i)[k]? = some (rows[k].getD i .none) := by
        unfold tells
        rw [List.getElem?_map, e3]
        rfl
      by_cases c : k = j
      · subst c
        rw [if_pos rfl, if_pos (by omega), er]
      · rw [if_neg c]
        exact ho j (by omega)
  · rintro b s' ⟨rfl, h, tk, os', rfl, ak, lo, ho⟩
    have ek : ((x :: rest).map Value.ref).zipIdx.length = (x :: rest).length := by simp
    rw [ek] at ak ho
    have eo : os' = tells rows i := by
      apply List.ext_getElem?
      intro j
      by_cases c : j < (x :: rest).length
      · exact ho j c
      · rw [List.getElem?_eq_none (by omega), List.getElem?_eq_none (by rw [tells_len]; omega)]
    subst eo
    show wpAny _ _ (seqItems? (.ref TO) >>= _) _ _ ⟨h, g, d, tk, os0⟩
    refine wpAny_bind (wpAny_seqItems (s := ⟨h, g, d, tk, os0⟩) ak.to rfl ?_)
    refine wpAny_bind (wpAny_newTuple ?_ (by rw [tells_len]; exact Nat.le_of_lt (small1000 (by omega))))
    have hzlt : z < h.objs.size := Heap.lt_size ak.zo
    have hz6 : (h.push (tobj (tells rows i))).get? z = some (zobj .ellipsis f1 TI TO) := Heap.get?_push_of_some _ ak.zo
    show wpAny _ _ (Builtin.SmallTypes.ownedTupleHandOut (.ref z) (.ref h.objs.size) >>= _) _ _ ⟨h.push (tobj (tells rows i)), g, d, tk, os0⟩
    refine wpAny_bind ?_
    unfold Builtin.SmallTypes.ownedTupleHandOut
    refine wpAny_bind (wpAny_setField_rec hz6 (by simp) fun h7 hz7 hs7 => ?_)
    refine wpAny_setField_rec hz7 (by simp) fun h8 hz8 hs8 => ?_
    replace hs7 : Heap.SameBut z (h.push (tobj (tells rows i))) h7 := hs7
    replace hs8 : Heap.SameBut z h7 h8 := hs8
    have up : ∀ c o, c ≠ z → h.get? c = some o → h8.get? c = some o := fun c o c1 e => hs8.extBut _ _ c1 (hs7.extBut _ _ c1 (Heap.get?_push_of_some _ e))
    have esz : h.objs.size = hp.objs.size := ak.sz
    refine wpAny_pure ⟨_, rfl, ?_⟩
    have res := hQ h8 tk ⟨⟨_, _, hz8, .inr ⟨_, rfl⟩⟩, up _ _ S.Iz ak.ti, ⟨_, by rw [tells_len, l2], up _ _ S.Oz ak.to⟩, fun j it' t' us e1 e2 e3 => ?_, ?_, fun c o c1 c2 c3 e => up c o c1 (ak.kp c o c1 c2 c3 e)⟩
    · show Q (.ref h.objs.size) ⟨h8, g, d, tk, os0⟩
      rw [esz]
      exact res
    · obtain ⟨st1, st2⟩ := ak.st j it' t' us e1 e2 e3
      have lj := (List.getElem?_eq_some_iff.mp e1).1
      have st1 : h.IsTupleIter it' t' (if j < (x :: rest).length then i + 1 else i) := st1
      rw [if_pos lj] at st1
      exact ⟨Heap.IsTupleIter.at st1 fun o e => up _ _ (fun q => S.zi (q ▸ List.mem_of_getElem? e1)) e, st2.at fun o e => up _ _ (fun q => S.zt (q ▸ List.mem_of_getElem? e2)) e⟩
    · show h8.get? hp.objs.size = _
      rw [← esz]
      exact hs8.extBut _ _ (Nat.ne_of_gt hzlt) (hs7.extBut _ _ (Nat.ne_of_gt hzlt) (Heap.get?_push_size _ rfl))
theorem next_kept {f0 : Int} {f1 : Value} {os : List Value} {x : Addr} {rest : List Addr} {Q : Value → Shared → Prop} (hh : A.handled = none) (S : SepN z TI TO (x :: rest) ts) (a : Amid s.heap s.heap z TI TO (x :: rest) ts rows i 0 (rawInt f0) f1 os) (l1 : (x :: rest).length = ts.length) (l2 : rows.length = (x :: rest).length) (l3 : os.length = (x :: rest).length) (hi : ∀ us ∈ rows, i < us.size) (small : (x :: rest).length ≤ 1000) (alive : (s.heap.get? f0.toNat).isNone = false)
    (hQ : ∀ h' tk, Turned s.heap h' z TI TO (x :: rest) ts rows i → Q (.ref s.heap.objs.size) { s with heap := h', toks := tk }) :
    wpAny (model prog w) A (Builtin.«zip.__next__» ⟨[.ref z], []⟩) (fun fin s' => ∃ v, fin = .done (.ret v) ∧ Q v s') E s := by
  obtain ⟨hp, g, d, tk0, os0⟩ := s
  show wpAny _ _ (field (.ref z) 2 >>= _) _ _ _
  refine wpAny_bind (wpAny_field a.zo rfl (x := .bool false) rfl ?_)
  show wpAny _ _ (field (.ref z) 3 >>= _) _ _ _
  refine wpAny_bind (wpAny_field a.zo rfl (x := .ref TI) rfl (wpAny_bind (wpAny_seqItems a.ti rfl ?_)))
  show wpAny _ _ (Builtin.SmallTypes.ownedTupleIsFree (.ref z) >>= _) _ _ _
  refine wpAny_bind ?_
  unfold Builtin.SmallTypes.ownedTupleIsFree
  refine wpAny_bind (wpAny_field a.zo rfl (x := rawInt f0) rfl ?_)
  refine wpAny_bind (wp_alive ?_)
  have alive : (hp.get? f0.toNat).isNone = false := alive
  simp only [alive, Bool.false_eq_true, if_false]
  refine wpAny_bind (wpAny_field a.zo rfl (x := f1) rfl ?_)
  refine wpAny_mono (Q := fun c s' => c = false ∧ ∃ hq g1, s' = ⟨hq, g, d, tk0, os0⟩ ∧ Amid hp hq z TI TO (x :: rest) ts rows i 0 (rawInt f0) g1 os) ?_ (fun c s' hc => ?_) fun _ _ e => e
  · split
    · refine wpAny_bind (wpAny_setField_rec a.zo (by simp) fun h7 hz7 hs7 => wpAny_pure ⟨rfl, h7, _, rfl, a.mark S hs7 hz7⟩)
    · exact wpAny_pure ⟨rfl, hp, f1, rfl, a⟩
  obtain ⟨rfl, hq, g1, rfl, aq⟩ := hc
  simp only [Bool.false_eq_true, if_false]
  rw [← Array.forIn_toList]
  refine wpAny_bind ?_
  refine forIn_wp (fun k b s' => b = (none, ((tells rows i).take k).toArray) ∧ ∃ h tk, s' = ⟨h, g, d, tk, os0⟩ ∧ Amid hp h z TI TO (x :: rest) ts rows i k (rawInt f0) g1 os) _ ?_ ?_ _ _ ⟨rfl, hq, tk0, rfl, aq⟩
  · rintro k y b s' hy ⟨rfl, h, tk, rfl, ak⟩
    have hy : ((x :: rest).map Value.ref)[k]? = some y := hy
    rw [List.getElem?_map] at hy
    obtain ⟨it, hit, rfl⟩ := Option.map_eq_some_iff.mp hy
    have lk := (List.getElem?_eq_some_iff.mp hit).1
    have e2 : ts[k]? = some ts[k] := by simp
    have e3 : rows[k]? = some rows[k] := by simp
    refine wpAny_bind (wpAny_holding ?_)
    show wpAny _ _ (Builtin.SmallTypes.nextOf (.ref it) >>= _) _ _ ⟨h, g, d, tk, os0⟩
    refine wpAny_bind (draw_at (s := ⟨h, g, d, tk, os0⟩) hh S ak hit e2 e3 (hi _ (List.mem_of_getElem? e3)) fun h' tk' ak' => wpAny_pure ?_)
    refine wpAny_pure ⟨_, rfl, ?_, h', tk', rfl, ak'⟩
    have er : (tells rows i)[k]? = some (rows[k].getD i .none) := by
      unfold tells
      rw [List.getElem?_map, e3]
      rfl
    rw [List.take_add_one, er]
    simp
  · rintro b s' ⟨rfl, h, tk, rfl, ak⟩
    have ek : ((x :: rest).map Value.ref).toArray.toList.length = (x :: rest).length := by simp
    rw [ek] at ak ⊢
    have et : (tells rows i).take (x :: rest).length = tells rows i := List.take_of_length_le (by rw [tells_len]; omega)
    rw [et]
    show wpAny _ _ (newTuple (tells rows i) >>= _) _ _ ⟨h, g, d, tk, os0⟩
    refine wpAny_bind (wpAny_newTuple ?_ (by rw [tells_len]; exact Nat.le_of_lt (small1000 (by omega))))
    have up : ∀ c o, h.get? c = some o → (h.push (tobj (tells rows i))).get? c = some o := fun c o e => Heap.get?_push_of_some _ e
    have esz : h.objs.size = hp.objs.size := ak.sz
    refine wpAny_pure ⟨_, rfl, ?_⟩
    have res := hQ (h.push (tobj (tells rows i))) tk ⟨⟨_, _, up _ _ ak.zo, .inr ⟨_, rfl⟩⟩, up _ _ ak.ti, ⟨os, l3, up _ _ ak.to⟩, fun j it' t' us e1 e2 e3 => ?_, ?_, fun c o c1 c2 c3 e => up c o (ak.kp c o c1 c2 c3 e)⟩
    · show Q (.ref h.objs.size) ⟨h.push (tobj (tells rows i)), g, d, tk, os0⟩
      rw [esz]
      exact res
    · obtain ⟨st1, st2⟩ := ak.st j it' t' us e1 e2 e3
      have lj := (List.getElem?_eq_some_iff.mp e1).1
      have st1 : h.IsTupleIter it' t' (if j < (x :: rest).length then i + 1 else i) := st1
      rw [if_pos lj] at st1
      exact ⟨Heap.IsTupleIter.at st1 fun o e => up _ _ e, st2.at fun o e => up _ _ e⟩
    · show (h.push (tobj (tells rows i))).get? hp.objs.size = _
      rw [← esz]
      exact Heap.get?_push_size _ rfl
/-- the end: all are as long as one another, so the first one ends -/
theorem next_ends {f0 f1 : Value} {os : List Value} {x : Addr} {rest : List Addr} {Q : PySem.Fin → Shared → Prop} (hh : A.handled = none) (S : SepN z TI TO (x :: rest) ts) (a : Amid s.heap s.heap z TI TO (x :: rest) ts rows i 0 f0 f1 os) (hf : f0 = .none ∨ ∃ n, f0 = rawInt n) (l1 : (x :: rest).length = ts.length) (l2 : rows.length = (x :: rest).length) (hi : ∀ us ∈ rows, us.size = i)
    (hE : ∀ h' tk e, (∀ c o, c ≠ z → c ≠ TO → c ∉ x :: rest → s.heap.get? c = some o → h'.get? c = some o) → (∃ o, h'.get? e = some o ∧ o.cls = .type "StopIteration") → E (.ref e) { s with heap := h', toks := tk }) :
    wpAny (model prog w) A (Builtin.«zip.__next__» ⟨[.ref z], []⟩) Q E s := by
  obtain ⟨hp, g, d, tk0, os0⟩ := s
  have e1 : (x :: rest)[0]? = some x := rfl
  have lt0 : 0 < ts.length := by
    rw [← l1]
    simp
  have lr0 : 0 < rows.length := by
    rw [l2]
    simp
  have e2 : ts[0]? = some ts[0] := by simp
  have e3 : rows[0]? = some rows[0] := by simp
  have hlast : ∀ (hq : Heap) (g0 g1 : Value) (Q : Value → Shared → Prop) (E' : Value → Shared → Prop), Amid hp hq z TI TO (x :: rest) ts rows i 0 g0 g1 os → (∀ q e, Heap.ExtBut x hq q → (∃ o, q.get? e = some o ∧ o.cls = .type "StopIteration") → E' (.ref e) ⟨q, g, d, tk0, os0⟩) → wpAny (model prog w) A (Builtin.SmallTypes.nextOf (.ref x)) Q E' ⟨hq, g, d, tk0, os0⟩ := fun hq g0 g1 Q E' aq k => by
    obtain ⟨st1, st2⟩ := aq.st 0 x _ _ e1 e2 e3
    have st1 : hq.IsTupleIter x ts[0] (if 0 < 0 then i + 1 else i) := st1
    rw [if_neg (Nat.lt_irrefl _), ← hi _ (List.mem_of_getElem? e3)] at st1
    have nt : ts[0] ≠ x := fun e => S.it x (by simp) (e ▸ List.mem_of_getElem? e2)
    exact (Draws.tuple (prog := prog) (w := w) hh x _ nt _).done ⟨hq, g, d, tk0, os0⟩ Q E' ⟨st1, st2⟩ k
  have nx : ∀ c, c ∉ x :: rest → c ≠ x := fun c n e => n (by rw [e]; simp)
  have zx : z ≠ x := nx z S.zi
  show wpAny _ _ (field (.ref z) 2 >>= _) _ _ _
  refine wpAny_bind (wpAny_field a.zo rfl (x := .bool false) rfl ?_)
  show wpAny _ _ (field (.ref z) 3 >>= _) _ _ _
  refine wpAny_bind (wpAny_field a.zo rfl (x := .ref TI) rfl (wpAny_bind (wpAny_seqItems a.ti rfl ?_)))
  show wpAny _ _ (Builtin.SmallTypes.ownedTupleIsFree (.ref z) >>= _) _ _ _
  refine wpAny_bind (wpAny_mono (Q := fun c s' => ∃ hq g1, s' = ⟨hq, g, d, tk0, os0⟩ ∧ Amid hp hq z TI TO (x :: rest) ts rows i 0 f0 g1 os) ?_ (fun c s' hc => ?_) fun _ _ e => e)
  · unfold Builtin.SmallTypes.ownedTupleIsFree
    refine wpAny_bind (wpAny_field a.zo rfl (x := f0) rfl ?_)
    rcases hf with rfl | ⟨n, rfl⟩
    · exact wpAny_pure ⟨hp, f1, rfl, a⟩
    · refine wpAny_bind (wp_alive ?_)
      split
      · exact wpAny_pure ⟨hp, f1, rfl, a⟩
      · refine wpAny_bind (wpAny_field a.zo rfl (x := f1) rfl ?_)
        split
        · exact wpAny_bind (wpAny_setField_rec a.zo (by simp) fun h7 hz7 hs7 => wpAny_pure ⟨h7, _, rfl, a.mark S hs7 hz7⟩)
        · exact wpAny_pure ⟨hp, f1, rfl, a⟩
  obtain ⟨hq, g1, rfl, aq⟩ := hc
  cases c with
  | true =>
    simp only [if_true]
    refine wpAny_bind (wpAny_rule (wpAny_bind (wpAny_field aq.zo rfl (x := .ref TO) rfl ?_)))
    refine wpAny_bind (wpAny_setField_rec aq.zo (by simp) fun g0 hz0 hs0 => ?_)
    have a0 : Amid hp g0 z TI TO (x :: rest) ts rows i 0 .ellipsis g1 os := aq.mark S hs0 hz0
    refine wpAny_bind ?_
    simp only [List.map_cons, List.zipIdx_cons, List.forIn_cons]
    refine wpAny_bind (wpAny_bind (wpAny_onRaise ?_))
    show wpAny _ _ (Builtin.SmallTypes.nextOf (.ref x) >>= _) _ _ ⟨g0, g, d, tk0, os0⟩
    refine wpAny_bind (hlast g0 _ _ _ _ a0 fun q e hqx he => ?_)
    obtain ⟨oe, hoe, hce⟩ := he
    have hzq : q.get? z = some (zobj .ellipsis g1 TI TO) := hqx _ _ zx a0.zo
    have hez : e ≠ z := fun y => by
      subst y
      rw [hzq] at hoe
      cases hoe
      simp at hce
    refine wpAny_setField_rec (s := ⟨q, g, d, tk0, os0⟩) hzq (by simp) fun q' _ hq' => ?_
    replace hq' : Heap.SameBut z q q' := hq'
    exact hE q' tk0 e (fun c o cz cT ci y => hq'.extBut _ _ cz (hqx _ _ (nx c ci) (a0.kp c o cz cT ci y))) ⟨oe, hq'.extBut _ _ hez hoe, hce⟩
  | false =>
    simp only [Bool.false_eq_true, if_false]
    rw [← Array.forIn_toList]
    refine wpAny_bind ?_
    simp only [List.map_cons, List.forIn_cons]
    refine wpAny_bind (wpAny_bind (wpAny_holding ?_))
    show wpAny _ _ (Builtin.SmallTypes.nextOf (.ref x) >>= _) _ _ ⟨hq, g, d, tk0, os0⟩
    refine wpAny_bind (hlast hq _ _ _ _ aq fun q e hqx he => ?_)
    exact hE q tk0 e (fun c o cz cT ci y => hqx _ _ (nx c ci) (aq.kp c o cz cT ci y)) he
/-- pyNext of the zip -/
theorem zip_item {f0 f1 : Value} {os : List Value} {x : Addr} {rest : List Addr} {Q : Option Value → Shared → Prop} (hh : A.handled = none) (S : SepN z TI TO (x :: rest) ts) (a : Amid s.heap s.heap z TI TO (x :: rest) ts rows i 0 f0 f1 os) (hf : f0 = .none ∨ ∃ n, f0 = rawInt n) (l1 : (x :: rest).length = ts.length) (l2 : rows.length = (x :: rest).length) (l3 : os.length = (x :: rest).length) (hi : ∀ us ∈ rows, i < us.size) (small : (x :: rest).length ≤ 1000)
    (hQ : ∀ h' tk, Turned s.heap h' z TI TO (x :: rest) ts rows i → Q (some (.ref s.heap.objs.size)) { s with heap := h', toks := tk }) :
    wpAny (model prog w) A (pyNext (.ref z)) Q E s := by
  have hT : s.TypeIs (.ref z) "zip" := ⟨_, a.zo, rfl⟩
  have one : wpAny (model prog w) A.in1 (Builtin.«zip.__next__» ⟨[.ref z], []⟩) (fun fin s' => ∃ v, fin = .done (.ret v) ∧ (∃ h' tk, v = .ref s.heap.objs.size ∧ s' = { s with heap := h', toks := tk } ∧ Turned s.heap h' z TI TO (x :: rest) ts rows i)) (fun _ _ => False) s := by
    rcases hf with rfl | ⟨n, rfl⟩
    · exact next_free (A := A.in1) (by simpa using hh) S a (.inl rfl) l1 l2 l3 hi small fun h' tk t => ⟨h', tk, rfl, rfl, t⟩
    · cases e : (s.heap.get? n.toNat).isNone with
      | true => exact next_free (A := A.in1) (by simpa using hh) S a (.inr ⟨n, rfl, e⟩) l1 l2 l3 hi small fun h' tk t => ⟨h', tk, rfl, rfl, t⟩
      | false => exact next_kept (A := A.in1) (by simpa using hh) S a l1 l2 l3 hi small e fun h' tk t => ⟨h', tk, rfl, rfl, t⟩
  unfold pyNext
  refine wpAny_bind (wpAny_attempt (wpAny_callSpecial?_slot (name := Str.ofString "__next__") hT F.slot_zip_next (wpAny_call_entry F.slot_zip_next hT F.entry_zip_next ?_ (F.args_zip_next_1 _))))
  refine wpAny_mono one (fun fin s' hv => ?_) fun _ _ e => e.elim
  obtain ⟨v, rfl, h', tk, rfl, rfl, t⟩ := hv
  exact ⟨_, rfl, wpAny_pure (hQ h' tk t)⟩
theorem zip_end {f0 f1 : Value} {os : List Value} {x : Addr} {rest : List Addr} {Q : Option Value → Shared → Prop} (hh : A.handled = none) (S : SepN z TI TO (x :: rest) ts) (a : Amid s.heap s.heap z TI TO (x :: rest) ts rows i 0 f0 f1 os) (hf : f0 = .none ∨ ∃ n, f0 = rawInt n) (l1 : (x :: rest).length = ts.length) (l2 : rows.length = (x :: rest).length) (hi : ∀ us ∈ rows, us.size = i)
    (hQ : ∀ h' tk, (∀ c o, c ≠ z → c ≠ TO → c ∉ x :: rest → s.heap.get? c = some o → h'.get? c = some o) → Q none { s with heap := h', toks := tk }) : wpAny (model prog w) A (pyNext (.ref z)) Q E s := by
  have hT : s.TypeIs (.ref z) "zip" := ⟨_, a.zo, rfl⟩
  unfold pyNext
  refine wpAny_bind (wpAny_attempt (wpAny_callSpecial?_slot (name := Str.ofString "__next__") hT F.slot_zip_next (wpAny_call_entry F.slot_zip_next hT F.entry_zip_next ?_ (F.args_zip_next_1 _))))
  refine next_ends (A := A.in1) (by simpa using hh) S a hf l1 l2 hi fun h' tk e hk he => ?_
  obtain ⟨o, ho, hc⟩ := he
  refine wpAny_bind (wpAny_isInstance (T := "StopIteration") (b := true) ⟨o, ho, hc⟩ isSubtype_stop ?_)
  exact wpAny_pure (hQ _ _ hk)
end
/-! ### it begins -/
section
variable {prog : Program} {w : World} {A : Around} {E : Value → Shared → Prop} {s : Shared}
def itObj (t : Addr) : Obj := { cls := .type "tuple_iterator", data := .fields #[.ref t, .int 0 0] }
def pushAll (h : Heap) : List Addr → Heap
  | [] => h
  | t :: ts => pushAll (h.push (itObj t)) ts
theorem pushAll_size : ∀ (ts : List Addr) (h : Heap), (pushAll h ts).objs.size = h.objs.size + ts.length
  | [], h => rfl
  | t :: ts, h => by
    have e : (h.push (itObj t)).objs.size = h.objs.size + 1 := Heap.size_push ..
    rw [pushAll, pushAll_size ts, e, List.length_cons]
    omega
theorem pushAll_old : ∀ (ts : List Addr) (h : Heap) (c : Addr) (o : Obj), h.get? c = some o → (pushAll h ts).get? c = some o
  | [], h, c, o, e => e
  | t :: ts, h, c, o, e => pushAll_old ts _ c o (Heap.get?_push_of_some _ e)
theorem pushAll_at : ∀ (ts : List Addr) (h : Heap) (k : Nat) (t : Addr), ts[k]? = some t → (pushAll h ts).get? (h.objs.size + k) = some (itObj t)
  | [], h, k, t, e => by simp at e
  | u :: ts, h, 0, t, e => by
    cases e
    exact pushAll_old ts _ _ _ (Heap.get?_push_size _ rfl)
  | u :: ts, h, k + 1, t, e => by
    have z := pushAll_at ts (h.push (itObj u)) k t e
    have e2 : (h.push (itObj u)).objs.size = h.objs.size + 1 := Heap.size_push ..
    rw [e2] at z
    have e3 : h.objs.size + (k + 1) = h.objs.size + 1 + k := by omega
    rw [e3]
    exact z
def newIts (h : Heap) (n : Nat) : List Addr := (List.range n).map (h.objs.size + ·)
theorem iterAll_tup {ts : List Addr} {Q : List Value → Shared → Prop} (ht : ∀ t ∈ ts, ∃ us, s.heap.IsTuple t us) (h : Q ((newIts s.heap ts.length).map Value.ref) { s with heap := pushAll s.heap ts }) : wpAny (model prog w) A (Builtin.SmallTypes.iterAll (ts.map Value.ref)) Q E s := by
  unfold Builtin.SmallTypes.iterAll
  refine wpAny_bind ?_
  refine forIn_wp (fun k b s' => b = ((newIts s.heap k).map Value.ref).toArray ∧ s' = { s with heap := pushAll s.heap (ts.take k) }) _ ?_ ?_ _ _ ⟨rfl, rfl⟩
  · rintro k y b s' hy ⟨rfl, rfl⟩
    rw [List.getElem?_map] at hy
    obtain ⟨t, ht', rfl⟩ := Option.map_eq_some_iff.mp hy
    obtain ⟨us, hus⟩ := ht t (List.mem_of_getElem? ht')
    have lk := (List.getElem?_eq_some_iff.mp ht').1
    have hus' : (pushAll s.heap (ts.take k)).IsTuple t us := hus.at fun o e => pushAll_old _ _ _ _ e
    refine wpAny_bind (wpAny_holding (wpAny_pyIter_tuple hus' (wpAny_pure ⟨_, rfl, ?_, ?_⟩)))
    · have e : (pushAll s.heap (ts.take k)).objs.size = s.heap.objs.size + k := by
        rw [pushAll_size, List.length_take]
        omega
      unfold newIts
      rw [List.range_succ]
      simp [e]
    · have : ∀ (l : List Addr) (h : Heap), pushAll h (l ++ [t]) = (pushAll h l).push (itObj t) := by
        intro l
        induction l with
        | nil => intro h; rfl
        | cons a l ih => intro h; exact ih _
      rw [List.take_add_one, ht']
      show _ = { s with heap := pushAll s.heap (ts.take k ++ [t]) }
      rw [this]
      rfl
  · rintro b s' ⟨rfl, rfl⟩
    rw [List.length_map, List.take_length]
    exact wpAny_pure h
abbrev zT (h : Heap) (ts : List Addr) : Heap := (pushAll h ts).push (tobj ((newIts h ts.length).map Value.ref))
abbrev zO (h : Heap) (ts : List Addr) : Heap := (zT h ts).push (tobj ((newIts h ts.length).map fun _ => Value.none))
abbrev zZ (h : Heap) (ts : List Addr) : Heap := (zO h ts).push (zobj .none (.bool false) (pushAll h ts).objs.size (zT h ts).objs.size)
theorem meets_zipN (ts : List Addr) : Meets (Builtin.«zip.__new__» ⟨.type "zip" :: ts.map Value.ref, []⟩) (fun _ R s => ((∀ t ∈ ts, ∃ us, s.heap.IsTuple t us) ∧ ts.length ≤ 1000) ∧ R (.ok (.ret (.ref (zO s.heap ts).objs.size))) { s with heap := zZ s.heap ts }) :=
  .of_wp fun prog w A R s h => by
    obtain ⟨hp, g, d, tk, os⟩ := s
    obtain ⟨⟨h1, h2⟩, h⟩ := h
    have hsub := sub_zip
    have q1 : ∀ {A' : Around} {E : Value → Shared → Prop} {Q : List Value → Shared → Prop}, Q ((newIts hp ts.length).map Value.ref) ⟨pushAll hp ts, g, d, tk, os⟩ → wpAny (model prog w) A' (Builtin.SmallTypes.iterAll (ts.map Value.ref)) Q E ⟨hp, g, d, tk, os⟩ := fun q => iterAll_tup (s := ⟨hp, g, d, tk, os⟩) h1 q
    unfold Builtin.«zip.__new__»
    generalize hIA : Builtin.SmallTypes.iterAll = IA at q1
    generalize hNT : newTuple = NT
    generalize hNR : Builtin.SmallTypes.newRecord = NR
    wp_walk using q1
    subst hNT hNR
    have sz : (newIts hp ts.length).length ≤ 1000 := by simpa [newIts] using h2
    refine wpAny_newTuple ?_ (by rw [List.length_map]; exact Nat.le_of_lt (small1000 sz))
    refine wpAny_bind (wpAny_newTuple ?_ (by rw [List.length_map, List.length_map]; exact Nat.le_of_lt (small1000 sz)))
    unfold Builtin.SmallTypes.newRecord
    rw [List.map_map]
    exact wpAny_bind (wpAny_newObj_type (wpAny_pure ⟨_, rfl, h⟩) (by simp [sizeOk]; show 3 ≤ sizeLine; decide))
theorem zip_begins {ts : List Addr} {Q : Value → Shared → Prop} (ht : ∀ t ∈ ts, ∃ us, s.heap.IsTuple t us) (l5 : ts.length ≤ 5)
    (h : Q (.ref (zO s.heap ts).objs.size) { s with heap := zZ s.heap ts }) : wpAny (model prog w) A (call (.type "zip") (ts.map Value.ref)) Q E s := by
  have c1 : checkTypeCall "zip" ⟨ts.map Value.ref, []⟩ = pure () := by
    match ts, l5 with
    | [], _ => kernel_rfl
    | [_], _ => kernel_rfl
    | [_, _], _ => kernel_rfl
    | [_, _, _], _ => kernel_rfl
    | [_, _, _, _], _ => kernel_rfl
    | [_, _, _, _, _], _ => kernel_rfl
    | _ :: _ :: _ :: _ :: _ :: _ :: _, l => simp at l
  have c2 : checkBuiltinCall "zip.__new__" ⟨.type "zip" :: ts.map Value.ref, []⟩ = pure () := by
    match ts, l5 with
    | [], _ => kernel_rfl
    | [_], _ => kernel_rfl
    | [_, _], _ => kernel_rfl
    | [_, _, _], _ => kernel_rfl
    | [_, _, _, _], _ => kernel_rfl
    | [_, _, _, _, _], _ => kernel_rfl
    | _ :: _ :: _ :: _ :: _ :: _ :: _, l => simp at l
  have c3 : ∀ obj, argsOk "object.__init__" ⟨obj :: ts.map Value.ref, []⟩ := by
    intro obj
    unfold argsOk
    match ts, l5 with
    | [], _ => kernel_rfl
    | [_], _ => kernel_rfl
    | [_, _], _ => kernel_rfl
    | [_, _, _], _ => kernel_rfl
    | [_, _, _, _], _ => kernel_rfl
    | [_, _, _, _, _], _ => kernel_rfl
    | _ :: _ :: _ :: _ :: _ :: _ :: _, l => simp at l
  refine callType_new F.called_zip (by decide) c1 c2 c3 F.entry_zip_new (meets_zipN ts) ⟨⟨ht, by omega⟩, ?_⟩
  exact ⟨⟨_, Heap.get?_push_size _ rfl, rfl⟩, h⟩
end
end Sw

set_option maxHeartbeats 4000000
namespace Sw
open PySem PySem.Spec PyProof.Rows L2
/-! ### for x in zip(*rows) -/
def RowsAt (K : PySem.W.Frag) (H : Hp) (ts : List Addr) (xss : List (List V)) : Prop := ts.length = xss.length ∧ ∀ (k : Nat) (t : Addr) (xs : List V), ts[k]? = some t → xss[k]? = some xs → SqT K H t xs
def col (xss : List (List V)) (i : Nat) : List V := xss.map fun xs => xs.getD i .non
def ItN (K : PySem.W.Frag) (ts : List Addr) : It :=
  ⟨fun i H => ∃ xss, RowsAt K H ts xss ∧ ∀ xs ∈ xss, i < xs.length,
    fun i H v H' => ∃ T, v = .ref T ∧ H T = none ∧ ∃ ys, H' = upd H T (.tup ys) ∧ ∀ xss, RowsAt K H ts xss → ys = col xss i,
    fun i H => ∃ xss, RowsAt K H ts xss ∧ ∀ xs ∈ xss, xs.length = i⟩
section
variable {X : Cx} {pins : List (Addr × Obj)} {σ : L2.St} {H : Hp} {s : Shared}
theorem rows_of (I : Inv X pins σ H s) : ∀ {ts : List Addr} {xss : List (List V)}, RowsAt X.K H ts xss → ∃ rows : List (Array Value), rows.length = ts.length ∧ ∀ (k : Nat) (t : Addr) (xs : List V) (us : Array Value), ts[k]? = some t → xss[k]? = some xs → rows[k]? = some us → s.heap.IsTuple t us ∧ Vals xs us.toList ∧ us.size = xs.length
  | [], xss, _ => ⟨[], rfl, fun k t xs us e => by simp at e⟩
  | t :: ts, [], h => by
    have := h.1
    simp at this
  | t :: ts, xs :: xss, h => by
    obtain ⟨rows, l, al⟩ := rows_of I (ts := ts) (xss := xss) ⟨by simpa using h.1, fun k t xs e1 e2 => h.2 (k + 1) t xs e1 e2⟩
    obtain ⟨its, rv, p, hz⟩ := I.tuple (h.2 0 t xs rfl rfl)
    refine ⟨its.toArray :: rows, by simp [l], fun k t' xs' us e1 e2 e3 => ?_⟩
    cases k with
    | zero =>
      cases e1
      cases e2
      cases e3
      exact ⟨p, by simpa using rv, by rw [List.size_toArray]; exact rv.length.symm⟩
    | succ k => exact al k t' xs' us e1 e2 e3
theorem rows_inj (I : Inv X pins σ H s) {ts : List Addr} {xss yss : List (List V)} (h1 : RowsAt X.K H ts xss) (h2 : RowsAt X.K H ts yss) : xss = yss := by
  apply List.ext_getElem?
  intro k
  by_cases c : k < ts.length
  · have e : ts[k]? = some ts[k] := by simp
    have l1 : k < xss.length := by rw [← h1.1]; exact c
    have l2 : k < yss.length := by rw [← h2.1]; exact c
    have g1 : xss[k]? = some xss[k] := by simp
    have g2 : yss[k]? = some yss[k] := by simp
    rw [g1, g2, I.tuple_inj (h1.2 k _ _ e g1) (h2.2 k _ _ e g2)]
  · rw [List.getElem?_eq_none (by rw [← h1.1]; omega), List.getElem?_eq_none (by rw [← h2.1]; omega)]
end
def stN (z TI TO : Addr) (its ts : List Addr) (i : Nat) (h : Heap) : Prop := (∃ f0 f1, h.get? z = some (zobj f0 f1 TI TO) ∧ (f0 = .none ∨ ∃ n, f0 = rawInt n)) ∧ h.get? TI = some (tobj (its.map Value.ref)) ∧ (∃ os, os.length = its.length ∧ h.get? TO = some (tobj os)) ∧ ∀ (k : Nat) (it t : Addr), its[k]? = some it → ts[k]? = some t → h.IsTupleIter it t i
theorem vals_col {i : Nat} : ∀ {xss : List (List V)} {rows : List (Array Value)}, xss.length = rows.length → (∀ (k : Nat) (xs : List V) (us : Array Value), xss[k]? = some xs → rows[k]? = some us → Vals xs us.toList ∧ i < us.size) → Vals (col xss i) (tells rows i)
  | [], [], _, _ => .nil
  | [], _ :: _, l, _ => nomatch l
  | _ :: _, [], l, _ => nomatch l
  | xs :: xss, us :: rows, l, h => by
    obtain ⟨h1, h2⟩ := h 0 xs us rfl rfl
    have lx : i < xs.length := by
      rw [h1.length, Array.length_toList]
      exact h2
    have gx : xs[i]? = some xs[i] := by simp
    obtain ⟨u, hu, ru⟩ := h1.get gx
    have e1 : xs.getD i .non = xs[i] := by rw [List.getD_eq_getElem?_getD, gx]; rfl
    have e2 : us.getD i .none = u := by
      rw [Array.getElem?_toList] at hu
      rw [Array.getD_eq_getD_getElem?, hu]
      rfl
    refine .cons ?_ (vals_col (by simpa using l) fun k xs us e1 e2 => h (k + 1) xs us e1 e2)
    show L2.RelV (xs.getD i .non) (us.getD i .none)
    rw [e1, e2]
    exact ru
theorem turnN {P : Program} {w : World} {K : PySem.W.Frag} {n : Str} {tpos : Pos} {x : Addr} {rest ts : List Addr} {z TI TO : Addr} (S : SepN z TI TO (x :: rest) ts) (l1 : (x :: rest).length = ts.length) (l5 : ts.length ≤ 1000) :
    Turn P w K (.Name n tpos) (ItN K ts) (z :: TI :: TO :: x :: rest) z (stN z TI TO (x :: rest) ts) where
  mem := by simp
  obj := fun i h st c hc => by
    obtain ⟨⟨f0, f1, hz, _⟩, hTI, ⟨os, _, hTO⟩, hit⟩ := st
    rcases List.mem_cons.mp hc with q | hc
    · rw [q]
      exact ⟨_, hz, fun v q => nomatch q⟩
    rcases List.mem_cons.mp hc with q | hc
    · rw [q]
      exact ⟨_, hTI, fun v q => nomatch q⟩
    rcases List.mem_cons.mp hc with q | hc
    · rw [q]
      exact ⟨_, hTO, fun v q => nomatch q⟩
    obtain ⟨k, hk, e⟩ := List.getElem_of_mem hc
    have lk : k < ts.length := by rw [← l1]; exact hk
    obtain ⟨o, ho, _, hd⟩ := hit k c ts[k] (by rw [List.getElem?_eq_getElem hk, e]) (by simp)
    exact ⟨o, ho, fun v q => by rw [hd] at q; cases q⟩
  keep := fun i h h' st k => by
    obtain ⟨⟨f0, f1, hz, hf⟩, hTI, ⟨os, lo, hTO⟩, hit⟩ := st
    exact ⟨⟨f0, f1, k z (by simp) _ hz, hf⟩, k TI (by simp) _ hTI, ⟨os, lo, k TO (by simp) _ hTO⟩, fun j it t e1 e2 => (hit j it t e1 e2).at fun o e => k it (by have := List.mem_of_getElem? e1; simp only [List.mem_cons] at this ⊢; exact .inr (.inr (.inr this))) o e⟩
  item := by
    intro X hP hw hK hc i pins s σ H E I hf st hg
    subst hP hw hK
    obtain ⟨⟨f0, f1, hz, hf0⟩, hTI, ⟨os, lo, hTO⟩, hit⟩ := st
    obtain ⟨xss, hx, lx⟩ := hg
    obtain ⟨rows, lr, al⟩ := rows_of I hx
    have hh : X.A.handled = none := I.ok.hd hc
    have am : Amid s.heap s.heap z TI TO (x :: rest) ts rows i 0 f0 f1 os := ⟨hz, hTI, hTO, fun k it t us e1 e2 e3 => by
      have lk := (List.getElem?_eq_some_iff.mp e2).1
      have lk2 : k < xss.length := by rw [← hx.1]; exact lk
      exact ⟨by show s.heap.IsTupleIter it t (if k < 0 then i + 1 else i); rw [if_neg (Nat.not_lt_zero _)]; exact hit k it t e1 e2, (al k t xss[k] us e2 (by simp) e3).1⟩, rfl, fun c o _ _ _ e => e⟩
    have szs : ∀ us ∈ rows, i < us.size := fun us hu => by
      obtain ⟨k, hk, e⟩ := List.getElem_of_mem hu
      have lk : k < ts.length := by omega
      have lk2 : k < xss.length := by rw [← hx.1]; exact lk
      rw [(al k ts[k] xss[k] us (by simp) (by simp) (by rw [List.getElem?_eq_getElem hk, e])).2.2]
      exact lx _ (List.getElem_mem lk2)
    refine zip_item hh S am hf0 l1 (by omega) lo szs (by omega) fun h' tk t => ?_
    refine ⟨_, rfl, ?_⟩
    have tup := t.tup
    have new : ObjOk X.prog X.w (upd H s.heap.objs.size (.tup (col xss i))) h' s.heap.objs.size (.tup (col xss i)) := by
      refine ⟨?_, tells rows i, vals_col (by rw [← hx.1]; omega) fun k xs us e1 e2 => ?_, ⟨_, tup, rfl, _, rfl⟩⟩
      · show (col xss i).length ≤ sizeLine
        unfold col
        rw [List.length_map, ← hx.1]
        exact Nat.le_of_lt (small1000 l5)
      · have lk := (List.getElem?_eq_some_iff.mp e1).1
        have lk2 : k < ts.length := by rw [hx.1]; exact lk
        obtain ⟨_, g2, g3⟩ := al k ts[k] xs us (by simp) e1 e2
        exact ⟨g2, szs us (List.mem_of_getElem? e2)⟩
    have I1 : Inv X pins σ (upd H s.heap.objs.size (.tup (col xss i))) { s with heap := h', toks := tk } := by
      refine I.turnedNew (t' := tk) (ch := z :: TI :: TO :: x :: rest) (fun c o hb q => ?_) hf (Nat.le_refl _) new
      simp only [List.mem_cons, not_or] at hb
      exact t.kp c o hb.1 hb.2.2.1 (by simp only [List.mem_cons, not_or]; exact hb.2.2.2) q
    refine wpAny_pure ⟨.ref s.heap.objs.size, _, I1, rfl, ⟨_, rfl, I.hok.fresh (Nat.le_refl _), col xss i, rfl, fun yss hy => by rw [rows_inj I hy hx]⟩, ?_, fun c hcm => ?_⟩
    · obtain ⟨g0, g1, hz', hg0⟩ := t.zo
      obtain ⟨os', lo', hTO'⟩ := t.to
      refine ⟨⟨g0, g1, hz', hg0⟩, t.ti, ⟨os', lo', hTO'⟩, fun k it tt e1 e2 => ?_⟩
      have lk := (List.getElem?_eq_some_iff.mp e2).1
      have lk2 : k < rows.length := by omega
      exact (t.st k it tt rows[k] e1 e2 (by simp)).1
    · have lt : c < s.heap.objs.size := by
        rcases List.mem_cons.mp hcm with q | hcm
        · rw [q]
          exact Heap.lt_size hz
        rcases List.mem_cons.mp hcm with q | hcm
        · rw [q]
          exact Heap.lt_size hTI
        rcases List.mem_cons.mp hcm with q | hcm
        · rw [q]
          exact Heap.lt_size hTO
        obtain ⟨k, hk, e⟩ := List.getElem_of_mem hcm
        have lk : k < ts.length := by rw [← l1]; exact hk
        obtain ⟨o, ho, _⟩ := hit k c ts[k] (by rw [List.getElem?_eq_getElem hk, e]) (by simp)
        exact Heap.lt_size ho
      rw [upd_ne (Nat.ne_of_lt lt)]
      exact (hf c hcm).1
  done := by
    intro X hP hw hK hc i pins s σ H E I hf st hg
    subst hP hw hK
    obtain ⟨⟨f0, f1, hz, hf0⟩, hTI, ⟨os, lo, hTO⟩, hit⟩ := st
    obtain ⟨xss, hx, lx⟩ := hg
    obtain ⟨rows, lr, al⟩ := rows_of I hx
    have hh : X.A.handled = none := I.ok.hd hc
    have am : Amid s.heap s.heap z TI TO (x :: rest) ts rows i 0 f0 f1 os := ⟨hz, hTI, hTO, fun k it t us e1 e2 e3 => by
      have lk := (List.getElem?_eq_some_iff.mp e2).1
      have lk2 : k < xss.length := by rw [← hx.1]; exact lk
      exact ⟨by show s.heap.IsTupleIter it t (if k < 0 then i + 1 else i); rw [if_neg (Nat.not_lt_zero _)]; exact hit k it t e1 e2, (al k t xss[k] us e2 (by simp) e3).1⟩, rfl, fun c o _ _ _ e => e⟩
    have szs : ∀ us ∈ rows, us.size = i := fun us hu => by
      obtain ⟨k, hk, e⟩ := List.getElem_of_mem hu
      have lk : k < ts.length := by omega
      have lk2 : k < xss.length := by rw [← hx.1]; exact lk
      rw [(al k ts[k] xss[k] us (by simp) (by simp) (by rw [List.getElem?_eq_getElem hk, e])).2.2]
      exact lx _ (List.getElem_mem lk2)
    refine zip_end hh S am hf0 l1 (by omega) szs fun h' tk hk => ⟨rfl, ?_⟩
    refine I.turnedL (t' := tk) (ch := z :: TI :: TO :: x :: rest) (fun c o hb q => ?_) hf
    simp only [List.mem_cons, not_or] at hb
    exact hk c o hb.1 hb.2.2.1 (by simp only [List.mem_cons, not_or]; exact hb.2.2.2) q
  self := fun A i s Q E st h => by
    obtain ⟨⟨f0, f1, hz, _⟩, _⟩ := st
    have hT : s.TypeIs (.ref z) "zip" := ⟨_, hz, rfl⟩
    refine wpAny_pyIter_slot hT F.slot_zip_iter (wpAny_call_entry F.slot_zip_iter hT F.entry_zip_iter (?_ : wpAny _ _ (ret (.ref z)) _ _ s) (F.args_zip_iter_1 _))
    exact wpAny_pure ⟨_, rfl, "zip", _, hT, F.slot_zip_next.lookup, h⟩
theorem callWith_starT {M : Model} {A : Around} {E : Value → Shared → Prop} {s : Shared} {env : Env} {pos p : Pos} {T : String} {e : Expr} {Q : Value → Shared → Prop} (h : wpAny M A (eval e env) (fun v s1 => PySem.W.StarOf M A E v (fun vs s2 => wpAny M A (call (.type T) vs) Q E s2) s1) E s)
    (he : starEach [.Starred e p] env = [(true, eval e env)] := by rfl) : wpAny M A (callWith pos (.type T) [] (backTo pos (starEach [.Starred e p] env)) []) Q E s := by
  rw [he]
  refine PySem.W.ks_call (P := fun _ => True) rfl (fun h _ => ⟨.machine, .inr (.inl rfl), ?_⟩) (PySem.W.ks_lone ?_)
  · exact fun A Q E s _ q => wpAny_pure q
  · refine wpAny_mono h (fun v s1 h1 => ?_) fun _ _ z => z
    unfold PySem.W.StarOf at h1 ⊢
    exact wpAny_mono h1 (fun b s2 ⟨hb, h2⟩ => ⟨hb, wpAny_mono h2 (fun vs s3 h3 => ⟨trivial, h3⟩) fun _ _ z => z⟩) fun _ _ z => z
def iZipN (K : PySem.W.Frag) (te : TE) : TI := fun σ H R => te σ H fun x H1 => ∃ (p : Addr) (ts : List Addr) (xss : List (List V)), x = .ref p ∧ (SqT K H1 p (ts.map V.ref) ∨ SqL K H1 p (ts.map V.ref)) ∧ 1 ≤ ts.length ∧ ts.length ≤ 5 ∧ RowsAt K H1 ts xss ∧ R (ItN K ts) H1
theorem vals_refs : ∀ {ts : List Addr} {us : List Value}, Vals (ts.map V.ref) us → us = ts.map Value.ref
  | [], _, .nil => rfl
  | t :: ts, _, .cons r h => by
    cases (show _ = Value.ref t from r)
    rw [vals_refs h]
    rfl
theorem newIts_at (h : Heap) {n k : Nat} {it : Addr} (e : (newIts h n)[k]? = some it) : it = h.objs.size + k ∧ k < n := by
  have lk : k < n := by
    have := (List.getElem?_eq_some_iff.mp e).1
    simpa [newIts] using this
  unfold newIts at e
  rw [List.getElem?_map, List.getElem?_range lk] at e
  exact ⟨(Option.some.inj e).symm, lk⟩
theorem pi_zipN {X : Cx} {n : Str} {e : Expr} {te : TE} {p sp pos tpos : Pos} (hg : Gl X "zip") (hm : X.mg "zip" = none) (he : PE X e te)
    (hst : starEach [.Starred e sp] X.env = [(true, eval e X.env)] := by rfl) : PI X (.Name n tpos) (.Call (.Name "zip" p) [.Starred e sp] [] pos) (iZipN X.K te) := by
  refine ⟨fun pins s σ H R I h => Call_ (ld_blt I hg hm PyProof.Rows.boot_zip (callWith_starT (thn (he.run pins s σ H _ I h) fun v s1 ⟨y, H1, I1, ry, q1⟩ => ?_) hst))⟩
  obtain ⟨a, ts, xss, rfl, hq, l1, l5, hx, q⟩ := q1
  obtain rfl : v = Value.ref a := ry
  refine StX.star_any I1 hq fun us s2 I2 rv => ?_
  rw [vals_refs rv]
  obtain ⟨rows, lr, al⟩ := rows_of I2 hx
  have ht : ∀ t ∈ ts, ∃ us, s2.heap.IsTuple t us := fun t htm => by
    obtain ⟨k, hk, e⟩ := List.getElem_of_mem htm
    have lk2 : k < xss.length := by rw [← hx.1]; exact hk
    have lk3 : k < rows.length := by omega
    exact ⟨_, (al k t xss[k] rows[k] (by rw [List.getElem?_eq_getElem hk, e]) (by simp) (by simp)).1⟩
  have lt : ∀ t ∈ ts, t < s2.heap.objs.size := fun t htm => by
    obtain ⟨us, o, e, _⟩ := ht t htm
    exact Heap.lt_size e
  refine zip_begins ht l5 ?_
  have z1 : (pushAll s2.heap ts).objs.size = s2.heap.objs.size + ts.length := pushAll_size ts _
  have z2 : (zT s2.heap ts).objs.size = s2.heap.objs.size + ts.length + 1 := by
    have : (zT s2.heap ts).objs.size = (pushAll s2.heap ts).objs.size + 1 := Heap.size_push ..
    rw [this, z1]
  have z3 : (zO s2.heap ts).objs.size = s2.heap.objs.size + ts.length + 2 := by
    have : (zO s2.heap ts).objs.size = (zT s2.heap ts).objs.size + 1 := Heap.size_push ..
    rw [this, z2]
  have gZ : (zZ s2.heap ts).get? (zO s2.heap ts).objs.size = some (zobj .none (.bool false) (pushAll s2.heap ts).objs.size (zT s2.heap ts).objs.size) := Heap.get?_push_size _ rfl
  have gO : (zZ s2.heap ts).get? (zT s2.heap ts).objs.size = some (tobj ((newIts s2.heap ts.length).map fun _ => Value.none)) := Heap.get?_push_of_some _ (Heap.get?_push_size _ rfl)
  have gT : (zZ s2.heap ts).get? (pushAll s2.heap ts).objs.size = some (tobj ((newIts s2.heap ts.length).map Value.ref)) := Heap.get?_push_of_some _ (Heap.get?_push_of_some _ (Heap.get?_push_size _ rfl))
  have old : ∀ c o, s2.heap.get? c = some o → (zZ s2.heap ts).get? c = some o := fun c o e => Heap.get?_push_of_some _ (Heap.get?_push_of_some _ (Heap.get?_push_of_some _ (pushAll_old ts _ c o e)))
  have gI : ∀ (k : Nat) (it t : Addr), (newIts s2.heap ts.length)[k]? = some it → ts[k]? = some t → (zZ s2.heap ts).IsTupleIter it t 0 := fun k it t e1 e2 => by
    obtain ⟨rfl, _⟩ := newIts_at _ e1
    exact ⟨_, Heap.get?_push_of_some _ (Heap.get?_push_of_some _ (Heap.get?_push_of_some _ (pushAll_at ts _ k t e2))), rfl, rfl⟩
  have mI : ∀ c ∈ newIts s2.heap ts.length, s2.heap.objs.size ≤ c ∧ c < s2.heap.objs.size + ts.length := fun c hc => by
    obtain ⟨k, hk, e⟩ := List.getElem_of_mem hc
    obtain ⟨rfl, lk⟩ := newIts_at (k := k) s2.heap (by rw [List.getElem?_eq_getElem hk, e])
    exact ⟨Nat.le_add_right _ _, Nat.add_lt_add_left lk _⟩
  have sep : SepN (zO s2.heap ts).objs.size (pushAll s2.heap ts).objs.size (zT s2.heap ts).objs.size (newIts s2.heap ts.length) ts := by
    refine ⟨?_, fun m => ?_, fun m => ?_, fun m => ?_, fun m => ?_, fun m => ?_, fun c hc m => ?_, ?_, ?_, ?_⟩
    · unfold newIts List.Nodup
      rw [List.pairwise_map]
      exact (List.nodup_range (n := ts.length)).imp fun h z => h (Nat.add_left_cancel z)
    · have := (mI _ m).2
      rw [z3] at this
      exact Nat.lt_irrefl _ (Nat.lt_of_lt_of_le this (show s2.heap.objs.size + ts.length ≤ s2.heap.objs.size + ts.length + 2 by omega))
    · have := (mI _ m).2
      rw [z1] at this
      exact absurd this (Nat.lt_irrefl _)
    · have := (mI _ m).2
      rw [z2] at this
      exact Nat.lt_irrefl _ (Nat.lt_of_lt_of_le this (show s2.heap.objs.size + ts.length ≤ s2.heap.objs.size + ts.length + 1 by omega))
    · have := lt _ m
      rw [z3] at this
      exact Nat.lt_irrefl _ (Nat.lt_of_lt_of_le this (show s2.heap.objs.size ≤ s2.heap.objs.size + ts.length + 2 by omega))
    · have := lt _ m
      rw [z2] at this
      exact Nat.lt_irrefl _ (Nat.lt_of_lt_of_le this (show s2.heap.objs.size ≤ s2.heap.objs.size + ts.length + 1 by omega))
    · exact absurd (lt c m) (Nat.not_lt_of_le (mI c hc).1)
    · rw [z1, z3]
      exact Nat.ne_of_lt (by omega)
    · rw [z2, z3]
      exact Nat.ne_of_lt (by omega)
    · rw [z1, z2]
      exact Nat.ne_of_lt (by omega)
  have ln : (newIts s2.heap ts.length).length = ts.length := by simp [newIts]
  generalize hits : newIts s2.heap ts.length = its at gO gT gI mI sep ln
  match its, ln with
  | [], ln => exact absurd ln (by simp; omega)
  | x :: rest, ln =>
    have T := turnN (P := X.prog) (w := X.w) (K := X.K) (n := n) (tpos := tpos) sep ln (by omega)
    have new : ∀ c ∈ (zO s2.heap ts).objs.size :: (pushAll s2.heap ts).objs.size :: (zT s2.heap ts).objs.size :: x :: rest, s2.heap.objs.size ≤ c := fun c hc => by
      rcases List.mem_cons.mp hc with q | hc
      · rw [q, z3]
        omega
      rcases List.mem_cons.mp hc with q | hc
      · rw [q, z1]
        omega
      rcases List.mem_cons.mp hc with q | hc
      · rw [q, z2]
        omega
      exact (mI c hc).1
    have st0 : stN (zO s2.heap ts).objs.size (pushAll s2.heap ts).objs.size (zT s2.heap ts).objs.size (x :: rest) ts 0 (zZ s2.heap ts) := ⟨⟨_, _, gZ, .inl rfl⟩, gT, ⟨_, by simp, gO⟩, gI⟩
    refine T.self X.A 0 { s2 with heap := zZ s2.heap ts } _ _ st0 ?_
    exact ⟨_, _, _, _, H1, rfl, I2.kept (t' := s2.toks) old, T, st0, fun c hc => I2.fpOk (new c hc) (I2.hok.fresh (new c hc)), q⟩
theorem walkN {K : PySem.W.Frag} {ts : List Addr} {xss : List (List V)} {n : Nat} (hl : ∀ xs ∈ xss, xs.length = n) : Walk (ItN K ts) n (fun H => RowsAt K H ts xss) (fun i H v H' => ∃ T, v = .ref T ∧ H T = none ∧ H' = upd H T (.tup (col xss i))) := by
  refine ⟨fun i _ hi q => ⟨xss, q, fun xs hx => by rw [hl xs hx]; exact hi⟩, fun _ q => ⟨xss, q, hl⟩, ?_⟩
  rintro i H v H' _ q ⟨T, h1, h2, ys, h3, h4⟩
  exact ⟨T, h1, h2, by rw [h3, h4 xss q]⟩
theorem PE.or {X : Cx} {e : Expr} {t u : TE} (h1 : PE X e t) (h2 : PE X e u) : PE X e (fun σ H Q => t σ H Q ∨ u σ H Q) := ⟨fun pins s σ H Q I h => h.elim (h1.run pins s σ H Q I) (h2.run pins s σ H Q I)⟩
/-! ### t * 1, t * k -/
theorem tuple_mul1 (l : Addr) (items : Array Value) (n : Nat) (dd : Option Addr) (sl : Array (Option Value)) (u : Tok) :
    Meets (Builtin.«tuple.__mul__» ⟨[.ref l, .int 1 u], []⟩) (fun _ R s => s.heap.get? l = some { cls := .type "tuple", dict := dd, data := .seq items n, slots := sl } ∧ R (.ok (.ret (Value.ref l))) s) :=
  .of_wp fun prog w A R s h => by
    obtain ⟨hp, g, d, tk, os⟩ := s
    obtain ⟨hl, h⟩ := h
    have f1 := AutoSeq1.idx_int
    wp_walk using wpAny_loadPart' hl
    exact ⟨_, rfl, h⟩
def rRepT1 (K : PySem.W.Frag) : R2 := fun x y H Q => ∃ l xs, x = .ref l ∧ y = .int 1 ∧ SqT K H l xs ∧ Q (.ref l) H
theorem op_repT1 {X : Cx} : OpR X (binaryOp .Mult) (rRepT1 X.K) := by
  intro pins s σ H x y v u Q I rx ry h
  obtain ⟨l, xs, rfl, rfl, hT, q⟩ := h
  cases rx
  obtain ⟨t, rfl⟩ := ry
  obtain ⟨its, r, ⟨⟨cls, dd, data, sl⟩, ho, hc, n, hd⟩, hs⟩ := I.tuple hT
  simp only at hc hd
  subst hc hd
  refine wpAny_binaryOp_repeat_ref (T := "tuple") (U := "int") (by decide) ⟨_, ho, rfl⟩ (fun s' => typeIs_int s' 1 t) noFill_tuple_mul F.fills_int_mul F.slot_int_rmul repeat_tuple F.slot_int_index.lookup
    (call_meets F.slot_int_rmul (typeIs_int s 1 t) F.entry_int_rmul (F.args_int_rmul_2 _ _) (int_rmul_tuple 1 t l its.toArray n dd sl) ⟨ho, rfl, ⟨_, ho, rfl⟩, call_meets F.slot_tuple_mul ⟨_, ho, rfl⟩ F.entry_tuple_mul (F.args_tuple_mul_2 _ _) (tuple_mul1 l its.toArray n dd sl t) ⟨ho, ?_⟩⟩)
  exact ⟨.ref l, H, I, rfl, q⟩
theorem kIxT {X : Cx} {K : PySem.W.Frag} (h : X.K = K) : IxR X (rIxT K) := by
  subst h
  exact ix_tup
end Sw

set_option maxHeartbeats 4000000
namespace Sw
open PySem PySem.Spec PyProof.Rows L2
/-! ### enumerate(tuple) -/
def enO (it : Addr) : Obj := { cls := .type "enumerate", data := .fields #[.none, .bool false, .ref it, rawInt 0, .none, .none] }
theorem new_enum {v : Value} {o : Obj} {G : Heap → Prop} (B : Begins v o G) :
    Meets (Builtin.«enumerate.__new__» ⟨[.type "enumerate", v], []⟩) fun _ R s => G s.heap ∧
      R (.ok (.ret (.ref (s.heap.push o).objs.size))) { s with heap := (s.heap.push o).push (enO s.heap.objs.size) } :=
  .of_wp fun prog w A R s hs => by
    obtain ⟨hp, gl, dd, tk, oo⟩ := s
    obtain ⟨g1, hR⟩ := hs
    have sub := sub_enumerate
    have itr : ∀ {A2 : Around} {E2 : Value → Shared → Prop} {Q2 : Value → Shared → Prop}, Q2 (.ref hp.objs.size) ⟨hp.push o, gl, dd, tk, oo⟩ → wpAny (model prog w) A2 (pyIter v) Q2 E2 ⟨hp, gl, dd, tk, oo⟩ :=
      fun z => B.iter prog w _ _ ⟨hp, gl, dd, tk, oo⟩ _ g1 z
    wp_walk using itr
    refine wpAny_stack_any fun stk => wpAny_pure ?_
    split
    · rename_i cc _ _ _ _ _
      cases (cc == Value.type "enumerate")
      · wp_walk using itr
        exact ⟨_, rfl, hR⟩
      · wp_walk using itr
        exact ⟨_, rfl, hR⟩
    · wp_walk using itr
      exact ⟨_, rfl, hR⟩
theorem call_enumT {prog : Program} {w : World} {A : Around} {E : Value → Shared → Prop} {s : Shared} {a : Addr} {us : Array Value} {Q : Value → Shared → Prop} (hT : s.heap.IsTuple a us)
    (q : ∀ h2, IsEnum h2 (s.heap.objs.size + 1) s.heap.objs.size 0 .none → h2.IsTupleIter s.heap.objs.size a 0 → h2.objs.size = s.heap.objs.size + 2 → (∀ c o, s.heap.get? c = some o → h2.get? c = some o) → Q (.ref (s.heap.objs.size + 1)) { s with heap := h2 }) :
    wpAny (model prog w) A (call (.type "enumerate") [.ref a]) Q E s := by
  have B := begins_tuple a us
  refine callType_new F.called_enumerate (by decide) (F.typeCall_enumerate_1 _) (F.newCall_enumerate_1 _) (fun ob => F.args_object_init_2 ob _) F.entry_enumerate_new (new_enum B) ⟨hT, ?_⟩
  have sz := Heap.size_push s.heap { cls := .type "tuple_iterator", data := .fields #[.ref a, .int 0 0] }
  show _ ∧ _
  rw [sz]
  have en := Heap.get?_push_size (s.heap.push { cls := .type "tuple_iterator", data := .fields #[.ref a, .int 0 0] }) (o := enO s.heap.objs.size) rfl
  rw [sz] at en
  exact ⟨⟨_, en, rfl⟩, q _ en ⟨_, Heap.get?_push_of_some _ (Heap.get?_push_size _ rfl), rfl, rfl⟩ (by rw [Heap.size_push, sz]) fun c o e => Heap.get?_push_of_some _ (Heap.get?_push_of_some _ e)⟩
def ItET (K : PySem.W.Frag) (a : Addr) : It :=
  ⟨fun i H => ∃ (xs : List V) (x : V), SqT K H a xs ∧ xs[i]? = some x,
   fun i H v H' => ∃ t x, v = .ref t ∧ H t = none ∧ H' = upd H t (.tup [.int (i : Nat), x]) ∧ ∀ xs, SqT K H a xs → xs[i]? = some x,
   fun i H => ∃ xs : List V, SqT K H a xs ∧ xs.length = i⟩
theorem turn_enumT {P : Program} {w : World} {K : PySem.W.Frag} {elts : List Expr} {kk : Nat} {tpos : Pos} (a e it : Addr) :
    Turn P w K (.Tuple elts kk tpos) (ItET K a) [e, it] e fun i h => (∃ old, IsEnum h e it (i : Nat) old) ∧ h.IsTupleIter it a i ∧ e ≠ it ∧ a ≠ it ∧ e ≠ a where
  mem := List.mem_cons_self ..
  obj := fun i h ⟨⟨old, he⟩, ⟨o, ho, _, hd⟩, _⟩ c hc => by
    rcases (by simpa using hc : c = e ∨ c = it) with rfl | rfl
    · exact ⟨_, he, fun v z => nomatch z⟩
    · exact ⟨o, ho, fun v z => by rw [hd] at z; cases z⟩
  keep := fun i h h2 ⟨⟨old, he⟩, hi, n1, n2, n3⟩ k => ⟨⟨old, k e (by simp) _ he⟩, Heap.IsTupleIter.at hi fun o z => k it (by simp) o z, n1, n2, n3⟩
  item := by
    rintro X rfl rfl rfl calm i pins s σ H E I hf ⟨⟨old, he⟩, hit, n1, n2, n3⟩ ⟨xs, x, hq, hx⟩
    obtain ⟨its, rv, tp, hz⟩ := I.tuple hq
    have D := Draws.tuple (prog := X.prog) (w := X.w) (A := X.A.in1) (I.ok.hd calm) it a n2 its.toArray
    have li : i < its.toArray.size := by
      have l1 := (List.getElem?_eq_some_iff.mp hx).1
      have l2 := rv.length
      simp
      omega
    obtain ⟨u, hu, ru⟩ := rv.get hx
    have le : e < s.heap.objs.size := Heap.lt_size he
    have lit : it < s.heap.objs.size := by
      obtain ⟨_, z, _⟩ := hit
      exact Heap.lt_size z
    refine wpAny_pyNext_enum_itemC D he ⟨hit, tp⟩ li n1 (by simp [n1, n3]) fun y h2 tk hy ho st2 hT hsz hk => ⟨_, rfl, ?_⟩
    obtain rfl : y = u := by
      have hy : its.toArray[i]? = some y := hy
      rw [List.getElem?_toArray, hu] at hy
      exact (Option.some.inj hy).symm
    refine wpAny_letOwnedTupleGo_enum (s := { s with heap := h2, toks := tk + 1 }) ho fun h3 he3 sb => ?_
    have hT3 := (sb.2 _ (Nat.ne_of_gt le)).trans hT
    have ok : ObjOk X.prog X.w (upd H s.heap.objs.size (.tup [.int (i : Nat), x])) h3 s.heap.objs.size (.tup [.int (i : Nat), x]) :=
      ⟨by show 2 ≤ sizeLine; decide, [.int i tk, y], .cons ⟨_, rfl⟩ (.cons ru .nil), ⟨_, hT3, rfl, _, rfl⟩⟩
    have I3 : Inv X pins σ (upd H s.heap.objs.size (.tup [.int (i : Nat), x])) { s with heap := h3, toks := tk + 1 } :=
      I.turnedNew (ch := [e, it]) (fun c o hc z => (sb.2 c fun k => hc (by simp [k])).trans (hk c o (fun k => hc (by simp [k])) (fun k => hc (by simp [k])) z)) hf (Nat.le_refl _) ok
    have st3 : h3.IsTupleIter it a (i + 1) := Heap.IsTupleIter.at st2.1 fun o z => (sb.2 it n1.symm).trans z
    refine ⟨.ref s.heap.objs.size, _, I3, rfl, ⟨_, x, rfl, I.hok.fresh (Nat.le_refl _), rfl, fun ys hy => by rw [I.tuple_inj hy hq]; exact hx⟩, ⟨⟨y, ?_⟩, st3, n1, n2, n3⟩, fun c hc => ?_⟩
    · rw [show ((i + 1 : Nat) : Int) = (i : Int) + 1 by omega]
      exact he3
    · have lc : c < s.heap.objs.size := by
        rcases (by simpa using hc : c = e ∨ c = it) with rfl | rfl
        · exact le
        · exact lit
      rw [upd_ne (Nat.ne_of_lt lc)]
      exact (hf c hc).1
  done := by
    rintro X rfl rfl rfl calm i pins s σ H E I hf ⟨⟨old, he⟩, hit, n1, n2, n3⟩ ⟨xs, hq, hx⟩
    obtain ⟨its, rv, tp, hz⟩ := I.tuple hq
    obtain ⟨f0, f1, f2, f3, f4, f5⟩ := hf it (by simp)
    have D := Draws.tuple (prog := X.prog) (w := X.w) (A := X.A.in1) (I.ok.hd calm) it a n2 its.toArray
    have li : i = its.toArray.size := by
      have l2 := rv.length
      simp
      omega
    exact wpAny_pyNext_enum_endD D he ⟨li ▸ hit, tp⟩ fun h2 eb => ⟨rfl, I.turned (t' := s.toks) (fun c o hc z => eb c o hc z) f0 f1 f3 f4 f5⟩
  self := fun A i s Q E ⟨⟨_, he⟩, _⟩ q => wpAny_pyIter_enum he q
def iEnumT (K : PySem.W.Frag) (ta : TA) : TI := fun σ H R => ta σ H fun vs H1 => ∃ a xs, vs = [.ref a] ∧ SqT K H1 a xs ∧ R (ItET K a) H1
theorem pi_enumT {X : Cx} {e : Expr} {ta : TA} {p pos tpos : Pos} {elts : List Expr} {kk : Nat} (hg : Gl X "enumerate") (hm : X.mg "enumerate" = none) (ha : PA X [e] ta) (hs : starEach [e] X.env = [(false, eval e X.env)] := by rfl) :
    PI X (.Tuple elts kk tpos) (.Call (.Name "enumerate" p) [e] [] pos) (iEnumT X.K ta) := by
  refine ⟨fun pins s σ H R I h => Call_ (ld_blt I hg hm boot_enumerate (PyProof.Rows.callWith_type1 (thn (ha.run pos pins s σ H _ I h) fun us s1 ⟨vs, H1, I1, r1, q1⟩ => ?_) hs rfl))⟩
  obtain ⟨a, xs, rfl, hq, q⟩ := q1
  cases r1 with
  | cons r rr =>
    cases rr
    cases r
    obtain ⟨its, rv, tp, hz⟩ := I1.tuple hq
    have la : a < s1.heap.objs.size := by
      obtain ⟨_, z, _⟩ := tp
      exact Heap.lt_size z
    refine call_enumT tp fun h2 he hit hsz hk => wpAny_pyIter_enum he ?_
    refine ⟨s1.heap.objs.size + 1, [s1.heap.objs.size + 1, s1.heap.objs.size], _, _, H1, rfl, I1.kept (t' := s1.toks) hk, turn_enumT a (s1.heap.objs.size + 1) s1.heap.objs.size, ⟨⟨.none, he⟩, hit, Nat.succ_ne_self _, Nat.ne_of_lt la, (Nat.ne_of_lt (Nat.lt_succ_of_lt la)).symm⟩, fun c hc => ?_, q⟩
    have lc : s1.heap.objs.size ≤ c := by
      rcases (by simpa using hc : c = s1.heap.objs.size + 1 ∨ c = s1.heap.objs.size) with rfl | rfl
      · exact Nat.le_succ _
      · exact Nat.le_refl _
    exact I1.fpOk lc (I1.hok.fresh lc)
theorem walk_enumT {K : PySem.W.Frag} {a : Addr} {xs : List V} : Walk (ItET K a) xs.length (fun H => SqT K H a xs) (YPair (fun i => some (.int (i : Nat))) fun i => xs[i]?) :=
  ⟨fun i _ hi z => ⟨xs, xs[i], z, by simp [hi]⟩, fun _ z => ⟨xs, z, rfl⟩, fun i H v H2 _ z ⟨t, x, h1, h2, h3, h4⟩ => ⟨t, .int (i : Nat), x, h1, h2, h3, rfl, h4 xs z⟩⟩
end Sw

set_option maxHeartbeats 4000000
namespace Sw
open PySem PySem.Spec PyProof.Rows L2
/-! ### enumerate of a list or a tuple; dict comprehensions over any walk; a dict beside the bare one -/
theorem PI.or {X : Cx} {tg it : Expr} {u v : TI} (h1 : PI X tg it u) (h2 : PI X tg it v) : PI X tg it (fun σ H R => u σ H R ∨ v σ H R) := ⟨fun pins s σ H R I h => h.elim (h1.run pins s σ H R I) (h2.run pins s σ H R I)⟩
def ItES (kd : Bool) (K : PySem.W.Frag) (a : Addr) : It := match kd with
  | true => Ite K a
  | false => ItET K a
def iEnumS (K : PySem.W.Frag) (ta : TA) : TI := fun σ H R => ta σ H fun vs H1 => ∃ (a : Addr) (kd : Bool) (xs : List V), vs = [.ref a] ∧ SqK kd K H1 a xs ∧ R (ItES kd K a) H1
theorem pi_enumS {X : Cx} {e : Expr} {ta : TA} {p pos tpos : Pos} {elts : List Expr} {kk : Nat} (hg : Gl X "enumerate") (hm : X.mg "enumerate" = none) (ha : PA X [e] ta) (hs : starEach [e] X.env = [(false, eval e X.env)] := by rfl) :
    PI X (.Tuple elts kk tpos) (.Call (.Name "enumerate" p) [e] [] pos) (iEnumS X.K ta) := by
  refine ⟨fun pins s σ H R I h => Call_ (ld_blt I hg hm boot_enumerate (PyProof.Rows.callWith_type1 (thn (ha.run pos pins s σ H _ I h) fun us s1 ⟨vs, H1, I1, r1, q1⟩ => ?_) hs rfl))⟩
  obtain ⟨a, kd, xs, rfl, hq, q⟩ := q1
  have fp : ∀ c ∈ [s1.heap.objs.size + 1, s1.heap.objs.size], FpOk X pins H1 c := fun c hc => by
    have lc : s1.heap.objs.size ≤ c := by
      rcases (by simpa using hc : c = s1.heap.objs.size + 1 ∨ c = s1.heap.objs.size) with rfl | rfl
      · exact Nat.le_succ _
      · exact Nat.le_refl _
    exact I1.fpOk lc (I1.hok.fresh lc)
  cases r1 with
  | cons r rr =>
    cases rr
    cases r
    cases kd with
    | true =>
      obtain ⟨its, rv, tl, hz⟩ := I1.list hq
      refine call_enumerate_list tl.isList fun h2 he hit hsz hk => wpAny_pyIter_enum he ?_
      exact ⟨s1.heap.objs.size + 1, _, _, _, H1, rfl, I1.kept (t' := s1.toks) hk, turn_enum a (s1.heap.objs.size + 1) s1.heap.objs.size, ⟨⟨.none, he⟩, hit, Nat.succ_ne_self _⟩, fp, q⟩
    | false =>
      obtain ⟨its, rv, tp, hz⟩ := I1.tuple hq
      have la : a < s1.heap.objs.size := by
        obtain ⟨_, z, _⟩ := tp
        exact Heap.lt_size z
      refine call_enumT tp fun h2 he hit hsz hk => wpAny_pyIter_enum he ?_
      exact ⟨s1.heap.objs.size + 1, _, _, _, H1, rfl, I1.kept (t' := s1.toks) hk, turn_enumT a (s1.heap.objs.size + 1) s1.heap.objs.size, ⟨⟨.none, he⟩, hit, Nat.succ_ne_self _, Nat.ne_of_lt la, (Nat.ne_of_lt (Nat.lt_succ_of_lt la)).symm⟩, fp, q⟩
theorem walk_enumS {K : PySem.W.Frag} {a : Addr} {kd : Bool} {xs : List V} : Walk (ItES kd K a) xs.length (fun H => SqK kd K H a xs) (YPair (fun i => some (.int (i : Nat))) fun i => xs[i]?) := by
  cases kd
  · exact walk_enumT
  · exact walk_enum
theorem kEnumS {X : Cx} {K : PySem.W.Frag} {e : Expr} {ta : TA} {p pos tpos : Pos} {elts : List Expr} {kk : Nat} (h : X.K = K) (hg : Gl X "enumerate") (hm : X.mg "enumerate" = none) (ha : PA X [e] ta) (hs : starEach [e] X.env = [(false, eval e X.env)] := by rfl) :
    PI X (.Tuple elts kk tpos) (.Call (.Name "enumerate" p) [e] [] pos) (iEnumS K ta) := by
  subst h
  exact pi_enumS hg hm ha hs
def ItSq (kd : Bool) (K : PySem.W.Frag) (a : Addr) : It := match kd with
  | true => Itl K a
  | false => Itt K a
theorem walk_sq {K : PySem.W.Frag} {a : Addr} {kd : Bool} {xs : List V} : Walk (ItSq kd K a) xs.length (fun H => SqK kd K H a xs) (YAt xs) := by
  cases kd
  · exact walk_tup
  · exact walk_list
def iSq (K : PySem.W.Frag) (tl : TE) : TI := fun σ H R => tl σ H fun x H1 => ∃ (a : Addr) (kd : Bool) (xs : List V), x = .ref a ∧ SqK kd K H1 a xs ∧ R (ItSq kd K a) H1
theorem pi_sq {X : Cx} {tg l : Expr} {tl : TE} (hl : PE X l tl) : PI X tg l (iSq X.K tl) := by
  have z := pi_seq (tg := tg) hl
  refine ⟨fun pins s σ H R I h => thn (hl.run pins s σ H _ I h) fun v s1 ⟨x, H1, I1, r1, a, kd, xs, e, hq, q⟩ => ?_⟩
  subst e
  obtain rfl : v = Value.ref a := r1
  have fp : ∀ b ∈ [s1.heap.objs.size], FpOk X pins H1 b := fun b hb => by
    cases (List.mem_singleton.mp hb)
    exact I1.fpOk (Nat.le_refl _) (I1.hok.fresh (Nat.le_refl _))
  cases kd with
  | true =>
    obtain ⟨its, rv, p, hz⟩ := I1.list hq
    exact wpAny_pyIter_list p.isList ⟨s1.heap.objs.size, _, _, _, H1, rfl, I1.kept (t' := s1.toks) fun b o e => Heap.get?_push_of_some _ e, turn_list a _, ⟨_, Heap.get?_push_size _ rfl, rfl, rfl⟩, fp, q⟩
  | false =>
    obtain ⟨its, rv, p, hz⟩ := I1.tuple hq
    exact wpAny_pyIter_tuple (show s1.heap.IsTuple a its.toArray from p) ⟨s1.heap.objs.size, _, _, _, H1, rfl, I1.kept (t' := s1.toks) fun b o e => Heap.get?_push_of_some _ e, turn_tuple a _, ⟨_, Heap.get?_push_size _ rfl, rfl, rfl⟩, fp, q⟩
theorem kSq {X : Cx} {K : PySem.W.Frag} {tg l : Expr} {tl : TE} (h : X.K = K) (hl : PE X l tl) : PI X tg l (iSq K tl) := by
  subst h
  exact pi_sq hl
/-- a dict comprehension over a walk -/
theorem dc_it {J : It} {n : Nat} {G : Hp → Prop} {Y : Nat → Hp → V → Hp → Prop} (wk : Walk J n G Y) {g : TG} {tt : TT} {tk tv : TE} {vs : List Nat} {σ : L2.St} {H1 : Hp} {d : Addr} {Qd : Hp → Prop} (Pv : Nat → Hp → Prop) (h0 : Pv 0 (upd H1 d (.dK []))) (hG : ∀ i H, i ≤ n → Pv i H → G H)
    (hs : ∀ i x H H', i < n → Pv i H → Y i H x H' → g x (wipe σ vs) H' fun σ2 H2 => wipe σ2 vs = wipe σ vs ∧ tt σ2 H2 fun b H3 =>
      if b = true then tk σ2 H3 fun y H4 => tv σ2 H4 fun z H5 => ∃ kvs k, y = kV k ∧ H5 d = some (.dK kvs) ∧ kvs.length < sizeLine ∧ Pv (i + 1) (upd H5 d (.dK (putK kvs k z))) else Pv (i + 1) H3) (hd : ∀ H, Pv n H → Qd H) :
    ∃ W : Nat → Nat → Hp → Prop, (∃ m, W 0 m (upd H1 d (.dK []))) ∧ ∀ i m H, W i m H →
      (J.stop i H ∧ Qd H) ∨ (J.go i H ∧ ∃ Nx : Hp → Prop, (∀ H', Nx H' → ∃ m', m' < m ∧ W (i + 1) m' H') ∧ ∀ x H', J.yld i H x H' → g x (wipe σ vs) H' fun σ2 H2 => wipe σ2 vs = wipe σ vs ∧ tt σ2 H2 fun b H3 =>
        if b = true then tk σ2 H3 fun y H4 => tv σ2 H4 fun z H5 => ∃ kvs k, y = kV k ∧ H5 d = some (.dK kvs) ∧ kvs.length < sizeLine ∧ Nx (upd H5 d (.dK (putK kvs k z))) else Nx H3) := by
  refine ⟨fun i m H => m = n - i ∧ i ≤ n ∧ Pv i H, ⟨n, by simp, Nat.zero_le _, h0⟩, ?_⟩
  rintro i m H ⟨rfl, hi, p⟩
  have q := hG i H hi p
  by_cases hlt : i < n
  · exact .inr ⟨wk.goes i H hlt q, Pv (i + 1), fun H' p' => ⟨n - (i + 1), by omega, rfl, hlt, p'⟩, fun x H' y => hs i x H H' hlt p (wk.yields i H x H' hlt q y)⟩
  · obtain rfl : i = n := by omega
    exact .inl ⟨wk.stops H q, hd H p⟩
def rEqD0 : R2 := fun x y H Q => ∃ a b ks, x = .ref a ∧ y = .ref b ∧ H a = some (.dK ks) ∧ H b = some (.dK []) ∧ Q (.bl ks.isEmpty) H
theorem op_eqD0 {X : Cx} (hu : X.A.units < cLine) : OpR X (compareOp .Eq) rEqD0 := by
  intro pins s σ H x y v u Q I rx ry h
  obtain ⟨a, b, ks, rfl, rfl, ea, eb, q⟩ := h
  obtain rfl : v = Value.ref a := rx
  obtain rfl : u = Value.ref b := ry
  obtain ⟨_, ya, va, ra, da⟩ := (show ObjOk X.prog X.w H s.heap a (.dK ks) from I.hok a _ ea)
  obtain ⟨_, yb, vb, rb, db⟩ := (show ObjOk X.prog X.w H s.heap b (.dK []) from I.hok b _ eb)
  have l1 := ra.length
  have l2 := rb.length
  refine PySem.W.keq_eq (knd := mixKind X.prog X.w) (r := true) ya yb da db hu (fun e => ?_) (fin_bl I q ?_)
  · have z : va = [] := List.length_eq_zero_iff.mp (by rw [e, ← l2]; rfl)
    subst z
    exact .nil
  · rw [← l1, ← l2]
    cases ks <;> simp
end Sw

set_option maxHeartbeats 4000000
namespace Sw
open PySem PySem.Spec PyProof.Rows L2
/-! ### sorted(d.items()) of a dict of ints -/
def itemsK (p d : Addr) : HO := .ext fun h => h.IsItemsView p d
theorem itemsK_ok {P : Program} {w : World} {H : Hp} {h : Heap} {p d : Addr} (e : h.get? p = some { cls := .type "dict_items", data := .fields #[.ref d] }) : ObjOk P w H h p (itemsK p d) :=
  ⟨⟨_, e, rfl, rfl⟩, ⟨_, e⟩, fun h1 h2 x k => let ⟨o, ho, r⟩ := x; ⟨o, k o ho, r⟩⟩
section
variable {X : Cx}
def rItemsK : V → List V → Hp → VK → Prop := fun x xs H Q => ∃ (a : Addr) (kvs : List (Key × V)), x = .ref a ∧ xs = [] ∧ H a = some (.dK kvs) ∧ ∀ p, H p = none → Q (.ref p) (upd H p (itemsK p a))
theorem mt_itemsK : MtR X "dict.items" rItemsK := by
  intro pins s σ H x xs v us Q I rx rxs h
  obtain ⟨a, kvs, rfl, rfl, ha, q⟩ := h
  cases rx
  cases rxs
  obtain ⟨hz, hs0, vs, kv, hdo⟩ := dk_of I.hok ha
  have hf : H s.heap.objs.size = none := I.hok.fresh (Nat.le_refl _)
  refine call_meetsIn PySem.F.slot_dict_items hdo.typeIs PySem.F.entry_dict_items (PySem.F.args_dict_items_1 _) (meets_dict_items (mixKind X.prog X.w) a hs0) ⟨⟨vs, hdo⟩, ?_⟩
  exact ⟨.ref s.heap.objs.size, upd H s.heap.objs.size (itemsK s.heap.objs.size a), I.laid (t' := s.toks) (fun b u e => Heap.get?_push_of_some _ e) (Nat.le_refl _) (itemsK_ok (Heap.get?_push_size _ rfl)), rfl, q _ hf⟩
/-- the tuples laid, and a list of some arrangement of them at L -/
theorem laidS {pins : List (Addr × Obj)} {σ : L2.St} {H : Hp} {s : Shared} {h' : Heap} {tk : Nat} {kvs : List (Key × V)} {vs : List (Key × Value)} {L : Addr} {as zs : List Addr} (I : Inv X pins σ H s) (hz : kvs.length ≤ sizeLine) (kv : KV kvs vs)
    (hk : ∀ b o, s.heap.get? b = some o → h'.get? b = some o) (newS : H L = none) (lowL : ∀ b o, s.heap.get? b = some o → b ≠ L) (hLn : L ∉ as) (hS : ∃ c, h'.get? L = some { cls := .type "list", dict := none, data := .seq (zs.map Value.ref).toArray c, slots := #[] }) (hl : as.length = vs.length) (pm : zs.Perm as) {lo : Addr} (hlo : s.heap.objs.size ≤ lo + 1) (hG : PySem.W.KdxG (mixKind X.prog X.w) vs lo h' as) :
    ∃ H' : Hp, (∀ b o, H b = some o → H' b = some o) ∧ H L = none ∧ (∀ t ∈ as, H t = none) ∧ H' L = some (.lst (zs.map V.ref)) ∧ Paired (fun (t : Addr) (q : Key × V) => H' t = some (.tup [kV q.1, q.2])) as kvs ∧ Inv X pins σ H' { s with heap := h', toks := tk } := by
  have lk : kvs.length = vs.length := Paired.length kv
  have above : ∀ t ∈ as, s.heap.objs.size ≤ t := fun t ht => by
    have := hG.above t ht
    exact Nat.le_trans hlo this
  have nd : as.Nodup := List.Pairwise.imp (fun {a b} (h : a < b) => Nat.ne_of_lt h) hG.rise
  have new : ∀ t ∈ as, H t = none := fun t ht => I.hok.fresh (above t ht)
  have atP := LiI.putT_at as kvs (upd H L (.lst (zs.map V.ref))) (by omega) nd
  have off : ∀ b, b ∉ as → b ≠ L → LiI.putT (upd H L (.lst (zs.map V.ref))) as kvs b = H b := fun b h1 h2 => by rw [LiI.putT_off as kvs _ h1, upd_ne h2]
  have low : ∀ b o, s.heap.get? b = some o → b ∉ as ∧ b ≠ L := fun b o e => ⟨fun z => absurd (Heap.lt_size e) (Nat.not_lt.mpr (above b z)), lowL b o e⟩
  have kp : ∀ b u, H b = some u → (LiI.putT (upd H L (.lst (zs.map V.ref))) as kvs) b = some u := fun b u e => by
    rw [off b (fun z => by rw [new b z] at e; cases e) (fun z => by rw [z, newS] at e; cases e)]
    exact e
  have eS : LiI.putT (upd H L (.lst (zs.map V.ref))) as kvs L = some (.lst (zs.map V.ref)) := by rw [LiI.putT_off as kvs _ hLn, upd_same]
  refine ⟨LiI.putT (upd H L (.lst (zs.map V.ref))) as kvs, kp, newS, new, eS, atP, ?_⟩
  refine I.call' (ch := []) rfl ⟨fun b o q _ _ _ => hk b o q, fun b o q _ _ _ => ⟨o.slots, hk b o q⟩, fun b o q n _ => ?_, fun b o q _ => ⟨o, hk b o q⟩, fun b xs q => kp b _ q, fun b o u q => kp b _ q, fun b ps q => ⟨#[], by rw [kp b _ q]; simp⟩⟩ (fun b u q => ?_) I.bare fun b z => by simp at z
  · obtain ⟨z1, z2⟩ := low b o q
    rw [off b z1 z2]
    exact n
  · by_cases hb : b ∈ as
    · obtain ⟨j, pk, e1, e2, e3⟩ := LiI.paired_ix atP hb
      rw [e3] at q
      cases q
      obtain ⟨key, k, x, f1, f2, f3⟩ := hG.pairs j b e1
      obtain ⟨qv, g1, g2, g3⟩ := LiI.paired_get kv e2
      rw [f1] at g1
      cases g1
      have rk : RelV (kV pk.1) key := by
        rw [g2]
        exact relV_key (show keyIs k key = true from f2)
      exact ⟨by show 2 ≤ sizeLine; decide, [key, x], .cons rk (.cons g3 .nil), ⟨_, f3, rfl, _, rfl⟩⟩
    · by_cases hb2 : b = L
      · rw [hb2] at q ⊢
        rw [eS] at q
        cases q
        obtain ⟨c, hS⟩ := hS
        exact ⟨by rw [List.length_map, pm.length_eq]; omega, zs.map Value.ref, c, LiI.vals_refs zs, hS⟩
      · rw [off b hb hb2] at q
        exact (I.hok b u q).stay (fun d v _ y => hk d v y) (fun d y => kp d _ y) fun d xs y => kp d _ y
/-- the two numbers of the pair at a place -/
def prOf (h : Heap) : Value → Int × Int
  | .ref a => (match h.get? a with
    | some ⟨_, _, .seq us _, _⟩ => (match us.toList with
      | [.int x _, .int y _] => (x, y)
      | _ => (0, 0))
    | _ => (0, 0))
  | _ => (0, 0)
def rSortIK : List V → Hp → VK → Prop := fun xs H Q => ∃ (p a : Addr) (fx : List (Int × Int)), xs = [.ref p] ∧ H p = some (itemsK p a) ∧ H a = some (.dK (fx.map fun q => (.inl q.1, .int q.2))) ∧ fx.length ≤ 900 ∧
  ∀ (H' : Hp) (L : Addr) (as zs : List Addr) (fy : List (Int × Int)), (∀ b o, H b = some o → H' b = some o) → H L = none → (∀ t ∈ as, H t = none) → H' L = some (.lst (zs.map V.ref)) → zs.Perm as → fy.Perm fx → zs.length = fy.length →
    (∀ (i : Nat) (t : Addr) (q : Int × Int), zs[i]? = some t → fy[i]? = some q → H' t = some (.tup [.int q.1, .int q.2])) → fy.Pairwise (fun x y => SrtO.lexB y x = false) → Q (.ref L) H'
theorem cr_sortIK (hc : X.calm = true) : CallR X (.builtin "sorted") rSortIK := by
  intro pins s σ H xs us Q I r h
  obtain ⟨p, a, fx, rfl, hp, ha, h9, q⟩ := h
  obtain rfl := Vals.ref1 r
  have view : s.heap.IsItemsView p a := (show ObjOk X.prog X.w H s.heap p (itemsK p a) from I.hok p _ hp).1
  obtain ⟨hz, hs0, vs, kv, hdo⟩ := dk_of I.hok ha
  obtain ⟨ep, hat⟩ := hdo.dictAt
  have lk : (fx.map fun q => ((.inl q.1 : Key), V.int q.2)).length = vs.length := Paired.length kv
  rw [List.length_map] at lk
  refine Calls.call_function_entry PyProof.Rows.kind_sorted PyProof.Rows.plain_sorted PyProof.Rows.entry_sorted (PyProof.Rows.args_sorted1 _) ?_
  unfold Builtin.«sorted»
  refine wpAny_bind (m := checkCount "sorted" 1 1 _) (wpAny_pure ?_)
  refine wpAny_bind (PySem.W.kdx_collect (A := X.A.in1) (knd := mixKind X.prog X.w) (kvs := vs) (ep := ep) (I.ok.hd hc) view hat (by rw [sizeLine_eq]; omega) fun h' tk as hk hl hG => ?_)
  refine wpAny_bind (wpAny_newList ?_ (by rw [List.length_map, hl, sizeLine_eq]; omega))
  have pr : ∀ (j : Nat) (b : Addr), as[j]? = some b → ∃ (t1 t2 : Tok) (y : Int × Int), fx[j]? = some y ∧ h'.get? b = some { cls := .type "tuple", data := .seq #[.int y.1 t1, .int y.2 t2] } := fun j b e => by
    obtain ⟨key, k, x, f1, f2, f3⟩ := hG.pairs j b e
    have lj := (List.getElem?_eq_some_iff.mp e).1
    have ey : fx[j]? = some (fx[j]'(by omega)) := by simp
    obtain ⟨qv, g1, g2, g3⟩ := LiI.paired_get kv (i := j) (x := ((.inl (fx[j]'(by omega)).1 : Key), V.int (fx[j]'(by omega)).2)) (by rw [List.getElem?_map, ey]; rfl)
    rw [f1] at g1
    cases g1
    have rk : RelV (kV (.inl (fx[j]'(by omega)).1)) key := by
      rw [show (Sum.inl (fx[j]'(by omega)).1 : Key) = k from g2]
      exact relV_key (show keyIs k key = true from f2)
    obtain ⟨t1, rfl⟩ := rk
    obtain ⟨t2, rfl⟩ : ∃ t, x = .int (fx[j]'(by omega)).2 t := g3
    exact ⟨t1, t2, _, ey, f3⟩
  have hoL : (h'.push (seqObj "list" (as.map Value.ref).toArray 0)).get? h'.objs.size = some (seqObj "list" (as.map Value.ref).toArray 0) := Heap.get?_push_size _ rfl
  have push : ∀ b o, h'.get? b = some o → (h'.push (seqObj "list" (as.map Value.ref).toArray 0)).get? b = some o := fun b o e => Heap.get?_push_of_some _ e
  have kpr : ∀ (j : Nat) (b : Addr) (y : Int × Int), as[j]? = some b → fx[j]? = some y → prOf h' (.ref b) = y := fun j b y e1 e2 => by
    obtain ⟨t1, t2, y', e3, e4⟩ := pr j b e1
    rw [e2] at e3
    cases e3
    unfold prOf
    simp only [e4]
  have isP : ∀ v ∈ as.map Value.ref, Srt.IsPair (h'.push (seqObj "list" (as.map Value.ref).toArray 0)) v (prOf h' v).1 (prOf h' v).2 := fun v hv => by
    obtain ⟨b, hb, rfl⟩ := List.mem_map.mp hv
    obtain ⟨j, hj⟩ := List.mem_iff_getElem?.mp hb
    obtain ⟨t1, t2, y, e3, e4⟩ := pr j b hj
    rw [kpr j b y hj e3]
    exact ⟨b, _, t1, t2, 0, rfl, push _ _ e4, rfl, rfl⟩
  show wpAny _ _ _ _ _ { s with heap := h'.push (seqObj "list" (as.map Value.ref).toArray 0), toks := tk }
  refine wpAny_bind (wpAny_holding (wpAny_call_entry PyProof.Rows.slot_list_sort ⟨_, hoL, rfl⟩ PyProof.Rows.entry_list_sort
    (SrtO.list_sort_ord (s := { s with heap := h'.push (seqObj "list" (as.map Value.ref).toArray 0), toks := tk }) (SrtO.swo_lex (prOf h')) hoL (by rw [List.length_map, hl, sizeLine_eq]; omega) (fun h2 => SrtO.pairs_sortableO (by omega) isP fun o e => by
      have e' : some o = some (seqObj "list" (as.map Value.ref).toArray 0) := e.symm.trans hoL
      cases e'
      intro c
      exact absurd (Value.type.inj c) (by decide)) fun out hs hb => ⟨_, rfl, ?_⟩) (PyProof.Rows.args_list_sort _)))
  refine wpAny_pure ⟨_, rfl, ?_⟩
  have lo' : ∀ b o, h'.get? b = some o → b ≠ h'.objs.size := fun b o e => Nat.ne_of_lt (Heap.lt_size e)
  have kF : ∀ b o, h'.get? b = some o → (PyProof.Rows.sortedHeap (h'.push (seqObj "list" (as.map Value.ref).toArray 0)) h'.objs.size (as.map Value.ref) out.toArray).get? b = some o := fun b o e =>
    (PyProof.Rows.sortedHeap_old (lo' b o e) (Heap.lt_size (push b o e))).trans (push b o e)
  obtain ⟨eF, heF⟩ := PyProof.Rows.sortedHeap_at (vs := as.map Value.ref) (out := out.toArray) hoL
  let back : Value → Addr := fun v => match v with
    | .ref a => a
    | _ => 0
  have eB : (as.map Value.ref).map back = as := by
    rw [List.map_map]
    exact List.map_id as
  have pz : (out.map back).Perm as := by
    have z := hb.perm.map back
    rwa [eB] at z
  have eO : out = (out.map back).map Value.ref := by
    rw [List.map_map]
    refine (List.map_id out).symm.trans (List.map_congr_left fun v hv => ?_)
    obtain ⟨a', _, rfl⟩ := List.mem_map.mp (hb.perm.mem_iff.mp hv)
    rfl
  have nS : H h'.objs.size = none := (I.hok.kept hk).fresh (Nat.le_refl _)
  have hG2 : PySem.W.KdxG (mixKind X.prog X.w) vs s.heap.objs.size (PyProof.Rows.sortedHeap (h'.push (seqObj "list" (as.map Value.ref).toArray 0)) h'.objs.size (as.map Value.ref) out.toArray) as := ⟨hG.rise, hG.above, fun j b e => by
    obtain ⟨key, k, x, f1, f2, f3⟩ := hG.pairs j b e
    exact ⟨key, k, x, f1, f2, kF _ _ f3⟩⟩
  have nL : h'.objs.size ∉ as := fun m => by
    obtain ⟨j, hj⟩ := List.mem_iff_getElem?.mp m
    obtain ⟨t1, t2, y, e3, e4⟩ := pr j _ hj
    exact lo' _ _ e4 rfl
  obtain ⟨H', k1, k2, k3, k4, k5, J⟩ := laidS (tk := tk) (zs := out.map back) I hz kv (fun b o e => kF b o (hk b o e)) nS (fun b o e => lo' b o (hk b o e)) nL ⟨eF, by rw [← eO]; exact heF⟩ hl pz (Nat.le_succ _) hG2
  refine ⟨.ref h'.objs.size, H', J, rfl, ?_⟩
  have key : ∀ t ∈ as, H' t = some (.tup [.int (prOf h' (.ref t)).1, .int (prOf h' (.ref t)).2]) := fun t ht => by
    obtain ⟨j, hj⟩ := List.mem_iff_getElem?.mp ht
    obtain ⟨t1, t2, y, e3, e4⟩ := pr j t hj
    obtain ⟨j2, pk, f1, f2, f3⟩ := LiI.paired_ix k5 ht
    have nd : as.Nodup := List.Pairwise.imp (fun {a b} (h : a < b) => Nat.ne_of_lt h) hG.rise
    have ej : j = j2 := (List.getElem?_inj (List.getElem?_eq_some_iff.mp hj).1 nd).mp (hj.trans f1.symm)
    subst ej
    rw [List.getElem?_map, e3] at f2
    cases f2
    rw [kpr j t y hj e3]
    exact f3
  have eq : as.map (fun t => prOf h' (.ref t)) = fx := by
    apply List.ext_getElem?
    intro j
    rw [List.getElem?_map]
    cases e : as[j]? with
    | none =>
      have := List.getElem?_eq_none_iff.mp e
      exact (List.getElem?_eq_none (by omega)).symm
    | some b =>
      obtain ⟨t1, t2, y, e3, e4⟩ := pr j b e
      rw [e3]
      exact congrArg some (kpr j b y e e3)
  refine q H' h'.objs.size as (out.map back) ((out.map back).map fun t => prOf h' (.ref t)) k1 k2 k3 k4 pz (by rw [← eq]; exact pz.map _) (by simp) (fun i t y e1 e2 => ?_) ?_
  · rw [List.getElem?_map, e1] at e2
    cases e2
    exact key t (pz.mem_iff.mp (List.mem_of_getElem? e1))
  · have z : List.Pairwise (fun v u => SrtO.lexB (prOf h' u) (prOf h' v) = false) out := hs
    rw [eO, List.pairwise_map] at z
    rw [List.pairwise_map]
    exact z
end
end Sw

set_option maxHeartbeats 2000000
namespace Sw
open PySem PySem.Spec PyProof.Rows L2
def top (i : Nat) : Stmt := PySem.Challenge.pw_swayhalls_k10_whole_mirrors_of_balanced.main.body.getD i (.Pass ⟨0, 0, 0, 0⟩)
def retOf (s : Stmt) : Expr := match defBody s with
  | (.Return (some e) _) :: _ => e
  | _ => .Constant .none 0 ⟨0, 0, 0, 0⟩
def retAt (i : Nat) (s : Stmt) : Expr := match (defBody s).getD i (.Pass ⟨0, 0, 0, 0⟩) with
  | .Return (some e) _ => e
  | _ => .Constant .none 0 ⟨0, 0, 0, 0⟩
def valAt (i : Nat) (s : Stmt) : Expr := match (defBody s).getD i (.Pass ⟨0, 0, 0, 0⟩) with
  | .Assign _ e _ => e
  | _ => .Constant .none 0 ⟨0, 0, 0, 0⟩
def ifTest (i : Nat) (s : Stmt) : Expr := match (defBody s).getD i (.Pass ⟨0, 0, 0, 0⟩) with
  | .If t _ _ _ => t
  | _ => .Constant .none 0 ⟨0, 0, 0, 0⟩
def notAll : Expr → Expr
  | .BoolOp _ [_, .UnaryOp _ (.Call _ (e :: _) _ _) _] _ => e
  | e => e
def argOf : Expr → Expr
  | .Call _ (e :: _) _ _ => e
  | e => e
def lcScope : Expr → Scope
  | .ListComp _ _ sc _ => sc
  | _ => { kind := .function, names := [], isGenerator := false, isCoroutine := false }
def valIn (i j : Nat) (s : Stmt) : Expr := match (defBody s).getD i (.Pass ⟨0, 0, 0, 0⟩) with
  | .For _ _ body _ _ => (match body.getD j (.Pass ⟨0, 0, 0, 0⟩) with
    | .Assign _ e _ => e
    | _ => .Constant .none 0 ⟨0, 0, 0, 0⟩)
  | _ => .Constant .none 0 ⟨0, 0, 0, 0⟩
/-- the keyword-only default x of the def at f, if it is an object -/
def kwAt (f : Str × Option Str) (x : Str) (K : PySem.W.Frag) : Addr := match K.lookup (He.fAd K f) with
  | some ⟨_, _, .func fd, _⟩ => (match fd.kwdefaults with
    | .ref T => (match PySem.W.nsIn K T x with
      | some (some (.ref a)) => a
      | _ => 0)
    | _ => 0)
  | _ => 0
def rot3 {α : Type} : List α → List α
  | [a, b, c] => [b, c, a]
  | _ => []
theorem rot3_rel : ∀ {zs : List V} {ws : List Value}, Vals zs ws → Vals (rot3 zs) (rot3 ws)
  | _, _, .nil => .nil
  | _, _, .cons _ .nil => .nil
  | _, _, .cons _ (.cons _ .nil) => .nil
  | _, _, .cons a (.cons b (.cons c .nil)) => .cons b (.cons c (.cons a .nil))
  | _, _, .cons _ (.cons _ (.cons _ (.cons _ _))) => .nil
abbrev s_is_number : Stmt := top 6
abbrev n_is_number : List Str := ["thing"]
abbrev p_is_number : List Str := ["thing"]
theorem sc_is_number : FnScope n_is_number p_is_number (defScope s_is_number) := ⟨rfl, rfl, rfl, by decide +kernel, rfl, by decide +kernel, by decide +kernel⟩
abbrev s_are_numbers : Stmt := top 7
abbrev n_are_numbers : List Str := ["thing", "one"]
abbrev p_are_numbers : List Str := ["thing"]
theorem sc_are_numbers : FnScope n_are_numbers p_are_numbers (defScope s_are_numbers) := ⟨rfl, rfl, rfl, by decide +kernel, rfl, by decide +kernel, by decide +kernel⟩
abbrev s_are_rows : Stmt := top 8
abbrev n_are_rows : List Str := ["thing", "row"]
abbrev p_are_rows : List Str := ["thing"]
theorem sc_are_rows : FnScope n_are_rows p_are_rows (defScope s_are_rows) := ⟨rfl, rfl, rfl, by decide +kernel, rfl, by decide +kernel, by decide +kernel⟩
abbrev s_does_rise : Stmt := top 9
abbrev n_does_rise : List Str := ["numbers", "low", "high"]
abbrev p_does_rise : List Str := ["numbers"]
theorem sc_does_rise : FnScope n_does_rise p_does_rise (defScope s_does_rise) := ⟨rfl, rfl, rfl, by decide +kernel, rfl, by decide +kernel, by decide +kernel⟩
abbrev s_are_strings : Stmt := top 11
abbrev n_are_strings : List Str := ["thing", "row"]
abbrev p_are_strings : List Str := ["thing"]
theorem sc_are_strings : FnScope n_are_strings p_are_strings (defScope s_are_strings) := ⟨rfl, rfl, rfl, by decide +kernel, rfl, by decide +kernel, by decide +kernel⟩
abbrev s_is_ladder : Stmt := top 12
abbrev n_is_ladder : List Str := ["numbers"]
abbrev p_is_ladder : List Str := ["numbers"]
theorem sc_is_ladder : FnScope n_is_ladder p_is_ladder (defScope s_is_ladder) := ⟨rfl, rfl, rfl, by decide +kernel, rfl, by decide +kernel, by decide +kernel⟩
abbrev s_are_steps : Stmt := top 13
abbrev n_are_steps : List Str := ["thing", "persons", "row"]
abbrev p_are_steps : List Str := ["thing", "persons"]
theorem sc_are_steps : FnScope n_are_steps p_are_steps (defScope s_are_steps) := ⟨rfl, rfl, rfl, by decide +kernel, rfl, by decide +kernel, by decide +kernel⟩
abbrev s_is_memory : Stmt := top 14
abbrev n_is_memory : List Str := ["thing"]
abbrev p_is_memory : List Str := ["thing"]
theorem sc_is_memory : FnScope n_is_memory p_is_memory (defScope s_is_memory) := ⟨rfl, rfl, rfl, by decide +kernel, rfl, by decide +kernel, by decide +kernel⟩
abbrev s_as_tuples : Stmt := top 15
abbrev n_as_tuples : List Str := ["rows", "row"]
abbrev p_as_tuples : List Str := ["rows"]
theorem sc_as_tuples : FnScope n_as_tuples p_as_tuples (defScope s_as_tuples) := ⟨rfl, rfl, rfl, by decide +kernel, rfl, by decide +kernel, by decide +kernel⟩
abbrev s_Hall___init__ : Stmt := inClass (top 16) 0
abbrev n_Hall___init__ : List Str := ["self", "strings", "steps", "memory"]
abbrev p_Hall___init__ : List Str := ["self", "strings", "steps", "memory"]
theorem sc_Hall___init__ : FnScope n_Hall___init__ p_Hall___init__ (defScope s_Hall___init__) := ⟨rfl, rfl, rfl, by decide +kernel, rfl, by decide +kernel, by decide +kernel⟩
abbrev s_Hall_strings : Stmt := inClass (top 16) 1
abbrev n_Hall_strings : List Str := ["self"]
abbrev p_Hall_strings : List Str := ["self"]
theorem sc_Hall_strings : FnScope n_Hall_strings p_Hall_strings (defScope s_Hall_strings) := ⟨rfl, rfl, rfl, by decide +kernel, rfl, by decide +kernel, by decide +kernel⟩
abbrev s_Hall_steps : Stmt := inClass (top 16) 2
abbrev n_Hall_steps : List Str := ["self"]
abbrev p_Hall_steps : List Str := ["self"]
theorem sc_Hall_steps : FnScope n_Hall_steps p_Hall_steps (defScope s_Hall_steps) := ⟨rfl, rfl, rfl, by decide +kernel, rfl, by decide +kernel, by decide +kernel⟩
abbrev s_Hall_memory : Stmt := inClass (top 16) 3
abbrev n_Hall_memory : List Str := ["self"]
abbrev p_Hall_memory : List Str := ["self"]
theorem sc_Hall_memory : FnScope n_Hall_memory p_Hall_memory (defScope s_Hall_memory) := ⟨rfl, rfl, rfl, by decide +kernel, rfl, by decide +kernel, by decide +kernel⟩
abbrev s_Hall_tops : Stmt := inClass (top 16) 4
abbrev n_Hall_tops : List Str := ["self", "row"]
abbrev p_Hall_tops : List Str := ["self"]
theorem sc_Hall_tops : FnScope n_Hall_tops p_Hall_tops (defScope s_Hall_tops) := ⟨rfl, rfl, rfl, by decide +kernel, rfl, by decide +kernel, by decide +kernel⟩
abbrev s_Hall___len__ : Stmt := inClass (top 16) 6
abbrev n_Hall___len__ : List Str := ["self"]
abbrev p_Hall___len__ : List Str := ["self"]
theorem sc_Hall___len__ : FnScope n_Hall___len__ p_Hall___len__ (defScope s_Hall___len__) := ⟨rfl, rfl, rfl, by decide +kernel, rfl, by decide +kernel, by decide +kernel⟩
abbrev s_weighed : Stmt := top 22
abbrev n_weighed : List Str := ["hall", "past", "ahead", "postures", "weight", "posture"]
abbrev p_weighed : List Str := ["hall", "past"]
theorem sc_weighed : FnScope n_weighed p_weighed (defScope s_weighed) := ⟨rfl, rfl, rfl, by decide +kernel, rfl, by decide +kernel, by decide +kernel⟩
abbrev s_pulled_by : Stmt := top 23
abbrev n_pulled_by : List Str := ["row", "much", "string", "one"]
abbrev p_pulled_by : List Str := ["row", "much"]
theorem sc_pulled_by : FnScope n_pulled_by p_pulled_by (defScope s_pulled_by) := ⟨rfl, rfl, rfl, by decide +kernel, rfl, by decide +kernel, by decide +kernel⟩
abbrev s_pulls : Stmt := top 24
abbrev n_pulls : List Str := ["hall", "past", "much", "row"]
abbrev p_pulls : List Str := ["hall", "past"]
theorem sc_pulls : FnScope n_pulls p_pulls (defScope s_pulls) := ⟨rfl, rfl, rfl, by decide +kernel, rfl, by decide +kernel, by decide +kernel⟩
abbrev s_reached : Stmt := top 25
abbrev n_reached : List Str := ["steps", "pull", "step"]
abbrev p_reached : List Str := ["steps", "pull"]
theorem sc_reached : FnScope n_reached p_reached (defScope s_reached) := ⟨rfl, rfl, rfl, by decide +kernel, rfl, by decide +kernel, by decide +kernel⟩
abbrev s_as_held : Stmt := top 26
abbrev n_as_held : List Str := ["standing", "grips", "person", "posture"]
abbrev p_as_held : List Str := ["standing", "grips"]
theorem sc_as_held : FnScope n_as_held p_as_held (defScope s_as_held) := ⟨rfl, rfl, rfl, by decide +kernel, rfl, by decide +kernel, by decide +kernel⟩
abbrev s_grips_of : Stmt := top 27
abbrev n_grips_of : List Str := ["held", "person", "posture"]
abbrev p_grips_of : List Str := ["held"]
theorem sc_grips_of : FnScope n_grips_of p_grips_of (defScope s_grips_of) := ⟨rfl, rfl, rfl, by decide +kernel, rfl, by decide +kernel, by decide +kernel⟩
abbrev s_leant : Stmt := top 28
abbrev n_leant : List Str := ["hall", "past", "grips", "postures", "steps", "pull"]
abbrev p_leant : List Str := ["hall", "past", "grips"]
theorem sc_leant : FnScope n_leant p_leant (defScope s_leant) := ⟨rfl, rfl, rfl, by decide +kernel, rfl, by decide +kernel, by decide +kernel⟩
abbrev s_history : Stmt := top 29
abbrev n_history : List Str := ["hall", "past", "many", "held", "grips", "standings", "beat", "standing"]
abbrev p_history : List Str := ["hall", "past", "many", "held"]
theorem sc_history : FnScope n_history p_history (defScope s_history) := ⟨rfl, rfl, rfl, by decide +kernel, rfl, by decide +kernel, by decide +kernel⟩
abbrev s_Sway___init__ : Stmt := inClass (top 30) 0
abbrev n_Sway___init__ : List Str := ["self", "hall", "past", "held", "standing"]
abbrev p_Sway___init__ : List Str := ["self", "hall", "past", "held"]
theorem sc_Sway___init__ : FnScope n_Sway___init__ p_Sway___init__ (defScope s_Sway___init__) := ⟨rfl, rfl, rfl, by decide +kernel, rfl, by decide +kernel, by decide +kernel⟩
abbrev s_Sway_beat : Stmt := inClass (top 30) 1
abbrev n_Sway_beat : List Str := ["self", "many", "turn"]
abbrev p_Sway_beat : List Str := ["self", "many"]
theorem sc_Sway_beat : FnScope n_Sway_beat p_Sway_beat (defScope s_Sway_beat) := ⟨rfl, rfl, rfl, by decide +kernel, rfl, by decide +kernel, by decide +kernel⟩
abbrev s_Sway_past : Stmt := inClass (top 30) 2
abbrev n_Sway_past : List Str := ["self"]
abbrev p_Sway_past : List Str := ["self"]
theorem sc_Sway_past : FnScope n_Sway_past p_Sway_past (defScope s_Sway_past) := ⟨rfl, rfl, rfl, by decide +kernel, rfl, by decide +kernel, by decide +kernel⟩
abbrev s_middles : Stmt := top 18
abbrev n_middles : List Str := ["hall", "weight", "tops", "row", "string", "top"]
abbrev p_middles : List Str := ["hall"]
theorem sc_middles : FnScope n_middles p_middles (defScope s_middles) := ⟨rfl, rfl, rfl, by decide +kernel, rfl, by decide +kernel, by decide +kernel⟩
abbrev s_is_balanced : Stmt := top 19
abbrev n_is_balanced : List Str := ["hall", "person", "steps", "middle", "one", "other"]
abbrev p_is_balanced : List Str := ["hall", "person"]
theorem sc_is_balanced : FnScope n_is_balanced p_is_balanced (defScope s_is_balanced) := ⟨rfl, rfl, rfl, by decide +kernel, rfl, by decide +kernel, by decide +kernel⟩
abbrev s_mirror : Stmt := top 20
abbrev n_mirror : List Str := ["hall", "standing", "top", "posture"]
abbrev p_mirror : List Str := ["hall", "standing"]
theorem sc_mirror : FnScope n_mirror p_mirror (defScope s_mirror) := ⟨rfl, rfl, rfl, by decide +kernel, rfl, by decide +kernel, by decide +kernel⟩
abbrev s__law_box : Stmt := top 32
abbrev n__law_box : List Str := ["_law_script", "_law_k", "_law_cell"]
abbrev p__law_box : List Str := ["_law_script", "_law_k"]
theorem sc__law_box : FnScope n__law_box p__law_box (defScope s__law_box) := ⟨rfl, rfl, rfl, by decide +kernel, rfl, by decide +kernel, by decide +kernel⟩
abbrev s__law_take : Stmt := top 33
abbrev n__law_take : List Str := ["_law_box_here", "_law_below", "_law_once", "_law_found"]
abbrev p__law_take : List Str := ["_law_box_here", "_law_below"]
theorem sc__law_take : FnScope n__law_take p__law_take (defScope s__law_take) := ⟨rfl, rfl, rfl, by decide +kernel, rfl, by decide +kernel, by decide +kernel⟩
abbrev s__law_pick : Stmt := top 34
abbrev n__law_pick : List Str := ["_law_box_here", "_law_some"]
abbrev p__law_pick : List Str := ["_law_box_here", "_law_some"]
theorem sc__law_pick : FnScope n__law_pick p__law_pick (defScope s__law_pick) := ⟨rfl, rfl, rfl, by decide +kernel, rfl, by decide +kernel, by decide +kernel⟩
abbrev s__law_same : Stmt := top 35
abbrev n__law_same : List Str := ["_law_found", "_law_due", "_law_one", "_law_two"]
abbrev p__law_same : List Str := ["_law_found", "_law_due"]
theorem sc__law_same : FnScope n__law_same p__law_same (defScope s__law_same) := ⟨rfl, rfl, rfl, by decide +kernel, rfl, by decide +kernel, by decide +kernel⟩
abbrev s__law_number : Stmt := top 36
abbrev n__law_number : List Str := ["_law_box_here", "_law_widely", "_law_way"]
abbrev p__law_number : List Str := ["_law_box_here", "_law_widely"]
theorem sc__law_number : FnScope n__law_number p__law_number (defScope s__law_number) := ⟨rfl, rfl, rfl, by decide +kernel, rfl, by decide +kernel, by decide +kernel⟩
abbrev s__law_ties : Stmt := top 37
abbrev n__law_ties : List Str := ["_law_box_here", "_law_count", "_law_widely", "_law_one", "_law_other"]
abbrev p__law_ties : List Str := ["_law_box_here", "_law_count", "_law_widely"]
theorem sc__law_ties : FnScope n__law_ties p__law_ties (defScope s__law_ties) := ⟨rfl, rfl, rfl, by decide +kernel, rfl, by decide +kernel, by decide +kernel⟩
abbrev s__law_weights : Stmt := top 38
abbrev n__law_weights : List Str := ["_law_box_here", "_law_beats", "_law_found", "_law_k", "_law_last", "_law_way"]
abbrev p__law_weights : List Str := ["_law_box_here", "_law_beats"]
theorem sc__law_weights : FnScope n__law_weights p__law_weights (defScope s__law_weights) := ⟨rfl, rfl, rfl, by decide +kernel, rfl, by decide +kernel, by decide +kernel⟩
abbrev s__law_past : Stmt := top 39
abbrev n__law_past : List Str := ["_law_box_here", "_law_rungs", "_law_beats", "_law_k", "_law_some"]
abbrev p__law_past : List Str := ["_law_box_here", "_law_rungs", "_law_beats"]
theorem sc__law_past : FnScope n__law_past p__law_past (defScope s__law_past) := ⟨rfl, rfl, rfl, by decide +kernel, rfl, by decide +kernel, by decide +kernel⟩
abbrev s__law_pull : Stmt := top 40
abbrev n__law_pull : List Str := ["_law_row", "_law_weights_here", "_law_was", "_law_total", "_law_k", "_law_weight", "_law_tie", "_law_posture"]
abbrev p__law_pull : List Str := ["_law_row", "_law_weights_here", "_law_was"]
theorem sc__law_pull : FnScope n__law_pull p__law_pull (defScope s__law_pull) := ⟨rfl, rfl, rfl, by decide +kernel, rfl, by decide +kernel, by decide +kernel⟩
abbrev s__law_going : Stmt := top 41
abbrev n__law_going : List Str := ["_law_data", "_law_was", "_law_fixed_here", "_law_count", "_law_found", "_law_k", "_law_ties_here", "_law_rungs", "_law_weights_here", "_law_reaches", "_law_risen", "_law_stood", "_law_row", "_law_some", "_law_reach", "_law_one", "_law_posture", "_law_rung"]
abbrev p__law_going : List Str := ["_law_data", "_law_was", "_law_fixed_here", "_law_count"]
theorem sc__law_going : FnScope n__law_going p__law_going (defScope s__law_going) := ⟨rfl, rfl, rfl, by decide +kernel, rfl, by decide +kernel, by decide +kernel⟩
abbrev s__law_fixed : Stmt := top 42
abbrev n__law_fixed : List Str := ["_law_box_here", "_law_rungs", "_law_found", "_law_one", "_law_some", "_law_way"]
abbrev p__law_fixed : List Str := ["_law_box_here", "_law_rungs"]
theorem sc__law_fixed : FnScope n__law_fixed p__law_fixed (defScope s__law_fixed) := ⟨rfl, rfl, rfl, by decide +kernel, rfl, by decide +kernel, by decide +kernel⟩
abbrev s__law_sums : Stmt := top 43
abbrev n__law_sums : List Str := ["_law_ties_here", "_law_weights_here", "_law_tops_here", "_law_row", "_law_tie", "_law_top"]
abbrev p__law_sums : List Str := ["_law_ties_here", "_law_weights_here", "_law_tops_here"]
theorem sc__law_sums : FnScope n__law_sums p__law_sums (defScope s__law_sums) := ⟨rfl, rfl, rfl, by decide +kernel, rfl, by decide +kernel, by decide +kernel⟩
abbrev s__law_tops : Stmt := top 44
abbrev n__law_tops : List Str := ["_law_box_here", "_law_ties_here", "_law_weights_here", "_law_tops_here", "_law_turn", "_law_sums_here", "_law_row", "_law_top", "_law_middle"]
abbrev p__law_tops : List Str := ["_law_box_here", "_law_ties_here", "_law_weights_here"]
theorem sc__law_tops : FnScope n__law_tops p__law_tops (defScope s__law_tops) := ⟨rfl, rfl, rfl, by decide +kernel, rfl, by decide +kernel, by decide +kernel⟩
abbrev s__law_level : Stmt := top 45
abbrev n__law_level : List Str := ["_law_box_here", "_law_middle", "_law_top", "_law_pair", "_law_low", "_law_found"]
abbrev p__law_level : List Str := ["_law_box_here", "_law_middle", "_law_top"]
theorem sc__law_level : FnScope n__law_level p__law_level (defScope s__law_level) := ⟨rfl, rfl, rfl, by decide +kernel, rfl, by decide +kernel, by decide +kernel⟩
abbrev s__law_mirror : Stmt := top 46
abbrev n__law_mirror : List Str := ["_law_rungs", "_law_stood", "_law_some", "_law_posture"]
abbrev p__law_mirror : List Str := ["_law_rungs", "_law_stood"]
theorem sc__law_mirror : FnScope n__law_mirror p__law_mirror (defScope s__law_mirror) := ⟨rfl, rfl, rfl, by decide +kernel, rfl, by decide +kernel, by decide +kernel⟩
abbrev s__law_moved_right : Stmt := top 47
abbrev n__law_moved_right : List Str := ["_law_box_here", "_law_ties_here", "_law_rungs", "_law_weights_here", "_law_one", "_law_made", "_law_some", "_law_at", "_law_other", "_law_k"]
abbrev p__law_moved_right : List Str := ["_law_box_here", "_law_ties_here", "_law_rungs", "_law_weights_here"]
theorem sc__law_moved_right : FnScope n__law_moved_right p__law_moved_right (defScope s__law_moved_right) := ⟨rfl, rfl, rfl, by decide +kernel, rfl, by decide +kernel, by decide +kernel⟩
abbrev s__law_right : Stmt := top 48
abbrev n__law_right : List Str := ["_law_box_here", "_law_tops_here", "_law_rungs", "_law_against", "_law_due", "_law_mirrors", "_law_told", "_law_others", "_law_sway", "_law_level_here", "_law_ties_here", "_law_weights_here", "_law_sums_here", "_law_far", "_law_made", "_law_was", "_law_fixed_here", "_law_stood", "_law_mirrored", "_law_one", "_law_middle", "_law_top", "_law_posture"]
abbrev p__law_right : List Str := ["_law_box_here"]
theorem sc__law_right : FnScope n__law_right p__law_right (defScope s__law_right) := ⟨rfl, rfl, rfl, by decide +kernel, rfl, by decide +kernel, by decide +kernel⟩
abbrev s_law : Stmt := top 49
abbrev n_law : List Str := ["_law_script", "_law_k"]
abbrev p_law : List Str := ["_law_script"]
theorem sc_law : FnScope n_law p_law (defScope s_law) := ⟨rfl, rfl, rfl, by decide +kernel, rfl, by decide +kernel, by decide +kernel⟩
structure Tx (K : PySem.W.Frag) (mg : Str → Option Value) : Type where
  b_abs : mg "abs" = none
  b_all : mg "all" = none
  b_bool : mg "bool" = none
  b_dict : mg "dict" = none
  b_enumerate : mg "enumerate" = none
  b_int : mg "int" = none
  b_isinstance : mg "isinstance" = none
  b_len : mg "len" = none
  b_list : mg "list" = none
  b_min : mg "min" = none
  b_range : mg "range" = none
  b_str : mg "str" = none
  b_sum : mg "sum" = none
  b_tuple : mg "tuple" = none
  b_zip : mg "zip" = none
  t_MOST_STEPS : Tok
  c_MOST_STEPS : mg "MOST_STEPS" = some (.int 4 t_MOST_STEPS)
  t_MOST_WEIGHTS : Tok
  c_MOST_WEIGHTS : mg "MOST_WEIGHTS" = some (.int 5 t_MOST_WEIGHTS)
  g_Hall : mg "Hall" = some (.ref (He.ga K "Hall"))
  cl_Hall : Cls K (He.ga K "Hall")
  mk_Hall : Mk K (He.ga K "Hall") (He.ma K (He.ga K "Hall") "__init__")
  na_Hall_string_rows : NoAttr K (He.ga K "Hall") "string_rows"
  na_Hall_step_rows : NoAttr K (He.ga K "Hall") "step_rows"
  na_Hall_weights : NoAttr K (He.ga K "Hall") "weights"
  g_Sway : mg "Sway" = some (.ref (He.ga K "Sway"))
  cl_Sway : Cls K (He.ga K "Sway")
  mk_Sway : Mk K (He.ga K "Sway") (He.ma K (He.ga K "Sway") "__init__")
  na_Sway_home : NoAttr K (He.ga K "Sway") "home"
  na_Sway_grips : NoAttr K (He.ga K "Sway") "grips"
  na_Sway_standings : NoAttr K (He.ga K "Sway") "standings"
  na_Sway_gone : NoAttr K (He.ga K "Sway") "gone"
  fd_is_number : FuncData
  F_is_number : FunD K "is_number" "is_number" (defArgs s_is_number) (defBody s_is_number) (defScope s_is_number) [] [] (He.fAd K ("is_number", none)) fd_is_number
  g_is_number : mg "is_number" = some (.ref (He.fAd K ("is_number", none)))
  bd_is_number : Binds K fd_is_number p_is_number []
  fd_are_numbers : FuncData
  F_are_numbers : FunD K "are_numbers" "are_numbers" (defArgs s_are_numbers) (defBody s_are_numbers) (defScope s_are_numbers) [] [] (He.fAd K ("are_numbers", none)) fd_are_numbers
  g_are_numbers : mg "are_numbers" = some (.ref (He.fAd K ("are_numbers", none)))
  bd_are_numbers : Binds K fd_are_numbers p_are_numbers []
  fd_are_rows : FuncData
  F_are_rows : FunD K "are_rows" "are_rows" (defArgs s_are_rows) (defBody s_are_rows) (defScope s_are_rows) [] [] (He.fAd K ("are_rows", none)) fd_are_rows
  g_are_rows : mg "are_rows" = some (.ref (He.fAd K ("are_rows", none)))
  bd_are_rows : Binds K fd_are_rows p_are_rows []
  fd_does_rise : FuncData
  F_does_rise : FunD K "does_rise" "does_rise" (defArgs s_does_rise) (defBody s_does_rise) (defScope s_does_rise) [] [] (He.fAd K ("does_rise", none)) fd_does_rise
  g_does_rise : mg "does_rise" = some (.ref (He.fAd K ("does_rise", none)))
  bd_does_rise : Binds K fd_does_rise p_does_rise []
  fd_are_strings : FuncData
  F_are_strings : FunD K "are_strings" "are_strings" (defArgs s_are_strings) (defBody s_are_strings) (defScope s_are_strings) [] [] (He.fAd K ("are_strings", none)) fd_are_strings
  g_are_strings : mg "are_strings" = some (.ref (He.fAd K ("are_strings", none)))
  bd_are_strings : Binds K fd_are_strings p_are_strings []
  fd_is_ladder : FuncData
  F_is_ladder : FunD K "is_ladder" "is_ladder" (defArgs s_is_ladder) (defBody s_is_ladder) (defScope s_is_ladder) [] [] (He.fAd K ("is_ladder", none)) fd_is_ladder
  g_is_ladder : mg "is_ladder" = some (.ref (He.fAd K ("is_ladder", none)))
  bd_is_ladder : Binds K fd_is_ladder p_is_ladder []
  fd_are_steps : FuncData
  F_are_steps : FunD K "are_steps" "are_steps" (defArgs s_are_steps) (defBody s_are_steps) (defScope s_are_steps) [] [] (He.fAd K ("are_steps", none)) fd_are_steps
  g_are_steps : mg "are_steps" = some (.ref (He.fAd K ("are_steps", none)))
  bd_are_steps : Binds K fd_are_steps p_are_steps []
  fd_is_memory : FuncData
  F_is_memory : FunD K "is_memory" "is_memory" (defArgs s_is_memory) (defBody s_is_memory) (defScope s_is_memory) [] [] (He.fAd K ("is_memory", none)) fd_is_memory
  g_is_memory : mg "is_memory" = some (.ref (He.fAd K ("is_memory", none)))
  bd_is_memory : Binds K fd_is_memory p_is_memory []
  fd_as_tuples : FuncData
  F_as_tuples : FunD K "as_tuples" "as_tuples" (defArgs s_as_tuples) (defBody s_as_tuples) (defScope s_as_tuples) [] [] (He.fAd K ("as_tuples", none)) fd_as_tuples
  g_as_tuples : mg "as_tuples" = some (.ref (He.fAd K ("as_tuples", none)))
  bd_as_tuples : Binds K fd_as_tuples p_as_tuples []
  fd_Hall___init__ : FuncData
  F_Hall___init__ : FunD K "__init__" "Hall.__init__" (defArgs s_Hall___init__) (defBody s_Hall___init__) (defScope s_Hall___init__) [V.ref (He.dflAt ("Hall", some "__init__") 0 K)] [] (He.fAd K ("Hall", some "__init__")) fd_Hall___init__
  bd_Hall___init__ : Binds K fd_Hall___init__ p_Hall___init__ []
  fd_Hall_strings : FuncData
  F_Hall_strings : FunD K "strings" "Hall.strings" (defArgs s_Hall_strings) (defBody s_Hall_strings) (defScope s_Hall_strings) [] [] (He.fAd K ("Hall", some "strings")) fd_Hall_strings
  m_Hall_strings : Meth K (He.ga K "Hall") "strings" (He.fAd K ("Hall", some "strings"))
  bd_Hall_strings : Binds K fd_Hall_strings p_Hall_strings []
  fd_Hall_steps : FuncData
  F_Hall_steps : FunD K "steps" "Hall.steps" (defArgs s_Hall_steps) (defBody s_Hall_steps) (defScope s_Hall_steps) [] [] (He.fAd K ("Hall", some "steps")) fd_Hall_steps
  m_Hall_steps : Meth K (He.ga K "Hall") "steps" (He.fAd K ("Hall", some "steps"))
  bd_Hall_steps : Binds K fd_Hall_steps p_Hall_steps []
  fd_Hall_memory : FuncData
  F_Hall_memory : FunD K "memory" "Hall.memory" (defArgs s_Hall_memory) (defBody s_Hall_memory) (defScope s_Hall_memory) [] [] (He.fAd K ("Hall", some "memory")) fd_Hall_memory
  m_Hall_memory : Meth K (He.ga K "Hall") "memory" (He.fAd K ("Hall", some "memory"))
  bd_Hall_memory : Binds K fd_Hall_memory p_Hall_memory []
  fd_Hall_tops : FuncData
  F_Hall_tops : FunD K "tops" "Hall.tops" (defArgs s_Hall_tops) (defBody s_Hall_tops) (defScope s_Hall_tops) [] [] (He.fAd K ("Hall", some "tops")) fd_Hall_tops
  m_Hall_tops : Meth K (He.ga K "Hall") "tops" (He.fAd K ("Hall", some "tops"))
  bd_Hall_tops : Binds K fd_Hall_tops p_Hall_tops []
  fd_Hall___len__ : FuncData
  F_Hall___len__ : FunD K "__len__" "Hall.__len__" (defArgs s_Hall___len__) (defBody s_Hall___len__) (defScope s_Hall___len__) [] [] (He.fAd K ("Hall", some "__len__")) fd_Hall___len__
  m_Hall___len__ : Meth K (He.ga K "Hall") "__len__" (He.fAd K ("Hall", some "__len__"))
  bd_Hall___len__ : Binds K fd_Hall___len__ p_Hall___len__ []
  fd_weighed : FuncData
  F_weighed : FunD K "weighed" "weighed" (defArgs s_weighed) (defBody s_weighed) (defScope s_weighed) [] [] (He.fAd K ("weighed", none)) fd_weighed
  g_weighed : mg "weighed" = some (.ref (He.fAd K ("weighed", none)))
  bd_weighed : Binds K fd_weighed p_weighed []
  fd_pulled_by : FuncData
  F_pulled_by : FunD K "pulled_by" "pulled_by" (defArgs s_pulled_by) (defBody s_pulled_by) (defScope s_pulled_by) [] [] (He.fAd K ("pulled_by", none)) fd_pulled_by
  g_pulled_by : mg "pulled_by" = some (.ref (He.fAd K ("pulled_by", none)))
  bd_pulled_by : Binds K fd_pulled_by p_pulled_by []
  fd_pulls : FuncData
  F_pulls : FunD K "pulls" "pulls" (defArgs s_pulls) (defBody s_pulls) (defScope s_pulls) [] [] (He.fAd K ("pulls", none)) fd_pulls
  g_pulls : mg "pulls" = some (.ref (He.fAd K ("pulls", none)))
  bd_pulls : Binds K fd_pulls p_pulls []
  fd_reached : FuncData
  F_reached : FunD K "reached" "reached" (defArgs s_reached) (defBody s_reached) (defScope s_reached) [] [] (He.fAd K ("reached", none)) fd_reached
  g_reached : mg "reached" = some (.ref (He.fAd K ("reached", none)))
  bd_reached : Binds K fd_reached p_reached []
  fd_as_held : FuncData
  F_as_held : FunD K "as_held" "as_held" (defArgs s_as_held) (defBody s_as_held) (defScope s_as_held) [] [] (He.fAd K ("as_held", none)) fd_as_held
  g_as_held : mg "as_held" = some (.ref (He.fAd K ("as_held", none)))
  bd_as_held : Binds K fd_as_held p_as_held []
  fd_grips_of : FuncData
  F_grips_of : FunD K "grips_of" "grips_of" (defArgs s_grips_of) (defBody s_grips_of) (defScope s_grips_of) [] [] (He.fAd K ("grips_of", none)) fd_grips_of
  g_grips_of : mg "grips_of" = some (.ref (He.fAd K ("grips_of", none)))
  bd_grips_of : Binds K fd_grips_of p_grips_of []
  fd_leant : FuncData
  F_leant : FunD K "leant" "leant" (defArgs s_leant) (defBody s_leant) (defScope s_leant) [] [] (He.fAd K ("leant", none)) fd_leant
  g_leant : mg "leant" = some (.ref (He.fAd K ("leant", none)))
  bd_leant : Binds K fd_leant p_leant []
  fd_history : FuncData
  F_history : FunD K "history" "history" (defArgs s_history) (defBody s_history) (defScope s_history) [] [("held", V.ref (kwAt ("history", none) "held" K))] (He.fAd K ("history", none)) fd_history
  g_history : mg "history" = some (.ref (He.fAd K ("history", none)))
  fd_Sway___init__ : FuncData
  F_Sway___init__ : FunD K "__init__" "Sway.__init__" (defArgs s_Sway___init__) (defBody s_Sway___init__) (defScope s_Sway___init__) [] [("held", V.ref (kwAt ("Sway", some "__init__") "held" K))] (He.fAd K ("Sway", some "__init__")) fd_Sway___init__
  fd_Sway_beat : FuncData
  F_Sway_beat : FunD K "beat" "Sway.beat" (defArgs s_Sway_beat) (defBody s_Sway_beat) (defScope s_Sway_beat) [V.int 1] [] (He.fAd K ("Sway", some "beat")) fd_Sway_beat
  m_Sway_beat : Meth K (He.ga K "Sway") "beat" (He.fAd K ("Sway", some "beat"))
  bd_Sway_beat : Binds K fd_Sway_beat p_Sway_beat []
  fd_Sway_past : FuncData
  F_Sway_past : FunD K "past" "Sway.past" (defArgs s_Sway_past) (defBody s_Sway_past) (defScope s_Sway_past) [] [] (He.fAd K ("Sway", some "past")) fd_Sway_past
  m_Sway_past : Meth K (He.ga K "Sway") "past" (He.fAd K ("Sway", some "past"))
  bd_Sway_past : Binds K fd_Sway_past p_Sway_past []
  fd_middles : FuncData
  F_middles : FunD K "middles" "middles" (defArgs s_middles) (defBody s_middles) (defScope s_middles) [] [] (He.fAd K ("middles", none)) fd_middles
  g_middles : mg "middles" = some (.ref (He.fAd K ("middles", none)))
  bd_middles : Binds K fd_middles p_middles []
  fd_is_balanced : FuncData
  F_is_balanced : FunD K "is_balanced" "is_balanced" (defArgs s_is_balanced) (defBody s_is_balanced) (defScope s_is_balanced) [] [] (He.fAd K ("is_balanced", none)) fd_is_balanced
  g_is_balanced : mg "is_balanced" = some (.ref (He.fAd K ("is_balanced", none)))
  bd_is_balanced : Binds K fd_is_balanced p_is_balanced []
  fd_mirror : FuncData
  F_mirror : FunD K "mirror" "mirror" (defArgs s_mirror) (defBody s_mirror) (defScope s_mirror) [] [] (He.fAd K ("mirror", none)) fd_mirror
  g_mirror : mg "mirror" = some (.ref (He.fAd K ("mirror", none)))
  bd_mirror : Binds K fd_mirror p_mirror []
  kb_mirror : KBn K fd_mirror p_mirror 0 ["hall", "standing"] (fun _ ws => ws) (fun _ zs => zs)
  fd__law_box : FuncData
  F__law_box : FunD K "_law_box" "_law_box" (defArgs s__law_box) (defBody s__law_box) (defScope s__law_box) [] [] (He.fAd K ("_law_box", none)) fd__law_box
  g__law_box : mg "_law_box" = some (.ref (He.fAd K ("_law_box", none)))
  bd__law_box : Binds K fd__law_box p__law_box []
  fd__law_take : FuncData
  F__law_take : FunD K "_law_take" "_law_take" (defArgs s__law_take) (defBody s__law_take) (defScope s__law_take) [] [] (He.fAd K ("_law_take", none)) fd__law_take
  g__law_take : mg "_law_take" = some (.ref (He.fAd K ("_law_take", none)))
  bd__law_take : Binds K fd__law_take p__law_take []
  fd__law_pick : FuncData
  F__law_pick : FunD K "_law_pick" "_law_pick" (defArgs s__law_pick) (defBody s__law_pick) (defScope s__law_pick) [] [] (He.fAd K ("_law_pick", none)) fd__law_pick
  g__law_pick : mg "_law_pick" = some (.ref (He.fAd K ("_law_pick", none)))
  bd__law_pick : Binds K fd__law_pick p__law_pick []
  fd__law_same : FuncData
  F__law_same : FunD K "_law_same" "_law_same" (defArgs s__law_same) (defBody s__law_same) (defScope s__law_same) [] [] (He.fAd K ("_law_same", none)) fd__law_same
  g__law_same : mg "_law_same" = some (.ref (He.fAd K ("_law_same", none)))
  bd__law_same : Binds K fd__law_same p__law_same []
  fd__law_number : FuncData
  F__law_number : FunD K "_law_number" "_law_number" (defArgs s__law_number) (defBody s__law_number) (defScope s__law_number) [] [] (He.fAd K ("_law_number", none)) fd__law_number
  g__law_number : mg "_law_number" = some (.ref (He.fAd K ("_law_number", none)))
  bd__law_number : Binds K fd__law_number p__law_number []
  fd__law_ties : FuncData
  F__law_ties : FunD K "_law_ties" "_law_ties" (defArgs s__law_ties) (defBody s__law_ties) (defScope s__law_ties) [] [] (He.fAd K ("_law_ties", none)) fd__law_ties
  g__law_ties : mg "_law_ties" = some (.ref (He.fAd K ("_law_ties", none)))
  bd__law_ties : Binds K fd__law_ties p__law_ties []
  fd__law_weights : FuncData
  F__law_weights : FunD K "_law_weights" "_law_weights" (defArgs s__law_weights) (defBody s__law_weights) (defScope s__law_weights) [] [] (He.fAd K ("_law_weights", none)) fd__law_weights
  g__law_weights : mg "_law_weights" = some (.ref (He.fAd K ("_law_weights", none)))
  bd__law_weights : Binds K fd__law_weights p__law_weights []
  fd__law_past : FuncData
  F__law_past : FunD K "_law_past" "_law_past" (defArgs s__law_past) (defBody s__law_past) (defScope s__law_past) [] [] (He.fAd K ("_law_past", none)) fd__law_past
  g__law_past : mg "_law_past" = some (.ref (He.fAd K ("_law_past", none)))
  bd__law_past : Binds K fd__law_past p__law_past []
  fd__law_pull : FuncData
  F__law_pull : FunD K "_law_pull" "_law_pull" (defArgs s__law_pull) (defBody s__law_pull) (defScope s__law_pull) [] [] (He.fAd K ("_law_pull", none)) fd__law_pull
  g__law_pull : mg "_law_pull" = some (.ref (He.fAd K ("_law_pull", none)))
  bd__law_pull : Binds K fd__law_pull p__law_pull []
  fd__law_going : FuncData
  F__law_going : FunD K "_law_going" "_law_going" (defArgs s__law_going) (defBody s__law_going) (defScope s__law_going) [] [] (He.fAd K ("_law_going", none)) fd__law_going
  g__law_going : mg "_law_going" = some (.ref (He.fAd K ("_law_going", none)))
  bd__law_going : Binds K fd__law_going p__law_going []
  fd__law_fixed : FuncData
  F__law_fixed : FunD K "_law_fixed" "_law_fixed" (defArgs s__law_fixed) (defBody s__law_fixed) (defScope s__law_fixed) [] [] (He.fAd K ("_law_fixed", none)) fd__law_fixed
  g__law_fixed : mg "_law_fixed" = some (.ref (He.fAd K ("_law_fixed", none)))
  bd__law_fixed : Binds K fd__law_fixed p__law_fixed []
  fd__law_sums : FuncData
  F__law_sums : FunD K "_law_sums" "_law_sums" (defArgs s__law_sums) (defBody s__law_sums) (defScope s__law_sums) [] [] (He.fAd K ("_law_sums", none)) fd__law_sums
  g__law_sums : mg "_law_sums" = some (.ref (He.fAd K ("_law_sums", none)))
  bd__law_sums : Binds K fd__law_sums p__law_sums []
  fd__law_tops : FuncData
  F__law_tops : FunD K "_law_tops" "_law_tops" (defArgs s__law_tops) (defBody s__law_tops) (defScope s__law_tops) [] [] (He.fAd K ("_law_tops", none)) fd__law_tops
  g__law_tops : mg "_law_tops" = some (.ref (He.fAd K ("_law_tops", none)))
  bd__law_tops : Binds K fd__law_tops p__law_tops []
  fd__law_level : FuncData
  F__law_level : FunD K "_law_level" "_law_level" (defArgs s__law_level) (defBody s__law_level) (defScope s__law_level) [] [] (He.fAd K ("_law_level", none)) fd__law_level
  g__law_level : mg "_law_level" = some (.ref (He.fAd K ("_law_level", none)))
  bd__law_level : Binds K fd__law_level p__law_level []
  fd__law_mirror : FuncData
  F__law_mirror : FunD K "_law_mirror" "_law_mirror" (defArgs s__law_mirror) (defBody s__law_mirror) (defScope s__law_mirror) [] [] (He.fAd K ("_law_mirror", none)) fd__law_mirror
  g__law_mirror : mg "_law_mirror" = some (.ref (He.fAd K ("_law_mirror", none)))
  bd__law_mirror : Binds K fd__law_mirror p__law_mirror []
  fd__law_moved_right : FuncData
  F__law_moved_right : FunD K "_law_moved_right" "_law_moved_right" (defArgs s__law_moved_right) (defBody s__law_moved_right) (defScope s__law_moved_right) [] [] (He.fAd K ("_law_moved_right", none)) fd__law_moved_right
  g__law_moved_right : mg "_law_moved_right" = some (.ref (He.fAd K ("_law_moved_right", none)))
  bd__law_moved_right : Binds K fd__law_moved_right p__law_moved_right []
  fd__law_right : FuncData
  F__law_right : FunD K "_law_right" "_law_right" (defArgs s__law_right) (defBody s__law_right) (defScope s__law_right) [] [] (He.fAd K ("_law_right", none)) fd__law_right
  g__law_right : mg "_law_right" = some (.ref (He.fAd K ("_law_right", none)))
  bd__law_right : Binds K fd__law_right p__law_right []
  fd_law : FuncData
  F_law : FunD K "law" "law" (defArgs s_law) (defBody s_law) (defScope s_law) [] [] (He.fAd K ("law", none)) fd_law
  g_law : mg "law" = some (.ref (He.fAd K ("law", none)))
end Sw

set_option maxHeartbeats 2000000
namespace Sw
open PySem PySem.Spec PyProof.Rows L2
section
variable {P : Program} {w : World} {K : PySem.W.Frag} {mg : Str → Option Value} {base : Heap}
def sp_take : Sp := fun vs H Q _ => ∃ (b : Addr) (m : Int) (n : Nat), vs = [.ref b, .int m] ∧ Bx H b n ∧ 0 < m ∧ m < 1073741824 ∧ n ≤ 1000000 ∧
  ∀ (r : Int) (H' : Hp), 0 ≤ r → r < m → Bx H' b (n + 1) → Kp [b] H H' → Q (.int r) H'
theorem ok_take (T : Tx K mg) : FnOk P w K mg base CX0 1 (He.fAd K ("_law_take", none)) T.fd__law_take p__law_take sp_take := by
  refine T.F__law_take.ok sc__law_take (fun vs H Q E h => ?_) (fun cdv A outer s H vs Q E hr h => ?_)
  · obtain ⟨b, m, n, rfl, _⟩ := h
    rfl
  · obtain ⟨b, m, n, rfl, hB, m0, m1, hn, k⟩ := h
    obtain ⟨x, y, z, hb, hx, hy, hy2, hz, hz2⟩ := hB.ex
    refine ⟨_, PSs.nox (pss_cons (ps_if (pt_cmpR op_gt (pe_ix ix_list (pv 0) pe_int (fun _ _ => rfl)) pe_int (nomark _))
      (pss_cons (ps_set (i := 3) sc__law_take.nd rfl (by first | exact Or.inl rfl | exact Or.inr rfl) (pe_op op_modN (pe_ix ix_list (pv 0) pe_int (fun _ _ => rfl)) (pv 1)))
      (pss_cons (ps_asg (pe_op op_fdivN (pe_ix ix_list (pv 0) pe_int (fun _ _ => rfl)) (pv 1)) (pg_sub (pv 0) pe_int set_list))
      (pss_one (ps_ret (pv 3)))))
      pss_nil)
      (pss_cons (ps_asg (pe_op op_add (pe_ix ix_list (pv 0) pe_int (fun _ _ => rfl)) pe_int) (pg_sub (pv 0) pe_int set_list))
      (pss_cons (ps_set (i := 2) sc__law_take.nd rfl (by first | exact Or.inl rfl | exact Or.inr rfl) (pe_op op_modN (pe_op op_pow (pe_op op_add (pe_ix ix_list (pv 0) pe_int (fun _ _ => rfl)) (pe_op op_mul pe_int (pe_ix ix_list (pv 0) pe_int (fun _ _ => rfl)))) pe_int) pe_int))
      (pss_one (ps_ret (pe_op op_modN (pe_op op_fdivN (pe_op op_modN (pe_op op_add (pe_op op_mul (pv 2) (pe_op op_add (pe_op op_modN (pv 2) pe_int) pe_int)) (pe_op op_mul (pe_ix ix_list (pv 0) pe_int (fun _ _ => rfl)) pe_int)) pe_int) pe_int) (pv 1))))))), ?_⟩
    refine ⟨_, rfl, b, _, _, _, rfl, rfl, SqL.of hb, rfl, _, _, rfl, rfl, _, rfl, ite2 (fun c => ?_) (fun c => ?_)⟩
    · refine ⟨_, rfl, b, _, _, _, rfl, rfl, SqL.of hb, rfl, _, rfl, _, _, rfl, rfl, (Int.ne_of_gt m0), ?_⟩
      refine ⟨_, rfl, b, _, _, _, rfl, rfl, SqL.of hb, rfl, _, rfl, _, _, rfl, rfl, ⟨Int.ne_of_gt m0, by omega⟩, ?_⟩
      refine ⟨_, rfl, b, _, _, _, rfl, rfl, hb, rfl, _, rfl, ?_⟩
      exact k _ _ (Int.fmod_nonneg_of_pos _ m0) (Int.fmod_lt_of_pos _ m0) ⟨_, _, _, upd_same, Int.fdiv_nonneg hx (Int.le_of_lt m0), hy, hy2, hz, by omega⟩ (Kp.rfl'.put (by simp))
    · refine ⟨_, rfl, b, _, _, _, rfl, rfl, SqL.of hb, rfl, _, _, rfl, rfl, _, rfl, b, _, _, _, rfl, rfl, hb, rfl, ?_⟩
      have hb1 : (upd H b (.lst ([V.int x, V.int y, V.int z].set 2 (V.int (z + 1))))) b = some (.lst [V.int x, V.int y, V.int (z + 1)]) := upd_same
      have e1 : (y + 39373 * (z + 1)).natAbs < 2 ^ 64 := by omega
      refine ⟨_, rfl, b, _, _, _, rfl, rfl, SqL.of hb1, rfl, _, rfl, b, _, _, _, rfl, rfl, SqL.of hb1, rfl, _, _, rfl, rfl, .inl ⟨by decide, by decide⟩, _, _, rfl, rfl, _, _, rfl, rfl, ⟨by decide, by decide, e1⟩, _, _, rfl, rfl, (show (2147483647 : Int) ≠ 0 by decide), ?_⟩
      have o0 : 0 ≤ ((y + 39373 * (z + 1)) ^ (5 : Int).toNat).fmod 2147483647 := Int.fmod_nonneg_of_pos _ (by decide)
      have o1 : ((y + 39373 * (z + 1)) ^ (5 : Int).toNat).fmod 2147483647 < 2147483647 := Int.fmod_lt_of_pos _ (by decide)
      refine ⟨_, rfl, _, rfl, _, _, rfl, rfl, (show (40009 : Int) ≠ 0 by decide), _, _, rfl, rfl, _, _, rfl, rfl, .inl ⟨by omega, by omega⟩, ?_⟩
      refine ⟨_, rfl, b, _, _, _, rfl, rfl, SqL.of hb1, rfl, _, _, rfl, rfl, .inr ⟨by decide, by decide⟩, _, _, rfl, rfl, _, _, rfl, rfl, (show (2147483629 : Int) ≠ 0 by decide), _, _, rfl, rfl, ⟨by decide, by decide⟩, _, rfl, _, _, rfl, rfl, (Int.ne_of_gt m0), ?_⟩
      exact k _ _ (Int.fmod_nonneg_of_pos _ m0) (Int.fmod_lt_of_pos _ m0) ⟨_, _, _, hb1, hx, hy, hy2, by omega, by omega⟩ (Kp.rfl'.put (by simp))

end
end Sw

set_option maxHeartbeats 2000000
namespace Sw
open PySem PySem.Spec PyProof.Rows L2
section
variable {P : Program} {w : World} {K : PySem.W.Frag} {mg : Str → Option Value} {base : Heap}
theorem b01lo (c : Prop) [Decidable c] : -(2 ^ 64) < (if c then (1 : Int) else 0) := by split <;> decide
theorem b01hi (c : Prop) [Decidable c] : (if c then (1 : Int) else 0) < 2 ^ 64 := by split <;> decide
def sp_box (K : PySem.W.Frag) : Sp := fun vs H Q _ => ∃ (a : Addr) (ns : List Int) (k : Int), vs = [.ref a, .int k] ∧ SqL K H a (ns.map V.int) ∧ 0 ≤ k ∧ k ≤ 63 ∧
  ∀ (p : Addr) (H' : Hp), H p = none → Bx H' p 0 → Kp [] H H' → Q (.ref p) H'
theorem ok_box (T : Tx K mg) : FnOk P w K mg base CX0 1 (He.fAd K ("_law_box", none)) T.fd__law_box p__law_box (sp_box K) := by
  refine T.F__law_box.ok sc__law_box (fun vs H Q E h => ?_) (fun cdv A outer s H vs Q E hr h => ?_)
  · obtain ⟨b, m, n, rfl, _⟩ := h
    rfl
  · obtain ⟨a, ns, k, rfl, hS, k0, k1, q⟩ := h
    refine ⟨_, PSs.nox (pss_cons (ps_set (i := 2) sc__law_box.nd rfl (by first | exact Or.inl rfl | exact Or.inr rfl) (pe_ifExp (pt_cmpR op_lt (pv 1) (pe_callB call_len (by rfl) T.b_len (by decide +kernel) (pa_cons (pv 0) pa_nil)) (nomark _)) (pe_ix ix_list (pv 0) (pv 1) (fun _ _ => rfl)) pe_int))
      (pss_one (ps_ret (pe_lst (pa_cons (pe_op op_mul (pe_callB call_abs (by rfl) T.b_abs (by decide +kernel) (pa_cons (pv 2) pa_nil)) (pe_callTy call_int1 (by rfl) T.b_int (by decide +kernel) (pa_cons (pe_cmpR op_ge (pe_callB call_abs (by rfl) T.b_abs (by decide +kernel) (pa_cons (pv 2) pa_nil)) (pe_op op_pow pe_int pe_int) (nomark _)) pa_nil))) (pa_cons (pe_op op_add (pe_op op_add (pe_op op_modN (pv 2) pe_int) (pe_op op_mul pe_int (pv 1))) pe_int) (pa_cons pe_int pa_nil))))))), ?_⟩
    have fin : ∀ (c : Int) (p : Addr), H p = none → Q (.ref p) (upd H p (.lst [V.int ((if c < 0 then -c else c) * (if decide ((10 : Int) ^ (18 : Int).toNat ≤ (if c < 0 then -c else c)) = true then 1 else 0)), V.int (c.fmod 2147483629 + 7919 * k + 11), V.int 0])) := fun c p hp => by
      have a0 : 0 ≤ (if c < 0 then -c else c) := by split <;> omega
      have f0 : 0 ≤ c.fmod 2147483629 := Int.fmod_nonneg_of_pos _ (by decide)
      have f1 : c.fmod 2147483629 < 2147483629 := Int.fmod_lt_of_pos _ (by decide)
      refine q p _ hp ⟨_, _, _, upd_same, Int.mul_nonneg a0 (by split <;> omega), by omega, by omega, Int.le_refl 0, Int.le_refl 0⟩ (Kp.rfl'.new hp)
    refine ⟨_, rfl, _, rfl, _, ns.length, rfl, .inl ⟨_, hS, (List.length_map ..).symm⟩, _, _, rfl, rfl, _, rfl, ite2 (fun c => ?_) (fun c => ?_)⟩
    · have lt : k.toNat < ns.length := by
        have := of_decide_eq_true c
        omega
      refine ⟨_, rfl, _, rfl, a, _, _, V.int ns[k.toNat], rfl, rfl, hS, at_of (j := k.toNat) (by omega) (by simp [lt]), ?_⟩
      refine ⟨_, rfl, _, rfl, _, rfl, _, rfl, _, _, rfl, rfl, ⟨by decide, by decide, by decide⟩, _, _, rfl, rfl, .inr ⟨_, rfl, _, _, rfl, rfl, .inr ⟨b01lo _, b01hi _⟩, ?_⟩⟩
      refine ⟨_, rfl, _, _, rfl, rfl, (show (2147483629 : Int) ≠ 0 by decide), _, rfl, _, _, rfl, rfl, .inl ⟨by decide, by decide⟩, _, _, rfl, rfl, _, _, rfl, rfl, (by show 3 ≤ sizeLine; decide), fun p hp => ?_⟩
      exact fin _ p hp
    · refine ⟨_, rfl, _, rfl, _, rfl, _, rfl, _, _, rfl, rfl, ⟨by decide, by decide, by decide⟩, _, _, rfl, rfl, .inr ⟨_, rfl, _, _, rfl, rfl, .inr ⟨b01lo _, b01hi _⟩, ?_⟩⟩
      refine ⟨_, rfl, _, _, rfl, rfl, (show (2147483629 : Int) ≠ 0 by decide), _, rfl, _, _, rfl, rfl, .inl ⟨by decide, by decide⟩, _, _, rfl, rfl, _, _, rfl, rfl, (by show 3 ≤ sizeLine; decide), fun p hp => ?_⟩
      exact fin 0 p hp
def sp_number : Sp := fun vs H Q _ => ∃ (b : Addr) (wd : Bool) (n : Nat), vs = [.ref b, .bl wd] ∧ wd = false ∧ Bx H b n ∧ n ≤ 900000 ∧
  ∀ (r : Int) (H' : Hp), -3 ≤ r → r ≤ 3 → Bx H' b (n + 2) → Kp [b] H H' → Q (.int r) H'
theorem ok_number (T : Tx K mg) : FnOk P w K mg base CX0 2 (He.fAd K ("_law_number", none)) T.fd__law_number p__law_number sp_number := by
  have G__law_take := ok_take (P := P) (w := w) (base := base) T
  refine T.F__law_number.ok sc__law_number (fun vs H Q E h => ?_) (fun cdv A outer s H vs Q E hr h => ?_)
  · obtain ⟨b, m, n, rfl, _⟩ := h
    rfl
  · obtain ⟨b, wd, n, rfl, hw, hB, hn, q⟩ := h
    refine ⟨_, PSs.nox (pss_cons (ps_set (i := 2) sc__law_number.nd rfl (by first | exact Or.inl rfl | exact Or.inr rfl) (pe_call G__law_take (hr.mono (by first | decide | omega)) rfl T.g__law_take T.F__law_take.kp T.bd__law_take .nil pass0 (pa_cons (pv 0) (pa_cons pe_int pa_nil))))
      (pss_cons (ps_if (PW.pt (pw_and (pt_cmpR op_eq (pv 2) pe_int (nomark _)) (pw_and1 (pt_val (pv 1)))))
      (pss_one (ps_ret (pe_op op_sub (pe_call G__law_take (hr.mono (by first | decide | omega)) rfl T.g__law_take T.F__law_take.kp T.bd__law_take .nil pass0 (pa_cons (pv 0) (pa_cons pe_int pa_nil))) pe_int)))
      pss_nil)
      (pss_one (ps_ret (pe_ifExp (pt_cmpR op_lt (pv 2) pe_int (nomark _)) pe_int (pe_op op_sub (pe_call G__law_take (hr.mono (by first | decide | omega)) rfl T.g__law_take T.F__law_take.kp T.bd__law_take .nil pass0 (pa_cons (pv 0) (pa_cons pe_int pa_nil))) pe_int)))))), ?_⟩
    refine ⟨_, rfl, b, 8, n, rfl, hB, by decide, by decide, by omega, fun r H1 r0 r1 hB1 k1 => ?_⟩
    refine ⟨_, rfl, rfl, _, rfl, ite2 (fun c => ?_) (fun c => ?_)⟩
    · refine ⟨_, rfl, wd, rfl, ?_⟩
      cases wd with
      | true => cases hw
      | false =>
        refine iteF ?_
        refine ⟨_, rfl, _, _, rfl, rfl, _, rfl, ite2 (fun c2 => ?_) (fun c2 => ?_)⟩
        · exact q 0 H1 (by decide) (by decide) (hB1.up (by omega)) k1
        · refine ⟨_, rfl, b, 7, n + 1, rfl, hB1, by decide, by decide, by omega, fun r2 H2 z0 z1 hB2 k2 => ⟨_, _, rfl, rfl, ?_⟩⟩
          exact q _ H2 (by omega) (by omega) hB2 (k1.trans k2)
    · refine iteF ?_
      refine ⟨_, rfl, _, _, rfl, rfl, _, rfl, ite2 (fun c2 => ?_) (fun c2 => ?_)⟩
      · exact q 0 H1 (by decide) (by decide) (hB1.up (by omega)) k1
      · refine ⟨_, rfl, b, 7, n + 1, rfl, hB1, by decide, by decide, by omega, fun r2 H2 z0 z1 hB2 k2 => ⟨_, _, rfl, rfl, ?_⟩⟩
        exact q _ H2 (by omega) (by omega) hB2 (k1.trans k2)

end
end Sw

set_option maxHeartbeats 2000000
namespace Sw
open PySem PySem.Spec PyProof.Rows L2
section
variable {P : Program} {w : World} {K : PySem.W.Frag} {mg : Str → Option Value} {base : Heap}
theorem yesT {σ : L2.St} {H : Hp} {A : Hp → Prop} {B : Hp → Prop} (h : A H) : tYes σ H fun b H3 => if b = true then A H3 else B H3 := by
  show if true = true then A H else B H
  exact iteT h
/-! data of whole numbers -/
abbrev dI (ns : List Int) : PyData := .list (ns.map PyData.int)
abbrev dII (rows : List (List Int)) : PyData := .list (rows.map dI)
theorem D.lints {bs : List Addr} {H : Hp} {w k : Nat} {v : V} {ns : List Int} (x : D bs H w k v (dI ns)) : ∃ a, v = .ref a ∧ H a = some (.lst (ns.map V.int)) ∧ a ∉ bs ∧ ns.length ≤ w := by
  cases x with
  | lst h n l t =>
    have e := DA.ints t
    subst e
    exact ⟨_, rfl, h, n, by simpa using l⟩
theorem D.ofInts {bs : List Addr} {H : Hp} {w k : Nat} {a : Addr} {ns : List Int} (h : H a = some (.lst (ns.map V.int))) (n : a ∉ bs) (l : ns.length ≤ w) (hs : ∀ n ∈ ns, n.natAbs < 2 ^ 39 + w) : D bs H w (k + 1) (.ref a) (dI ns) :=
  .lst h n (by simpa using l) (DA.ofInts hs)
theorem small40 {x : Int} {m w : Nat} (h0 : -(m : Int) ≤ x) (h1 : x ≤ m) (hm : m < 2 ^ 39 := by decide) : x.natAbs < 2 ^ 39 + w := by omega
def sp_ties : Sp := fun vs H Q _ => ∃ (b : Addr) (c : Int) (wd : Bool) (n : Nat), vs = [.ref b, .int c, .bl wd] ∧ wd = false ∧ Bx H b n ∧ n ≤ 800000 ∧ 1 ≤ c ∧ c ≤ 12 ∧
  ∀ (p : Addr) (rows : List (List Int)) (H' : Hp), H p = none → D [b] H' 12 2 (.ref p) (dII rows) → rows.length = c.toNat → (∀ r ∈ rows, r.length = c.toNat ∧ ∀ x ∈ r, -3 ≤ x ∧ x ≤ 3) → Bx H' b (n + 300) → Kp [b] H H' → Q (.ref p) H'
theorem ok_ties (T : Tx K mg) : FnOk P w K mg base CX0 3 (He.fAd K ("_law_ties", none)) T.fd__law_ties p__law_ties sp_ties := by
  have G__law_number := ok_number (P := P) (w := w) (base := base) T
  refine T.F__law_ties.ok sc__law_ties (fun vs H Q E h => ?_) (fun cdv A outer s H vs Q E hr h => ?_)
  · obtain ⟨b, m, wd, n, rfl, _⟩ := h
    rfl
  · obtain ⟨b, c, wd, n, rfl, hw, hB, hn, c1, c2, q⟩ := h
    refine ⟨_, PSs.nox (pss_one (ps_ret (pe_lc (own := [("_law_one", 3)]) (g := (gName 3)) (tt := tYes) rfl sc__law_ties.nd (pi_range1 (by rfl) T.b_range (pa_cons (pv 1) pa_nil)) (blkOk_by (own := [("_law_one", 3)]) (N := n__law_ties) (sc := defScope s__law_ties) (by decide +kernel)) (fun _ _ _ _ _ => (pg_name (i := 3) sc__law_ties.nd rfl (by first | exact Or.inl rfl | exact Or.inr rfl))) (fun _ _ _ _ _ => pts_nil) (fun _ _ _ _ _ => (pe_lc (own := [("_law_other", 4)]) (g := (gName 4)) (tt := tYes) rfl sc__law_ties.nd (pi_range1 (by rfl) T.b_range (pa_cons (pv 1) pa_nil)) (blkOk_by (own := [("_law_other", 4)]) (N := n__law_ties) (sc := relabel (lcScope (retOf s__law_ties)) (envOfC "" (defScope s__law_ties) 0 0 .none)) (by decide +kernel)) (fun _ _ _ _ _ => (pg_name (i := 4) sc__law_ties.nd rfl (by first | exact Or.inl rfl | exact Or.inr rfl))) (fun _ _ _ _ _ => pts_nil) (fun _ _ _ _ _ => (pe_call G__law_number (hr.mono (by first | decide | omega)) rfl T.g__law_number T.F__law_number.kp T.bd__law_number .nil pass0 (pa_cons (pv 0) (pa_cons (pv 2) pa_nil))))))))), ?_⟩
    refine ⟨_, rfl, c, rfl, by omega, by omega, fun p hp => lc_range (n := c.toNat) (fun i H2 => ∃ (xs : List V) (rows : List (List Int)), H2 p = some (.lst xs) ∧ DA [p, b] H2 12 1 xs (rows.map dI) ∧ rows.length = i ∧ (∀ r ∈ rows, r.length = c.toNat ∧ ∀ x ∈ r, -3 ≤ x ∧ x ≤ 3) ∧ Bx H2 b (n + 24 * i) ∧ Kp [b] H H2) ?_ ?_ ?_⟩
    · have nb : b ≠ p := by
        obtain ⟨_, _, _, e, _⟩ := hB.ex
        exact ne_of_none e hp
      exact ⟨[], [], upd_same, .nil, rfl, (fun r hr => nomatch hr), (hB.keep (Kp.rfl'.new (bs := []) hp) (by simp)).up (by omega), Kp.rfl'.new hp⟩
    · rintro i H2 hi ⟨xs, rows, hD, hX, hl, hg, hB2, k2⟩
      obtain ⟨_, _, _, eb, _⟩ := hB2.ex
      refine ⟨rfl, yesT ?_⟩
      refine ⟨_, rfl, c, rfl, by omega, by omega, fun p2 hp2 => lc_range (n := c.toNat) (fun j H3 => ∃ (r : List Int), H3 p2 = some (.lst (r.map V.int)) ∧ r.length = j ∧ (∀ x ∈ r, -3 ≤ x ∧ x ≤ 3) ∧ Bx H3 b (n + 24 * i + 2 * j) ∧ Kp [b] H2 H3) ?_ ?_ ?_⟩
      · exact ⟨[], upd_same, rfl, (fun r hr => nomatch hr), hB2.keep (Kp.rfl'.new (bs := []) hp2) (by simp), Kp.rfl'.new hp2⟩
      · rintro j H3 hj ⟨r, hr2, hlr, hgr, hB3, k3⟩
        obtain ⟨_, _, _, eb3, _⟩ := hB3.ex
        have nb : p2 ≠ b := fun z => by
          rw [z, eb] at hp2
          cases hp2
        refine ⟨rfl, yesT ?_⟩
        refine ⟨_, rfl, _, rfl, b, wd, _, rfl, hw, hB3, by omega, fun x H4 x0 x1 hB4 k4 => ⟨_, k4 _ _ hr2 (by simpa using nb), ?_, ?_⟩⟩
        · rw [List.length_map]
          exact small1000 (by omega)
        · refine ⟨r ++ [x], by rw [upd_same]; simp, by simp [hlr], ?_, ?_, ?_⟩
          · intro y hy
            rcases List.mem_append.mp hy with z | z
            · exact hgr y z
            · rw [List.mem_singleton.mp z]
              exact ⟨x0, x1⟩
          · refine (hB4.keep (Kp.rfl'.put (bs := [p2]) (by simp)) (by simpa using nb.symm)).up (by omega)
          · exact (k3.trans k4).own hp2
      · rintro H3 ⟨r, hr2, hlr, hgr, hB3, k3⟩
        have np : p2 ≠ p := (ne_of_none hD hp2).symm
        have nb : p2 ≠ b := (ne_of_none eb hp2).symm
        have npb : p ≠ b := fun z => by
          rw [z] at hp
          obtain ⟨_, _, _, e, _⟩ := hB.ex
          rw [hp] at e
          cases e
        refine ⟨xs, k3 _ _ hD (by simpa using npb), ?_, xs ++ [.ref p2], rows ++ [r], upd_same, ?_, by simp [hl], ?_, ?_, ?_⟩
        · rw [DA.len hX, List.length_map]
          exact small1000 (by omega)
        · rw [List.map_append]
          have k5 : Kp [p, b] H3 (upd H3 p (.lst (xs ++ [.ref p2]))) := Kp.rfl'.put (by simp)
          refine ((hX.keep (k3.sub (by simp))).keep k5).app (DA.one ?_)
          exact (D.ofInts (w := 12) (k := 0) hr2 (by simp [np, nb]) (by omega) fun x hx => small40 (m := 3) (hgr x hx).1 (hgr x hx).2).keep k5
        · intro y hy
          rcases List.mem_append.mp hy with z | z
          · exact hg y z
          · rw [List.mem_singleton.mp z]
            exact ⟨hlr, hgr⟩
        · refine (hB3.keep (Kp.rfl'.put (bs := [p]) (by simp)) (by simpa using npb.symm)).up (by omega)
        · exact (k2.trans k3).own hp
    · rintro H2 ⟨xs, rows, hD, hX, hl, hg, hB2, k2⟩
      have npb : p ≠ b := fun z => by
        rw [z] at hp
        obtain ⟨_, _, _, e, _⟩ := hB.ex
        rw [hp] at e
        cases e
      exact q p rows H2 hp (.lst hD (by simpa using npb) (by rw [DA.len hX, List.length_map]; omega) (hX.less (by simp))) hl hg (hB2.up (by omega)) k2

end
end Sw

set_option maxHeartbeats 2000000
namespace Sw
open PySem PySem.Spec PyProof.Rows L2
section
variable {P : Program} {w : World} {K : PySem.W.Frag} {mg : Str → Option Value} {base : Heap}
theorem atI_end {ns : List Int} (h : ns ≠ []) : atI (ns.map V.int) (-1) = some (.int (ns.getLast h)) := by
  have e : ns.map V.int = (ns.dropLast).map V.int ++ [.int (ns.getLast h)] := by
    rw [← List.map_singleton, ← List.map_append, List.dropLast_concat_getLast h]
  rw [e]
  exact atI_last _ _
theorem cut_end (xs : List V) : cutV xs none (some (-1)) = xs.take (xs.length - 1) := by
  have e : HT.sIx xs.length xs.length (some (-1)) = xs.length - 1 := by
    unfold HT.sIx
    simp only []
    rw [if_pos (by decide)]
    omega
  unfold cutV
  rw [HT.sIx_none, e, List.drop_zero, Nat.sub_zero]
theorem ints_snoc (ws : List Int) (x : Int) : ws.map V.int ++ [V.int x] = (ws ++ [x]).map V.int := by simp
def sp_weights : Sp := fun vs H Q _ => ∃ (b : Addr) (c : Int) (n : Nat), vs = [.ref b, .int c] ∧ Bx H b n ∧ n ≤ 800000 ∧ 1 ≤ c ∧ c ≤ 5 ∧
  ∀ (p : Addr) (ws : List Int) (H' : Hp), H p = none → H' p = some (.lst (ws.map V.int)) → ws.length = c.toNat → (∀ x ∈ ws, -9 ≤ x ∧ x ≤ 9) → (∀ h : ws ≠ [], ws.getLast h ≠ 0) → Bx H' b (n + 20) → Kp [b] H H' → Q (.ref p) H'
theorem ok_weights (T : Tx K mg) : FnOk P w K mg base CX0 2 (He.fAd K ("_law_weights", none)) T.fd__law_weights p__law_weights sp_weights := by
  have G__law_take := ok_take (P := P) (w := w) (base := base) T
  refine T.F__law_weights.ok sc__law_weights (fun vs H Q E h => ?_) (fun cdv A outer s H vs Q E hr h => ?_)
  · obtain ⟨b, m, n, rfl, _⟩ := h
    rfl
  · obtain ⟨b, c, n, rfl, hB, hn, c1, c2, q⟩ := h
    have eb : ∃ o, H b = some o := by
      obtain ⟨_, _, _, e, _⟩ := hB.ex
      exact ⟨_, e⟩
    obtain ⟨ob, eb⟩ := eb
    refine ⟨_, PSs.nox (pss_cons (ps_set (i := 2) sc__law_weights.nd rfl (by first | exact Or.inl rfl | exact Or.inr rfl) (pe_lst pa_nil))
      (pss_cons (ps_for PassesOwn.never rfl (pi_range1 (by rfl) T.b_range (pa_cons (pv 1) pa_nil)) (pg_name (i := 3) sc__law_weights.nd rfl (by first | exact Or.inl rfl | exact Or.inr rfl))
      (pss_cons (ps_set (i := 5) sc__law_weights.nd rfl (by first | exact Or.inl rfl | exact Or.inr rfl) (pe_call G__law_take (hr.mono (by first | decide | omega)) rfl T.g__law_take T.F__law_take.kp T.bd__law_take .nil pass0 (pa_cons (pv 0) (pa_cons pe_int pa_nil))))
      (pss_one (ps_expr (pe_bm PySem.F.plainAttrs_list PySem.F.slot_list_append PySem.F.type_list_append mt_append (pv 2) (pa_cons (pe_ifExp (pt_cmpR op_eq (pv 5) pe_int (nomark _)) (pe_op op_sub (pe_call G__law_take (hr.mono (by first | decide | omega)) rfl T.g__law_take T.F__law_take.kp T.bd__law_take .nil pass0 (pa_cons (pv 0) (pa_cons pe_int pa_nil))) pe_int) (pe_op op_sub (pe_call G__law_take (hr.mono (by first | decide | omega)) rfl T.g__law_take T.F__law_take.kp T.bd__law_take .nil pass0 (pa_cons (pv 0) (pa_cons pe_int pa_nil))) pe_int)) pa_nil))))))
      (pss_cons (ps_set (i := 4) sc__law_weights.nd rfl (by first | exact Or.inl rfl | exact Or.inr rfl) (pe_ix ix_list (pe_lst (pa_cons pe_int (pa_cons (pe_un un_neg pe_int) (pa_cons pe_int (pa_cons pe_int pa_nil))))) (pe_call G__law_take (hr.mono (by first | decide | omega)) rfl T.g__law_take T.F__law_take.kp T.bd__law_take .nil pass0 (pa_cons (pv 0) (pa_cons pe_int pa_nil))) (fun _ _ => rfl)))
      (pss_one (ps_ret (pe_op op_cat (pe_slice sl_list (pv 2) po_none (po_some (pe_un un_neg pe_int))) (pe_lst (pa_cons (pe_ifExp (pt_cmpR op_ne (pe_ix ix_list (pv 2) (pe_un un_neg pe_int) (fun _ _ => rfl)) pe_int (nomark _)) (pe_ix ix_list (pv 2) (pe_un un_neg pe_int) (fun _ _ => rfl)) (pv 4)) pa_nil)))))))), ?_⟩
    refine ⟨Nat.zero_le _, fun p hp => ?_⟩
    have npb : p ≠ b := (ne_of_none eb hp).symm
    refine ⟨_, rfl, c, rfl, by omega, by omega, for_range (n := c.toNat) (fun i σ H2 => ∃ (o3 o5 : Option V) (ws : List Int), σ = [some (.ref b), some (.int c), some (.ref p), o3, none, o5] ∧ H2 p = some (.lst (ws.map V.int)) ∧ ws.length = i ∧ (∀ x ∈ ws, -9 ≤ x ∧ x ≤ 9) ∧ Bx H2 b (n + 2 * i) ∧ Kp [b] H H2) ?_ ?_ ?_⟩
    · exact ⟨none, none, [], rfl, upd_same, rfl, (fun r hr => nomatch hr), hB.keep (Kp.rfl'.new (bs := []) hp) (by simp), Kp.rfl'.new hp⟩
    · rintro i σ H2 hi ⟨o3, o5, ws, rfl, hP, hl, hg, hB2, k2⟩
      refine ⟨_, rfl, b, 4, _, rfl, hB2, by decide, by decide, by omega, fun r H3 r0 r1 hB3 k3 => ?_⟩
      have hP3 := k3 _ _ hP (by simpa using npb)
      have fin : ∀ (x : Int) (H4 : Hp), -9 ≤ x → x ≤ 9 → Bx H4 b (n + 2 * i + 1 + 1) → Kp [b] H3 H4 → ∃ l xs y, V.ref p = V.ref l ∧ [V.int x] = [y] ∧ H4 l = some (.lst xs) ∧ xs.length < sizeLine ∧
          ∃ (o3 o5 : Option V) (ws : List Int), [some (V.ref b), some (.int c), some (.ref p), some (.int (0 + (i : Int))), none, some (.int r)] = [some (.ref b), some (.int c), some (.ref p), o3, none, o5] ∧ upd H4 l (.lst (xs ++ [y])) p = some (.lst (ws.map V.int)) ∧ ws.length = i + 1 ∧ (∀ x ∈ ws, -9 ≤ x ∧ x ≤ 9) ∧ Bx (upd H4 l (.lst (xs ++ [y]))) b (n + 2 * (i + 1)) ∧ Kp [b] H (upd H4 l (.lst (xs ++ [y]))) := by
        intro x H4 x0 x1 hB4 k4
        have hP4 := k4 _ _ hP3 (by simpa using npb)
        refine ⟨p, _, _, rfl, rfl, hP4, by rw [List.length_map]; exact small1000 (by omega), _, _, ws ++ [x], rfl, by rw [upd_same, ints_snoc], by simp [hl], ?_, (hB4.keep (Kp.rfl'.put (bs := [p]) (by simp)) (by simpa using npb.symm)).up (by omega), ((k2.trans k3).trans k4).own hp⟩
        intro y hy
        rcases List.mem_append.mp hy with z | z
        · exact hg y z
        · rw [List.mem_singleton.mp z]
          exact ⟨x0, x1⟩
      refine ⟨_, rfl, .inl ⟨rfl, _, SqL.of hP3⟩, _, rfl, rfl, _, rfl, ite2 (fun cc => ?_) (fun cc => ?_)⟩
      · refine ⟨_, rfl, b, 19, _, rfl, hB3, by decide, by decide, by omega, fun r2 H4 z0 z1 hB4 k4 => ⟨_, _, rfl, rfl, ?_⟩⟩
        exact fin _ H4 (by omega) (by omega) hB4 k4
      · refine ⟨_, rfl, b, 5, _, rfl, hB3, by decide, by decide, by omega, fun r2 H4 z0 z1 hB4 k4 => ⟨_, _, rfl, rfl, ?_⟩⟩
        exact fin _ H4 (by omega) (by omega) hB4 k4
    · rintro σ H2 ⟨o3, o5, ws, rfl, hP, hl, hg, hB2, k2⟩
      have nw : ws ≠ [] := fun z => by
        rw [z] at hl
        simp at hl
        omega
      refine ⟨1, rfl, by show 4 ≤ sizeLine; decide, fun p2 hp2 => ?_⟩
      have np2 : p2 ≠ b := by
        obtain ⟨_, _, _, e, _⟩ := hB2.ex
        exact (ne_of_none e hp2).symm
      have n12 : p2 ≠ p := (ne_of_none hP hp2).symm
      refine ⟨_, rfl, b, 4, _, rfl, hB2.keep (Kp.rfl'.new (bs := []) hp2) (by simp), by decide, by decide, by omega, fun r H3 r0 r1 hB3 k3 => ?_⟩
      obtain ⟨lw, hlw, lw0, lw1, lw2⟩ : ∃ v : Int, atI [V.int 1, V.int (-1), V.int 2, V.int 3] r = some (.int v) ∧ v ≠ 0 ∧ -9 ≤ v ∧ v ≤ 9 := by
        have : r = 0 ∨ r = 1 ∨ r = 2 ∨ r = 3 := by omega
        rcases this with z | z | z | z <;> subst z
        · exact ⟨1, rfl, by decide, by decide, by decide⟩
        · exact ⟨-1, rfl, by decide, by decide, by decide⟩
        · exact ⟨2, rfl, by decide, by decide, by decide⟩
        · exact ⟨3, rfl, by decide, by decide, by decide⟩
      refine ⟨p2, _, _, _, rfl, rfl, SqL.of (k3 _ _ upd_same (by simpa using np2)), hlw, ?_⟩
      have hP3 : H3 p = some (.lst (ws.map V.int)) := k3 _ _ (by rw [upd_ne n12.symm]; exact hP) (by simpa using npb)
      refine ⟨_, rfl, 1, rfl, _, rfl, p, _, rfl, SqL.of hP3, fun p4 hp4 => ?_⟩
      have hP4 : (upd H3 p4 (.lst (cutV (ws.map V.int) none (some (-1))))) p = some (.lst (ws.map V.int)) := by
        rw [upd_ne (ne_of_none hP3 hp4)]
        exact hP3
      refine ⟨_, rfl, 1, rfl, p, _, _, _, rfl, rfl, SqL.of hP4, atI_end nw, rfl, _, rfl, ?_⟩
      have fin : ∀ v : Int, v ≠ 0 → -9 ≤ v → v ≤ 9 → 1 ≤ sizeLine ∧ ∀ p5, (upd H3 p4 (.lst (cutV (ws.map V.int) none (some (-1))))) p5 = none → rCat (.ref p4) (.ref p5) (upd (upd H3 p4 (.lst (cutV (ws.map V.int) none (some (-1))))) p5 (.lst [.int v])) Q := by
        intro v v0 v1 v2
        refine ⟨by decide, fun p5 hp5 => ?_⟩
        have n45 : p4 ≠ p5 := fun z => by
          rw [← z, upd_same] at hp5
          cases hp5
        refine ⟨p4, p5, _, _, rfl, rfl, by rw [upd_ne n45, upd_same], upd_same, ?_, fun p6 hp6 => ?_⟩
        · have := cutV_length (ws.map V.int) none (some (-1))
          rw [List.length_map] at this
          exact Nat.le_of_lt (small1000 (by simp only [List.length_singleton]; omega))
        have f5 : H3 p5 = none := by
          rw [upd_ne n45.symm] at hp5
          exact hp5
        have f6 : H3 p6 = none := by
          by_cases z : p6 = p5
          · rw [z, upd_same] at hp6
            cases hp6
          · rw [upd_ne z] at hp6
            by_cases y : p6 = p4
            · rw [y, upd_same] at hp6
              cases hp6
            · rw [upd_ne y] at hp6
              exact hp6
        have kk : Kp [b] H2 H3 := fun a o e na => k3 a o (by rw [upd_ne (ne_of_none e hp2)]; exact e) na
        have f06 : H p6 = none := k2.free (kk.free f6 fun z => by
          have z := List.mem_singleton.mp z
          obtain ⟨_, _, _, e, _⟩ := hB3.ex
          rw [← z, f6] at e
          cases e) fun z => by
          have z := List.mem_singleton.mp z
          obtain ⟨_, _, _, e, _⟩ := hB3.ex
          rw [← z, f6] at e
          cases e
        have kz : Kp [b] H (upd (upd (upd H3 p4 (.lst (cutV (ws.map V.int) none (some (-1))))) p5 (.lst [.int v])) p6 (.lst (cutV (ws.map V.int) none (some (-1)) ++ [.int v]))) := (((k2.trans kk).new hp4).new hp5).new hp6
        have hz : ws.length - 1 + 1 = c.toNat := by omega
        refine q p6 (ws.take (ws.length - 1) ++ [v]) _ f06 ?_ ?_ ?_ ?_ ?_ kz
        · rw [upd_same, cut_end]
          simp
        · rw [List.length_append, List.length_take, List.length_singleton]
          omega
        · intro y hy
          rcases List.mem_append.mp hy with z | z
          · exact hg y (List.mem_of_mem_take z)
          · rw [List.mem_singleton.mp z]
            exact ⟨v1, v2⟩
        · intro hne
          simpa using v0
        · exact (hB3.keep (bs := []) ((((Kp.rfl').new hp4).new hp5).new hp6) (by simp)).up (by omega)
      refine ite2 (fun cc => ?_) (fun cc => ?_)
      · refine ⟨_, rfl, 1, rfl, p, _, _, _, rfl, rfl, SqL.of hP4, atI_end nw, ?_⟩
        exact fin _ (fun z => by simp [z] at cc) (hg _ (List.getLast_mem nw)).1 (hg _ (List.getLast_mem nw)).2
      · exact ⟨_, rfl, fin _ lw0 lw1 lw2⟩

end
end Sw

set_option maxHeartbeats 2000000
namespace Sw
open PySem PySem.Spec PyProof.Rows L2
section
variable {P : Program} {w : World} {K : PySem.W.Frag} {mg : Str → Option Value} {base : Heap}
def rises (r : List Int) : Prop := ∀ (i : Nat) (x y : Int), r[i]? = some x → r[i + 1]? = some y → x < y
theorem rises_one (x : Int) : rises [x] := fun i a b h1 h2 => by
  cases i <;> simp at h2
structure Rung (r : List Int) : Prop where
  l1 : 1 ≤ r.length
  l4 : r.length ≤ 4
  up : rises r
  bd : ∀ x ∈ r, -20000 ≤ x ∧ x ≤ 20000

end
end Sw

set_option maxHeartbeats 2000000
namespace Sw
open PySem PySem.Spec PyProof.Rows L2
section
variable {P : Program} {w : World} {K : PySem.W.Frag} {mg : Str → Option Value} {base : Heap}

def isNum (d : PyData) : Bool := match d with
  | .int _ => true
  | _ => false
def allOf (f : PyData → Bool) (d : PyData) : Bool := match d with
  | .list ds => ds.all f
  | .tuple ds => ds.all f
  | _ => false
def areNums (d : PyData) : Bool := allOf isNum d
def areRows (d : PyData) : Bool := allOf areNums d
/-- a def that tells a truth of a thing -/
def sp_tell (f : PyData → Bool) : Sp := fun vs H Q _ => ∃ (v : V) (d : PyData) (bs : List Addr) (w k : Nat), vs = [v] ∧ D bs H w k v d ∧ w ≤ 1000 ∧ ∀ H', Kp [] H H' → Q (.bl (f d)) H'
theorem ok_is_number (T : Tx K mg) : FnOk P w K mg base CX0 1 (He.fAd K ("is_number", none)) T.fd_is_number p_is_number (sp_tell isNum) := by
  refine T.F_is_number.ok sc_is_number (fun vs H Q E h => ?_) (fun cdv A outer s H vs Q E hr h => ?_)
  · obtain ⟨v, d, bs, w', k, rfl, _⟩ := h
    rfl
  · obtain ⟨v, d, bs, w', k, rfl, hD, _, q⟩ := h
    refine ⟨_, PSs.nox (pss_one (ps_ret (pe_and (pe_callB call_isi (by rfl) T.b_isinstance (by decide +kernel) (pa_cons (pv 0) (pa_cons (pe_bltn (v := .ty "int") (by rfl) T.b_int (by decide +kernel) rfl) pa_nil))) (pe_one (pe_not (pe_callB call_isi (by rfl) T.b_isinstance (by decide +kernel) (pa_cons (pv 0) (pa_cons (pe_bltn (v := .ty "bool") (by rfl) T.b_bool (by decide +kernel) rfl) pa_nil)))))))), ?_⟩
    refine ⟨_, rfl, _, _, _, _, _, rfl, .ty _, hD.tyx, hD.kI, _, rfl, ?_⟩
    cases hD with
    | int i hi => exact iteT ⟨_, rfl, _, _, _, _, _, rfl, .ty _, (D.int (bs := bs) (w := w') (k := k) i hi).tyx, (D.int (bs := bs) (H := H) (w := w') (k := k) i hi).kB, _, rfl, q H Kp.rfl'⟩
    | bl b => exact iteT ⟨_, rfl, _, _, _, _, _, rfl, .ty _, (D.bl (bs := bs) (w := w') (k := k) b).tyx, (D.bl (bs := bs) (H := H) (w := w') (k := k) b).kB, _, rfl, q H Kp.rfl'⟩
    | _ => exact iteF (q H Kp.rfl')

theorem ok_are_numbers (T : Tx K mg) : FnOk P w K mg base CX0 2 (He.fAd K ("are_numbers", none)) T.fd_are_numbers p_are_numbers (sp_tell areNums) := by
  have G_is_number := ok_is_number (P := P) (w := w) (base := base) T
  refine T.F_are_numbers.ok sc_are_numbers (fun vs H Q E h => ?_) (fun cdv A outer s H vs Q E hr h => ?_)
  · obtain ⟨v, d, bs, w', k, rfl, _⟩ := h
    rfl
  · obtain ⟨v, d, bs, w', k, rfl, hD, lw, q⟩ := h
    refine ⟨_, PSs.nox (pss_one (ps_ret (pe_and (pe_callB call_isiT (by rfl) T.b_isinstance (by decide +kernel) (pa_cons (pv 0) (pa_cons (pe_tup (pa_cons (pe_bltn (v := .ty "list") (by rfl) T.b_list (by decide +kernel) rfl) (pa_cons (pe_bltn (v := .ty "tuple") (by rfl) T.b_tuple (by decide +kernel) rfl) pa_nil))) pa_nil))) (pe_one (pe_callB (cr_all rfl) (by rfl) T.b_all (by decide +kernel) (pa_cons (pe_lc (own := [("one", 1)]) (g := (gName 1)) (tt := tYes) rfl sc_are_numbers.nd (pi_seq (pv 0)) (blkOk_by (own := [("one", 1)]) (N := n_are_numbers) (sc := defScope s_are_numbers) (by decide +kernel)) (fun _ _ _ _ _ => (pg_name (i := 1) sc_are_numbers.nd rfl (by first | exact Or.inl rfl | exact Or.inr rfl))) (fun _ _ _ _ _ => pts_nil) (fun _ _ _ _ _ => (pe_call G_is_number (hr.mono (by first | decide | omega)) rfl T.g_is_number T.F_is_number.kp T.bd_is_number .nil pass0 (pa_cons (pv 1) pa_nil)))) pa_nil)))))), ?_⟩
    refine ⟨_, rfl, by show 2 ≤ sizeLine; decide, fun t ht => ?_⟩
    have k1 : ∀ cs, Kp cs H (upd H t (.tup [.ty "list", .ty "tuple"])) := fun cs => Kp.rfl'.new ht
    have hD1 := hD.keep (k1 bs)
    refine ⟨_, t, _, _, [.type "list", .type "tuple"], _, rfl, upd_same, tyLT, hD1.tyx, hD1.kQ, _, rfl, ?_⟩
    cases hD1 with
    | @lst k' a xs ds h n l da =>
      refine iteT ⟨_, rfl, a, rfl, .inl ⟨⟨_, SqL.of h⟩, fun p hp => lc_list (K := K) (a := a) (xs := xs) (fun j H3 => H3 p = some (.lst (((ds.take j).map isNum).map V.bl)) ∧ Kp [] (upd H t (.tup [.ty "list", .ty "tuple"])) H3) ?_ ?_ ?_ ?_⟩⟩
      · exact ⟨by rw [upd_same]; rfl, Kp.rfl'.new hp⟩
      · rintro j H3 _ ⟨_, k3⟩
        exact SqL.of (k3 _ _ h (by simp))
      · rintro j y H3 hj ⟨h3, k3⟩
        obtain ⟨e, he, hy⟩ := da.get hj
        have hjl := (List.getElem?_eq_some_iff.mp hj).1
        refine ⟨rfl, yesT ⟨_, rfl, y, e, bs, w', k', rfl, hy.keep (k3.sub (by simp)), lw, fun H4 k4 => ⟨_, k4 _ _ h3 (by simp), ?_, ?_, ?_⟩⟩⟩
        · simp only [List.length_map, List.length_take]
          exact small1000 (by omega)
        · rw [upd_same, List.take_add_one, he]
          simp
        · exact (k3.trans k4).own hp
      · rintro H3 ⟨h3, k3⟩
        rw [DA.len da, List.take_length] at h3
        refine ⟨p, _, rfl, SqL.of h3, ?_⟩
        have e : (ds.map isNum).all id = areNums (.list ds) := by simp [areNums, allOf, List.all_map, Function.comp_def]
        rw [e]
        exact q _ ((k1 []).trans k3)
    | @tup k' a xs ds h n l da =>
      refine iteT ⟨_, rfl, a, rfl, .inr ⟨⟨_, SqT.of h⟩, fun p hp => lc_tup (K := K) (a := a) (xs := xs) (fun j H3 => H3 p = some (.lst (((ds.take j).map isNum).map V.bl)) ∧ Kp [] (upd H t (.tup [.ty "list", .ty "tuple"])) H3) ?_ ?_ ?_ ?_⟩⟩
      · exact ⟨by rw [upd_same]; rfl, Kp.rfl'.new hp⟩
      · rintro j H3 _ ⟨_, k3⟩
        exact SqT.of (k3 _ _ h (by simp))
      · rintro j y H3 hj ⟨h3, k3⟩
        obtain ⟨e, he, hy⟩ := da.get hj
        have hjl := (List.getElem?_eq_some_iff.mp hj).1
        refine ⟨rfl, yesT ⟨_, rfl, y, e, bs, w', k', rfl, hy.keep (k3.sub (by simp)), lw, fun H4 k4 => ⟨_, k4 _ _ h3 (by simp), ?_, ?_, ?_⟩⟩⟩
        · simp only [List.length_map, List.length_take]
          exact small1000 (by omega)
        · rw [upd_same, List.take_add_one, he]
          simp
        · exact (k3.trans k4).own hp
      · rintro H3 ⟨h3, k3⟩
        rw [DA.len da, List.take_length] at h3
        refine ⟨p, _, rfl, SqL.of h3, ?_⟩
        have e : (ds.map isNum).all id = areNums (.tuple ds) := by simp [areNums, allOf, List.all_map, Function.comp_def]
        rw [e]
        exact q _ ((k1 []).trans k3)
    | _ => exact iteF (q _ (k1 []))

theorem ok_are_rows (T : Tx K mg) : FnOk P w K mg base CX0 3 (He.fAd K ("are_rows", none)) T.fd_are_rows p_are_rows (sp_tell areRows) := by
  have G_are_numbers := ok_are_numbers (P := P) (w := w) (base := base) T
  refine T.F_are_rows.ok sc_are_rows (fun vs H Q E h => ?_) (fun cdv A outer s H vs Q E hr h => ?_)
  · obtain ⟨v, d, bs, w', k, rfl, _⟩ := h
    rfl
  · obtain ⟨v, d, bs, w', k, rfl, hD, lw, q⟩ := h
    refine ⟨_, PSs.nox (pss_one (ps_ret (pe_and (pe_callB call_isiT (by rfl) T.b_isinstance (by decide +kernel) (pa_cons (pv 0) (pa_cons (pe_tup (pa_cons (pe_bltn (v := .ty "list") (by rfl) T.b_list (by decide +kernel) rfl) (pa_cons (pe_bltn (v := .ty "tuple") (by rfl) T.b_tuple (by decide +kernel) rfl) pa_nil))) pa_nil))) (pe_one (pe_callB (cr_all rfl) (by rfl) T.b_all (by decide +kernel) (pa_cons (pe_lc (own := [("row", 1)]) (g := (gName 1)) (tt := tYes) rfl sc_are_rows.nd (pi_seq (pv 0)) (blkOk_by (own := [("row", 1)]) (N := n_are_rows) (sc := defScope s_are_rows) (by decide +kernel)) (fun _ _ _ _ _ => (pg_name (i := 1) sc_are_rows.nd rfl (by first | exact Or.inl rfl | exact Or.inr rfl))) (fun _ _ _ _ _ => pts_nil) (fun _ _ _ _ _ => (pe_call G_are_numbers (hr.mono (by first | decide | omega)) rfl T.g_are_numbers T.F_are_numbers.kp T.bd_are_numbers .nil pass0 (pa_cons (pv 1) pa_nil)))) pa_nil)))))), ?_⟩
    refine ⟨_, rfl, by show 2 ≤ sizeLine; decide, fun t ht => ?_⟩
    have k1 : ∀ cs, Kp cs H (upd H t (.tup [.ty "list", .ty "tuple"])) := fun cs => Kp.rfl'.new ht
    have hD1 := hD.keep (k1 bs)
    refine ⟨_, t, _, _, [.type "list", .type "tuple"], _, rfl, upd_same, tyLT, hD1.tyx, hD1.kQ, _, rfl, ?_⟩
    cases hD1 with
    | @lst k' a xs ds h n l da =>
      refine iteT ⟨_, rfl, a, rfl, .inl ⟨⟨_, SqL.of h⟩, fun p hp => lc_list (K := K) (a := a) (xs := xs) (fun j H3 => H3 p = some (.lst (((ds.take j).map areNums).map V.bl)) ∧ Kp [] (upd H t (.tup [.ty "list", .ty "tuple"])) H3) ?_ ?_ ?_ ?_⟩⟩
      · exact ⟨by rw [upd_same]; rfl, Kp.rfl'.new hp⟩
      · rintro j H3 _ ⟨_, k3⟩
        exact SqL.of (k3 _ _ h (by simp))
      · rintro j y H3 hj ⟨h3, k3⟩
        obtain ⟨e, he, hy⟩ := da.get hj
        have hjl := (List.getElem?_eq_some_iff.mp hj).1
        refine ⟨rfl, yesT ⟨_, rfl, y, e, bs, w', k', rfl, hy.keep (k3.sub (by simp)), lw, fun H4 k4 => ⟨_, k4 _ _ h3 (by simp), ?_, ?_, ?_⟩⟩⟩
        · simp only [List.length_map, List.length_take]
          exact small1000 (by omega)
        · rw [upd_same, List.take_add_one, he]
          simp
        · exact (k3.trans k4).own hp
      · rintro H3 ⟨h3, k3⟩
        rw [DA.len da, List.take_length] at h3
        refine ⟨p, _, rfl, SqL.of h3, ?_⟩
        have e : (ds.map areNums).all id = areRows (.list ds) := by simp [areRows, allOf, List.all_map, Function.comp_def]
        rw [e]
        exact q _ ((k1 []).trans k3)
    | @tup k' a xs ds h n l da =>
      refine iteT ⟨_, rfl, a, rfl, .inr ⟨⟨_, SqT.of h⟩, fun p hp => lc_tup (K := K) (a := a) (xs := xs) (fun j H3 => H3 p = some (.lst (((ds.take j).map areNums).map V.bl)) ∧ Kp [] (upd H t (.tup [.ty "list", .ty "tuple"])) H3) ?_ ?_ ?_ ?_⟩⟩
      · exact ⟨by rw [upd_same]; rfl, Kp.rfl'.new hp⟩
      · rintro j H3 _ ⟨_, k3⟩
        exact SqT.of (k3 _ _ h (by simp))
      · rintro j y H3 hj ⟨h3, k3⟩
        obtain ⟨e, he, hy⟩ := da.get hj
        have hjl := (List.getElem?_eq_some_iff.mp hj).1
        refine ⟨rfl, yesT ⟨_, rfl, y, e, bs, w', k', rfl, hy.keep (k3.sub (by simp)), lw, fun H4 k4 => ⟨_, k4 _ _ h3 (by simp), ?_, ?_, ?_⟩⟩⟩
        · simp only [List.length_map, List.length_take]
          exact small1000 (by omega)
        · rw [upd_same, List.take_add_one, he]
          simp
        · exact (k3.trans k4).own hp
      · rintro H3 ⟨h3, k3⟩
        rw [DA.len da, List.take_length] at h3
        refine ⟨p, _, rfl, SqL.of h3, ?_⟩
        have e : (ds.map areNums).all id = areRows (.tuple ds) := by simp [areRows, allOf, List.all_map, Function.comp_def]
        rw [e]
        exact q _ ((k1 []).trans k3)
    | _ => exact iteF (q _ (k1 []))

end
end Sw

set_option maxHeartbeats 2000000
namespace Sw
open PySem PySem.Spec PyProof.Rows L2
section
variable {P : Program} {w : World} {K : PySem.W.Frag} {mg : Str → Option Value} {base : Heap}
theorem DA.small {bs : List Addr} {H : Hp} {w k : Nat} : ∀ {ns : List Int} {vs : List V}, DA bs H w k vs (ns.map PyData.int) → ∀ n ∈ ns, n.natAbs < 2 ^ 39 + w
  | [], _, _, n, hn => nomatch hn
  | m :: ns, _, .cons h t, n, hn => by
    rcases List.mem_cons.mp hn with z | z
    · subst z
      cases h with
      | int _ hi => exact hi
    · exact DA.small t n z
/-! ### a list or a tuple -/
def sqo (kd : Bool) (xs : List V) : HO := match kd with
  | true => .lst xs
  | false => .tup xs
def mkD (kd : Bool) (ds : List PyData) : PyData := match kd with
  | true => .list ds
  | false => .tuple ds
theorem D.seq {bs : List Addr} {H : Hp} {w k : Nat} {v : V} {d : PyData} (x : D bs H w k v d) (hsq : isSeq d = true) : ∃ a kd xs ds k', v = .ref a ∧ k = k' + 1 ∧ H a = some (sqo kd xs) ∧ a ∉ bs ∧ xs.length ≤ w ∧ DA bs H w k' xs ds ∧ d = mkD kd ds := by
  cases x with
  | lst h n l t => exact ⟨_, true, _, _, _, rfl, rfl, h, n, l, t, rfl⟩
  | tup h n l t => exact ⟨_, false, _, _, _, rfl, rfl, h, n, l, t, rfl⟩
  | _ => cases hsq
theorem D.ofSeq {bs : List Addr} {H : Hp} {w k : Nat} {a : Addr} {kd : Bool} {xs : List V} {ds : List PyData} (h : H a = some (sqo kd xs)) (n : a ∉ bs) (l : xs.length ≤ w) (t : DA bs H w k xs ds) : D bs H w (k + 1) (.ref a) (mkD kd ds) := by
  cases kd
  · exact .tup h n l t
  · exact .lst h n l t
theorem sqo_len {H : Hp} {a : Addr} {kd : Bool} {xs : List V} {n : Nat} (h : H a = some (sqo kd xs)) (e : n = xs.length) : LenV K (.ref a) H n := by
  cases kd
  · exact .inr ⟨_, SqT.of h, e⟩
  · exact .inl ⟨_, SqL.of h, e⟩
theorem sqo_k {H : Hp} {a : Addr} {kd : Bool} {xs : List V} (h : H a = some (sqo kd xs)) : SqK kd K H a xs := by
  cases kd
  · exact SqT.of h
  · exact SqL.of h
/-- a comprehension over a list or a tuple -/
theorem lc_seq {H1 : Hp} {a : Addr} {kd : Bool} {xs : List V} {g : TG} {tt : TT} {te : TE} {vs : List Nat} {σ : L2.St} {Qd : Addr → Hp → Prop} (h : H1 a = some (sqo kd xs)) (Pv : Addr → Nat → Hp → Prop) (h0 : ∀ p, H1 p = none → Pv p 0 (upd H1 p (.lst [])))
    (hG : ∀ p i H, H1 p = none → Pv p i H → H a = some (sqo kd xs))
    (hs : ∀ p i x H, H1 p = none → xs[i]? = some x → Pv p i H → g x (wipe σ vs) H fun σ2 H2 => wipe σ2 vs = wipe σ vs ∧ tt σ2 H2 fun b H3 =>
      if b = true then te σ2 H3 fun y H4 => ∃ acc, H4 p = some (.lst acc) ∧ acc.length < sizeLine ∧ Pv p (i + 1) (upd H4 p (.lst (acc ++ [y]))) else Pv p (i + 1) H3) (hd : ∀ p H, H1 p = none → Pv p xs.length H → Qd p H) :
    ((∃ xs, SqL K H1 a xs) ∧ ∀ p, H1 p = none → ∃ W : Nat → Nat → Hp → Prop, (∃ m, W 0 m (upd H1 p (.lst []))) ∧ ∀ i m H, W i m H →
      ((Itl K a).stop i H ∧ Qd p H) ∨ ((Itl K a).go i H ∧ ∃ Nx : Hp → Prop, (∀ H', Nx H' → ∃ m', m' < m ∧ W (i + 1) m' H') ∧ ∀ x H', (Itl K a).yld i H x H' → g x (wipe σ vs) H' fun σ2 H2 => wipe σ2 vs = wipe σ vs ∧ tt σ2 H2 fun b H3 =>
        if b = true then te σ2 H3 fun y H4 => ∃ acc, H4 p = some (.lst acc) ∧ acc.length < sizeLine ∧ Nx (upd H4 p (.lst (acc ++ [y]))) else Nx H3)) ∨
    ((∃ xs, SqT K H1 a xs) ∧ ∀ p, H1 p = none → ∃ W : Nat → Nat → Hp → Prop, (∃ m, W 0 m (upd H1 p (.lst []))) ∧ ∀ i m H, W i m H →
      ((Itt K a).stop i H ∧ Qd p H) ∨ ((Itt K a).go i H ∧ ∃ Nx : Hp → Prop, (∀ H', Nx H' → ∃ m', m' < m ∧ W (i + 1) m' H') ∧ ∀ x H', (Itt K a).yld i H x H' → g x (wipe σ vs) H' fun σ2 H2 => wipe σ2 vs = wipe σ vs ∧ tt σ2 H2 fun b H3 =>
        if b = true then te σ2 H3 fun y H4 => ∃ acc, H4 p = some (.lst acc) ∧ acc.length < sizeLine ∧ Nx (upd H4 p (.lst (acc ++ [y]))) else Nx H3)) := by
  cases kd
  · exact .inr ⟨⟨_, SqT.of h⟩, fun p hp => lc_tup (K := K) (a := a) (xs := xs) (Pv p) (h0 p hp) (fun i H _ q => SqT.of (hG p i H hp q)) (fun i x H hx q => hs p i x H hp hx q) fun H q => hd p H hp q⟩
  · exact .inl ⟨⟨_, SqL.of h⟩, fun p hp => lc_list (K := K) (a := a) (xs := xs) (Pv p) (h0 p hp) (fun i H _ q => SqL.of (hG p i H hp q)) (fun i x H hx q => hs p i x H hp hx q) fun H q => hd p H hp q⟩
theorem iteC {c : Bool} {A B : Prop} (h : c = true) (k : A) : if c = true then A else B := by
  rw [if_pos h]
  exact k
theorem iteN {c : Bool} {A B : Prop} (h : c = false) (k : B) : if c = true then A else B := by
  rw [h]
  exact iteF k
theorem rep_snoc (j : Nat) : (List.replicate j true).map V.bl ++ [V.bl true] = (List.replicate (j + 1) true).map V.bl := by
  rw [List.replicate_succ']
  simp
theorem rep_all (j : Nat) : (List.replicate j true).all id = true := by simp
theorem cut_one (xs : List V) : cutV xs (some 1) none = xs.drop 1 := by
  have e : HT.sIx xs.length 0 (some 1) = min 1 xs.length := HT.sIx_nat xs.length 0 1
  unfold cutV
  rw [HT.sIx_none, e]
  cases xs with
  | nil => rfl
  | cons a r =>
    have e2 : min 1 (a :: r).length = 1 := by simp
    rw [e2, List.take_of_length_le (by simp)]
/-! ### numbers, rows of numbers -/
/-- d tells the numbers ns -/
def IntsD (d : PyData) (ns : List Int) : Prop := ∃ kd, d = mkD kd (ns.map PyData.int)
theorem IntsD.nums {d : PyData} {ns : List Int} (h : IntsD d ns) : areNums d = true := by
  obtain ⟨kd, rfl⟩ := h
  cases kd <;> simp [mkD, areNums, allOf, isNum, List.all_map]
theorem IntsD.seq {d : PyData} {ns : List Int} (h : IntsD d ns) : isSeq d = true := by
  obtain ⟨kd, rfl⟩ := h
  cases kd <;> rfl
def RowsD (d : PyData) (rows : List (List Int)) : Prop := ∃ kd ds, d = mkD kd ds ∧ ds.length = rows.length ∧ ∀ (i : Nat) (e : PyData) (r : List Int), ds[i]? = some e → rows[i]? = some r → IntsD e r
theorem RowsD.rowsOk {d : PyData} {rows : List (List Int)} (h : RowsD d rows) : areRows d = true := by
  obtain ⟨kd, ds, rfl, l, a⟩ := h
  have e : ds.all areNums = true := by
    rw [List.all_eq_true]
    intro x hx
    obtain ⟨i, hi, e⟩ := List.getElem_of_mem hx
    have hr : i < rows.length := by omega
    exact (a i x rows[i] (by rw [List.getElem?_eq_getElem hi, e]) (by simp [hr])).nums
  cases kd <;> simpa [mkD, areRows, allOf] using e
theorem D.ints {bs : List Addr} {H : Hp} {w k : Nat} {v : V} {d : PyData} {ns : List Int} (x : D bs H w k v d) (h : IntsD d ns) : ∃ a kd, v = .ref a ∧ H a = some (sqo kd (ns.map V.int)) ∧ a ∉ bs ∧ ns.length ≤ w ∧ (∀ n ∈ ns, n.natAbs < 2 ^ 39 + w) := by
  obtain ⟨a, kd, xs, ds, k', e, ek, ha, na, l, da, ed⟩ := x.seq h.seq
  obtain ⟨kd2, e2⟩ := h
  rw [ed] at e2
  have eds : ds = ns.map PyData.int := by
    cases kd <;> cases kd2 <;> simp [mkD] at e2 <;> exact e2
  rw [eds] at da
  have ex := DA.ints da
  rw [ex] at ha l
  exact ⟨a, kd, e, ha, na, by simpa using l, DA.small da⟩
theorem D.rows {bs : List Addr} {H : Hp} {w k : Nat} {v : V} {d : PyData} {rows : List (List Int)} (x : D bs H w k v d) (h : RowsD d rows) : ∃ a kd xs, v = .ref a ∧ H a = some (sqo kd xs) ∧ a ∉ bs ∧ xs.length = rows.length ∧ xs.length ≤ w ∧
    ∀ (i : Nat) (y : V), xs[i]? = some y → ∃ r e k', rows[i]? = some r ∧ IntsD e r ∧ D bs H w k' y e ∧ k' + 1 = k := by
  obtain ⟨kd2, ds, rfl, l, al⟩ := h
  have hs : isSeq (mkD kd2 ds) = true := by cases kd2 <;> rfl
  obtain ⟨a, kd, xs, ds2, k', e, ek, ha, na, lx, da, ed⟩ := x.seq hs
  have eds : ds = ds2 := by
    cases kd <;> cases kd2 <;> simp [mkD] at ed <;> exact ed
  subst eds
  have ll := DA.len da
  refine ⟨a, kd, xs, e, ha, na, by omega, lx, fun i y hy => ?_⟩
  obtain ⟨e', he', hD⟩ := da.get hy
  have hi := (List.getElem?_eq_some_iff.mp hy).1
  have hr : i < rows.length := by omega
  exact ⟨rows[i], e', k', by simp [hr], al i e' rows[i] he' (by simp [hr]), hD, ek.symm⟩
def risesB (ns : List Int) : List Bool := (ns.zip (ns.drop 1)).map fun p => decide (p.1 < p.2)
theorem risesB_of {ns : List Int} (h : rises ns) : (risesB ns).all id = true := by
  rw [risesB, List.all_map, List.all_eq_true]
  rintro ⟨x, y⟩ hp
  obtain ⟨i, hi, e⟩ := List.getElem_of_mem hp
  have e1 : (ns.zip (ns.drop 1))[i]? = some (x, y) := by rw [List.getElem?_eq_getElem hi, e]
  rw [List.getElem?_zip_eq_some] at e1
  obtain ⟨e2, e3⟩ := e1
  rw [List.getElem?_drop] at e3
  have := h i x y e2 (by rw [Nat.add_comm]; exact e3)
  simpa using this
def sp_rise : Sp := fun vs H Q _ => ∃ (a : Addr) (kd : Bool) (ns : List Int), vs = [.ref a] ∧ H a = some (sqo kd (ns.map V.int)) ∧ 1 ≤ ns.length ∧ ns.length ≤ 1000 ∧ ∀ H', Kp [] H H' → Q (.bl ((risesB ns).all id)) H'
theorem ok_rise (T : Tx K mg) : FnOk P w K mg base CX0 1 (He.fAd K ("does_rise", none)) T.fd_does_rise p_does_rise sp_rise := by
  refine T.F_does_rise.ok sc_does_rise (fun vs H Q E h => ?_) (fun cdv A outer s H vs Q E hr h => ?_)
  · obtain ⟨a, kd, ns, rfl, _⟩ := h
    rfl
  · obtain ⟨a, kd, ns, rfl, hA, hl1, hl, q⟩ := h
    refine ⟨_, PSs.nox (pss_one (ps_ret (pe_callB (cr_all rfl) (by rfl) T.b_all (by decide +kernel) (pa_cons (pe_lc (own := [("low", 1), ("high", 2)]) (g := (gTup K 2 (gCons (gName 1) (gCons (gName 2) gNil)))) (tt := tYes) rfl sc_does_rise.nd (pi_zipS (by rfl) T.b_zip (pa_cons (pv 0) (pa_cons (pe_slice (sl_list.or sl_tup) (pv 0) (po_some pe_int) po_none) pa_nil))) (blkOk_by (own := [("low", 1), ("high", 2)]) (N := n_does_rise) (sc := defScope s_does_rise) (by decide +kernel)) (fun _ _ _ _ _ => (pg_tup rfl (pgs_cons (pg_name (i := 1) sc_does_rise.nd rfl (by first | exact Or.inl rfl | exact Or.inr rfl)) (pgs_cons (pg_name (i := 2) sc_does_rise.nd rfl (by first | exact Or.inl rfl | exact Or.inr rfl)) pgs_nil)))) (fun _ _ _ _ _ => pts_nil) (fun _ _ _ _ _ => (pe_cmpR op_lt (pv 1) (pv 2) (nomark _)))) pa_nil)))), ?_⟩
    have rest : ∀ p, H p = none → (iZipS K (fun σ H Q => Q [.ref a, .ref p] H)) (L2.start n_does_rise [V.ref a]) (upd H p (sqo kd (cutV (ns.map V.int) (some 1) none))) (fun J H1 => ∀ D, H1 D = none → ∃ W : Nat → Nat → Hp → Prop, (∃ m, W 0 m (upd H1 D (.lst []))) ∧ ∀ i m H, W i m H →
        (J.stop i H ∧ rAll K [.ref D] H Q) ∨ (J.go i H ∧ ∃ Nx : Hp → Prop, (∀ H', Nx H' → ∃ m', m' < m ∧ W (i + 1) m' H') ∧ ∀ x H', J.yld i H x H' → (gTup K 2 (gCons (gName 1) (gCons (gName 2) gNil))) x (wipe (L2.start n_does_rise [V.ref a]) [1, 2]) H' fun σ2 H2 => wipe σ2 [1, 2] = wipe (L2.start n_does_rise [V.ref a]) [1, 2] ∧ tYes σ2 H2 fun b H3 =>
          if b = true then (tOp (rI0 fun i j => V.bl (decide (i < j))) (tVar 1) (tVar 2)) σ2 H3 fun y H4 => ∃ acc, H4 D = some (.lst acc) ∧ acc.length < sizeLine ∧ Nx (upd H4 D (.lst (acc ++ [y]))) else Nx H3)) := by
      intro p hp
      have nap := ne_of_none hA hp
      have hA1 : (upd H p (sqo kd (cutV (ns.map V.int) (some 1) none))) a = some (sqo kd (ns.map V.int)) := by
        rw [upd_ne nap]
        exact hA
      have hP1 : (upd H p (sqo kd (cutV (ns.map V.int) (some 1) none))) p = some (sqo kd ((ns.drop 1).map V.int)) := by
        rw [upd_same, cut_one, List.map_drop]
      refine ⟨a, p, kd, kd, _, _, rfl, sqo_k hA1, sqo_k hP1, fun d hd => lc_it (walkZ (xs := ns.map V.int) (ys := (ns.drop 1).map V.int) rfl) (fun j H3 => H3 d = some (.lst (((risesB ns).take j).map V.bl)) ∧ Kp [] (upd H p (sqo kd (cutV (ns.map V.int) (some 1) none))) H3) ?_ ?_ ?_ ?_⟩
      · exact ⟨by rw [upd_same]; rfl, Kp.rfl'.new hd⟩
      · rintro j H3 _ ⟨_, k3⟩
        exact ⟨sqo_k (k3 _ _ hA1 (by simp)), sqo_k (k3 _ _ hP1 (by simp))⟩
      · rintro j x H3 H4 hj ⟨h3, k3⟩ ⟨t, y, z, rfl, ht, rfl, hy, hz⟩
        simp only [List.getElem?_map] at hy hz
        obtain ⟨y', hy', rfl⟩ := Option.map_eq_some_iff.mp hy
        obtain ⟨z', hz', rfl⟩ := Option.map_eq_some_iff.mp hz
        refine ⟨t, _, rfl, SqT.of upd_same, rfl, _, _, rfl, _, _, rfl, rfl, rfl, yesT ⟨_, rfl, _, rfl, _, _, rfl, rfl, ?_⟩⟩
        refine ⟨_, by rw [upd_ne (ne_of_none h3 ht)]; exact h3, ?_, ?_, ?_⟩
        · simp only [List.length_map, List.length_take, risesB, List.length_zip]
          exact small1000 (by omega)
        · have e : (risesB ns)[j]? = some (decide (y' < z')) := by
            rw [risesB, List.getElem?_map, (List.getElem?_zip_eq_some (i := j) (z := (y', z'))).mpr ⟨hy', hz'⟩]
            rfl
          rw [upd_same, List.take_add_one, e]
          simp
        · exact (k3.new ht).own hd
      · rintro H3 ⟨h3, k3⟩
        have e : (risesB ns).take (min (ns.map V.int).length ((ns.drop 1).map V.int).length) = risesB ns := by
          apply List.take_of_length_le
          simp [risesB]
        rw [e] at h3
        exact ⟨d, _, rfl, SqL.of h3, q _ ((Kp.rfl'.new hp).trans k3)⟩
    refine ⟨_, rfl, _, rfl, 1, rfl, ?_⟩
    cases kd with
    | true => exact .inl ⟨a, _, rfl, SqL.of hA, rest⟩
    | false =>
      refine .inr ⟨a, _, rfl, SqT.of hA, ?_, rest⟩
      rintro ⟨z, _⟩
      have e : HT.sIx (ns.map V.int).length 0 (some 1) = min 1 (ns.map V.int).length := HT.sIx_nat _ 0 1
      rw [e, List.length_map] at z
      omega
structure Rung0 (r : List Int) : Prop where
  l1 : 1 ≤ r.length
  l4 : r.length ≤ 4
  up : rises r
theorem Rung.r0 {r : List Int} (h : Rung r) : Rung0 r := ⟨h.l1, h.l4, h.up⟩

end
end Sw

set_option maxHeartbeats 2000000
namespace Sw
open PySem PySem.Spec PyProof.Rows L2
section
variable {P : Program} {w : World} {K : PySem.W.Frag} {mg : Str → Option Value} {base : Heap}
/-- a row of data that tells r -/
def sp_strings : Sp := fun vs H Q _ => ∃ (v : V) (d : PyData) (rows : List (List Int)) (bs : List Addr) (w k : Nat), vs = [v] ∧ D bs H w k v d ∧ RowsD d rows ∧ w ≤ 1000 ∧ 1 ≤ rows.length ∧ (∀ r ∈ rows, r.length = rows.length) ∧ ∀ H', Kp [] H H' → Q (.bl true) H'
theorem ok_strings (T : Tx K mg) : FnOk P w K mg base CX0 4 (He.fAd K ("are_strings", none)) T.fd_are_strings p_are_strings sp_strings := by
  have G_are_rows := ok_are_rows (P := P) (w := w) (base := base) T
  refine T.F_are_strings.ok sc_are_strings (fun vs H Q E h => ?_) (fun cdv A outer s H vs Q E hr h => ?_)
  · obtain ⟨_, _, _, _, _, _, rfl, _⟩ := h
    rfl
  · obtain ⟨v, d, rows, bs, w', k, rfl, hD, hR, lw, l1, hl, q⟩ := h
    refine ⟨_, PSs.nox (pss_one (ps_ret (pe_and (pe_call G_are_rows (hr.mono (by first | decide | omega)) rfl T.g_are_rows T.F_are_rows.kp T.bd_are_rows .nil pass0 (pa_cons (pv 0) pa_nil)) (pe_and (pe_cmpR op_gt (pe_callB call_len (by rfl) T.b_len (by decide +kernel) (pa_cons (pv 0) pa_nil)) pe_int (nomark _)) (pe_one (pe_callB (cr_all rfl) (by rfl) T.b_all (by decide +kernel) (pa_cons (pe_lc (own := [("row", 1)]) (g := (gName 1)) (tt := tYes) rfl sc_are_strings.nd (pi_seq (pv 0)) (blkOk_by (own := [("row", 1)]) (N := n_are_strings) (sc := defScope s_are_strings) (by decide +kernel)) (fun _ _ _ _ _ => (pg_name (i := 1) sc_are_strings.nd rfl (by first | exact Or.inl rfl | exact Or.inr rfl))) (fun _ _ _ _ _ => pts_nil) (fun _ _ _ _ _ => (pe_cmpR op_eq (pe_callB (kLen (K := K) rfl) (by rfl) T.b_len (by decide +kernel) (pa_cons (pv 1) pa_nil)) (pe_callB (kLen (K := K) rfl) (by rfl) T.b_len (by decide +kernel) (pa_cons (pv 0) pa_nil)) (nomark _)))) pa_nil))))))), ?_⟩
    refine ⟨_, rfl, _, _, bs, w', k, rfl, hD, lw, fun H1 k1 => ⟨_, rfl, iteC hR.rowsOk ?_⟩⟩
    obtain ⟨t, kd, xs, rfl, h, n, lx, lxw, al⟩ := (hD.keep (k1.sub (by simp))).rows hR
    refine ⟨_, rfl, _, rows.length, rfl, sqo_len h lx.symm, _, _, rfl, rfl, _, rfl, iteC (by simp; omega) ?_⟩
    refine ⟨_, rfl, t, rfl, lc_seq h (fun p j H3 => H3 p = some (.lst ((List.replicate j true).map V.bl)) ∧ Kp [] H1 H3) ?_ ?_ ?_ ?_⟩
    · exact fun p hp => ⟨by rw [upd_same]; rfl, Kp.rfl'.new hp⟩
    · rintro p j H3 _ ⟨_, k3⟩
      exact k3 _ _ h (by simp)
    · rintro p j y H3 hp hj ⟨h3, k3⟩
      obtain ⟨r, e, k', hr2, hI, hDy, _⟩ := al j y hj
      have hjl := (List.getElem?_eq_some_iff.mp hj).1
      have hrl := hl r (List.mem_of_getElem? hr2)
      obtain ⟨ra, kd2, rfl, hRa, _, _, _⟩ := hDy.ints hI
      refine ⟨rfl, yesT ⟨_, rfl, _, r.length, rfl, sqo_len (k3 _ _ hRa (by simp)) (by simp), _, rfl, _, rows.length, rfl, sqo_len (k3 _ _ h (by simp)) lx.symm, rfl, ?_⟩⟩
      refine ⟨_, h3, by simp only [List.length_map, List.length_replicate]; exact small1000 (by omega), ?_, k3.own hp⟩
      rw [upd_same, hrl, decide_eq_true rfl, rep_snoc]
    · rintro p H3 hp ⟨h3, k3⟩
      refine ⟨p, _, rfl, SqL.of h3, ?_⟩
      rw [rep_all]
      exact q _ (k1.trans k3)
def sp_ladder : Sp := fun vs H Q _ => ∃ (a : Addr) (kd : Bool) (r : List Int), vs = [.ref a] ∧ H a = some (sqo kd (r.map V.int)) ∧ Rung0 r ∧ ∀ H', Kp [] H H' → Q (.bl true) H'
theorem ok_ladder (T : Tx K mg) : FnOk P w K mg base CX0 2 (He.fAd K ("is_ladder", none)) T.fd_is_ladder p_is_ladder sp_ladder := by
  have G_does_rise := ok_rise (P := P) (w := w) (base := base) T
  refine T.F_is_ladder.ok sc_is_ladder (fun vs H Q E h => ?_) (fun cdv A outer s H vs Q E hr h => ?_)
  · obtain ⟨t, kd, rows, rfl, _⟩ := h
    rfl
  · obtain ⟨a, kd, r, rfl, hA, hR, q⟩ := h
    refine ⟨_, PSs.nox (pss_one (ps_ret (pe_and (pe_chain op_le op_le pe_int (pe_callB call_len (by rfl) T.b_len (by decide +kernel) (pa_cons (pv 0) pa_nil)) (pe_glob (v := .int 4) rfl T.c_MOST_STEPS ⟨_, rfl⟩)) (pe_one (pe_call G_does_rise (hr.mono (by first | decide | omega)) rfl T.g_does_rise T.F_does_rise.kp T.bd_does_rise .nil pass0 (pa_cons (pv 0) pa_nil)))))), ?_⟩
    have l1 := hR.l1
    have l4 := hR.l4
    refine ⟨_, rfl, _, r.length, rfl, sqo_len hA (by simp), _, _, rfl, rfl, _, rfl, iteC (by simp; omega) ?_⟩
    refine ⟨_, _, rfl, rfl, _, rfl, iteC (by simp; omega) ?_⟩
    refine ⟨_, rfl, a, kd, r, rfl, hA, l1, by omega, fun H1 k1 => ?_⟩
    rw [risesB_of hR.up]
    exact q _ k1
def sp_steps : Sp := fun vs H Q _ => ∃ (v : V) (d : PyData) (rows : List (List Int)) (bs : List Addr) (w k : Nat), vs = [v, .int rows.length] ∧ D bs H w k v d ∧ RowsD d rows ∧ w ≤ 1000 ∧ (∀ r ∈ rows, Rung0 r) ∧ ∀ H', Kp [] H H' → Q (.bl true) H'
theorem ok_steps (T : Tx K mg) : FnOk P w K mg base CX0 4 (He.fAd K ("are_steps", none)) T.fd_are_steps p_are_steps sp_steps := by
  have G_are_rows := ok_are_rows (P := P) (w := w) (base := base) T
  have G_is_ladder := ok_ladder (P := P) (w := w) (base := base) T
  refine T.F_are_steps.ok sc_are_steps (fun vs H Q E h => ?_) (fun cdv A outer s H vs Q E hr h => ?_)
  · obtain ⟨_, _, _, _, _, _, rfl, _⟩ := h
    rfl
  · obtain ⟨v, d, rows, bs, w', k, rfl, hD, hR, lw, hl, q⟩ := h
    refine ⟨_, PSs.nox (pss_one (ps_ret (pe_and (pe_call G_are_rows (hr.mono (by first | decide | omega)) rfl T.g_are_rows T.F_are_rows.kp T.bd_are_rows .nil pass0 (pa_cons (pv 0) pa_nil)) (pe_and (pe_cmpR op_eq (pe_callB call_len (by rfl) T.b_len (by decide +kernel) (pa_cons (pv 0) pa_nil)) (pv 1) (nomark _)) (pe_one (pe_callB (cr_all rfl) (by rfl) T.b_all (by decide +kernel) (pa_cons (pe_lc (own := [("row", 2)]) (g := (gName 2)) (tt := tYes) rfl sc_are_steps.nd (pi_seq (pv 0)) (blkOk_by (own := [("row", 2)]) (N := n_are_steps) (sc := defScope s_are_steps) (by decide +kernel)) (fun _ _ _ _ _ => (pg_name (i := 2) sc_are_steps.nd rfl (by first | exact Or.inl rfl | exact Or.inr rfl))) (fun _ _ _ _ _ => pts_nil) (fun _ _ _ _ _ => (pe_call G_is_ladder (hr.mono (by first | decide | omega)) rfl T.g_is_ladder T.F_is_ladder.kp T.bd_is_ladder .nil pass0 (pa_cons (pv 2) pa_nil)))) pa_nil))))))), ?_⟩
    refine ⟨_, rfl, _, _, bs, w', k, rfl, hD, lw, fun H1 k1 => ⟨_, rfl, iteC hR.rowsOk ?_⟩⟩
    obtain ⟨t, kd, xs, rfl, h, n, lx, lxw, al⟩ := (hD.keep (k1.sub (by simp))).rows hR
    refine ⟨_, rfl, _, rows.length, rfl, sqo_len h lx.symm, _, rfl, rfl, _, rfl, iteC (by simp) ?_⟩
    refine ⟨_, rfl, t, rfl, lc_seq h (fun p j H3 => H3 p = some (.lst ((List.replicate j true).map V.bl)) ∧ Kp [] H1 H3) ?_ ?_ ?_ ?_⟩
    · exact fun p hp => ⟨by rw [upd_same]; rfl, Kp.rfl'.new hp⟩
    · rintro p j H3 _ ⟨_, k3⟩
      exact k3 _ _ h (by simp)
    · rintro p j y H3 hp hj ⟨h3, k3⟩
      obtain ⟨r, e, k', hr2, hI, hDy, _⟩ := al j y hj
      have hjl := (List.getElem?_eq_some_iff.mp hj).1
      obtain ⟨ra, kd2, rfl, hRa, _, _, _⟩ := hDy.ints hI
      refine ⟨rfl, yesT ⟨_, rfl, ra, kd2, r, rfl, k3 _ _ hRa (by simp), hl r (List.mem_of_getElem? hr2), fun H4 k4 => ?_⟩⟩
      refine ⟨_, k4 _ _ h3 (by simp), by simp only [List.length_map, List.length_replicate]; exact small1000 (by omega), ?_, (k3.trans k4).own hp⟩
      rw [upd_same, rep_snoc]
    · rintro p H3 hp ⟨h3, k3⟩
      refine ⟨p, _, rfl, SqL.of h3, ?_⟩
      rw [rep_all]
      exact q _ (k1.trans k3)
def sp_memory : Sp := fun vs H Q _ => ∃ (v : V) (d : PyData) (ws : List Int) (bs : List Addr) (w k : Nat), vs = [v] ∧ D bs H w k v d ∧ IntsD d ws ∧ w ≤ 1000 ∧ 1 ≤ ws.length ∧ ws.length ≤ 5 ∧ (∀ h : ws ≠ [], ws.getLast h ≠ 0) ∧ ∀ H', Kp [] H H' → Q (.bl true) H'
theorem ok_memory (T : Tx K mg) : FnOk P w K mg base CX0 3 (He.fAd K ("is_memory", none)) T.fd_is_memory p_is_memory sp_memory := by
  have G_are_numbers := ok_are_numbers (P := P) (w := w) (base := base) T
  refine T.F_is_memory.ok sc_is_memory (fun vs H Q E h => ?_) (fun cdv A outer s H vs Q E hr h => ?_)
  · obtain ⟨_, _, _, _, _, _, rfl, _⟩ := h
    rfl
  · obtain ⟨v, d, ws, bs, w', k, rfl, hD, hI, lw, l1, l5, hl, q⟩ := h
    refine ⟨_, PSs.nox (pss_one (ps_ret (pe_and (pe_call G_are_numbers (hr.mono (by first | decide | omega)) rfl T.g_are_numbers T.F_are_numbers.kp T.bd_are_numbers .nil pass0 (pa_cons (pv 0) pa_nil)) (pe_and (pe_chain op_le op_le pe_int (pe_callB call_len (by rfl) T.b_len (by decide +kernel) (pa_cons (pv 0) pa_nil)) (pe_glob (v := .int 5) rfl T.c_MOST_WEIGHTS ⟨_, rfl⟩)) (pe_one (pe_cmpR op_ne (pe_ix ix_seq (pv 0) (pe_un un_neg pe_int) (fun _ _ => rfl)) pe_int (nomark _))))))), ?_⟩
    refine ⟨_, rfl, _, _, bs, w', k, rfl, hD, lw, fun H1 k1 => ⟨_, rfl, iteC hI.nums ?_⟩⟩
    obtain ⟨a, kd, rfl, h, n, _, _⟩ := (hD.keep (k1.sub (by simp))).ints hI
    have ne : ws ≠ [] := fun z => by
      rw [z] at l1
      cases l1
    refine ⟨_, rfl, _, ws.length, rfl, sqo_len h (by simp), _, _, rfl, rfl, _, rfl, iteC (by simp; omega) ?_⟩
    refine ⟨_, _, rfl, rfl, _, rfl, iteC (by simp; omega) ?_⟩
    have e : (!decide (V.int (ws.getLast ne) = V.int 0)) = true := by
      have := hl ne
      simp [this]
    have fin : Q (.bl (!decide (V.int (ws.getLast ne) = V.int 0))) H1 := by
      rw [e]
      exact q _ k1
    refine ⟨_, rfl, 1, rfl, ?_⟩
    cases kd with
    | true => exact .inl ⟨a, _, _, _, rfl, rfl, SqL.of h, atI_end ne, rfl, fin⟩
    | false => exact .inr (.inl ⟨a, _, _, _, rfl, rfl, SqT.of h, atI_end ne, rfl, fin⟩)
abbrev dT (ns : List Int) : PyData := .tuple (ns.map PyData.int)
abbrev dTT (rows : List (List Int)) : PyData := .tuple (rows.map dT)
theorem away {H H1 : Hp} {bs : List Addr} {p : Addr} (hb : ∀ b ∈ bs, ∃ o, H b = some o) (k : Kp [] H H1) (hp : H1 p = none) : p ∉ bs := fun m => by
  obtain ⟨o, e⟩ := hb p m
  rw [k p o e (by simp)] at hp
  cases hp
/-- what is told are tuples; those handed in as tuples are the same -/
def sp_tuples : Sp := fun vs H Q _ => ∃ (v : V) (d : PyData) (rows : List (List Int)) (cs bs : List Addr) (w k : Nat), vs = [v] ∧ D cs H w k v d ∧ RowsD d rows ∧ w ≤ 1000 ∧ (∀ b ∈ bs, ∃ o, H b = some o) ∧ (∀ b ∈ bs, b ∈ cs) ∧
  ∀ (p : Addr) (H' : Hp), H p = none → Kp [] H H' → D bs H' w 2 (.ref p) (dTT rows) → Q (.ref p) H'
theorem ok_tuples (T : Tx K mg) : FnOk P w K mg base CX0 1 (He.fAd K ("as_tuples", none)) T.fd_as_tuples p_as_tuples sp_tuples := by
  refine T.F_as_tuples.ok sc_as_tuples (fun vs H Q E h => ?_) (fun cdv A outer s H vs Q E hr h => ?_)
  · obtain ⟨_, _, _, _, _, _, _, rfl, _⟩ := h
    rfl
  · obtain ⟨v, d, rows, cs, bs, w', k, rfl, hD, hR, lw, hbs, hsub, q⟩ := h
    obtain ⟨t, kd, xs, rfl, h, n, lx, lxw, al⟩ := hD.rows hR
    refine ⟨_, PSs.nox (pss_one (ps_ret (pe_callTy call_tuple_of (by rfl) T.b_tuple (by decide +kernel) (pa_cons (pe_lc (own := [("row", 1)]) (g := (gName 1)) (tt := tYes) rfl sc_as_tuples.nd (pi_seq (pv 0)) (blkOk_by (own := [("row", 1)]) (N := n_as_tuples) (sc := defScope s_as_tuples) (by decide +kernel)) (fun _ _ _ _ _ => (pg_name (i := 1) sc_as_tuples.nd rfl (by first | exact Or.inl rfl | exact Or.inr rfl))) (fun _ _ _ _ _ => pts_nil) (fun _ _ _ _ _ => (pe_callTy (kTup (K := K) rfl) (by rfl) T.b_tuple (by decide +kernel) (pa_cons (pv 1) pa_nil)))) pa_nil)))), ?_⟩
    refine ⟨_, rfl, t, rfl, lc_seq h (fun p j H3 => ∃ ys, H3 p = some (.lst ys) ∧ DA (p :: bs) H3 w' 1 ys ((rows.take j).map dT) ∧ Kp [] H H3) ?_ ?_ ?_ ?_⟩
    · exact fun p hp => ⟨[], upd_same, .nil, Kp.rfl'.new hp⟩
    · rintro p j H3 _ ⟨_, _, _, k3⟩
      exact k3 _ _ h (by simp)
    · rintro p j y H3 hp hj ⟨ys, h3, d3, k3⟩
      obtain ⟨r, e, k', hr2, hI, hDy, _⟩ := al j y hj
      have hjl := (List.getElem?_eq_some_iff.mp hj).1
      obtain ⟨ra, kd2, rfl, hRa, nRa, lr, sm⟩ := hDy.ints hI
      have hRa3 := k3 _ _ hRa (by simp)
      have len3 : ys.length < sizeLine := by
        rw [DA.len d3, List.length_map, List.length_take]
        exact small1000 (by omega)
      have last : ∀ (l : Addr) (H4 : Hp), H4 l = some (.tup (r.map V.int)) → l ∉ p :: bs → (∀ cs, Kp cs H3 H4) → DA (p :: bs) (upd H4 p (.lst (ys ++ [.ref l]))) w' 1 (ys ++ [.ref l]) ((rows.take (j + 1)).map dT) := fun l H4 hl nl k4 => by
        have k5 : Kp (p :: bs) H4 (upd H4 p (.lst (ys ++ [.ref l]))) := Kp.rfl'.put (by simp)
        rw [List.take_add_one, hr2, List.map_append]
        exact ((d3.keep (k4 _)).keep k5).app (DA.one ((D.tup (k := 0) hl nl (by simpa using lr) (DA.ofInts sm)).keep k5))
      cases kd2 with
      | true =>
        refine ⟨rfl, yesT ⟨_, rfl, ra, _, rfl, .inl ⟨SqL.of hRa3, fun l hl => ?_⟩⟩⟩
        have nlp : l ≠ p := (ne_of_none h3 hl).symm
        have k4 : ∀ cs, Kp cs H3 (upd H3 l (.tup (r.map V.int))) := fun cs => Kp.rfl'.new hl
        refine ⟨ys, (k4 [] _ _ h3 (by simp)), len3, ys ++ [.ref l], upd_same, last l _ upd_same (fun m => ?_) k4, (k3.new hl).own hp⟩
        rcases List.mem_cons.mp m with z | z
        · exact nlp z
        · exact away hbs k3 hl z
      | false =>
        refine ⟨rfl, yesT ⟨_, rfl, ra, _, rfl, .inr ⟨SqT.of hRa3, ?_⟩⟩⟩
        refine ⟨ys, h3, len3, ys ++ [.ref ra], upd_same, last ra H3 hRa3 (fun m => ?_) (fun _ => Kp.rfl'), k3.own hp⟩
        rcases List.mem_cons.mp m with z | z
        · rw [z, hp] at hRa
          cases hRa
        · exact nRa (hsub ra z)
    · rintro p H3 hp ⟨ys, h3, d3, k3⟩
      rw [lx, List.take_length] at d3
      refine ⟨p, ys, rfl, .inl ⟨SqL.of h3, fun l hl => ?_⟩⟩
      have k4 : ∀ cs, Kp cs H3 (upd H3 l (.tup ys)) := fun cs => Kp.rfl'.new hl
      refine q l _ (k3.free hl (by simp)) (k3.new hl) (.tup upd_same (away hbs k3 hl) (by rw [DA.len d3, List.length_map]; omega) ((d3.less (by simp +contextual)).keep (k4 _)))

end
end Sw

set_option maxHeartbeats 2000000
namespace Sw
open PySem PySem.Spec PyProof.Rows L2
section
variable {P : Program} {w : World} {K : PySem.W.Frag} {mg : Str → Option Value} {base : Heap}
mutual
theorem D.noIns {bs : List Addr} {H : Hp} {w : Nat} {x C dx : Addr} {fs : List (Str × V)} (hx : H x = some (.ins C dx fs)) : ∀ {k : Nat} {v : V} {d : PyData}, D bs H w k v d → D (x :: bs) H w k v d
  | _, _, _, .non => .non
  | _, _, _, .bl b => .bl b
  | _, _, _, .int i h => .int i h
  | _, _, _, .str y h => .str y h
  | _, _, _, .lst h n l t => .lst h (fun m => (List.mem_cons.mp m).elim (fun z => by rw [z, hx] at h; cases h) n) l (DA.noIns hx t)
  | _, _, _, .tup h n l t => .tup h (fun m => (List.mem_cons.mp m).elim (fun z => by rw [z, hx] at h; cases h) n) l (DA.noIns hx t)
theorem DA.noIns {bs : List Addr} {H : Hp} {w : Nat} {x C dx : Addr} {fs : List (Str × V)} (hx : H x = some (.ins C dx fs)) : ∀ {k : Nat} {v : List V} {d : List PyData}, DA bs H w k v d → DA (x :: bs) H w k v d
  | _, _, _, .nil => .nil
  | _, _, _, .cons h t => .cons (D.noIns hx h) (DA.noIns hx t)
end
theorem putF_le (f : Str) (v : V) : ∀ fs : List (Str × V), (putF f v fs).length ≤ fs.length + 1
  | [] => Nat.le_refl _
  | (g, u) :: r => by
    show (if g = f then (g, v) :: r else (g, u) :: putF f v r).length ≤ _
    have := putF_le f v r
    split <;> simp <;> omega
/-! ### the hall -/
abbrev C0 (K : PySem.W.Frag) : Addr := He.ga K "Hall"
theorem n12 : ¬ (("string_rows" : Str) = "step_rows") := by decide +kernel
theorem n13 : ¬ (("string_rows" : Str) = "weights") := by decide +kernel
theorem n23 : ¬ (("step_rows" : Str) = "weights") := by decide +kernel
def flds (a1 a2 a3 : Addr) : List (Str × V) := putF "weights" (.ref a3) (putF "step_rows" (.ref a2) (putF "string_rows" (.ref a1) []))
theorem flds_1 (a1 a2 a3 : Addr) : (flds a1 a2 a3).lookup ("string_rows" : Str) = some (.ref a1) := by
  unfold flds
  rw [lookup_putF, if_neg n13, lookup_putF, if_neg n12, lookup_putF, if_pos rfl]
theorem flds_2 (a1 a2 a3 : Addr) : (flds a1 a2 a3).lookup ("step_rows" : Str) = some (.ref a2) := by
  unfold flds
  rw [lookup_putF, if_neg n23, lookup_putF, if_pos rfl]
theorem flds_3 (a1 a2 a3 : Addr) : (flds a1 a2 a3).lookup ("weights" : Str) = some (.ref a3) := by
  unfold flds
  rw [lookup_putF, if_pos rfl]
theorem flds_no (a1 a2 a3 : Addr) {m : Str} (h1 : ¬ m = "weights") (h2 : ¬ m = "step_rows") (h3 : ¬ m = "string_rows") : (flds a1 a2 a3).lookup m = none := by
  unfold flds
  rw [lookup_putF, if_neg h1, lookup_putF, if_neg h2, lookup_putF, if_neg h3]
  rfl
structure HallAt (K : PySem.W.Frag) (bs : List Addr) (H : Hp) (w : Nat) (x : Addr) (rows steps : List (List Int)) (ws : List Int) : Prop where
  ex : ∃ dx a1 a2 a3, H x = some (.ins (C0 K) dx (flds a1 a2 a3)) ∧ x ∉ bs ∧ D bs H w 2 (.ref a1) (dTT rows) ∧ D bs H w 2 (.ref a2) (dTT steps) ∧ D bs H w 1 (.ref a3) (dT ws)
theorem HallAt.keep {bs : List Addr} {H H' : Hp} {w' : Nat} {x : Addr} {rows steps : List (List Int)} {ws : List Int} (h : HallAt K bs H w' x rows steps ws) (k : Kp bs H H') : HallAt K bs H' w' x rows steps ws := by
  obtain ⟨dx, a1, a2, a3, e, n, d1, d2, d3⟩ := h.ex
  exact ⟨dx, a1, a2, a3, k _ _ e n, n, d1.keep k, d2.keep k, d3.keep k⟩
structure HallOk (rows steps : List (List Int)) (ws : List Int) : Prop where
  r1 : 1 ≤ rows.length
  row : ∀ r ∈ rows, r.length = rows.length
  ls : steps.length = rows.length
  step : ∀ r ∈ steps, Rung0 r
  w1 : 1 ≤ ws.length
  w5 : ws.length ≤ 5
  last : ∀ h : ws ≠ [], ws.getLast h ≠ 0
def sp_init (K : PySem.W.Frag) : Sp := fun vs H Q _ => ∃ (x dx : Addr) (v1 v2 v3 : V) (d1 d2 d3 : PyData) (rows steps : List (List Int)) (ws : List Int) (cs bs : List Addr) (w k : Nat), vs = [.ref x, v1, v2, v3] ∧ H x = some (.ins (C0 K) dx []) ∧
  D cs H w k v1 d1 ∧ D cs H w k v2 d2 ∧ D cs H w k v3 d3 ∧ RowsD d1 rows ∧ RowsD d2 steps ∧ IntsD d3 ws ∧ w ≤ 1000 ∧ HallOk rows steps ws ∧ (∀ b ∈ bs, ∃ o, H b = some o) ∧ (∀ b ∈ bs, b ∈ cs) ∧ x ∉ bs ∧
  ∀ H', HallAt K bs H' w x rows steps ws → Kp [x] H H' → Q .non H'
theorem ok_init (T : Tx K mg) : FnOk P w K mg base CX0 5 (He.fAd K ("Hall", some "__init__")) T.fd_Hall___init__ p_Hall___init__ (sp_init K) := by
  have G_are_strings := ok_strings (P := P) (w := w) (base := base) T
  have G_are_steps := ok_steps (P := P) (w := w) (base := base) T
  have G_is_memory := ok_memory (P := P) (w := w) (base := base) T
  have G_as_tuples := ok_tuples (P := P) (w := w) (base := base) T
  refine T.F_Hall___init__.ok sc_Hall___init__ (fun vs H Q E h => ?_) (fun cdv A outer s H vs Q E hr h => ?_)
  · obtain ⟨_, _, _, _, _, _, _, _, _, _, _, _, _, _, _, rfl, _⟩ := h
    rfl
  · obtain ⟨x, dx, v1, v2, v3, e1, e2, e3, rows, steps, ws, cs, bs, w', k, rfl, hx, dP, dS, dW, hP, hS, hW, lw, hd, hbs, hsub, nx, q⟩ := h
    refine ⟨_, PSs.nox (pss_cons (ps_if (pt_not (pt_val (pe_call G_are_strings (hr.mono (by first | decide | omega)) rfl T.g_are_strings T.F_are_strings.kp T.bd_are_strings .nil pass0 (pa_cons (pv 1) pa_nil))))
      (pss_one ps_never)
      pss_nil)
      (pss_cons (ps_if (pt_not (pt_val (pe_call G_are_steps (hr.mono (by first | decide | omega)) rfl T.g_are_steps T.F_are_steps.kp T.bd_are_steps .nil pass0 (pa_cons (pv 2) (pa_cons (pe_callB call_len (by rfl) T.b_len (by decide +kernel) (pa_cons (pv 1) pa_nil)) pa_nil)))))
      (pss_one ps_never)
      pss_nil)
      (pss_cons (ps_if (pt_not (pt_val (pe_call G_is_memory (hr.mono (by first | decide | omega)) rfl T.g_is_memory T.F_is_memory.kp T.bd_is_memory .nil pass0 (pa_cons (pv 3) pa_nil))))
      (pss_one ps_never)
      pss_nil)
      (pss_cons (ps_fld (pv 0) (pe_call G_as_tuples (hr.mono (by first | decide | omega)) rfl T.g_as_tuples T.F_as_tuples.kp T.bd_as_tuples .nil pass0 (pa_cons (pv 1) pa_nil)) rfl)
      (pss_cons (ps_fld (pv 0) (pe_call G_as_tuples (hr.mono (by first | decide | omega)) rfl T.g_as_tuples T.F_as_tuples.kp T.bd_as_tuples .nil pass0 (pa_cons (pv 2) pa_nil)) rfl)
      (pss_one (ps_fld (pv 0) (pe_callTy call_tuple_of (by rfl) T.b_tuple (by decide +kernel) (pa_cons (pv 3) pa_nil)) rfl))))))), ?_⟩
    refine ⟨_, rfl, v1, e1, rows, cs, w', k, rfl, dP, hP, lw, hd.r1, hd.row, fun H1 k1 => ⟨_, rfl, ?_⟩⟩
    refine iteF ?_
    have dP1 := dP.keep (k1.sub (by simp))
    have dS1 := dS.keep (k1.sub (by simp))
    obtain ⟨p, kdp, xp, rfl, hp1, _, lx, _, _⟩ := dP1.rows hP
    have el : (rows.length : Int) = (steps.length : Int) := by rw [hd.ls]
    refine ⟨_, rfl, _, rfl, _, rows.length, rfl, sqo_len hp1 lx.symm, v2, e2, steps, cs, w', k, (by rw [el]; rfl), dS1, hS, lw, hd.step, fun H2 k2 => ⟨_, rfl, ?_⟩⟩
    refine iteF ?_
    refine ⟨_, rfl, v3, e3, ws, cs, w', k, rfl, dW.keep ((k1.trans k2).sub (by simp)), hW, lw, hd.w1, hd.w5, hd.last, fun H3 k3 => ⟨_, rfl, ?_⟩⟩
    refine iteF ?_
    have k13 : Kp [] H H3 := k1.trans (k2.trans k3)
    have bs3 : ∀ b ∈ x :: bs, ∃ o, H3 b = some o := fun b hb => by
      rcases List.mem_cons.mp hb with z | z
      · exact ⟨_, by rw [z]; exact k13 _ _ hx (by simp)⟩
      · obtain ⟨o, e⟩ := hbs b z
        exact ⟨o, k13 _ _ e (by simp)⟩
    have sub2 : ∀ b ∈ x :: bs, b ∈ x :: cs := fun b hb => (List.mem_cons.mp hb).elim (fun z => by rw [z]; simp) fun z => List.mem_cons_of_mem _ (hsub b z)
    refine ⟨_, rfl, _, e1, rows, x :: cs, x :: bs, w', k, rfl, (dP.noIns hx).keep (k13.sub (by simp)), hP, lw, bs3, sub2, fun a1 H4 f4 k4 d4 => ?_⟩
    have hx4 : H4 x = some (.ins (C0 K) dx []) := (k13.trans k4) _ _ hx (by simp)
    refine ⟨_, rfl, x, C0 K, dx, [], rfl, hx4, T.cl_Hall, T.na_Hall_string_rows, (by show 0 < 1000; decide), ?_⟩
    have k5 : ∀ cs, Kp (x :: cs) H4 (upd H4 x (.ins (C0 K) dx (putF "string_rows" (.ref a1) []))) := fun cs => Kp.rfl'.put (by simp)
    have k04 : Kp [] H H4 := k13.trans k4
    have bs5 : ∀ b ∈ x :: bs, ∃ o, (upd H4 x (.ins (C0 K) dx (putF "string_rows" (.ref a1) []))) b = some o := fun b hb => by
      by_cases z : b = x
      · exact ⟨_, by rw [z]; exact upd_same⟩
      · obtain ⟨o, e⟩ := bs3 b hb
        exact ⟨o, by rw [upd_ne z]; exact k4 _ _ e (by simp)⟩
    have dS5 := ((dS.noIns hx).keep (k04.sub (by simp))).keep (k5 cs)
    have dW5 := ((dW.noIns hx).keep (k04.sub (by simp))).keep (k5 cs)
    have d5 := d4.keep (k5 bs)
    refine ⟨_, rfl, v2, e2, steps, x :: cs, x :: bs, w', k, rfl, dS5, hS, lw, bs5, sub2, fun a2 H6 f6 k6 d6 => ?_⟩
    have hx6 := k6 _ _ upd_same (show x ∉ [] by simp)
    refine ⟨_, rfl, x, C0 K, dx, _, rfl, hx6, T.cl_Hall, T.na_Hall_step_rows, (by show 1 < 1000; decide), ?_⟩
    have k7 : ∀ cs, Kp (x :: cs) H6 (upd H6 x (.ins (C0 K) dx (putF "step_rows" (.ref a2) (putF "string_rows" (.ref a1) [])))) := fun cs => Kp.rfl'.put (by simp)
    have dW7 := (dW5.keep (k6.sub (by simp))).keep (k7 cs)
    have d57 := (d5.keep (k6.sub (by simp))).keep (k7 bs)
    have d67 := d6.keep (k7 bs)
    have bs7 : ∀ b ∈ x :: bs, ∃ o, (upd H6 x (.ins (C0 K) dx (putF "step_rows" (.ref a2) (putF "string_rows" (.ref a1) [])))) b = some o := fun b hb => by
      by_cases z : b = x
      · exact ⟨_, by rw [z]; exact upd_same⟩
      · obtain ⟨o, e⟩ := bs5 b hb
        exact ⟨o, by rw [upd_ne z]; exact k6 _ _ e (by simp)⟩
    have hx7 : (upd H6 x (.ins (C0 K) dx (putF "step_rows" (.ref a2) (putF "string_rows" (.ref a1) [])))) x = some (.ins (C0 K) dx (putF "step_rows" (.ref a2) (putF "string_rows" (.ref a1) []))) := upd_same
    have k07 : Kp [x] H (upd H6 x (.ins (C0 K) dx (putF "step_rows" (.ref a2) (putF "string_rows" (.ref a1) [])))) := (((k04.sub (by simp)).trans (k5 [])).trans (k6.sub (by simp))).trans (k7 [])
    generalize upd H6 x (.ins (C0 K) dx (putF "step_rows" (.ref a2) (putF "string_rows" (.ref a1) []))) = H7 at dW7 d57 d67 bs7 hx7 k07 ⊢
    obtain ⟨aw, kdw, rfl, hw7, nw7, lw7, sm7⟩ := dW7.ints hW
    have sub1 : ∀ a, a ∈ bs → a ∈ x :: bs := fun a h => List.mem_cons_of_mem _ h
    have fin : ∀ (a3 : Addr) (H8 : Hp), H8 a3 = some (.tup (ws.map V.int)) → a3 ∉ x :: bs → (∀ cs, Kp cs H7 H8) → sFld K (tVar 0) (fun σ H Q => Q (.ref a3) H) "weights" { nx := fun _ H' => Q .non H', rt := Q } (L2.start n_Hall___init__ [V.ref x, .ref p, v2, .ref aw]) H8 := by
      intro a3 H8 h8 na3 k8
      have hx8 := k8 [] _ _ hx7 (by simp)
      refine ⟨_, rfl, x, C0 K, dx, _, rfl, hx8, T.cl_Hall, T.na_Hall_weights, Nat.lt_of_le_of_lt (putF_le _ _ _) (by show 2 < 1000; decide), ?_⟩
      have k9 : ∀ (cs : List Addr) (o : HO), Kp (x :: cs) H8 (upd H8 x o) := fun cs o => Kp.rfl'.put (by simp)
      refine q _ ⟨dx, a1, a2, a3, upd_same, nx, ((d57.keep (k8 _)).keep (k9 bs _)).less sub1, ((d67.keep (k8 _)).keep (k9 bs _)).less sub1, ((D.tup (k := 0) h8 na3 (by simpa using lw7) (DA.ofInts sm7)).keep (k9 bs _)).less sub1⟩ ?_
      exact k07.trans ((k8 [x]).trans (k9 [] _))
    refine ⟨_, rfl, aw, ws.map V.int, rfl, ?_⟩
    cases kdw with
    | true =>
      refine .inl ⟨SqL.of hw7, fun a3 h8 => ?_⟩
      refine fin a3 _ upd_same (fun m => ?_) fun cs => Kp.rfl'.new h8
      obtain ⟨o, e⟩ := bs7 a3 m
      rw [e] at h8
      cases h8
    | false =>
      refine .inr ⟨SqT.of hw7, fin aw H7 hw7 (fun m => nw7 (sub2 aw m)) fun _ => Kp.rfl'⟩
def sp_get (K : PySem.W.Frag) (f : Addr → Addr → Addr → Addr) : Sp := fun vs H Q _ => ∃ (x dx a1 a2 a3 : Addr), vs = [.ref x] ∧ H x = some (.ins (C0 K) dx (flds a1 a2 a3)) ∧ Q (.ref (f a1 a2 a3)) H
theorem ok_getm (T : Tx K mg) : FnOk P w K mg base CX0 1 (He.fAd K ("Hall", some "memory")) T.fd_Hall_memory p_Hall_memory (sp_get K fun _ _ a => a) := by
  refine T.F_Hall_memory.ok sc_Hall_memory (fun vs H Q E h => ?_) (fun cdv A outer s H vs Q E hr h => ?_)
  · obtain ⟨_, _, _, _, _, rfl, _⟩ := h
    rfl
  · obtain ⟨x, dx, a1, a2, a3, rfl, hx, q⟩ := h
    refine ⟨_, PSs.nox (pss_one (ps_ret (pe_fld (pv 0) rfl))), ?_⟩
    exact ⟨_, rfl, x, C0 K, dx, _, _, rfl, hx, T.cl_Hall, T.na_Hall_weights, flds_3 _ _ _, q⟩
theorem ok_gets (T : Tx K mg) : FnOk P w K mg base CX0 1 (He.fAd K ("Hall", some "strings")) T.fd_Hall_strings p_Hall_strings (sp_get K fun a _ _ => a) := by
  refine T.F_Hall_strings.ok sc_Hall_strings (fun vs H Q E h => ?_) (fun cdv A outer s H vs Q E hr h => ?_)
  · obtain ⟨_, _, _, _, _, rfl, _⟩ := h
    rfl
  · obtain ⟨x, dx, a1, a2, a3, rfl, hx, q⟩ := h
    refine ⟨_, PSs.nox (pss_one (ps_ret (pe_fld (pv 0) rfl))), ?_⟩
    exact ⟨_, rfl, x, C0 K, dx, _, _, rfl, hx, T.cl_Hall, T.na_Hall_string_rows, flds_1 _ _ _, q⟩
theorem ok_gett (T : Tx K mg) : FnOk P w K mg base CX0 1 (He.fAd K ("Hall", some "steps")) T.fd_Hall_steps p_Hall_steps (sp_get K fun _ a _ => a) := by
  refine T.F_Hall_steps.ok sc_Hall_steps (fun vs H Q E h => ?_) (fun cdv A outer s H vs Q E hr h => ?_)
  · obtain ⟨_, _, _, _, _, rfl, _⟩ := h
    rfl
  · obtain ⟨x, dx, a1, a2, a3, rfl, hx, q⟩ := h
    refine ⟨_, PSs.nox (pss_one (ps_ret (pe_fld (pv 0) rfl))), ?_⟩
    exact ⟨_, rfl, x, C0 K, dx, _, _, rfl, hx, T.cl_Hall, T.na_Hall_step_rows, flds_2 _ _ _, q⟩
theorem DA.trowAt {bs : List Addr} {H : Hp} {w k : Nat} {xs : List V} {rows : List (List Int)} {i : Nat} {x : V} (t : DA bs H w k xs (rows.map dT)) (h : xs[i]? = some x) : ∃ r a, rows[i]? = some r ∧ x = .ref a ∧ H a = some (.tup (r.map V.int)) ∧ r.length ≤ w := by
  obtain ⟨d, hd, hx⟩ := t.get h
  rw [List.getElem?_map] at hd
  obtain ⟨r, hr, rfl⟩ := Option.map_eq_some_iff.mp hd
  cases hx with
  | tup h1 n l t2 =>
    have e := DA.ints t2
    subst e
    exact ⟨r, _, hr, rfl, h1, by simpa using l⟩
def topsOf (steps : List (List Int)) : List Int := steps.map fun r => (r.length : Int)
def sp_tops (K : PySem.W.Frag) : Sp := fun vs H Q _ => ∃ (x : Addr) (rows steps : List (List Int)) (ws : List Int) (bs : List Addr) (w : Nat), vs = [.ref x] ∧ HallAt K bs H w x rows steps ws ∧ w ≤ 1000 ∧
  ∀ (p : Addr) (H' : Hp), H p = none → Kp [] H H' → H' p = some (.tup ((topsOf steps).map V.int)) → Q (.ref p) H'
theorem ok_tops (T : Tx K mg) : FnOk P w K mg base CX0 1 (He.fAd K ("Hall", some "tops")) T.fd_Hall_tops p_Hall_tops (sp_tops K) := by
  refine T.F_Hall_tops.ok sc_Hall_tops (fun vs H Q E h => ?_) (fun cdv A outer s H vs Q E hr h => ?_)
  · obtain ⟨_, _, _, _, _, _, rfl, _⟩ := h
    rfl
  · obtain ⟨x, rows, steps, ws, bs, w', rfl, hA, lw, q⟩ := h
    obtain ⟨dx, a1, a2, a3, hx, nx, d1, d2, d3⟩ := hA.ex
    refine ⟨_, PSs.nox (pss_one (ps_ret (pe_callTy call_tuple_of (by rfl) T.b_tuple (by decide +kernel) (pa_cons (pe_lc (own := [("row", 1)]) (g := (gName 1)) (tt := tYes) rfl sc_Hall_tops.nd (pi_tup (pe_fld (pv 0) rfl)) (blkOk_by (own := [("row", 1)]) (N := n_Hall_tops) (sc := defScope s_Hall_tops) (by decide +kernel)) (fun _ _ _ _ _ => (pg_name (i := 1) sc_Hall_tops.nd rfl (by first | exact Or.inl rfl | exact Or.inr rfl))) (fun _ _ _ _ _ => pts_nil) (fun _ _ _ _ _ => (pe_callB (kLen (K := K) rfl) (by rfl) T.b_len (by decide +kernel) (pa_cons (pv 1) pa_nil)))) pa_nil)))), ?_⟩
    cases d2 with
    | @tup _ _ xs _ h2 n2 l2 t2 =>
    refine ⟨_, rfl, x, C0 K, dx, _, _, rfl, hx, T.cl_Hall, T.na_Hall_step_rows, flds_2 _ _ _, a2, rfl, ⟨_, SqT.of h2⟩, fun p hp => lc_tup (K := K) (a := a2) (xs := xs) (fun j H3 => H3 p = some (.lst ((topsOf (steps.take j)).map V.int)) ∧ Kp [] H H3) ?_ ?_ ?_ ?_⟩
    · exact ⟨by rw [upd_same]; rfl, Kp.rfl'.new hp⟩
    · rintro j H3 _ ⟨_, k3⟩
      exact SqT.of (k3 _ _ h2 (by simp))
    · rintro j y H3 hj ⟨h3, k3⟩
      obtain ⟨r, ra, hr2, rfl, hR, _⟩ := t2.trowAt hj
      have hjl := (List.getElem?_eq_some_iff.mp hj).1
      refine ⟨rfl, yesT ⟨_, rfl, _, r.length, rfl, .inr ⟨_, SqT.of (k3 _ _ hR (by simp)), by simp⟩, _, h3, ?_, ?_, k3.own hp⟩⟩
      · simp only [topsOf, List.length_map, List.length_take]
        exact small1000 (by omega)
      · rw [upd_same, List.take_add_one, hr2]
        simp [topsOf]
    · rintro H3 ⟨h3, k3⟩
      have ls := DA.len t2
      rw [List.length_map] at ls
      rw [ls, List.take_length] at h3
      refine ⟨p, _, rfl, .inl ⟨SqL.of h3, fun l hl => ?_⟩⟩
      exact q l _ (k3.free hl (by simp)) (k3.new hl) upd_same

end
end Sw

set_option maxHeartbeats 2000000
namespace Sw
open PySem PySem.Spec PyProof.Rows L2
section
variable {P : Program} {w : World} {K : PySem.W.Frag} {mg : Str → Option Value} {base : Heap}
/-- alike, where both hold the same -/
def sp_same (m : Nat) : Sp := fun vs H Q _ => ∃ (v1 v2 : V) (d : PyData) (bs cs : List Addr) (w k : Nat), vs = [v1, v2] ∧ D bs H w k v1 d ∧ D cs H w k v2 d ∧ k < m ∧ w ≤ 5000 ∧ ∀ H', Kp [] H H' → Q (.bl true) H'
theorem ok_same (T : Tx K mg) : ∀ m : Nat, FnOk P w K mg base CX0 (m + 1) (He.fAd K ("_law_same", none)) T.fd__law_same p__law_same (sp_same m)
  | 0 => by
    refine T.F__law_same.ok sc__law_same (fun vs H Q E h => ?_) (fun cdv A outer s H vs Q E hr h => ?_)
    · obtain ⟨_, _, _, _, _, _, _, rfl, _⟩ := h
      rfl
    · obtain ⟨_, _, _, _, _, _, _, _, _, _, z, _⟩ := h
      exact absurd z (Nat.not_lt_zero _)
  | m + 1 => by
    have G__law_same := ok_same T m
    refine T.F__law_same.ok sc__law_same (fun vs H Q E h => ?_) (fun cdv A outer s H vs Q E hr h => ?_)
    · obtain ⟨_, _, _, _, _, _, _, rfl, _⟩ := h
      rfl
    · obtain ⟨v1, v2, d, bs, cs, w', k, rfl, h1, h2, km, lw, q⟩ := h
      refine ⟨_, PSs.nox (pss_cons (ps_if (pt_val (pe_callB call_isiT (by rfl) T.b_isinstance (by decide +kernel) (pa_cons (pv 1) (pa_cons (pe_tup (pa_cons (pe_bltn (v := .ty "list") (by rfl) T.b_list (by decide +kernel) rfl) (pa_cons (pe_bltn (v := .ty "tuple") (by rfl) T.b_tuple (by decide +kernel) rfl) pa_nil))) pa_nil))))
      (pss_cons (ps_if (PW.pt (pw_or (pt_cmpR op_ne (pe_callB call_isi (by rfl) T.b_isinstance (by decide +kernel) (pa_cons (pv 0) (pa_cons (pe_bltn (v := .ty "list") (by rfl) T.b_list (by decide +kernel) rfl) pa_nil))) (pe_callB call_isi (by rfl) T.b_isinstance (by decide +kernel) (pa_cons (pv 1) (pa_cons (pe_bltn (v := .ty "list") (by rfl) T.b_list (by decide +kernel) rfl) pa_nil))) (nomark _)) (pw_or1 (pt_cmpR op_ne (pe_callB call_isi (by rfl) T.b_isinstance (by decide +kernel) (pa_cons (pv 0) (pa_cons (pe_bltn (v := .ty "tuple") (by rfl) T.b_tuple (by decide +kernel) rfl) pa_nil))) (pe_callB call_isi (by rfl) T.b_isinstance (by decide +kernel) (pa_cons (pv 1) (pa_cons (pe_bltn (v := .ty "tuple") (by rfl) T.b_tuple (by decide +kernel) rfl) pa_nil))) (nomark _)))))
      (pss_one (ps_ret pe_bl))
      pss_nil)
      (pss_one (ps_ret (pe_and (pe_cmpR op_eq (pe_callB call_len (by rfl) T.b_len (by decide +kernel) (pa_cons (pv 0) pa_nil)) (pe_callB call_len (by rfl) T.b_len (by decide +kernel) (pa_cons (pv 1) pa_nil)) (nomark _)) (pe_one (pe_callB (cr_all rfl) (by rfl) T.b_all (by decide +kernel) (pa_cons (pe_lc (own := [("_law_one", 2), ("_law_two", 3)]) (g := (gTup K 2 (gCons (gName 2) (gCons (gName 3) gNil)))) (tt := tYes) rfl sc__law_same.nd (pi_zipS (by rfl) T.b_zip (pa_cons (pv 0) (pa_cons (pv 1) pa_nil))) (blkOk_by (own := [("_law_one", 2), ("_law_two", 3)]) (N := n__law_same) (sc := defScope s__law_same) (by decide +kernel)) (fun _ _ _ _ _ => (pg_tup rfl (pgs_cons (pg_name (i := 2) sc__law_same.nd rfl (by first | exact Or.inl rfl | exact Or.inr rfl)) (pgs_cons (pg_name (i := 3) sc__law_same.nd rfl (by first | exact Or.inl rfl | exact Or.inr rfl)) pgs_nil)))) (fun _ _ _ _ _ => pts_nil) (fun _ _ _ _ _ => (pe_call G__law_same hr rfl T.g__law_same T.F__law_same.kp T.bd__law_same .nil pass0 (pa_cons (pv 2) (pa_cons (pv 3) pa_nil))))) pa_nil)))))))
      pss_nil)
      (pss_cons (ps_if (PW.pt (pw_or (pt_cmpR op_isN (pv 1) pe_non (nomark _)) (pw_or1 (pt_val (pe_callB call_isi (by rfl) T.b_isinstance (by decide +kernel) (pa_cons (pv 1) (pa_cons (pe_bltn (v := .ty "str") (by rfl) T.b_str (by decide +kernel) rfl) pa_nil)))))))
      (pss_one (ps_ret (pe_and (pe_cmpR op_eq (pv 0) (pv 1) (nomark _)) (pe_one (pe_cmpR op_eq (pe_callB call_isi (by rfl) T.b_isinstance (by decide +kernel) (pa_cons (pv 0) (pa_cons (pe_bltn (v := .ty "str") (by rfl) T.b_str (by decide +kernel) rfl) pa_nil))) (pe_callB call_isi (by rfl) T.b_isinstance (by decide +kernel) (pa_cons (pv 1) (pa_cons (pe_bltn (v := .ty "str") (by rfl) T.b_str (by decide +kernel) rfl) pa_nil))) (nomark _))))))
      pss_nil)
      (pss_one (ps_ret (pe_and (pe_callB call_isi (by rfl) T.b_isinstance (by decide +kernel) (pa_cons (pv 0) (pa_cons (pe_bltn (v := .ty "int") (by rfl) T.b_int (by decide +kernel) rfl) pa_nil))) (pe_and (pe_cmpR op_eq (pe_callB call_isi (by rfl) T.b_isinstance (by decide +kernel) (pa_cons (pv 0) (pa_cons (pe_bltn (v := .ty "bool") (by rfl) T.b_bool (by decide +kernel) rfl) pa_nil))) (pe_callB call_isi (by rfl) T.b_isinstance (by decide +kernel) (pa_cons (pv 1) (pa_cons (pe_bltn (v := .ty "bool") (by rfl) T.b_bool (by decide +kernel) rfl) pa_nil))) (nomark _)) (pe_one (pe_cmpR op_eq (pv 0) (pv 1) (nomark _))))))))), ?_⟩
      refine ⟨_, rfl, by show 2 ≤ sizeLine; decide, fun t ht => ?_⟩
      have k0 : ∀ cs, Kp cs H (upd H t (.tup [.ty "list", .ty "tuple"])) := fun cs => Kp.rfl'.new ht
      have g1 := h1.keep (k0 bs)
      have g2 := h2.keep (k0 cs)
      generalize hH : upd H t (.tup [.ty "list", .ty "tuple"]) = H1 at g1 g2 k0
      have tup1 : H1 t = some (.tup [.ty "list", .ty "tuple"]) := by
        rw [← hH]
        exact upd_same
      refine ⟨_, t, _, _, [.type "list", .type "tuple"], _, rfl, tup1, tyLT, g2.tyx, g2.kQ, _, rfl, ?_⟩
      have kk1 := g1.kit (K := K)
      have kk2 := g2.kit (K := K)
      have isi1 := g1.tyx (K := K)
      have isi2 := g2.tyx (K := K)
      have seqs : ∀ (ka : Bool) (a1 a2 : Addr) (x1 x2 : List V) (ds : List PyData) (k' : Nat), SqK ka K H1 a1 x1 → SqK ka K H1 a2 x2 → DA bs H1 w' k' x1 ds → DA cs H1 w' k' x2 ds → (∀ H', Kp [] H1 H' → SqK ka K H' a1 x1 ∧ SqK ka K H' a2 x2) → x1.length ≤ w' → k' < m →
          ∀ p, H1 p = none → ∃ W : Nat → Nat → Hp → Prop, (∃ j, W 0 j (upd H1 p (.lst []))) ∧ ∀ i j H, W i j H →
          ((ItZ ka ka K a1 a2).stop i H ∧ rAll K [.ref p] H Q) ∨ ((ItZ ka ka K a1 a2).go i H ∧ ∃ Nx : Hp → Prop, (∀ H', Nx H' → ∃ j', j' < j ∧ W (i + 1) j' H') ∧ ∀ x H', (ItZ ka ka K a1 a2).yld i H x H' → (gTup K 2 (gCons (gName 2) (gCons (gName 3) gNil))) x (wipe [some v1, some v2, none, none] [2, 3]) H' fun σ2 H2 => wipe σ2 [2, 3] = wipe [some v1, some v2, none, none] [2, 3] ∧ tYes σ2 H2 fun b H3 =>
            if b = true then (tCall (sp_same m) [] E0 (tCons (tVar 2) (tCons (tVar 3) tNil))) σ2 H3 fun y H4 => ∃ acc, H4 p = some (.lst acc) ∧ acc.length < sizeLine ∧ Nx (upd H4 p (.lst (acc ++ [y]))) else Nx H3) := by
        intro ka a1 a2 x1 x2 ds k' s1 s2 t1 t2 hk lx km' p hp
        have l1 := DA.len t1
        have l2 := DA.len t2
        refine lc_it (walkZ (n := ds.length) (xs := x1) (ys := x2) (by simp [l1, l2])) (fun j H3 => H3 p = some (.lst ((List.replicate j true).map V.bl)) ∧ Kp [] H1 H3) ?_ ?_ ?_ ?_
        · exact ⟨by rw [upd_same]; rfl, Kp.rfl'.new hp⟩
        · rintro j H3 _ ⟨_, k3⟩
          exact hk H3 k3
        · rintro j y H3 H4 hj ⟨h3, k3⟩ ⟨t', y1, y2, rfl, ft, rfl, e1, e2⟩
          have e1 : x1[j]? = some y1 := e1
          have e2 : x2[j]? = some y2 := e2
          obtain ⟨e, he, hy1⟩ := t1.get e1
          obtain ⟨e', he', hy2⟩ := t2.get e2
          rw [he] at he'
          cases he'
          have kt : ∀ cs, Kp cs H3 (upd H3 t' (.tup [y1, y2])) := fun cs => Kp.rfl'.new ft
          refine ⟨t', _, rfl, SqT.of upd_same, rfl, _, _, rfl, _, _, rfl, rfl, rfl, yesT ⟨_, rfl, _, rfl, y1, y2, e, bs, cs, w', k', rfl, (hy1.keep (k3.sub (by simp))).keep (kt _), (hy2.keep (k3.sub (by simp))).keep (kt _), km', lw, fun H5 k5 => ⟨_, k5 _ _ (kt [] _ _ h3 (by simp)) (by simp), ?_, ?_, ?_⟩⟩⟩
          · simp only [List.length_map, List.length_replicate]
            rw [sizeLine_eq]; omega
          · rw [upd_same, rep_snoc]
          · exact ((k3.trans (kt [])).trans k5).own hp
        · rintro H3 ⟨h3, k3⟩
          refine ⟨p, _, rfl, SqL.of h3, ?_⟩
          rw [rep_all]
          exact q _ ((k0 []).trans k3)
      cases g2 with
      | @lst k' a2 x2 ds e2 n2 l2 t2 =>
        cases g1 with
        | @lst _ a1 x1 _ e1 n1 l1 t1 =>
        refine iteT ?_
        refine ⟨_, rfl, _, _, _, _, _, rfl, .ty _, isi1, kk1.1, _, rfl, _, _, _, _, _, rfl, .ty _, isi2, kk2.1, rfl, _, rfl, iteF ?_⟩
        refine ⟨_, rfl, _, _, _, _, _, rfl, .ty _, isi1, kk1.2.1, _, rfl, _, _, _, _, _, rfl, .ty _, isi2, kk2.2.1, rfl, _, rfl, iteF ?_⟩
        refine ⟨_, rfl, _, ds.length, rfl, .inl ⟨_, SqL.of e1, (DA.len t1).symm⟩, _, rfl, _, ds.length, rfl, .inl ⟨_, SqL.of e2, (DA.len t2).symm⟩, rfl, _, rfl, iteC (by simp) ?_⟩
        exact ⟨_, rfl, _, rfl, a1, a2, true, true, x1, x2, rfl, SqL.of e1, SqL.of e2, seqs true a1 a2 x1 x2 ds k' (SqL.of e1) (SqL.of e2) t1 t2 (fun H' k3 => ⟨SqL.of (k3 _ _ e1 (by simp)), SqL.of (k3 _ _ e2 (by simp))⟩) l1 (by omega)⟩
      | @tup k' a2 x2 ds e2 n2 l2 t2 =>
        cases g1 with
        | @tup _ a1 x1 _ e1 n1 l1 t1 =>
        refine iteT ?_
        refine ⟨_, rfl, _, _, _, _, _, rfl, .ty _, isi1, kk1.1, _, rfl, _, _, _, _, _, rfl, .ty _, isi2, kk2.1, rfl, _, rfl, iteF ?_⟩
        refine ⟨_, rfl, _, _, _, _, _, rfl, .ty _, isi1, kk1.2.1, _, rfl, _, _, _, _, _, rfl, .ty _, isi2, kk2.2.1, rfl, _, rfl, iteF ?_⟩
        refine ⟨_, rfl, _, ds.length, rfl, .inr ⟨_, SqT.of e1, (DA.len t1).symm⟩, _, rfl, _, ds.length, rfl, .inr ⟨_, SqT.of e2, (DA.len t2).symm⟩, rfl, _, rfl, iteC (by simp) ?_⟩
        exact ⟨_, rfl, _, rfl, a1, a2, false, false, x1, x2, rfl, SqT.of e1, SqT.of e2, seqs false a1 a2 x1 x2 ds k' (SqT.of e1) (SqT.of e2) t1 t2 (fun H' k3 => ⟨SqT.of (k3 _ _ e1 (by simp)), SqT.of (k3 _ _ e2 (by simp))⟩) l1 (by omega)⟩
      | non =>
        cases g1
        refine iteF ⟨_, rfl, rfl, _, rfl, iteT (iteT ?_)⟩
        refine ⟨_, rfl, _, rfl, rfl, _, rfl, iteC (by simp) ?_⟩
        refine ⟨_, rfl, _, _, _, _, _, rfl, .ty _, isi1, kk1.2.2.1, _, rfl, _, _, _, _, _, rfl, .ty _, isi2, kk2.2.2.1, rfl, ?_⟩
        exact q _ (k0 [])
      | str y hy =>
        cases g1
        refine iteF ⟨_, rfl, rfl, _, rfl, iteF ⟨_, rfl, _, _, _, _, _, rfl, .ty _, isi2, kk2.2.2.1, _, rfl, iteT ?_⟩⟩
        refine ⟨_, rfl, _, rfl, rfl, _, rfl, iteC (by simp) ?_⟩
        refine ⟨_, rfl, _, _, _, _, _, rfl, .ty _, isi1, kk1.2.2.1, _, rfl, _, _, _, _, _, rfl, .ty _, isi2, kk2.2.2.1, rfl, ?_⟩
        exact q _ (k0 [])
      | int i hi =>
        cases g1
        refine iteF ⟨_, rfl, rfl, _, rfl, iteF ⟨_, rfl, _, _, _, _, _, rfl, .ty _, isi2, kk2.2.2.1, _, rfl, iteF ?_⟩⟩
        refine ⟨_, rfl, _, _, _, _, _, rfl, .ty _, isi1, kk1.2.2.2.1, _, rfl, iteT ?_⟩
        refine ⟨_, rfl, _, _, _, _, _, rfl, .ty _, isi1, kk1.2.2.2.2, _, rfl, _, _, _, _, _, rfl, .ty _, isi2, kk2.2.2.2.2, rfl, _, rfl, iteT ?_⟩
        refine ⟨_, rfl, _, rfl, rfl, ?_⟩
        rw [decide_eq_true rfl]
        exact q _ (k0 [])
      | bl b =>
        cases g1
        refine iteF ⟨_, rfl, rfl, _, rfl, iteF ⟨_, rfl, _, _, _, _, _, rfl, .ty _, isi2, kk2.2.2.1, _, rfl, iteF ?_⟩⟩
        refine ⟨_, rfl, _, _, _, _, _, rfl, .ty _, isi1, kk1.2.2.2.1, _, rfl, iteT ?_⟩
        refine ⟨_, rfl, _, _, _, _, _, rfl, .ty _, isi1, kk1.2.2.2.2, _, rfl, _, _, _, _, _, rfl, .ty _, isi2, kk2.2.2.2.2, rfl, _, rfl, iteT ?_⟩
        refine ⟨_, rfl, _, rfl, rfl, ?_⟩
        rw [decide_eq_true rfl]
        exact q _ (k0 [])

end
end Sw

set_option maxHeartbeats 2000000
namespace Sw
open PySem PySem.Spec PyProof.Rows L2
section
variable {P : Program} {w : World} {K : PySem.W.Frag} {mg : Str → Option Value} {base : Heap}
theorem nx_of {f : L2.St → Hp → Prop} {r : VK} {b c : L2.St → Hp → Prop} {σ : L2.St} {H : Hp} (h : f σ H) : (Ends.mk f r b c).nx σ H := h
theorem seq_cutI {c : TT} {a b tb : TS} {D : Ends} {σ : L2.St} {H : Hp} (Iv : L2.St → Hp → Prop) (main : ∀ σ' H', Iv σ' H' → tb D σ' H') (h : ∀ nx : L2.St → Hp → Prop, (∀ σ' H', Iv σ' H' → nx σ' H') → tIfS c a b { D with nx := nx } σ H) : tSeq (tIfS c a b) tb D σ H := h _ main
theorem seq_cut {ta tb : TS} {D : Ends} {σ : L2.St} {H : Hp} (Iv : L2.St → Hp → Prop) (main : ∀ σ' H', Iv σ' H' → tb D σ' H') (h : ∀ nx : L2.St → Hp → Prop, (∀ σ' H', Iv σ' H' → nx σ' H') → ta { D with nx := nx } σ H) : tSeq ta tb D σ H := h _ main
theorem Bx.at' {H : Hp} {b : Addr} {n : Nat} (h : Bx H b n) : ∃ o, H b = some o := by
  obtain ⟨_, _, _, e, _⟩ := h.ex
  exact ⟨_, e⟩
theorem Bx.off {H : Hp} {b p : Addr} {n : Nat} (h : Bx H b n) (hp : H p = none) : p ≠ b := by
  obtain ⟨_, e⟩ := h.at'
  exact (ne_of_none e hp).symm
theorem ixN_nat {n j : Nat} (h : j < n) : ixN n (j : Int) = some j := by
  unfold ixN
  rw [if_pos (by omega), if_pos (by omega)]
  simp
theorem ixN_last {n : Nat} (h : 1 ≤ n) : ixN n (-1) = some (n - 1) := by
  unfold ixN
  rw [if_neg (by decide), if_pos (by omega)]
  exact congrArg some (by omega)
theorem map_set_int (ns : List Int) (i : Nat) (x : Int) : (ns.map V.int).set i (V.int x) = (ns.set i x).map V.int := by
  rw [List.map_set]
theorem mul_bd {x y a c : Int} (hx : -a ≤ x ∧ x ≤ a) (hy : -c ≤ y ∧ y ≤ c) : -(a * c) ≤ x * y ∧ x * y ≤ a * c := by
  have a0 : 0 ≤ a := by omega
  have c0 : 0 ≤ c := by omega
  have h1 := Int.mul_nonneg (a := a - x) (b := c + y) (by omega) (by omega)
  have h2 := Int.mul_nonneg (a := a + x) (b := c - y) (by omega) (by omega)
  have h3 := Int.mul_nonneg (a := a - x) (b := c - y) (by omega) (by omega)
  have h4 := Int.mul_nonneg (a := a + x) (b := c + y) (by omega) (by omega)
  simp only [Int.sub_mul, Int.mul_add, Int.add_mul, Int.mul_sub] at h1 h2 h3 h4
  constructor <;> omega
theorem gn {i : Nat} {x : V} {σ : L2.St} {H : Hp} {R : L2.St → Hp → Prop} (h : R (σ.set i (some x)) H) : gName i x σ H R := h
theorem seq_cutA {te : TE} {g : TG} {tb : TS} {D : Ends} {σ : L2.St} {H : Hp} (Iv : L2.St → Hp → Prop) (main : ∀ σ' H', Iv σ' H' → tb D σ' H') (h : ∀ nx : L2.St → Hp → Prop, (∀ σ' H', Iv σ' H' → nx σ' H') → tAsg te g { D with nx := nx } σ H) : tSeq (tAsg te g) tb D σ H := h _ main
abbrev dLT (rows : List (List Int)) : PyData := .list (rows.map dT)
theorem rowsLT (rows : List (List Int)) : RowsD (dLT rows) rows := ⟨true, rows.map dT, rfl, by simp, fun i e r h1 h2 => by
  rw [List.getElem?_map, h2] at h1
  cases h1
  exact ⟨false, rfl⟩⟩
theorem lc_zipI {α : Type} {ka kb : Bool} {a b d : Addr} {ns ms : List Int} {g : TG} {tt : TT} {te : TE} {vs : List Nat} {σ : L2.St} {H1 : Hp} {Qd : Hp → Prop} (c : α → V) (f : Int → Int → α) (ha : H1 a = some (sqo ka (ns.map V.int))) (hb : H1 b = some (sqo kb (ms.map V.int))) (l1 : ns.length ≤ 900) (hd : H1 d = none)
    (step : ∀ (x y : Int) (t : Addr) (H2 : Hp) (R : V → Hp → Prop) (N : Hp → Prop), x ∈ ns → y ∈ ms → H2 t = none → R (c (f x y)) (upd H2 t (.tup [.int x, .int y])) → g (.ref t) (wipe σ vs) (upd H2 t (.tup [.int x, .int y])) fun σ2 H3 => wipe σ2 vs = wipe σ vs ∧ tt σ2 H3 fun b H4 => if b = true then te σ2 H4 R else N H4)
    (done : ∀ H3, H3 d = some (.lst ((List.zipWith f ns ms).map c)) → Kp [] H1 H3 → Qd H3) :
    ∃ W : Nat → Nat → Hp → Prop, (∃ m, W 0 m (upd H1 d (.lst []))) ∧ ∀ i m H, W i m H →
      ((ItZ ka kb K a b).stop i H ∧ Qd H) ∨ ((ItZ ka kb K a b).go i H ∧ ∃ Nx : Hp → Prop, (∀ H', Nx H' → ∃ m', m' < m ∧ W (i + 1) m' H') ∧ ∀ x H', (ItZ ka kb K a b).yld i H x H' → g x (wipe σ vs) H' fun σ2 H2 => wipe σ2 vs = wipe σ vs ∧ tt σ2 H2 fun b H3 =>
        if b = true then te σ2 H3 fun y H4 => ∃ acc, H4 d = some (.lst acc) ∧ acc.length < sizeLine ∧ Nx (upd H4 d (.lst (acc ++ [y]))) else Nx H3) := by
  refine lc_it (walkZ (K := K) (xs := ns.map V.int) (ys := ms.map V.int) rfl) (fun j H3 => H3 d = some (.lst (((List.zipWith f ns ms).take j).map c)) ∧ Kp [] H1 H3) ?_ ?_ ?_ ?_
  · exact ⟨by rw [upd_same]; rfl, Kp.rfl'.new hd⟩
  · rintro j H3 _ ⟨_, k3⟩
    exact ⟨sqo_k (k3 _ _ ha (by simp)), sqo_k (k3 _ _ hb (by simp))⟩
  · rintro j x H3 H4 hj ⟨h3, k3⟩ ⟨t, y, z, rfl, ht, rfl, hy, hz⟩
    simp only [List.getElem?_map] at hy hz
    obtain ⟨y', hy', rfl⟩ := Option.map_eq_some_iff.mp hy
    obtain ⟨z', hz', rfl⟩ := Option.map_eq_some_iff.mp hz
    refine step y' z' t H3 _ _ (List.mem_of_getElem? hy') (List.mem_of_getElem? hz') ht ?_
    refine ⟨_, by rw [upd_ne (ne_of_none h3 ht)]; exact h3, ?_, ?_, (k3.new ht).own hd⟩
    · simp only [List.length_map, List.length_take, List.length_zipWith]
      exact small1000 (by omega)
    · have e : (List.zipWith f ns ms)[j]? = some (f y' z') := by
        rw [List.getElem?_zipWith, hy', hz']
      rw [upd_same, List.take_add_one, e]
      simp
  · rintro H3 ⟨h3, k3⟩
    have e : (List.zipWith f ns ms).take (min (ns.map V.int).length (ms.map V.int).length) = List.zipWith f ns ms := by
      apply List.take_of_length_le
      simp
    rw [e] at h3
    exact done H3 h3 k3
theorem lc_intsL {α : Type} {a d : Addr} {ns : List Int} {g : TG} {tt : TT} {te : TE} {vs : List Nat} {σ : L2.St} {H1 : Hp} {Qd : Hp → Prop} (c : α → V) (f : Int → α) (ha : H1 a = some (.lst (ns.map V.int))) (l1 : ns.length ≤ 900) (hd : H1 d = none)
    (step : ∀ (x : Int) (H2 : Hp) (R : V → Hp → Prop) (N : Hp → Prop), x ∈ ns → R (c (f x)) H2 → g (.int x) (wipe σ vs) H2 fun σ2 H3 => wipe σ2 vs = wipe σ vs ∧ tt σ2 H3 fun b H4 => if b = true then te σ2 H4 R else N H4)
    (done : ∀ H3, H3 d = some (.lst ((ns.map f).map c)) → Kp [] H1 H3 → Qd H3) :
    ∃ W : Nat → Nat → Hp → Prop, (∃ m, W 0 m (upd H1 d (.lst []))) ∧ ∀ i m H, W i m H →
      ((Itl K a).stop i H ∧ Qd H) ∨ ((Itl K a).go i H ∧ ∃ Nx : Hp → Prop, (∀ H', Nx H' → ∃ m', m' < m ∧ W (i + 1) m' H') ∧ ∀ x H', (Itl K a).yld i H x H' → g x (wipe σ vs) H' fun σ2 H2 => wipe σ2 vs = wipe σ vs ∧ tt σ2 H2 fun b H3 =>
        if b = true then te σ2 H3 fun y H4 => ∃ acc, H4 d = some (.lst acc) ∧ acc.length < sizeLine ∧ Nx (upd H4 d (.lst (acc ++ [y]))) else Nx H3) := by
  refine lc_list (K := K) (a := a) (xs := ns.map V.int) (fun j H3 => H3 d = some (.lst (((ns.take j).map f).map c)) ∧ Kp [] H1 H3) ?_ ?_ ?_ ?_
  · exact ⟨by rw [upd_same]; rfl, Kp.rfl'.new hd⟩
  · rintro j H3 _ ⟨_, k3⟩
    exact SqL.of (k3 _ _ ha (by simp))
  · rintro j x H3 hj ⟨h3, k3⟩
    rw [List.getElem?_map] at hj
    obtain ⟨z, hz, rfl⟩ := Option.map_eq_some_iff.mp hj
    refine step z H3 _ _ (List.mem_of_getElem? hz) ⟨_, h3, ?_, ?_, k3.own hd⟩
    · simp only [List.length_map, List.length_take]
      exact small1000 (by omega)
    · rw [upd_same, List.take_add_one, hz]
      simp
  · rintro H3 ⟨h3, k3⟩
    rw [List.length_map, List.take_length] at h3
    exact done H3 h3 k3
def Bd (m : Int) (ns : List Int) : Prop := ∀ x ∈ ns, -m ≤ x ∧ x ≤ m
theorem sum_bd2 {m : Int} : ∀ {ns : List Int}, Bd m ns → -(ns.length * m) ≤ ns.sum ∧ ns.sum ≤ ns.length * m
  | [], _ => by simp
  | a :: r, h => by
    have h1 := h a (List.mem_cons_self ..)
    have h2 := sum_bd2 (ns := r) fun x hx => h x (List.mem_cons_of_mem _ hx)
    have e : ((a :: r).length : Int) * m = (r.length : Int) * m + m := by
      rw [List.length_cons, Int.natCast_succ, Int.add_mul, Int.one_mul]
    rw [List.sum_cons, e]
    omega
def dot (r ts : List Int) : Int := (List.zipWith (· * ·) r ts).sum
theorem zip_bd {f : Int → Int → Int} {a c : Int} : ∀ {r ts : List Int}, (∀ x ∈ r, ∀ y ∈ ts, -a ≤ f x y ∧ f x y ≤ a) → Bd a (List.zipWith f r ts)
  | [], _, _ => fun x h => by simp at h
  | _ :: _, [], _ => fun x h => by simp at h
  | p :: r, q :: ts, h => fun x hx => by
    rw [List.zipWith_cons_cons] at hx
    rcases List.mem_cons.mp hx with z | z
    · rw [z]
      exact h p (by simp) q (by simp)
    · exact zip_bd (c := c) (fun x hx y hy => h x (List.mem_cons_of_mem _ hx) y (List.mem_cons_of_mem _ hy)) x z
theorem dot_bd {r ts : List Int} {a c : Int} (a0 : 0 ≤ a) (c0 : 0 ≤ c) (h1 : Bd a r) (h2 : Bd c ts) : -(r.length * (a * c)) ≤ dot r ts ∧ dot r ts ≤ r.length * (a * c) := by
  have z := sum_bd2 (zip_bd (a := a * c) (c := c) fun x hx y hy => mul_bd (h1 x hx) (h2 y hy))
  have l : ((List.zipWith (· * ·) r ts).length : Int) ≤ (r.length : Int) := by
    rw [List.length_zipWith]
    omega
  have m := Int.mul_le_mul_of_nonneg_right l (Int.mul_nonneg a0 c0)
  unfold dot
  omega
theorem D.rowLT {bs : List Addr} {H : Hp} {w k : Nat} {p : Addr} {rows : List (List Int)} (h : D bs H w k (.ref p) (dLT rows)) : ∃ xs : List V, H p = some (.lst xs) ∧ p ∉ bs ∧ xs.length = rows.length ∧ xs.length ≤ w ∧ ∀ (i : Nat) (r : List Int), rows[i]? = some r → ∃ a, xs[i]? = some (.ref a) ∧ H a = some (.tup (r.map V.int)) ∧ a ∉ bs ∧ r.length ≤ w := by
  cases h with
  | @lst _ _ xs _ h n l t =>
    have len := DA.len t
    rw [List.length_map] at len
    refine ⟨xs, h, n, len, l, fun i r hr => ?_⟩
    have li : i < xs.length := by
      have := (List.getElem?_eq_some_iff.mp hr).1
      omega
    have gx : xs[i]? = some xs[i] := by simp
    obtain ⟨dd, hd, hx⟩ := t.get gx
    rw [List.getElem?_map, hr] at hd
    cases hd
    cases hx' : xs[i] with
    | ref a =>
      rw [hx'] at hx gx
      cases hx with
      | tup h1 n1 l1 t1 =>
        have e := DA.ints t1
        subst e
        exact ⟨a, gx, h1, n1, by simpa using l1⟩
    | _ => rw [hx'] at hx; cases hx
theorem cut_to (xs : List V) (k : Nat) : cutV xs none (some (k : Int)) = xs.take k := by
  have e : HT.sIx xs.length xs.length (some (k : Int)) = min k xs.length := HT.sIx_nat xs.length xs.length k
  unfold cutV
  rw [HT.sIx_none, e, List.drop_zero, Nat.sub_zero]
  by_cases h : k ≤ xs.length
  · rw [Nat.min_eq_left h]
  · rw [Nat.min_eq_right (by omega), List.take_length, List.take_of_length_le (by omega)]
theorem cut_from (xs : List V) (k : Nat) : cutV xs (some (k : Int)) none = xs.drop k := by
  have e : HT.sIx xs.length 0 (some (k : Int)) = min k xs.length := HT.sIx_nat xs.length 0 k
  unfold cutV
  rw [HT.sIx_none, e]
  by_cases h : k ≤ xs.length
  · rw [Nat.min_eq_left h, List.take_of_length_le (by rw [List.length_drop]; omega)]
  · rw [Nat.min_eq_right (by omega), List.drop_length, List.drop_of_length_le (by omega), List.take_nil]
theorem DA.takeD {bs : List Addr} {H : Hp} {w k : Nat} : ∀ {vs : List V} {ds : List PyData} (i : Nat), DA bs H w k vs ds → DA bs H w k (vs.take i) (ds.take i)
  | _, _, 0, _ => by simpa using DA.nil
  | _, _, _ + 1, .nil => .nil
  | _, _, i + 1, .cons h t => .cons h (DA.takeD i t)
theorem DA.dropD {bs : List Addr} {H : Hp} {w k : Nat} : ∀ {vs : List V} {ds : List PyData} (i : Nat), DA bs H w k vs ds → DA bs H w k (vs.drop i) (ds.drop i)
  | _, _, 0, h => by simpa using h
  | _, _, _ + 1, .nil => .nil
  | _, _, i + 1, .cons h t => DA.dropD i t

end
end Sw

set_option maxHeartbeats 2000000
namespace Sw
open PySem PySem.Spec PyProof.Rows L2
section
variable {P : Program} {w : World} {K : PySem.W.Frag} {mg : Str → Option Value} {base : Heap}
theorem lc_zipI2 {α : Type} {ka kb : Bool} {a b d : Addr} {ns ms : List Int} {g : TG} {tt : TT} {te : TE} {vs : List Nat} {σ : L2.St} {H1 : Hp} {Qd : Hp → Prop} (c : α → V) (f : Int → Int → α) (ha : ∀ H', Kp [] H1 H' → SqK ka K H' a (ns.map V.int)) (hb : H1 b = some (sqo kb (ms.map V.int))) (l1 : ns.length ≤ 900) (hd : H1 d = none)
    (step : ∀ (x y : Int) (t : Addr) (H2 : Hp) (R : V → Hp → Prop) (N : Hp → Prop), x ∈ ns → y ∈ ms → H2 t = none → R (c (f x y)) (upd H2 t (.tup [.int x, .int y])) → g (.ref t) (wipe σ vs) (upd H2 t (.tup [.int x, .int y])) fun σ2 H3 => wipe σ2 vs = wipe σ vs ∧ tt σ2 H3 fun b H4 => if b = true then te σ2 H4 R else N H4)
    (done : ∀ H3, H3 d = some (.lst ((List.zipWith f ns ms).map c)) → Kp [] H1 H3 → Qd H3) :
    ∃ W : Nat → Nat → Hp → Prop, (∃ m, W 0 m (upd H1 d (.lst []))) ∧ ∀ i m H, W i m H →
      ((ItZ ka kb K a b).stop i H ∧ Qd H) ∨ ((ItZ ka kb K a b).go i H ∧ ∃ Nx : Hp → Prop, (∀ H', Nx H' → ∃ m', m' < m ∧ W (i + 1) m' H') ∧ ∀ x H', (ItZ ka kb K a b).yld i H x H' → g x (wipe σ vs) H' fun σ2 H2 => wipe σ2 vs = wipe σ vs ∧ tt σ2 H2 fun b H3 =>
        if b = true then te σ2 H3 fun y H4 => ∃ acc, H4 d = some (.lst acc) ∧ acc.length < sizeLine ∧ Nx (upd H4 d (.lst (acc ++ [y]))) else Nx H3) := by
  refine lc_it (walkZ (K := K) (xs := ns.map V.int) (ys := ms.map V.int) rfl) (fun j H3 => H3 d = some (.lst (((List.zipWith f ns ms).take j).map c)) ∧ Kp [] H1 H3) ?_ ?_ ?_ ?_
  · exact ⟨by rw [upd_same]; rfl, Kp.rfl'.new hd⟩
  · rintro j H3 _ ⟨_, k3⟩
    exact ⟨ha _ k3, sqo_k (k3 _ _ hb (by simp))⟩
  · rintro j x H3 H4 hj ⟨h3, k3⟩ ⟨t, y, z, rfl, ht, rfl, hy, hz⟩
    simp only [List.getElem?_map] at hy hz
    obtain ⟨y', hy', rfl⟩ := Option.map_eq_some_iff.mp hy
    obtain ⟨z', hz', rfl⟩ := Option.map_eq_some_iff.mp hz
    refine step y' z' t H3 _ _ (List.mem_of_getElem? hy') (List.mem_of_getElem? hz') ht ?_
    refine ⟨_, by rw [upd_ne (ne_of_none h3 ht)]; exact h3, ?_, ?_, (k3.new ht).own hd⟩
    · simp only [List.length_map, List.length_take, List.length_zipWith]
      exact small1000 (by omega)
    · have e : (List.zipWith f ns ms)[j]? = some (f y' z') := by
        rw [List.getElem?_zipWith, hy', hz']
      rw [upd_same, List.take_add_one, e]
      simp
  · rintro H3 ⟨h3, k3⟩
    have e : (List.zipWith f ns ms).take (min (ns.map V.int).length (ms.map V.int).length) = List.zipWith f ns ms := by
      apply List.take_of_length_le
      simp
    rw [e] at h3
    exact done H3 h3 k3
/-- a hall whose memory may be the one that was left out -/
structure HallS (K : PySem.W.Frag) (bs : List Addr) (H : Hp) (w : Nat) (x : Addr) (rows steps : List (List Int)) (ws : List Int) : Prop where
  ex : ∃ dx a1 a2 a3, H x = some (.ins (C0 K) dx (flds a1 a2 a3)) ∧ x ∉ bs ∧ D bs H w 2 (.ref a1) (dTT rows) ∧ D bs H w 2 (.ref a2) (dTT steps) ∧ (∀ H', Kp bs H H' → SqT K H' a3 (ws.map V.int)) ∧ ws.length ≤ w
theorem HallS.keep {bs : List Addr} {H H' : Hp} {w' : Nat} {x : Addr} {rows steps : List (List Int)} {ws : List Int} (h : HallS K bs H w' x rows steps ws) (k : Kp bs H H') : HallS K bs H' w' x rows steps ws := by
  obtain ⟨dx, a1, a2, a3, e, n, d1, d2, s3, l3⟩ := h.ex
  exact ⟨dx, a1, a2, a3, k _ _ e n, n, d1.keep k, d2.keep k, fun H2 k2 => s3 H2 (k.trans k2), l3⟩
theorem HallAt.s {bs : List Addr} {H : Hp} {w' : Nat} {x : Addr} {rows steps : List (List Int)} {ws : List Int} (h : HallAt K bs H w' x rows steps ws) : HallS K bs H w' x rows steps ws := by
  obtain ⟨dx, a1, a2, a3, e, n, d1, d2, d3⟩ := h.ex
  refine ⟨dx, a1, a2, a3, e, n, d1, d2, ?_⟩
  cases d3 with
  | @tup _ _ xs3 _ h3 n3 l3 t3 =>
  have e3 := DA.ints t3
  subst e3
  rw [List.length_map] at l3
  exact ⟨fun H2 k2 => SqT.of (k2 _ _ h3 n3), l3⟩
/-! ### pulls -/
structure PastAt (H : Hp) (a : Addr) (past : List (List Int)) : Prop where
  ex : ∃ (kd : Bool) (as : List Addr), H a = some (sqo kd (as.map V.ref)) ∧ as.length = past.length ∧ ∀ (k : Nat) (t : Addr) (st : List Int), as[k]? = some t → past[k]? = some st → H t = some (.tup (st.map V.int))
theorem PastAt.keep {H H' : Hp} {a : Addr} {past : List (List Int)} (h : PastAt H a past) (k : Kp [] H H') : PastAt H' a past := by
  obtain ⟨kd, as, h1, h2, h3⟩ := h.ex
  exact ⟨kd, as, k _ _ h1 (by simp), h2, fun j t st e1 e2 => k _ _ (h3 j t st e1 e2) (by simp)⟩
theorem refs_of {xs : List V} : (∀ y ∈ xs, ∃ c, y = V.ref c) → ∃ as : List Addr, xs = as.map V.ref := by
  induction xs with
  | nil => exact fun _ => ⟨[], rfl⟩
  | cons y xs ih =>
    intro h
    obtain ⟨c, rfl⟩ := h y (by simp)
    obtain ⟨as, e⟩ := ih fun z hz => h z (List.mem_cons_of_mem _ hz)
    exact ⟨c :: as, by rw [e]; rfl⟩
theorem D.past {bs : List Addr} {H : Hp} {w k : Nat} {a : Addr} {past : List (List Int)} (h : D bs H w k (.ref a) (dLT past)) : PastAt H a past := by
  obtain ⟨xs, hp, _, lx, _, al⟩ := h.rowLT
  obtain ⟨as, rfl⟩ := refs_of (xs := xs) fun y hy => by
    obtain ⟨j, hj, e⟩ := List.getElem_of_mem hy
    have lj : j < past.length := by omega
    obtain ⟨c, gx, _⟩ := al j past[j] (by simp)
    rw [List.getElem?_eq_getElem hj, e] at gx
    exact ⟨c, Option.some.inj gx⟩
  refine ⟨true, as, hp, by simpa using lx, fun j t st e1 e2 => ?_⟩
  obtain ⟨c, gx, hc, _⟩ := al j st e2
  rw [List.getElem?_map, e1] at gx
  cases (Option.some.inj gx)
  exact hc
def wgt (ws : List Int) (past : List (List Int)) (j : Nat) : Int := dot ws (past.reverse.map fun st => st.getD j 0)
def pullR (ws : List Int) (past : List (List Int)) (c : Nat) (r : List Int) : Int := dot r ((List.range c).map (wgt ws past))
theorem col_ints {i : Nat} : ∀ {ps : List (List Int)}, (∀ st ∈ ps, i < st.length) → col (ps.map fun st => st.map V.int) i = (ps.map fun st => st.getD i 0).map V.int
  | [], _ => rfl
  | st :: ps, h => by
    have h1 := h st (by simp)
    have ih := col_ints (ps := ps) fun u hu => h u (List.mem_cons_of_mem _ hu)
    unfold col at ih ⊢
    have e : (st.map V.int).getD i .non = V.int (st.getD i 0) := by
      rw [List.getD_eq_getElem?_getD, List.getD_eq_getElem?_getD, List.getElem?_map, List.getElem?_eq_getElem h1]
      rfl
    simp only [List.map_cons, ih, e]
def sp_weighed (K : PySem.W.Frag) : Sp := fun vs H Q _ => ∃ (x a : Addr) (rows steps : List (List Int)) (ws : List Int) (past : List (List Int)) (bs : List Addr) (w c : Nat), vs = [.ref x, .ref a] ∧ HallS K bs H w x rows steps ws ∧ PastAt H a past ∧ 1 ≤ past.length ∧ past.length ≤ 5 ∧ (∀ st ∈ past, st.length = c) ∧ c ≤ 900 ∧ w ≤ 900 ∧ Bd 1000 ws ∧
  ∀ (p : Addr) (H' : Hp), H p = none → Kp [] H H' → H' p = some (.lst (((List.range c).map (wgt ws past)).map V.int)) → Q (.ref p) H'
theorem ok_weighed (T : Tx K mg) : FnOk P w K mg base CX0 2 (He.fAd K ("weighed", none)) T.fd_weighed p_weighed (sp_weighed K) := by
  have G_Hall_memory := ok_getm (P := P) (w := w) (base := base) T
  refine T.F_weighed.ok sc_weighed (fun vs H Q E h => ?_) (fun cdv A outer s H vs Q E hr h => ?_)
  · obtain ⟨_, _, _, _, _, _, _, _, _, rfl, _⟩ := h
    rfl
  · obtain ⟨x, a, rows, steps, ws, past, bs, w', c, rfl, hA, hP, p1, p5, lst, c9, lw, bw, q⟩ := h
    obtain ⟨dx, a1, a2, a3, hx, nx, d1, d2, s3, l3⟩ := hA.ex
    obtain ⟨kd, as, ha, la, al⟩ := hP.ex
    refine ⟨_, PSs.nox (pss_cons (ps_set (i := 2) sc_weighed.nd rfl (by first | exact Or.inl rfl | exact Or.inr rfl) (PE.or (pe_revL (pv 1)) (pe_revT (pv 1))))
      (pss_one (ps_ret (pe_lc (own := [("postures", 3)]) (g := (gName 3)) (tt := tYes) rfl sc_weighed.nd (pi_zipN (by rfl) T.b_zip (pv 2)) (blkOk_by (own := [("postures", 3)]) (N := n_weighed) (sc := defScope s_weighed) (by decide +kernel)) (fun _ _ _ _ _ => (pg_name (i := 3) sc_weighed.nd rfl (by first | exact Or.inl rfl | exact Or.inr rfl))) (fun _ _ _ _ _ => pts_nil) (fun _ _ _ _ _ => (pe_callB (kSum (K := K) rfl rfl) (by rfl) T.b_sum (by decide +kernel) (pa_cons (pe_lc (own := [("weight", 4), ("posture", 5)]) (g := (gTup K 2 (gCons (gName 4) (gCons (gName 5) gNil)))) (tt := tYes) rfl sc_weighed.nd (kZipS (K := K) rfl (by rfl) T.b_zip (pa_cons (pe_meth0 (pv 0) T.cl_Hall T.m_Hall_memory G_Hall_memory (hr.mono (by first | decide | omega)) T.bd_Hall_memory .nil pass0) (pa_cons (pv 3) pa_nil))) (blkOk_by (own := [("weight", 4), ("posture", 5)]) (N := n_weighed) (sc := relabel (lcScope (retAt 1 s_weighed)) (envOfC "" (defScope s_weighed) 0 0 .none)) (by decide +kernel)) (fun _ _ _ _ _ => (pg_tup rfl (pgs_cons (pg_name (i := 4) sc_weighed.nd rfl (by first | exact Or.inl rfl | exact Or.inr rfl)) (pgs_cons (pg_name (i := 5) sc_weighed.nd rfl (by first | exact Or.inl rfl | exact Or.inr rfl)) pgs_nil)))) (fun _ _ _ _ _ => pts_nil) (fun _ _ _ _ _ => (pe_op op_mul (pv 4) (pv 5)))) pa_nil))))))), ?_⟩
    refine seq_cutA (fun σ H1 => ∃ p, σ = [some (.ref x), some (.ref a), some (.ref p), none, none, none] ∧ H1 p = some (sqo kd (as.reverse.map V.ref)) ∧ Kp [] H H1) ?_ fun nx hnx => ?_
    · rintro σ H1 ⟨p, rfl, hp1, k1⟩
      have hx1 := k1 _ _ hx (by simp)
      have s31 : ∀ H', Kp [] H1 H' → SqK false K H' a3 (ws.map V.int) := fun H' k => s3 H' ((k1.trans k).sub (by simp))
      have rowsAt : ∀ H', Kp [] H1 H' → RowsAt K H' as.reverse (past.reverse.map fun st => st.map V.int) := fun H' k => by
        refine ⟨by simpa using la, fun j t xs e1 e2 => ?_⟩
        rw [List.getElem?_map] at e2
        obtain ⟨st, hst, rfl⟩ := Option.map_eq_some_iff.mp e2
        have lj := (List.getElem?_eq_some_iff.mp e1).1
        rw [List.length_reverse] at lj
        rw [List.getElem?_reverse (by omega)] at e1
        rw [List.getElem?_reverse (by omega), ← la] at hst
        exact SqT.of ((k1.trans k) _ _ (al _ t st e1 hst) (by simp))
      have sq : SqT K H1 p (as.reverse.map V.ref) ∨ SqL K H1 p (as.reverse.map V.ref) := by
        cases kd
        · exact .inl (SqT.of hp1)
        · exact .inr (SqL.of hp1)
      have lens : ∀ xs ∈ past.reverse.map (fun st => st.map V.int), xs.length = c := fun xs hxs => by
        obtain ⟨st, hst, rfl⟩ := List.mem_map.mp hxs
        rw [List.length_map]
        exact lst st (List.mem_reverse.mp hst)
      refine ⟨_, rfl, p, as.reverse, past.reverse.map (fun st : List Int => st.map V.int), rfl, sq, by rw [List.length_reverse]; omega, by rw [List.length_reverse]; omega, rowsAt H1 Kp.rfl', fun d hd => lc_it (walkN (K := K) (ts := as.reverse) lens) (fun j H2 => H2 d = some (.lst (((List.range j).map (wgt ws past)).map V.int)) ∧ Kp [] H1 H2) ?_ ?_ ?_ ?_⟩
      · exact ⟨by rw [upd_same]; rfl, Kp.rfl'.new hd⟩
      · rintro j H2 _ ⟨_, k2⟩
        exact rowsAt H2 k2
      · rintro j y H2 H3 hj ⟨h2, k2⟩ ⟨t, rfl, ft, rfl⟩
        rw [col_ints fun st hst => by rw [lst st (List.mem_reverse.mp hst)]; exact hj]
        have k3 : Kp [] H2 (upd H2 t (.tup ((past.reverse.map fun st => st.getD j 0).map V.int))) := Kp.rfl'.new ft
        have ht3 : (upd H2 t (.tup ((past.reverse.map fun st => st.getD j 0).map V.int))) t = some (.tup ((past.reverse.map fun st => st.getD j 0).map V.int)) := upd_same
        have h23 := k3 _ _ h2 (by simp)
        generalize upd H2 t (.tup ((past.reverse.map fun st => st.getD j 0).map V.int)) = H3 at k3 ht3 h23 ⊢
        have hx3 := (k2.trans k3) _ _ hx1 (by simp)
        have s33 : ∀ H', Kp [] H3 H' → SqK false K H' a3 (ws.map V.int) := fun H' k => s31 H' ((k2.trans k3).trans k)
        refine ⟨rfl, yesT ⟨_, rfl, x, dx, _, rfl, hx3, flds_no _ _ _ (by decide +kernel) (by decide +kernel) (by decide +kernel), x, dx, a1, a2, a3, rfl, hx3, _, rfl, a3, t, false, false, _, _, rfl, s33 _ Kp.rfl', SqT.of ht3, fun d2 hd2 => lc_zipI2 (ka := false) (kb := false) V.int (· * ·) s33 ht3 (by omega) hd2 ?_ ?_⟩⟩
        · intro u v t' H4 R N hu hv ht' hr'
          have := bw u hu
          exact ⟨t', _, rfl, SqT.of upd_same, rfl, _, _, rfl, _, _, rfl, rfl, rfl, yesT ⟨_, rfl, _, rfl, _, _, rfl, rfl, .inl ⟨by omega, by omega⟩, hr'⟩⟩
        · intro H4 h4 k4
          refine ⟨d2, _, rfl, SqL.of h4, _, k4 _ _ h23 (by simp), by simp only [List.length_map, List.length_range]; exact small1000 (by omega), ?_, ((k2.trans k3).trans k4).own hd⟩
          rw [upd_same, List.range_succ]
          simp [wgt, dot]
      · rintro H2 ⟨h2, k2⟩
        exact q d H2 (k1.free hd (by simp)) (k1.trans k2) h2
    · cases kd with
      | true =>
        refine .inl ⟨_, rfl, a, _, rfl, SqL.of ha, fun p hp => hnx _ _ ⟨p, rfl, ?_, Kp.rfl'.new hp⟩⟩
        rw [upd_same, ← List.map_reverse]
        rfl
      | false =>
        refine .inr ⟨_, rfl, a, _, rfl, SqT.of ha, fun p hp => hnx _ _ ⟨p, rfl, ?_, Kp.rfl'.new hp⟩⟩
        rw [upd_same, ← List.map_reverse]
        rfl
def sp_pulledBy : Sp := fun vs H Q _ => ∃ (a d : Addr) (ka kb : Bool) (ns ms : List Int), vs = [.ref a, .ref d] ∧ H a = some (sqo ka (ns.map V.int)) ∧ H d = some (sqo kb (ms.map V.int)) ∧ ns.length ≤ 900 ∧ Bd 1000 ns ∧ ∀ H', Kp [] H H' → Q (.int (dot ns ms)) H'
theorem ok_pulledBy (T : Tx K mg) : FnOk P w K mg base CX0 1 (He.fAd K ("pulled_by", none)) T.fd_pulled_by p_pulled_by sp_pulledBy := by
  refine T.F_pulled_by.ok sc_pulled_by (fun vs H Q E h => ?_) (fun cdv A outer s H vs Q E hr h => ?_)
  · obtain ⟨_, _, _, _, _, _, rfl, _⟩ := h
    rfl
  · obtain ⟨a, d, ka, kb, ns, ms, rfl, ha, hd, l9, b1, q⟩ := h
    refine ⟨_, PSs.nox (pss_one (ps_ret (pe_callB (cr_sum rfl) (by rfl) T.b_sum (by decide +kernel) (pa_cons (pe_lc (own := [("string", 2), ("one", 3)]) (g := (gTup K 2 (gCons (gName 2) (gCons (gName 3) gNil)))) (tt := tYes) rfl sc_pulled_by.nd (pi_zipS (by rfl) T.b_zip (pa_cons (pv 0) (pa_cons (pv 1) pa_nil))) (blkOk_by (own := [("string", 2), ("one", 3)]) (N := n_pulled_by) (sc := defScope s_pulled_by) (by decide +kernel)) (fun _ _ _ _ _ => (pg_tup rfl (pgs_cons (pg_name (i := 2) sc_pulled_by.nd rfl (by first | exact Or.inl rfl | exact Or.inr rfl)) (pgs_cons (pg_name (i := 3) sc_pulled_by.nd rfl (by first | exact Or.inl rfl | exact Or.inr rfl)) pgs_nil)))) (fun _ _ _ _ _ => pts_nil) (fun _ _ _ _ _ => (pe_op op_mul (pv 2) (pv 3)))) pa_nil)))), ?_⟩
    refine ⟨_, rfl, _, rfl, a, d, ka, kb, _, _, rfl, sqo_k ha, sqo_k hd, fun d2 hd2 => lc_zipI V.int (· * ·) ha hd l9 hd2 ?_ ?_⟩
    · intro u v t' H4 R N hu hv ht' hr'
      have := b1 u hu
      exact ⟨t', _, rfl, SqT.of upd_same, rfl, _, _, rfl, _, _, rfl, rfl, rfl, yesT ⟨_, rfl, _, rfl, _, _, rfl, rfl, .inl ⟨by omega, by omega⟩, hr'⟩⟩
    · intro H4 h4 k4
      exact ⟨d2, _, rfl, SqL.of h4, q _ k4⟩
def sp_pulls (K : PySem.W.Frag) : Sp := fun vs H Q _ => ∃ (x a : Addr) (rows steps : List (List Int)) (ws : List Int) (past : List (List Int)) (bs : List Addr) (w c : Nat), vs = [.ref x, .ref a] ∧ HallS K bs H w x rows steps ws ∧ PastAt H a past ∧ 1 ≤ past.length ∧ past.length ≤ 5 ∧ (∀ st ∈ past, st.length = c) ∧ rows.length = c ∧ c ≤ 900 ∧ w ≤ 900 ∧ Bd 1000 ws ∧ (∀ r ∈ rows, Bd 1000 r) ∧
  ∀ (p : Addr) (H' : Hp), H p = none → Kp [] H H' → H' p = some (.tup ((rows.map (pullR ws past c)).map V.int)) → Q (.ref p) H'
theorem ok_pulls (T : Tx K mg) : FnOk P w K mg base CX0 3 (He.fAd K ("pulls", none)) T.fd_pulls p_pulls (sp_pulls K) := by
  have G_weighed := ok_weighed (P := P) (w := w) (base := base) T
  have G_pulled_by := ok_pulledBy (P := P) (w := w) (base := base) T
  have G_Hall_strings := ok_gets (P := P) (w := w) (base := base) T
  refine T.F_pulls.ok sc_pulls (fun vs H Q E h => ?_) (fun cdv A outer s H vs Q E hr h => ?_)
  · obtain ⟨_, _, _, _, _, _, _, _, _, rfl, _⟩ := h
    rfl
  · obtain ⟨x, a, rows, steps, ws, past, bs, w', c, rfl, hA, hP, p1, p5, lst, lc, c9, lw, bw, br, q⟩ := h
    refine ⟨_, PSs.nox (pss_cons (ps_set (i := 2) sc_pulls.nd rfl (by first | exact Or.inl rfl | exact Or.inr rfl) (pe_call G_weighed (hr.mono (by first | decide | omega)) rfl T.g_weighed T.F_weighed.kp T.bd_weighed .nil pass0 (pa_cons (pv 0) (pa_cons (pv 1) pa_nil))))
      (pss_one (ps_ret (pe_callTy call_tuple_of (by rfl) T.b_tuple (by decide +kernel) (pa_cons (pe_lc (own := [("row", 3)]) (g := (gName 3)) (tt := tYes) rfl sc_pulls.nd (pi_tup (pe_meth0 (pv 0) T.cl_Hall T.m_Hall_strings G_Hall_strings (hr.mono (by first | decide | omega)) T.bd_Hall_strings .nil pass0)) (blkOk_by (own := [("row", 3)]) (N := n_pulls) (sc := defScope s_pulls) (by decide +kernel)) (fun _ _ _ _ _ => (pg_name (i := 3) sc_pulls.nd rfl (by first | exact Or.inl rfl | exact Or.inr rfl))) (fun _ _ _ _ _ => pts_nil) (fun _ _ _ _ _ => (pe_call G_pulled_by (hr.mono (by first | decide | omega)) rfl T.g_pulled_by T.F_pulled_by.kp T.bd_pulled_by .nil pass0 (pa_cons (pv 3) (pa_cons (pv 2) pa_nil))))) pa_nil))))), ?_⟩
    refine ⟨_, rfl, _, rfl, x, a, rows, steps, ws, past, bs, w', c, rfl, hA, hP, p1, p5, lst, c9, lw, bw, fun d H2 fd k2 h2 => ?_⟩
    obtain ⟨dx, a1, a2, a3, hx2, nx, d1, d2, d3⟩ := (hA.keep (k2.sub (by simp))).ex
    cases d1 with
    | @tup _ _ xs _ h4 n4 l4 t4 =>
    have len4 := DA.len t4
    rw [List.length_map] at len4
    refine ⟨_, rfl, x, dx, _, rfl, hx2, flds_no _ _ _ (by decide +kernel) (by decide +kernel) (by decide +kernel), x, dx, a1, a2, a3, rfl, hx2, a1, rfl, ⟨_, SqT.of h4⟩, fun d3 hd3 => lc_tup (K := K) (a := a1) (xs := xs) (fun j H3 => H3 d3 = some (.lst (((rows.take j).map (pullR ws past c)).map V.int)) ∧ Kp [] H2 H3) ?_ ?_ ?_ ?_⟩
    · exact ⟨by rw [upd_same]; rfl, Kp.rfl'.new hd3⟩
    · rintro j H3 _ ⟨_, k3⟩
      exact SqT.of (k3 _ _ h4 (by simp))
    · rintro j y H3 hj ⟨h3', k3⟩
      obtain ⟨r, ra, hr2, rfl, hR, lr⟩ := t4.trowAt hj
      have hjl := (List.getElem?_eq_some_iff.mp hj).1
      have b1 := br r (List.mem_of_getElem? hr2)
      refine ⟨rfl, yesT ⟨_, rfl, _, rfl, ra, d, false, true, r, (List.range c).map (wgt ws past), rfl, k3 _ _ hR (by simp), k3 _ _ h2 (by simp), by omega, b1, fun H4 k4 => ?_⟩⟩
      refine ⟨_, k4 _ _ h3' (by simp), ?_, ?_, (k3.trans k4).own hd3⟩
      · simp only [List.length_map, List.length_take]
        exact small1000 (by omega)
      · rw [upd_same, List.take_add_one, hr2]
        simp [pullR, dot]
    · rintro H3 ⟨h3', k3⟩
      rw [len4, List.take_length] at h3'
      refine ⟨d3, _, rfl, .inl ⟨SqL.of h3', fun l hl => ?_⟩⟩
      have kk := k2.trans k3
      exact q l _ (kk.free hl (by simp)) (kk.new hl) upd_same

end
end Sw

set_option maxHeartbeats 2000000
namespace Sw
open PySem PySem.Spec PyProof.Rows L2
section
variable {P : Program} {w : World} {K : PySem.W.Frag} {mg : Str → Option Value} {base : Heap}
def sp_pick : Sp := fun vs H Q _ => ∃ (b a : Addr) (ns : List Int) (n : Nat), vs = [.ref b, .ref a] ∧ Bx H b n ∧ n ≤ 900000 ∧ H a = some (.lst (ns.map V.int)) ∧ a ≠ b ∧ 1 ≤ ns.length ∧ ns.length ≤ 1000 ∧
  ∀ (x : Int) (H' : Hp), x ∈ ns → Bx H' b (n + 1) → Kp [b] H H' → Q (.int x) H'
theorem ok_pick (T : Tx K mg) : FnOk P w K mg base CX0 2 (He.fAd K ("_law_pick", none)) T.fd__law_pick p__law_pick sp_pick := by
  have G__law_take := ok_take (P := P) (w := w) (base := base) T
  refine T.F__law_pick.ok sc__law_pick (fun vs H Q E h => ?_) (fun cdv A outer s H vs Q E hr h => ?_)
  · obtain ⟨_, _, _, _, rfl, _⟩ := h
    rfl
  · obtain ⟨b, a, ns, n, rfl, hB, hn, ha, nab, l1, l2, q⟩ := h
    refine ⟨_, PSs.nox (pss_one (ps_ret (pe_ix ix_list (pv 1) (pe_call G__law_take (hr.mono (by first | decide | omega)) rfl T.g__law_take T.F__law_take.kp T.bd__law_take .nil pass0 (pa_cons (pv 0) (pa_cons (pe_callB call_len (by rfl) T.b_len (by decide +kernel) (pa_cons (pv 1) pa_nil)) pa_nil))) (fun _ _ => rfl)))), ?_⟩
    refine ⟨_, rfl, _, rfl, _, rfl, _, ns.length, rfl, .inl ⟨_, SqL.of ha, (List.length_map ..).symm⟩, b, _, n, rfl, hB, by omega, by omega, by omega, fun r H1 r0 r1 hB1 k1 => ?_⟩
    have lt : r.toNat < ns.length := by omega
    refine ⟨a, _, _, V.int ns[r.toNat], rfl, rfl, SqL.of (k1 _ _ ha (by simpa using nab)), at_of (j := r.toNat) (by omega) (by simp [lt]), ?_⟩
    exact q _ H1 (List.getElem_mem lt) hB1 k1

end
end Sw

set_option maxHeartbeats 2000000
namespace Sw
open PySem PySem.Spec PyProof.Rows L2
section
variable {P : Program} {w : World} {K : PySem.W.Frag} {mg : Str → Option Value} {base : Heap}
def midR (ws ts r : List Int) : Int := ws.sum * dot r ts
/-- numbers of a hall that stay small -/
structure Hs (rows steps : List (List Int)) (ws : List Int) : Prop where
  lw : ws.length ≤ 5
  bw : Bd 20 ws
  lr : rows.length ≤ 12
  br : ∀ r ∈ rows, Bd 60 r ∧ r.length ≤ 12
  st : ∀ r ∈ steps, r.length ≤ 4
theorem tops_bd {steps : List (List Int)} (h : ∀ r ∈ steps, r.length ≤ 4) : Bd 4 (topsOf steps) := fun x hx => by
  obtain ⟨r, hr, rfl⟩ := List.mem_map.mp hx
  have := h r hr
  omega
theorem Hs.sum {rows steps : List (List Int)} {ws : List Int} (h : Hs rows steps ws) : -100 ≤ ws.sum ∧ ws.sum ≤ 100 := by
  have z := sum_bd2 h.bw
  have := h.lw
  omega
theorem mid_bd {rows steps : List (List Int)} {ws ts r : List Int} (h : Hs rows steps ws) (ht : Bd 4 ts) (hr : r ∈ rows) : -300000 ≤ midR ws ts r ∧ midR ws ts r ≤ 300000 := by
  obtain ⟨b1, b2⟩ := h.br r hr
  have z := dot_bd (by decide) (by decide) b1 ht
  have s := h.sum
  have m := mul_bd (x := ws.sum) (y := dot r ts) (a := 100) (c := 3000) s ⟨by omega, by omega⟩
  unfold midR
  omega
def sp_mids (K : PySem.W.Frag) : Sp := fun vs H Q _ => ∃ (x : Addr) (rows steps : List (List Int)) (ws : List Int) (bs : List Addr) (w : Nat), vs = [.ref x] ∧ HallAt K bs H w x rows steps ws ∧ w ≤ 12 ∧ Hs rows steps ws ∧
  ∀ (p : Addr) (H' : Hp), H p = none → Kp [] H H' → H' p = some (.tup ((rows.map (midR ws (topsOf steps))).map V.int)) → Q (.ref p) H'
theorem ok_mids (T : Tx K mg) : FnOk P w K mg base CX0 2 (He.fAd K ("middles", none)) T.fd_middles p_middles (sp_mids K) := by
  have G_Hall_memory := ok_getm (P := P) (w := w) (base := base) T
  have G_Hall_strings := ok_gets (P := P) (w := w) (base := base) T
  have G_Hall_tops := ok_tops (P := P) (w := w) (base := base) T
  refine T.F_middles.ok sc_middles (fun vs H Q E h => ?_) (fun cdv A outer s H vs Q E hr h => ?_)
  · obtain ⟨_, _, _, _, _, _, rfl, _⟩ := h
    rfl
  · obtain ⟨x, rows, steps, ws, bs, w', rfl, hA, lw, hs, q⟩ := h
    obtain ⟨dx, a1, a2, a3, hx, nx, d1, d2, d3⟩ := hA.ex
    refine ⟨_, PSs.nox (pss_cons (ps_asg (pe_tup (pa_cons (pe_callB (cr_sumQ rfl) (by rfl) T.b_sum (by decide +kernel) (pa_cons (pe_meth0 (pv 0) T.cl_Hall T.m_Hall_memory G_Hall_memory (hr.mono (by first | decide | omega)) T.bd_Hall_memory .nil pass0) pa_nil)) (pa_cons (pe_meth0 (pv 0) T.cl_Hall T.m_Hall_tops G_Hall_tops (hr.mono (by first | decide | omega)) T.bd_Hall_tops .nil pass0) pa_nil))) (pg_tup rfl (pgs_cons (pg_name (i := 1) sc_middles.nd rfl (by first | exact Or.inl rfl | exact Or.inr rfl)) (pgs_cons (pg_name (i := 2) sc_middles.nd rfl (by first | exact Or.inl rfl | exact Or.inr rfl)) pgs_nil))))
      (pss_one (ps_ret (pe_callTy call_tuple_of (by rfl) T.b_tuple (by decide +kernel) (pa_cons (pe_lc (own := [("row", 3)]) (g := (gName 3)) (tt := tYes) rfl sc_middles.nd (pi_tup (pe_meth0 (pv 0) T.cl_Hall T.m_Hall_strings G_Hall_strings (hr.mono (by first | decide | omega)) T.bd_Hall_strings .nil pass0)) (blkOk_by (own := [("row", 3)]) (N := n_middles) (sc := defScope s_middles) (by decide +kernel)) (fun _ _ _ _ _ => (pg_name (i := 3) sc_middles.nd rfl (by first | exact Or.inl rfl | exact Or.inr rfl))) (fun _ _ _ _ _ => pts_nil) (fun _ _ _ _ _ => (pe_op op_mul (pv 1) (pe_callB (kSum (K := K) rfl rfl) (by rfl) T.b_sum (by decide +kernel) (pa_cons (pe_lc (own := [("string", 4), ("top", 5)]) (g := (gTup K 2 (gCons (gName 4) (gCons (gName 5) gNil)))) (tt := tYes) rfl sc_middles.nd (kZipS (K := K) rfl (by rfl) T.b_zip (pa_cons (pv 3) (pa_cons (pv 2) pa_nil))) (blkOk_by (own := [("string", 4), ("top", 5)]) (N := n_middles) (sc := relabel (lcScope (argOf (retAt 1 s_middles))) (envOfC "" (defScope s_middles) 0 0 .none)) (by decide +kernel)) (fun _ _ _ _ _ => (pg_tup rfl (pgs_cons (pg_name (i := 4) sc_middles.nd rfl (by first | exact Or.inl rfl | exact Or.inr rfl)) (pgs_cons (pg_name (i := 5) sc_middles.nd rfl (by first | exact Or.inl rfl | exact Or.inr rfl)) pgs_nil)))) (fun _ _ _ _ _ => pts_nil) (fun _ _ _ _ _ => (pe_op op_mul (pv 4) (pv 5)))) pa_nil))))) pa_nil))))), ?_⟩
    cases d3 with
    | @tup _ _ xs3 _ h3 n3 l3 t3 =>
    have e3 := DA.ints t3
    subst e3
    refine ⟨_, rfl, x, dx, _, rfl, hx, flds_no _ _ _ (by decide +kernel) (by decide +kernel) (by decide +kernel), x, dx, a1, a2, a3, rfl, hx, a3, ws, rfl, SqT.of h3, ?_⟩
    refine ⟨_, rfl, x, dx, _, rfl, hx, flds_no _ _ _ (by decide +kernel) (by decide +kernel) (by decide +kernel), x, rows, steps, ws, bs, w', rfl, hA, by omega, fun tp H1 f1 k1 h1 => ?_⟩
    refine ⟨by show 2 ≤ sizeLine; decide, fun t ht => ⟨t, _, rfl, SqT.of upd_same, rfl, _, _, rfl, _, _, rfl, rfl, ?_⟩⟩
    have k2 : Kp [] H (upd H1 t (.tup [.int ws.sum, .ref tp])) := k1.new ht
    have htp : (upd H1 t (.tup [.int ws.sum, .ref tp])) tp = some (.tup ((topsOf steps).map V.int)) := by
      rw [upd_ne (ne_of_none h1 ht)]
      exact h1
    generalize upd H1 t (.tup [.int ws.sum, .ref tp]) = H2 at k2 htp ⊢
    have hx2 := k2 _ _ hx (by simp)
    cases d1.keep (k2.sub (by simp)) with
    | @tup _ _ xs _ h4 n4 l4 t4 =>
    have len4 := DA.len t4
    rw [List.length_map] at len4
    refine ⟨_, rfl, x, dx, _, rfl, hx2, flds_no _ _ _ (by decide +kernel) (by decide +kernel) (by decide +kernel), x, dx, a1, a2, a3, rfl, hx2, a1, rfl, ⟨_, SqT.of h4⟩, fun d hd => lc_tup (K := K) (a := a1) (xs := xs) (fun j H3 => H3 d = some (.lst (((rows.take j).map (midR ws (topsOf steps))).map V.int)) ∧ Kp [] H2 H3) ?_ ?_ ?_ ?_⟩
    · exact ⟨by rw [upd_same]; rfl, Kp.rfl'.new hd⟩
    · rintro j H3 _ ⟨_, k3⟩
      exact SqT.of (k3 _ _ h4 (by simp))
    · rintro j y H3 hj ⟨h3', k3⟩
      obtain ⟨r, ra, hr2, rfl, hR, lr⟩ := t4.trowAt hj
      have hjl := (List.getElem?_eq_some_iff.mp hj).1
      have hrm := List.mem_of_getElem? hr2
      obtain ⟨b1, b2⟩ := hs.br r hrm
      have hR3 := k3 _ _ hR (by simp)
      have ht3 := k3 _ _ htp (by simp)
      have bt := tops_bd hs.st
      have sm := hs.sum
      refine ⟨rfl, yesT ⟨_, rfl, _, rfl, _, rfl, ra, tp, false, false, _, _, rfl, SqT.of hR3, SqT.of ht3, fun d2 hd2 => lc_zipI (ka := false) (kb := false) V.int (· * ·) hR3 ht3 (by omega) hd2 ?_ ?_⟩⟩
      · intro u v t' H4 R N hu hv ht' hr'
        have := b1 u hu
        exact ⟨t', _, rfl, SqT.of upd_same, rfl, _, _, rfl, _, _, rfl, rfl, rfl, yesT ⟨_, rfl, _, rfl, _, _, rfl, rfl, .inl ⟨by omega, by omega⟩, hr'⟩⟩
      · intro H4 h4' k4
        refine ⟨d2, _, rfl, SqL.of h4', _, _, rfl, rfl, .inl ⟨by omega, by omega⟩, _, k4 _ _ h3' (by simp), ?_, ?_, (k3.trans k4).own hd⟩
        · simp only [List.length_map, List.length_take]
          exact small1000 (by omega)
        · rw [upd_same, List.take_add_one, hr2]
          simp [midR, dot]
    · rintro H3 ⟨h3', k3⟩
      rw [len4, List.take_length] at h3'
      refine ⟨d, _, rfl, .inl ⟨SqL.of h3', fun l hl => ?_⟩⟩
      exact q l _ ((k2.trans k3).free hl (by simp)) ((k2.trans k3).new hl) upd_same
def balB (r : List Int) (m : Int) : Bool := (List.zipWith (fun a b => decide (V.int (a + b) = V.int (m + 1))) r r.reverse).all id
def sp_bal (K : PySem.W.Frag) : Sp := fun vs H Q _ => ∃ (x : Addr) (i : Nat) (rows steps : List (List Int)) (ws r0 r : List Int) (bs : List Addr) (w : Nat), vs = [.ref x, .int i] ∧ HallAt K bs H w x rows steps ws ∧ w ≤ 12 ∧ Hs rows steps ws ∧ rows[i]? = some r0 ∧ steps[i]? = some r ∧
  ∀ H', Kp [] H H' → Q (.bl (balB r (midR ws (topsOf steps) r0))) H'
theorem ok_bal (T : Tx K mg) : FnOk P w K mg base CX0 3 (He.fAd K ("is_balanced", none)) T.fd_is_balanced p_is_balanced (sp_bal K) := by
  have G_Hall_steps := ok_gett (P := P) (w := w) (base := base) T
  have G_middles := ok_mids (P := P) (w := w) (base := base) T
  refine T.F_is_balanced.ok sc_is_balanced (fun vs H Q E h => ?_) (fun cdv A outer s H vs Q E hr h => ?_)
  · obtain ⟨_, _, _, _, _, _, _, _, _, rfl, _⟩ := h
    rfl
  · obtain ⟨x, i, rows, steps, ws, r0, r, bs, w', rfl, hA, lw, hs, e0, e1, q⟩ := h
    obtain ⟨dx, a1, a2, a3, hx, nx, d1, d2, d3⟩ := hA.ex
    refine ⟨_, PSs.nox (pss_cons (ps_asg (pe_tup (pa_cons (pe_ix ix_tup (pe_meth0 (pv 0) T.cl_Hall T.m_Hall_steps G_Hall_steps (hr.mono (by first | decide | omega)) T.bd_Hall_steps .nil pass0) (pv 1) (fun _ _ => rfl)) (pa_cons (pe_ix ix_tup (pe_call G_middles (hr.mono (by first | decide | omega)) rfl T.g_middles T.F_middles.kp T.bd_middles .nil pass0 (pa_cons (pv 0) pa_nil)) (pv 1) (fun _ _ => rfl)) pa_nil))) (pg_tup rfl (pgs_cons (pg_name (i := 2) sc_is_balanced.nd rfl (by first | exact Or.inl rfl | exact Or.inr rfl)) (pgs_cons (pg_name (i := 3) sc_is_balanced.nd rfl (by first | exact Or.inl rfl | exact Or.inr rfl)) pgs_nil))))
      (pss_one (ps_ret (pe_callB (cr_all rfl) (by rfl) T.b_all (by decide +kernel) (pa_cons (pe_lc (own := [("one", 4), ("other", 5)]) (g := (gTup K 2 (gCons (gName 4) (gCons (gName 5) gNil)))) (tt := tYes) rfl sc_is_balanced.nd (pi_zipS (by rfl) T.b_zip (pa_cons (pv 2) (pa_cons (pe_revT (pv 2)) pa_nil))) (blkOk_by (own := [("one", 4), ("other", 5)]) (N := n_is_balanced) (sc := defScope s_is_balanced) (by decide +kernel)) (fun _ _ _ _ _ => (pg_tup rfl (pgs_cons (pg_name (i := 4) sc_is_balanced.nd rfl (by first | exact Or.inl rfl | exact Or.inr rfl)) (pgs_cons (pg_name (i := 5) sc_is_balanced.nd rfl (by first | exact Or.inl rfl | exact Or.inr rfl)) pgs_nil)))) (fun _ _ _ _ _ => pts_nil) (fun _ _ _ _ _ => (pe_cmpR op_eq (pe_op op_add (pv 4) (pv 5)) (pe_op op_add (pv 3) pe_int) (nomark _)))) pa_nil))))), ?_⟩
    cases d2 with
    | @tup _ _ xs _ h2 n2 l2 t2 =>
    have len2 := DA.len t2
    rw [List.length_map] at len2
    have li : i < xs.length := by
      have := (List.getElem?_eq_some_iff.mp e1).1
      omega
    have gx : xs[i]? = some xs[i] := by simp
    obtain ⟨r', ra, hr2, eq, hR, _⟩ := t2.trowAt gx
    rw [e1] at hr2
    cases hr2
    refine ⟨_, rfl, x, dx, _, rfl, hx, flds_no _ _ _ (by decide +kernel) (by decide +kernel) (by decide +kernel), x, dx, a1, a2, a3, rfl, hx, _, rfl, a2, _, _, _, rfl, rfl, SqT.of h2, atI_nat gx, ?_⟩
    refine ⟨_, rfl, x, rows, steps, ws, bs, w', rfl, hA, lw, hs, fun mp H1 f1 k1 h1 => ?_⟩
    have gm : (rows.map (midR ws (topsOf steps)))[i]? = some (midR ws (topsOf steps) r0) := by rw [List.getElem?_map, e0]; rfl
    refine ⟨_, rfl, mp, _, _, V.int (midR ws (topsOf steps) r0), rfl, rfl, SqT.of h1, atI_nat (by rw [List.getElem?_map, gm]; rfl), ?_⟩
    rw [eq]
    refine ⟨by show 2 ≤ sizeLine; decide, fun t ht => ⟨t, _, rfl, SqT.of upd_same, rfl, _, _, rfl, _, _, rfl, rfl, ?_⟩⟩
    have k2 : Kp [] H (upd H1 t (.tup [.ref ra, .int (midR ws (topsOf steps) r0)])) := k1.new ht
    have hR2 := k2 _ _ hR (by simp)
    generalize upd H1 t (.tup [.ref ra, .int (midR ws (topsOf steps) r0)]) = H2 at k2 hR2 ⊢
    have lr := hs.st r (List.mem_of_getElem? e1)
    refine ⟨_, rfl, _, rfl, ra, _, rfl, SqT.of hR2, fun p hp => ?_⟩
    rw [← List.map_reverse]
    have k3 : Kp [] H2 (upd H2 p (.tup (r.reverse.map V.int))) := Kp.rfl'.new hp
    have hR3 := k3 _ _ hR2 (by simp)
    have hp3 : (upd H2 p (.tup (r.reverse.map V.int))) p = some (.tup (r.reverse.map V.int)) := upd_same
    generalize upd H2 p (.tup (r.reverse.map V.int)) = H3 at k3 hR3 hp3 ⊢
    refine ⟨ra, p, false, false, _, _, rfl, SqT.of hR3, SqT.of hp3, fun d hd => lc_zipI (ka := false) (kb := false) V.bl (fun a b => decide (V.int (a + b) = V.int (midR ws (topsOf steps) r0 + 1))) hR3 hp3 (by omega) hd ?_ ?_⟩
    · intro u v t' H4 R N hu hv ht' hr'
      exact ⟨t', _, rfl, SqT.of upd_same, rfl, _, _, rfl, _, _, rfl, rfl, rfl, yesT ⟨_, rfl, _, rfl, _, _, rfl, rfl, _, rfl, _, _, rfl, rfl, rfl, hr'⟩⟩
    · intro H4 h4 k4
      exact ⟨d, _, rfl, SqL.of h4, q _ ((k2.trans k3).trans k4)⟩
def sp_mir (K : PySem.W.Frag) : Sp := fun vs H Q _ => ∃ (x a : Addr) (rows steps : List (List Int)) (ws st : List Int) (bs : List Addr) (w : Nat), vs = [.ref x, .ref a] ∧ HallAt K bs H w x rows steps ws ∧ w ≤ 12 ∧ H a = some (.tup (st.map V.int)) ∧ steps.length ≤ 12 ∧
  ∀ (p : Addr) (H' : Hp), H p = none → Kp [] H H' → H' p = some (.tup ((List.zipWith (· - ·) (topsOf steps) st).map V.int)) → Q (.ref p) H'
theorem ok_mir (T : Tx K mg) : FnOk P w K mg base CX0 2 (He.fAd K ("mirror", none)) T.fd_mirror p_mirror (sp_mir K) := by
  have G_Hall_tops := ok_tops (P := P) (w := w) (base := base) T
  refine T.F_mirror.ok sc_mirror (fun vs H Q E h => ?_) (fun cdv A outer s H vs Q E hr h => ?_)
  · obtain ⟨_, _, _, _, _, _, _, _, rfl, _⟩ := h
    rfl
  · obtain ⟨x, a, rows, steps, ws, st, bs, w', rfl, hA, lw, ha, ls, q⟩ := h
    obtain ⟨dx, a1, a2, a3, hx, nx, d1, d2, d3⟩ := hA.ex
    refine ⟨_, PSs.nox (pss_one (ps_ret (pe_callTy call_tuple_of (by rfl) T.b_tuple (by decide +kernel) (pa_cons (pe_lc (own := [("top", 2), ("posture", 3)]) (g := (gTup K 2 (gCons (gName 2) (gCons (gName 3) gNil)))) (tt := tYes) rfl sc_mirror.nd (pi_zipS (by rfl) T.b_zip (pa_cons (pe_meth0 (pv 0) T.cl_Hall T.m_Hall_tops G_Hall_tops (hr.mono (by first | decide | omega)) T.bd_Hall_tops .nil pass0) (pa_cons (pv 1) pa_nil))) (blkOk_by (own := [("top", 2), ("posture", 3)]) (N := n_mirror) (sc := defScope s_mirror) (by decide +kernel)) (fun _ _ _ _ _ => (pg_tup rfl (pgs_cons (pg_name (i := 2) sc_mirror.nd rfl (by first | exact Or.inl rfl | exact Or.inr rfl)) (pgs_cons (pg_name (i := 3) sc_mirror.nd rfl (by first | exact Or.inl rfl | exact Or.inr rfl)) pgs_nil)))) (fun _ _ _ _ _ => pts_nil) (fun _ _ _ _ _ => (pe_op op_sub (pv 2) (pv 3)))) pa_nil)))), ?_⟩
    refine ⟨_, rfl, x, dx, _, rfl, hx, flds_no _ _ _ (by decide +kernel) (by decide +kernel) (by decide +kernel), x, rows, steps, ws, bs, w', rfl, hA, by omega, fun tp H1 f1 k1 h1 => ?_⟩
    have ha1 := k1 _ _ ha (by simp)
    refine ⟨_, rfl, tp, a, false, false, _, _, rfl, SqT.of h1, SqT.of ha1, fun d hd => lc_zipI (ka := false) (kb := false) V.int (· - ·) h1 ha1 (by simp [topsOf]; omega) hd ?_ ?_⟩
    · intro u v t' H4 R N hu hv ht' hr'
      exact ⟨t', _, rfl, SqT.of upd_same, rfl, _, _, rfl, _, _, rfl, rfl, rfl, yesT ⟨_, rfl, _, rfl, _, _, rfl, rfl, hr'⟩⟩
    · intro H4 h4 k4
      refine ⟨d, _, rfl, .inl ⟨SqL.of h4, fun l hl => ?_⟩⟩
      exact q l _ ((k1.trans k4).free hl (by simp)) ((k1.trans k4).new hl) upd_same

end
end Sw

set_option maxHeartbeats 2000000
namespace Sw
open PySem PySem.Spec PyProof.Rows L2
section
variable {P : Program} {w : World} {K : PySem.W.Frag} {mg : Str → Option Value} {base : Heap}
theorem D.rowLL {bs : List Addr} {H : Hp} {w k : Nat} {p : Addr} {rows : List (List Int)} (h : D bs H w k (.ref p) (dII rows)) : ∃ xs : List V, H p = some (.lst xs) ∧ p ∉ bs ∧ xs.length = rows.length ∧ xs.length ≤ w ∧ ∀ (i : Nat) (r : List Int), rows[i]? = some r → ∃ a, xs[i]? = some (.ref a) ∧ H a = some (.lst (r.map V.int)) ∧ a ∉ bs ∧ r.length ≤ w := by
  cases h with
  | @lst _ _ xs _ h n l t =>
    have len := DA.len t
    rw [List.length_map] at len
    refine ⟨xs, h, n, len, l, fun i r hr => ?_⟩
    have li : i < xs.length := by
      have := (List.getElem?_eq_some_iff.mp hr).1
      omega
    have gx : xs[i]? = some xs[i] := by simp
    obtain ⟨dd, hd, hx⟩ := t.get gx
    rw [List.getElem?_map, hr] at hd
    cases hd
    obtain ⟨a, e, ha, na, la⟩ := hx.lints
    exact ⟨a, by rw [gx, e], ha, na, la⟩
/-- a standing of these steps -/
def StOk (steps : List (List Int)) (st : List Int) : Prop := st.length = steps.length ∧ ∀ (j : Nat) (x : Int) (r : List Int), st[j]? = some x → steps[j]? = some r → 0 ≤ x ∧ x ≤ r.length
theorem StOk.bd {steps : List (List Int)} {st : List Int} (h : StOk steps st) (h4 : ∀ r ∈ steps, r.length ≤ 4) : Bd 4 st := fun x hx => by
  obtain ⟨j, hj, e⟩ := List.getElem_of_mem hx
  have lj : j < steps.length := by
    have := h.1
    omega
  have := h.2 j x steps[j] (by rw [List.getElem?_eq_getElem hj, e]) (by simp)
  have := h4 _ (List.getElem_mem lj)
  omega
def sp_past : Sp := fun vs H Q _ => ∃ (b sp : Addr) (steps : List (List Int)) (k n : Nat), vs = [.ref b, .ref sp, .int k] ∧ Bx H b n ∧ n ≤ 800000 ∧ D [b] H 12 2 (.ref sp) (dII steps) ∧ k ≤ 5 ∧ (∀ r ∈ steps, r.length ≤ 4) ∧
  ∀ (q : Addr) (past : List (List Int)) (H' : Hp), H q = none → D [b] H' 12 2 (.ref q) (dLT past) → past.length = k → (∀ st ∈ past, StOk steps st) → Bx H' b (n + 60) → Kp [b] H H' → Q (.ref q) H'
theorem ok_past (T : Tx K mg) : FnOk P w K mg base CX0 2 (He.fAd K ("_law_past", none)) T.fd__law_past p__law_past sp_past := by
  have G__law_take := ok_take (P := P) (w := w) (base := base) T
  refine T.F__law_past.ok sc__law_past (fun vs H Q E h => ?_) (fun cdv A outer s H vs Q E hr h => ?_)
  · obtain ⟨_, _, _, _, _, rfl, _⟩ := h
    rfl
  · obtain ⟨b, sp, steps, k, n, rfl, hB, hn, dS, k5, h4, q⟩ := h
    obtain ⟨xs, hsp, nsp, lx, lw, al⟩ := dS.rowLL
    refine ⟨_, PSs.nox (pss_one (ps_ret (pe_lc (own := [("_law_k", 3)]) (g := (gName 3)) (tt := tYes) rfl sc__law_past.nd (pi_range1 (by rfl) T.b_range (pa_cons (pv 2) pa_nil)) (blkOk_by (own := [("_law_k", 3)]) (N := n__law_past) (sc := defScope s__law_past) (by decide +kernel)) (fun _ _ _ _ _ => (pg_name (i := 3) sc__law_past.nd rfl (by first | exact Or.inl rfl | exact Or.inr rfl))) (fun _ _ _ _ _ => pts_nil) (fun _ _ _ _ _ => (pe_callTy (kTup (K := K) rfl) (by rfl) T.b_tuple (by decide +kernel) (pa_cons (pe_lc (own := [("_law_some", 4)]) (g := (gName 4)) (tt := tYes) rfl sc__law_past.nd (kPiL (K := K) rfl (pv 1)) (blkOk_by (own := [("_law_some", 4)]) (N := n__law_past) (sc := relabel (lcScope (retOf s__law_past)) (envOfC "" (defScope s__law_past) 0 0 .none)) (by decide +kernel)) (fun _ _ _ _ _ => (pg_name (i := 4) sc__law_past.nd rfl (by first | exact Or.inl rfl | exact Or.inr rfl))) (fun _ _ _ _ _ => pts_nil) (fun _ _ _ _ _ => (pe_call G__law_take (hr.mono (by first | decide | omega)) rfl T.g__law_take T.F__law_take.kp T.bd__law_take .nil pass0 (pa_cons (pv 0) (pa_cons (pe_op op_add (pe_callB (kLen (K := K) rfl) (by rfl) T.b_len (by decide +kernel) (pa_cons (pv 4) pa_nil)) pe_int) pa_nil))))) pa_nil)))))), ?_⟩
    refine ⟨_, rfl, _, rfl, by omega, by omega, fun p hp => lc_range (n := ((k : Nat) : Int).toNat) (fun i H1 => ∃ (ys : List V) (past : List (List Int)), H1 p = some (.lst ys) ∧ DA [p, b] H1 12 1 ys (past.map dT) ∧ past.length = i ∧ (∀ st ∈ past, StOk steps st) ∧ Bx H1 b (n + 12 * i) ∧ Kp [b] H H1) ?_ ?_ ?_⟩
    · exact ⟨[], [], upd_same, .nil, rfl, by simp, hB.keep (Kp.rfl'.new (bs := []) hp) (by simp), Kp.rfl'.new hp⟩
    · rintro i H1 hi ⟨ys, past, h1, d1, l1, g1, hB1, k1⟩
      have npb := hB.off hp
      have hsp1 := k1 _ _ hsp nsp
      refine ⟨rfl, yesT ⟨_, rfl, sp, rfl, ⟨_, SqL.of hsp1⟩, fun p2 hp2 => lc_list (K := K) (a := sp) (xs := xs) (fun j H2 => ∃ st : List Int, H2 p2 = some (.lst (st.map V.int)) ∧ st.length = j ∧ (∀ (m : Nat) (x : Int) (r : List Int), st[m]? = some x → steps[m]? = some r → 0 ≤ x ∧ x ≤ r.length) ∧ Bx H2 b (n + 12 * i + j) ∧ Kp [b] H1 H2) ?_ ?_ ?_ ?_⟩⟩
      · exact ⟨[], upd_same, rfl, by simp, hB1.keep (Kp.rfl'.new (bs := []) hp2) (by simp), Kp.rfl'.new hp2⟩
      · rintro j H2 _ ⟨_, _, _, _, _, k2⟩
        exact SqL.of (k2 _ _ hsp1 nsp)
      · rintro j y H2 hj ⟨st, h2, l2, g2, hB2, k2⟩
        have np2 := hB1.off hp2
        have hjl := (List.getElem?_eq_some_iff.mp hj).1
        have lj : j < steps.length := by omega
        have er : steps[j]? = some steps[j] := by simp
        obtain ⟨a, gx, ha, na, _⟩ := al j _ er
        rw [gx] at hj
        cases hj
        have ha2 := (k1.trans k2) _ _ ha na
        have r4 := h4 _ (List.getElem_mem lj)
        refine ⟨rfl, yesT ⟨_, rfl, _, rfl, _, steps[j].length, rfl, .inl ⟨_, SqL.of ha2, by simp⟩, _, _, rfl, rfl, b, _, _, rfl, hB2, by omega, by omega, by omega, fun x H3 x0 x1 hB3 k3 => ?_⟩⟩
        refine ⟨_, k3 _ _ h2 (by simpa using np2), by rw [List.length_map]; exact small1000 (by omega), st ++ [x], by rw [upd_same, ints_snoc], by simp [l2], ?_, (hB3.keep (Kp.rfl'.put (bs := [p2]) (by simp)) (by simpa using np2.symm)).up (by omega), (k2.trans k3).own hp2⟩
        intro m y r e1 e2
        by_cases c : m < st.length
        · rw [List.getElem?_append_left c] at e1
          exact g2 m y r e1 e2
        · rw [List.getElem?_append_right (by omega)] at e1
          have em : m = j := by
            have := (List.getElem?_eq_some_iff.mp e1).1
            simp at this
            omega
          subst em
          rw [l2, Nat.sub_self] at e1
          cases e1
          rw [er] at e2
          cases e2
          omega
      · rintro H2 ⟨st, h2, l2, g2, hB2, k2⟩
        have np2 := hB1.off hp2
        refine ⟨p2, _, rfl, .inl ⟨SqL.of h2, fun l hl => ?_⟩⟩
        have nlb := hB2.off hl
        have h12 := k2 _ _ h1 (by simpa using npb)
        have nlp : l ≠ p := (ne_of_none h12 hl).symm
        have kl : ∀ cs, Kp cs H2 (upd H2 l (.tup (st.map V.int))) := fun cs => Kp.rfl'.new hl
        have kd : Kp [p, b] (upd H2 l (.tup (st.map V.int))) (upd (upd H2 l (.tup (st.map V.int))) p (.lst (ys ++ [.ref l]))) := Kp.rfl'.put (by simp)
        have sok : StOk steps st := ⟨by omega, g2⟩
        refine ⟨ys, kl [] _ _ h12 (by simp), by rw [DA.len d1, List.length_map]; exact small1000 (by omega), ys ++ [.ref l], past ++ [st], upd_same, ?_, by simp [l1], ?_, ((hB2.keep (kl []) (by simp)).keep (Kp.rfl'.put (bs := [p]) (by simp)) (by simpa using npb.symm)).up (by omega), ((k1.trans k2).trans (kl _)).own hp⟩
        · rw [List.map_append]
          refine (((d1.keep (k2.sub (by simp))).keep (kl _)).keep kd).app (DA.one ((D.tup (k := 0) upd_same (by simp [nlp, nlb]) (by rw [List.length_map]; omega) (DA.ofInts fun x hx => ?_)).keep kd))
          have := sok.bd h4 x hx
          omega
        · intro s' hs'
          rcases List.mem_append.mp hs' with z | z
          · exact g1 s' z
          · rw [List.mem_singleton.mp z]
            exact sok
    · rintro H1 ⟨ys, past, h1, d1, l1, g1, hB1, k1⟩
      have npb := hB.off hp
      exact q p past H1 hp (.lst h1 (by simpa using npb) (by rw [DA.len d1, List.length_map]; omega) (d1.less (by simp))) (by omega) g1 (hB1.up (by omega)) k1
def lawP (ws : List Int) (ps : List (List Int)) (r : List Int) : Int := (List.zipWith (fun w p => w * dot r p) ws ps).sum
def sp_lpull : Sp := fun vs H Q _ => ∃ (ra wa pa : Addr) (r ws : List Int) (past : List (List Int)) (bs : List Addr) (w : Nat), vs = [.ref ra, .ref wa, .ref pa] ∧ H ra = some (.lst (r.map V.int)) ∧ H wa = some (.lst (ws.map V.int)) ∧ D bs H w 2 (.ref pa) (dLT past) ∧ ws.length ≤ past.length ∧ r.length ≤ 900 ∧ Bd 1000 r ∧ Bd 1000 ws ∧ ∀ H', Kp [] H H' → Q (.int (lawP ws past.reverse r)) H'
theorem ok_lpull (T : Tx K mg) : FnOk P w K mg base CX0 1 (He.fAd K ("_law_pull", none)) T.fd__law_pull p__law_pull sp_lpull := by
  refine T.F__law_pull.ok sc__law_pull (fun vs H Q E h => ?_) (fun cdv A outer s H vs Q E hr h => ?_)
  · obtain ⟨_, _, _, _, _, _, _, _, rfl, _⟩ := h
    rfl
  · obtain ⟨ra, wa, pa, r, ws, past, bs, w', rfl, hra, hwa, dP, lw, lr, br, bw, q⟩ := h
    obtain ⟨xs, hpa, _, lx, lx12, al⟩ := dP.rowLT
    refine ⟨_, PSs.nox (pss_cons (ps_set (i := 3) sc__law_pull.nd rfl (by first | exact Or.inl rfl | exact Or.inr rfl) pe_int)
      (pss_cons (ps_for PassesOwn.never rfl (pi_enum (by rfl) T.b_enumerate (pa_cons (pv 1) pa_nil)) (pg_tup rfl (pgs_cons (pg_name (i := 4) sc__law_pull.nd rfl (by first | exact Or.inl rfl | exact Or.inr rfl)) (pgs_cons (pg_name (i := 5) sc__law_pull.nd rfl (by first | exact Or.inl rfl | exact Or.inr rfl)) pgs_nil)))
      (pss_one (ps_set (i := 3) sc__law_pull.nd rfl (by first | exact Or.inl rfl | exact Or.inr rfl) (pe_op op_add (pv 3) (pe_op op_mul (pv 5) (pe_callB (cr_sum rfl) (by rfl) T.b_sum (by decide +kernel) (pa_cons (pe_lc (own := [("_law_tie", 6), ("_law_posture", 7)]) (g := (gTup K 2 (gCons (gName 6) (gCons (gName 7) gNil)))) (tt := tYes) rfl sc__law_pull.nd (pi_zipS (by rfl) T.b_zip (pa_cons (pv 0) (pa_cons (pe_ix ix_list (pv 2) (pe_op op_sub (pe_op op_sub (pe_callB call_len (by rfl) T.b_len (by decide +kernel) (pa_cons (pv 2) pa_nil)) pe_int) (pv 4)) (fun _ _ => rfl)) pa_nil))) (blkOk_by (own := [("_law_tie", 6), ("_law_posture", 7)]) (N := n__law_pull) (sc := defScope s__law_pull) (by decide +kernel)) (fun _ _ _ _ _ => (pg_tup rfl (pgs_cons (pg_name (i := 6) sc__law_pull.nd rfl (by first | exact Or.inl rfl | exact Or.inr rfl)) (pgs_cons (pg_name (i := 7) sc__law_pull.nd rfl (by first | exact Or.inl rfl | exact Or.inr rfl)) pgs_nil)))) (fun _ _ _ _ _ => pts_nil) (fun _ _ _ _ _ => (pe_op op_mul (pv 6) (pv 7)))) pa_nil)))))))
      (pss_one (ps_ret (pv 3))))), ?_⟩
    refine ⟨_, rfl, wa, _, rfl, SqL.of hwa, for_it (walk_enum (K := K) (a := wa) (xs := ws.map V.int)) (fun i σ H1 => ∃ o4 o5 : Option V, σ = [some (.ref ra), some (.ref wa), some (.ref pa), some (.int (lawP (ws.take i) past.reverse r)), o4, o5, none, none] ∧ Kp [] H H1) ?_ ?_ ?_ ?_⟩
    · exact ⟨none, none, rfl, Kp.rfl'⟩
    · rintro i σ H1 _ ⟨_, _, _, k1⟩
      exact SqL.of (k1 _ _ hwa (by simp))
    · rintro i y σ H1 H2 hi ⟨o4, o5, rfl, k1⟩ ⟨t, u, v, rfl, ft, rfl, hu, hv⟩
      cases hu
      simp only [List.getElem?_map] at hv
      obtain ⟨wt, hwt, rfl⟩ := Option.map_eq_some_iff.mp hv
      have li := (List.getElem?_eq_some_iff.mp hwt).1
      have k2 : Kp [] H (upd H1 t (.tup [.int (i : Nat), .int wt])) := k1.new ft
      refine ⟨t, _, rfl, SqT.of upd_same, rfl, _, _, rfl, _, _, rfl, rfl, ?_⟩
      generalize upd H1 t (.tup [.int (i : Nat), .int wt]) = H2 at k2 ⊢
      have lj : past.length - 1 - i < past.length := by omega
      obtain ⟨c, gx, hc, _, lc⟩ := al _ _ (show past[past.length - 1 - i]? = some past[past.length - 1 - i] by simp)
      have ep : past.reverse[i]? = some past[past.length - 1 - i] := by
        rw [List.getElem?_reverse (by omega)]
        simp
      have hc2 := k2 _ _ hc (by simp)
      have hra2 := k2 _ _ hra (by simp)
      have hpa2 := k2 _ _ hpa (by simp)
      have bwt := bw _ (List.mem_of_getElem? hwt)
      refine ⟨_, rfl, _, rfl, _, rfl, _, rfl, _, rfl, _, past.length, rfl, .inl ⟨_, SqL.of hpa2, lx.symm⟩, _, _, rfl, rfl, _, rfl, _, _, rfl, rfl, pa, _, _, _, rfl, rfl, SqL.of hpa2, at_of (j := past.length - 1 - i) (by omega) gx, ra, c, true, false, _, _, rfl, SqL.of hra2, SqT.of hc2, fun d hd => lc_zipI (ka := true) (kb := false) V.int (· * ·) hra2 hc2 lr hd ?_ ?_⟩
      · intro u v t' H4 R N hu hv ht' hr'
        have := br u hu
        exact ⟨t', _, rfl, SqT.of upd_same, rfl, _, _, rfl, _, _, rfl, rfl, rfl, yesT ⟨_, rfl, _, rfl, _, _, rfl, rfl, .inl ⟨by omega, by omega⟩, hr'⟩⟩
      · intro H4 h4 k4
        refine ⟨d, _, rfl, SqL.of h4, _, _, rfl, rfl, .inl ⟨by omega, by omega⟩, _, _, rfl, rfl, some (.int (i : Nat)), some (.int wt), ?_, k2.trans k4⟩
        have e : lawP (ws.take (i + 1)) past.reverse r = lawP (ws.take i) past.reverse r + wt * dot r past[past.length - 1 - i] := by
          have el : ∀ k, (List.zipWith (fun w p => w * dot r p) (ws.take k) past.reverse) = (List.zipWith (fun w p => w * dot r p) ws past.reverse).take k := fun k => by
            rw [List.take_zipWith]
            by_cases hk : k ≤ past.reverse.length
            · apply List.ext_getElem?
              intro m
              rw [List.getElem?_zipWith, List.getElem?_zipWith]
              by_cases c : m < k
              · rw [List.getElem?_take_of_lt c (l := past.reverse)]
              · rw [List.getElem?_take_eq_none (by omega)]
            · rw [List.take_of_length_le (l := past.reverse) (by omega)]
          unfold lawP
          rw [el, el, List.take_add_one, List.getElem?_zipWith, hwt, ep, List.sum_append]
          simp
        rw [e]
        rfl
    · rintro σ H1 ⟨o4, o5, rfl, k1⟩
      rw [List.length_map, List.take_length]
      exact ⟨_, rfl, q _ k1⟩
theorem Bd.up {a c : Int} {ns : List Int} (h : Bd a ns) (l : a ≤ c) : Bd c ns := fun x hx => by
  have := h x hx
  omega
/-! ### the sums -/
theorem dot_nil {ts : List Int} : dot [] ts = 0 := rfl
theorem dot_nilr {r : List Int} : dot r [] = 0 := by
  unfold dot
  rw [List.zipWith_nil_right]
  rfl
theorem dot_cons {x y : Int} {r ts : List Int} : dot (x :: r) (y :: ts) = x * y + dot r ts := by
  unfold dot
  rw [List.zipWith_cons_cons, List.sum_cons]
theorem lawP_nil {ps : List (List Int)} {r : List Int} : lawP [] ps r = 0 := rfl
theorem lawP_nilr {ws r : List Int} : lawP ws [] r = 0 := by
  unfold lawP
  rw [List.zipWith_nil_right]
  rfl
theorem lawP_cons {x : Int} {p : List Int} {ws : List Int} {ps : List (List Int)} {r : List Int} : lawP (x :: ws) (p :: ps) r = x * dot r p + lawP ws ps r := by
  unfold lawP
  rw [List.zipWith_cons_cons, List.sum_cons]
theorem dot_madd {f g : Nat → Int} : ∀ (r : List Int) (l : List Nat), dot r (l.map fun j => f j + g j) = dot r (l.map f) + dot r (l.map g)
  | [], _ => rfl
  | _ :: _, [] => by simp only [List.map_nil, dot_nilr]; rfl
  | x :: r, j :: l => by
    have ih := dot_madd (f := f) (g := g) r l
    simp only [List.map_cons, dot_cons, ih, Int.mul_add]
    omega
theorem dot_mmul {f : Nat → Int} {w : Int} : ∀ (r : List Int) (l : List Nat), dot r (l.map fun j => w * f j) = w * dot r (l.map f)
  | [], _ => by simp only [dot_nil, Int.mul_zero]
  | _ :: _, [] => by simp only [List.map_nil, dot_nilr, Int.mul_zero]
  | x :: r, j :: l => by
    have ih := dot_mmul (f := f) (w := w) r l
    simp only [List.map_cons, dot_cons, ih, Int.mul_add, Int.mul_left_comm]
theorem dot_m0 : ∀ (r : List Int) (l : List Nat), dot r (l.map fun _ => (0 : Int)) = 0
  | [], _ => rfl
  | _ :: _, [] => by rw [List.map_nil, dot_nilr]
  | x :: r, j :: l => by rw [List.map_cons, dot_cons, dot_m0 r l, Int.mul_zero]; rfl
theorem range_get {p : List Int} {c : Nat} (h : p.length = c) : ((List.range c).map fun j => p.getD j 0) = p := by
  apply List.ext_getElem
  · simpa using h.symm
  · intro i h1 h2
    simp [List.getD_eq_getElem?_getD, h2]
theorem pull_law {c : Nat} {r : List Int} : ∀ {ws : List Int} {ps : List (List Int)}, (∀ st ∈ ps, st.length = c) → dot r ((List.range c).map fun j => dot ws (ps.map fun st => st.getD j 0)) = lawP ws ps r
  | [], ps, _ => by
    rw [lawP_nil]
    exact dot_m0 r _
  | _ :: _, [], _ => by
    simp only [List.map_nil, dot_nilr]
    rw [lawP_nilr]
    exact dot_m0 r _
  | x :: ws, p :: ps, h => by
    have ih := pull_law (c := c) (r := r) (ws := ws) (ps := ps) fun st hs => h st (List.mem_cons_of_mem _ hs)
    simp only [List.map_cons, dot_cons]
    rw [dot_madd (f := fun j => x * p.getD j 0) (g := fun j => dot ws (ps.map fun st => st.getD j 0)), ih, dot_mmul (f := fun j => p.getD j 0), range_get (h p (by simp)), lawP_cons]
theorem pullR_law {c : Nat} {r ws : List Int} {past : List (List Int)} (h : ∀ st ∈ past, st.length = c) : pullR ws past c r = lawP ws past.reverse r :=
  pull_law fun st hs => h st (List.mem_reverse.mp hs)
theorem lawP_bd {r : List Int} {a : Int} (a0 : 0 ≤ a) (hr : Bd a r) (lr : r.length ≤ 12) : ∀ {ws : List Int} {ps : List (List Int)}, Bd 9 ws → (∀ st ∈ ps, Bd 4 st) → -(ws.length * (9 * (12 * (a * 4)))) ≤ lawP ws ps r ∧ lawP ws ps r ≤ ws.length * (9 * (12 * (a * 4)))
  | [], _, _, _ => by rw [lawP_nil]; simp
  | x :: ws, [], _, _ => by
    rw [lawP_nilr]
    have : (0 : Int) ≤ ((x :: ws).length : Int) * (9 * (12 * (a * 4))) := Int.mul_nonneg (by omega) (by omega)
    omega
  | x :: ws, p :: ps, h1, h2 => by
    have ih := lawP_bd a0 hr lr (ws := ws) (ps := ps) (fun y hy => h1 y (List.mem_cons_of_mem _ hy)) fun st hs => h2 st (List.mem_cons_of_mem _ hs)
    have hx := h1 x (by simp)
    have hd := dot_bd a0 (by decide) hr (h2 p (by simp))
    have l : (r.length : Int) * (a * 4) ≤ 12 * (a * 4) := Int.mul_le_mul_of_nonneg_right (by omega) (by omega)
    have hm := mul_bd hx (y := dot r p) (c := 12 * (a * 4)) ⟨by omega, by omega⟩
    have e : ((x :: ws).length : Int) * (9 * (12 * (a * 4))) = (ws.length : Int) * (9 * (12 * (a * 4))) + 9 * (12 * (a * 4)) := by
      rw [List.length_cons, Int.natCast_succ, Int.add_mul, Int.one_mul]
    rw [lawP_cons, e]
    omega

end
end Sw

set_option maxHeartbeats 2000000
namespace Sw
open PySem PySem.Spec PyProof.Rows L2
section
variable {P : Program} {w : World} {K : PySem.W.Frag} {mg : Str → Option Value} {base : Heap}
/-! ### steps reached, persons held -/
def cnt (r : List Int) (p : Int) : Int := ((r.filter fun x => decide (x ≤ p)).length : Int)
def sp_reached : Sp := fun vs H Q _ => ∃ (a : Addr) (r : List Int) (p : Int), vs = [.ref a, .int p] ∧ H a = some (.tup (r.map V.int)) ∧ r.length ≤ 900 ∧ ∀ H', Kp [] H H' → Q (.int (cnt r p)) H'
theorem ok_reached (T : Tx K mg) : FnOk P w K mg base CX0 1 (He.fAd K ("reached", none)) T.fd_reached p_reached sp_reached := by
  refine T.F_reached.ok sc_reached (fun vs H Q E h => ?_) (fun cdv A outer s H vs Q E hr h => ?_)
  · obtain ⟨_, _, _, rfl, _⟩ := h
    rfl
  · obtain ⟨a, r, p, rfl, ha, l9, q⟩ := h
    refine ⟨_, PSs.nox (pss_one (ps_ret (pe_callB call_len (by rfl) T.b_len (by decide +kernel) (pa_cons (pe_lc (own := [("step", 2)]) (g := (gName 2)) rfl sc_reached.nd (pi_tup (pv 0)) (blkOk_by (own := [("step", 2)]) (N := n_reached) (sc := defScope s_reached) (by decide +kernel)) (fun _ _ _ _ _ => (pg_name (i := 2) sc_reached.nd rfl (by first | exact Or.inl rfl | exact Or.inr rfl))) (fun _ _ _ _ _ => pts_one (pt_cmpR op_le (pv 2) (pv 1) (nomark _))) (fun _ _ _ _ _ => (pv 2))) pa_nil)))), ?_⟩
    refine ⟨_, rfl, a, rfl, ⟨_, SqT.of ha⟩, fun d hd => lc_tup (K := K) (a := a) (xs := r.map V.int) (fun j H1 => H1 d = some (.lst (((r.take j).filter fun x => decide (x ≤ p)).map V.int)) ∧ Kp [] H H1) ?_ ?_ ?_ ?_⟩
    · exact ⟨by rw [upd_same]; rfl, Kp.rfl'.new hd⟩
    · rintro j H1 _ ⟨_, k1⟩
      exact SqT.of (k1 _ _ ha (by simp))
    · rintro j y H1 hj ⟨h1, k1⟩
      rw [List.getElem?_map] at hj
      obtain ⟨z, hz, rfl⟩ := Option.map_eq_some_iff.mp hj
      have e : r.take (j + 1) = r.take j ++ [z] := by rw [List.take_add_one, hz]; rfl
      refine ⟨rfl, _, rfl, _, rfl, _, _, rfl, rfl, _, rfl, ?_⟩
      by_cases c : z ≤ p
      · refine iteC (by simp [c]) ⟨_, rfl, _, h1, ?_, ?_, k1.own hd⟩
        · rw [List.length_map]
          exact small1000 (Nat.le_trans (List.length_filter_le ..) (by rw [List.length_take]; omega))
        · rw [upd_same, e, List.filter_append]
          simp [c]
      · refine iteN (by simp [c]) ⟨?_, k1⟩
        rw [h1, e, List.filter_append]
        simp [c]
    · rintro H1 ⟨h1, k1⟩
      rw [List.length_map, List.take_length] at h1
      exact ⟨_, _, rfl, .inl ⟨_, SqL.of h1, (List.length_map ..).symm⟩, q _ k1⟩
/-! who is held: pairs of a person and its posture -/
abbrev kvI (fx : List (Int × Int)) : List (Key × V) := fx.map fun p => (.inl p.1, .int p.2)
def lk (fx : List (Int × Int)) (i : Int) : Option Int := (fx.find? fun p => decide (p.1 = i)).map (·.2)
theorem valV_kvI (i : Int) : ∀ fx : List (Int × Int), valV (kvI fx) (.inl i) = (lk fx i).map V.int
  | [] => rfl
  | p :: fx => by
    have ih := valV_kvI i fx
    unfold valV lk at ih ⊢
    by_cases c : p.1 = i
    · simp [c]
    · have c' : ¬ (Sum.inl p.1 : Key) = .inl i := fun z => c (Sum.inl.inj z)
      simpa [kvI, List.find?_cons, c] using ih
def hold (fx : List (Int × Int)) (st : List Int) : List Int := st.mapIdx fun i x => (lk fx (i : Nat)).getD x
theorem hold_len {fx : List (Int × Int)} {st : List Int} : (hold fx st).length = st.length := by simp [hold]
theorem hold_at {fx : List (Int × Int)} {st : List Int} {i : Nat} {x : Int} (h : st[i]? = some x) : (hold fx st)[i]? = some ((lk fx (i : Nat)).getD x) := by
  unfold hold
  rw [List.getElem?_mapIdx, h]
  rfl
def sp_as_held (K : PySem.W.Frag) : Sp := fun vs H Q _ => ∃ (s g : Addr) (kd : Bool) (st : List Int) (fx : List (Int × Int)), vs = [.ref s, .ref g] ∧ H s = some (sqo kd (st.map V.int)) ∧ H g = some (.dK (kvI fx)) ∧ st.length ≤ 900 ∧
  ∀ (p : Addr) (H' : Hp), H p = none → Kp [] H H' → H' p = some (.tup ((hold fx st).map V.int)) → Q (.ref p) H'
theorem ok_as_held (T : Tx K mg) : FnOk P w K mg base CX0 1 (He.fAd K ("as_held", none)) T.fd_as_held p_as_held (sp_as_held K) := by
  refine T.F_as_held.ok sc_as_held (fun vs H Q E h => ?_) (fun cdv A outer s H vs Q E hr h => ?_)
  · obtain ⟨_, _, _, _, _, rfl, _⟩ := h
    rfl
  · obtain ⟨s, g, kd, st, fx, rfl, hs, hg, l9, q⟩ := h
    refine ⟨_, PSs.nox (pss_one (ps_ret (pe_callTy call_tuple_of (by rfl) T.b_tuple (by decide +kernel) (pa_cons (pe_lc (own := [("person", 2), ("posture", 3)]) (g := (gTup K 2 (gCons (gName 2) (gCons (gName 3) gNil)))) (tt := tYes) rfl sc_as_held.nd (pi_enumS (by rfl) T.b_enumerate (pa_cons (pv 0) pa_nil)) (blkOk_by (own := [("person", 2), ("posture", 3)]) (N := n_as_held) (sc := defScope s_as_held) (by decide +kernel)) (fun _ _ _ _ _ => (pg_tup rfl (pgs_cons (pg_name (i := 2) sc_as_held.nd rfl (by first | exact Or.inl rfl | exact Or.inr rfl)) (pgs_cons (pg_name (i := 3) sc_as_held.nd rfl (by first | exact Or.inl rfl | exact Or.inr rfl)) pgs_nil)))) (fun _ _ _ _ _ => pts_nil) (fun _ _ _ _ _ => (pe_dget2 (hu_of hr) (pv 1) (pv 2) (pv 3) ⟨rfl, rfl, rfl, rfl⟩))) pa_nil)))), ?_⟩
    refine ⟨_, rfl, s, kd, _, rfl, sqo_k hs, fun d hd => lc_it (walk_enumS (K := K) (a := s) (kd := kd) (xs := st.map V.int)) (fun j H1 => H1 d = some (.lst (((hold fx st).take j).map V.int)) ∧ Kp [] H H1) ?_ ?_ ?_ ?_⟩
    · exact ⟨by rw [upd_same]; rfl, Kp.rfl'.new hd⟩
    · rintro j H1 _ ⟨_, k1⟩
      exact sqo_k (k1 _ _ hs (by simp))
    · rintro j y H1 H2 hj ⟨h1, k1⟩ ⟨t, u, v, rfl, ft, rfl, hu, hv⟩
      cases hu
      simp only [List.getElem?_map] at hv
      obtain ⟨x, hx, rfl⟩ := Option.map_eq_some_iff.mp hv
      have k2 : Kp [] H (upd H1 t (.tup [.int (j : Nat), .int x])) := k1.new ft
      have hg2 := k2 _ _ hg (by simp)
      refine ⟨t, _, rfl, SqT.of upd_same, rfl, _, _, rfl, _, _, rfl, rfl, rfl, yesT ⟨_, rfl, g, rfl, .inl ⟨_, .inl hg2⟩, _, rfl, _, rfl, _, .inl ⟨_, .inl (j : Nat), .inl hg2, rfl, rfl⟩, _, by rw [upd_ne (ne_of_none h1 ft)]; exact h1, ?_, ?_, k2.own hd⟩⟩
      · rw [List.length_map]
        exact small1000 (by rw [List.length_take, hold_len]; omega)
      · rw [upd_same, List.take_add_one, hold_at hx, valV_kvI]
        cases lk fx (j : Nat) <;> simp
    · rintro H1 ⟨h1, k1⟩
      rw [List.length_map, ← hold_len (fx := fx), List.take_length] at h1
      exact ⟨d, _, rfl, .inl ⟨SqL.of h1, fun l hl => q l _ (k1.free hl (by simp)) (k1.new hl) upd_same⟩⟩

end
end Sw

set_option maxHeartbeats 2000000
namespace Sw
open PySem PySem.Spec PyProof.Rows L2
section
variable {P : Program} {w : World} {K : PySem.W.Frag} {mg : Str → Option Value} {base : Heap}
theorem sqK_keep {kd : Bool} {H H' : Hp} {a : Addr} {xs : List V} (h : SqK kd K H a xs) (k : Kp [] H H') : SqK kd K H' a xs := by
  cases kd with
  | true => exact k.same.seq h
  | false =>
    rcases (show SqT K H a xs from h) with (h | ⟨o, h⟩) | h
    · exact .inl (.inl (k _ _ h (by simp)))
    · exact .inl (.inr ⟨o, k _ _ h (by simp)⟩)
    · exact .inr h
/-- pairs of a person and its posture, each a tuple -/
structure PairsAt (K : PySem.W.Frag) (H : Hp) (a : Addr) (kd : Bool) (fx : List (Int × Int)) : Prop where
  ex : ∃ ts : List Addr, SqK kd K H a (ts.map V.ref) ∧ ts.length = fx.length ∧ ∀ (i : Nat) (t : Addr) (p : Int × Int), ts[i]? = some t → fx[i]? = some p → H t = some (.tup [.int p.1, .int p.2])
theorem PairsAt.keep {H H' : Hp} {a : Addr} {kd : Bool} {fx : List (Int × Int)} (h : PairsAt K H a kd fx) (k : Kp [] H H') : PairsAt K H' a kd fx := by
  obtain ⟨ts, h1, h2, h3⟩ := h.ex
  exact ⟨ts, sqK_keep h1 k, h2, fun i t p e1 e2 => k _ _ (h3 i t p e1 e2) (by simp)⟩
theorem lk_none {i : Int} : ∀ {fx : List (Int × Int)}, i ∉ fx.map (·.1) → lk fx i = none
  | [], _ => rfl
  | p :: fx, h => by
    have ih := lk_none (fx := fx) fun m => h (List.mem_cons_of_mem _ m)
    have ne : ¬ p.1 = i := fun z => h (by rw [← z]; exact List.mem_cons_self ..)
    unfold lk at ih ⊢
    simpa [List.find?_cons, ne] using ih
theorem putK_kvI {fx : List (Int × Int)} {p : Int × Int} (h : p.1 ∉ fx.map (·.1)) : putK (kvI fx) (.inl p.1) (.int p.2) = kvI (fx ++ [p]) := by
  rw [putK_new _ (by rw [valV_kvI, lk_none h]; rfl)]
  simp [kvI]
theorem nd_take {α : Type} {x : α} : ∀ {l : List α} {j : Nat}, l.Nodup → l[j]? = some x → x ∉ l.take j
  | [], _, _, e => by simp at e
  | a :: l, 0, _, _ => by simp
  | a :: l, j + 1, h, e => fun m => by
    obtain ⟨h1, h2⟩ := List.nodup_cons.mp h
    rw [List.getElem?_cons_succ] at e
    rw [List.take_succ_cons] at m
    rcases List.mem_cons.mp m with z | z
    · rw [← z] at h1
      exact h1 (List.mem_of_getElem? e)
    · exact nd_take h2 e z
def sp_grips (K : PySem.W.Frag) : Sp := fun vs H Q _ => ∃ (a : Addr) (kd : Bool) (fx : List (Int × Int)), vs = [.ref a] ∧ PairsAt K H a kd fx ∧ (fx.map (·.1)).Nodup ∧ fx.length ≤ 900 ∧
  ∀ (d : Addr) (H' : Hp), H d = none → Kp [] H H' → H' d = some (.dK (kvI fx)) → Q (.ref d) H'
theorem ok_grips (T : Tx K mg) : FnOk P w K mg base CX0 1 (He.fAd K ("grips_of", none)) T.fd_grips_of p_grips_of (sp_grips K) := by
  refine T.F_grips_of.ok sc_grips_of (fun vs H Q E h => ?_) (fun cdv A outer s H vs Q E hr h => ?_)
  · obtain ⟨_, _, _, rfl, _⟩ := h
    rfl
  · obtain ⟨a, kd, fx, rfl, hP, nd, l9, q⟩ := h
    obtain ⟨ts, ha, lt, al⟩ := hP.ex
    refine ⟨_, PSs.nox (pss_one (ps_ret (pe_dc (own := [("person", 1), ("posture", 2)]) (g := (gTup K 2 (gCons (gName 1) (gCons (gName 2) gNil)))) (tt := tYes) rfl sc_grips_of.nd (pi_sq (pv 0)) (blkOk_by (own := [("person", 1), ("posture", 2)]) (N := n_grips_of) (sc := defScope s_grips_of) (by decide +kernel)) (fun _ _ _ _ _ => (pg_tup rfl (pgs_cons (pg_name (i := 1) sc_grips_of.nd rfl (by first | exact Or.inl rfl | exact Or.inr rfl)) (pgs_cons (pg_name (i := 2) sc_grips_of.nd rfl (by first | exact Or.inl rfl | exact Or.inr rfl)) pgs_nil)))) (fun _ _ _ _ _ => pts_nil) (fun _ _ _ _ _ => (pv 1)) (fun _ _ _ _ _ => (pv 2))))), ?_⟩
    refine ⟨_, rfl, a, kd, _, rfl, ha, fun d hd => dc_it (walk_sq (K := K) (a := a) (kd := kd) (xs := ts.map V.ref)) (fun j H1 => H1 d = some (.dK (kvI (fx.take j))) ∧ Kp [] H H1) ?_ ?_ ?_ ?_⟩
    · exact ⟨by rw [upd_same]; rfl, Kp.rfl'.new hd⟩
    · rintro j H1 _ ⟨_, k1⟩
      exact sqK_keep ha k1
    · rintro j y H1 H2 hj ⟨h1, k1⟩ ⟨rfl, hy⟩
      rw [List.getElem?_map] at hy
      obtain ⟨t, ht, rfl⟩ := Option.map_eq_some_iff.mp hy
      have lj : j < fx.length := by
        rw [List.length_map] at hj
        omega
      have ep : fx[j]? = some fx[j] := by simp
      have h2 := k1 _ _ (al j t _ ht ep) (by simp)
      have e : fx.take (j + 1) = fx.take j ++ [fx[j]] := by rw [List.take_add_one, ep]; rfl
      have nm : fx[j].1 ∉ (fx.take j).map (·.1) := by
        rw [List.map_take]
        exact nd_take nd (by rw [List.getElem?_map, ep]; rfl)
      refine ⟨t, _, rfl, SqT.of h2, rfl, _, _, rfl, _, _, rfl, rfl, rfl, yesT ⟨_, rfl, _, rfl, _, .inl fx[j].1, rfl, h1, ?_, ?_, k1.own hd⟩⟩
      · rw [List.length_map, List.length_take]
        exact small1000 (by omega)
      · rw [upd_same, putK_kvI nm, e]
    · rintro H1 ⟨h1, k1⟩
      rw [List.length_map, lt, List.take_length] at h1
      exact q d _ hd k1 h1
/-- the next standing: rows, steps, weights, who is held -/
def nxt (rows steps : List (List Int)) (ws : List Int) (fx : List (Int × Int)) (past : List (List Int)) : List Int := hold fx (List.zipWith cnt steps (rows.map (lawP ws past.reverse)))
def sp_leant (K : PySem.W.Frag) : Sp := fun vs H Q _ => ∃ (x a g : Addr) (rows steps : List (List Int)) (ws : List Int) (past : List (List Int)) (fx : List (Int × Int)) (bs : List Addr) (w c : Nat), vs = [.ref x, .ref a, .ref g] ∧ HallS K bs H w x rows steps ws ∧ PastAt H a past ∧ H g = some (.dK (kvI fx)) ∧ 1 ≤ past.length ∧ past.length ≤ 5 ∧ (∀ st ∈ past, st.length = c) ∧ rows.length = c ∧ steps.length = c ∧ c ≤ 900 ∧ w ≤ 900 ∧ Bd 1000 ws ∧ (∀ r ∈ rows, Bd 1000 r) ∧
  ∀ (p : Addr) (H' : Hp), H p = none → Kp [] H H' → H' p = some (.tup ((nxt rows steps ws fx past).map V.int)) → Q (.ref p) H'
theorem ok_leant (T : Tx K mg) : FnOk P w K mg base CX0 4 (He.fAd K ("leant", none)) T.fd_leant p_leant (sp_leant K) := by
  have G_Hall_steps := ok_gett (P := P) (w := w) (base := base) T
  have G_pulls := ok_pulls (P := P) (w := w) (base := base) T
  have G_reached := ok_reached (P := P) (w := w) (base := base) T
  have G_as_held := ok_as_held (P := P) (w := w) (base := base) T
  refine T.F_leant.ok sc_leant (fun vs H Q E h => ?_) (fun cdv A outer s H vs Q E hr h => ?_)
  · obtain ⟨_, _, _, _, _, _, _, _, _, _, _, rfl, _⟩ := h
    rfl
  · obtain ⟨x, a, g, rows, steps, ws, past, fx, bs, w', c, rfl, hA, hP, hg, p1, p5, lst, lr, ls, c9, lw, bw, br, q⟩ := h
    obtain ⟨dx, a1, a2, a3, hx, nx, d1, d2, d3⟩ := hA.ex
    refine ⟨_, PSs.nox (pss_cons (ps_setLc (i := 3) (own := [("steps", 4), ("pull", 5)]) (g := (gTup K 2 (gCons (gName 4) (gCons (gName 5) gNil)))) (tt := tYes) rfl sc_leant.nd rfl rfl (sw_true rfl rfl rfl (by decide +kernel)) (pi_zipS (by rfl) T.b_zip (pa_cons (pe_meth0 (pv 0) T.cl_Hall T.m_Hall_steps G_Hall_steps (hr.mono (by first | decide | omega)) T.bd_Hall_steps .nil pass0) (pa_cons (pe_call G_pulls (hr.mono (by first | decide | omega)) rfl T.g_pulls T.F_pulls.kp T.bd_pulls .nil pass0 (pa_cons (pv 0) (pa_cons (pv 1) pa_nil))) pa_nil))) (blkOk_by (own := [("steps", 4), ("pull", 5)]) (N := n_leant) (sc := defScope s_leant) (by decide +kernel)) (fun _ _ _ _ _ => (pg_tup rfl (pgs_cons (pg_name (i := 4) sc_leant.nd rfl (by first | exact Or.inl rfl | exact Or.inr rfl)) (pgs_cons (pg_name (i := 5) sc_leant.nd rfl (by first | exact Or.inl rfl | exact Or.inr rfl)) pgs_nil)))) (fun _ _ _ _ _ => pts_nil) (fun _ _ _ _ _ => (pe_call G_reached (hr.mono (by first | decide | omega)) rfl T.g_reached T.F_reached.kp T.bd_reached .nil pass0 (pa_cons (pv 4) (pa_cons (pv 5) pa_nil)))))
      (pss_one (ps_ret (pe_call G_as_held (hr.mono (by first | decide | omega)) rfl T.g_as_held T.F_as_held.kp T.bd_as_held .nil pass0 (pa_cons (pv 3) (pa_cons (pv 2) pa_nil)))))), ?_⟩
    refine ⟨_, rfl, x, dx, _, rfl, hx, flds_no _ _ _ (by decide +kernel) (by decide +kernel) (by decide +kernel), x, dx, a1, a2, a3, rfl, hx, ?_⟩
    refine ⟨_, rfl, _, rfl, x, a, rows, steps, ws, past, bs, w', c, rfl, hA, hP, p1, p5, lst, lr, c9, lw, bw, br, fun pu H1 fpu k1 hpu => ?_⟩
    have ep : rows.map (pullR ws past c) = rows.map (lawP ws past.reverse) := List.map_congr_left fun r _ => pullR_law lst
    rw [ep] at hpu
    cases d2.keep (k1.sub (by simp)) with
    | @tup _ _ xs _ h4 n4 l4 t4 =>
    have len4 := DA.len t4
    rw [List.length_map] at len4
    have lp : (rows.map (lawP ws past.reverse)).length = c := by rw [List.length_map]; exact lr
    refine ⟨a2, pu, false, false, _, _, rfl, SqT.of h4, SqT.of hpu, fun d hd => lc_it (walkZ (K := K) (a := a2) (b := pu) (ka := false) (kb := false) (n := c) (xs := xs) (ys := (rows.map (lawP ws past.reverse)).map V.int) (by rw [List.length_map, lp]; omega)) (fun j H2 => H2 d = some (.lst (((List.zipWith cnt steps (rows.map (lawP ws past.reverse))).take j).map V.int)) ∧ Kp [] H1 H2) ?_ ?_ ?_ ?_⟩
    · exact ⟨by rw [upd_same]; rfl, Kp.rfl'.new hd⟩
    · rintro j H2 _ ⟨_, k2⟩
      exact ⟨SqT.of (k2 _ _ h4 (by simp)), SqT.of (k2 _ _ hpu (by simp))⟩
    · rintro j y H2 H3 hj ⟨h2, k2⟩ ⟨t, u, v, rfl, ft, rfl, hu, hv⟩
      have hu : xs[j]? = some u := hu
      obtain ⟨r, ra, hr2, rfl, hR, lr'⟩ := t4.trowAt hu
      simp only [List.getElem?_map (f := V.int)] at hv
      obtain ⟨pl, hpl, rfl⟩ := Option.map_eq_some_iff.mp hv
      have k3 : Kp [] H1 (upd H2 t (.tup [.ref ra, .int pl])) := k2.new ft
      refine ⟨t, _, rfl, SqT.of upd_same, rfl, _, _, rfl, _, _, rfl, rfl, rfl, yesT ⟨_, rfl, _, rfl, ra, r, pl, rfl, k3 _ _ hR (by simp), by omega, fun H4 k4 => ?_⟩⟩
      refine ⟨_, k4 _ _ (by rw [upd_ne (ne_of_none h2 ft)]; exact h2) (by simp), ?_, ?_, (k3.trans k4).own hd⟩
      · rw [List.length_map, List.length_take, List.length_zipWith]
        exact small1000 (by omega)
      · have e : (List.zipWith cnt steps (rows.map (lawP ws past.reverse)))[j]? = some (cnt r pl) := by
          rw [List.getElem?_zipWith, hr2, hpl]
        rw [upd_same, List.take_add_one, e]
        simp
    · rintro H2 ⟨h2, k2⟩
      have e : (List.zipWith cnt steps (rows.map (lawP ws past.reverse))).take c = List.zipWith cnt steps (rows.map (lawP ws past.reverse)) := by
        apply List.take_of_length_le
        rw [List.length_zipWith]
        omega
      rw [e] at h2
      have k02 := k1.trans k2
      refine ⟨_, rfl, _, rfl, d, g, true, _, fx, rfl, h2, k02 _ _ hg (by simp), by rw [List.length_zipWith]; omega, fun p H3 fp k3 hp => q p H3 (k02.free fp (by simp)) (k02.trans k3) hp⟩

end
end Sw

set_option maxHeartbeats 2000000
namespace Sw
open PySem PySem.Spec PyProof.Rows L2
section
variable {P : Program} {w : World} {K : PySem.W.Frag} {mg : Str → Option Value} {base : Heap}
theorem zip_take {α β γ : Type} {f : α → β → γ} : ∀ {a : List α} {b : List β} {m : Nat}, a.length ≤ m → List.zipWith f a (b.take m) = List.zipWith f a b
  | [], _, _, _ => by simp
  | _ :: _, [], _, _ => by simp
  | x :: a, y :: b, 0, h => by simp at h
  | x :: a, y :: b, m + 1, h => by
    rw [List.take_succ_cons, List.zipWith_cons_cons, List.zipWith_cons_cons, zip_take (by simpa using h)]
theorem lawP_drop {ws r : List Int} {F : List (List Int)} {i : Nat} (h : ws.length + i ≤ F.length) : lawP ws (F.drop i).reverse r = lawP ws F.reverse r := by
  unfold lawP
  rw [List.reverse_drop, zip_take (by omega)]
theorem nxt_drop {rows steps : List (List Int)} {ws : List Int} {fx : List (Int × Int)} {F : List (List Int)} {i : Nat} (h : ws.length + i ≤ F.length) : nxt rows steps ws fx (F.drop i) = nxt rows steps ws fx F := by
  unfold nxt
  rw [List.map_congr_left fun r _ => lawP_drop (r := r) h]
def goR (rows steps : List (List Int)) (ws : List Int) (fx : List (Int × Int)) : Nat → List (List Int) → List (List Int)
  | 0, f => f
  | n + 1, f => goR rows steps ws fx n f ++ [nxt rows steps ws fx (goR rows steps ws fx n f)]
theorem goR_len {rows steps : List (List Int)} {ws : List Int} {fx : List (Int × Int)} {f : List (List Int)} : ∀ n, (goR rows steps ws fx n f).length = f.length + n
  | 0 => rfl
  | n + 1 => by
    unfold goR
    rw [List.length_append, goR_len n, List.length_singleton]
    omega
theorem lk_mem {fx : List (Int × Int)} {i v : Int} (h : lk fx i = some v) : (i, v) ∈ fx := by
  unfold lk at h
  obtain ⟨p, hp, rfl⟩ := Option.map_eq_some_iff.mp h
  have h1 := List.mem_of_find?_eq_some hp
  have h2 : p.1 = i := by simpa using List.find?_some hp
  rw [← h2]
  exact h1
theorem hold_bd {fx : List (Int × Int)} {st : List Int} {m : Int} (h1 : ∀ p ∈ fx, -m ≤ p.2 ∧ p.2 ≤ m) (h2 : Bd m st) : Bd m (hold fx st) := fun y hy => by
  obtain ⟨i, hi, e⟩ := List.getElem_of_mem hy
  rw [hold_len] at hi
  have z := hold_at (fx := fx) (show st[i]? = some st[i] by simp)
  rw [List.getElem?_eq_getElem (by rw [hold_len]; exact hi), e] at z
  rw [Option.some.inj z]
  cases c : lk fx (i : Nat) with
  | none => exact h2 _ (List.getElem_mem hi)
  | some v => exact h1 _ (lk_mem c)
theorem nxt_len {rows steps : List (List Int)} {ws : List Int} {fx : List (Int × Int)} {f : List (List Int)} (h : steps.length = rows.length) : (nxt rows steps ws fx f).length = rows.length := by
  unfold nxt
  rw [hold_len, List.length_zipWith, List.length_map]
  omega
theorem zip_bd' {α β : Type} {f : α → β → Int} {a : Int} : ∀ {r : List α} {ts : List β}, (∀ x ∈ r, ∀ y ∈ ts, -a ≤ f x y ∧ f x y ≤ a) → Bd a (List.zipWith f r ts)
  | [], _, _ => fun x h => by simp at h
  | _ :: _, [], _ => fun x h => by simp at h
  | p :: r, q :: ts, h => fun x hx => by
    rw [List.zipWith_cons_cons] at hx
    rcases List.mem_cons.mp hx with z | z
    · rw [z]
      exact h p (by simp) q (by simp)
    · exact zip_bd' (fun x hx y hy => h x (List.mem_cons_of_mem _ hx) y (List.mem_cons_of_mem _ hy)) x z
theorem nxt_bd {rows steps : List (List Int)} {ws : List Int} {fx : List (Int × Int)} {f : List (List Int)} {m : Int} (h1 : ∀ p ∈ fx, -m ≤ p.2 ∧ p.2 ≤ m) (h2 : ∀ r ∈ steps, (r.length : Int) ≤ m) (m0 : 0 ≤ m) : Bd m (nxt rows steps ws fx f) := by
  refine hold_bd h1 (zip_bd' ?_)
  intro r hr p _
  have l := List.length_filter_le (fun x => decide (x ≤ p)) r
  have := h2 r hr
  unfold cnt
  omega
theorem goR_all {rows steps : List (List Int)} {ws : List Int} {fx : List (Int × Int)} {f : List (List Int)} (hl : steps.length = rows.length) (h : ∀ st ∈ f, st.length = rows.length) : ∀ n, ∀ st ∈ goR rows steps ws fx n f, st.length = rows.length
  | 0 => h
  | n + 1 => fun st hs => by
    unfold goR at hs
    rcases List.mem_append.mp hs with z | z
    · exact goR_all hl h n st z
    · rw [List.mem_singleton.mp z, nxt_len hl]

end
end Sw

set_option maxHeartbeats 2000000
namespace Sw
open PySem PySem.Spec PyProof.Rows L2
section
variable {P : Program} {w : World} {K : PySem.W.Frag} {mg : Str → Option Value} {base : Heap}
def sp_history (K : PySem.W.Frag) : Sp := fun vs H Q _ => ∃ (x a h : Addr) (n : Nat) (kh : Bool) (rows steps : List (List Int)) (ws : List Int) (past : List (List Int)) (fx : List (Int × Int)) (bs cs : List Addr) (w c : Nat), vs = [.ref x, .ref a, .int n, .ref h] ∧ HallS K bs H w x rows steps ws ∧ PastAt H a past ∧ PairsAt K H h kh fx ∧ (fx.map (·.1)).Nodup ∧ fx.length ≤ 900 ∧ 1 ≤ past.length ∧ past.length ≤ 5 ∧ ws.length ≤ past.length ∧ (∀ st ∈ past, st.length = c ∧ Bd 900 st) ∧ rows.length = c ∧ steps.length = c ∧ c ≤ 12 ∧ w ≤ 900 ∧ n ≤ 2000 ∧ Bd 1000 ws ∧ (∀ r ∈ rows, Bd 1000 r) ∧ (∀ r ∈ steps, r.length ≤ 900) ∧ (∀ p ∈ fx, -900 ≤ p.2 ∧ p.2 ≤ 900) ∧ (∀ b ∈ cs, ∃ o, H b = some o) ∧
  ∀ (q : Addr) (H' : Hp), H q = none → Kp [] H H' → D cs H' (12 + n) 2 (.ref q) (dLT (goR rows steps ws fx n (past.map (hold fx)))) → Q (.ref q) H'
theorem ok_history (T : Tx K mg) : FnOk P w K mg base CX0 5 (He.fAd K ("history", none)) T.fd_history p_history (sp_history K) := by
  have G_grips_of := ok_grips (P := P) (w := w) (base := base) T
  have G_leant := ok_leant (P := P) (w := w) (base := base) T
  have G_as_held := ok_as_held (P := P) (w := w) (base := base) T
  refine T.F_history.ok sc_history (fun vs H Q E h => ?_) (fun cdv A outer s H vs Q E hr h => ?_)
  · obtain ⟨_, _, _, _, _, _, _, _, _, _, _, _, _, _, rfl, _⟩ := h
    rfl
  · obtain ⟨x, a, h, n, kh, rows, steps, ws, past, fx, bs, cs, w', c, rfl, hA, hP, hF, nd, l9, p1, p5, lwp, lst, lr, ls, c12, lw, n2, bw, br, bst, bf, sb, q⟩ := h
    have fresh : ∀ {H1 : Hp} {p : Addr}, Kp [] H H1 → H1 p = none → p ∉ cs := fun {H1 p} k hp m => by
      obtain ⟨o, e⟩ := sb p m
      rw [k _ _ e (by simp)] at hp
      cases hp
    refine ⟨_, PSs.nox (pss_cons (ps_set (i := 4) sc_history.nd rfl (by first | exact Or.inl rfl | exact Or.inr rfl) (pe_call G_grips_of (hr.mono (by first | decide | omega)) rfl T.g_grips_of T.F_grips_of.kp T.bd_grips_of .nil pass0 (pa_cons (pv 3) pa_nil)))
      (pss_cons (ps_setLc (i := 5) (own := [("standing", 7)]) (g := (gName 7)) (tt := tYes) rfl sc_history.nd rfl rfl (sw_true rfl rfl rfl (by decide +kernel)) (pi_sq (pv 1)) (blkOk_by (own := [("standing", 7)]) (N := n_history) (sc := defScope s_history) (by decide +kernel)) (fun _ _ _ _ _ => (pg_name (i := 7) sc_history.nd rfl (by first | exact Or.inl rfl | exact Or.inr rfl))) (fun _ _ _ _ _ => pts_nil) (fun _ _ _ _ _ => (pe_call G_as_held (hr.mono (by first | decide | omega)) rfl T.g_as_held T.F_as_held.kp T.bd_as_held .nil pass0 (pa_cons (pv 7) (pa_cons (pv 4) pa_nil)))))
      (pss_cons (ps_for PassesOwn.never rfl (pi_range1 (by rfl) T.b_range (pa_cons (pv 2) pa_nil)) (pg_name (i := 6) sc_history.nd rfl (by first | exact Or.inl rfl | exact Or.inr rfl))
      (pss_one (ps_expr (pe_bm PySem.F.plainAttrs_list PySem.F.slot_list_append PySem.F.type_list_append mt_append (pv 5) (pa_cons (pe_call G_leant (hr.mono (by first | decide | omega)) rfl T.g_leant T.F_leant.kp T.bd_leant .nil pass0 (pa_cons (pv 0) (pa_cons (pe_slice sl_list (pv 5) (po_some (pv 6)) po_none) (pa_cons (pv 4) pa_nil)))) pa_nil)))))
      (pss_one (ps_ret (pv 5)))))), ?_⟩
    refine ⟨_, rfl, h, kh, fx, rfl, hF, nd, l9, fun g H1 fg k1 hg => ?_⟩
    obtain ⟨kd, as, ha, la, al⟩ := (hP.keep k1).ex
    refine ⟨_, rfl, a, kd, _, rfl, sqo_k ha, fun d hd => lc_it (walk_sq (K := K) (a := a) (kd := kd) (xs := as.map V.ref)) (fun j H2 => ∃ ys : List V, H2 d = some (.lst ys) ∧ DA (d :: cs) H2 (12 + n) 1 ys (((past.map (hold fx)).take j).map dT) ∧ Kp [] H1 H2) ?_ ?_ ?_ ?_⟩
    · exact ⟨[], upd_same, .nil, Kp.rfl'.new hd⟩
    · rintro j H2 _ ⟨_, _, _, k2⟩
      exact sqo_k (k2 _ _ ha (by simp))
    · rintro j y H2 H2' hj ⟨ys, h2, d2, k2⟩ ⟨rfl, hy⟩
      rw [List.getElem?_map] at hy
      obtain ⟨t, ht, rfl⟩ := Option.map_eq_some_iff.mp hy
      have lj : j < past.length := by
        rw [List.length_map] at hj
        omega
      have es : past[j]? = some past[j] := by simp
      obtain ⟨lsj, bsj⟩ := lst _ (List.getElem_mem lj)
      refine ⟨rfl, yesT ⟨_, rfl, _, rfl, t, g, false, past[j], fx, rfl, k2 _ _ (al j t _ ht es) (by simp), k2 _ _ hg (by simp), by omega, fun p H3 fp k3 hp => ?_⟩⟩
      have h3 := k3 _ _ h2 (by simp)
      have npd : p ≠ d := (ne_of_none h2 fp).symm
      have npc := fresh (k1.trans k2) fp
      have kd' : Kp (d :: cs) H3 (upd H3 d (.lst (ys ++ [.ref p]))) := Kp.rfl'.put (by simp)
      have ly : ys.length ≤ 5 := by
        rw [DA.len d2, List.length_map, List.length_take, List.length_map]
        omega
      refine ⟨_, h3, small1000 (by omega), ys ++ [.ref p], upd_same, ?_, (k2.trans k3).own hd⟩
      have e : (past.map (hold fx)).take (j + 1) = (past.map (hold fx)).take j ++ [hold fx past[j]] := by
        rw [List.take_add_one, List.getElem?_map, es]
        rfl
      rw [e, List.map_append]
      refine ((d2.keep (k3.sub (by simp))).keep kd').app (DA.one ((D.tup (k := 0) hp (by simp [npd, npc]) (by rw [List.length_map, hold_len]; omega) (DA.ofInts fun x hx => ?_)).keep kd'))
      have := hold_bd bf bsj x hx
      omega
    · rintro H2 ⟨ys, h2, d2, k2⟩
      have k02 := k1.trans k2
      have ndc := fresh k1 hd
      rw [List.length_map, la, ← List.length_map (f := hold fx) (as := past), List.take_length] at d2
      refine ⟨_, rfl, _, rfl, by omega, by omega, for_range (n := ((n : Nat) : Int).toNat) (fun i σ H3 => ∃ (o6 : Option V) (ys : List V), σ = [some (.ref x), some (.ref a), some (.int (n : Nat)), some (.ref h), some (.ref g), some (.ref d), o6, none] ∧ H3 d = some (.lst ys) ∧ DA (d :: cs) H3 (12 + n) 1 ys ((goR rows steps ws fx i (past.map (hold fx))).map dT) ∧ Kp [] H H3 ∧ H3 g = some (.dK (kvI fx))) ?_ ?_ ?_⟩
      · exact ⟨_, ys, rfl, h2, d2, k02, k2 _ _ hg (by simp)⟩
      · rintro i σ H3 hi ⟨o6, zs, rfl, h3, d3, k3, hg3⟩
        refine gn ?_
        have hin : i < n := by omega
        have lF := goR_len (rows := rows) (steps := steps) (ws := ws) (fx := fx) (f := past.map (hold fx)) i
        rw [List.length_map] at lF
        have lz : zs.length = past.length + i := by rw [DA.len d3, List.length_map, lF]
        have alF : ∀ st ∈ goR rows steps ws fx i (past.map (hold fx)), st.length = c := by
          rw [← lr]
          refine goR_all (by omega) (fun st hs => ?_) i
          obtain ⟨st', hs', rfl⟩ := List.mem_map.mp hs
          rw [hold_len, lr]
          exact (lst st' hs').1
        generalize hF' : goR rows steps ws fx i (past.map (hold fx)) = F at d3 lF alF
        refine ⟨_, rfl, .inl ⟨rfl, _, SqL.of h3⟩, _, rfl, _, rfl, ?_⟩
        refine ⟨_, rfl, _, rfl, d, zs, rfl, SqL.of h3, fun p2 hp2 => ?_⟩
        have ec : cutV zs (some (0 + (i : Int))) none = zs.drop i := by
          rw [Int.zero_add]
          exact cut_from _ i
        rw [ec]
        have k4 : ∀ cs, Kp cs H3 (upd H3 p2 (.lst (zs.drop i))) := fun cs => Kp.rfl'.new hp2
        have dD : D [] (upd H3 p2 (.lst (zs.drop i))) (12 + n) 2 (.ref p2) (dLT (F.drop i)) := .lst upd_same (by simp) (by rw [List.length_drop]; omega) (by
          rw [List.map_drop]
          exact ((d3.keep (k4 _)).less (by simp)).dropD i)
        have h34 := k4 [] _ _ h3 (by simp)
        have d34 := d3.keep (k4 _)
        have hg34 := k4 [] _ _ hg3 (by simp)
        have k04 : Kp [] H (upd H3 p2 (.lst (zs.drop i))) := k3.trans (k4 [])
        generalize upd H3 p2 (.lst (zs.drop i)) = H4 at dD h34 d34 hg34 k04 ⊢
        refine ⟨_, rfl, x, p2, g, rows, steps, ws, F.drop i, fx, bs, w', c, rfl, hA.keep (k04.sub (by simp)), dD.past, hg34, by rw [List.length_drop]; omega, by rw [List.length_drop]; omega, (fun st hs => alF st (List.mem_of_mem_drop hs)), lr, ls, by omega, lw, bw, br, fun p H5 fp k5 hp => ?_⟩
        rw [nxt_drop (by omega)] at hp
        have h35 := k5 _ _ h34 (by simp)
        have npd : p ≠ d := (ne_of_none h34 fp).symm
        have npc := fresh k04 fp
        have kd' : Kp (d :: cs) H5 (upd H5 d (.lst (zs ++ [.ref p]))) := Kp.rfl'.put (by simp)
        have k05 : Kp [] H (upd H5 d (.lst (zs ++ [.ref p]))) := (k04.trans k5).own (k1.free hd (by simp))
        refine ⟨d, _, _, rfl, rfl, h35, by rw [sizeLine_eq]; omega, _, zs ++ [.ref p], rfl, upd_same, ?_, k05, ?_⟩
        · unfold goR
          rw [hF', List.map_append]
          refine ((d34.keep (k5.sub (by simp))).keep kd').app (DA.one ((D.tup (k := 0) hp (by simp [npd, npc]) (by rw [List.length_map, nxt_len (by omega)]; omega) (DA.ofInts fun x hx => ?_)).keep kd'))
          have := nxt_bd (m := 900) bf (fun r hr => by have := bst r hr; omega) (by decide) x hx
          omega
        · have hg5 := k5 _ _ hg34 (by simp)
          rw [upd_ne fun e => by rw [e, h35] at hg5; cases hg5]
          exact hg5
      · rintro σ H3 ⟨o6, zs, rfl, h3, d3, k3, _⟩
        have lF := goR_len (rows := rows) (steps := steps) (ws := ws) (fx := fx) (f := past.map (hold fx)) ((n : Nat) : Int).toNat
        rw [List.length_map] at lF
        refine ⟨_, rfl, q d H3 (k1.free hd (by simp)) k3 (.lst h3 ndc ?_ (d3.less fun a ha => List.mem_cons_of_mem _ ha))⟩
        rw [DA.len d3, List.length_map, lF]
        omega

end
end Sw

set_option maxHeartbeats 2000000
namespace Sw
open PySem PySem.Spec PyProof.Rows L2
section
variable {P : Program} {w : World} {K : PySem.W.Frag} {mg : Str → Option Value} {base : Heap}
theorem getD_lk {fx : List (Int × Int)} {i x : Int} : (valV (kvI fx) (.inl i)).getD (.int x) = .int ((lk fx i).getD x) := by
  rw [valV_kvI]
  cases lk fx i <;> rfl
/-- [d.get(i, x) for i, x in enumerate(..)] -/
theorem lc_hold {kd : Bool} {s g d : Addr} {st : List Int} {fx : List (Int × Int)} {gg : TG} {tt : TT} {te : TE} {vs : List Nat} {σ : L2.St} {H1 : Hp} {Qd : Hp → Prop} (hs : H1 s = some (sqo kd (st.map V.int))) (hg : H1 g = some (.dK (kvI fx))) (l9 : st.length ≤ 900) (hd : H1 d = none)
    (step : ∀ (j : Nat) (x : Int) (t : Addr) (H2 : Hp) (R : V → Hp → Prop) (N : Hp → Prop), H2 t = none → (upd H2 t (.tup [.int j, .int x])) g = some (.dK (kvI fx)) → R (.int ((lk fx j).getD x)) (upd H2 t (.tup [.int j, .int x])) → gg (.ref t) (wipe σ vs) (upd H2 t (.tup [.int j, .int x])) fun σ2 H3 => wipe σ2 vs = wipe σ vs ∧ tt σ2 H3 fun b H4 => if b = true then te σ2 H4 R else N H4)
    (done : ∀ H3, H3 d = some (.lst ((hold fx st).map V.int)) → Kp [] H1 H3 → Qd H3) :
    ∃ W : Nat → Nat → Hp → Prop, (∃ m, W 0 m (upd H1 d (.lst []))) ∧ ∀ i m H, W i m H →
      ((ItES kd K s).stop i H ∧ Qd H) ∨ ((ItES kd K s).go i H ∧ ∃ Nx : Hp → Prop, (∀ H', Nx H' → ∃ m', m' < m ∧ W (i + 1) m' H') ∧ ∀ x H', (ItES kd K s).yld i H x H' → gg x (wipe σ vs) H' fun σ2 H2 => wipe σ2 vs = wipe σ vs ∧ tt σ2 H2 fun b H3 =>
        if b = true then te σ2 H3 fun y H4 => ∃ acc, H4 d = some (.lst acc) ∧ acc.length < sizeLine ∧ Nx (upd H4 d (.lst (acc ++ [y]))) else Nx H3) := by
  refine lc_it (walk_enumS (K := K) (a := s) (kd := kd) (xs := st.map V.int)) (fun j H3 => H3 d = some (.lst (((hold fx st).take j).map V.int)) ∧ Kp [] H1 H3) ?_ ?_ ?_ ?_
  · exact ⟨by rw [upd_same]; rfl, Kp.rfl'.new hd⟩
  · rintro j H3 _ ⟨_, k3⟩
    exact sqo_k (k3 _ _ hs (by simp))
  · rintro j y H3 H4 hj ⟨h3, k3⟩ ⟨t, u, v, rfl, ft, rfl, hu, hv⟩
    cases hu
    simp only [List.getElem?_map] at hv
    obtain ⟨x, hx, rfl⟩ := Option.map_eq_some_iff.mp hv
    have k4 : Kp [] H1 (upd H3 t (.tup [.int (j : Nat), .int x])) := k3.new ft
    refine step j x t H3 _ _ ft (k4 _ _ hg (by simp)) ⟨_, by rw [upd_ne (ne_of_none h3 ft)]; exact h3, ?_, ?_, k4.own hd⟩
    · rw [List.length_map]
      exact small1000 (by rw [List.length_take, hold_len]; omega)
    · rw [upd_same, List.take_add_one, hold_at hx]
      simp
  · rintro H3 ⟨h3, k3⟩
    rw [List.length_map, ← hold_len (fx := fx), List.take_length] at h3
    exact done H3 h3 k3
/-- the law's own going -/
def sp_going : Sp := fun vs H Q _ => ∃ (da pa fa ta sa wa : Addr) (n : Nat) (rows steps : List (List Int)) (ws : List Int) (past : List (List Int)) (fx : List (Int × Int)) (bs cs es : List Addr) (w1 w2 c : Nat), vs = [.ref da, .ref pa, .ref fa, .int n] ∧ H da = some (.tup [.ref ta, .ref sa, .ref wa]) ∧ D cs H w1 2 (.ref ta) (dII rows) ∧ D cs H w1 2 (.ref sa) (dII steps) ∧ H wa = some (.lst (ws.map V.int)) ∧ D es H w2 2 (.ref pa) (dLT past) ∧ H fa = some (.dK (kvI fx)) ∧ n ≤ 2000 ∧ w1 ≤ 900 ∧ c ≤ 12 ∧ past.length ≤ 5 ∧ ws.length ≤ past.length ∧ rows.length = c ∧ steps.length = c ∧ (∀ st ∈ past, st.length = c ∧ Bd 900 st) ∧ (∀ r ∈ rows, Bd 1000 r) ∧ Bd 1000 ws ∧ (∀ p ∈ fx, -900 ≤ p.2 ∧ p.2 ≤ 900) ∧ (∀ b ∈ bs, ∃ o, H b = some o) ∧
  ∀ (q : Addr) (H' : Hp), H q = none → Kp [] H H' → D bs H' (12 + n) 2 (.ref q) (dLT (goR rows steps ws fx n (past.map (hold fx)))) → Q (.ref q) H'
theorem ok_going (T : Tx K mg) : FnOk P w K mg base CX0 2 (He.fAd K ("_law_going", none)) T.fd__law_going p__law_going sp_going := by
  have G__law_pull := ok_lpull (P := P) (w := w) (base := base) T
  refine T.F__law_going.ok sc__law_going (fun vs H Q E h => ?_) (fun cdv A outer s H vs Q E hr h => ?_)
  · obtain ⟨_, _, _, _, _, _, _, _, _, _, _, _, _, _, _, _, _, _, rfl, _⟩ := h
    rfl
  · obtain ⟨da, pa, fa, ta, sa, wa, n, rows, steps, ws, past, fx, bs, cs, es, w1, w2, c, rfl, hda, dT', dS, hwa, dP, hfa, n2, lw1, c12, p5, lwp, lr, ls, lst, br, bw, bf, sb, q⟩ := h
    obtain ⟨xp, hpa, _, lxp, _, alp⟩ := dP.rowLT
    have fresh : ∀ {H1 : Hp} {p : Addr}, Kp [] H H1 → H1 p = none → p ∉ bs := fun {H1 p} k hp m => by
      obtain ⟨o, e⟩ := sb p m
      rw [k _ _ e (by simp)] at hp
      cases hp
    refine ⟨_, PSs.nox (pss_cons (ps_asg (pv 0) (pg_tup rfl (pgs_cons (pg_name (i := 6) sc__law_going.nd rfl (by first | exact Or.inl rfl | exact Or.inr rfl)) (pgs_cons (pg_name (i := 7) sc__law_going.nd rfl (by first | exact Or.inl rfl | exact Or.inr rfl)) (pgs_cons (pg_name (i := 8) sc__law_going.nd rfl (by first | exact Or.inl rfl | exact Or.inr rfl)) pgs_nil)))))
      (pss_cons (ps_set (i := 4) sc__law_going.nd rfl (by first | exact Or.inl rfl | exact Or.inr rfl) (pe_lc (own := [("_law_stood", 11)]) (g := (gName 11)) (tt := tYes) rfl sc__law_going.nd (pi_list (pv 1)) (blkOk_by (own := [("_law_stood", 11)]) (N := n__law_going) (sc := defScope s__law_going) (by decide +kernel)) (fun _ _ _ _ _ => (pg_name (i := 11) sc__law_going.nd rfl (by first | exact Or.inl rfl | exact Or.inr rfl))) (fun _ _ _ _ _ => pts_nil) (fun _ _ _ _ _ => (pe_callTy (kTup (K := K) rfl) (by rfl) T.b_tuple (by decide +kernel) (pa_cons (pe_lc (own := [("_law_one", 15), ("_law_posture", 16)]) (g := (gTup K 2 (gCons (gName 15) (gCons (gName 16) gNil)))) (tt := tYes) rfl sc__law_going.nd (kEnumS (K := K) rfl (by rfl) T.b_enumerate (pa_cons (pv 11) pa_nil)) (blkOk_by (own := [("_law_one", 15), ("_law_posture", 16)]) (N := n__law_going) (sc := relabel (lcScope (valAt 1 s__law_going)) (envOfC "" (defScope s__law_going) 0 0 .none)) (by decide +kernel)) (fun _ _ _ _ _ => (pg_tup rfl (pgs_cons (pg_name (i := 15) sc__law_going.nd rfl (by first | exact Or.inl rfl | exact Or.inr rfl)) (pgs_cons (pg_name (i := 16) sc__law_going.nd rfl (by first | exact Or.inl rfl | exact Or.inr rfl)) pgs_nil)))) (fun _ _ _ _ _ => pts_nil) (fun _ _ _ _ _ => (pe_dget2 (hu_of hr) (pv 2) (pv 15) (pv 16) ⟨rfl, rfl, rfl, rfl⟩))) pa_nil)))))
      (pss_cons (ps_for PassesOwn.never rfl (pi_range1 (by rfl) T.b_range (pa_cons (pv 3) pa_nil)) (pg_name (i := 5) sc__law_going.nd rfl (by first | exact Or.inl rfl | exact Or.inr rfl))
      (pss_cons (ps_setLc (i := 9) (own := [("_law_row", 12)]) (g := (gName 12)) (tt := tYes) rfl sc__law_going.nd rfl rfl (sw_true rfl rfl rfl (by decide +kernel)) (pi_list (pv 6)) (blkOk_by (own := [("_law_row", 12)]) (N := n__law_going) (sc := defScope s__law_going) (by decide +kernel)) (fun _ _ _ _ _ => (pg_name (i := 12) sc__law_going.nd rfl (by first | exact Or.inl rfl | exact Or.inr rfl))) (fun _ _ _ _ _ => pts_nil) (fun _ _ _ _ _ => (pe_call G__law_pull (hr.mono (by first | decide | omega)) rfl T.g__law_pull T.F__law_pull.kp T.bd__law_pull .nil pass0 (pa_cons (pv 12) (pa_cons (pv 8) (pa_cons (pv 4) pa_nil))))))
      (pss_cons (ps_setLc (i := 10) (own := [("_law_some", 13), ("_law_reach", 14)]) (g := (gTup K 2 (gCons (gName 13) (gCons (gName 14) gNil)))) (tt := tYes) rfl sc__law_going.nd rfl rfl (sw_true rfl rfl rfl (by decide +kernel)) (kZipS (K := K) rfl (by rfl) T.b_zip (pa_cons (pv 7) (pa_cons (pv 9) pa_nil))) (blkOk_by (own := [("_law_some", 13), ("_law_reach", 14)]) (N := n__law_going) (sc := defScope s__law_going) (by decide +kernel)) (fun _ _ _ _ _ => (pg_tup rfl (pgs_cons (pg_name (i := 13) sc__law_going.nd rfl (by first | exact Or.inl rfl | exact Or.inr rfl)) (pgs_cons (pg_name (i := 14) sc__law_going.nd rfl (by first | exact Or.inl rfl | exact Or.inr rfl)) pgs_nil)))) (fun _ _ _ _ _ => pts_nil) (fun _ _ _ _ _ => (pe_callB (kLen (K := K) rfl) (by rfl) T.b_len (by decide +kernel) (pa_cons (pe_lc (own := [("_law_rung", 17)]) (g := (gName 17)) rfl sc__law_going.nd (kPiL (K := K) rfl (pv 13)) (blkOk_by (own := [("_law_rung", 17)]) (N := n__law_going) (sc := relabel (lcScope (valIn 2 1 s__law_going)) (envOfC "" (defScope s__law_going) 0 0 .none)) (by decide +kernel)) (fun _ _ _ _ _ => (pg_name (i := 17) sc__law_going.nd rfl (by first | exact Or.inl rfl | exact Or.inr rfl))) (fun _ _ _ _ _ => pts_one (pt_cmpR op_le (pv 17) (pv 14) (nomark _))) (fun _ _ _ _ _ => (pv 17))) pa_nil))))
      (pss_one (ps_expr (pe_bm PySem.F.plainAttrs_list PySem.F.slot_list_append PySem.F.type_list_append mt_append (pv 4) (pa_cons (pe_callTy call_tuple_of (by rfl) T.b_tuple (by decide +kernel) (pa_cons (pe_lc (own := [("_law_one", 15), ("_law_posture", 16)]) (g := (gTup K 2 (gCons (gName 15) (gCons (gName 16) gNil)))) (tt := tYes) rfl sc__law_going.nd (kEnumS (K := K) rfl (by rfl) T.b_enumerate (pa_cons (pv 10) pa_nil)) (blkOk_by (own := [("_law_one", 15), ("_law_posture", 16)]) (N := n__law_going) (sc := defScope s__law_going) (by decide +kernel)) (fun _ _ _ _ _ => (pg_tup rfl (pgs_cons (pg_name (i := 15) sc__law_going.nd rfl (by first | exact Or.inl rfl | exact Or.inr rfl)) (pgs_cons (pg_name (i := 16) sc__law_going.nd rfl (by first | exact Or.inl rfl | exact Or.inr rfl)) pgs_nil)))) (fun _ _ _ _ _ => pts_nil) (fun _ _ _ _ _ => (pe_dget2 (hu_of hr) (pv 2) (pv 15) (pv 16) ⟨rfl, rfl, rfl, rfl⟩))) pa_nil)) pa_nil)))))))
      (pss_one (ps_ret (pv 4)))))), ?_⟩
    refine ⟨_, rfl, da, _, rfl, SqT.of hda, rfl, _, _, rfl, _, _, rfl, _, _, rfl, rfl, ?_⟩
    refine ⟨_, rfl, pa, rfl, ⟨_, SqL.of hpa⟩, fun d hd => lc_list (K := K) (a := pa) (xs := xp) (fun j H1 => ∃ ys : List V, H1 d = some (.lst ys) ∧ DA (d :: bs) H1 (12 + n) 1 ys ((past.map (hold fx)).take j |>.map dT) ∧ Kp [] H H1) ?_ ?_ ?_ ?_⟩
    · exact ⟨[], upd_same, .nil, Kp.rfl'.new hd⟩
    · rintro j H1 _ ⟨_, _, _, k1⟩
      exact SqL.of (k1 _ _ hpa (by simp))
    · rintro j y H1 hj ⟨ys, h1, d1, k1⟩
      have hjl := (List.getElem?_eq_some_iff.mp hj).1
      have lj : j < past.length := by omega
      have est : past[j]? = some past[j] := by simp
      obtain ⟨u, gx, hu, _, _⟩ := alp j _ est
      rw [gx] at hj
      cases hj
      obtain ⟨lsj, bsj⟩ := lst _ (List.getElem_mem lj)
      refine ⟨rfl, yesT ⟨_, rfl, u, false, _, rfl, SqT.of (k1 _ _ hu (by simp)), fun p2 hp2 => lc_hold (kd := false) (st := past[j]) (fx := fx) (g := fa) (k1 _ _ hu (by simp)) (k1 _ _ hfa (by simp)) (by omega) hp2 ?_ ?_⟩⟩
      · intro i x t H2 R N ft hg2 hr'
        exact ⟨t, _, rfl, SqT.of upd_same, rfl, _, _, rfl, _, _, rfl, rfl, rfl, yesT ⟨_, rfl, fa, rfl, .inl ⟨_, .inl hg2⟩, _, rfl, _, rfl, _, .inl ⟨_, .inl (i : Nat), .inl hg2, rfl, rfl⟩, by rw [getD_lk]; exact hr'⟩⟩
      · intro H3 h3 k3
        refine ⟨p2, _, rfl, .inl ⟨SqL.of h3, fun l hl => ?_⟩⟩
        have k13 := k1.trans k3
        have h13 := k3 _ _ h1 (by simp)
        have nld : l ≠ d := (ne_of_none h13 hl).symm
        have nlb := fresh k13 hl
        have kl : ∀ cs, Kp cs H3 (upd H3 l (.tup ((hold fx past[j]).map V.int))) := fun cs => Kp.rfl'.new hl
        have kd : Kp (d :: bs) (upd H3 l (.tup ((hold fx past[j]).map V.int))) (upd (upd H3 l (.tup ((hold fx past[j]).map V.int))) d (.lst (ys ++ [.ref l]))) := Kp.rfl'.put (by simp)
        have ly : ys.length ≤ 5 := by
          rw [DA.len d1, List.length_map, List.length_take, List.length_map]
          omega
        refine ⟨ys, kl [] _ _ h13 (by simp), small1000 (by omega), ys ++ [.ref l], upd_same, ?_, (k13.trans (kl _)).own hd⟩
        have e : (past.map (hold fx)).take (j + 1) = (past.map (hold fx)).take j ++ [hold fx past[j]] := by
          rw [List.take_add_one, List.getElem?_map, est]
          rfl
        rw [e, List.map_append]
        refine (((d1.keep (k3.sub (by simp))).keep (kl _)).keep kd).app (DA.one ((D.tup (k := 0) upd_same (by simp [nld, nlb]) (by rw [List.length_map, hold_len]; omega) (DA.ofInts fun x hx => ?_)).keep kd))
        have := hold_bd bf bsj x hx
        omega
    · rintro H1 ⟨ys, h1, d1, k1⟩
      have ndb := fresh Kp.rfl' hd
      rw [lxp, ← List.length_map (f := hold fx) (as := past), List.take_length] at d1
      obtain ⟨xt, hta, _, lxt, _, alt⟩ := dT'.rowLL
      obtain ⟨xs, hsa, _, lxs, _, als⟩ := dS.rowLL
      refine ⟨_, rfl, _, rfl, by omega, by omega, for_range (n := ((n : Nat) : Int).toNat) (fun i σ H2 => ∃ (o5 o9 o10 : Option V) (ys : List V), σ = [some (.ref da), some (.ref pa), some (.ref fa), some (.int (n : Nat)), some (.ref d), o5, some (.ref ta), some (.ref sa), some (.ref wa), o9, o10, none, none, none, none, none, none, none] ∧ H2 d = some (.lst ys) ∧ DA (d :: bs) H2 (12 + n) 1 ys ((goR rows steps ws fx i (past.map (hold fx))).map dT) ∧ Kp [] H H2) ?_ ?_ ?_⟩
      · exact ⟨_, _, _, ys, rfl, h1, d1, k1⟩
      · rintro i σ H2 hi ⟨o5, o9, o10, zs, rfl, h2, d2, k2⟩
        refine gn ?_
        have lF := goR_len (rows := rows) (steps := steps) (ws := ws) (fx := fx) (f := past.map (hold fx)) i
        rw [List.length_map] at lF
        have lz : zs.length = past.length + i := by rw [DA.len d2, List.length_map, lF]
        have hin : i < n := by omega
        have dF : D bs H2 (12 + n) 2 (.ref d) (dLT (goR rows steps ws fx i (past.map (hold fx)))) := .lst h2 ndb (by omega) (d2.less fun a ha => List.mem_cons_of_mem _ ha)
        generalize hF : goR rows steps ws fx i (past.map (hold fx)) = F at d2 lF dF
        have hta2 := k2 _ _ hta (by simp)
        refine ⟨_, rfl, ta, rfl, ⟨_, SqL.of hta2⟩, fun r1 hr1 => lc_list (K := K) (a := ta) (xs := xt) (fun j H3 => H3 r1 = some (.lst (((rows.take j).map (lawP ws F.reverse)).map V.int)) ∧ Kp [] H2 H3) ?_ ?_ ?_ ?_⟩
        · exact ⟨by rw [upd_same]; rfl, Kp.rfl'.new hr1⟩
        · rintro j H3 _ ⟨_, k3⟩
          exact SqL.of (k3 _ _ hta2 (by simp))
        · rintro j y H3 hj ⟨h3, k3⟩
          have hjl := (List.getElem?_eq_some_iff.mp hj).1
          have lj : j < rows.length := by omega
          obtain ⟨rj, er⟩ : ∃ r, rows[j]? = some r := ⟨rows[j], by simp⟩
          obtain ⟨a, gx, ha, _, la⟩ := alt j _ er
          rw [gx] at hj
          cases hj
          have k23 := k2.trans k3
          refine ⟨rfl, yesT ⟨_, rfl, _, rfl, _, rfl, a, wa, d, rj, ws, F, bs, 12 + n, rfl, k23 _ _ ha (by simp), k23 _ _ hwa (by simp), dF.keep (k3.sub (by simp)), by omega, by omega, br _ (List.mem_of_getElem? er), bw, fun H4 k4 => ⟨_, k4 _ _ h3 (by simp), ?_, ?_, (k3.trans k4).own hr1⟩⟩⟩
          · simp only [List.length_map, List.length_take]
            exact small1000 (by omega)
          · rw [upd_same, List.take_add_one, er]
            simp
        · rintro H3 ⟨h3, k3⟩
          rw [lxt, List.take_length] at h3
          have k23 := k2.trans k3
          have hsa3 := k23 _ _ hsa (by simp)
          have lp : (rows.map (lawP ws F.reverse)).length = c := by rw [List.length_map]; exact lr
          refine ⟨_, rfl, _, rfl, sa, r1, true, true, _, _, rfl, SqL.of hsa3, SqL.of h3, fun r2 hr2 => lc_it (walkZ (K := K) (a := sa) (b := r1) (ka := true) (kb := true) (n := c) (xs := xs) (ys := (rows.map (lawP ws F.reverse)).map V.int) (by rw [List.length_map, lp]; omega)) (fun j H4 => H4 r2 = some (.lst (((List.zipWith cnt steps (rows.map (lawP ws F.reverse))).take j).map V.int)) ∧ Kp [] H3 H4) ?_ ?_ ?_ ?_⟩
          · exact ⟨by rw [upd_same]; rfl, Kp.rfl'.new hr2⟩
          · rintro j H4 _ ⟨_, k4⟩
            exact ⟨SqL.of (k4 _ _ hsa3 (by simp)), SqL.of (k4 _ _ h3 (by simp))⟩
          · rintro j y H4 H5 hj ⟨h4, k4⟩ ⟨t, u, v, rfl, ft, rfl, hu, hv⟩
            have hu : xs[j]? = some u := hu
            have lj : j < steps.length := by omega
            have er : steps[j]? = some steps[j] := by simp
            obtain ⟨ra, gx, hra, _, lra⟩ := als j _ er
            rw [gx] at hu
            cases hu
            simp only [List.getElem?_map (f := V.int)] at hv
            obtain ⟨pl, hpl, rfl⟩ := Option.map_eq_some_iff.mp hv
            have k5 : Kp [] H3 (upd H4 t (.tup [.ref ra, .int pl])) := k4.new ft
            have hra5 := (k23.trans k5) _ _ hra (by simp)
            have h45 : (upd H4 t (.tup [.ref ra, .int pl])) r2 = some (.lst (((List.zipWith cnt steps (rows.map (lawP ws F.reverse))).take j).map V.int)) := by
              rw [upd_ne (ne_of_none h4 ft)]
              exact h4
            refine ⟨t, _, rfl, SqT.of upd_same, rfl, _, _, rfl, _, _, rfl, rfl, rfl, yesT ⟨_, rfl, ra, rfl, ⟨_, SqL.of hra5⟩, fun p2 hp2 => lc_list (K := K) (a := ra) (xs := steps[j].map V.int) (fun m H6 => H6 p2 = some (.lst (((steps[j].take m).filter fun x => decide (x ≤ pl)).map V.int)) ∧ Kp [] (upd H4 t (.tup [.ref ra, .int pl])) H6) ?_ ?_ ?_ ?_⟩⟩
            · exact ⟨by rw [upd_same]; rfl, Kp.rfl'.new hp2⟩
            · rintro m H6 _ ⟨_, k6⟩
              exact SqL.of (k6 _ _ hra5 (by simp))
            · rintro m y H6 hm ⟨h6, k6⟩
              rw [List.getElem?_map] at hm
              obtain ⟨z, hz, rfl⟩ := Option.map_eq_some_iff.mp hm
              have e : steps[j].take (m + 1) = steps[j].take m ++ [z] := by rw [List.take_add_one, hz]; rfl
              refine ⟨rfl, _, rfl, _, rfl, _, _, rfl, rfl, _, rfl, ?_⟩
              by_cases cz : z ≤ pl
              · refine iteC (by simp [cz]) ⟨_, rfl, _, h6, ?_, ?_, k6.own hp2⟩
                · rw [List.length_map]
                  exact small1000 (Nat.le_trans (List.length_filter_le ..) (by rw [List.length_take]; omega))
                · rw [upd_same, e, List.filter_append]
                  simp [cz]
              · refine iteN (by simp [cz]) ⟨?_, k6⟩
                rw [h6, e, List.filter_append]
                simp [cz]
            · rintro H6 ⟨h6, k6⟩
              rw [List.length_map, List.take_length] at h6
              refine ⟨_, _, rfl, .inl ⟨_, SqL.of h6, (List.length_map ..).symm⟩, _, k6 _ _ h45 (by simp), ?_, ?_, (k5.trans k6).own hr2⟩
              · rw [List.length_map, List.length_take, List.length_zipWith]
                exact small1000 (by omega)
              · have e : (List.zipWith cnt steps (rows.map (lawP ws F.reverse)))[j]? = some (cnt steps[j] pl) := by
                  rw [List.getElem?_zipWith, er, hpl]
                rw [upd_same, List.take_add_one, e]
                simp [cnt]
          · rintro H4 ⟨h4, k4⟩
            have e : (List.zipWith cnt steps (rows.map (lawP ws F.reverse))).take c = List.zipWith cnt steps (rows.map (lawP ws F.reverse)) := by
              apply List.take_of_length_le
              rw [List.length_zipWith]
              omega
            rw [e] at h4
            have k24 := k3.trans k4
            have k04 := k2.trans k24
            refine ⟨_, rfl, .inl ⟨rfl, _, SqL.of (k24 _ _ h2 (by simp))⟩, _, rfl, r2, true, _, rfl, SqL.of h4, fun p2 hp2 => lc_hold (kd := true) (st := List.zipWith cnt steps (rows.map (lawP ws F.reverse))) (fx := fx) (g := fa) h4 (k04 _ _ hfa (by simp)) (by rw [List.length_zipWith]; omega) hp2 ?_ ?_⟩
            · intro i x t H5 R N ft hg2 hr'
              exact ⟨t, _, rfl, SqT.of upd_same, rfl, _, _, rfl, _, _, rfl, rfl, rfl, yesT ⟨_, rfl, fa, rfl, .inl ⟨_, .inl hg2⟩, _, rfl, _, rfl, _, .inl ⟨_, .inl (i : Nat), .inl hg2, rfl, rfl⟩, by rw [getD_lk]; exact hr'⟩⟩
            · intro H5 h5 k5
              refine ⟨p2, _, rfl, .inl ⟨SqL.of h5, fun l hl => ?_⟩⟩
              have k25 := k24.trans k5
              have h25 := k25 _ _ h2 (by simp)
              have nld : l ≠ d := (ne_of_none h25 hl).symm
              have nlb := fresh (k2.trans k25) hl
              have kl : ∀ cs, Kp cs H5 (upd H5 l (.tup ((nxt rows steps ws fx F).map V.int))) := fun cs => Kp.rfl'.new hl
              have kd : Kp (d :: bs) (upd H5 l (.tup ((nxt rows steps ws fx F).map V.int))) (upd (upd H5 l (.tup ((nxt rows steps ws fx F).map V.int))) d (.lst (zs ++ [.ref l]))) := Kp.rfl'.put (by simp)
              refine ⟨d, _, _, rfl, rfl, kl [] _ _ h25 (by simp), by rw [sizeLine_eq]; omega, _, _, _, zs ++ [.ref l], rfl, upd_same, ?_, ((k2.trans k25).trans (kl _)).own hd⟩
              unfold goR
              rw [hF, List.map_append]
              refine (((d2.keep (k25.sub (by simp))).keep (kl _)).keep kd).app (DA.one ((D.tup (k := 0) upd_same (by simp [nld, nlb]) (by rw [List.length_map, nxt_len (by omega)]; omega) (DA.ofInts fun x hx => ?_)).keep kd))
              have := nxt_bd (m := 900) bf (fun r hr => ?_) (by decide) x hx
              · omega
              · obtain ⟨k, hk, rfl⟩ := List.getElem_of_mem hr
                obtain ⟨_, _, _, _, z⟩ := als k _ (show steps[k]? = some steps[k] by simp)
                omega
      · rintro σ H2 ⟨o5, o9, o10, zs, rfl, h2, d2, k2⟩
        have lF := goR_len (rows := rows) (steps := steps) (ws := ws) (fx := fx) (f := past.map (hold fx)) ((n : Nat) : Int).toNat
        rw [List.length_map] at lF
        refine ⟨_, rfl, q d H2 hd k2 (.lst h2 ndb ?_ (d2.less fun a ha => List.mem_cons_of_mem _ ha))⟩
        rw [DA.len d2, List.length_map, lF]
        omega

end
end Sw

set_option maxHeartbeats 2000000
namespace Sw
open PySem PySem.Spec PyProof.Rows L2
section
variable {P : Program} {w : World} {K : PySem.W.Frag} {mg : Str → Option Value} {base : Heap}
/-- some held, each as one of its postures -/
structure FxOk (steps : List (List Int)) (fx : List (Int × Int)) : Prop where
  nd : (fx.map (·.1)).Nodup
  l : fx.length ≤ steps.length
  ok : ∀ p ∈ fx, ∃ (j : Nat) (r : List Int), p.1 = (j : Int) ∧ steps[j]? = some r ∧ 0 ≤ p.2 ∧ p.2 ≤ r.length
def sp_fixed : Sp := fun vs H Q _ => ∃ (b sp : Addr) (steps : List (List Int)) (n : Nat), vs = [.ref b, .ref sp] ∧ Bx H b n ∧ n ≤ 800000 ∧ D [b] H 12 2 (.ref sp) (dII steps) ∧ (∀ r ∈ steps, r.length ≤ 4) ∧
  ∀ (d : Addr) (fx : List (Int × Int)) (H' : Hp), H d = none → H' d = some (.dK (kvI fx)) → FxOk steps fx → Bx H' b (n + 24) → Kp [b] H H' → Q (.ref d) H'
theorem ok_fixed (T : Tx K mg) : FnOk P w K mg base CX0 2 (He.fAd K ("_law_fixed", none)) T.fd__law_fixed p__law_fixed sp_fixed := by
  have G__law_take := ok_take (P := P) (w := w) (base := base) T
  refine T.F__law_fixed.ok sc__law_fixed (fun vs H Q E h => ?_) (fun cdv A outer s H vs Q E hr h => ?_)
  · obtain ⟨_, _, _, _, rfl, _⟩ := h
    rfl
  · obtain ⟨b, sp, steps, n, rfl, hB, hn, dS, r4, q⟩ := h
    obtain ⟨xs, hsp, nsp, lx, lx12, al⟩ := dS.rowLL
    refine ⟨_, PSs.nox (pss_cons (ps_set (i := 2) sc__law_fixed.nd rfl (by first | exact Or.inl rfl | exact Or.inr rfl) pe_dnewK)
      (pss_cons (ps_for PassesOwn.never rfl (pi_enumS (by rfl) T.b_enumerate (pa_cons (pv 1) pa_nil)) (pg_tup rfl (pgs_cons (pg_name (i := 3) sc__law_fixed.nd rfl (by first | exact Or.inl rfl | exact Or.inr rfl)) (pgs_cons (pg_name (i := 4) sc__law_fixed.nd rfl (by first | exact Or.inl rfl | exact Or.inr rfl)) pgs_nil)))
      (pss_cons (ps_set (i := 5) sc__law_fixed.nd rfl (by first | exact Or.inl rfl | exact Or.inr rfl) (pe_call G__law_take (hr.mono (by first | decide | omega)) rfl T.g__law_take T.F__law_take.kp T.bd__law_take .nil pass0 (pa_cons (pv 0) (pa_cons pe_int pa_nil))))
      (pss_one (ps_if (pt_cmpR op_eq (pv 5) pe_int (nomark _))
      (pss_one (ps_dput (hu_of hr) (pv 2) (pv 3) (pe_call G__law_take (hr.mono (by first | decide | omega)) rfl T.g__law_take T.F__law_take.kp T.bd__law_take .nil pass0 (pa_cons (pv 0) (pa_cons (pe_op op_add (pe_callB call_len (by rfl) T.b_len (by decide +kernel) (pa_cons (pv 4) pa_nil)) pe_int) pa_nil))) rfl))
      pss_nil))))
      (pss_one (ps_ret (pv 2))))), ?_⟩
    refine fun d hd => ?_
    have ndb := hB.off hd
    have kd0 : ∀ cs, Kp cs H (upd H d (.dK [])) := fun cs => Kp.rfl'.new hd
    refine ⟨_, rfl, sp, true, _, rfl, SqL.of (kd0 [] _ _ hsp (by simp)), for_it (walk_enumS (K := K) (a := sp) (kd := true) (xs := xs)) (fun i σ H1 => ∃ (o3 o4 o5 : Option V) (fx : List (Int × Int)), σ = [some (.ref b), some (.ref sp), some (.ref d), o3, o4, o5] ∧ H1 d = some (.dK (kvI fx)) ∧ (fx.map (·.1)).Nodup ∧ fx.length ≤ i ∧ (∀ p ∈ fx, ∃ (j : Nat) (r : List Int), p.1 = (j : Int) ∧ j < i ∧ steps[j]? = some r ∧ 0 ≤ p.2 ∧ p.2 ≤ r.length) ∧ Bx H1 b (n + 2 * i) ∧ Kp [b] H H1) ?_ ?_ ?_ ?_⟩
    · exact ⟨_, _, _, [], rfl, upd_same, by simp, by simp, by simp, hB.keep (kd0 []) (by simp), kd0 _⟩
    · rintro i σ H1 _ ⟨_, _, _, _, _, _, _, _, _, _, k1⟩
      exact SqL.of (k1 _ _ hsp nsp)
    · rintro i y σ H1 H2 hi ⟨o3, o4, o5, fx, rfl, h1, nd, lf, ok, hB1, k1⟩ ⟨t, u, v, rfl, ft, rfl, hu, hv⟩
      cases hu
      have hv : xs[i]? = some v := hv
      obtain ⟨r, er⟩ : ∃ r, steps[i]? = some r := ⟨steps[i], by simp⟩
      obtain ⟨a, gx, ha, na, _⟩ := al i r er
      rw [gx] at hv
      cases hv
      have rr := r4 r (List.mem_of_getElem? er)
      have kt : ∀ cs, Kp cs H1 (upd H1 t (.tup [.int (i : Nat), .ref a])) := fun cs => Kp.rfl'.new ft
      refine ⟨t, _, rfl, SqT.of upd_same, rfl, _, _, rfl, _, _, rfl, rfl, ?_⟩
      refine ⟨_, rfl, b, 5, _, rfl, hB1.keep (kt []) (by simp), by decide, by decide, by omega, fun wy H3 w0 w1 hB3 k3 => ?_⟩
      have k13 : Kp [b] H1 H3 := (kt _).trans k3
      have h3 := k13 _ _ h1 (by simpa using ndb)
      refine ⟨_, rfl, rfl, _, rfl, ite2 (fun cc => ?_) (fun cc => ?_)⟩
      · refine ⟨_, rfl, _, rfl, _, r.length, rfl, .inl ⟨_, SqL.of ((k1.trans k13) _ _ ha na), by simp⟩, _, _, rfl, rfl, b, _, _, rfl, hB3, by omega, by omega, by omega, fun x H4 x0 x1 hB4 k4 => ?_⟩
        have h4 := k4 _ _ h3 (by simpa using ndb)
        have nk : ((i : Nat) : Int) ∉ fx.map (·.1) := fun m => by
          obtain ⟨p, hp, e⟩ := List.mem_map.mp m
          obtain ⟨j, _, e1, lj, _⟩ := ok p hp
          omega
        refine ⟨_, rfl, _, rfl, d, _, rfl, DPut.k (k := .inl (i : Nat)) h4 (by rw [List.length_map]; exact small1000 (by omega)), _, _, _, fx ++ [(((i : Nat) : Int), x)], rfl, by rw [upd_same, putK_kvI (p := (((i : Nat) : Int), x)) nk], ?_, by rw [List.length_append, List.length_singleton]; omega, ?_, (hB4.keep (Kp.rfl'.put (bs := [d]) (by simp)) (by simpa using ndb.symm)).up (by omega), ((k1.trans k13).trans k4).own hd⟩
        · rw [List.map_append]
          exact nd_snoc nd nk
        · intro p hp
          rcases List.mem_append.mp hp with z | z
          · obtain ⟨j, r', e1, lj, z⟩ := ok p z
            exact ⟨j, r', e1, by omega, z⟩
          · rw [List.mem_singleton.mp z]
            exact ⟨i, r, rfl, by omega, er, x0, by show x ≤ _; omega⟩
      · refine ⟨_, _, _, fx, rfl, h3, nd, by omega, fun p hp => ?_, hB3.up (by omega), k1.trans k13⟩
        obtain ⟨j, r', e1, lj, z⟩ := ok p hp
        exact ⟨j, r', e1, by omega, z⟩
    · rintro σ H1 ⟨o3, o4, o5, fx, rfl, h1, nd, lf, ok, hB1, k1⟩
      refine ⟨_, rfl, q d fx H1 hd h1 ⟨nd, by omega, fun p hp => ?_⟩ (hB1.up (by omega)) k1⟩
      obtain ⟨j, r, e1, _, z⟩ := ok p hp
      exact ⟨j, r, e1, z⟩

end
end Sw

set_option maxHeartbeats 2000000
namespace Sw
open PySem PySem.Spec PyProof.Rows L2
section
variable {P : Program} {w : World} {K : PySem.W.Frag} {mg : Str → Option Value} {base : Heap}
/-! ### lean's arguments -/
abbrev kwL (K : PySem.W.Frag) : List (Str × V) := [("held", V.ref (kwAt ("history", none) "held" K))]
theorem app_rel : ∀ {vs zs : List V} {us ws : List Value}, Vals vs us → Vals zs ws → Vals (vs ++ zs) (us ++ ws)
  | _, _, _, _, .nil, h => h
  | _, _, _, _, .cons a r, h => .cons a (app_rel r h)
theorem rev_rel {zs : List V} {ws : List Value} (h : Vals zs ws) : Vals zs.reverse ws.reverse := by
  induction h with
  | nil => exact .nil
  | cons a r ih =>
    rw [List.reverse_cons, List.reverse_cons]
    exact app_rel ih (.cons a .nil)
theorem kb_hist3 {f : Addr} {fd : FuncData} (F : FunD K "history" "history" (defArgs s_history) (defBody s_history) (defScope s_history) [] (kwL K) f fd) : KBn K fd p_history 3 ["held"] (fun us ws => us ++ ws) (fun vs zs => vs ++ zs) := by
  obtain ⟨mv, h⟩ := F.kbinds0 (ps := p_history) 3 ["held"] [] (fun us _ ws => us ++ ws) (by simp) (by simp) (fun r1 _ r3 => app_rel r1 r3) (fun D doc pm an cdv ct us mv ws l1 l2 l3 => match us, mv, ws, l1, l2, l3 with | [_, _, _], [], [_], _, _, _ => rfl)
  exact h
theorem kb_hist0 {f : Addr} {fd : FuncData} (F : FunD K "history" "history" (defArgs s_history) (defBody s_history) (defScope s_history) [] (kwL K) f fd) : KBn K fd p_history 0 ["held", "many", "past", "hall"] (fun _ ws => ws.reverse) (fun _ zs => zs.reverse) := by
  obtain ⟨mv, h⟩ := F.kbinds0 (ps := p_history) 0 ["held", "many", "past", "hall"] [] (fun _ _ ws => ws.reverse) (by simp) (by simp) (fun _ _ r3 => rev_rel r3) (fun D doc pm an cdv ct us mv ws l1 l2 l3 => match us, mv, ws, l1, l2, l3 with | [], [], [_, _, _, _], _, _, _ => rfl)
  exact h
theorem bq_history {f : Addr} {fd : FuncData} (F : FunD K "history" "history" (defArgs s_history) (defBody s_history) (defScope s_history) [] (kwL K) f fd) : ∃ ds, Vals [V.ref (kwAt ("history", none) "held" K)] ds ∧ Binds K fd p_history ds :=
  F.binds0 (ps := p_history) 3 (by simp) rfl (fun D doc pm an cdv ct us ks l1 l2 => match us, ks, l1, l2 with | [_, _, _], [_], _, _ => ⟨_, _, _, _, _, _, rfl, rfl, rfl⟩)
abbrev kwS (K : PySem.W.Frag) : List (Str × V) := [("held", V.ref (kwAt ("Sway", some "__init__") "held" K))]
theorem bq_sway {f : Addr} {fd : FuncData} (F : FunD K "__init__" "Sway.__init__" (defArgs s_Sway___init__) (defBody s_Sway___init__) (defScope s_Sway___init__) [] (kwS K) f fd) : ∃ ds, Vals [V.ref (kwAt ("Sway", some "__init__") "held" K)] ds ∧ Binds K fd p_Sway___init__ ds :=
  F.binds0 (ps := p_Sway___init__) 3 (by simp) rfl (fun D doc pm an cdv ct us ks l1 l2 => match us, ks, l1, l2 with | [_, _, _], [_], _, _ => ⟨_, _, _, _, _, _, rfl, rfl, rfl⟩)
theorem kb_sway {f : Addr} {fd : FuncData} (F : FunD K "__init__" "Sway.__init__" (defArgs s_Sway___init__) (defBody s_Sway___init__) (defScope s_Sway___init__) [] (kwS K) f fd) : KBn K fd p_Sway___init__ 3 ["held"] (fun us ws => us ++ ws) (fun vs zs => vs ++ zs) := by
  obtain ⟨mv, h⟩ := F.kbinds0 (ps := p_Sway___init__) 3 ["held"] [] (fun us _ ws => us ++ ws) (by simp) (by simp) (fun r1 _ r3 => app_rel r1 r3) (fun D doc pm an cdv ct us mv ws l1 l2 l3 => match us, mv, ws, l1, l2, l3 with | [_, _, _], [], [_], _, _, _ => rfl)
  exact h
theorem bq_beat {f : Addr} {fd : FuncData} (F : FunD K "beat" "Sway.beat" (defArgs s_Sway_beat) (defBody s_Sway_beat) (defScope s_Sway_beat) [V.int 1] [] f fd) : ∃ ds, Vals [V.int 1] ds ∧ Binds K fd p_Sway_beat ds :=
  F.binds1 (ps := p_Sway_beat) 1 0 (by simp) rfl (fun T kV doc pm an cdv ct us its h1 h2 => match us, its, h1, h2 with | [_], [_], _, _ => ⟨_, rfl, rfl⟩)
/-- the bare tuple that is left out -/
def DfE (K : PySem.W.Frag) (a : Addr) : Prop := ∃ (o : Obj) (its : Array Value) (n : Nat), K.lookup a = some o ∧ o.cls = .type "tuple" ∧ o.data = .seq its n ∧ its.size ≤ sizeLine ∧ Vals [] its.toList
theorem DfE.pairs {a : Addr} (h : DfE K a) (H : Hp) : PairsAt K H a false [] := ⟨[], .inr h, rfl, fun i t p e => by simp at e⟩

end
end Sw

set_option maxHeartbeats 2000000
namespace Sw
open PySem PySem.Spec PyProof.Rows L2
section
variable {P : Program} {w : World} {K : PySem.W.Frag} {mg : Str → Option Value} {base : Heap}
/-- tuples at these places -/
structure AsAt (H : Hp) (as : List Addr) (past : List (List Int)) : Prop where
  len : as.length = past.length
  row : ∀ (k : Nat) (t : Addr) (st : List Int), as[k]? = some t → past[k]? = some st → H t = some (.tup (st.map V.int))
theorem AsAt.at {H : Hp} {as : List Addr} {past : List (List Int)} (h : AsAt H as past) {t : Addr} (ht : t ∈ as) : ∃ st : List Int, H t = some (.tup (st.map V.int)) := by
  obtain ⟨k, hk, e⟩ := List.getElem_of_mem ht
  have l := h.len
  exact ⟨past[k]'(by omega), h.row k t _ (by rw [List.getElem?_eq_getElem hk, e]) (by simp)⟩
theorem AsAt.keep {H H' : Hp} {as : List Addr} {past : List (List Int)} {p : Addr} {xs : List V} (h : AsAt H as past) (hp : H p = some (.lst xs)) (k : Kp [p] H H') : AsAt H' as past :=
  ⟨h.len, fun m t st e1 e2 => k _ _ (h.row m t st e1 e2) fun z => by
    have g := h.row m t st e1 e2
    rw [List.mem_singleton.mp z, hp] at g
    cases g⟩
theorem AsAt.keep0 {H H' : Hp} {as : List Addr} {past : List (List Int)} (h : AsAt H as past) (k : Kp [] H H') : AsAt H' as past :=
  ⟨h.len, fun m t st e1 e2 => k _ _ (h.row m t st e1 e2) (by simp)⟩
theorem AsAt.push {H : Hp} {as : List Addr} {past : List (List Int)} {t : Addr} {st : List Int} (h : AsAt H as past) (ht : H t = some (.tup (st.map V.int))) : AsAt H (as ++ [t]) (past ++ [st]) := by
  refine ⟨by simp [h.len], fun m u s e1 e2 => ?_⟩
  have l := h.len
  by_cases c : m < as.length
  · rw [List.getElem?_append_left c] at e1
    rw [List.getElem?_append_left (by omega)] at e2
    exact h.row m u s e1 e2
  · rw [List.getElem?_append_right (by omega)] at e1
    rw [List.getElem?_append_right (by omega)] at e2
    have z : m - as.length = 0 := by
      have := (List.getElem?_eq_some_iff.mp e1).1
      simp at this
      omega
    rw [z] at e1
    rw [← l, z] at e2
    cases (show some t = some u from e1)
    cases (show some st = some s from e2)
    exact ht
theorem AsAt.rev {H : Hp} {as : List Addr} {past : List (List Int)} (h : AsAt H as past) : AsAt H as.reverse past.reverse := by
  have l := h.len
  refine ⟨by simp [l], fun m u s e1 e2 => ?_⟩
  have lm : m < as.length := by
    have := (List.getElem?_eq_some_iff.mp e1).1
    simpa using this
  rw [List.getElem?_reverse lm] at e1
  rw [List.getElem?_reverse (by omega), ← l] at e2
  exact h.row _ u s e1 e2
theorem AsAt.past {H : Hp} {as : List Addr} {past : List (List Int)} {p : Addr} (h : AsAt H as past) (hp : H p = some (.lst (as.map V.ref))) : PastAt H p past := ⟨true, as, hp, h.len, h.row⟩
/-- a past that lies in a list -/
def PastL (H : Hp) (a : Addr) (past : List (List Int)) : Prop := ∃ as : List Addr, H a = some (.lst (as.map V.ref)) ∧ AsAt H as past
theorem PastL.past {H : Hp} {a : Addr} {past : List (List Int)} (h : PastL H a past) : PastAt H a past := by
  obtain ⟨as, e, q⟩ := h
  exact q.past e
theorem PastL.keep {H H' : Hp} {a : Addr} {past : List (List Int)} (h : PastL H a past) (k : Kp [] H H') : PastL H' a past := by
  obtain ⟨as, e, q⟩ := h
  exact ⟨as, k _ _ e (by simp), q.keep0 k⟩
def sp_len (K : PySem.W.Frag) : Sp := fun vs H Q _ => ∃ (x : Addr) (rows steps : List (List Int)) (ws : List Int) (bs : List Addr) (w : Nat), vs = [.ref x] ∧ HallAt K bs H w x rows steps ws ∧ Q (.int (rows.length : Int)) H
theorem ok_len (T : Tx K mg) : FnOk P w K mg base CX0 1 (He.fAd K ("Hall", some "__len__")) T.fd_Hall___len__ p_Hall___len__ (sp_len K) := by
  refine T.F_Hall___len__.ok sc_Hall___len__ (fun vs H Q E h => ?_) (fun cdv A outer s H vs Q E hr h => ?_)
  · obtain ⟨_, _, _, _, _, _, rfl, _⟩ := h
    rfl
  · obtain ⟨x, rows, steps, ws, bs, w', rfl, hA, q⟩ := h
    obtain ⟨dx, a1, a2, a3, hx, _, d1, d2, d3⟩ := hA.ex
    refine ⟨_, PSs.nox (pss_one (ps_ret (pe_callB call_len (by rfl) T.b_len (by decide +kernel) (pa_cons (pe_fld (pv 0) rfl) pa_nil)))), ?_⟩
    cases d1 with
    | @tup _ _ xs _ h1 _ _ t1 =>
    have l1 := DA.len t1
    rw [List.length_map] at l1
    exact ⟨_, rfl, x, C0 K, dx, _, _, rfl, hx, T.cl_Hall, T.na_Hall_string_rows, flds_1 _ _ _, _, rows.length, rfl, .inr ⟨_, SqT.of h1, by rw [l1]⟩, q⟩
theorem Kp.hide {bs : List Addr} {H H1 H2 : Hp} {y : Addr} (k : Kp bs H H1) (k' : Kp (y :: bs) H1 H2) (f : H y = none) : Kp bs H H2 := fun p o e n => k' p o (k p o e n) (by
  have := ne_of_none e f
  simp only [List.mem_cons, not_or]
  exact ⟨this, n⟩)
theorem HallAt.fresh {bs : List Addr} {H : Hp} {w' : Nat} {x y : Addr} {rows steps : List (List Int)} {ws : List Int} (h : HallAt K bs H w' x rows steps ws) (f : H y = none) : HallAt K (y :: bs) H w' x rows steps ws := by
  obtain ⟨dx, a1, a2, a3, e, n, d1, d2, d3⟩ := h.ex
  refine ⟨dx, a1, a2, a3, e, ?_, d1.fresh f, d2.fresh f, d3.fresh f⟩
  simp only [List.mem_cons, not_or]
  exact ⟨ne_of_none e f, n⟩
theorem AsAt.keepS {H H' : Hp} {as : List Addr} {past : List (List Int)} {bs : List Addr} (h : AsAt H as past) (n : ∀ b ∈ bs, ∃ o, H b = some o ∧ ∀ xs, o ≠ .tup xs) (k : Kp bs H H') : AsAt H' as past :=
  ⟨h.len, fun m t st e1 e2 => k _ _ (h.row m t st e1 e2) fun z => by
    obtain ⟨o, e, no⟩ := n t z
    have g := h.row m t st e1 e2
    rw [e] at g
    exact no _ (Option.some.inj g)⟩
theorem AsAt.daB {H : Hp} {w : Nat} {bs : List Addr} (nb : ∀ b ∈ bs, ∃ o, H b = some o ∧ ∀ xs, o ≠ .tup xs) : ∀ {as : List Addr} {F : List (List Int)}, AsAt H as F → (∀ p ∈ F, p.length ≤ w ∧ ∀ x ∈ p, x.natAbs < 2 ^ 39 + w) → DA bs H w 1 (as.map V.ref) (F.map dT)
  | [], [], _, _ => .nil
  | [], _ :: _, h, _ => nomatch h.len
  | _ :: _, [], h, _ => nomatch h.len
  | a :: as, p :: F, h, b => by
    obtain ⟨b1, b2⟩ := b p (by simp)
    have ha := h.row 0 a p rfl rfl
    refine .cons (D.tup (k := 0) ha (fun m => ?_) (by simpa using b1) (DA.ofInts b2)) (AsAt.daB nb ⟨by simpa using h.len, fun k t s e1 e2 => h.row (k + 1) t s e1 e2⟩ fun s hs => b s (List.mem_cons_of_mem _ hs))
    obtain ⟨o, e, no⟩ := nb a m
    rw [ha] at e
    exact no _ (Option.some.inj e).symm

end
end Sw

set_option maxHeartbeats 2000000
namespace Sw
open PySem PySem.Spec PyProof.Rows L2
section
variable {P : Program} {w : World} {K : PySem.W.Frag} {mg : Str → Option Value} {base : Heap}
/-! ### a sway -/
theorem kFld {X : Cx} {K : PySem.W.Frag} {e : Expr} {f : Str} {pos : Pos} {ta : TE} (h : X.K = K) (he : PE X e ta) (hb : attributeBase e f X.env (eval e X.env) = eval e X.env) : PE X (.Attribute e f pos) (tFld K ta f) := by
  subst h
  exact pe_fld he hb
abbrev CS (K : PySem.W.Frag) : Addr := He.ga K "Sway"
theorem hg' : ¬ (("home" : Str) = "grips") := by decide +kernel
theorem hs' : ¬ (("home" : Str) = "standings") := by decide +kernel
theorem hn' : ¬ (("home" : Str) = "gone") := by decide +kernel
theorem gs' : ¬ (("grips" : Str) = "standings") := by decide +kernel
theorem gn' : ¬ (("grips" : Str) = "gone") := by decide +kernel
theorem sn' : ¬ (("standings" : Str) = "gone") := by decide +kernel
def fldW (x g d : Addr) (n : Int) : List (Str × V) := putF "gone" (.int n) (putF "standings" (.ref d) (putF "grips" (.ref g) (putF "home" (.ref x) [])))
theorem fldW_eq (x g d : Addr) (n : Int) : fldW x g d n = [(("home" : Str), V.ref x), (("grips" : Str), V.ref g), (("standings" : Str), V.ref d), (("gone" : Str), V.int n)] := by
  simp only [fldW, putF, hg', hs', hn', gs', gn', sn', if_false]
theorem fldW_h (x g d : Addr) (n : Int) : (fldW x g d n).lookup ("home" : Str) = some (.ref x) := by
  unfold fldW
  rw [lookup_putF, if_neg hn', lookup_putF, if_neg hs', lookup_putF, if_neg hg', lookup_putF, if_pos rfl]
theorem fldW_g (x g d : Addr) (n : Int) : (fldW x g d n).lookup ("grips" : Str) = some (.ref g) := by
  unfold fldW
  rw [lookup_putF, if_neg gn', lookup_putF, if_neg gs', lookup_putF, if_pos rfl]
theorem fldW_s (x g d : Addr) (n : Int) : (fldW x g d n).lookup ("standings" : Str) = some (.ref d) := by
  unfold fldW
  rw [lookup_putF, if_neg sn', lookup_putF, if_pos rfl]
theorem fldW_n (x g d : Addr) (n : Int) : (fldW x g d n).lookup ("gone" : Str) = some (.int n) := by
  unfold fldW
  rw [lookup_putF, if_pos rfl]
theorem fldW_no (x g d : Addr) (n : Int) {m : Str} (h1 : ¬ m = "gone") (h2 : ¬ m = "standings") (h3 : ¬ m = "grips") (h4 : ¬ m = "home") : (fldW x g d n).lookup m = none := by
  unfold fldW
  rw [lookup_putF, if_neg h1, lookup_putF, if_neg h2, lookup_putF, if_neg h3, lookup_putF, if_neg h4]
  rfl
theorem fldW_putS (x g d d' : Addr) (n : Int) : putF "standings" (.ref d') (fldW x g d n) = fldW x g d' n := by
  simp only [fldW_eq, putF, hs', gs', if_false, if_true]
theorem fldW_putN (x g d : Addr) (n m : Int) : putF "gone" (.int m) (fldW x g d n) = fldW x g d m := by
  simp only [fldW_eq, putF, hn', gn', sn', if_false, if_true]
theorem fldW_len (x g d : Addr) (n : Int) : (fldW x g d n).length < 1000 := by
  rw [fldW_eq]
  show 4 < 1000
  decide
theorem AsAt.keepI {H H' : Hp} {as : List Addr} {past : List (List Int)} {y C dx : Addr} {fs : List (Str × V)} (h : AsAt H as past) (hy : H y = some (.ins C dx fs)) (k : Kp [y] H H') : AsAt H' as past :=
  ⟨h.len, fun m t st e1 e2 => k _ _ (h.row m t st e1 e2) fun z => by
    have g := h.row m t st e1 e2
    rw [List.mem_singleton.mp z, hy] at g
    cases g⟩
/-- a sway with its hall, its held ones and its rows -/
structure SwAt (K : PySem.W.Frag) (H : Hp) (y x g d : Addr) (n : Int) (fx : List (Int × Int)) (past : List (List Int)) : Prop where
  ex : ∃ dx, H y = some (.ins (CS K) dx (fldW x g d n))
  hg : H g = some (.dK (kvI fx))
  hd : ∃ qs : List Addr, H d = some (.lst (qs.map V.ref)) ∧ AsAt H qs past
theorem SwAt.keep {H H' : Hp} {y x g d : Addr} {n : Int} {fx : List (Int × Int)} {past : List (List Int)} (h : SwAt K H y x g d n fx past) (k : Kp [] H H') : SwAt K H' y x g d n fx past := by
  obtain ⟨dx, e⟩ := h.ex
  obtain ⟨qs, e1, e2⟩ := h.hd
  exact ⟨⟨dx, k _ _ e (by simp)⟩, k _ _ h.hg (by simp), qs, k _ _ e1 (by simp), e2.keep0 k⟩
def sp_winit (K : PySem.W.Frag) : Sp := fun vs H Q _ => ∃ (y dx x a h : Addr) (kh : Bool) (past : List (List Int)) (fx : List (Int × Int)), vs = [.ref y, .ref x, .ref a, .ref h] ∧ H y = some (.ins (CS K) dx []) ∧ (∀ H', Kp [y] H H' → PastAt H' a past) ∧ (∀ H', Kp [y] H H' → PairsAt K H' h kh fx) ∧ (fx.map (·.1)).Nodup ∧ fx.length ≤ 900 ∧ past.length ≤ 900 ∧ (∀ st ∈ past, st.length ≤ 900) ∧
  ∀ (g d : Addr) (H' : Hp), H g = none → H d = none → Kp [y] H H' → SwAt K H' y x g d 0 fx (past.map (hold fx)) → Q .non H'
theorem ok_winit (T : Tx K mg) : FnOk P w K mg base CX0 2 (He.fAd K ("Sway", some "__init__")) T.fd_Sway___init__ p_Sway___init__ (sp_winit K) := by
  have G_grips_of := ok_grips (P := P) (w := w) (base := base) T
  have G_as_held := ok_as_held (P := P) (w := w) (base := base) T
  refine T.F_Sway___init__.ok sc_Sway___init__ (fun vs H Q E h => ?_) (fun cdv A outer s H vs Q E hr h => ?_)
  · obtain ⟨_, _, _, _, _, _, _, _, rfl, _⟩ := h
    rfl
  · obtain ⟨y, dx, x, a, h, kh, past, fx, rfl, hy, hP, hF, nd, l9, p9, lst, q⟩ := h
    refine ⟨_, PSs.nox (pss_cons (ps_fld (pv 0) (pv 1) rfl)
      (pss_cons (ps_fld (pv 0) (pe_call G_grips_of (hr.mono (by first | decide | omega)) rfl T.g_grips_of T.F_grips_of.kp T.bd_grips_of .nil pass0 (pa_cons (pv 3) pa_nil)) rfl)
      (pss_cons (ps_fld (pv 0) (pe_lc (own := [("standing", 4)]) (g := (gName 4)) (tt := tYes) rfl sc_Sway___init__.nd (pi_sq (pv 2)) (blkOk_by (own := [("standing", 4)]) (N := n_Sway___init__) (sc := defScope s_Sway___init__) (by decide +kernel)) (fun _ _ _ _ _ => (pg_name (i := 4) sc_Sway___init__.nd rfl (by first | exact Or.inl rfl | exact Or.inr rfl))) (fun _ _ _ _ _ => pts_nil) (fun _ _ _ _ _ => (pe_call G_as_held (hr.mono (by first | decide | omega)) rfl T.g_as_held T.F_as_held.kp T.bd_as_held .nil pass0 (pa_cons (pv 4) (pa_cons (kFld (K := K) rfl (pv 0) (by rfl)) pa_nil))))) rfl)
      (pss_one (ps_fld (pv 0) pe_int rfl))))), ?_⟩
    refine ⟨_, rfl, _, rfl, y, CS K, dx, [], rfl, hy, T.cl_Sway, T.na_Sway_home, (by show 0 < 1000; decide), ?_⟩
    have k1 : Kp [y] H (upd H y (.ins (CS K) dx (putF "home" (.ref x) []))) := Kp.rfl'.put (by simp)
    have hy1 : (upd H y (.ins (CS K) dx (putF "home" (.ref x) []))) y = some (.ins (CS K) dx (putF "home" (.ref x) [])) := upd_same
    generalize upd H y (.ins (CS K) dx (putF "home" (.ref x) [])) = H1 at k1 hy1 ⊢
    refine ⟨_, rfl, h, kh, fx, rfl, hF H1 k1, nd, l9, fun g H2 fg k2 hg => ?_⟩
    have hy2 := k2 _ _ hy1 (by simp)
    have ngy : g ≠ y := (ne_of_none hy1 fg).symm
    refine ⟨_, rfl, y, CS K, dx, _, rfl, hy2, T.cl_Sway, T.na_Sway_grips, (by show 1 < 1000; decide), ?_⟩
    have k3 : Kp [y] H2 (upd H2 y (.ins (CS K) dx (putF "grips" (.ref g) (putF "home" (.ref x) [])))) := Kp.rfl'.put (by simp)
    have hy3 : (upd H2 y (.ins (CS K) dx (putF "grips" (.ref g) (putF "home" (.ref x) [])))) y = some (.ins (CS K) dx (putF "grips" (.ref g) (putF "home" (.ref x) []))) := upd_same
    generalize upd H2 y (.ins (CS K) dx (putF "grips" (.ref g) (putF "home" (.ref x) []))) = H3 at k3 hy3 ⊢
    have k03 : Kp [y] H H3 := (k1.trans (k2.sub (by simp))).trans k3
    have hg3 := k3 _ _ hg (by simpa using ngy)
    have lg3 : (putF "grips" (.ref g) (putF "home" (.ref x) [])).lookup ("grips" : Str) = some (.ref g) := by rw [lookup_putF, if_pos rfl]
    have fg0 : H g = none := k1.free fg (by simpa using ngy)
    obtain ⟨kd, as, ha, la, al⟩ := (hP H3 k03).ex
    refine ⟨_, rfl, a, kd, _, rfl, sqo_k ha, fun d hd => lc_it (walk_sq (K := K) (a := a) (kd := kd) (xs := as.map V.ref)) (fun j H4 => ∃ qs : List Addr, H4 d = some (.lst (qs.map V.ref)) ∧ AsAt H4 qs ((past.take j).map (hold fx)) ∧ Kp [] H3 H4) ?_ ?_ ?_ ?_⟩
    · exact ⟨[], upd_same, ⟨by simp, fun i t st e => by simp at e⟩, Kp.rfl'.new hd⟩
    · rintro j H4 _ ⟨_, _, _, k4⟩
      exact sqo_k (k4 _ _ ha (by simp))
    · rintro j v H4 H4' hj ⟨qs, h4, aq, k4⟩ ⟨rfl, hv⟩
      rw [List.getElem?_map] at hv
      obtain ⟨t, ht, rfl⟩ := Option.map_eq_some_iff.mp hv
      have lj : j < past.length := by
        rw [List.length_map] at hj
        omega
      have es : past[j]? = some past[j] := by simp
      have ndy : d ≠ y := (ne_of_none hy3 hd).symm
      refine ⟨rfl, yesT ⟨_, rfl, _, rfl, y, CS K, dx, _, _, rfl, k4 _ _ hy3 (by simp), T.cl_Sway, T.na_Sway_grips, lg3, t, g, false, past[j], fx, rfl, k4 _ _ (al j t _ ht es) (by simp), k4 _ _ hg3 (by simp), lst _ (List.getElem_mem lj), fun p H5 fp k5 hp => ?_⟩⟩
      have h5 := k5 _ _ h4 (by simp)
      have lq := aq.len
      rw [List.length_map, List.length_take] at lq
      have aq5 := (aq.keep0 k5).push hp
      have kf : Kp [d] H5 (upd H5 d (.lst (qs.map V.ref ++ [V.ref p]))) := Kp.rfl'.put (by simp)
      refine ⟨_, h5, ?_, qs ++ [p], by rw [upd_same]; simp, ?_, (k4.trans k5).own hd⟩
      · rw [List.length_map]
        exact small1000 (by omega)
      · have e : (past.take (j + 1)).map (hold fx) = (past.take j).map (hold fx) ++ [hold fx past[j]] := by
          rw [List.take_add_one, es, List.map_append]
          rfl
        rw [e]
        exact aq5.keep h5 kf
    · rintro H4 ⟨qs, h4, aq, k4⟩
      rw [List.length_map, la, List.take_length] at aq
      have hy4 := k4 _ _ hy3 (by simp)
      have ndy : d ≠ y := (ne_of_none hy3 hd).symm
      refine ⟨_, rfl, y, CS K, dx, _, rfl, hy4, T.cl_Sway, T.na_Sway_standings, (by show 2 < 1000; decide), ?_⟩
      have k5 : ∀ v, Kp [y] H4 (upd H4 y v) := fun v => Kp.rfl'.put (by simp)
      refine ⟨_, rfl, y, CS K, dx, _, rfl, upd_same, T.cl_Sway, T.na_Sway_gone, (by show 3 < 1000; decide), ?_⟩
      have k6 : Kp [y] H4 (upd (upd H4 y (.ins (CS K) dx (putF "standings" (.ref d) (putF "grips" (.ref g) (putF "home" (.ref x) []))))) y (.ins (CS K) dx (fldW x g d 0))) := (k5 _).trans (Kp.rfl'.put (by simp))
      refine q g d _ fg0 (k03.free hd (by simpa using ndy)) (k03.trans ((k4.sub (by simp)).trans k6)) ⟨⟨dx, upd_same⟩, k6 _ _ (k4 _ _ hg3 (by simp)) (by simpa using ngy), qs, k6 _ _ h4 (by simpa using ndy), aq.keepI hy4 k6⟩

end
end Sw

set_option maxHeartbeats 2000000
namespace Sw
open PySem PySem.Spec PyProof.Rows L2
section
variable {P : Program} {w : World} {K : PySem.W.Frag} {mg : Str → Option Value} {base : Heap}
theorem atI_lastR {qs : List Addr} (h : qs ≠ []) : atI (qs.map V.ref) (-1) = some (V.ref (qs.getLast h)) := by
  have e : qs.map V.ref = (qs.dropLast).map V.ref ++ [V.ref (qs.getLast h)] := by
    rw [← List.map_singleton, ← List.map_append, List.dropLast_concat_getLast h]
  rw [e]
  exact atI_last _ _
theorem AsAt.drop {H : Hp} {as : List Addr} {past : List (List Int)} (h : AsAt H as past) (k : Nat) : AsAt H (as.drop k) (past.drop k) :=
  ⟨by rw [List.length_drop, List.length_drop, h.len], fun m t st e1 e2 => h.row (k + m) t st (by rwa [List.getElem?_drop] at e1) (by rwa [List.getElem?_drop] at e2)⟩
/-- so many beats on, the rows that a sway keeps -/
def swR (rows steps : List (List Int)) (ws : List Int) (fx : List (Int × Int)) : Nat → List (List Int) → List (List Int)
  | 0, F => F
  | n + 1, F => (swR rows steps ws fx n F).drop 1 ++ [nxt rows steps ws fx (swR rows steps ws fx n F)]
theorem swR_len {rows steps : List (List Int)} {ws : List Int} {fx : List (Int × Int)} {F : List (List Int)} (h : 1 ≤ F.length) : ∀ n, (swR rows steps ws fx n F).length = F.length
  | 0 => rfl
  | n + 1 => by
    rw [swR, List.length_append, List.length_drop, swR_len h n]
    show F.length - 1 + 1 = _
    omega
theorem swR_all {rows steps : List (List Int)} {ws : List Int} {fx : List (Int × Int)} {F : List (List Int)} {c : Nat} (hl : steps.length = rows.length) (hc : rows.length = c) (h : ∀ st ∈ F, st.length = c) : ∀ n, ∀ st ∈ swR rows steps ws fx n F, st.length = c
  | 0 => h
  | n + 1 => fun st hs => by
    rcases List.mem_append.mp hs with z | z
    · exact swR_all hl hc h n st (List.mem_of_mem_drop z)
    · rw [List.mem_singleton.mp z, nxt_len hl, hc]
def sp_wpast (K : PySem.W.Frag) : Sp := fun vs H Q _ => ∃ (y x g d : Addr) (n : Int) (fx : List (Int × Int)) (past : List (List Int)), vs = [.ref y] ∧ SwAt K H y x g d n fx past ∧ ∀ (a : Addr) (H' : Hp) (qs : List Addr), H a = none → Kp [] H H' → H' a = some (.lst (qs.map V.ref)) → AsAt H' qs past → Q (.ref a) H'
theorem ok_wpast (T : Tx K mg) : FnOk P w K mg base CX0 1 (He.fAd K ("Sway", some "past")) T.fd_Sway_past p_Sway_past (sp_wpast K) := by
  refine T.F_Sway_past.ok sc_Sway_past (fun vs H Q E h => ?_) (fun cdv A outer s H vs Q E hr h => ?_)
  · obtain ⟨_, _, _, _, _, _, _, rfl, _⟩ := h
    rfl
  · obtain ⟨y, x, g, d, n, fx, past, rfl, S, q⟩ := h
    refine ⟨_, PSs.nox (pss_one (ps_ret (pe_callTy call_list_of (by rfl) T.b_list (by decide +kernel) (pa_cons (pe_fld (pv 0) rfl) pa_nil)))), ?_⟩
    obtain ⟨dx, hy⟩ := S.ex
    obtain ⟨qs, hd, aq⟩ := S.hd
    refine ⟨_, rfl, y, CS K, dx, _, _, rfl, hy, T.cl_Sway, T.na_Sway_standings, fldW_s _ _ _ _, d, _, rfl, .inl (SqL.of hd), fun l hl => ?_⟩
    exact q l _ qs hl (Kp.rfl'.new hl) upd_same (aq.keep0 (Kp.rfl'.new hl))
def sp_wbeat (K : PySem.W.Frag) : Sp := fun vs H Q _ => ∃ (y x g d : Addr) (n : Int) (m : Nat) (fx : List (Int × Int)) (past rows steps : List (List Int)) (ws : List Int) (bs : List Addr) (w c : Nat), vs = [.ref y, .int m] ∧ m ≤ 900 ∧ SwAt K H y x g d n fx past ∧ HallAt K bs H w x rows steps ws ∧ y ∈ bs ∧ 1 ≤ past.length ∧ past.length ≤ 5 ∧ (∀ st ∈ past, st.length = c) ∧ rows.length = c ∧ steps.length = c ∧ c ≤ 900 ∧ w ≤ 900 ∧ Bd 1000 ws ∧ (∀ r ∈ rows, Bd 1000 r) ∧
  ∀ (d' u : Addr) (R : List Int) (H' : Hp), Kp [y] H H' → SwAt K H' y x g d' (n + m) fx (swR rows steps ws fx m past) → (swR rows steps ws fx m past)[past.length - 1]? = some R → H' u = some (.tup (R.map V.int)) → (d' = d ∨ H d' = none) → Q (.ref u) H'
theorem ok_wbeat (T : Tx K mg) : FnOk P w K mg base CX0 5 (He.fAd K ("Sway", some "beat")) T.fd_Sway_beat p_Sway_beat (sp_wbeat K) := by
  have G_leant := ok_leant (P := P) (w := w) (base := base) T
  refine T.F_Sway_beat.ok sc_Sway_beat (fun vs H Q E h => ?_) (fun cdv A outer s H vs Q E hr h => ?_)
  · obtain ⟨_, _, _, _, _, _, _, _, _, _, _, _, _, _, rfl, _⟩ := h
    rfl
  · obtain ⟨y, x, g, d, n, m, fx, past, rows, steps, ws, bs, w', c, rfl, m9, S, hA, hyb, p1, p5, lst, lr, ls, c9, lw, bw, br, q⟩ := h
    refine ⟨_, PSs.nox (pss_cons (ps_for PassesOwn.never rfl (pi_range1 (by rfl) T.b_range (pa_cons (pv 1) pa_nil)) (pg_name (i := 2) sc_Sway_beat.nd rfl (by first | exact Or.inl rfl | exact Or.inr rfl))
      (pss_one (ps_fld (pv 0) (pe_op op_cat (pe_slice sl_list (pe_fld (pv 0) rfl) (po_some pe_int) po_none) (pe_lst (pa_cons (pe_call G_leant (hr.mono (by first | decide | omega)) rfl T.g_leant T.F_leant.kp T.bd_leant .nil pass0 (pa_cons (pe_fld (pv 0) rfl) (pa_cons (pe_fld (pv 0) rfl) (pa_cons (pe_fld (pv 0) rfl) pa_nil)))) pa_nil))) rfl)))
      (pss_cons (ps_fldaug (pv 0) (pv 1) in_add)
      (pss_one (ps_ret (pe_ix ix_list (pe_fld (pv 0) rfl) (pe_un un_neg pe_int) (fun _ _ => rfl)))))), ?_⟩
    refine ⟨_, rfl, _, rfl, by omega, by omega, for_range (n := ((m : Nat) : Int).toNat) (fun i σ H2 => ∃ (o2 : Option V) (d2 : Addr), σ = [some (.ref y), some (.int (m : Nat)), o2] ∧ SwAt K H2 y x g d2 n fx (swR rows steps ws fx i past) ∧ Kp [y] H H2 ∧ (d2 = d ∨ H d2 = none)) ?_ ?_ ?_⟩
    · exact ⟨_, d, rfl, S, Kp.rfl', .inl rfl⟩
    · rintro i σ H2 hi ⟨o2, d2, rfl, S2, k2, fd2⟩
      obtain ⟨dx, hy⟩ := S2.ex
      obtain ⟨qs, hd, aq⟩ := S2.hd
      have lF := swR_len (rows := rows) (steps := steps) (ws := ws) (fx := fx) p1 i
      have aF := swR_all (rows := rows) (steps := steps) (ws := ws) (fx := fx) (by omega) lr lst i
      have eN : swR rows steps ws fx (i + 1) past = (swR rows steps ws fx i past).drop 1 ++ [nxt rows steps ws fx (swR rows steps ws fx i past)] := rfl
      rw [eN]
      generalize swR rows steps ws fx i past = F at S2 aq lF aF eN ⊢
      refine gn ?_
      refine ⟨_, rfl, y, CS K, dx, _, _, rfl, hy, T.cl_Sway, T.na_Sway_standings, fldW_s _ _ _ _, _, rfl, d2, _, rfl, SqL.of hd, fun p1' hp1 => ?_⟩
      rw [cut_one]
      have k3 : Kp [] H2 (upd H2 p1' (.lst ((qs.map V.ref).drop 1))) := Kp.rfl'.new hp1
      have hp1' : (upd H2 p1' (.lst ((qs.map V.ref).drop 1))) p1' = some (.lst ((qs.drop 1).map V.ref)) := by rw [upd_same, List.map_drop]
      generalize upd H2 p1' (.lst ((qs.map V.ref).drop 1)) = H3 at k3 hp1' ⊢
      have S3 := S2.keep k3
      have hy3 := k3 _ _ hy (by simp)
      have k03 := k2.trans (k3.sub (by simp))
      refine ⟨_, rfl, y, CS K, dx, _, _, rfl, hy3, T.cl_Sway, T.na_Sway_home, fldW_h _ _ _ _, _, rfl, y, CS K, dx, _, _, rfl, hy3, T.cl_Sway, T.na_Sway_standings, fldW_s _ _ _ _, _, rfl, y, CS K, dx, _, _, rfl, hy3, T.cl_Sway, T.na_Sway_grips, fldW_g _ _ _ _, x, d2, g, rows, steps, ws, F, fx, bs, w', c, rfl, (hA.keep (k03.sub (by simpa using hyb))).s, (aq.keep0 k3).past (k3 _ _ hd (by simp)), S3.hg, by omega, by omega, aF, lr, ls, c9, lw, bw, br, fun p H4 fp k4 hp => ?_⟩
      have hp4 := k4 _ _ hp1' (by simp)
      have aq4 := (((aq.drop 1).keep0 k3).keep0 k4).push hp
      refine ⟨by show 1 ≤ sizeLine; decide, fun l hl => ?_⟩
      have k5 : Kp [] H4 (upd H4 l (.lst [V.ref p])) := Kp.rfl'.new hl
      have hl5 : (upd H4 l (.lst [V.ref p])) l = some (.lst [V.ref p]) := upd_same
      generalize upd H4 l (.lst [V.ref p]) = H5 at k5 hl5 ⊢
      have lq := aq.len
      refine ⟨p1', l, _, _, rfl, rfl, k5 _ _ hp4 (by simp), hl5, small1000 (by simp; omega), fun d3 hd3 => ?_⟩
      have k6 : Kp [] H5 (upd H5 d3 (.lst ((qs.drop 1).map V.ref ++ [V.ref p]))) := Kp.rfl'.new hd3
      have hd6 : (upd H5 d3 (.lst ((qs.drop 1).map V.ref ++ [V.ref p]))) d3 = some (.lst ((qs.drop 1 ++ [p]).map V.ref)) := by rw [upd_same]; simp
      generalize upd H5 d3 (.lst ((qs.drop 1).map V.ref ++ [V.ref p])) = H6 at k6 hd6 ⊢
      have k26 := k3.trans (k4.trans (k5.trans k6))
      have aq6 := (aq4.keep0 k5).keep0 k6
      have hy6 := k26 _ _ hy (by simp)
      have S6 := S2.keep k26
      refine ⟨_, rfl, y, CS K, dx, _, rfl, hy6, T.cl_Sway, T.na_Sway_standings, fldW_len _ _ _ _, ?_⟩
      rw [fldW_putS]
      have k7 : Kp [y] H6 (upd H6 y (.ins (CS K) dx (fldW x g d3 n))) := Kp.rfl'.put (by simp)
      have nd3 : d3 ≠ y := fun z => by
        rw [z, hy6] at hd6
        cases hd6
      have ngy : g ≠ y := fun z => by
        have := S6.hg
        rw [z, hy6] at this
        cases this
      have f3 : H d3 = none := k2.free ((k3.trans (k4.trans k5)).free hd3 (by simp)) (by simpa using nd3)
      exact ⟨_, d3, rfl, ⟨⟨dx, upd_same⟩, k7 _ _ S6.hg (by simpa using ngy), qs.drop 1 ++ [p], k7 _ _ hd6 (by simpa using nd3), aq6.keepI hy6 k7⟩, k2.trans ((k26.sub (by simp)).trans k7), .inr f3⟩
    · rintro σ H2 ⟨o2, d2, rfl, S2, k2, fd2⟩
      have em : ((m : Nat) : Int).toNat = m := by omega
      rw [em] at S2
      obtain ⟨dx, hy⟩ := S2.ex
      obtain ⟨qs, hd, aq⟩ := S2.hd
      have lF := swR_len (rows := rows) (steps := steps) (ws := ws) (fx := fx) p1 m
      refine ⟨_, rfl, y, CS K, dx, _, _, rfl, hy, T.cl_Sway, T.na_Sway_gone, fldW_n _ _ _ _, _, rfl, _, _, rfl, rfl, dx, _, hy, fldW_len _ _ _ _, ?_⟩
      rw [fldW_putN]
      have k3 : Kp [y] H2 (upd H2 y (.ins (CS K) dx (fldW x g d2 (n + m)))) := Kp.rfl'.put (by simp)
      have nd2 : d2 ≠ y := fun z => by
        rw [z, hy] at hd
        cases hd
      have ngy : g ≠ y := fun z => by
        have := S2.hg
        rw [z, hy] at this
        cases this
      have S3 : SwAt K (upd H2 y (.ins (CS K) dx (fldW x g d2 (n + m)))) y x g d2 (n + m) fx (swR rows steps ws fx m past) := ⟨⟨dx, upd_same⟩, k3 _ _ S2.hg (by simpa using ngy), qs, k3 _ _ hd (by simpa using nd2), aq.keepI hy k3⟩
      have aq3 := aq.keepI hy k3
      have hd3 := k3 _ _ hd (by simpa using nd2)
      have hy3 : (upd H2 y (.ins (CS K) dx (fldW x g d2 (n + m)))) y = some (.ins (CS K) dx (fldW x g d2 (n + m))) := upd_same
      generalize upd H2 y (.ins (CS K) dx (fldW x g d2 (n + m))) = H3 at k3 S3 aq3 hd3 hy3 ⊢
      have lq := aq3.len
      have nq : qs ≠ [] := fun z => by
        rw [z] at lq
        simp at lq
        omega
      obtain ⟨R, eR⟩ : ∃ R, (swR rows steps ws fx m past)[qs.length - 1]? = some R := ⟨_, List.getElem?_eq_getElem (by omega)⟩
      have hu := aq3.row (qs.length - 1) (qs.getLast nq) R (by rw [← List.getLast?_eq_getElem?, List.getLast?_eq_getLast nq]) eR
      refine ⟨_, rfl, y, CS K, dx, _, _, rfl, hy3, T.cl_Sway, T.na_Sway_standings, fldW_s _ _ _ _, 1, rfl, d2, _, -1, .ref (qs.getLast nq), rfl, rfl, SqL.of hd3, atI_lastR nq, ?_⟩
      exact q d2 _ R H3 (k2.trans k3) S3 (by rw [← lF, ← lq]; exact eR) hu fd2

end
end Sw

set_option maxHeartbeats 2000000
namespace Sw
open PySem PySem.Spec PyProof.Rows L2
section
variable {P : Program} {w : World} {K : PySem.W.Frag} {mg : Str → Option Value} {base : Heap}
theorem rowsII (rows : List (List Int)) : RowsD (dII rows) rows := ⟨true, rows.map dI, rfl, by simp, fun i e r h1 h2 => by
  rw [List.getElem?_map, h2] at h1
  cases h1
  exact ⟨true, rfl⟩⟩
theorem init_of {b x dx : Addr} {H : Hp} {v1 v2 v3 : V} {rows steps : List (List Int)} {ws : List Int} {n : Nat} {Q : VK} {E : XK} (fx : H x = none) (fdx : H dx = none) (nxd : dx ≠ x) (hB : Bx H b n) (d1 : D [b] H 12 2 v1 (dII rows)) (d2 : D [b] H 12 2 v2 (dII steps)) (d3 : D [b] H 12 2 v3 (dI ws)) (ok : HallOk rows steps ws)
    (q : ∀ H', HallAt K [b] H' 12 x rows steps ws → (∀ cs, Kp cs H H') → Q .non H') : sp_init K [.ref x, v1, v2, v3] (upd (upd H dx (.own x)) x (.ins (C0 K) dx [])) Q E := by
  obtain ⟨ob, eb⟩ := hB.at'
  have fx2 : (upd H dx (.own x)) x = none := by
    rw [upd_ne nxd.symm]
    exact fx
  have km : ∀ cs, Kp cs H (upd (upd H dx (.own x)) x (.ins (C0 K) dx [])) := fun cs => (Kp.rfl'.new fdx).new fx2
  have nxb : x ≠ b := (ne_of_none eb fx).symm
  exact ⟨x, dx, v1, v2, v3, _, _, _, rows, steps, ws, [b], [b], 12, 2, rfl, upd_same, d1.keep (km _), d2.keep (km _), d3.keep (km _), rowsII _, rowsII _, ⟨true, rfl⟩, by decide, ok, (fun c hc => by obtain rfl := List.mem_singleton.mp hc; exact ⟨_, km [] _ _ eb (by simp)⟩), (fun c hc => hc), by simpa using nxb, fun H' hA kx => q H' hA fun cs a o e n => kx a o (km [] a o e (by simp)) (by simpa using ne_of_none e fx)⟩
theorem eqvI : ∀ a b : List Int, PyData.eqvAll (a.map PyData.int) (b.map PyData.int) = decide (a = b)
  | [], [] => by simp [PyData.eqvAll]
  | [], _ :: _ => by simp [PyData.eqvAll]
  | _ :: _, [] => by simp [PyData.eqvAll]
  | x :: a, y :: b => by
    simp only [List.map_cons, PyData.eqvAll, PyData.eqv, eqvI a b]
    by_cases h : x = y <;> by_cases g : a = b <;> simp [h, g]
theorem eqvT (a b : List Int) : PyData.eqv (dT a) (dT b) = decide (a = b) := by
  simp only [PyData.eqv]
  exact eqvI a b
theorem layI : ∀ a : List Int, PyData.canLayAll0 (a.map PyData.int) = true ∧ PyData.depthAll (a.map PyData.int) = 0
  | [] => by simp [PyData.canLayAll0, PyData.depthAll]
  | x :: a => by
    obtain ⟨h1, h2⟩ := layI a
    simp [PyData.canLayAll0, PyData.canLay0, PyData.depthAll, PyData.depth, h1, h2]
theorem layT (a : List Int) : PyData.canLay0 (dT a) = true ∧ PyData.depth (dT a) ≤ 1 := by
  obtain ⟨h1, h2⟩ := layI a
  simp [PyData.canLay0, PyData.depth, h1, h2]
theorem shT (a : List Int) : SeqAt.shaped (dT a) = true := by
  obtain ⟨h1, h2⟩ := layT a
  unfold SeqAt.shaped
  rw [h1, decide_eq_true (by omega)]
  rfl
theorem eqvL (a b : List Int) : PyData.eqv (dI a) (dI b) = decide (a = b) := by
  simp only [PyData.eqv]
  exact eqvI a b
theorem shL (a : List Int) : SeqAt.shaped (dI a) = true := by
  obtain ⟨h1, h2⟩ := layI a
  unfold SeqAt.shaped
  have h3 : PyData.depth (dI a) = 1 := by
    show PyData.depth (.list (a.map PyData.int)) = 1
    rw [PyData.depth, h2]
  rw [decide_eq_true (show PyData.depth (dI a) ≤ 64 by omega)]
  show (PyData.canLay0 (.list (a.map PyData.int)) && true) = true
  rw [PyData.canLay0, h1]
  rfl
theorem lk_iff {i v : Int} : ∀ {fx : List (Int × Int)}, (fx.map (·.1)).Nodup → (lk fx i = some v ↔ (i, v) ∈ fx)
  | [], _ => by simp [lk]
  | p :: fx, h => by
    rw [List.map_cons] at h
    obtain ⟨h1, h2⟩ := List.nodup_cons.mp h
    have ih := lk_iff (i := i) (v := v) h2
    by_cases c : p.1 = i
    · have e : lk (p :: fx) i = some p.2 := by simp [lk, List.find?_cons, c]
      rw [e]
      constructor
      · intro z
        cases z
        rw [← c]
        exact List.mem_cons_self ..
      · intro m
        rcases List.mem_cons.mp m with z | z
        · rw [← z]
        · exact absurd (List.mem_map.mpr ⟨_, z, c.symm⟩) h1
    · have e : lk (p :: fx) i = lk fx i := by simp [lk, List.find?_cons, c]
      rw [e, ih, List.mem_cons]
      constructor
      · exact .inr
      · rintro (z | z)
        · exact absurd (by rw [← z]) c
        · exact z
theorem goR_bd {rows steps : List (List Int)} {ws : List Int} {fx : List (Int × Int)} {f : List (List Int)} {m : Int} (h1 : ∀ p ∈ fx, -m ≤ p.2 ∧ p.2 ≤ m) (h2 : ∀ r ∈ steps, (r.length : Int) ≤ m) (m0 : 0 ≤ m) (h : ∀ st ∈ f, Bd m st) : ∀ (n : Nat), ∀ st ∈ goR rows steps ws fx n f, Bd m st
  | 0 => h
  | n + 1 => fun st hs => by
    unfold goR at hs
    rcases List.mem_append.mp hs with z | z
    · exact goR_bd h1 h2 m0 h n st z
    · rw [List.mem_singleton.mp z]
      exact nxt_bd h1 h2 m0

end
end Sw

set_option maxHeartbeats 2000000
namespace Sw
open PySem PySem.Spec PyProof.Rows L2
section
variable {P : Program} {w : World} {K : PySem.W.Frag} {mg : Str → Option Value} {base : Heap}
theorem atI_m1 {xs : List V} {v : V} (h : xs[xs.length - 1]? = some v) : atI xs (-1) = some v := by
  have ne : xs ≠ [] := by
    rintro rfl
    simp at h
  have z := atI_last xs.dropLast (xs.getLast ne)
  rw [List.dropLast_concat_getLast] at z
  rw [z, List.getLast_eq_getElem]
  exact congrArg some (List.getElem?_eq_some_iff.mp h).2
/-! ### mirrors -/
def mir (ts st : List Int) : List Int := List.zipWith (· - ·) ts st
theorem mir_len {ts st : List Int} (h : st.length = ts.length) : (mir ts st).length = ts.length := by
  unfold mir
  rw [List.length_zipWith]
  omega
theorem mir_at {ts st : List Int} {i : Nat} {t x : Int} (h1 : ts[i]? = some t) (h2 : st[i]? = some x) : (mir ts st)[i]? = some (t - x) := by
  unfold mir
  rw [List.getElem?_zipWith, h1, h2]
theorem mir_mir {ts st : List Int} (h : st.length = ts.length) : mir ts (mir ts st) = st := by
  apply List.ext_getElem?
  intro i
  by_cases c : i < ts.length
  · have e1 : ts[i]? = some ts[i] := by simp
    have e2 : st[i]? = some (st[i]'(by omega)) := by simp
    rw [mir_at e1 (mir_at e1 e2), e2]
    congr 1
    omega
  · rw [List.getElem?_eq_none (by rw [mir_len (mir_len h)]; omega), List.getElem?_eq_none (by omega)]
theorem dot_mir : ∀ {r ts p : List Int}, p.length = ts.length → dot r (mir ts p) = dot r ts - dot r p
  | [], _, _, _ => rfl
  | _ :: _, [], [], _ => by
    show dot _ [] = dot _ [] - dot _ []
    rw [dot_nilr]
    rfl
  | _ :: _, [], _ :: _, h => nomatch h
  | _ :: _, _ :: _, [], h => nomatch h
  | x :: r, t :: ts, y :: p, h => by
    have ih := dot_mir (r := r) (ts := ts) (p := p) (by simpa using h)
    have e : mir (t :: ts) (y :: p) = (t - y) :: mir ts p := rfl
    rw [e, dot_cons, dot_cons, dot_cons, ih, Int.mul_sub]
    omega
theorem lawP_mir {r ts : List Int} : ∀ {ws : List Int} {ps : List (List Int)}, ws.length ≤ ps.length → (∀ p ∈ ps, p.length = ts.length) → lawP ws (ps.map (mir ts)) r = ws.sum * dot r ts - lawP ws ps r
  | [], ps, _, _ => by
    rw [lawP_nil, lawP_nil, List.sum_nil, Int.zero_mul]
    rfl
  | _ :: _, [], h, _ => by simp at h
  | w :: ws, p :: ps, h, hp => by
    have ih := lawP_mir (r := r) (ts := ts) (ws := ws) (ps := ps) (by simpa using h) fun q hq => hp q (List.mem_cons_of_mem _ hq)
    rw [List.map_cons, lawP_cons, lawP_cons, ih, dot_mir (hp p (by simp)), List.sum_cons, Int.mul_sub, Int.add_mul]
    omega
theorem bal_iff {r : List Int} {m : Int} : balB r m = true ↔ ∀ (i : Nat) (x y : Int), r[i]? = some x → r[r.length - 1 - i]? = some y → x + y = m + 1 := by
  unfold balB
  rw [List.all_eq_true]
  constructor
  · intro h i x y hx hy
    have li := (List.getElem?_eq_some_iff.mp hx).1
    have er : r.reverse[i]? = some y := by rw [List.getElem?_reverse li]; exact hy
    have z := h (decide (V.int (x + y) = V.int (m + 1))) (by
      refine List.mem_of_getElem? (i := i) ?_
      rw [List.getElem?_zipWith, hx, er])
    have z := of_decide_eq_true z
    injection z
  · intro h b hb
    obtain ⟨i, hi, rfl⟩ := List.getElem_of_mem hb
    rw [List.length_zipWith, List.length_reverse] at hi
    have li : i < r.length := by omega
    rw [List.getElem_zipWith]
    have e1 : r[i]? = some r[i] := by simp
    have e2 : r[r.length - 1 - i]? = some (r.reverse[i]'(by rw [List.length_reverse]; exact li)) := by
      rw [← List.getElem?_reverse li]
      exact List.getElem?_eq_getElem _
    have z := h i _ _ e1 e2
    show decide (V.int (r[i] + r.reverse[i]'(by rw [List.length_reverse]; exact li)) = V.int (m + 1)) = true
    rw [z]
    exact decide_eq_true rfl
theorem bal_rev {r : List Int} {m : Int} (h : balB r m = true) : r.map (fun x => m + 1 - x) = r.reverse := by
  apply List.ext_getElem?
  intro i
  rw [List.getElem?_map]
  by_cases c : i < r.length
  · have e1 : r[i]? = some r[i] := by simp
    have e2 : r[r.length - 1 - i]? = some (r[r.length - 1 - i]'(by omega)) := by simp
    have z := bal_iff.mp h i _ _ e1 e2
    rw [List.getElem?_reverse c, e1, e2]
    show some (m + 1 - r[i]) = _
    congr 1
    omega
  · rw [List.getElem?_eq_none (by omega), List.getElem?_eq_none (by rw [List.length_reverse]; omega)]
    rfl
theorem cnt_bal {r : List Int} {m p : Int} (h : balB r m = true) : cnt r (m - p) = r.length - cnt r p := by
  have e : cnt r p = ((r.map fun x => m + 1 - x).filter fun x => decide (x ≤ p)).length := by
    rw [bal_rev h]
    unfold cnt
    rw [List.filter_reverse, List.length_reverse]
  rw [e, List.filter_map, List.length_map]
  unfold cnt
  have z := List.length_eq_countP_add_countP (fun x : Int => decide (x ≤ m - p)) (l := r)
  rw [List.countP_eq_length_filter, List.countP_eq_length_filter] at z
  have e2 : (r.filter ((fun x => decide (x ≤ p)) ∘ fun x => m + 1 - x)) = r.filter fun x => !decide (x ≤ m - p) := by
    refine List.filter_congr fun x _ => ?_
    show decide (m + 1 - x ≤ p) = !decide (x ≤ m - p)
    rw [← decide_not]
    exact decide_eq_decide.mpr ⟨fun h => by omega, fun h => by omega⟩
  rw [e2]
  have e3 : (r.filter fun a => decide ¬(decide (a ≤ m - p)) = true) = r.filter fun x => !decide (x ≤ m - p) := by
    refine List.filter_congr fun x _ => ?_
    by_cases c : x ≤ m - p <;> simp [c]
  rw [e3] at z
  omega
/-- who is held, the mirrored way -/
def agn (ts : List Int) (fx : List (Int × Int)) : List (Int × Int) := fx.map fun p => (p.1, ts.getD p.1.toNat 0 - p.2)
theorem agn_keys {ts : List Int} {fx : List (Int × Int)} : (agn ts fx).map (·.1) = fx.map (·.1) := by
  unfold agn
  rw [List.map_map]
  rfl
theorem lk_agn {ts : List Int} {i : Nat} : ∀ {fx : List (Int × Int)}, lk (agn ts fx) (i : Int) = (lk fx (i : Int)).map fun v => ts.getD i 0 - v
  | [] => rfl
  | p :: fx => by
    have ih := lk_agn (ts := ts) (i := i) (fx := fx)
    by_cases c : p.1 = (i : Int)
    · have e1 : lk (p :: fx) (i : Int) = some p.2 := by simp [lk, c]
      have e2 : lk (agn ts (p :: fx)) (i : Int) = some (ts.getD p.1.toNat 0 - p.2) := by simp [lk, agn, c]
      rw [e1, e2, c]
      rfl
    · have e1 : lk (p :: fx) (i : Int) = lk fx (i : Int) := by simp [lk, c]
      have e2 : lk (agn ts (p :: fx)) (i : Int) = lk (agn ts fx) (i : Int) := by simp [lk, agn, c]
      rw [e1, e2, ih]
theorem hold_mir {ts st : List Int} {fx : List (Int × Int)} (h : st.length = ts.length) : hold (agn ts fx) (mir ts st) = mir ts (hold fx st) := by
  apply List.ext_getElem?
  intro i
  by_cases c : i < ts.length
  · have e1 : ts[i]? = some ts[i] := by simp
    have e2 : st[i]? = some (st[i]'(by omega)) := by simp
    rw [hold_at (mir_at e1 e2), mir_at e1 (hold_at e2), lk_agn]
    have e3 : ts.getD i 0 = ts[i] := by rw [List.getD_eq_getElem?_getD, e1]; rfl
    cases lk fx (i : Nat) with
    | none => rfl
    | some v =>
      show some (ts.getD i 0 - v) = some (ts[i] - v)
      rw [e3]
  · rw [List.getElem?_eq_none (by rw [hold_len, mir_len h]; omega), List.getElem?_eq_none (by rw [mir_len (by rw [hold_len]; exact h)]; omega)]
/-- all are balanced -/
def BalA (rows steps : List (List Int)) (ws : List Int) : Prop := ∀ (i : Nat) (r s : List Int), rows[i]? = some r → steps[i]? = some s → balB s (midR ws (topsOf steps) r) = true
theorem tops_len {steps : List (List Int)} : (topsOf steps).length = steps.length := by simp [topsOf]
theorem nxt_mir {rows steps : List (List Int)} {ws : List Int} {fx : List (Int × Int)} {F : List (List Int)} (hl : steps.length = rows.length) (hb : BalA rows steps ws) (hw : ws.length ≤ F.length) (hF : ∀ p ∈ F, p.length = steps.length) : nxt rows steps ws (agn (topsOf steps) fx) (F.map (mir (topsOf steps))) = mir (topsOf steps) (nxt rows steps ws fx F) := by
  unfold nxt
  rw [← hold_mir (by rw [List.length_zipWith, List.length_map, tops_len]; omega)]
  congr 1
  apply List.ext_getElem?
  intro i
  by_cases c : i < rows.length
  · have er : rows[i]? = some rows[i] := by simp
    have es : steps[i]? = some (steps[i]'(by omega)) := by simp
    have et : (topsOf steps)[i]? = some ((steps[i]'(by omega)).length : Int) := by unfold topsOf; rw [List.getElem?_map, es]; rfl
    rw [mir_at et (x := cnt (steps[i]'(by omega)) (lawP ws F.reverse rows[i])) (by rw [List.getElem?_zipWith, es, List.getElem?_map, er]; rfl), List.getElem?_zipWith, es, List.getElem?_map, er]
    show some (cnt _ (lawP ws (F.map (mir (topsOf steps))).reverse rows[i])) = _
    rw [← List.map_reverse, lawP_mir (by rw [List.length_reverse]; exact hw) (fun p hp => by rw [tops_len]; exact hF p (List.mem_reverse.mp hp))]
    have z := cnt_bal (p := lawP ws F.reverse rows[i]) (hb i _ _ er es)
    unfold midR at z
    rw [z]
  · rw [List.getElem?_eq_none (by rw [List.length_zipWith, List.length_map]; omega), List.getElem?_eq_none (by rw [mir_len (by rw [List.length_zipWith, List.length_map, tops_len]; omega), tops_len]; omega)]
theorem goR_mir {rows steps : List (List Int)} {ws : List Int} {fx : List (Int × Int)} {F : List (List Int)} (hl : steps.length = rows.length) (hb : BalA rows steps ws) (hw : ws.length ≤ F.length) (hF : ∀ p ∈ F, p.length = rows.length) : ∀ n, goR rows steps ws (agn (topsOf steps) fx) n (F.map (mir (topsOf steps))) = (goR rows steps ws fx n F).map (mir (topsOf steps))
  | 0 => rfl
  | n + 1 => by
    have e1 : goR rows steps ws (agn (topsOf steps) fx) (n + 1) (F.map (mir (topsOf steps))) = goR rows steps ws (agn (topsOf steps) fx) n (F.map (mir (topsOf steps))) ++ [nxt rows steps ws (agn (topsOf steps) fx) (goR rows steps ws (agn (topsOf steps) fx) n (F.map (mir (topsOf steps))))] := rfl
    have e2 : goR rows steps ws fx (n + 1) F = goR rows steps ws fx n F ++ [nxt rows steps ws fx (goR rows steps ws fx n F)] := rfl
    rw [e1, e2, goR_mir hl hb hw hF n, List.map_append, nxt_mir hl hb (by rw [goR_len]; omega) (fun p hp => by rw [hl]; exact goR_all hl hF n p hp)]
    rfl
theorem map_hold_mir {ts : List Int} {fx : List (Int × Int)} {past : List (List Int)} (h : ∀ st ∈ past, st.length = ts.length) : (past.map (mir ts)).map (hold (agn ts fx)) = (past.map (hold fx)).map (mir ts) := by
  rw [List.map_map, List.map_map]
  exact List.map_congr_left fun st hs => hold_mir (h st hs)
theorem hold_hold {fx : List (Int × Int)} {st : List Int} : hold fx (hold fx st) = hold fx st := by
  apply List.ext_getElem?
  intro i
  cases e : st[i]? with
  | none =>
    have l := List.getElem?_eq_none_iff.mp e
    rw [List.getElem?_eq_none_iff.mpr (by rw [hold_len, hold_len]; exact l), List.getElem?_eq_none_iff.mpr (by rw [hold_len]; exact l)]
  | some x =>
    rw [hold_at (hold_at e), hold_at e]
    cases lk fx (i : Nat) <;> rfl

end
end Sw

set_option maxHeartbeats 2000000
namespace Sw
open PySem PySem.Spec PyProof.Rows L2
section
variable {P : Program} {w : World} {K : PySem.W.Frag} {mg : Str → Option Value} {base : Heap}
def sp_lsums : Sp := fun vs H Q _ => ∃ (ra wa ta : Addr) (rows : List (List Int)) (ws ts : List Int) (bs : List Addr) (w : Nat), vs = [.ref ra, .ref wa, .ref ta] ∧ D bs H w 2 (.ref ra) (dII rows) ∧ H wa = some (.lst (ws.map V.int)) ∧ H ta = some (.lst (ts.map V.int)) ∧ (∀ r ∈ rows, Bd 60 r) ∧ Bd 20 ws ∧ ws.length ≤ 5 ∧ w ≤ 900 ∧
  ∀ (p : Addr) (H' : Hp), H p = none → Kp [] H H' → H' p = some (.lst ((rows.map (midR ws ts)).map V.int)) → Q (.ref p) H'
theorem ok_lsums (T : Tx K mg) : FnOk P w K mg base CX0 1 (He.fAd K ("_law_sums", none)) T.fd__law_sums p__law_sums sp_lsums := by
  refine T.F__law_sums.ok sc__law_sums (fun vs H Q E h => ?_) (fun cdv A outer s H vs Q E hr h => ?_)
  · obtain ⟨_, _, _, _, _, _, _, _, rfl, _⟩ := h
    rfl
  · obtain ⟨ra, wa, ta, rows, ws, ts, bs, w', rfl, dR, hwa, hta, br, bw, l5, lw, q⟩ := h
    refine ⟨_, PSs.nox (pss_one (ps_ret (pe_lc (own := [("_law_row", 3)]) (g := (gName 3)) (tt := tYes) rfl sc__law_sums.nd (pi_list (pv 0)) (blkOk_by (own := [("_law_row", 3)]) (N := n__law_sums) (sc := defScope s__law_sums) (by decide +kernel)) (fun _ _ _ _ _ => (pg_name (i := 3) sc__law_sums.nd rfl (by first | exact Or.inl rfl | exact Or.inr rfl))) (fun _ _ _ _ _ => pts_nil) (fun _ _ _ _ _ => (pe_op op_mul (pe_callB (kSum (K := K) rfl rfl) (by rfl) T.b_sum (by decide +kernel) (pa_cons (pv 1) pa_nil)) (pe_callB (kSum (K := K) rfl rfl) (by rfl) T.b_sum (by decide +kernel) (pa_cons (pe_lc (own := [("_law_tie", 4), ("_law_top", 5)]) (g := (gTup K 2 (gCons (gName 4) (gCons (gName 5) gNil)))) (tt := tYes) rfl sc__law_sums.nd (kZipS (K := K) rfl (by rfl) T.b_zip (pa_cons (pv 3) (pa_cons (pv 2) pa_nil))) (blkOk_by (own := [("_law_tie", 4), ("_law_top", 5)]) (N := n__law_sums) (sc := relabel (lcScope (retOf s__law_sums)) (envOfC "" (defScope s__law_sums) 0 0 .none)) (by decide +kernel)) (fun _ _ _ _ _ => (pg_tup rfl (pgs_cons (pg_name (i := 4) sc__law_sums.nd rfl (by first | exact Or.inl rfl | exact Or.inr rfl)) (pgs_cons (pg_name (i := 5) sc__law_sums.nd rfl (by first | exact Or.inl rfl | exact Or.inr rfl)) pgs_nil)))) (fun _ _ _ _ _ => pts_nil) (fun _ _ _ _ _ => (pe_op op_mul (pv 4) (pv 5)))) pa_nil))))))), ?_⟩
    obtain ⟨xs, hra, _, lx, lxw, al⟩ := dR.rowLL
    have sm : -100 ≤ ws.sum ∧ ws.sum ≤ 100 := by
      have z := sum_bd2 bw
      omega
    refine ⟨_, rfl, ra, rfl, ⟨_, SqL.of hra⟩, fun d hd => lc_list (K := K) (a := ra) (xs := xs) (fun j H1 => H1 d = some (.lst (((rows.take j).map (midR ws ts)).map V.int)) ∧ Kp [] H H1) ?_ ?_ ?_ ?_⟩
    · exact ⟨by rw [upd_same]; rfl, Kp.rfl'.new hd⟩
    · rintro j H1 _ ⟨_, k1⟩
      exact SqL.of (k1 _ _ hra (by simp))
    · rintro j y H1 hj ⟨h1, k1⟩
      have lj := (List.getElem?_eq_some_iff.mp hj).1
      obtain ⟨r, er⟩ : ∃ r, rows[j]? = some r := ⟨rows[j]'(by omega), by simp⟩
      obtain ⟨a, gx, ha, _, la⟩ := al j r er
      rw [gx] at hj
      cases hj
      have b1 := br r (List.mem_of_getElem? er)
      have ha1 := k1 _ _ ha (by simp)
      have hta1 := k1 _ _ hta (by simp)
      refine ⟨rfl, yesT ⟨_, rfl, wa, ws, rfl, SqL.of (k1 _ _ hwa (by simp)), _, rfl, _, rfl, a, ta, true, true, _, _, rfl, SqL.of ha1, SqL.of hta1, fun d2 hd2 => lc_zipI (ka := true) (kb := true) V.int (· * ·) ha1 hta1 (by omega) hd2 ?_ ?_⟩⟩
      · intro u v t' H4 R N hu hv ht' hr'
        have := b1 u hu
        exact ⟨t', _, rfl, SqT.of upd_same, rfl, _, _, rfl, _, _, rfl, rfl, rfl, yesT ⟨_, rfl, _, rfl, _, _, rfl, rfl, .inl ⟨by omega, by omega⟩, hr'⟩⟩
      · intro H4 h4 k4
        refine ⟨d2, _, rfl, SqL.of h4, _, _, rfl, rfl, .inl ⟨by omega, by omega⟩, _, k4 _ _ h1 (by simp), ?_, ?_, (k1.trans k4).own hd⟩
        · simp only [List.length_map, List.length_take]
          exact small1000 (by omega)
        · rw [upd_same, List.take_add_one, er]
          simp [midR, dot]
    · rintro H1 ⟨h1, k1⟩
      rw [lx, List.take_length] at h1
      exact q d H1 hd k1 h1
/-! ### tops that their middles let -/
def gT (t m : Int) : Int := t + (if (decide (V.int (t.fmod 2) = V.int 1) && decide (V.int (m.fmod 2) = V.int 0)) = true then 1 else 0)
def evs : List Int → Nat
  | [] => 0
  | t :: ts => evs ts + (if t % 2 = 0 then 1 else 0)
theorem evs_le : ∀ ts, evs ts ≤ ts.length
  | [] => Nat.le_refl _
  | t :: ts => by
    have := evs_le ts
    show evs ts + _ ≤ ts.length + 1
    split <;> omega
def badT (t m : Int) : Prop := t % 2 = 1 ∧ m % 2 = 0
theorem gT_cases (t m : Int) : (badT t m ∧ gT t m = t + 1) ∨ (¬ badT t m ∧ gT t m = t) := by
  have e1 : t.fmod 2 = t % 2 := Int.fmod_eq_emod_of_nonneg _ (by decide)
  have e2 : m.fmod 2 = m % 2 := Int.fmod_eq_emod_of_nonneg _ (by decide)
  unfold gT badT
  rw [e1, e2]
  by_cases c1 : t % 2 = 1 <;> by_cases c2 : m % 2 = 0 <;> simp [c1, c2]
theorem evs_up : ∀ {ts ms : List Int}, ts.length = ms.length → evs ts ≤ evs (List.zipWith gT ts ms) ∧ ((∃ (i : Nat) (t m : Int), ts[i]? = some t ∧ ms[i]? = some m ∧ badT t m) → evs ts + 1 ≤ evs (List.zipWith gT ts ms))
  | [], [], _ => ⟨Nat.le_refl _, fun ⟨i, t, m, e, _⟩ => by simp at e⟩
  | [], _ :: _, h => nomatch h
  | _ :: _, [], h => nomatch h
  | t :: ts, m :: ms, h => by
    obtain ⟨h1, h2⟩ := evs_up (ts := ts) (ms := ms) (by simpa using h)
    rw [List.zipWith_cons_cons]
    show evs ts + _ ≤ evs (List.zipWith gT ts ms) + _ ∧ (_ → evs ts + _ + 1 ≤ evs (List.zipWith gT ts ms) + _)
    rcases gT_cases t m with ⟨b, e⟩ | ⟨b, e⟩
    · obtain ⟨b1, b2⟩ := b
      have n1 : ¬ t % 2 = 0 := by omega
      have n2 : gT t m % 2 = 0 := by rw [e]; omega
      rw [if_neg n1, if_pos n2]
      exact ⟨by omega, fun _ => by omega⟩
    · rw [e]
      refine ⟨by omega, ?_⟩
      rintro ⟨i, t', m', e1, e2, bd⟩
      cases i with
      | zero =>
        cases e1
        cases e2
        exact absurd bd b
      | succ i =>
        have := h2 ⟨i, t', m', e1, e2, bd⟩
        omega
theorem zip_same : ∀ {ts ms : List Int}, ts.length = ms.length → (¬ ∃ (i : Nat) (t m : Int), ts[i]? = some t ∧ ms[i]? = some m ∧ badT t m) → List.zipWith gT ts ms = ts
  | [], _, _, _ => rfl
  | _ :: _, [], h, _ => nomatch h
  | t :: ts, m :: ms, h, n => by
    rw [List.zipWith_cons_cons, zip_same (by simpa using h) fun ⟨i, t', m', e1, e2, bd⟩ => n ⟨i + 1, t', m', e1, e2, bd⟩]
    rcases gT_cases t m with ⟨b, e⟩ | ⟨b, e⟩
    · exact absurd ⟨0, t, m, rfl, rfl, b⟩ n
    · rw [e]
theorem gT_rg {t m : Int} (h : 1 ≤ t ∧ t ≤ 4) : 1 ≤ gT t m ∧ gT t m ≤ 4 := by
  rcases gT_cases t m with ⟨⟨b1, _⟩, e⟩ | ⟨_, e⟩ <;> rw [e] <;> omega
/-- no uneven top has an even middle -/
def TopsOk (rows : List (List Int)) (ws ts : List Int) : Prop := ¬ ∃ (i : Nat) (t m : Int), ts[i]? = some t ∧ (rows.map (midR ws ts))[i]? = some m ∧ badT t m
def sp_ltops : Sp := fun vs H Q _ => ∃ (b ra wa : Addr) (n : Nat) (rows : List (List Int)) (ws : List Int), vs = [.ref b, .ref ra, .ref wa] ∧ Bx H b n ∧ n ≤ 800000 ∧ D [b] H 12 2 (.ref ra) (dII rows) ∧ H wa = some (.lst (ws.map V.int)) ∧ wa ≠ b ∧ (∀ r ∈ rows, Bd 60 r) ∧ Bd 20 ws ∧ ws.length ≤ 5 ∧ rows.length ≤ 12 ∧
  ∀ (p : Addr) (ts : List Int) (H' : Hp), H p = none → H' p = some (.lst (ts.map V.int)) → ts.length = rows.length → (∀ t ∈ ts, 1 ≤ t ∧ t ≤ 4) → TopsOk rows ws ts → Bx H' b (n + 12) → Kp [b] H H' → Q (.ref p) H'
theorem ok_ltops (T : Tx K mg) : FnOk P w K mg base CX0 2 (He.fAd K ("_law_tops", none)) T.fd__law_tops p__law_tops sp_ltops := by
  have G__law_take := ok_take (P := P) (w := w) (base := base) T
  have G__law_sums := ok_lsums (P := P) (w := w) (base := base) T
  refine T.F__law_tops.ok sc__law_tops (fun vs H Q E h => ?_) (fun cdv A outer s H vs Q E hr h => ?_)
  · obtain ⟨_, _, _, _, _, _, rfl, _⟩ := h
    rfl
  · obtain ⟨b, ra, wa, n, rows, ws, rfl, hB, hn, dR, hwa, nwb, br, bw, l5, r12, q⟩ := h
    refine ⟨_, PSs.nox (pss_cons (ps_setLc (i := 3) (own := [("_law_row", 6)]) (g := (gName 6)) (tt := tYes) rfl sc__law_tops.nd rfl rfl (sw_true rfl rfl rfl (by decide +kernel)) (pi_list (pv 1)) (blkOk_by (own := [("_law_row", 6)]) (N := n__law_tops) (sc := defScope s__law_tops) (by decide +kernel)) (fun _ _ _ _ _ => (pg_name (i := 6) sc__law_tops.nd rfl (by first | exact Or.inl rfl | exact Or.inr rfl))) (fun _ _ _ _ _ => pts_nil) (fun _ _ _ _ _ => (pe_op op_add pe_int (pe_call G__law_take (hr.mono (by first | decide | omega)) rfl T.g__law_take T.F__law_take.kp T.bd__law_take .nil pass0 (pa_cons (pv 0) (pa_cons pe_int pa_nil))))))
      (pss_cons (ps_for PassesOwn.never rfl (pi_range1 (by rfl) T.b_range (pa_cons (pe_op op_add (pe_callB call_len (by rfl) T.b_len (by decide +kernel) (pa_cons (pv 1) pa_nil)) pe_int) pa_nil)) (pg_name (i := 4) sc__law_tops.nd rfl (by first | exact Or.inl rfl | exact Or.inr rfl))
      (pss_cons (ps_set (i := 5) sc__law_tops.nd rfl (by first | exact Or.inl rfl | exact Or.inr rfl) (pe_call G__law_sums (hr.mono (by first | decide | omega)) rfl T.g__law_sums T.F__law_sums.kp T.bd__law_sums .nil pass0 (pa_cons (pv 1) (pa_cons (pv 2) (pa_cons (pv 3) pa_nil)))))
      (pss_one (ps_setLc (i := 3) (own := [("_law_top", 7), ("_law_middle", 8)]) (g := (gTup K 2 (gCons (gName 7) (gCons (gName 8) gNil)))) (tt := tYes) rfl sc__law_tops.nd rfl rfl (sw_true rfl rfl rfl (by decide +kernel)) (pi_zipS (by rfl) T.b_zip (pa_cons (pv 3) (pa_cons (pv 5) pa_nil))) (blkOk_by (own := [("_law_top", 7), ("_law_middle", 8)]) (N := n__law_tops) (sc := defScope s__law_tops) (by decide +kernel)) (fun _ _ _ _ _ => (pg_tup rfl (pgs_cons (pg_name (i := 7) sc__law_tops.nd rfl (by first | exact Or.inl rfl | exact Or.inr rfl)) (pgs_cons (pg_name (i := 8) sc__law_tops.nd rfl (by first | exact Or.inl rfl | exact Or.inr rfl)) pgs_nil)))) (fun _ _ _ _ _ => pts_nil) (fun _ _ _ _ _ => (pe_op op_add (pv 7) (pe_callTy call_int1 (by rfl) T.b_int (by decide +kernel) (pa_cons (pe_and (pe_cmpR op_eq (pe_op op_modN (pv 7) pe_int) pe_int (nomark _)) (pe_one (pe_cmpR op_eq (pe_op op_modN (pv 8) pe_int) pe_int (nomark _)))) pa_nil))))))))
      (pss_one (ps_ret (pv 3))))), ?_⟩
    obtain ⟨xs, hra, nra, lx, lxw, al⟩ := dR.rowLL
    refine ⟨_, rfl, ra, rfl, ⟨_, SqL.of hra⟩, fun d hd => lc_list (K := K) (a := ra) (xs := xs) (fun j H1 => ∃ ts : List Int, H1 d = some (.lst (ts.map V.int)) ∧ ts.length = j ∧ (∀ t ∈ ts, 1 ≤ t ∧ t ≤ 4) ∧ Bx H1 b (n + j) ∧ Kp [b] H H1) ?_ ?_ ?_ ?_⟩
    · exact ⟨[], upd_same, rfl, by simp, hB.keep (Kp.rfl'.new (bs := []) hd) (by simp), Kp.rfl'.new hd⟩
    · rintro j H1 _ ⟨_, _, _, _, _, k1⟩
      exact SqL.of (k1 _ _ hra nra)
    · rintro j y H1 hj ⟨ts, h1, lt, rg, hB1, k1⟩
      have lj := (List.getElem?_eq_some_iff.mp hj).1
      have ndb := hB.off hd
      refine ⟨rfl, yesT ⟨_, rfl, b, 4, _, rfl, hB1, by decide, by decide, by omega, fun r H2 r0 r1 hB2 k2 => ⟨_, _, rfl, rfl, _, k2 _ _ h1 (by simpa using ndb), by rw [List.length_map]; exact small1000 (by omega), ts ++ [1 + r], by rw [upd_same, ints_snoc], by simp [lt], fun t ht => ?_, (hB2.keep (Kp.rfl'.put (bs := [d]) (by simp)) (by simpa using ndb.symm)).up (by omega), (k1.trans k2).own hd⟩⟩⟩
      rcases List.mem_append.mp ht with z | z
      · exact rg t z
      · rw [List.mem_singleton.mp z]
        omega
    · rintro H1 ⟨ts, h1, lt, rg, hB1, k1⟩
      have lx' : ts.length = rows.length := by omega
      refine ⟨_, rfl, _, rows.length, rfl, .inl ⟨_, SqL.of (k1 _ _ hra nra), lx.symm⟩, _, _, rfl, rfl, _, rfl, by omega, by omega, for_range (n := ((rows.length : Int) + 1).toNat) (fun i σ H2 => ∃ (o4 o5 : Option V) (p : Addr) (ts : List Int), σ = [some (.ref b), some (.ref ra), some (.ref wa), some (.ref p), o4, o5, none, none, none] ∧ H p = none ∧ H2 p = some (.lst (ts.map V.int)) ∧ ts.length = rows.length ∧ (∀ t ∈ ts, 1 ≤ t ∧ t ≤ 4) ∧ (TopsOk rows ws ts ∨ i ≤ evs ts) ∧ Bx H2 b (n + 12) ∧ Kp [b] H H2) ?_ ?_ ?_⟩
      · exact ⟨_, _, d, ts, rfl, hd, h1, lx', rg, .inr (Nat.zero_le _), hB1.up (by omega), k1⟩
      · rintro i σ H2 hi ⟨o4, o5, p, ts, rfl, fp, h2, lt, rg, st, hB2, k2⟩
        refine gn ?_
        refine ⟨_, rfl, _, rfl, _, rfl, ra, wa, p, rows, ws, ts, [b], 12, rfl, dR.keep k2, k2 _ _ hwa (by simpa using nwb), h2, br, bw, l5, by decide, fun sp H3 fsp k3 h3 => ?_⟩
        have h23 := k3 _ _ h2 (by simp)
        have lm : (rows.map (midR ws ts)).length = rows.length := List.length_map ..
        refine ⟨_, rfl, _, rfl, p, sp, true, true, _, _, rfl, SqL.of h23, SqL.of h3, fun d2 hd2 => lc_zipI (ka := true) (kb := true) V.int gT h23 h3 (by omega) hd2 ?_ ?_⟩
        · intro u v t' H4 R N hu hv ht' hr'
          refine ⟨t', _, rfl, SqT.of upd_same, rfl, _, _, rfl, _, _, rfl, rfl, rfl, yesT ⟨_, rfl, _, rfl, _, _, rfl, rfl, (show (2 : Int) ≠ 0 by decide), rfl, _, rfl, ?_⟩⟩
          unfold gT at hr'
          refine ite2 (fun c1 => ?_) (fun c1 => ?_)
          · rw [c1, Bool.true_and] at hr'
            refine ⟨_, rfl, _, _, rfl, rfl, (show (2 : Int) ≠ 0 by decide), rfl, .inr ⟨_, rfl, _, _, rfl, rfl, hr'⟩⟩
          · have c1' : decide (V.int (u.fmod 2) = V.int 1) = false := by simpa using c1
            rw [c1', Bool.false_and] at hr'
            exact .inr ⟨_, rfl, _, _, rfl, rfl, hr'⟩
        · intro H4 h4 k4
          have k34 := k3.trans k4
          have fd2 : H d2 = none := k2.free (k3.free hd2 (by simp)) (by simpa using (hB2.keep k3 (by simp)).off hd2)
          obtain ⟨u1, u2⟩ := evs_up (ts := ts) (ms := rows.map (midR ws ts)) (by omega)
          refine ⟨_, _, d2, List.zipWith gT ts (rows.map (midR ws ts)), rfl, fd2, h4, by rw [List.length_zipWith]; omega, fun t ht => ?_, ?_, hB2.keep k34 (by simp), k2.trans (k34.sub (by simp))⟩
          · obtain ⟨j, hj, e⟩ := List.getElem_of_mem ht
            rw [List.getElem_zipWith] at e
            rw [← e]
            exact gT_rg (rg _ (List.getElem_mem _))
          · by_cases cb : TopsOk rows ws ts
            · rw [zip_same (by omega) cb]
              exact .inl cb
            · rcases st with st | st
              · exact absurd st cb
              · have := u2 (Classical.not_not.mp cb)
                exact .inr (by omega)
      · rintro σ H2 ⟨o4, o5, p, ts, rfl, fp, h2, lt, rg, st, hB2, k2⟩
        refine ⟨_, rfl, q p ts H2 fp h2 lt rg ?_ hB2 k2⟩
        rcases st with st | st
        · exact st
        · have := evs_le ts
          omega

end
end Sw

set_option maxHeartbeats 2000000
namespace Sw
open PySem PySem.Spec PyProof.Rows L2
section
variable {P : Program} {w : World} {K : PySem.W.Frag} {mg : Str → Option Value} {base : Heap}
/-! ### steps laid balanced -/
structure Lv (m low : Int) (r : List Int) : Prop where
  pw : r.Pairwise (· < ·)
  rg : ∀ x ∈ r, low < x ∧ x < m + 1 - low
  lo : 2 * low ≤ m
  rv : r.map (fun x => m + 1 - x) = r.reverse
theorem Lv.add {m low low' : Int} {r : List Int} (h : Lv m low r) (l : low' < low) : Lv m low' ([low] ++ r ++ [m + 1 - low]) := by
  have lo := h.lo
  refine ⟨?_, fun x hx => ?_, by omega, ?_⟩
  · rw [List.pairwise_append]
    refine ⟨?_, by simp, fun a ha b hb => ?_⟩
    · rw [List.singleton_append, List.pairwise_cons]
      exact ⟨fun x hx => (h.rg x hx).1, h.pw⟩
    · rw [List.mem_singleton.mp hb]
      rcases List.mem_append.mp ha with z | z
      · rw [List.mem_singleton.mp z]
        omega
      · exact (h.rg a z).2
  · rcases List.mem_append.mp hx with z | z
    · rcases List.mem_append.mp z with z | z
      · rw [List.mem_singleton.mp z]
        omega
      · have := h.rg x z
        omega
    · rw [List.mem_singleton.mp z]
      omega
  · rw [List.map_append, List.map_append, h.rv, List.reverse_append, List.reverse_append]
    simp
    omega
theorem Lv.bal {m low : Int} {r : List Int} (h : Lv m low r) : balB r m = true := bal_iff.mpr fun i x y hx hy => by
  have li := (List.getElem?_eq_some_iff.mp hx).1
  have e : (r.map fun x => m + 1 - x)[i]? = r.reverse[i]? := by rw [h.rv]
  rw [List.getElem?_map, List.getElem?_reverse li, hx, hy] at e
  have e : some (m + 1 - x) = some y := e
  have := Option.some.inj e
  omega
theorem rises_pw {r : List Int} (h : r.Pairwise (· < ·)) : rises r := fun i x y h1 h2 => by
  obtain ⟨l1, e1⟩ := List.getElem?_eq_some_iff.mp h1
  obtain ⟨l2, e2⟩ := List.getElem?_eq_some_iff.mp h2
  have := List.pairwise_iff_getElem.mp h i (i + 1) l1 l2 (by omega)
  rw [e1, e2] at this
  exact this
def sp_level : Sp := fun vs H Q _ => ∃ (b : Addr) (m top : Int) (n : Nat), vs = [.ref b, .int m, .int top] ∧ Bx H b n ∧ n ≤ 800000 ∧ 1 ≤ top ∧ top ≤ 4 ∧ ¬ badT top m ∧ -300000 ≤ m ∧ m ≤ 300000 ∧
  ∀ (p : Addr) (r : List Int) (H' : Hp), H p = none → H' p = some (.lst (r.map V.int)) → (r.length : Int) = top → r.Pairwise (· < ·) → balB r m = true → Bd 500000 r → Bx H' b (n + 5) → Kp [b] H H' → Q (.ref p) H'
theorem ok_level (T : Tx K mg) : FnOk P w K mg base CX0 2 (He.fAd K ("_law_level", none)) T.fd__law_level p__law_level sp_level := by
  have G__law_take := ok_take (P := P) (w := w) (base := base) T
  refine T.F__law_level.ok sc__law_level (fun vs H Q E h => ?_) (fun cdv A outer s H vs Q E hr h => ?_)
  · obtain ⟨_, _, _, _, rfl, _⟩ := h
    rfl
  · obtain ⟨b, m, top, n, rfl, hB, hn, t1, t4, nb, m0, m1, q⟩ := h
    refine ⟨_, PSs.nox (pss_cons (ps_par (i := 4) (j := 5) (by rfl) sc__law_level.nd rfl rfl (by decide) rfl rfl (pa_cons (pe_op op_sub (pe_op op_fdivN (pv 1) pe_int) (pe_call G__law_take (hr.mono (by first | decide | omega)) rfl T.g__law_take T.F__law_take.kp T.bd__law_take .nil pass0 (pa_cons (pv 0) (pa_cons pe_int pa_nil)))) (pa_cons (pe_lst pa_nil) pa_nil)) (by rfl))
      (pss_cons (ps_if (pt_cmpR op_eq (pe_op op_modN (pv 2) pe_int) pe_int (nomark _))
      (pss_one (ps_par (i := 5) (j := 4) (by rfl) sc__law_level.nd rfl rfl (by decide) rfl rfl (pa_cons (pe_lst (pa_cons (pe_op op_fdivN (pe_op op_add (pv 1) pe_int) pe_int) pa_nil)) (pa_cons (pe_op op_sub (pv 4) pe_int) pa_nil)) (by rfl)))
      pss_nil)
      (pss_cons (ps_for PassesOwn.never rfl (pi_range1 (by rfl) T.b_range (pa_cons (pe_op op_fdivN (pv 2) pe_int) pa_nil)) (pg_name (i := 3) sc__law_level.nd rfl (by first | exact Or.inl rfl | exact Or.inr rfl))
      (pss_cons (ps_set (i := 5) sc__law_level.nd rfl (by first | exact Or.inl rfl | exact Or.inr rfl) (pe_op op_cat (pe_op op_cat (pe_lst (pa_cons (pv 4) pa_nil)) (pv 5)) (pe_lst (pa_cons (pe_op op_sub (pe_op op_add (pv 1) pe_int) (pv 4)) pa_nil))))
      (pss_one (ps_set (i := 4) sc__law_level.nd rfl (by first | exact Or.inl rfl | exact Or.inr rfl) (pe_op op_sub (pe_op op_sub (pv 4) pe_int) (pe_call G__law_take (hr.mono (by first | decide | omega)) rfl T.g__law_take T.F__law_take.kp T.bd__law_take .nil pass0 (pa_cons (pv 0) (pa_cons pe_int pa_nil))))))))
      (pss_one (ps_ret (pv 5)))))), ?_⟩
    have e2 : m.fdiv 2 = m / 2 := Int.fdiv_eq_ediv_of_nonneg _ (by decide)
    have e3 : (m + 1).fdiv 2 = (m + 1) / 2 := Int.fdiv_eq_ediv_of_nonneg _ (by decide)
    have e4 : top.fdiv 2 = top / 2 := Int.fdiv_eq_ediv_of_nonneg _ (by decide)
    have e5 : top.fmod 2 = top % 2 := Int.fmod_eq_emod_of_nonneg _ (by decide)
    refine ⟨_, rfl, _, _, rfl, rfl, ⟨by decide, by decide⟩, _, rfl, b, 4, n, rfl, hB, by decide, by decide, by omega, fun r0 H1 z0 z1 hB1 k1 => ⟨_, _, rfl, rfl, Nat.zero_le _, fun p hp => ⟨_, _, rfl, ?_⟩⟩⟩
    have hpH : H p = none := k1.free hp (by simpa using hB1.off hp)
    have hp1 : (upd H1 p (.lst [])) p = some (.lst (([] : List Int).map V.int)) := upd_same
    have k2 : Kp [b] H (upd H1 p (.lst [])) := k1.new hp
    have hB2 : Bx (upd H1 p (.lst [])) b (n + 1) := hB1.keep (Kp.rfl'.new (bs := []) hp) (by simp)
    generalize upd H1 p (.lst []) = H2 at hp1 k2 hB2 ⊢
    rw [e2]
    -- behind the if
    refine nx_of (seq_cutI (fun σ H3 => ∃ (p : Addr) (low : Int) (r : List Int), σ = [some (.ref b), some (.int m), some (.int top), none, some (.int low), some (.ref p)] ∧ H p = none ∧ H3 p = some (.lst (r.map V.int)) ∧ Lv m low r ∧ (r.length : Int) = top % 2 ∧ m / 2 - 10 ≤ low ∧ Bx H3 b (n + 1) ∧ Kp [b] H H3) ?_ fun nx hnx => ?_)
    · rintro σ H3 ⟨p, low, r, rfl, fp, h3, lv, lr, lo, hB3, k3⟩
      refine ⟨_, rfl, _, _, rfl, rfl, ⟨by decide, by decide⟩, _, rfl, by omega, by omega, for_range (n := (top.fdiv 2).toNat) (fun i σ H4 => ∃ (o3 : Option V) (p : Addr) (low : Int) (r : List Int), σ = [some (.ref b), some (.int m), some (.int top), o3, some (.int low), some (.ref p)] ∧ H p = none ∧ H4 p = some (.lst (r.map V.int)) ∧ Lv m low r ∧ (r.length : Int) = top % 2 + 2 * i ∧ m / 2 - 10 - 10 * i ≤ low ∧ Bx H4 b (n + 1 + i) ∧ Kp [b] H H4) ?_ ?_ ?_⟩
      · exact ⟨_, p, low, r, rfl, fp, h3, lv, by omega, by omega, hB3, k3⟩
      · rintro i σ H4 hi ⟨o3, p, low, r, rfl, fp, h4, lv, lr, lo, hB4, k4⟩
        refine gn ?_
        have r4 : r.length ≤ 4 := by omega
        refine ⟨_, rfl, by show 1 ≤ sizeLine; decide, fun l1 hl1 => ?_⟩
        have h5 : (upd H4 l1 (.lst [V.int low])) p = some (.lst (r.map V.int)) := by
          rw [upd_ne (ne_of_none h4 hl1)]
          exact h4
        have k5 : Kp [b] H (upd H4 l1 (.lst [V.int low])) := k4.new hl1
        have hB5 : Bx (upd H4 l1 (.lst [V.int low])) b (n + 1 + i) := hB4.keep (Kp.rfl'.new (bs := []) hl1) (by simp)
        have hl5 : (upd H4 l1 (.lst [V.int low])) l1 = some (.lst [V.int low]) := upd_same
        generalize upd H4 l1 (.lst [V.int low]) = H5 at h5 k5 hB5 hl5 ⊢
        refine ⟨_, rfl, l1, p, _, _, rfl, rfl, hl5, h5, by rw [List.length_map, sizeLine_eq]; show 1 + _ ≤ _; omega, fun l2 hl2 => ?_⟩
        have k6 : Kp [b] H (upd H5 l2 (.lst ([V.int low] ++ r.map V.int))) := k5.new hl2
        have hl6 : (upd H5 l2 (.lst ([V.int low] ++ r.map V.int))) l2 = some (.lst (([low] ++ r).map V.int)) := by rw [upd_same]; simp
        have hB6 : Bx (upd H5 l2 (.lst ([V.int low] ++ r.map V.int))) b (n + 1 + i) := hB5.keep (Kp.rfl'.new (bs := []) hl2) (by simp)
        generalize upd H5 l2 (.lst ([V.int low] ++ r.map V.int)) = H6 at k6 hl6 hB6 ⊢
        refine ⟨_, rfl, _, _, rfl, rfl, _, rfl, _, _, rfl, rfl, by show 1 ≤ sizeLine; decide, fun l3 hl3 => ?_⟩
        have k7 : Kp [b] H (upd H6 l3 (.lst [V.int (m + 1 - low)])) := k6.new hl3
        have hl27 : (upd H6 l3 (.lst [V.int (m + 1 - low)])) l2 = some (.lst (([low] ++ r).map V.int)) := by
          rw [upd_ne (ne_of_none hl6 hl3)]
          exact hl6
        have hB7 : Bx (upd H6 l3 (.lst [V.int (m + 1 - low)])) b (n + 1 + i) := hB6.keep (Kp.rfl'.new (bs := []) hl3) (by simp)
        have hl7 : (upd H6 l3 (.lst [V.int (m + 1 - low)])) l3 = some (.lst [V.int (m + 1 - low)]) := upd_same
        generalize upd H6 l3 (.lst [V.int (m + 1 - low)]) = H7 at k7 hl27 hB7 hl7 ⊢
        refine ⟨l2, l3, _, _, rfl, rfl, hl27, hl7, by rw [List.length_map, sizeLine_eq]; simp; omega, fun l4 hl4 => ?_⟩
        have fl4 : H l4 = none := k7.free hl4 (by simpa using hB7.off hl4)
        have k8 : Kp [b] H (upd H7 l4 (.lst (([low] ++ r).map V.int ++ [V.int (m + 1 - low)]))) := k7.new hl4
        have hl8 : (upd H7 l4 (.lst (([low] ++ r).map V.int ++ [V.int (m + 1 - low)]))) l4 = some (.lst (([low] ++ r ++ [m + 1 - low]).map V.int)) := by rw [upd_same, ints_snoc]
        have hB8 : Bx (upd H7 l4 (.lst (([low] ++ r).map V.int ++ [V.int (m + 1 - low)]))) b (n + 1 + i) := hB7.keep (Kp.rfl'.new (bs := []) hl4) (by simp)
        have n4b := hB7.off hl4
        generalize upd H7 l4 (.lst (([low] ++ r).map V.int ++ [V.int (m + 1 - low)])) = H8 at k8 hl8 hB8 ⊢
        refine ⟨_, rfl, _, _, rfl, rfl, _, rfl, b, 6, _, rfl, hB8, by decide, by decide, by omega, fun r2 H9 y0 y1 hB9 k9 => ⟨_, _, rfl, rfl, ?_⟩⟩
        exact ⟨_, l4, low - 1 - r2, [low] ++ r ++ [m + 1 - low], rfl, fl4, k9 _ _ hl8 (by simpa using n4b), lv.add (by omega), by simp only [List.length_append, List.length_cons, List.length_nil]; omega, by omega, hB9.up (by omega), k8.trans k9⟩
      · rintro σ H4 ⟨o3, p, low, r, rfl, fp, h4, lv, lr, lo, hB4, k4⟩
        refine ⟨_, rfl, q p r H4 fp h4 (by omega) lv.pw lv.bal (fun x hx => by have := lv.rg x hx; have := lv.lo; omega) (hB4.up (by omega)) k4⟩
    · refine ⟨_, rfl, _, _, rfl, rfl, (show (2 : Int) ≠ 0 by decide), rfl, _, rfl, ite2 (fun cc => ?_) (fun cc => ?_)⟩
      · have ct : top % 2 = 1 := by
          have z : V.int (top.fmod 2) = V.int 1 := of_decide_eq_true cc
          rw [e5] at z
          injection z
        have cm : m % 2 = 1 := by
          unfold badT at nb
          omega
        refine ⟨_, rfl, _, _, rfl, rfl, _, _, rfl, rfl, ⟨by decide, by decide⟩, by show 1 ≤ sizeLine; decide, fun l hl => ⟨_, rfl, _, _, rfl, rfl, _, _, rfl, ?_⟩⟩
        refine hnx _ _ ⟨l, _, [(m + 1) / 2], rfl, k2.free hl (by simpa using hB2.off hl), (by rw [upd_same]; show some (HO.lst [V.int ((m + 1).fdiv 2)]) = _; rw [e3]; rfl), ⟨by simp, fun x hx => ?_, by omega, ?_⟩, by simp; omega, by omega, hB2.keep (Kp.rfl'.new (bs := []) hl) (by simp), k2.new hl⟩
        · rw [List.mem_singleton.mp hx]
          omega
        · show [m + 1 - (m + 1) / 2] = [(m + 1) / 2]
          congr 1
          omega
      · have ct : top % 2 = 0 := by
          have z : ¬ (top.fmod 2 = 1) := fun z => cc (by show decide (V.int (top.fmod 2) = V.int 1) = true; rw [z]; exact decide_eq_true rfl)
          rw [e5] at z
          omega
        exact hnx _ _ ⟨p, _, [], rfl, hpH, hp1, ⟨by simp, by simp, by omega, rfl⟩, by simp; omega, by omega, hB2, k2⟩
def sp_lmir : Sp := fun vs H Q _ => ∃ (pa sa : Addr) (steps : List (List Int)) (st : List Int) (bs : List Addr) (w : Nat), vs = [.ref pa, .ref sa] ∧ D bs H w 2 (.ref pa) (dII steps) ∧ H sa = some (.tup (st.map V.int)) ∧ st.length = steps.length ∧ w ≤ 900 ∧
  ∀ (p : Addr) (H' : Hp), H p = none → Kp [] H H' → H' p = some (.tup ((mir (topsOf steps) st).map V.int)) → Q (.ref p) H'
theorem ok_lmir (T : Tx K mg) : FnOk P w K mg base CX0 1 (He.fAd K ("_law_mirror", none)) T.fd__law_mirror p__law_mirror sp_lmir := by
  refine T.F__law_mirror.ok sc__law_mirror (fun vs H Q E h => ?_) (fun cdv A outer s H vs Q E hr h => ?_)
  · obtain ⟨_, _, _, _, _, _, rfl, _⟩ := h
    rfl
  · obtain ⟨pa, sa, steps, st, bs, w', rfl, dS, hsa, ls, lw, q⟩ := h
    refine ⟨_, PSs.nox (pss_one (ps_ret (pe_callTy call_tuple_of (by rfl) T.b_tuple (by decide +kernel) (pa_cons (pe_lc (own := [("_law_some", 2), ("_law_posture", 3)]) (g := (gTup K 2 (gCons (gName 2) (gCons (gName 3) gNil)))) (tt := tYes) rfl sc__law_mirror.nd (pi_zipS (by rfl) T.b_zip (pa_cons (pv 0) (pa_cons (pv 1) pa_nil))) (blkOk_by (own := [("_law_some", 2), ("_law_posture", 3)]) (N := n__law_mirror) (sc := defScope s__law_mirror) (by decide +kernel)) (fun _ _ _ _ _ => (pg_tup rfl (pgs_cons (pg_name (i := 2) sc__law_mirror.nd rfl (by first | exact Or.inl rfl | exact Or.inr rfl)) (pgs_cons (pg_name (i := 3) sc__law_mirror.nd rfl (by first | exact Or.inl rfl | exact Or.inr rfl)) pgs_nil)))) (fun _ _ _ _ _ => pts_nil) (fun _ _ _ _ _ => (pe_op op_sub (pe_callB (kLen (K := K) rfl) (by rfl) T.b_len (by decide +kernel) (pa_cons (pv 2) pa_nil)) (pv 3)))) pa_nil)))), ?_⟩
    obtain ⟨xs, hpa, _, lx, lxw, al⟩ := dS.rowLL
    have lm : (mir (topsOf steps) st).length = steps.length := by rw [mir_len (by rw [tops_len]; exact ls), tops_len]
    refine ⟨_, rfl, _, rfl, pa, sa, true, false, xs, _, rfl, SqL.of hpa, SqT.of hsa, fun d hd => lc_it (walkZ (K := K) (a := pa) (b := sa) (ka := true) (kb := false) (n := steps.length) (xs := xs) (ys := st.map V.int) (by rw [List.length_map]; omega)) (fun j H1 => H1 d = some (.lst (((mir (topsOf steps) st).take j).map V.int)) ∧ Kp [] H H1) ?_ ?_ ?_ ?_⟩
    · exact ⟨by rw [upd_same]; rfl, Kp.rfl'.new hd⟩
    · rintro j H1 _ ⟨_, k1⟩
      exact ⟨SqL.of (k1 _ _ hpa (by simp)), SqT.of (k1 _ _ hsa (by simp))⟩
    · rintro j y H1 H2 hj ⟨h1, k1⟩ ⟨t, u, v, rfl, ft, rfl, hu, hv⟩
      have hu : xs[j]? = some u := hu
      obtain ⟨r, er⟩ : ∃ r, steps[j]? = some r := ⟨steps[j], by simp⟩
      obtain ⟨a, gx, ha, _, _⟩ := al j r er
      rw [gx] at hu
      cases hu
      simp only [List.getElem?_map (f := V.int)] at hv
      obtain ⟨z, hz, rfl⟩ := Option.map_eq_some_iff.mp hv
      have k2 : Kp [] H (upd H1 t (.tup [.ref a, .int z])) := k1.new ft
      refine ⟨t, _, rfl, SqT.of upd_same, rfl, _, _, rfl, _, _, rfl, rfl, rfl, yesT ⟨_, rfl, _, r.length, rfl, .inl ⟨_, SqL.of (k2 _ _ ha (by simp)), by simp⟩, _, rfl, _, _, rfl, rfl, _, by rw [upd_ne (ne_of_none h1 ft)]; exact h1, ?_, ?_, k2.own hd⟩⟩
      · rw [List.length_map, List.length_take]
        exact small1000 (by omega)
      · have et : (topsOf steps)[j]? = some (r.length : Int) := by unfold topsOf; rw [List.getElem?_map, er]; rfl
        rw [upd_same, List.take_add_one, mir_at et hz, ints_snoc]
        rfl
    · rintro H1 ⟨h1, k1⟩
      rw [← lm, List.take_length] at h1
      refine ⟨d, _, rfl, .inl ⟨SqL.of h1, fun l hl => ?_⟩⟩
      exact q l _ (k1.free hl (by simp)) (k1.new hl) upd_same

end
end Sw

set_option maxHeartbeats 2000000
namespace Sw
open PySem PySem.Spec PyProof.Rows L2
section
variable {P : Program} {w : World} {K : PySem.W.Frag} {mg : Str → Option Value} {base : Heap}
theorem sl_eq {P : L2.St → Hp → Prop} {σ : L2.St} {H : Hp} (σ' : L2.St) (e : σ = σ') (h : P σ' H) : P σ H := e ▸ h
theorem rises_lo {r : List Int} {x : Int} (h : rises r) (e : r[0]? = some x) : rises (r.set 0 (x - 1)) := fun i a b h1 h2 => by
  rw [List.getElem?_set] at h1 h2
  rw [if_neg (by omega)] at h2
  by_cases c : 0 = i
  · subst c
    rw [if_pos rfl, if_pos (List.getElem?_eq_some_iff.mp e).1] at h1
    have := h 0 x b e h2
    have := Option.some.inj h1
    omega
  · rw [if_neg c] at h1
    exact h i a b h1 h2
theorem rises_hi {r : List Int} {x : Int} (h : rises r) (e : r[r.length - 1]? = some x) : rises (r.set (r.length - 1) (x + 1)) := fun i a b h1 h2 => by
  have l2 := (List.getElem?_eq_some_iff.mp h2).1
  rw [List.length_set] at l2
  rw [List.getElem?_set] at h1 h2
  rw [if_neg (by omega)] at h1
  by_cases c : r.length - 1 = i + 1
  · rw [if_pos c, if_pos (by omega)] at h2
    rw [c] at e
    have := h i a x h1 e
    have := Option.some.inj h2
    omega
  · rw [if_neg c] at h2
    exact h i a b h1 h2
/-- one step moved -/
def mv1 (r : List Int) (k : Nat) (d x : Int) : List Int := r.set k (x + d)
theorem mv1_bal {r : List Int} {m d x : Int} {k : Nat} (hb : balB r m = true) (ek : r[k]? = some x) (hd : d = 1 ∨ d = -1) (hk : k = 0 ∨ k = r.length - 1) (h0 : r.length = 1 → d = -1) : balB (mv1 r k d x) m = false := by
  cases e : balB (mv1 r k d x) m with
  | false => rfl
  | true =>
    have lk := (List.getElem?_eq_some_iff.mp ek).1
    have z := bal_iff.mp e
    obtain ⟨y, ey⟩ : ∃ y, r[r.length - 1 - k]? = some y := ⟨r[r.length - 1 - k]'(by omega), by simp⟩
    have b := bal_iff.mp hb k x y ek ey
    have l1 : (mv1 r k d x).length = r.length := by simp [mv1]
    by_cases c : k = r.length - 1 - k
    · have e1 : (mv1 r k d x)[k]? = some (x + d) := by unfold mv1; rw [List.getElem?_set, if_pos rfl, if_pos lk]
      have w := z k (x + d) (x + d) e1 (by rw [l1, ← c]; exact e1)
      rw [← c, ek] at ey
      have := Option.some.inj ey
      omega
    · have e1 : (mv1 r k d x)[k]? = some (x + d) := by unfold mv1; rw [List.getElem?_set, if_pos rfl, if_pos lk]
      have e2 : (mv1 r k d x)[r.length - 1 - k]? = some y := by unfold mv1; rw [List.getElem?_set, if_neg c]; exact ey
      have w := z k (x + d) y e1 (by rw [l1]; exact e2)
      omega
theorem mv2_bal {r : List Int} {m d x y : Int} {k : Nat} (hb : balB r m = true) (ek : r[k]? = some x) (ey : r[r.length - 1 - k]? = some y) (ne : k ≠ r.length - 1 - k) : balB ((mv1 r k d x).set (r.length - 1 - k) (y - d)) m = true := by
  have lk := (List.getElem?_eq_some_iff.mp ek).1
  have b := bal_iff.mp hb k x y ek ey
  refine bal_iff.mpr fun i u v hu hv => ?_
  have li := (List.getElem?_eq_some_iff.mp hu).1
  have L : ((mv1 r k d x).set (r.length - 1 - k) (y - d)).length = r.length := by simp [mv1]
  rw [L] at li hv
  unfold mv1 at hu hv
  rw [List.getElem?_set, List.getElem?_set, List.length_set] at hu hv
  by_cases c1 : r.length - 1 - k = i
  · rw [if_pos c1, if_pos (by omega)] at hu
    rw [if_neg (by omega), if_pos (by omega), if_pos (by omega)] at hv
    have := Option.some.inj hu
    have := Option.some.inj hv
    omega
  · rw [if_neg c1] at hu
    by_cases c2 : k = i
    · rw [if_pos c2, if_pos lk] at hu
      rw [if_pos (by omega), if_pos (by omega)] at hv
      have := Option.some.inj hu
      have := Option.some.inj hv
      omega
    · rw [if_neg c2] at hu
      rw [if_neg (by omega), if_neg (by omega)] at hv
      exact bal_iff.mp hb i u v hu hv
theorem tops_set {steps : List (List Int)} {o : Nat} {r r' : List Int} (e : steps[o]? = some r) (l : r'.length = r.length) : topsOf (steps.set o r') = topsOf steps := by
  unfold topsOf
  rw [List.map_set, l]
  apply List.ext_getElem?
  intro i
  rw [List.getElem?_set]
  by_cases c : o = i
  · subst c
    rw [if_pos rfl, List.getElem?_map, e, List.length_map, if_pos (List.getElem?_eq_some_iff.mp e).1]
    rfl
  · rw [if_neg c]
/-- a hall with one person's steps otherwise -/
theorem set_ok {rows steps : List (List Int)} {ws r' : List Int} {o : Nat} (h : HallOk rows steps ws) (hr : Rung0 r') : HallOk rows (steps.set o r') ws :=
  ⟨h.r1, h.row, by rw [List.length_set]; exact h.ls, fun s hs => (List.mem_or_eq_of_mem_set hs).elim (h.step s) fun z => by rw [z]; exact hr, h.w1, h.w5, h.last⟩
theorem set_hs {rows steps : List (List Int)} {ws r' : List Int} {o : Nat} (h : Hs rows steps ws) (hr : r'.length ≤ 4) : Hs rows (steps.set o r') ws :=
  ⟨h.lw, h.bw, h.lr, h.br, fun s hs => (List.mem_or_eq_of_mem_set hs).elim (h.st s) fun z => by rw [z]; exact hr⟩
theorem set_eq {α : Type} {l : List α} {o : Nat} {x : α} (h : o < l.length) : l.take o ++ [x] ++ l.drop (o + 1) = l.set o x := by
  rw [List.set_eq_take_append_cons_drop, if_pos h]
  simp
/-- the list put together anew -/
theorem putD {bs : List Addr} {H H' : Hp} {p p5 l : Addr} {xs : List V} {steps : List (List Int)} {r' : List Int} {o : Nat} (h : D bs H 12 2 (.ref p) (dII steps)) (hp : H p = some (.lst xs)) (k : Kp bs H H') (h5 : H' p5 = some (.lst (xs.take o ++ [V.ref l] ++ xs.drop (o + 1)))) (n5 : p5 ∉ bs) (hl : H' l = some (.lst (r'.map V.int))) (nl : l ∉ bs) (ho : o < steps.length) (r12 : r'.length ≤ 12) (br : Bd 1000001 r') : D bs H' 12 2 (.ref p5) (dII (steps.set o r')) := by
  cases h with
  | lst h n lw t =>
    rw [hp] at h
    cases h
    have len := DA.len t
    rw [List.length_map] at len
    rw [← set_eq ho]
    refine .lst h5 n5 (by simp only [List.length_append, List.length_take, List.length_drop, List.length_cons, List.length_nil]; omega) ?_
    have t' := t.keep k
    rw [List.map_append, List.map_append, List.map_take, List.map_drop]
    exact ((t'.takeD o).app (DA.one (D.ofInts (k := 0) hl nl r12 fun x hx => by have := br x hx; omega))).app (t'.dropD (o + 1))

end
end Sw

set_option maxHeartbeats 2000000
namespace Sw
open PySem PySem.Spec PyProof.Rows L2
section
variable {P : Program} {w : World} {K : PySem.W.Frag} {mg : Str → Option Value} {base : Heap}
/-! ### one step moved, and its opposite -/
theorem DA.ofBl {bs : List Addr} {H : Hp} {w k : Nat} : ∀ (l : List Bool), DA bs H w k (l.map V.bl) (l.map PyData.bool)
  | [] => .nil
  | x :: l => .cons (.bl x) (DA.ofBl l)
def sp_lmoved : Sp := fun vs H Q _ => ∃ (b ta sa wa : Addr) (rows steps : List (List Int)) (ws : List Int) (n : Nat), vs = [.ref b, .ref ta, .ref sa, .ref wa] ∧ Bx H b n ∧ n ≤ 800000 ∧ D [b] H 12 2 (.ref ta) (dII rows) ∧ D [b] H 12 2 (.ref sa) (dII steps) ∧ D [b] H 12 2 (.ref wa) (dI ws) ∧ HallOk rows steps ws ∧ Hs rows steps ws ∧ (∀ r ∈ steps, Bd 500000 r) ∧
  (∀ (i : Nat) (r0 r : List Int), rows[i]? = some r0 → steps[i]? = some r → balB r (midR ws (topsOf steps) r0) = true) ∧ ∀ H', Kp [b] H H' → Q (.bl true) H'
theorem ok_lmoved (T : Tx K mg) : FnOk P w K mg base CX0 8 (He.fAd K ("_law_moved_right", none)) T.fd__law_moved_right p__law_moved_right sp_lmoved := by
  have G__law_take := ok_take (P := P) (w := w) (base := base) T
  have G__law_pick := ok_pick (P := P) (w := w) (base := base) T
  have G_Hall___init__ := ok_init (P := P) (w := w) (base := base) T
  have G_is_balanced := ok_bal (P := P) (w := w) (base := base) T
  have G__law_same := ok_same (P := P) (w := w) (base := base) T 4
  refine T.F__law_moved_right.ok sc__law_moved_right (fun vs H Q E h => ?_) (fun cdv A outer s H vs Q E hr h => ?_)
  · obtain ⟨_, _, _, _, _, _, _, _, rfl, _⟩ := h
    rfl
  · obtain ⟨b, ta, sa, wa, rows, steps, ws, n, rfl, hB, hn, dT', dS, dW, ok, hs, bs, bal, q⟩ := h
    refine ⟨_, PSs.nox (pss_cons (ps_set (i := 4) sc__law_moved_right.nd rfl (by first | exact Or.inl rfl | exact Or.inr rfl) (pe_call G__law_take (hr.mono (by first | decide | omega)) rfl T.g__law_take T.F__law_take.kp T.bd__law_take .nil pass0 (pa_cons (pv 0) (pa_cons (pe_callB call_len (by rfl) T.b_len (by decide +kernel) (pa_cons (pv 2) pa_nil)) pa_nil))))
      (pss_cons (ps_par (i := 6) (j := 7) (by rfl) sc__law_moved_right.nd rfl rfl (by decide) rfl rfl (pa_cons (pe_callTy call_list_of (by rfl) T.b_list (by decide +kernel) (pa_cons (pe_ix ix_list (pv 2) (pv 4) (fun _ _ => rfl)) pa_nil)) (pa_cons (pe_call G__law_pick (hr.mono (by first | decide | omega)) rfl T.g__law_pick T.F__law_pick.kp T.bd__law_pick .nil pass0 (pa_cons (pv 0) (pa_cons (pe_lst (pa_cons pe_int (pa_cons (pe_op op_sub (pe_callB call_len (by rfl) T.b_len (by decide +kernel) (pa_cons (pe_ix ix_list (pv 2) (pv 4) (fun _ _ => rfl)) pa_nil)) pe_int) pa_nil))) pa_nil))) pa_nil)) (by rfl))
      (pss_cons (ps_asg (pe_op op_add (pe_ix ix_list (pv 6) (pv 7) (fun _ _ => rfl)) (pe_ifExp (pt_cmpR op_gt (pv 7) pe_int (nomark _)) pe_int (pe_un un_neg pe_int))) (pg_sub (pv 6) (pv 7) set_list))
      (pss_cons (ps_set (i := 5) sc__law_moved_right.nd rfl (by first | exact Or.inl rfl | exact Or.inr rfl) (pe_make T.mk_Hall G_Hall___init__ (hr.mono (by first | decide | omega)) rfl T.g_Hall T.bd_Hall___init__ .nil pass0 (pa_cons (pv 1) (pa_cons (pe_op op_cat (pe_op op_cat (pe_slice sl_list (pv 2) po_none (po_some (pv 4))) (pe_lst (pa_cons (pv 6) pa_nil))) (pe_slice sl_list (pv 2) (po_some (pe_op op_add (pv 4) pe_int)) po_none)) (pa_cons (pv 3) pa_nil)))))
      (pss_cons (ps_if (pt_not (pt_val (pe_call G__law_same (hr.mono (by first | decide | omega)) rfl T.g__law_same T.F__law_same.kp T.bd__law_same .nil pass0 (pa_cons (pe_lc (own := [("_law_other", 8)]) (g := (gName 8)) (tt := tYes) rfl sc__law_moved_right.nd (pi_range1 (by rfl) T.b_range (pa_cons (pe_callB call_len (by rfl) T.b_len (by decide +kernel) (pa_cons (pv 2) pa_nil)) pa_nil)) (blkOk_by (own := [("_law_other", 8)]) (N := n__law_moved_right) (sc := defScope s__law_moved_right) (by decide +kernel)) (fun _ _ _ _ _ => (pg_name (i := 8) sc__law_moved_right.nd rfl (by first | exact Or.inl rfl | exact Or.inr rfl))) (fun _ _ _ _ _ => pts_nil) (fun _ _ _ _ _ => (pe_call G_is_balanced (hr.mono (by first | decide | omega)) rfl T.g_is_balanced T.F_is_balanced.kp T.bd_is_balanced .nil pass0 (pa_cons (pv 5) (pa_cons (pv 8) pa_nil))))) (pa_cons (pe_lc (own := [("_law_k", 9)]) (g := (gName 9)) (tt := tYes) rfl sc__law_moved_right.nd (pi_range1 (by rfl) T.b_range (pa_cons (pe_callB call_len (by rfl) T.b_len (by decide +kernel) (pa_cons (pv 2) pa_nil)) pa_nil)) (blkOk_by (own := [("_law_k", 9)]) (N := n__law_moved_right) (sc := defScope s__law_moved_right) (by decide +kernel)) (fun _ _ _ _ _ => (pg_name (i := 9) sc__law_moved_right.nd rfl (by first | exact Or.inl rfl | exact Or.inr rfl))) (fun _ _ _ _ _ => pts_nil) (fun _ _ _ _ _ => (pe_cmpR op_ne (pv 9) (pv 4) (nomark _)))) pa_nil)))))
      (pss_one (ps_ret pe_bl))
      pss_nil)
      (pss_cons (ps_if (pt_cmpR op_eq (pe_callB call_len (by rfl) T.b_len (by decide +kernel) (pa_cons (pv 6) pa_nil)) pe_int (nomark _))
      (pss_one (ps_ret pe_bl))
      pss_nil)
      (pss_cons (ps_asg (pe_op op_sub (pe_ix ix_list (pv 6) (pe_op op_sub (pe_op op_sub (pe_callB call_len (by rfl) T.b_len (by decide +kernel) (pa_cons (pv 6) pa_nil)) pe_int) (pv 7)) (fun _ _ => rfl)) (pe_ifExp (pt_cmpR op_gt (pv 7) pe_int (nomark _)) pe_int (pe_un un_neg pe_int))) (pg_sub (pv 6) (pe_op op_sub (pe_op op_sub (pe_callB call_len (by rfl) T.b_len (by decide +kernel) (pa_cons (pv 6) pa_nil)) pe_int) (pv 7)) set_list))
      (pss_cons (ps_set (i := 5) sc__law_moved_right.nd rfl (by first | exact Or.inl rfl | exact Or.inr rfl) (pe_make T.mk_Hall G_Hall___init__ (hr.mono (by first | decide | omega)) rfl T.g_Hall T.bd_Hall___init__ .nil pass0 (pa_cons (pv 1) (pa_cons (pe_op op_cat (pe_op op_cat (pe_slice sl_list (pv 2) po_none (po_some (pv 4))) (pe_lst (pa_cons (pv 6) pa_nil))) (pe_slice sl_list (pv 2) (po_some (pe_op op_add (pv 4) pe_int)) po_none)) (pa_cons (pv 3) pa_nil)))))
      (pss_one (ps_ret (pe_callB (cr_all rfl) (by rfl) T.b_all (by decide +kernel) (pa_cons (pe_lc (own := [("_law_other", 8)]) (g := (gName 8)) (tt := tYes) rfl sc__law_moved_right.nd (pi_range1 (by rfl) T.b_range (pa_cons (pe_callB call_len (by rfl) T.b_len (by decide +kernel) (pa_cons (pv 2) pa_nil)) pa_nil)) (blkOk_by (own := [("_law_other", 8)]) (N := n__law_moved_right) (sc := defScope s__law_moved_right) (by decide +kernel)) (fun _ _ _ _ _ => (pg_name (i := 8) sc__law_moved_right.nd rfl (by first | exact Or.inl rfl | exact Or.inr rfl))) (fun _ _ _ _ _ => pts_nil) (fun _ _ _ _ _ => (pe_cmpR op_isBl (pe_call G_is_balanced (hr.mono (by first | decide | omega)) rfl T.g_is_balanced T.F_is_balanced.kp T.bd_is_balanced .nil pass0 (pa_cons (pv 5) (pa_cons (pv 8) pa_nil))) pe_bl (nomark _)))) pa_nil)))))))))))), ?_⟩
    obtain ⟨xs, hsa, nsa, lx, lxw, al⟩ := dS.rowLL
    have nsb : sa ≠ b := by simpa using nsa
    have lrs := ok.ls
    have lr1 := ok.r1
    have lr12 := hs.lr
    refine ⟨_, rfl, _, rfl, _, steps.length, rfl, .inl ⟨_, SqL.of hsa, lx.symm⟩, b, _, n, rfl, hB, by omega, by omega, by omega, fun o0 H1 z0 z1 hB1 k1 => ?_⟩
    obtain ⟨o, rfl⟩ : ∃ k : Nat, o0 = (k : Int) := ⟨o0.toNat, by omega⟩
    have lo : o < steps.length := by omega
    obtain ⟨r, er⟩ : ∃ r, steps[o]? = some r := ⟨steps[o], by simp⟩
    obtain ⟨a, gx, ha, na, la⟩ := al o _ er
    have rm := List.mem_of_getElem? er
    have rg := ok.step r rm
    have rl1 := rg.l1
    have rl4 := rg.l4
    have bd := bs r rm
    have hsa1 := k1 _ _ hsa (by simpa using nsb)
    have ha1 := k1 _ _ ha na
    refine ⟨_, rfl, _, rfl, sa, _, _, _, rfl, rfl, SqL.of hsa1, atI_nat gx, a, _, rfl, .inl (SqL.of ha1), fun l hl => ?_⟩
    have nlb := hB1.off hl
    have k2 : Kp [b] H (upd H1 l (.lst (r.map V.int))) := k1.new hl
    have kl2 : Kp [] H1 (upd H1 l (.lst (r.map V.int))) := Kp.rfl'.new hl
    have hB2 := hB1.keep kl2 (by simp)
    have hl2 : (upd H1 l (.lst (r.map V.int))) l = some (.lst (r.map V.int)) := upd_same
    generalize upd H1 l (.lst (r.map V.int)) = H2 at k2 kl2 hB2 hl2 ⊢
    have hsa2 := kl2 _ _ hsa1 (by simp)
    have ha2 := kl2 _ _ ha1 (by simp)
    refine ⟨_, rfl, _, rfl, _, rfl, sa, _, _, _, rfl, rfl, SqL.of hsa2, atI_nat gx, _, r.length, rfl, .inl ⟨_, SqL.of ha2, (List.length_map ..).symm⟩, _, _, rfl, rfl, by show 2 ≤ sizeLine; decide, fun m hm => ?_⟩
    have nmb := hB2.off hm
    have kl3 : Kp [] H2 (upd H2 m (.lst [.int 0, .int (r.length - 1)])) := Kp.rfl'.new hm
    refine ⟨b, m, [0, (r.length : Int) - 1], _, rfl, hB2.keep kl3 (by simp), by omega, upd_same, nmb, by simp, by simp, fun at0 H4 hat hB4 k4 => ⟨_, _, rfl, ?_⟩⟩
    have k24 : Kp [b] H2 H4 := (kl3.sub (by simp)).trans k4
    have k14 : Kp [b] H1 H4 := (kl2.sub (by simp)).trans k24
    have hl4 := k24 _ _ hl2 (by simpa using nlb)
    have hsa4 := k24 _ _ hsa2 (by simpa using nsb)
    obtain ⟨k, rfl⟩ : ∃ k : Nat, at0 = (k : Int) := ⟨at0.toNat, by simp at hat; omega⟩
    have hk : k = 0 ∨ k = r.length - 1 := by simp at hat; omega
    have lk : k < r.length := by omega
    obtain ⟨x, ex⟩ : ∃ x, r[k]? = some x := ⟨r[k], by simp⟩
    have bx := bd x (List.mem_of_getElem? ex)
    have eo1 : (o : Int) + 1 = ((o + 1 : Nat) : Int) := by omega
    refine nx_of (sl_eq [some (.ref b), some (.ref ta), some (.ref sa), some (.ref wa), some (.int (o : Nat)), none, some (.ref l), some (.int (k : Nat)), none, none] rfl ?_)
    -- one step moved
    refine seq_cutA (fun σ' H' => ∃ d : Int, (d = 1 ∨ d = -1) ∧ (d = 1 ↔ 0 < k) ∧ σ' = [some (.ref b), some (.ref ta), some (.ref sa), some (.ref wa), some (.int (o : Nat)), none, some (.ref l), some (.int (k : Nat)), none, none] ∧ H' = upd H4 l (.lst ((mv1 r k d x).map V.int))) ?_ fun nx hnx => ?_
    rotate_left
    · refine ⟨_, rfl, _, rfl, l, _, _, V.int x, rfl, rfl, SqL.of hl4, atI_nat (by rw [List.getElem?_map, ex]; rfl), _, rfl, _, _, rfl, rfl, _, rfl, ite2 (fun c => ?_) (fun c => ?_)⟩
      · have c' : 0 < k := by have z := of_decide_eq_true c; omega
        refine ⟨_, _, rfl, rfl, _, rfl, _, rfl, l, _, _, k, rfl, rfl, hl4, by rw [List.length_map]; exact ixN_nat lk, ?_⟩
        rw [map_set_int]
        exact hnx _ _ ⟨1, .inl rfl, ⟨fun _ => c', fun _ => rfl⟩, rfl, rfl⟩
      · have c' : ¬ 0 < k := fun z => c (decide_eq_true (by omega))
        refine ⟨_, rfl, _, _, rfl, rfl, _, rfl, _, rfl, l, _, _, k, rfl, rfl, hl4, by rw [List.length_map]; exact ixN_nat lk, ?_⟩
        rw [map_set_int]
        exact hnx _ _ ⟨-1, .inr rfl, ⟨fun z => by omega, fun z => absurd z c'⟩, rfl, rfl⟩
    rintro σ' H5 ⟨d, hd, hdk, rfl, rfl⟩
    have klm : Kp [l] H4 (upd H4 l (.lst ((mv1 r k d x).map V.int))) := Kp.rfl'.put (by simp)
    have k15 : Kp [b] H1 (upd H4 l (.lst ((mv1 r k d x).map V.int))) := k14.hide (klm.sub (by simp)) hl
    have hAB : Bx (upd H4 l (.lst ((mv1 r k d x).map V.int))) b (n + 1 + 1) := hB4.keep klm (by simpa using nlb.symm)
    have hl5 : (upd H4 l (.lst ((mv1 r k d x).map V.int))) l = some (.lst ((mv1 r k d x).map V.int)) := upd_same
    have nls : sa ≠ l := fun z => by rw [z, hl] at hsa1; cases hsa1
    have hsa5 := klm _ _ hsa4 (by simpa using nls)
    generalize upd H4 l (.lst ((mv1 r k d x).map V.int)) = H5 at klm k15 hAB hl5 hsa5 ⊢
    have k05 : Kp [b] H H5 := k1.trans k15
    have dT5 := dT'.keep k05
    have dS5 := dS.keep k05
    have dW5 := dW.keep k05
    have lm : (mv1 r k d x).length = r.length := by simp [mv1]
    have bdm : Bd 1000001 (mv1 r k d x) := fun y hy => by
      rcases List.mem_or_eq_of_mem_set hy with z | z
      · have := bd y z
        omega
      · omega
    have rgm : Rung0 (mv1 r k d x) := ⟨by omega, by omega, by
      rcases hk with z | z
      · have ed : d = -1 := by omega
        subst z ed
        exact rises_lo rg.up ex
      · by_cases z0 : k = 0
        · have ed : d = -1 := by omega
          subst z0 ed
          exact rises_lo rg.up ex
        · have ed : d = 1 := hdk.mpr (by omega)
          subst z ed
          exact rises_hi rg.up ex⟩
    have AhB := hAB

    refine ⟨_, rfl, _, rfl, _, rfl, _, rfl, sa, xs, rfl, SqL.of hsa5, fun A1 Ah1 => ?_⟩
    rw [cut_to]
    have Ak1 : Kp [] H5 (upd H5 A1 (.lst (xs.take o))) := Kp.rfl'.new Ah1
    have Ap1 : (upd H5 A1 (.lst (xs.take o))) A1 = some (.lst (xs.take o)) := upd_same
    generalize upd H5 A1 (.lst (xs.take o)) = AH1 at Ak1 Ap1 ⊢
    refine ⟨_, rfl, by show 1 ≤ sizeLine; decide, fun A2 Ah2 => ?_⟩
    have Ak2 : Kp [] AH1 (upd AH1 A2 (.lst [.ref l])) := Kp.rfl'.new Ah2
    have Ap12 := Ak2 _ _ Ap1 (by simp)
    have Ap2 : (upd AH1 A2 (.lst [.ref l])) A2 = some (.lst [.ref l]) := upd_same
    generalize upd AH1 A2 (.lst [.ref l]) = AH2 at Ak2 Ap12 Ap2 ⊢
    refine ⟨A1, A2, _, _, rfl, rfl, Ap12, Ap2, by simp only [List.length_take, List.length_singleton]; exact Nat.le_of_lt (small1000 (by omega)), fun A3 Ah3 => ?_⟩
    have Ak3 : Kp [] AH2 (upd AH2 A3 (.lst (xs.take o ++ [.ref l]))) := Kp.rfl'.new Ah3
    have Ap3 : (upd AH2 A3 (.lst (xs.take o ++ [.ref l]))) A3 = some (.lst (xs.take o ++ [.ref l])) := upd_same
    generalize upd AH2 A3 (.lst (xs.take o ++ [.ref l])) = AH3 at Ak3 Ap3 ⊢
    have Ak03 := (Ak1.trans Ak2).trans Ak3
    refine ⟨_, rfl, _, rfl, _, _, rfl, rfl, _, rfl, sa, xs, rfl, SqL.of (Ak03 _ _ hsa5 (by simp)), fun A4 Ah4 => ?_⟩
    rw [eo1, cut_from]
    have Ak4 : Kp [] AH3 (upd AH3 A4 (.lst (xs.drop (o + 1)))) := Kp.rfl'.new Ah4
    have Ap34 := Ak4 _ _ Ap3 (by simp)
    have Ap4 : (upd AH3 A4 (.lst (xs.drop (o + 1)))) A4 = some (.lst (xs.drop (o + 1))) := upd_same
    generalize upd AH3 A4 (.lst (xs.drop (o + 1))) = AH4 at Ak4 Ap34 Ap4 ⊢
    refine ⟨A3, A4, _, _, rfl, rfl, Ap34, Ap4, by simp only [List.length_append, List.length_take, List.length_drop, List.length_singleton]; exact Nat.le_of_lt (small1000 (by omega)), fun A5 Ah5 => ?_⟩
    have Ak5 : Kp [] AH4 (upd AH4 A5 (.lst (xs.take o ++ [.ref l] ++ xs.drop (o + 1)))) := Kp.rfl'.new Ah5
    have Ak05 := (Ak03.trans Ak4).trans Ak5
    have Ap5 : (upd AH4 A5 (.lst (xs.take o ++ [.ref l] ++ xs.drop (o + 1)))) A5 = some (.lst (xs.take o ++ [.ref l] ++ xs.drop (o + 1))) := upd_same
    have An5 : A5 ≠ b := ((AhB.keep Ak03 (by simp)).keep Ak4 (by simp)).off Ah5
    generalize upd AH4 A5 (.lst (xs.take o ++ [.ref l] ++ xs.drop (o + 1))) = AH5 at Ak5 Ak05 Ap5 ⊢
    have AhB5 := AhB.keep Ak05 (by simp)
    have dA5 : D [b] AH5 12 2 (.ref A5) (dII (steps.set o (mv1 r k d x))) := putD dS5 hsa5 (Ak05.sub (by simp)) Ap5 (by simpa using An5) (Ak05 _ _ hl5 (by simp)) (by simpa using nlb) lo (by omega) bdm
    have okA : HallOk rows (steps.set o (mv1 r k d x)) ws := set_ok ok rgm
    have hsA : Hs rows (steps.set o (mv1 r k d x)) ws := set_hs hs (by omega)
    have tpA : topsOf (steps.set o (mv1 r k d x)) = topsOf steps := tops_set er lm
    refine ⟨_, rfl, fun y dx fx' fdx nxd => ?_⟩
    refine init_of fx' fdx nxd AhB5 (dT5.keep (Ak05.sub (by simp))) dA5 (dW5.keep (Ak05.sub (by simp))) okA fun H6 hA k6 => ⟨rfl, ?_⟩
    have k56 : Kp [] H5 H6 := Ak05.trans (k6 [])
    have hl6 := k56 _ _ hl5 (by simp)
    have hsa6 := k56 _ _ hsa5 (by simp)
    have hB6 := hAB.keep k56 (by simp)
    clear Ak1 Ap1 Ak2 Ap12 Ap2 Ak3 Ap3 Ak03 Ak4 Ap34 Ap4 Ak5 Ap5 An5 AhB5 AhB dA5 Ah1 Ah2 Ah3 Ah4 Ah5
    refine nx_of (sl_eq [some (.ref b), some (.ref ta), some (.ref sa), some (.ref wa), some (.int (o : Nat)), some (.ref y), some (.ref l), some (.int (k : Nat)), none, none] rfl ?_)
    refine seq_cutI (fun σ' H' => σ' = [some (.ref b), some (.ref ta), some (.ref sa), some (.ref wa), some (.int (o : Nat)), some (.ref y), some (.ref l), some (.int (k : Nat)), none, none] ∧ Kp [] H6 H') ?_ fun nx hnx => ?_
    rotate_left
    · refine ⟨_, rfl, _, steps.length, rfl, .inl ⟨_, SqL.of hsa6, lx.symm⟩, _, rfl, by omega, by omega, fun p1 hp1 => lc_range (n := ((steps.length : Nat) : Int).toNat) (fun j H7 => H7 p1 = some (.lst (((List.range j).map fun i => decide (i ≠ o)).map V.bl)) ∧ Kp [] H6 H7) ?_ ?_ ?_⟩
      · exact ⟨by rw [upd_same]; rfl, Kp.rfl'.new hp1⟩
      · rintro j H7 hj ⟨h7, k7⟩
        have lj : j < steps.length := by omega
        obtain ⟨rj, ej⟩ : ∃ rj, steps[j]? = some rj := ⟨steps[j], by simp⟩
        obtain ⟨r0, e0⟩ : ∃ r0, rows[j]? = some r0 := ⟨rows[j]'(by omega), by simp⟩
        have ebl : ∀ rr, (steps.set o (mv1 r k d x))[j]? = some rr → balB rr (midR ws (topsOf steps) r0) = decide (j ≠ o) := fun rr err => by
          rw [List.getElem?_set] at err
          by_cases c : o = j
          · subst c
            rw [if_pos rfl, if_pos lo] at err
            rw [ej] at er
            cases er
            cases err
            rw [mv1_bal (bal o r0 _ e0 ej) ex hd hk fun z => by omega]
            simp
          · rw [if_neg c] at err
            rw [bal j r0 rr e0 err]
            exact (decide_eq_true (show j ≠ o from fun z => c z.symm)).symm
        obtain ⟨rr, err⟩ : ∃ rr, (steps.set o (mv1 r k d x))[j]? = some rr := ⟨(steps.set o (mv1 r k d x))[j]'(by simpa using lj), by simp⟩
        refine ⟨rfl, yesT ⟨_, rfl, _, rfl, y, j, rows, _, ws, r0, rr, [b], 12, congrArg (fun z => [_, V.int z]) (Int.zero_add _), hA.keep (k7.sub (by simp)), by decide, hsA, e0, err, fun H8 k8 => ?_⟩⟩
        rw [tpA, ebl rr err]
        refine ⟨_, k8 _ _ h7 (by simp), by simp only [List.length_map, List.length_range]; exact small1000 (by omega), ?_, (k7.trans k8).own hp1⟩
        rw [upd_same, List.range_succ]
        simp
      · rintro H7 ⟨h7, k7⟩
        have hsa7 := k7 _ _ hsa6 (by simp)
        refine ⟨_, rfl, _, steps.length, rfl, .inl ⟨_, SqL.of hsa7, lx.symm⟩, _, rfl, by omega, by omega, fun p2 hp2 => lc_range (n := ((steps.length : Nat) : Int).toNat) (fun j H8 => H8 p2 = some (.lst (((List.range j).map fun i => decide (i ≠ o)).map V.bl)) ∧ Kp [] H7 H8) ?_ ?_ ?_⟩
        · exact ⟨by rw [upd_same]; rfl, Kp.rfl'.new hp2⟩
        · rintro j H8 hj ⟨h8, k8⟩
          refine ⟨rfl, yesT ⟨_, rfl, _, rfl, rfl, _, h8, by simp only [List.length_map, List.length_range]; exact small1000 (by omega), ?_, k8.own hp2⟩⟩
          rw [upd_same, List.range_succ]
          have z : (!decide (V.int ((0 : Int) + (j : Nat)) = V.int (o : Nat))) = decide (j ≠ o) := by
            rw [Bool.eq_iff_iff]
            simp
            omega
          rw [z]
          simp
        · rintro H8 ⟨h8, k8⟩
          have d1 : D [] H8 60 2 (.ref p1) (.list (((List.range steps.length).map fun i => decide (i ≠ o)).map PyData.bool)) := .lst (k8 _ _ h7 (by simp)) (by simp) (by simp; omega) (DA.ofBl _)
          have d2 : D [] H8 60 2 (.ref p2) (.list (((List.range steps.length).map fun i => decide (i ≠ o)).map PyData.bool)) := .lst h8 (by simp) (by simp; omega) (DA.ofBl _)
          refine ⟨_, _, _, [], [], 60, 2, rfl, d1, d2, by decide, by decide, fun H9 k9 => ⟨_, rfl, iteF ?_⟩⟩
          exact hnx _ _ ⟨rfl, (k7.trans k8).trans k9⟩
    rintro σ' H7 ⟨rfl, k67⟩
    have hl7 := k67 _ _ hl6 (by simp)
    have hsa7 := k67 _ _ hsa6 (by simp)
    have hB7 := hB6.keep k67 (by simp)
    have k57 := k56.trans k67
    have k07 : Kp [b] H H7 := k05.trans (k57.sub (by simp))
    clear hA k67 hsa6 hl6 hB6
    refine seq_cutI (fun σ' H' => σ' = [some (.ref b), some (.ref ta), some (.ref sa), some (.ref wa), some (.int (o : Nat)), some (.ref y), some (.ref l), some (.int (k : Nat)), none, none] ∧ H7 = H' ∧ 2 ≤ r.length) ?_ fun nx hnx => ?_
    rotate_left
    · refine ⟨_, rfl, _, r.length, rfl, .inl ⟨_, SqL.of hl7, by rw [List.length_map]; exact lm.symm⟩, rfl, _, rfl, ite2 (fun c => ?_) (fun c => ?_)⟩
      · exact q _ k07
      · have c' : ¬ r.length = 1 := fun z => c (by rw [z]; exact decide_eq_true rfl)
        exact hnx _ _ ⟨rfl, rfl, by omega⟩
    rintro σ' H7' ⟨rfl, rfl, l2⟩
    -- its opposite too
    obtain ⟨y2, ey⟩ : ∃ y2, r[r.length - 1 - k]? = some y2 := ⟨r[r.length - 1 - k]'(by omega), by simp⟩
    have nk : k ≠ r.length - 1 - k := by omega
    have ey1 : (mv1 r k d x)[r.length - 1 - k]? = some y2 := by
      unfold mv1
      rw [List.getElem?_set, if_neg nk]
      exact ey
    have by2 := bd y2 (List.mem_of_getElem? ey)
    have eix : (r.length : Int) - 1 - (k : Nat) = ((r.length - 1 - k : Nat) : Int) := by omega
    refine seq_cutA (fun σ' H' => σ' = [some (.ref b), some (.ref ta), some (.ref sa), some (.ref wa), some (.int (o : Nat)), some (.ref y), some (.ref l), some (.int (k : Nat)), none, none] ∧ H' = upd H7 l (.lst (((mv1 r k d x).set (r.length - 1 - k) (y2 - d)).map V.int))) ?_ fun nx hnx => ?_
    rotate_left
    · refine ⟨_, rfl, _, rfl, _, r.length, rfl, .inl ⟨_, SqL.of hl7, by rw [List.length_map]; exact lm.symm⟩, _, _, rfl, rfl, _, rfl, _, _, rfl, rfl, l, _, _, V.int y2, rfl, rfl, SqL.of hl7, at_of eix (by rw [List.getElem?_map, ey1]; rfl), _, rfl, _, _, rfl, rfl, _, rfl, ite2 (fun c => ?_) (fun c => ?_)⟩
      · have ed : d = 1 := hdk.mpr (by have z := of_decide_eq_true c; omega)
        subst ed
        refine ⟨_, _, rfl, rfl, _, rfl, _, rfl, _, r.length, rfl, .inl ⟨_, SqL.of hl7, by rw [List.length_map]; exact lm.symm⟩, _, _, rfl, rfl, _, rfl, _, _, rfl, rfl, l, _, _, r.length - 1 - k, rfl, rfl, hl7, by rw [List.length_map, lm, eix]; exact ixN_nat (by omega), ?_⟩
        rw [map_set_int]
        exact hnx _ _ ⟨rfl, rfl⟩
      · have ed : d = -1 := by
          rcases hd with z | z
          · exact absurd (decide_eq_true (by have := hdk.mp z; omega)) c
          · exact z
        subst ed
        refine ⟨_, rfl, _, _, rfl, rfl, _, rfl, _, rfl, _, r.length, rfl, .inl ⟨_, SqL.of hl7, by rw [List.length_map]; exact lm.symm⟩, _, _, rfl, rfl, _, rfl, _, _, rfl, rfl, l, _, _, r.length - 1 - k, rfl, rfl, hl7, by rw [List.length_map, lm, eix]; exact ixN_nat (by omega), ?_⟩
        rw [map_set_int]
        exact hnx _ _ ⟨rfl, rfl⟩
    rintro σ' H8 ⟨rfl, rfl⟩
    obtain ⟨r2, er2⟩ : ∃ r2, (mv1 r k d x).set (r.length - 1 - k) (y2 - d) = r2 := ⟨_, rfl⟩
    have l2r : r2.length = r.length := by rw [← er2, List.length_set, lm]
    have bd2 : Bd 1000001 r2 := fun z hz => by
      rw [← er2] at hz
      rcases List.mem_or_eq_of_mem_set hz with z' | z'
      · rcases List.mem_or_eq_of_mem_set z' with z' | z'
        · have := bd z z'
          omega
        · omega
      · omega
    have rg2 : Rung0 r2 := ⟨by omega, by omega, by
      rw [← er2]
      rcases hk with z | z
      · have ed : d = -1 := by omega
        subst z ed
        have e1 : (mv1 r 0 (-1) x)[(mv1 r 0 (-1) x).length - 1]? = some y2 := by rw [lm]; exact ey1
        have w1 := rises_hi (show rises (mv1 r 0 (-1) x) from rises_lo rg.up ex) e1
        rw [lm] at w1
        exact w1
      · have ed : d = 1 := hdk.mpr (by omega)
        have z2 : r.length - 1 - k = 0 := by omega
        subst ed
        rw [z2] at ey1 ⊢
        subst z
        exact rises_lo (show rises (mv1 r (r.length - 1) 1 x) from rises_hi rg.up ex) ey1⟩
    have bal2 : ∀ m, balB r m = true → balB r2 m = true := fun m h => by
      rw [← er2]
      exact mv2_bal h ex ey nk
    rw [er2]
    have klm2 : Kp [l] H7 (upd H7 l (.lst (r2.map V.int))) := Kp.rfl'.put (by simp)
    have k18 : Kp [b] H1 (upd H7 l (.lst (r2.map V.int))) := (k15.trans (k57.sub (by simp))).hide (klm2.sub (by simp)) hl
    have CB : Bx (upd H7 l (.lst (r2.map V.int))) b (n + 1 + 1) := hB7.keep klm2 (by simpa using nlb.symm)
    have hl8 : (upd H7 l (.lst (r2.map V.int))) l = some (.lst (r2.map V.int)) := upd_same
    have hsa8 := klm2 _ _ hsa7 (by simpa using nls)
    generalize upd H7 l (.lst (r2.map V.int)) = H8 at klm2 k18 CB hl8 hsa8 ⊢
    have k08 : Kp [b] H H8 := k1.trans k18
    have dT8 := dT'.keep k08
    have dS8 := dS.keep k08
    have dW8 := dW.keep k08
    have ChB := CB

    refine ⟨_, rfl, _, rfl, _, rfl, _, rfl, sa, xs, rfl, SqL.of hsa8, fun C1 Ch1 => ?_⟩
    rw [cut_to]
    have Ck1 : Kp [] H8 (upd H8 C1 (.lst (xs.take o))) := Kp.rfl'.new Ch1
    have Cp1 : (upd H8 C1 (.lst (xs.take o))) C1 = some (.lst (xs.take o)) := upd_same
    generalize upd H8 C1 (.lst (xs.take o)) = CH1 at Ck1 Cp1 ⊢
    refine ⟨_, rfl, by show 1 ≤ sizeLine; decide, fun C2 Ch2 => ?_⟩
    have Ck2 : Kp [] CH1 (upd CH1 C2 (.lst [.ref l])) := Kp.rfl'.new Ch2
    have Cp12 := Ck2 _ _ Cp1 (by simp)
    have Cp2 : (upd CH1 C2 (.lst [.ref l])) C2 = some (.lst [.ref l]) := upd_same
    generalize upd CH1 C2 (.lst [.ref l]) = CH2 at Ck2 Cp12 Cp2 ⊢
    refine ⟨C1, C2, _, _, rfl, rfl, Cp12, Cp2, by simp only [List.length_take, List.length_singleton]; exact Nat.le_of_lt (small1000 (by omega)), fun C3 Ch3 => ?_⟩
    have Ck3 : Kp [] CH2 (upd CH2 C3 (.lst (xs.take o ++ [.ref l]))) := Kp.rfl'.new Ch3
    have Cp3 : (upd CH2 C3 (.lst (xs.take o ++ [.ref l]))) C3 = some (.lst (xs.take o ++ [.ref l])) := upd_same
    generalize upd CH2 C3 (.lst (xs.take o ++ [.ref l])) = CH3 at Ck3 Cp3 ⊢
    have Ck03 := (Ck1.trans Ck2).trans Ck3
    refine ⟨_, rfl, _, rfl, _, _, rfl, rfl, _, rfl, sa, xs, rfl, SqL.of (Ck03 _ _ hsa8 (by simp)), fun C4 Ch4 => ?_⟩
    rw [eo1, cut_from]
    have Ck4 : Kp [] CH3 (upd CH3 C4 (.lst (xs.drop (o + 1)))) := Kp.rfl'.new Ch4
    have Cp34 := Ck4 _ _ Cp3 (by simp)
    have Cp4 : (upd CH3 C4 (.lst (xs.drop (o + 1)))) C4 = some (.lst (xs.drop (o + 1))) := upd_same
    generalize upd CH3 C4 (.lst (xs.drop (o + 1))) = CH4 at Ck4 Cp34 Cp4 ⊢
    refine ⟨C3, C4, _, _, rfl, rfl, Cp34, Cp4, by simp only [List.length_append, List.length_take, List.length_drop, List.length_singleton]; exact Nat.le_of_lt (small1000 (by omega)), fun C5 Ch5 => ?_⟩
    have Ck5 : Kp [] CH4 (upd CH4 C5 (.lst (xs.take o ++ [.ref l] ++ xs.drop (o + 1)))) := Kp.rfl'.new Ch5
    have Ck05 := (Ck03.trans Ck4).trans Ck5
    have Cp5 : (upd CH4 C5 (.lst (xs.take o ++ [.ref l] ++ xs.drop (o + 1)))) C5 = some (.lst (xs.take o ++ [.ref l] ++ xs.drop (o + 1))) := upd_same
    have Cn5 : C5 ≠ b := ((ChB.keep Ck03 (by simp)).keep Ck4 (by simp)).off Ch5
    generalize upd CH4 C5 (.lst (xs.take o ++ [.ref l] ++ xs.drop (o + 1))) = CH5 at Ck5 Ck05 Cp5 ⊢
    have ChB5 := ChB.keep Ck05 (by simp)
    have dC5 : D [b] CH5 12 2 (.ref C5) (dII (steps.set o r2)) := putD dS8 hsa8 (Ck05.sub (by simp)) Cp5 (by simpa using Cn5) (Ck05 _ _ hl8 (by simp)) (by simpa using nlb) lo (by omega) bd2
    have okC : HallOk rows (steps.set o r2) ws := set_ok ok rg2
    have hsC : Hs rows (steps.set o r2) ws := set_hs hs (by omega)
    have tpC : topsOf (steps.set o r2) = topsOf steps := tops_set er l2r
    refine ⟨_, rfl, fun y3 dx3 fx3 fdx3 nxd3 => ?_⟩
    refine init_of fx3 fdx3 nxd3 ChB5 (dT8.keep (Ck05.sub (by simp))) dC5 (dW8.keep (Ck05.sub (by simp))) okC fun H9 hA9 k9 => ⟨rfl, ?_⟩
    have k89 : Kp [] H8 H9 := Ck05.trans (k9 [])
    have hsa9 := k89 _ _ hsa8 (by simp)
    refine nx_of (sl_eq [some (.ref b), some (.ref ta), some (.ref sa), some (.ref wa), some (.int (o : Nat)), some (.ref y3), some (.ref l), some (.int (k : Nat)), none, none] rfl ?_)
    refine ⟨_, rfl, _, steps.length, rfl, .inl ⟨_, SqL.of hsa9, lx.symm⟩, _, rfl, by omega, by omega, fun p1 hp1 => lc_range (n := ((steps.length : Nat) : Int).toNat) (fun j H7 => H7 p1 = some (.lst ((List.replicate j true).map V.bl)) ∧ Kp [] H9 H7) ?_ ?_ ?_⟩
    · exact ⟨by rw [upd_same]; rfl, Kp.rfl'.new hp1⟩
    · rintro j HA hj ⟨h7, k7⟩
      have lj : j < steps.length := by omega
      obtain ⟨rj, ej⟩ : ∃ rj, steps[j]? = some rj := ⟨steps[j], by simp⟩
      obtain ⟨r0, e0⟩ : ∃ r0, rows[j]? = some r0 := ⟨rows[j]'(by omega), by simp⟩
      have ebl : ∀ rr, (steps.set o r2)[j]? = some rr → balB rr (midR ws (topsOf steps) r0) = true := fun rr err => by
        rw [List.getElem?_set] at err
        by_cases c : o = j
        · subst c
          rw [if_pos rfl, if_pos lo] at err
          rw [ej] at er
          cases er
          cases err
          exact bal2 _ (bal o r0 _ e0 ej)
        · rw [if_neg c] at err
          exact bal j r0 rr e0 err
      obtain ⟨rr, err⟩ : ∃ rr, (steps.set o r2)[j]? = some rr := ⟨(steps.set o r2)[j]'(by simpa using lj), by simp⟩
      refine ⟨rfl, yesT ⟨_, rfl, _, rfl, y3, j, rows, _, ws, r0, rr, [b], 12, congrArg (fun z => [_, V.int z]) (Int.zero_add _), hA9.keep (k7.sub (by simp)), by decide, hsC, e0, err, fun HB k8 => ?_⟩⟩
      rw [tpC, ebl rr err]
      refine ⟨_, _, rfl, rfl, _, k8 _ _ h7 (by simp), by simp only [List.length_map, List.length_replicate]; exact small1000 (by omega), ?_, (k7.trans k8).own hp1⟩
      rw [upd_same]
      exact congrArg some (congrArg HO.lst (rep_snoc j))
    · rintro HA ⟨h7, k7⟩
      refine ⟨p1, _, rfl, SqL.of h7, ?_⟩
      rw [rep_all]
      exact q _ (k08.trans ((k89.trans k7).sub (by simp)))

end
end Sw

set_option maxHeartbeats 2000000
namespace Sw
open PySem PySem.Spec PyProof.Rows L2
section
variable {P : Program} {w : World} {K : PySem.W.Frag} {mg : Str → Option Value} {base : Heap}
theorem FxOk.v4 {steps : List (List Int)} {fx : List (Int × Int)} (h : FxOk steps fx) (r4 : ∀ r ∈ steps, r.length ≤ 4) : ∀ p ∈ fx, 0 ≤ p.1 ∧ p.1 < steps.length ∧ 0 ≤ p.2 ∧ p.2 ≤ 4 := fun p hp => by
  obtain ⟨j, r, e, er, v0, v1⟩ := h.ok p hp
  have := r4 r (List.mem_of_getElem? er)
  have := (List.getElem?_eq_some_iff.mp er).1
  omega
theorem prs_al {H : Hp} : ∀ {ts : List Addr} {fx : List (Int × Int)}, Paired (fun (t : Addr) (q : Key × V) => H t = some (.tup [kV q.1, q.2])) ts (kvI fx) → ts.length = fx.length ∧ ∀ (i : Nat) (t : Addr) (p : Int × Int), ts[i]? = some t → fx[i]? = some p → H t = some (.tup [.int p.1, .int p.2])
  | [], [], _ => ⟨rfl, by simp⟩
  | [], _ :: _, h => nomatch h
  | _ :: _, [], h => nomatch h
  | t :: ts, p :: fx, .cons h r => by
    obtain ⟨h1, h2⟩ := prs_al (ts := ts) (fx := fx) r
    refine ⟨by simp [h1], fun i u q e1 e2 => ?_⟩
    cases i with
    | zero =>
      cases e1
      cases e2
      exact h
    | succ i => exact h2 i u q e1 e2
theorem Bx.nt {H : Hp} {b : Addr} {n : Nat} (h : Bx H b n) : ∀ c ∈ [b], ∃ o, H c = some o ∧ ∀ xs, o ≠ .tup xs := fun c hc => by
  obtain ⟨_, _, _, e, _⟩ := h.ex
  rw [List.mem_singleton.mp hc]
  exact ⟨_, e, fun xs z => by cases z⟩
theorem rowD1 {H : Hp} {b u : Addr} {n : Nat} {R : List Int} (hB : Bx H b n) (hu : H u = some (.tup (R.map V.int))) (l : R.length ≤ 60) (bd : Bd 900 R) : D [b] H 60 2 (.ref u) (dT R) := by
  refine .tup hu (fun m => ?_) (by rw [List.length_map]; exact l) (DA.ofInts fun x hx => by have := bd x hx; omega)
  obtain ⟨o, e, no⟩ := hB.nt u m
  rw [hu] at e
  exact no _ (Option.some.inj e).symm
theorem list2 {H : Hp} {b m : Addr} {u v : V} {d1 d2 : PyData} (hm : H m = none) (nb : m ≠ b) (h1 : D [b] H 60 2 u d1) (h2 : D [b] H 60 2 v d2) : D [b] (upd H m (.lst [u, v])) 60 3 (.ref m) (.list [d1, d2]) :=
  .lst upd_same (by simpa using nb) (by simp) (.cons (h1.keep (Kp.rfl'.new hm)) (.cons (h2.keep (Kp.rfl'.new hm)) .nil))
theorem pastD {H : Hp} {b l : Addr} {n : Nat} {as : List Addr} {F : List (List Int)} (hB : Bx H b n) (hl : H l = some (.lst (as.map V.ref))) (nl : l ≠ b) (al : AsAt H as F) (lf : F.length ≤ 60) (fv : ∀ st ∈ F, st.length ≤ 60 ∧ Bd 900 st) : D [b] H 60 2 (.ref l) (dLT F) := by
  have l1 := al.len
  exact .lst hl (by simpa using nl) (by rw [List.length_map]; omega) (al.daB hB.nt fun st hs => ⟨(fv st hs).1, fun x hx => by have := (fv st hs).2 x hx; omega⟩)
theorem dropL {bs : List Addr} {H H' : Hp} {w' k : Nat} {u p : Addr} {G : List (List Int)} {xs : List V} (h : D bs H w' 2 (.ref u) (dLT G)) (e : H u = some (.lst xs)) (kp : Kp bs H H') (e2 : H' p = some (.lst (xs.drop k))) (np : p ∉ bs) : D bs H' w' 2 (.ref p) (dLT (G.drop k)) := by
  cases h with
  | lst h n l t =>
    rw [e] at h
    cases h
    refine .lst e2 np (by rw [List.length_drop]; omega) ?_
    rw [List.map_drop]
    exact (t.keep kp).dropD k
theorem hold_nil (st : List Int) : hold [] st = st := by
  apply List.ext_getElem?
  intro i
  unfold hold
  rw [List.getElem?_mapIdx]
  cases st[i]? <;> rfl
theorem map_hold_nil (F : List (List Int)) : F.map (hold []) = F := by
  rw [show hold [] = id from funext hold_nil, List.map_id]
theorem swR_go {rows steps : List (List Int)} {ws : List Int} {fx : List (Int × Int)} {F : List (List Int)} (h : ws.length ≤ F.length) (h1 : 1 ≤ F.length) : ∀ m, swR rows steps ws fx m F = (goR rows steps ws fx m F).drop m
  | 0 => rfl
  | m + 1 => by
    have e : goR rows steps ws fx (m + 1) F = goR rows steps ws fx m F ++ [nxt rows steps ws fx (goR rows steps ws fx m F)] := rfl
    rw [swR, swR_go h h1 m, nxt_drop (by rw [goR_len]; omega), List.drop_drop, e]
    rw [List.drop_append_of_le_length (by rw [goR_len]; omega), Nat.add_comm m 1]
theorem sw_last {rows steps : List (List Int)} {ws : List Int} {fx : List (Int × Int)} {F : List (List Int)} {m : Nat} {R : List Int} (h : ws.length ≤ F.length) (h1 : 1 ≤ F.length) (e : (swR rows steps ws fx m F)[F.length - 1]? = some R) : (goR rows steps ws fx m F)[(goR rows steps ws fx m F).length - 1]? = some R := by
  rw [swR_go h h1, List.getElem?_drop] at e
  rw [goR_len]
  rw [← e]
  congr 1
  omega
theorem takeL {bs : List Addr} {H H' : Hp} {w' k : Nat} {u p : Addr} {G : List (List Int)} {xs : List V} (h : D bs H w' 2 (.ref u) (dLT G)) (e : H u = some (.lst xs)) (kp : Kp bs H H') (e2 : H' p = some (.lst (xs.take k))) (np : p ∉ bs) : D bs H' w' 2 (.ref p) (dLT (G.take k)) := by
  cases h with
  | lst h n l t =>
    rw [e] at h
    cases h
    refine .lst e2 np (by rw [List.length_take]; omega) ?_
    rw [List.map_take]
    exact (t.keep kp).takeD k
theorem layLT : ∀ G : List (List Int), PyData.canLayAll0 (G.map dT) = true ∧ PyData.depthAll (G.map dT) ≤ 1
  | [] => by simp [PyData.canLayAll0, PyData.depthAll]
  | g :: G => by
    obtain ⟨h1, h2⟩ := layLT G
    obtain ⟨h3, h4⟩ := layT g
    rw [List.map_cons, PyData.canLayAll0, PyData.depthAll, h1, h3]
    exact ⟨rfl, by omega⟩
theorem shLT (G : List (List Int)) : SeqAt.shaped (dLT G) = true := by
  obtain ⟨h1, h2⟩ := layLT G
  unfold SeqAt.shaped
  have h3 : PyData.depth (dLT G) ≤ 64 := by
    show PyData.depth (.list (G.map dT)) ≤ 64
    rw [PyData.depth]
    omega
  rw [decide_eq_true h3]
  show (PyData.canLay0 (.list (G.map dT)) && true) = true
  rw [PyData.canLay0, h1]
  rfl
theorem eqvLT : ∀ G : List (List Int), PyData.eqvAll (G.map dT) (G.map dT) = true
  | [] => by simp [PyData.eqvAll]
  | g :: G => by
    rw [List.map_cons, PyData.eqvAll, eqvLT G, eqvT]
    simp
theorem eqvLT' (G : List (List Int)) : PyData.eqv (dLT G) (dLT G) = true := by
  show PyData.eqv (.list (G.map dT)) (.list (G.map dT)) = true
  rw [PyData.eqv]
  exact eqvLT G
theorem mergeI : ∀ {fx acc : List (Int × Int)}, ((acc ++ fx).map (·.1)).Nodup → mergeK (kvI acc) (kvI fx) = kvI (acc ++ fx)
  | [], acc, _ => by rw [List.append_nil]; rfl
  | p :: fx, acc, h => by
    have e : mergeK (kvI acc) (kvI (p :: fx)) = mergeK (putK (kvI acc) (.inl p.1) (.int p.2)) (kvI fx) := rfl
    have e2 : acc ++ p :: fx = (acc ++ [p]) ++ fx := by simp
    rw [e2] at h ⊢
    have nm : p.1 ∉ acc.map (·.1) := by
      rw [List.map_append, List.map_append] at h
      have h1 := (List.nodup_append.mp h).1
      have h2 := (List.nodup_append.mp h1).2.2
      intro m
      exact h2 p.1 m p.1 (by simp) rfl
    rw [e, putK_kvI nm, mergeI h]
theorem mergeN {fx : List (Int × Int)} (h : (fx.map (·.1)).Nodup) : mergeK [] (kvI fx) = kvI fx := by
  have z := mergeI (fx := fx) (acc := []) (by simpa using h)
  rw [List.nil_append] at z
  exact z
theorem paired_of {H : Hp} : ∀ {ps : List Addr} {fy : List (Int × Int)}, AsAt H ps (fy.map fun p => [p.1, p.2]) → Paired (fun (p : Addr) (kv : Key × V) => SqT K H p [kV kv.1, kv.2]) ps (kvI fy)
  | [], [], _ => .nil
  | [], _ :: _, h => nomatch h.len
  | _ :: _, [], h => nomatch h.len
  | p :: ps, q :: fy, h => .cons (SqT.of (h.row 0 p _ rfl rfl)) (paired_of (ps := ps) (fy := fy) ⟨by simpa using h.len, fun k t st e1 e2 => h.row (k + 1) t st e1 e2⟩)
theorem agn_at {ts : List Int} {fx : List (Int × Int)} {i j : Nat} {v t : Int} (e : fx[i]? = some ((j : Int), v)) (et : ts[j]? = some t) : (agn ts fx)[i]? = some ((j : Int), t - v) := by
  unfold agn
  rw [List.getElem?_map, e]
  show some ((j : Int), ts.getD j 0 - v) = _
  rw [List.getD_eq_getElem?_getD, et]
  rfl
/-- [mirror(rungs, stood) for stood in ..] -/
theorem lc_mirs {u d : Addr} {G : List (List Int)} {ts : List Int} {bs : List Addr} {w' : Nat} {g : TG} {tt : TT} {te : TE} {vs : List Nat} {σ : L2.St} {H1 : Hp} {Qd : Hp → Prop} (hD : D bs H1 w' 2 (.ref u) (dLT G)) (l9 : w' ≤ 900) (hd : H1 d = none)
    (step : ∀ (x : Addr) (st : List Int) (H2 : Hp) (R : V → Hp → Prop) (N : Hp → Prop), st ∈ G → Kp [] H1 H2 → H2 x = some (.tup (st.map V.int)) → (∀ l H3, H2 l = none → Kp [] H2 H3 → H3 l = some (.tup ((mir ts st).map V.int)) → R (.ref l) H3) → g (.ref x) (wipe σ vs) H2 fun σ2 H3 => wipe σ2 vs = wipe σ vs ∧ tt σ2 H3 fun b H4 => if b = true then te σ2 H4 R else N H4)
    (done : ∀ (H3 : Hp) (as : List Addr), H3 d = some (.lst (as.map V.ref)) → AsAt H3 as (G.map (mir ts)) → Kp [] H1 H3 → Qd H3) :
    ∃ W : Nat → Nat → Hp → Prop, (∃ m, W 0 m (upd H1 d (.lst []))) ∧ ∀ i m H, W i m H →
      ((Itl K u).stop i H ∧ Qd H) ∨ ((Itl K u).go i H ∧ ∃ Nx : Hp → Prop, (∀ H', Nx H' → ∃ m', m' < m ∧ W (i + 1) m' H') ∧ ∀ x H', (Itl K u).yld i H x H' → g x (wipe σ vs) H' fun σ2 H2 => wipe σ2 vs = wipe σ vs ∧ tt σ2 H2 fun b H3 =>
        if b = true then te σ2 H3 fun y H4 => ∃ acc, H4 d = some (.lst acc) ∧ acc.length < sizeLine ∧ Nx (upd H4 d (.lst (acc ++ [y]))) else Nx H3) := by
  obtain ⟨xs, ha, _, lx, lw, al⟩ := hD.rowLT
  refine lc_list (K := K) (a := u) (xs := xs) (fun j H3 => ∃ as : List Addr, H3 d = some (.lst (as.map V.ref)) ∧ AsAt H3 as ((G.take j).map (mir ts)) ∧ Kp [] H1 H3) ?_ ?_ ?_ ?_
  · exact ⟨[], upd_same, ⟨by simp, fun k t r e => by simp at e⟩, Kp.rfl'.new hd⟩
  · rintro j H3 _ ⟨_, _, _, k3⟩
    exact SqL.of (k3 _ _ ha (by simp))
  · rintro j y H3 hj ⟨as, h3, aq, k3⟩
    have lj := (List.getElem?_eq_some_iff.mp hj).1
    obtain ⟨r, er⟩ : ∃ r, G[j]? = some r := ⟨G[j]'(by omega), by simp⟩
    obtain ⟨x, gx, hx, _, _⟩ := al j r er
    rw [gx] at hj
    cases hj
    have la := aq.len
    rw [List.length_map, List.length_take] at la
    refine step x r H3 _ _ (List.mem_of_getElem? er) k3 (k3 _ _ hx (by simp)) fun l H4 hl k4 h4 => ?_
    have h34 := k4 _ _ h3 (by simp)
    have a4 := (aq.keep0 k4).push h4
    refine ⟨_, h34, by rw [List.length_map]; exact small1000 (by omega), as ++ [l], by rw [upd_same]; simp, ?_, (k3.trans k4).own hd⟩
    have e : (G.take (j + 1)).map (mir ts) = (G.take j).map (mir ts) ++ [mir ts r] := by rw [List.take_add_one, er, List.map_append]; rfl
    rw [e]
    exact a4.keep h34 (Kp.rfl'.put (bs := [d]) (by simp))
  · rintro H3 ⟨as, h3, aq, k3⟩
    rw [lx, List.take_length] at aq
    exact done H3 as h3 aq k3
/-- sum of steps, balanced; drawn -/
theorem mir_bd {ts st : List Int} (h1 : Bd 4 ts) (h2 : Bd 800 st) : Bd 900 (mir ts st) := fun x hx => by
  obtain ⟨i, hi, e⟩ := List.getElem_of_mem hx
  unfold mir at e hi
  rw [List.length_zipWith] at hi
  rw [List.getElem_zipWith] at e
  have a := h1 _ (List.getElem_mem (show i < ts.length by omega))
  have b := h2 _ (List.getElem_mem (show i < st.length by omega))
  omega
theorem Bd.up' {a c : Int} {ns : List Int} (h : Bd a ns) (hc : a ≤ c) : Bd c ns := fun x hx => by
  have := h x hx
  omega
theorem agn_bd {steps : List (List Int)} {fx : List (Int × Int)} (h : FxOk steps fx) (r4 : ∀ r ∈ steps, r.length ≤ 4) : ∀ p ∈ agn (topsOf steps) fx, -8 ≤ p.2 ∧ p.2 ≤ 8 := fun p hp => by
  unfold agn at hp
  obtain ⟨q, hq, rfl⟩ := List.mem_map.mp hp
  obtain ⟨j, r, e, er, v0, v1⟩ := h.ok q hq
  have l4 := r4 r (List.mem_of_getElem? er)
  have et : (topsOf steps)[j]? = some (r.length : Int) := by unfold topsOf; rw [List.getElem?_map, er]; rfl
  show -8 ≤ (topsOf steps).getD q.1.toNat 0 - q.2 ∧ (topsOf steps).getD q.1.toNat 0 - q.2 ≤ 8
  have ej : q.1.toNat = j := by rw [e]; rfl
  rw [ej, List.getD_eq_getElem?_getD, et]
  show -8 ≤ (r.length : Int) - q.2 ∧ (r.length : Int) - q.2 ≤ 8
  omega
theorem Kp.unlock {H H2 : Hp} {d : Addr} {o : HO} (hd : H d = some o) (k : Kp [d] H H2) : Kp [] H (upd H2 d o) := fun a u e _ => by
  by_cases c : a = d
  · rw [c, upd_same, ← hd, ← c, e]
  · rw [upd_ne c]
    exact k a u e (by simpa using c)
theorem goR_take {rows steps : List (List Int)} {ws : List Int} {fx : List (Int × Int)} {F : List (List Int)} : ∀ n, (goR rows steps ws fx n F).take F.length = F
  | 0 => List.take_length ..
  | n + 1 => by
    have e : goR rows steps ws fx (n + 1) F = goR rows steps ws fx n F ++ [nxt rows steps ws fx (goR rows steps ws fx n F)] := rfl
    rw [e, List.take_append_of_le_length (by rw [goR_len]; omega), goR_take n]
theorem hold_hold' {fx : List (Int × Int)} {past : List (List Int)} : (past.map (hold fx)).map (hold fx) = past.map (hold fx) := by
  rw [List.map_map]
  exact List.map_congr_left fun st _ => hold_hold

end
end Sw

set_option maxHeartbeats 2000000
namespace Sw
open PySem PySem.Spec PyProof.Rows L2
section
variable {P : Program} {w : World} {K : PySem.W.Frag} {mg : Str → Option Value} {base : Heap}
theorem LE2 {H : Hp} {m : Addr} {u v : V} {d1 d2 : PyData} (hm : H m = none) (h1 : D [] H 60 2 u d1) (h2 : D [] H 60 2 v d2) : D [] (upd H m (.lst [u, v])) 60 3 (.ref m) (.list [d1, d2]) :=
  .lst upd_same (by simp) (by simp) (.cons (h1.keep (Kp.rfl'.new hm)) (.cons (h2.keep (Kp.rfl'.new hm)) .nil))
theorem rowE {H : Hp} {u : Addr} {R : List Int} {m : Int} (hu : H u = some (.tup (R.map V.int))) (l : R.length ≤ 60) (bd : Bd m R) (m1 : m ≤ 1000000) : D [] H 60 2 (.ref u) (dT R) :=
  .tup hu (by simp) (by rw [List.length_map]; exact l) (DA.ofInts fun x hx => by have := bd x hx; omega)
/-- what is drawn for a hall -/
structure Nm (c : Nat) (rows steps : List (List Int)) (ws ts : List Int) : Prop where
  c5 : c ≤ 5
  lr : rows.length = c
  ls : steps.length = c
  ok : HallOk rows steps ws
  hs : Hs rows steps ws
  bs : ∀ r ∈ steps, Bd 500000 r
  tp : topsOf steps = ts
  bal : BalA rows steps ws
  w1 : 1 ≤ ws.length
  w5 : ws.length ≤ 5
/-- what stands through a turn -/
structure Scn (K : PySem.W.Frag) (H : Hp) (b ta sa wa tp sp x : Addr) (rows steps : List (List Int)) (ws ts : List Int) : Prop where
  dt : D [b] H 12 2 (.ref ta) (dII rows)
  ds : D [b] H 12 2 (.ref sa) (dII steps)
  hw : H wa = some (.lst (ws.map V.int))
  nw : wa ≠ b
  ht : H tp = some (.lst (ts.map V.int))
  nt : tp ≠ b
  hs : H sp = some (.lst ((rows.map (midR ws ts)).map V.int))
  ns : sp ≠ b
  ha : HallAt K [b] H 12 x rows steps ws
theorem Scn.keep {H H' : Hp} {b ta sa wa tp sp x : Addr} {rows steps : List (List Int)} {ws ts : List Int} (h : Scn K H b ta sa wa tp sp x rows steps ws ts) (k : Kp [b] H H') : Scn K H' b ta sa wa tp sp x rows steps ws ts :=
  ⟨h.dt.keep k, h.ds.keep k, k _ _ h.hw (by simpa using h.nw), h.nw, k _ _ h.ht (by simpa using h.nt), h.nt, k _ _ h.hs (by simpa using h.ns), h.ns, h.ha.keep k⟩
def sp_right : Sp := fun vs H Q _ => ∃ (b : Addr), vs = [.ref b] ∧ Bx H b 0 ∧ ∀ H', Kp [b] H H' → Q (.bl true) H'
theorem ok_right (T : Tx K mg) : FnOk P w K mg base CX0 16 (He.fAd K ("_law_right", none)) T.fd__law_right p__law_right sp_right := by
  have G__law_take := ok_take (P := P) (w := w) (base := base) T
  have G__law_ties := ok_ties (P := P) (w := w) (base := base) T
  have G__law_weights := ok_weights (P := P) (w := w) (base := base) T
  have G__law_tops := ok_ltops (P := P) (w := w) (base := base) T
  have G__law_sums := ok_lsums (P := P) (w := w) (base := base) T
  have G__law_level := ok_level (P := P) (w := w) (base := base) T
  have G_Hall___init__ := ok_init (P := P) (w := w) (base := base) T
  have G__law_past := ok_past (P := P) (w := w) (base := base) T
  have G__law_fixed := ok_fixed (P := P) (w := w) (base := base) T
  have G__law_going := ok_going (P := P) (w := w) (base := base) T
  have G__law_mirror := ok_lmir (P := P) (w := w) (base := base) T
  have G_history := ok_history (P := P) (w := w) (base := base) T
  have G__law_same := ok_same (P := P) (w := w) (base := base) T 4
  have G_Sway___init__ := ok_winit (P := P) (w := w) (base := base) T
  have G_Sway_past := ok_wpast (P := P) (w := w) (base := base) T
  have G_Sway_beat := ok_wbeat (P := P) (w := w) (base := base) T
  have G_is_balanced := ok_bal (P := P) (w := w) (base := base) T
  have G_middles := ok_mids (P := P) (w := w) (base := base) T
  have G_mirror := ok_mir (P := P) (w := w) (base := base) T
  have G__law_moved_right := ok_lmoved (P := P) (w := w) (base := base) T
  refine T.F__law_right.ok sc__law_right (fun vs H Q E h => ?_) (fun cdv A outer s H vs Q E hr h => ?_)
  · obtain ⟨_, rfl, _⟩ := h
    rfl
  · obtain ⟨b, rfl, hB, q⟩ := h
    refine ⟨_, PSs.nox (pss_cons (ps_par (i := 10) (j := 11) (by rfl) sc__law_right.nd rfl rfl (by decide) rfl rfl (pa_cons (pe_call G__law_ties (hr.mono (by first | decide | omega)) rfl T.g__law_ties T.F__law_ties.kp T.bd__law_ties .nil pass0 (pa_cons (pv 0) (pa_cons (pe_op op_add pe_int (pe_call G__law_take (hr.mono (by first | decide | omega)) rfl T.g__law_take T.F__law_take.kp T.bd__law_take .nil pass0 (pa_cons (pv 0) (pa_cons pe_int pa_nil)))) (pa_cons pe_bl pa_nil)))) (pa_cons (pe_call G__law_weights (hr.mono (by first | decide | omega)) rfl T.g__law_weights T.F__law_weights.kp T.bd__law_weights .nil pass0 (pa_cons (pv 0) (pa_cons (pe_op op_add pe_int (pe_call G__law_take (hr.mono (by first | decide | omega)) rfl T.g__law_take T.F__law_take.kp T.bd__law_take .nil pass0 (pa_cons (pv 0) (pa_cons pe_int pa_nil)))) pa_nil))) pa_nil)) (by rfl))
      (pss_cons (ps_set (i := 1) sc__law_right.nd rfl (by first | exact Or.inl rfl | exact Or.inr rfl) (pe_call G__law_tops (hr.mono (by first | decide | omega)) rfl T.g__law_tops T.F__law_tops.kp T.bd__law_tops .nil pass0 (pa_cons (pv 0) (pa_cons (pv 10) (pa_cons (pv 11) pa_nil)))))
      (pss_cons (ps_par (i := 12) (j := 13) (by rfl) sc__law_right.nd rfl rfl (by decide) rfl rfl (pa_cons (pe_call G__law_sums (hr.mono (by first | decide | omega)) rfl T.g__law_sums T.F__law_sums.kp T.bd__law_sums .nil pass0 (pa_cons (pv 10) (pa_cons (pv 11) (pa_cons (pv 1) pa_nil)))) (pa_cons (pe_call G__law_take (hr.mono (by first | decide | omega)) rfl T.g__law_take T.F__law_take.kp T.bd__law_take .nil pass0 (pa_cons (pv 0) (pa_cons pe_int pa_nil))) pa_nil)) (by rfl))
      (pss_cons (ps_set (i := 2) sc__law_right.nd rfl (by first | exact Or.inl rfl | exact Or.inr rfl) (pe_lc (own := [("_law_middle", 20), ("_law_top", 21)]) (g := (gTup K 2 (gCons (gName 20) (gCons (gName 21) gNil)))) (tt := tYes) rfl sc__law_right.nd (pi_zipS (by rfl) T.b_zip (pa_cons (pv 12) (pa_cons (pv 1) pa_nil))) (blkOk_by (own := [("_law_middle", 20), ("_law_top", 21)]) (N := n__law_right) (sc := defScope s__law_right) (by decide +kernel)) (fun _ _ _ _ _ => (pg_tup rfl (pgs_cons (pg_name (i := 20) sc__law_right.nd rfl (by first | exact Or.inl rfl | exact Or.inr rfl)) (pgs_cons (pg_name (i := 21) sc__law_right.nd rfl (by first | exact Or.inl rfl | exact Or.inr rfl)) pgs_nil)))) (fun _ _ _ _ _ => pts_nil) (fun _ _ _ _ _ => (pe_call G__law_level (hr.mono (by first | decide | omega)) rfl T.g__law_level T.F__law_level.kp T.bd__law_level .nil pass0 (pa_cons (pv 0) (pa_cons (pv 20) (pa_cons (pv 21) pa_nil)))))))
      (pss_cons (ps_asg (pe_tup (pa_cons (pe_make T.mk_Hall G_Hall___init__ (hr.mono (by first | decide | omega)) rfl T.g_Hall T.bd_Hall___init__ .nil pass0 (pa_cons (pv 10) (pa_cons (pv 2) (pa_cons (pv 11) pa_nil)))) (pa_cons (pe_call G__law_past (hr.mono (by first | decide | omega)) rfl T.g__law_past T.F__law_past.kp T.bd__law_past .nil pass0 (pa_cons (pv 0) (pa_cons (pv 2) (pa_cons (pe_callB call_len (by rfl) T.b_len (by decide +kernel) (pa_cons (pv 11) pa_nil)) pa_nil)))) (pa_cons (pe_call G__law_fixed (hr.mono (by first | decide | omega)) rfl T.g__law_fixed T.F__law_fixed.kp T.bd__law_fixed .nil pass0 (pa_cons (pv 0) (pa_cons (pv 2) pa_nil))) pa_nil)))) (pg_tup rfl (pgs_cons (pg_name (i := 14) sc__law_right.nd rfl (by first | exact Or.inl rfl | exact Or.inr rfl)) (pgs_cons (pg_name (i := 15) sc__law_right.nd rfl (by first | exact Or.inl rfl | exact Or.inr rfl)) (pgs_cons (pg_name (i := 16) sc__law_right.nd rfl (by first | exact Or.inl rfl | exact Or.inr rfl)) pgs_nil)))))
      (pss_cons (ps_set (i := 3) sc__law_right.nd rfl (by first | exact Or.inl rfl | exact Or.inr rfl) (pe_callTy (call_dictP rfl) (by rfl) T.b_dict (by decide +kernel) (pa_cons (pe_lock (pe_lc (own := [("_law_one", 19), ("_law_posture", 22)]) (g := (gTup K 2 (gCons (gName 19) (gCons (gName 22) gNil)))) (tt := tYes) rfl sc__law_right.nd (pi_items (pv 16)) (blkOk_by (own := [("_law_one", 19), ("_law_posture", 22)]) (N := n__law_right) (sc := defScope s__law_right) (by decide +kernel)) (fun _ _ _ _ _ => (pg_tup rfl (pgs_cons (pg_name (i := 19) sc__law_right.nd rfl (by first | exact Or.inl rfl | exact Or.inr rfl)) (pgs_cons (pg_name (i := 22) sc__law_right.nd rfl (by first | exact Or.inl rfl | exact Or.inr rfl)) pgs_nil)))) (fun _ _ _ _ _ => pts_nil) (fun _ _ _ _ _ => (pe_tup (pa_cons (pv 19) (pa_cons (pe_op op_sub (pe_ix (kIx (K := K) rfl) (pv 1) (pv 19) (fun _ _ => rfl)) (pv 22)) pa_nil)))))) pa_nil)))
      (pss_cons (ps_set (i := 4) sc__law_right.nd rfl (by first | exact Or.inl rfl | exact Or.inr rfl) (pe_call G__law_going (hr.mono (by first | decide | omega)) rfl T.g__law_going T.F__law_going.kp T.bd__law_going .nil pass0 (pa_cons (pe_tup (pa_cons (pv 10) (pa_cons (pv 2) (pa_cons (pv 11) pa_nil)))) (pa_cons (pv 15) (pa_cons (pv 16) (pa_cons (pv 13) pa_nil))))))
      (pss_cons (ps_setLc (i := 5) (own := [("_law_stood", 17)]) (g := (gName 17)) (tt := tYes) rfl sc__law_right.nd rfl rfl (sw_true rfl rfl rfl (by decide +kernel)) (pi_list (pv 4)) (blkOk_by (own := [("_law_stood", 17)]) (N := n__law_right) (sc := defScope s__law_right) (by decide +kernel)) (fun _ _ _ _ _ => (pg_name (i := 17) sc__law_right.nd rfl (by first | exact Or.inl rfl | exact Or.inr rfl))) (fun _ _ _ _ _ => pts_nil) (fun _ _ _ _ _ => (pe_call G__law_mirror (hr.mono (by first | decide | omega)) rfl T.g__law_mirror T.F__law_mirror.kp T.bd__law_mirror .nil pass0 (pa_cons (pv 2) (pa_cons (pv 17) pa_nil)))))
      (pss_cons (ps_if (pt_cmpR (op_neD hr.units) (pe_call G__law_going (hr.mono (by first | decide | omega)) rfl T.g__law_going T.F__law_going.kp T.bd__law_going .nil pass0 (pa_cons (pe_tup (pa_cons (pv 10) (pa_cons (pv 2) (pa_cons (pv 11) pa_nil)))) (pa_cons (pe_slice sl_list (pv 5) po_none (po_some (pe_callB call_len (by rfl) T.b_len (by decide +kernel) (pa_cons (pv 11) pa_nil)))) (pa_cons (pv 3) (pa_cons (pv 13) pa_nil))))) (pv 5) (nomark _))
      (pss_one (ps_ret pe_bl))
      pss_nil)
      (pss_cons (ps_set (i := 6) sc__law_right.nd rfl (by first | exact Or.inl rfl | exact Or.inr rfl) (pe_callN G_history (hr.mono (by first | decide | omega)) rfl T.g_history T.F_history.kp (kb_hist3 T.F_history) pass0 (pa_cons (pv 14) (pa_cons (pv 15) (pa_cons (pv 13) pa_nil))) (pk_cons (LiI.pe_listItems rfl (pv 16) (by rfl) T.b_list (by decide +kernel)) pk_nil)))
      (pss_cons (ps_setLc (i := 7) (own := [("_law_stood", 17)]) (g := (gName 17)) (tt := tYes) rfl sc__law_right.nd rfl rfl (sw_true rfl rfl rfl (by decide +kernel)) (pi_list (pv 15)) (blkOk_by (own := [("_law_stood", 17)]) (N := n__law_right) (sc := defScope s__law_right) (by decide +kernel)) (fun _ _ _ _ _ => (pg_name (i := 17) sc__law_right.nd rfl (by first | exact Or.inl rfl | exact Or.inr rfl))) (fun _ _ _ _ _ => pts_nil) (fun _ _ _ _ _ => (pe_call G__law_mirror (hr.mono (by first | decide | omega)) rfl T.g__law_mirror T.F__law_mirror.kp T.bd__law_mirror .nil pass0 (pa_cons (pv 2) (pa_cons (pv 17) pa_nil)))))
      (pss_cons (ps_if (pt_not (pt_val (pe_call G__law_same (hr.mono (by first | decide | omega)) rfl T.g__law_same T.F__law_same.kp T.bd__law_same .nil pass0 (pa_cons (pe_lst (pa_cons (pv 6) (pa_cons (pe_callN G_history (hr.mono (by first | decide | omega)) rfl T.g_history T.F_history.kp (kb_hist3 T.F_history) pass0 (pa_cons (pv 14) (pa_cons (pv 7) (pa_cons (pv 13) pa_nil))) (pk_cons (LiI.pe_listItems rfl (pv 3) (by rfl) T.b_list (by decide +kernel)) pk_nil)) pa_nil))) (pa_cons (pe_lst (pa_cons (pv 4) (pa_cons (pv 5) pa_nil))) pa_nil)))))
      (pss_one (ps_ret pe_bl))
      pss_nil)
      (pss_cons (ps_set (i := 8) sc__law_right.nd rfl (by first | exact Or.inl rfl | exact Or.inr rfl) (pe_makeK T.mk_Sway G_Sway___init__ (hr.mono (by first | decide | omega)) rfl T.g_Sway (kb_sway T.F_Sway___init__) pass0 (pa_cons (pv 14) (pa_cons (pv 7) pa_nil)) (pk_cons (LiI.pe_listItems rfl (pv 3) (by rfl) T.b_list (by decide +kernel)) pk_nil)))
      (pss_cons (ps_if (pt_not (pt_val (pe_call G__law_same (hr.mono (by first | decide | omega)) rfl T.g__law_same T.F__law_same.kp T.bd__law_same .nil pass0 (pa_cons (pe_lst (pa_cons (pe_meth (pv 8) T.cl_Sway T.m_Sway_beat G_Sway_beat (hr.mono (by first | decide | omega)) T.bd_Sway_beat .nil pass0 (pa_cons (pv 13) pa_nil)) (pa_cons (pe_meth0 (pv 8) T.cl_Sway T.m_Sway_past G_Sway_past (hr.mono (by first | decide | omega)) T.bd_Sway_past .nil pass0) pa_nil))) (pa_cons (pe_lst (pa_cons (pe_ix ix_list (pv 5) (pe_un un_neg pe_int) (fun _ _ => rfl)) (pa_cons (pe_slice sl_list (pv 5) (po_some (pv 13)) po_none) pa_nil))) pa_nil)))))
      (pss_one (ps_ret pe_bl))
      pss_nil)
      (pss_cons (ps_setLc (i := 9) (own := [("_law_one", 19)]) (g := (gName 19)) (tt := tYes) rfl sc__law_right.nd rfl rfl (sw_true rfl rfl rfl (by decide +kernel)) (pi_range1 (by rfl) T.b_range (pa_cons (pe_callB call_len (by rfl) T.b_len (by decide +kernel) (pa_cons (pv 1) pa_nil)) pa_nil)) (blkOk_by (own := [("_law_one", 19)]) (N := n__law_right) (sc := defScope s__law_right) (by decide +kernel)) (fun _ _ _ _ _ => (pg_name (i := 19) sc__law_right.nd rfl (by first | exact Or.inl rfl | exact Or.inr rfl))) (fun _ _ _ _ _ => pts_nil) (fun _ _ _ _ _ => (pe_call G_is_balanced (hr.mono (by first | decide | omega)) rfl T.g_is_balanced T.F_is_balanced.kp T.bd_is_balanced .nil pass0 (pa_cons (pv 14) (pa_cons (pv 19) pa_nil)))))
      (pss_cons (ps_if (pt_not (pt_val (pe_call G__law_same (hr.mono (by first | decide | omega)) rfl T.g__law_same T.F__law_same.kp T.bd__law_same .nil pass0 (pa_cons (pe_lst (pa_cons (pe_call G_middles (hr.mono (by first | decide | omega)) rfl T.g_middles T.F_middles.kp T.bd_middles .nil pass0 (pa_cons (pv 14) pa_nil)) (pa_cons (pv 9) pa_nil))) (pa_cons (pe_lst (pa_cons (pe_callTy call_tuple_of (by rfl) T.b_tuple (by decide +kernel) (pa_cons (pv 12) pa_nil)) (pa_cons (pe_lc (own := [("_law_top", 21)]) (g := (gName 21)) (tt := tYes) rfl sc__law_right.nd (pi_list (pv 1)) (blkOk_by (own := [("_law_top", 21)]) (N := n__law_right) (sc := defScope s__law_right) (by decide +kernel)) (fun _ _ _ _ _ => (pg_name (i := 21) sc__law_right.nd rfl (by first | exact Or.inl rfl | exact Or.inr rfl))) (fun _ _ _ _ _ => pts_nil) (fun _ _ _ _ _ => pe_bl)) pa_nil))) pa_nil)))))
      (pss_one (ps_ret pe_bl))
      pss_nil)
      (pss_cons (ps_for PassesOwn.never rfl (pi_zipS (by rfl) T.b_zip (pa_cons (pv 4) (pa_cons (pv 5) pa_nil))) (pg_tup rfl (pgs_cons (pg_name (i := 17) sc__law_right.nd rfl (by first | exact Or.inl rfl | exact Or.inr rfl)) (pgs_cons (pg_name (i := 18) sc__law_right.nd rfl (by first | exact Or.inl rfl | exact Or.inr rfl)) pgs_nil)))
      (pss_one (ps_if (pt_not (pt_val (pe_call G__law_same (hr.mono (by first | decide | omega)) rfl T.g__law_same T.F__law_same.kp T.bd__law_same .nil pass0 (pa_cons (pe_lst (pa_cons (pe_call G_mirror (hr.mono (by first | decide | omega)) rfl T.g_mirror T.F_mirror.kp T.bd_mirror .nil pass0 (pa_cons (pv 14) (pa_cons (pv 17) pa_nil))) (pa_cons (pe_callK0 G_mirror (hr.mono (by first | decide | omega)) rfl T.g_mirror T.F_mirror.kp T.kb_mirror pass0 (pk_cons (pv 14) (pk_cons (pv 18) pk_nil))) pa_nil))) (pa_cons (pe_lst (pa_cons (pv 18) (pa_cons (pv 17) pa_nil))) pa_nil)))))
      (pss_one (ps_ret pe_bl))
      pss_nil)))
      (pss_one (ps_ret (pe_call G__law_moved_right (hr.mono (by first | decide | omega)) rfl T.g__law_moved_right T.F__law_moved_right.kp T.bd__law_moved_right .nil pass0 (pa_cons (pv 0) (pa_cons (pv 10) (pa_cons (pv 2) (pa_cons (pv 11) pa_nil)))))))))))))))))))))))), ?_⟩
    refine ⟨_, rfl, _, rfl, b, 5, 0, rfl, hB, by decide, by decide, by omega, fun c0 H1 z0 z1 hB1 k1 => ⟨_, _, rfl, rfl, ?_⟩⟩
    refine ⟨b, 1 + c0, false, 1, rfl, rfl, hB1, by omega, by omega, by omega, fun ta rows H2 fta dT' lr rr hB2 k2 => ?_⟩
    refine ⟨_, rfl, _, rfl, b, 5, _, rfl, hB2, by decide, by decide, by omega, fun c2 H3 y0 y1 hB3 k3 => ⟨_, _, rfl, rfl, ?_⟩⟩
    refine ⟨b, 1 + c2, _, rfl, hB3, by omega, by omega, by omega, fun wa ws H4 fwa hwa lw bw last hB4 k4 => ⟨_, _, rfl, ?_⟩⟩
    obtain ⟨c, ec⟩ : ∃ c : Nat, (1 + c0).toNat = c := ⟨_, rfl⟩
    rw [ec] at lr rr
    have c1 : 1 ≤ c := by omega
    have c5 : c ≤ 5 := by omega
    have k34 := k3.trans k4
    have nwb : wa ≠ b := hB3.off fwa
    have dT4 := dT'.keep k34
    have br60 : ∀ r ∈ rows, Bd 60 r := fun r hr x hx => by
      have := (rr r hr).2 x hx
      omega
    have bw20 : Bd 20 ws := fun x hx => by
      have := bw x hx
      omega
    have w1 : 1 ≤ ws.length := by omega
    have w5 : ws.length ≤ 5 := by omega
    have k04 : Kp [b] H H4 := (k1.trans k2).trans k34
    clear k1 k2 k3 k4 hB1 hB2 hB3 dT' k34
    refine ⟨_, rfl, _, rfl, _, rfl, b, ta, wa, _, rows, ws, rfl, hB4, by omega, dT4, hwa, nwb, br60, bw20, w5, by omega, fun tp ts H5 ftp htp lts rgs tok hB5 k5 => ?_⟩
    have ntb : tp ≠ b := hB4.off ftp
    have hwa5 := k5 _ _ hwa (by simpa using nwb)
    refine ⟨_, rfl, _, rfl, _, rfl, ta, wa, tp, rows, ws, ts, [b], 12, rfl, dT4.keep k5, hwa5, htp, br60, bw20, w5, by decide, fun sp H6 fsp k6 hsp => ?_⟩
    have nsb : sp ≠ b := hB5.off fsp
    have hB6 := hB5.keep k6 (by simp)
    refine ⟨_, rfl, b, 31, _, rfl, hB6, by decide, by decide, by omega, fun far0 H7 f0 f1 hB7 k7 => ⟨_, _, rfl, ?_⟩⟩
    obtain ⟨far, rfl⟩ : ∃ k : Nat, far0 = (k : Int) := ⟨far0.toNat, by omega⟩
    have f31 : far ≤ 30 := by omega
    have k57 : Kp [b] H5 H7 := (k6.sub (by simp)).trans k7
    have k47 := k5.trans k57
    have k07 := k04.trans k47
    have dT7 := dT4.keep k47
    have hwa7 := k57 _ _ hwa5 (by simpa using nwb)
    have htp7 := k57 _ _ htp (by simpa using ntb)
    have hsp7 := k7 _ _ hsp (by simpa using nsb)
    clear k04 k5 k6 k7 k57 k47 dT4 hwa hwa5 htp hsp hB4 hB5 hB6 ftp fsp
    refine nx_of (sl_eq [some (.ref b), some (.ref tp), none, none, none, none, none, none, none, none, some (.ref ta), some (.ref wa), some (.ref sp), some (.int (far : Nat)), none, none, none, none, none, none, none, none, none] rfl ?_)
    -- steps, laid balanced
    have lm : (rows.map (midR ws ts)).length = c := by rw [List.length_map]; exact lr
    have hs0 : ∀ r ∈ rows, -300000 ≤ midR ws ts r ∧ midR ws ts r ≤ 300000 := fun r hr => by
      have z := dot_bd (a := 60) (c := 4) (by decide) (by decide) (br60 r hr) (show Bd 4 ts from fun t ht => by have := rgs t ht; omega)
      have lz := (rr r hr).1
      have s := sum_bd2 bw20
      have m := mul_bd (x := ws.sum) (y := dot r ts) (a := 100) (c := 3000) ⟨by omega, by omega⟩ ⟨by omega, by omega⟩
      unfold midR
      omega
    refine ⟨_, rfl, _, rfl, sp, tp, true, true, _, _, rfl, SqL.of hsp7, SqL.of htp7, fun sa hsa => lc_it (walkZ (K := K) (a := sp) (b := tp) (ka := true) (kb := true) (n := c) (xs := (rows.map (midR ws ts)).map V.int) (ys := ts.map V.int) (by simp only [List.length_map]; omega)) (fun j H8 => ∃ (xs : List V) (st : List (List Int)), H8 sa = some (.lst xs) ∧ DA [sa, b] H8 12 1 xs (st.map dI) ∧ st.length = j ∧ (∀ (i : Nat) (r : List Int) (t m : Int), st[i]? = some r → ts[i]? = some t → (rows.map (midR ws ts))[i]? = some m → (r.length : Int) = t ∧ r.Pairwise (· < ·) ∧ balB r m = true ∧ Bd 500000 r) ∧ Bx H8 b (400 + 5 * j) ∧ Kp [b] H7 H8) ?_ ?_ ?_ ?_⟩
    · exact ⟨[], [], upd_same, .nil, rfl, fun i r t m e => by simp at e, (hB7.keep (Kp.rfl'.new (bs := []) hsa) (by simp)).up (by omega), Kp.rfl'.new hsa⟩
    · rintro j H8 _ ⟨_, _, _, _, _, _, _, k8⟩
      exact ⟨SqL.of (k8 _ _ hsp7 (by simpa using nsb)), SqL.of (k8 _ _ htp7 (by simpa using ntb))⟩
    · rintro j y H8 H9 hj ⟨xs, st, h8, dA, lst', pr, hB8, k8⟩ ⟨t', u, v, rfl, ft, rfl, hu, hv⟩
      have nab : sa ≠ b := hB7.off hsa
      simp only [List.getElem?_map (f := V.int)] at hu hv
      obtain ⟨m, hm, rfl⟩ := Option.map_eq_some_iff.mp hu
      obtain ⟨t, ht, rfl⟩ := Option.map_eq_some_iff.mp hv
      have hm2 := hm
      rw [List.getElem?_map] at hm2
      obtain ⟨r0, hr0, em⟩ := Option.map_eq_some_iff.mp hm2
      have mb := hs0 r0 (List.mem_of_getElem? hr0)
      rw [em] at mb
      have rg := rgs t (List.mem_of_getElem? ht)
      have nb : ¬ badT t m := fun z => tok ⟨j, t, m, ht, hm, z⟩
      have k9 : Kp [] H8 (upd H8 t' (.tup [.int m, .int t])) := Kp.rfl'.new ft
      have hB9 := hB8.keep k9 (by simp)
      refine ⟨t', _, rfl, SqT.of upd_same, rfl, _, _, rfl, _, _, rfl, rfl, rfl, yesT ⟨_, rfl, _, rfl, _, rfl, b, m, t, _, rfl, hB9, by omega, rg.1, rg.2, nb, mb.1, mb.2, fun p r HA fp hp lr' pw bl bd hBA kA => ?_⟩⟩
      have k89 : Kp [b] H8 HA := (k9.sub (by simp)).trans kA
      have nps : p ≠ sa := fun z => by
        rw [z, k9 _ _ h8 (by simp)] at fp
        cases fp
      have npb : p ≠ b := hB9.off fp
      have h8A := k89 _ _ h8 (by simpa using nab)
      have l12 : st.length < 12 := by omega
      refine ⟨xs, h8A, by rw [DA.len dA, List.length_map]; exact small1000 (by omega), xs ++ [.ref p], st ++ [r], upd_same, ?_, by simp [lst'], ?_, (hBA.keep (Kp.rfl'.put (bs := [sa]) (by simp)) (by simpa using nab.symm)).up (by omega), (k8.trans k89).own hsa⟩
      · rw [List.map_append]
        have kp : Kp [sa, b] HA (upd HA sa (.lst (xs ++ [.ref p]))) := Kp.rfl'.put (by simp)
        refine ((dA.keep (k89.sub (by simp))).keep kp).app (DA.one ?_)
        exact (D.ofInts (w := 12) (k := 0) hp (by simp [nps, npb]) (by omega) fun x hx => by have := bd x hx; omega).keep kp
      · intro i r' t2 m2 e1 e2 e3
        by_cases ci : i < st.length
        · rw [List.getElem?_append_left ci] at e1
          exact pr i r' t2 m2 e1 e2 e3
        · have li := (List.getElem?_eq_some_iff.mp e1).1
          rw [List.length_append, List.length_singleton] at li
          have ei : i = j := by omega
          subst ei
          rw [List.getElem?_append_right (by omega), show i - st.length = 0 by omega] at e1
          cases (show some r = some r' from e1)
          rw [ht] at e2
          rw [hm] at e3
          cases e2
          cases e3
          exact ⟨lr', pw, bl, bd⟩
    rintro H8 ⟨xs, steps, h8, dA, lst', pr, hB8, k8⟩
    have nab : sa ≠ b := hB7.off hsa
    have dS8 : D [b] H8 12 2 (.ref sa) (dII steps) := .lst h8 (by simpa using nab) (by rw [DA.len dA, List.length_map]; omega) (dA.less (by simp))
    have prA : ∀ (i : Nat) (r : List Int), steps[i]? = some r → ∃ (t : Int) (r0 : List Int), ts[i]? = some t ∧ rows[i]? = some r0 ∧ 1 ≤ t ∧ t ≤ 4 ∧ (r.length : Int) = t ∧ r.Pairwise (· < ·) ∧ balB r (midR ws ts r0) = true ∧ Bd 500000 r := fun i r er => by
      have li := (List.getElem?_eq_some_iff.mp er).1
      have e1 : ts[i]? = some (ts[i]'(by omega)) := by simp
      have e2 : rows[i]? = some (rows[i]'(by omega)) := by simp
      have rg := rgs _ (List.mem_of_getElem? e1)
      obtain ⟨p1, p2, p3, p4⟩ := pr i r _ (midR ws ts (rows[i]'(by omega))) er e1 (by rw [List.getElem?_map, e2]; rfl)
      exact ⟨_, _, e1, e2, rg.1, rg.2, p1, p2, p3, p4⟩
    have prM : ∀ r ∈ steps, Rung0 r ∧ Bd 500000 r := fun r hr => by
      obtain ⟨i, hi, e⟩ := List.getElem_of_mem hr
      obtain ⟨t, r0, _, _, t1, t4, p1, p2, _, p4⟩ := prA i r (by rw [List.getElem?_eq_getElem hi, e])
      exact ⟨⟨by omega, by omega, rises_pw p2⟩, p4⟩
    have etp : topsOf steps = ts := by
      apply List.ext_getElem?
      intro i
      unfold topsOf
      rw [List.getElem?_map]
      cases er : steps[i]? with
      | none =>
        have := List.getElem?_eq_none_iff.mp er
        exact (List.getElem?_eq_none (by omega)).symm
      | some r =>
        obtain ⟨t, _, e1, _, _, _, p1, _⟩ := prA i r er
        rw [e1]
        exact congrArg some p1
    have nm : Nm c rows steps ws ts := ⟨c5, lr, lst', ⟨by omega, fun r hr => by rw [(rr r hr).1, lr], by omega, fun r hr => (prM r hr).1, w1, w5, last⟩, ⟨w5, bw20, by omega, fun r hr => ⟨br60 r hr, by have := (rr r hr).1; omega⟩, fun r hr => (prM r hr).1.l4⟩, fun r hr => (prM r hr).2, etp, fun i r s er es => by
      obtain ⟨t, r0, _, e2, _, _, _, _, p3, _⟩ := prA i s es
      rw [er] at e2
      cases e2
      rw [etp]
      exact p3, w1, w5⟩
    have k08 := k07.trans k8
    have dT8 := dT7.keep k8
    have hwa8 := k8 _ _ hwa7 (by simpa using nwb)
    have htp8 := k8 _ _ htp7 (by simpa using ntb)
    have hsp8 := k8 _ _ hsp7 (by simpa using nsb)
    have r4 : ∀ r ∈ steps, r.length ≤ 4 := nm.hs.st
    clear prA prM pr dA h8 k8 k07 dT7 hwa7 htp7 hsp7 hB7 hsa lm hs0 rr last bw tok fwa fta
    refine nx_of (sl_eq [some (.ref b), some (.ref tp), some (.ref sa), none, none, none, none, none, none, none, some (.ref ta), some (.ref wa), some (.ref sp), some (.int (far : Nat)), none, none, none, none, none, none, none, none, none] rfl ?_)
    -- hall, past, who is held
    have dW8 : D [b] H8 12 2 (.ref wa) (dI ws) := D.ofInts hwa8 (by simpa using nwb) (by omega) fun x hx => by have := bw20 x hx; omega
    refine ⟨_, rfl, _, rfl, _, rfl, fun x dx fx' fdx nxd => ?_⟩
    refine init_of fx' fdx nxd hB8 dT8 dS8 dW8 nm.ok fun H9 hA k9 => ⟨rfl, ?_⟩
    have hB9 := hB8.keep (k9 []) (by simp)
    refine ⟨_, rfl, _, rfl, _, rfl, _, ws.length, rfl, .inl ⟨_, SqL.of (k9 [] _ _ hwa8 (by simp)), by simp⟩, b, sa, steps, ws.length, _, rfl, hB9, by omega, dS8.keep (k9 _), by omega, r4, fun pa past HA fpa dP lp so hBA kA => ?_⟩
    refine ⟨_, rfl, _, rfl, b, sa, steps, _, rfl, hBA, by omega, (dS8.keep (k9 _)).keep kA, r4, fun fd fx HB ffd hfd fo hBB kB => ?_⟩
    have nfd := hBA.off ffd
    refine ⟨by show 3 ≤ sizeLine; decide, fun tt htt => ⟨tt, _, rfl, SqT.of upd_same, rfl, _, _, rfl, _, _, rfl, _, _, rfl, rfl, ?_⟩⟩
    have kC : ∀ cs, Kp cs HB (upd HB tt (.tup [.ref x, .ref pa, .ref fd])) := fun cs => Kp.rfl'.new htt
    have hBC := hBB.keep (kC []) (by simp)
    have k8C : Kp [b] H8 (upd HB tt (.tup [.ref x, .ref pa, .ref fd])) := (((k9 _).trans kA).trans kB).trans (kC _)
    have hAC := ((hA.keep kA).keep kB).keep (kC _)
    have dPC := (dP.keep kB).keep (kC _)
    have hfdC := kC [] _ _ hfd (by simp)
    generalize upd HB tt (.tup [.ref x, .ref pa, .ref fd]) = HC at hBC k8C hAC dPC hfdC ⊢
    have SC : Scn K HC b ta sa wa tp sp x rows steps ws ts := ⟨dT8.keep k8C, dS8.keep k8C, k8C _ _ hwa8 (by simpa using nwb), nwb, k8C _ _ htp8 (by simpa using ntb), ntb, k8C _ _ hsp8 (by simpa using nsb), nsb, hAC⟩
    have k0C := k08.trans k8C
    clear k8C k08 kA kB kC k9 hB8 hB9 hBA hBB hA dP hfd dT8 dS8 dW8 hwa8 htp8 hsp8 ffd fpa fx' fdx nxd htt hAC
    refine nx_of (sl_eq [some (.ref b), some (.ref tp), some (.ref sa), none, none, none, none, none, none, none, some (.ref ta), some (.ref wa), some (.ref sp), some (.int (far : Nat)), some (.ref x), some (.ref pa), some (.ref fd), none, none, none, none, none, none] rfl ?_)
    have lr := nm.lr
    have ls := nm.ls
    have BW : Bd 1000 ws := fun z hz => by have := bw20 z hz; omega
    have BR : ∀ r ∈ rows, Bd 1000 r := fun r hr z hz => by have := br60 r hr z hz; omega
    have R9 : ∀ r ∈ steps, r.length ≤ 900 := fun r hr => by have := r4 r hr; omega
    have fv := fo.v4 r4
    have lfx := fo.l
    have fv9 : ∀ p ∈ fx, -900 ≤ p.2 ∧ p.2 ≤ 900 := fun p hp => by have := fv p hp; omega
    have fv4 : ∀ p ∈ fx, -4 ≤ p.2 ∧ p.2 ≤ 4 := fun p hp => by have := fv p hp; omega
    have ab := agn_bd fo r4
    rw [nm.tp] at ab
    have av9 : ∀ p ∈ agn ts fx, -900 ≤ p.2 ∧ p.2 ≤ 900 := fun p hp => by have := ab p hp; omega
    have and' : ((agn ts fx).map (·.1)).Nodup := by rw [agn_keys]; exact fo.nd
    have lag : (agn ts fx).length = fx.length := by unfold agn; rw [List.length_map]
    have sb : ∀ (H' : Hp) (n : Nat), Bx H' b n → ∀ a ∈ [b], ∃ o, H' a = some o := fun H' n z a ha => by
      obtain rfl := List.mem_singleton.mp ha
      exact z.at'
    have so9 : ∀ st ∈ past, st.length = c ∧ Bd 900 st := fun st hs => ⟨(so st hs).1.trans ls, ((so st hs).bd r4).up' (by decide)⟩
    have lpw : past.length = ws.length := lp
    have Bt : Bd 4 ts := fun t ht => by have := rgs t ht; omega
    -- who is held, mirrored
    obtain ⟨oa, eo⟩ : ∃ o : HO, o = .dK (kvI fx) := ⟨_, rfl⟩
    refine ⟨fd, .dK (kvI fx), hfdC, trivial, fun od => ?_⟩
    have kf : Kp [fd] HC (upd HC fd (.frz od (.dK (kvI fx)))) := Kp.rfl'.put (by simp)
    have hf3 : (upd HC fd (.frz od (.dK (kvI fx)))) fd = some (.frz od (.dK (kvI fx))) := upd_same
    have nfp : fd ≠ tp := fun z => by
      have := SC.ht
      rw [← z, hfdC] at this
      cases this
    have htpC := kf _ _ SC.ht (by simpa using nfp.symm)
    refine ⟨_, rfl, fd, od, kvI fx, rfl, hf3, fun al hal => lc_it walk_items (fun i H3 => ∃ ps : List Addr, H3 al = some (.lst (ps.map V.ref)) ∧ H3 fd = some (.frz od (.dK (kvI fx))) ∧ AsAt H3 ps (((agn ts fx).take i).map fun p => [p.1, p.2]) ∧ Kp [fd] HC H3) ?_ ?_ ?_ ?_⟩
    · exact ⟨[], upd_same, by rw [upd_ne (ne_of_none hf3 hal)]; exact hf3, ⟨by simp, fun k t r e => by simp at e⟩, kf.new hal⟩
    · rintro i H3 _ ⟨_, _, h4, _, _⟩
      exact h4
    · rintro i y H3 H4 hi ⟨ps, h3, hf4, aq, k3⟩ ⟨u, x1, x2, rfl, fu, rfl, hx1, hx2⟩
      have li : i < fx.length := by simpa [kvI] using hi
      obtain ⟨⟨pj, v⟩, ep⟩ : ∃ p, fx[i]? = some p := ⟨fx[i], by simp⟩
      obtain ⟨j, r, ej, er, v0, v1⟩ := fo.ok _ (List.mem_of_getElem? ep)
      have ej : pj = (j : Int) := ej
      subst ej
      have hx1 : ((kvI fx)[i]?.map fun kv => kV kv.1) = some x1 := hx1
      have hx2 : ((kvI fx)[i]?.map Prod.snd) = some x2 := hx2
      have ek : (kvI fx)[i]? = some (.inl (j : Int), .int v) := by unfold kvI; rw [List.getElem?_map, ep]; rfl
      rw [ek] at hx1 hx2
      cases hx1
      cases hx2
      have lj := (List.getElem?_eq_some_iff.mp er).1
      obtain ⟨t, et⟩ : ∃ t, ts[j]? = some t := ⟨ts[j]'(by omega), by simp⟩
      have k34 : Kp [] H3 (upd H3 u (.tup [kV (.inl (j : Int)), .int v])) := Kp.rfl'.new fu
      have htp4 := k34 _ _ (k3 _ _ SC.ht (by simpa using nfp.symm)) (by simp)
      refine ⟨u, _, rfl, SqT.of upd_same, rfl, _, _, rfl, _, _, rfl, rfl, rfl, yesT ⟨_, rfl, _, rfl, _, rfl, tp, _, _, V.int t, rfl, rfl, SqL.of htp4, atI_nat (by rw [List.getElem?_map, et]; rfl), _, rfl, _, _, rfl, rfl, by show 2 ≤ sizeLine; decide, fun l hl => ?_⟩⟩
      have k45 : Kp [] H3 (upd (upd H3 u (.tup [kV (.inl (j : Int)), .int v])) l (.tup [kV (.inl (j : Int)), .int (t - v)])) := k34.new hl
      have h35 := k45 _ _ h3 (by simp)
      have hf5 := k45 _ _ hf4 (by simp)
      have la := aq.len
      rw [List.length_map, List.length_take] at la
      have a5 := (aq.keep0 k45).push (t := l) (st := [(j : Int), t - v]) upd_same
      have e : ((agn ts fx).take (i + 1)).map (fun p => [p.1, p.2]) = ((agn ts fx).take i).map (fun p => [p.1, p.2]) ++ [[(j : Int), t - v]] := by rw [List.take_add_one, agn_at ep et, List.map_append]; rfl
      refine ⟨_, h35, by rw [List.length_map]; exact small1000 (by omega), ps ++ [l], by rw [upd_same, List.map_append]; rfl, by rw [upd_ne (ne_of_none hf3 hal)]; exact hf5, ?_, ?_⟩
      · rw [e]
        exact a5.keep h35 (Kp.rfl'.put (bs := [al]) (by simp))
      · have fal : HC al = none := kf.free hal (by
          rw [List.mem_singleton]
          exact (ne_of_none hf3 hal).symm)
        exact (k3.trans (k45.sub (by simp))).own fal
    rintro H3 ⟨ps, h3, hf4, aq, k3⟩
    refine ⟨hf4, ?_⟩
    have lk' : (kvI fx).length = (agn ts fx).length := by simp [kvI, agn]
    rw [lk', List.take_length] at aq
    have k4 : Kp [] HC (upd H3 fd (.dK (kvI fx))) := Kp.unlock hfdC k3
    have naf : al ≠ fd := (ne_of_none hf3 hal).symm
    have kfz : Kp [fd] H3 (upd H3 fd (.dK (kvI fx))) := Kp.rfl'.put (by simp)
    have h34 := kfz _ _ h3 (by simpa using naf)
    have a4 : AsAt (upd H3 fd (.dK (kvI fx))) ps ((agn ts fx).map fun p => [p.1, p.2]) := aq.keepS (fun a ha => by
      rw [List.mem_singleton.mp ha]
      exact ⟨_, hf4, fun xs z => by cases z⟩) kfz
    generalize upd H3 fd (.dK (kvI fx)) = HD at k4 h34 a4 ⊢
    refine ⟨al, ps, kvI (agn ts fx), rfl, SqL.of h34, paired_of a4, fun ag hag => ?_⟩
    rw [mergeN and']
    have k5 : Kp [] HC (upd HD ag (.dK (kvI (agn ts fx)))) := k4.new hag
    have hagE : (upd HD ag (.dK (kvI (agn ts fx)))) ag = some (.dK (kvI (agn ts fx))) := upd_same
    have nagb : ag ≠ b := (hBC.keep k4 (by simp)).off hag
    generalize upd HD ag (.dK (kvI (agn ts fx))) = HE at k5 hagE ⊢
    have SE := SC.keep (k5.sub (by simp))
    have hBE := hBC.keep k5 (by simp)
    have dPE := dPC.keep (k5.sub (by simp))
    have hfE := k5 _ _ hfdC (by simp)
    have k0E := k0C.trans (k5.sub (by simp))
    clear k4 h34 a4 kfz naf k3 hf4 aq h3 htpC hf3 kf hal hag lk' k5 SC hBC dPC hfdC k0C eo
    refine nx_of (sl_eq [some (.ref b), some (.ref tp), some (.ref sa), some (.ref ag), none, none, none, none, none, none, some (.ref ta), some (.ref wa), some (.ref sp), some (.int (far : Nat)), some (.ref x), some (.ref pa), some (.ref fd), none, none, none, none, none, none] rfl ?_)
    -- due, and its mirrors
    refine ⟨_, rfl, _, rfl, _, rfl, by show 3 ≤ sizeLine; decide, fun t1 ht1 => ?_⟩
    have k6 : ∀ cs, Kp cs HE (upd HE t1 (.tup [.ref ta, .ref sa, .ref wa])) := fun cs => Kp.rfl'.new ht1
    have S6 := SE.keep (k6 _)
    have hB6 := hBE.keep (k6 []) (by simp)
    refine ⟨_, rfl, _, rfl, _, rfl, t1, pa, fd, ta, sa, wa, far, rows, steps, ws, past, fx, [b], [b], [b], 12, 12, c, rfl, upd_same, S6.dt, S6.ds, S6.hw, dPE.keep (k6 _), k6 [] _ _ hfE (by simp), by omega, by decide, by omega, by omega, by omega, lr, ls, so9, BR, BW, fv9, sb _ _ hB6, fun du H7 fdu k7 dU => ?_⟩
    have kE7 : Kp [] HE H7 := (k6 []).trans k7
    have hagE7 := kE7 _ _ hagE (by simp)
    have hfE7 := kE7 _ _ hfE (by simp)
    have S7 := SE.keep (kE7.sub (by simp))
    have hB7 := hBE.keep kE7 (by simp)
    have dP7 := dPE.keep (kE7.sub (by simp))
    have k07 := k0E.trans (kE7.sub (by simp))
    obtain ⟨G, eG⟩ : ∃ G, goR rows steps ws fx far (past.map (hold fx)) = G := ⟨_, rfl⟩
    rw [eG] at dU
    have lG : G.length = past.length + far := by rw [← eG, goR_len, List.length_map]
    have gG : ∀ st ∈ G, st.length = c ∧ Bd 4 st := fun st hs => by
      rw [← eG] at hs
      refine ⟨?_, ?_⟩
      · rw [← lr]
        refine goR_all (by omega) (fun st hs => ?_) far st hs
        obtain ⟨s', hs', rfl⟩ := List.mem_map.mp hs
        rw [hold_len, lr]
        exact (so9 s' hs').1
      · refine goR_bd fv4 (fun r hr => by have := r4 r hr; omega) (by decide) (fun st hs => ?_) far st hs
        obtain ⟨s', hs', rfl⟩ := List.mem_map.mp hs
        exact hold_bd fv4 ((so s' hs').bd r4)
    clear kE7 k7 k6 S6 hB6 hagE hfE SE hBE dPE k0E ht1 fdu
    refine nx_of (sl_eq [some (.ref b), some (.ref tp), some (.ref sa), some (.ref ag), some (.ref du), none, none, none, none, none, some (.ref ta), some (.ref wa), some (.ref sp), some (.int (far : Nat)), some (.ref x), some (.ref pa), some (.ref fd), none, none, none, none, none, none] rfl ?_)
    obtain ⟨xdu, hdu, ndb, _, _, _⟩ := dU.rowLT
    refine ⟨_, rfl, du, rfl, ⟨_, SqL.of hdu⟩, fun mi hmi => lc_mirs (ts := ts) dU (by omega) hmi (fun y st H2 R N hst k2 hy hR => ⟨rfl, yesT ⟨_, rfl, _, rfl, sa, y, steps, st, [b], 12, rfl, S7.ds.keep (k2.sub (by simp)), hy, by rw [(gG st hst).1, ls], by decide, fun l H3 fl kl hl => hR l H3 fl kl (by rw [← nm.tp]; exact hl)⟩⟩) fun H8 zs hmi8 az k8 => ?_⟩
    have nmb : mi ≠ b := hB7.off hmi
    have S8 := S7.keep (k8.sub (by simp))
    have hB8 := hB7.keep k8 (by simp)
    have dP8 := dP7.keep (k8.sub (by simp))
    have dU8 := dU.keep (k8.sub (by simp))
    have hag8 := k8 _ _ hagE7 (by simp)
    have hf8 := k8 _ _ hfE7 (by simp)
    have k08 := k07.trans (k8.sub (by simp))
    have lM : (G.map (mir ts)).length = G.length := List.length_map ..
    have gM : ∀ st ∈ G.map (mir ts), st.length = c ∧ Bd 900 st := fun st hs => by
      obtain ⟨s', hs', rfl⟩ := List.mem_map.mp hs
      exact ⟨by rw [mir_len (by rw [(gG s' hs').1, lts, lr]), lts, lr], mir_bd Bt ((gG s' hs').2.up' (by decide))⟩
    have dM8 : D [b] H8 60 2 (.ref mi) (dLT (G.map (mir ts))) := pastD hB8 hmi8 nmb az (by omega) fun st hs => ⟨by have := (gM st hs).1; omega, (gM st hs).2⟩
    clear dU S7 hB7 dP7 hagE7 hfE7 k07 k8 hmi hdu
    refine nx_of (sl_eq [some (.ref b), some (.ref tp), some (.ref sa), some (.ref ag), some (.ref du), some (.ref mi), none, none, none, none, some (.ref ta), some (.ref wa), some (.ref sp), some (.int (far : Nat)), some (.ref x), some (.ref pa), some (.ref fd), none, none, none, none, none, none] rfl ?_)
    have soH : ∀ st ∈ past.map (hold fx), st.length = ts.length := fun st hs => by
      obtain ⟨s', hs', rfl⟩ := List.mem_map.mp hs
      rw [hold_len, (so9 s' hs').1, lts, lr]
    have eM : goR rows steps ws (agn ts fx) far ((past.map (hold fx)).map (mir ts)) = G.map (mir ts) := by
      have z := goR_mir (fx := fx) (F := past.map (hold fx)) (by omega) nm.bal (by rw [List.length_map]; omega) (fun p hp => by rw [soH p hp, lts]) far
      rw [nm.tp, eG] at z
      exact z
    -- gone against
    refine seq_cutI (fun σ' H' => σ' = [some (.ref b), some (.ref tp), some (.ref sa), some (.ref ag), some (.ref du), some (.ref mi), none, none, none, none, some (.ref ta), some (.ref wa), some (.ref sp), some (.int (far : Nat)), some (.ref x), some (.ref pa), some (.ref fd), none, none, none, none, none, none] ∧ Kp [] H8 H') ?_ fun nx hnx => ?_
    rotate_left
    · refine ⟨_, rfl, _, rfl, _, rfl, by show 3 ≤ sizeLine; decide, fun t2 ht2 => ?_⟩
      have k9 : ∀ cs, Kp cs H8 (upd H8 t2 (.tup [.ref ta, .ref sa, .ref wa])) := fun cs => Kp.rfl'.new ht2
      have ht29 : (upd H8 t2 (.tup [.ref ta, .ref sa, .ref wa])) t2 = some (.tup [.ref ta, .ref sa, .ref wa]) := upd_same
      generalize upd H8 t2 (.tup [.ref ta, .ref sa, .ref wa]) = H9 at k9 ht29 ⊢
      have S9 := S8.keep (k9 _)
      have hmi9 := k9 [] _ _ hmi8 (by simp)
      refine ⟨_, rfl, _, rfl, _, ws.length, rfl, .inl ⟨_, SqL.of S9.hw, by simp⟩, _, rfl, mi, _, rfl, SqL.of hmi9, fun p3 hp3 => ?_⟩
      rw [cut_to]
      have kA : ∀ cs, Kp cs H9 (upd H9 p3 (.lst ((zs.map V.ref).take ws.length))) := fun cs => Kp.rfl'.new hp3
      have dA := takeL (dM8.keep (k9 _)) hmi9 (kA _) (k := ws.length) upd_same (by simpa using (hB8.keep (k9 []) (by simp)).off hp3)
      have eT : (G.map (mir ts)).take ws.length = (past.map (hold fx)).map (mir ts) := by
        have e : ws.length = ((past.map (hold fx)).map (mir ts)).length := by rw [List.length_map, List.length_map]; omega
        rw [← eM, e, goR_take]
      rw [eT] at dA
      generalize upd H9 p3 (.lst ((zs.map V.ref).take ws.length)) = HA at kA dA ⊢
      have k8A : ∀ cs, Kp cs H8 HA := fun cs => (k9 cs).trans (kA cs)
      have SA := S8.keep (k8A _)
      have hBA := hB8.keep (k8A []) (by simp)
      refine ⟨_, rfl, _, rfl, t2, p3, ag, ta, sa, wa, far, rows, steps, ws, (past.map (hold fx)).map (mir ts), agn ts fx, [b], [b], [b], 12, 60, c, rfl, kA [] _ _ ht29 (by simp), SA.dt, SA.ds, SA.hw, dA, k8A [] _ _ hag8 (by simp), by omega, by decide, by omega, by rw [List.length_map, List.length_map]; omega, by rw [List.length_map, List.length_map]; omega, lr, ls, fun st hs => by
        obtain ⟨s', hs', rfl⟩ := List.mem_map.mp hs
        refine ⟨by rw [mir_len (soH s' hs'), lts, lr], mir_bd Bt ?_⟩
        obtain ⟨s2, hs2, rfl⟩ := List.mem_map.mp hs'
        exact (hold_bd fv4 ((so s2 hs2).bd r4)).up' (by decide), BR, BW, av9, sb _ _ hBA, fun qa HB fqa kB dB => ?_⟩
      rw [map_hold_mir soH, hold_hold', eM] at dB
      refine ⟨_, rfl, _, _, dB.dp, ((dM8.keep (k8A _)).keep (kB.sub (by simp))).dp, shLT _, shLT _, _, rfl, ?_⟩
      rw [eqvLT']
      exact iteF (hnx _ _ ⟨rfl, (k8A []).trans kB⟩)
    rintro σ' H9 ⟨rfl, k9⟩
    have S9 := S8.keep (k9.sub (by simp))
    have hB9 := hB8.keep k9 (by simp)
    have dP9 := dP8.keep (k9.sub (by simp))
    have dU9 := dU8.keep (k9.sub (by simp))
    have dM9 := dM8.keep (k9.sub (by simp))
    have hmi9 := k9 _ _ hmi8 (by simp)
    have hag9 := k9 _ _ hag8 (by simp)
    have hf9 := k9 _ _ hf8 (by simp)
    have k09 := k08.trans (k9.sub (by simp))
    have az9 := az.keep0 k9
    clear S8 hB8 dP8 dU8 dM8 hmi8 hag8 hf8 k08 k9 az
    -- told
    refine ⟨_, rfl, _, rfl, _, rfl, _, rfl, fd, _, rfl, hf9, fun HA li us kA fli fus nli hli prd => ⟨rfl, rfl, ?_⟩⟩
    have kA' : Kp [] H9 HA := fun a o e _ => kA a o e
    obtain ⟨lus, alt⟩ := prs_al prd
    have SA := S9.keep (kA'.sub (by simp))
    have hBA := hB9.keep kA' (by simp)
    refine ⟨x, pa, li, far, true, rows, steps, ws, past, fx, [b], [b], 12, c, rfl, SA.ha.s, (dP9.keep (kA'.sub (by simp))).past, ⟨us, SqL.of hli, lus, alt⟩, fo.nd, by omega, by omega, by omega, by omega, so9, lr, ls, by omega, by decide, by omega, BW, BR, R9, fv9, sb _ _ hBA, fun to HB fto kB dTo => ?_⟩
    rw [eG] at dTo
    have k9B : Kp [] H9 HB := kA'.trans kB
    clear kA kA' lus alt fli fus nli hli prd SA hBA kB fto
    refine nx_of (sl_eq [some (.ref b), some (.ref tp), some (.ref sa), some (.ref ag), some (.ref du), some (.ref mi), some (.ref to), none, none, none, some (.ref ta), some (.ref wa), some (.ref sp), some (.int (far : Nat)), some (.ref x), some (.ref pa), some (.ref fd), none, none, none, none, none, none] rfl ?_)
    have SB := S9.keep (k9B.sub (by simp))
    have hBB := hB9.keep k9B (by simp)
    have dPB := dP9.keep (k9B.sub (by simp))
    obtain ⟨xpa, hpaB, _, _, _, _⟩ := dPB.rowLT
    refine ⟨_, rfl, pa, rfl, ⟨_, SqL.of hpaB⟩, fun ot hot => lc_mirs (ts := ts) dPB (by decide) hot (fun y st H2 R N hst k2 hy hR => ⟨rfl, yesT ⟨_, rfl, _, rfl, sa, y, steps, st, [b], 12, rfl, SB.ds.keep (k2.sub (by simp)), hy, by rw [(so9 st hst).1, ls], by decide, fun l H3 fl kl hl => hR l H3 fl kl (by rw [← nm.tp]; exact hl)⟩⟩) fun HC os hot ao kC => ?_⟩
    have k9C := k9B.trans kC
    have dToC := dTo.keep (kC.sub (by simp))
    have sP : ∀ st ∈ past, st.length = ts.length := fun st hs => by rw [(so9 st hs).1, lts, lr]
    have soM : ∀ st ∈ past.map (mir ts), st.length = c ∧ Bd 900 st := fun st hs => by
      obtain ⟨s', hs', rfl⟩ := List.mem_map.mp hs
      exact ⟨by rw [mir_len (sP s' hs'), lts, lr], mir_bd Bt (((so s' hs').bd r4).up' (by decide))⟩
    have lPM : (past.map (mir ts)).length = past.length := List.length_map ..
    have eM2 : goR rows steps ws (agn ts fx) far ((past.map (mir ts)).map (hold (agn ts fx))) = G.map (mir ts) := by rw [map_hold_mir sP, eM]
    clear dTo SB hBB dPB hpaB kC k9B
    refine nx_of (sl_eq [some (.ref b), some (.ref tp), some (.ref sa), some (.ref ag), some (.ref du), some (.ref mi), some (.ref to), some (.ref ot), none, none, some (.ref ta), some (.ref wa), some (.ref sp), some (.int (far : Nat)), some (.ref x), some (.ref pa), some (.ref fd), none, none, none, none, none, none] rfl ?_)
    refine seq_cutI (fun σ' H' => σ' = [some (.ref b), some (.ref tp), some (.ref sa), some (.ref ag), some (.ref du), some (.ref mi), some (.ref to), some (.ref ot), none, none, some (.ref ta), some (.ref wa), some (.ref sp), some (.int (far : Nat)), some (.ref x), some (.ref pa), some (.ref fd), none, none, none, none, none, none] ∧ Kp [] HC H') ?_ fun nx hnx => ?_
    rotate_left
    · refine ⟨_, rfl, _, rfl, _, rfl, _, rfl, _, rfl, ag, _, rfl, k9C _ _ hag9 (by simp), fun HD li us kD fli fus nli hli prd => ⟨rfl, rfl, ?_⟩⟩
      have kD' : Kp [] HC HD := fun a o e _ => kD a o e
      obtain ⟨lus, alt⟩ := prs_al prd
      have k9D := k9C.trans kD'
      have SD := S9.keep (k9D.sub (by simp))
      have hBD := hB9.keep k9D (by simp)
      refine ⟨x, ot, li, far, true, rows, steps, ws, past.map (mir ts), agn ts fx, [b], [b], 12, c, rfl, SD.ha.s, (ao.keep0 kD').past (kD' _ _ hot (by simp)), ⟨us, SqL.of hli, lus, alt⟩, and', by omega, by omega, by omega, by omega, soM, lr, ls, by omega, by decide, by omega, BW, BR, R9, av9, sb _ _ hBD, fun t3 HE ft3 kE dE => ?_⟩
      rw [eM2] at dE
      have kCE := kD'.trans kE
      have k9E := k9D.trans kE
      have d1 : D [] HE 60 2 (.ref to) (dLT G) := ((dToC.keep (kCE.sub (by simp))).up (by omega) (by decide)).less (by simp)
      have d2 : D [] HE 60 2 (.ref t3) (dLT (G.map (mir ts))) := (dE.up (by omega) (by decide)).less (by simp)
      refine ⟨by show 2 ≤ sizeLine; decide, fun m1 hm1 => ?_⟩
      have e1 := LE2 hm1 d1 d2
      have kF : Kp [] HE (upd HE m1 (.lst [.ref to, .ref t3])) := Kp.rfl'.new hm1
      generalize upd HE m1 (.lst [.ref to, .ref t3]) = HF at e1 kF ⊢
      have k9F := k9E.trans kF
      have d3 : D [] HF 60 2 (.ref du) (dLT G) := ((dU9.keep (k9F.sub (by simp))).up (by omega) (by decide)).less (by simp)
      have d4 : D [] HF 60 2 (.ref mi) (dLT (G.map (mir ts))) := (dM9.keep (k9F.sub (by simp))).less (by simp)
      refine ⟨_, rfl, _, rfl, by show 2 ≤ sizeLine; decide, fun m2 hm2 => ?_⟩
      have e2 := LE2 hm2 d3 d4
      have kG : Kp [] HF (upd HF m2 (.lst [.ref du, .ref mi])) := Kp.rfl'.new hm2
      refine ⟨_, _, _, [], [], 60, 3, rfl, e1.keep kG, e2, by decide, by decide, fun HM kN => ⟨_, rfl, iteF ?_⟩⟩
      exact hnx _ _ ⟨rfl, (kCE.trans kF).trans (kG.trans kN)⟩
    rintro σ' HD ⟨rfl, kCD⟩
    have k9D := k9C.trans kCD
    have hotD := kCD _ _ hot (by simp)
    have aoD := ao.keep0 kCD
    clear dToC hot ao kCD k9C
    -- a sway
    refine ⟨_, rfl, _, rfl, _, rfl, ag, _, rfl, k9D _ _ hag9 (by simp), fun HE li us kE fli fus nli hli prd => ⟨rfl, rfl, ?_⟩⟩
    have kE' : Kp [] HD HE := fun a o e _ => kE a o e
    obtain ⟨lus, alt⟩ := prs_al prd
    have k9E := k9D.trans kE'
    have hotE := kE' _ _ hotD (by simp)
    have aoE := aoD.keep0 kE'
    refine fun y dy fy fdy nyd => ?_
    have fy2 : (upd HE dy (.own y)) y = none := by
      rw [upd_ne nyd.symm]
      exact fy
    have km : Kp [] HE (upd (upd HE dy (.own y)) y (.ins (CS K) dy [])) := (Kp.rfl'.new fdy).new fy2
    have kY : ∀ H', Kp [y] (upd (upd HE dy (.own y)) y (.ins (CS K) dy [])) H' → Kp [] HE H' := fun H' k a o e _ => k a o (km a o e (by simp)) (by simpa using ne_of_none e fy)
    refine ⟨y, dy, x, ot, li, true, past.map (mir ts), agn ts fx, rfl, upd_same, fun H' k => (aoE.keep0 (kY H' k)).past (kY H' k _ _ hotE (by simp)), fun H' k => (⟨us, SqL.of hli, lus, alt⟩ : PairsAt K HE li true (agn ts fx)).keep (kY H' k), and', by omega, by omega, fun st hs => by have := (soM st hs).1; omega, fun g d HF fg fd' kF SW => ⟨rfl, ?_⟩⟩
    have eW : (past.map (mir ts)).map (hold (agn ts fx)) = (past.map (hold fx)).map (mir ts) := map_hold_mir sP
    rw [eW] at SW
    have kEF := kY HF kF
    have k9F := k9E.trans kEF
    have f9y : H9 y = none := k9E.free fy (by simp)
    have f9g : H9 g = none := k9E.free (km.free fg (by simp)) (by simp)
    clear kY kF km fy2 nyd fg fd' kE kE' lus alt fli fus nli hli prd hotE aoE hotD aoD k9D
    have hall : ∀ H', Kp [b] H9 H' → HallAt K [g, y, b] H' 12 x rows steps ws := fun H' k => ((S9.ha.fresh f9y).fresh f9g).keep (k.sub (by simp))
    refine nx_of (sl_eq [some (.ref b), some (.ref tp), some (.ref sa), some (.ref ag), some (.ref du), some (.ref mi), some (.ref to), some (.ref ot), some (.ref y), none, some (.ref ta), some (.ref wa), some (.ref sp), some (.int (far : Nat)), some (.ref x), some (.ref pa), some (.ref fd), none, none, none, none, none, none] rfl ?_)
    refine seq_cutI (fun σ' H' => σ' = [some (.ref b), some (.ref tp), some (.ref sa), some (.ref ag), some (.ref du), some (.ref mi), some (.ref to), some (.ref ot), some (.ref y), none, some (.ref ta), some (.ref wa), some (.ref sp), some (.int (far : Nat)), some (.ref x), some (.ref pa), some (.ref fd), none, none, none, none, none, none] ∧ Kp [] H9 H') ?_ fun nx hnx => ?_
    rotate_left
    · obtain ⟨dxF, hyF⟩ := SW.ex
      have lHM : ((past.map (hold fx)).map (mir ts)).length = past.length := by rw [List.length_map, List.length_map]
      have soW : ∀ st ∈ (past.map (hold fx)).map (mir ts), st.length = c := fun st hs => by
        obtain ⟨s', hs', rfl⟩ := List.mem_map.mp hs
        rw [mir_len (soH s' hs'), lts, lr]
      refine ⟨_, rfl, y, dxF, _, rfl, hyF, fldW_no _ _ _ _ (by decide +kernel) (by decide +kernel) (by decide +kernel) (by decide +kernel), _, rfl, y, x, g, d, 0, far, agn ts fx, _, rows, steps, ws, [g, y, b], 12, c, rfl, by omega, SW, hall _ (k9F.sub (by simp)), by simp, by omega, by omega, soW, lr, ls, by omega, by decide, BW, BR, fun d2 ur R HG kG SG eR hur _ => ?_⟩
      have k9G : Kp [] H9 HG := k9F.hide kG f9y
      obtain ⟨dxG, hyG⟩ := SG.ex
      rw [swR_go (by omega) (by omega), eM] at SG
      refine ⟨_, rfl, y, dxG, _, rfl, hyG, fldW_no _ _ _ _ (by decide +kernel) (by decide +kernel) (by decide +kernel) (by decide +kernel), y, x, g, d2, _, agn ts fx, _, rfl, SG, fun a HH qs fa kH ha aq => ?_⟩
      have k9H := k9G.trans kH
      have eR' : (G.map (mir ts))[(G.map (mir ts)).length - 1]? = some R := by
        have z := sw_last (by omega) (by omega) eR
        rw [eM] at z
        exact z
      have gD : ∀ st ∈ (G.map (mir ts)).drop far, st.length ≤ 60 ∧ Bd 900 st := fun st hs => by
        have z := gM st (List.mem_of_mem_drop hs)
        exact ⟨by omega, z.2⟩
      have gR := gM R (List.mem_of_getElem? eR')
      have hBH := hB9.keep k9H (by simp)
      have nab' : a ≠ b := (hB9.keep k9G (by simp)).off fa
      have d1 : D [] HH 60 2 (.ref ur) (dT R) := rowE (kH _ _ hur (by simp)) (by omega) gR.2 (by decide)
      have d2' : D [] HH 60 2 (.ref a) (dLT ((G.map (mir ts)).drop far)) := (pastD hBH ha nab' aq (by rw [List.length_drop]; omega) gD).less (by simp)
      refine ⟨by show 2 ≤ sizeLine; decide, fun m1 hm1 => ?_⟩
      have e1 := LE2 hm1 d1 d2'
      have kI : Kp [] HH (upd HH m1 (.lst [.ref ur, .ref a])) := Kp.rfl'.new hm1
      generalize upd HH m1 (.lst [.ref ur, .ref a]) = HI at e1 kI ⊢
      have k9I := k9H.trans kI
      have hmiI := k9I _ _ hmi9 (by simp)
      have dMI := dM9.keep (k9I.sub (by simp))
      obtain ⟨xsm, hm', nmb', lxm, _, alm⟩ := dMI.rowLT
      obtain ⟨tl, gl, htl, _, _⟩ := alm _ _ eR'
      refine ⟨_, rfl, 1, rfl, mi, xsm, -1, .ref tl, rfl, rfl, SqL.of hm', atI_m1 (by rw [lxm]; exact gl), ?_⟩
      refine ⟨_, rfl, _, rfl, _, rfl, mi, xsm, rfl, SqL.of hm', fun p4 hp4 => ?_⟩
      rw [cut_from]
      have kJ : Kp [] HI (upd HI p4 (.lst (xsm.drop far))) := Kp.rfl'.new hp4
      have d4 : D [b] (upd HI p4 (.lst (xsm.drop far))) 60 2 (.ref p4) (dLT ((G.map (mir ts)).drop far)) := dropL dMI hm' (kJ.sub (by simp)) upd_same (by simpa using (hBH.keep kI (by simp)).off hp4)
      have d3 : D [] (upd HI p4 (.lst (xsm.drop far))) 60 2 (.ref tl) (dT R) := rowE (kJ _ _ htl (by simp)) (by omega) gR.2 (by decide)
      generalize upd HI p4 (.lst (xsm.drop far)) = HJ at kJ d3 d4 ⊢
      refine ⟨by show 2 ≤ sizeLine; decide, fun m2 hm2 => ?_⟩
      have e2 := LE2 hm2 d3 (d4.less (by simp))
      have kL : Kp [] HJ (upd HJ m2 (.lst [.ref tl, .ref p4])) := Kp.rfl'.new hm2
      refine ⟨_, _, _, [], [], 60, 3, rfl, (e1.keep kJ).keep kL, e2, by decide, by decide, fun HM kN => ⟨_, rfl, iteF ?_⟩⟩
      exact hnx _ _ ⟨rfl, ((k9I.trans kJ).trans kL).trans kN⟩
    clear hall SW k9F kEF f9y f9g k9E
    rintro σ' HG ⟨rfl, k9G⟩
    have SG := S9.keep (k9G.sub (by simp))
    have hBG := hB9.keep k9G (by simp)
    -- all level
    refine ⟨_, rfl, _, c, rfl, .inl ⟨_, SqL.of SG.ht, by rw [List.length_map]; omega⟩, _, rfl, by omega, by omega, fun lv hlv => lc_range (n := ((c : Nat) : Int).toNat) (fun j H3 => H3 lv = some (.lst ((List.replicate j true).map V.bl)) ∧ Kp [] HG H3) ?_ ?_ ?_⟩
    · exact ⟨by rw [upd_same]; rfl, Kp.rfl'.new hlv⟩
    · rintro j H3 hj ⟨h3, k3⟩
      have lj : j < c := by omega
      obtain ⟨rj, ej⟩ : ∃ rj, steps[j]? = some rj := ⟨steps[j]'(by omega), by simp⟩
      obtain ⟨r0, e0⟩ : ∃ r0, rows[j]? = some r0 := ⟨rows[j]'(by omega), by simp⟩
      refine ⟨rfl, yesT ⟨_, rfl, _, rfl, x, j, rows, steps, ws, r0, rj, [b], 12, congrArg (fun z => [_, V.int z]) (Int.zero_add _), SG.ha.keep (k3.sub (by simp)), by decide, nm.hs, e0, ej, fun H4 k4 => ?_⟩⟩
      rw [nm.bal j r0 rj e0 ej]
      refine ⟨_, k4 _ _ h3 (by simp), by simp only [List.length_map, List.length_replicate]; exact small1000 (by omega), ?_, (k3.trans k4).own hlv⟩
      rw [upd_same]
      exact congrArg some (congrArg HO.lst (rep_snoc j))
    rintro HH ⟨hlv', kGH⟩
    have elv : ((c : Nat) : Int).toNat = c := by omega
    rw [elv] at hlv'
    have k9H := k9G.trans kGH
    refine nx_of (sl_eq [some (.ref b), some (.ref tp), some (.ref sa), some (.ref ag), some (.ref du), some (.ref mi), some (.ref to), some (.ref ot), some (.ref y), some (.ref lv), some (.ref ta), some (.ref wa), some (.ref sp), some (.int (far : Nat)), some (.ref x), some (.ref pa), some (.ref fd), none, none, none, none, none, none] rfl ?_)
    refine seq_cutI (fun σ' H' => σ' = [some (.ref b), some (.ref tp), some (.ref sa), some (.ref ag), some (.ref du), some (.ref mi), some (.ref to), some (.ref ot), some (.ref y), some (.ref lv), some (.ref ta), some (.ref wa), some (.ref sp), some (.int (far : Nat)), some (.ref x), some (.ref pa), some (.ref fd), none, none, none, none, none, none] ∧ Kp [] H9 H') ?_ fun nx hnx => ?_
    rotate_left
    · have SH := S9.keep (k9H.sub (by simp))
      refine ⟨_, rfl, x, rows, steps, ws, [b], 12, rfl, SH.ha, by decide, nm.hs, fun mp HI fmp kI hmp => ?_⟩
      rw [nm.tp] at hmp
      have mb : Bd 300000 (rows.map (midR ws ts)) := fun z hz => by
        obtain ⟨r, hr, rfl⟩ := List.mem_map.mp hz
        exact mid_bd nm.hs Bt hr
      have lmd : (rows.map (midR ws ts)).length ≤ 60 := by rw [List.length_map]; omega
      have d1 : D [] HI 60 2 (.ref mp) (dT (rows.map (midR ws ts))) := rowE hmp lmd mb (by decide)
      have hlvI := kI _ _ hlv' (by simp)
      have d2 : D [] HI 60 2 (.ref lv) (.list ((List.replicate c true).map PyData.bool)) := .lst hlvI (by simp) (by simp; omega) (DA.ofBl _)
      refine ⟨_, rfl, by show 2 ≤ sizeLine; decide, fun m1 hm1 => ?_⟩
      have e1 := LE2 hm1 d1 d2
      have kJ : Kp [] HI (upd HI m1 (.lst [.ref mp, .ref lv])) := Kp.rfl'.new hm1
      generalize upd HI m1 (.lst [.ref mp, .ref lv]) = HJ at e1 kJ ⊢
      have k9J := (k9H.trans kI).trans kJ
      have SJ := S9.keep (k9J.sub (by simp))
      refine ⟨_, rfl, sp, _, rfl, .inl ⟨SqL.of SJ.hs, fun tq htq => ?_⟩⟩
      have kL : Kp [] HJ (upd HJ tq (.tup ((rows.map (midR ws ts)).map V.int))) := Kp.rfl'.new htq
      have d3 : D [] (upd HJ tq (.tup ((rows.map (midR ws ts)).map V.int))) 60 2 (.ref tq) (dT (rows.map (midR ws ts))) := rowE upd_same lmd mb (by decide)
      generalize upd HJ tq (.tup ((rows.map (midR ws ts)).map V.int)) = HL at kL d3 ⊢
      have k9L := k9J.trans kL
      have SL := S9.keep (k9L.sub (by simp))
      refine ⟨_, rfl, tp, rfl, ⟨_, SqL.of SL.ht⟩, fun tt2 htt2 => lc_intsL V.bl (fun _ => true) SL.ht (by omega) htt2 (fun z H2 R N hz hR => ⟨rfl, yesT hR⟩) fun HM htM kM => ?_⟩
      have er : ts.map (fun _ => true) = List.replicate c true := by
        rw [List.map_const']
        congr 1
        omega
      rw [er] at htM
      have d4 : D [] HM 60 2 (.ref tt2) (.list ((List.replicate c true).map PyData.bool)) := .lst htM (by simp) (by simp; omega) (DA.ofBl _)
      refine ⟨by show 2 ≤ sizeLine; decide, fun m2 hm2 => ?_⟩
      have e2 := LE2 hm2 (d3.keep kM) d4
      have kN : Kp [] HM (upd HM m2 (.lst [.ref tq, .ref tt2])) := Kp.rfl'.new hm2
      refine ⟨_, _, _, [], [], 60, 3, rfl, ((e1.keep kL).keep kM).keep kN, e2, by decide, by decide, fun HO kO => ⟨_, rfl, iteF ?_⟩⟩
      exact hnx _ _ ⟨rfl, ((k9L.trans kM).trans kN).trans kO⟩
    rintro σ' HI ⟨rfl, k9I⟩
    clear k9H hlv' kGH hlv SG hBG k9G
    have SI := S9.keep (k9I.sub (by simp))
    have dUI := dU9.keep (k9I.sub (by simp))
    have dMI := dM9.keep (k9I.sub (by simp))
    obtain ⟨xu, huI, _, lxu, _, alu⟩ := dUI.rowLT
    obtain ⟨xm, hmI, _, lxm, _, alm⟩ := dMI.rowLT
    refine ⟨_, rfl, _, rfl, du, mi, true, true, xu, xm, rfl, SqL.of huI, SqL.of hmI, for_it (walkZ (K := K) (a := du) (b := mi) (ka := true) (kb := true) (n := G.length) (xs := xu) (ys := xm) (by omega)) (fun i σ H' => ∃ (o17 o18 : Option V), σ = [some (.ref b), some (.ref tp), some (.ref sa), some (.ref ag), some (.ref du), some (.ref mi), some (.ref to), some (.ref ot), some (.ref y), some (.ref lv), some (.ref ta), some (.ref wa), some (.ref sp), some (.int (far : Nat)), some (.ref x), some (.ref pa), some (.ref fd), o17, o18, none, none, none, none] ∧ Kp [] HI H') ?_ ?_ ?_ ?_⟩
    · exact ⟨_, _, rfl, Kp.rfl'⟩
    · rintro i σ H' _ ⟨_, _, _, k⟩
      exact ⟨SqL.of (k _ _ huI (by simp)), SqL.of (k _ _ hmI (by simp))⟩
    · rintro i yy σ HJ HJ' hi ⟨o17, o18, rfl, kJ⟩ ⟨t', u, v, rfl, ft, rfl, hu, hv⟩
      have hu : xu[i]? = some u := hu
      have hv : xm[i]? = some v := hv
      obtain ⟨st, est⟩ : ∃ st, G[i]? = some st := ⟨G[i], by simp⟩
      obtain ⟨a1, g1, h1, _, _⟩ := alu i st est
      obtain ⟨a2, g2, h2, _, _⟩ := alm i (mir ts st) (by rw [List.getElem?_map, est]; rfl)
      rw [g1] at hu
      rw [g2] at hv
      cases hu
      cases hv
      have gs := gG st (List.mem_of_getElem? est)
      have lst2 : st.length = ts.length := by rw [gs.1, lts, lr]
      have kK : Kp [] HJ (upd HJ t' (.tup [.ref a1, .ref a2])) := Kp.rfl'.new ft
      refine ⟨t', _, rfl, SqT.of upd_same, rfl, _, _, rfl, _, _, rfl, rfl, ?_⟩
      have kIK := kJ.trans kK
      generalize upd HJ t' (.tup [.ref a1, .ref a2]) = HK at kIK ⊢
      have SK := SI.keep (kIK.sub (by simp))
      refine ⟨_, rfl, _, rfl, x, a1, rows, steps, ws, st, [b], 12, rfl, SK.ha, by decide, kIK _ _ h1 (by simp), by omega, fun p1 HL f1 kL hp1 => ?_⟩
      have SL := SK.keep (kL.sub (by simp))
      have kIL := kIK.trans kL
      rw [nm.tp] at hp1
      have gm := gM (mir ts st) (List.mem_map.mpr ⟨st, List.mem_of_getElem? est, rfl⟩)
      refine ⟨_, rfl, _, rfl, rfl, rfl, x, a2, rows, steps, ws, mir ts st, [b], 12, rfl, SL.ha, by decide, kIL _ _ h2 (by simp), by omega, fun p2 HM f2 kM hp2 => ?_⟩
      rw [nm.tp, show List.zipWith (· - ·) ts (mir ts st) = st from mir_mir lst2] at hp2
      have kIM := kIL.trans kM
      have d1 : D [] HM 60 2 (.ref p1) (dT (mir ts st)) := rowE (kM _ _ hp1 (by simp)) (by omega) gm.2 (by decide)
      have d2 : D [] HM 60 2 (.ref p2) (dT st) := rowE hp2 (by omega) gs.2 (by decide)
      refine ⟨by show 2 ≤ sizeLine; decide, fun m1 hm1 => ?_⟩
      have e1 := LE2 hm1 d1 d2
      have kN : Kp [] HM (upd HM m1 (.lst [.ref p1, .ref p2])) := Kp.rfl'.new hm1
      generalize upd HM m1 (.lst [.ref p1, .ref p2]) = HN at e1 kN ⊢
      have kIN := kIM.trans kN
      have d3 : D [] HN 60 2 (.ref a2) (dT (mir ts st)) := rowE (kIN _ _ h2 (by simp)) (by omega) gm.2 (by decide)
      have d4 : D [] HN 60 2 (.ref a1) (dT st) := rowE (kIN _ _ h1 (by simp)) (by omega) gs.2 (by decide)
      refine ⟨_, rfl, _, rfl, by show 2 ≤ sizeLine; decide, fun m2 hm2 => ?_⟩
      have e2 := LE2 hm2 d3 d4
      have kO : Kp [] HN (upd HN m2 (.lst [.ref a2, .ref a1])) := Kp.rfl'.new hm2
      refine ⟨_, _, _, [], [], 60, 3, rfl, e1.keep kO, e2, by decide, by decide, fun HP kP => ⟨_, rfl, iteF ?_⟩⟩
      exact ⟨_, _, rfl, (kIN.trans kO).trans kP⟩
    · rintro σ HJ ⟨o17, o18, rfl, kJ⟩
      have k9J := k9I.trans kJ
      have SJ := S9.keep (k9J.sub (by simp))
      have hBJ := hB9.keep k9J (by simp)
      have dWJ : D [b] HJ 12 2 (.ref wa) (dI ws) := D.ofInts SJ.hw (by simpa using nwb) (by omega) fun x hx => by have := bw20 x hx; omega
      exact ⟨_, rfl, _, rfl, _, rfl, _, rfl, b, ta, sa, wa, rows, steps, ws, _, rfl, hBJ, by omega, SJ.dt, SJ.ds, dWJ, nm.ok, nm.hs, nm.bs, nm.bal, fun HL kL => q _ (k09.trans ((k9J.sub (by simp)).trans kL))⟩

end
end Sw

set_option maxHeartbeats 2000000
namespace Sw
open PySem PySem.Spec PyProof.Rows L2
section
variable {P : Program} {w : World} {K : PySem.W.Frag} {mg : Str → Option Value} {base : Heap}
def sp_law (K : PySem.W.Frag) : Sp := fun vs H Q _ => ∃ (a : Addr) (ns : List Int), vs = [.ref a] ∧ SqL K H a (ns.map V.int) ∧ ns.length ≤ 63 ∧ ∀ H', Q (.bl true) H'
theorem ok_law (T : Tx K mg) : FnG P w K mg base 17 (He.fAd K ("law", none)) T.fd_law p_law (sp_law K) := by
  have G__law_right := ok_right (P := P) (w := w) (base := base) T
  have G__law_box := ok_box (P := P) (w := w) (base := base) T
  refine okG T.F_law sc_law (fun vs H Q E h => ?_) (fun cdv A outer s H vs Q E hG hr h => ?_)
  · obtain ⟨_, _, rfl, _⟩ := h
    rfl
  · obtain ⟨a, ns, rfl, hS, hl, q⟩ := h
    refine ⟨_, PSs.nox (pss_one (ps_ret (pe_callB (cr_all rfl) (by rfl) T.b_all (by decide +kernel) (pa_cons (pe_lc (own := [("_law_k", 1)]) (g := (gName 1)) (tt := tYes) rfl sc_law.nd (pi_range1 (by rfl) T.b_range (pa_cons (pe_op op_add pe_int (pe_callB (call_min2 rfl) (by rfl) T.b_min (by decide +kernel) (pa_cons pe_int (pa_cons (pe_callB call_len (by rfl) T.b_len (by decide +kernel) (pa_cons (pv 0) pa_nil)) pa_nil)))) pa_nil)) (blkOk_by (own := [("_law_k", 1)]) (N := n_law) (sc := defScope s_law) (by decide +kernel)) (fun _ _ _ _ _ => (pg_name (i := 1) sc_law.nd rfl (by first | exact Or.inl rfl | exact Or.inr rfl))) (fun _ _ _ _ _ => pts_nil) (fun _ _ _ _ _ => (pe_call G__law_right (hr.mono (by first | decide | omega)) rfl T.g__law_right T.F__law_right.kp T.bd__law_right .nil pass0 (pa_cons (pe_call G__law_box (hr.mono (by first | decide | omega)) rfl T.g__law_box T.F__law_box.kp T.bd__law_box .nil pass0 (pa_cons (pv 0) (pa_cons (pv 1) pa_nil))) pa_nil)))) pa_nil)))), ?_⟩
    refine ⟨_, rfl, _, ns.length, rfl, .inl ⟨_, hS, (List.length_map ..).symm⟩, _, _, rfl, _, _, rfl, rfl, ?_⟩
    have cb : 0 ≤ (1 : Int) + (if (ns.length : Int) < 3 then (ns.length : Int) else 3) ∧ (1 : Int) + (if (ns.length : Int) < 3 then (ns.length : Int) else 3) ≤ 4 := by split <;> omega
    refine ⟨_, rfl, by omega, by omega, fun p hp => lc_range (n := ((1 : Int) + (if (ns.length : Int) < 3 then (ns.length : Int) else 3)).toNat) (fun j H3 => H3 p = some (.lst ((List.replicate j true).map V.bl)) ∧ Kp [] H H3) ?_ ?_ ?_⟩
    · exact ⟨by rw [upd_same]; rfl, Kp.rfl'.new hp⟩
    · rintro j H3 hj ⟨h3, k3⟩
      refine ⟨rfl, yesT ⟨_, rfl, _, rfl, a, ns, _, rfl, k3.same.seq hS, by omega, by omega, fun bx H4 fbx hB4 k4 => ?_⟩⟩
      refine ⟨bx, rfl, hB4, fun H5 k5 => ?_⟩
      have k35 : Kp [] H3 H5 := fun c o e _ => k5 c o (k4 c o e (by simp)) (by simpa using ne_of_none e fbx)
      refine ⟨_, k35 _ _ h3 (by simp), by simp only [List.length_map, List.length_replicate]; exact small1000 (by omega), ?_, (k3.trans k35).own hp⟩
      rw [upd_same, rep_snoc]
    · rintro H3 ⟨h3, k3⟩
      refine ⟨p, _, rfl, SqL.of h3, ?_⟩
      rw [rep_all]
      exact q _
theorem bd_Hall___init__ {f : Addr} {fd : FuncData} (F : FunD K "__init__" "Hall.__init__" (defArgs s_Hall___init__) (defBody s_Hall___init__) (defScope s_Hall___init__) [V.ref (He.dflAt ("Hall", some "__init__") 0 K)] [] f fd) : Binds K fd p_Hall___init__ [] := by
  obtain ⟨ds, r, bd⟩ := F.binds1 (ps := p_Hall___init__) 4 1 (by simp) rfl (fun T kV doc pm an cdv ct us its h1 h2 => match us, its, h1, h2 with | [_, _, _, _], [_], _, _ => ⟨_, rfl, rfl⟩)
  cases r
  exact bd
theorem bd_Sway_beat {f : Addr} {fd : FuncData} (F : FunD K "beat" "Sway.beat" (defArgs s_Sway_beat) (defBody s_Sway_beat) (defScope s_Sway_beat) [V.int 1] [] f fd) : Binds K fd p_Sway_beat [] := by
  obtain ⟨ds, r, bd⟩ := F.binds1 (ps := p_Sway_beat) 2 1 (by simp) rfl (fun T kV doc pm an cdv ct us its h1 h2 => match us, its, h1, h2 with | [_, _], [_], _, _ => ⟨_, rfl, rfl⟩)
  cases r
  exact bd
theorem kb_mirror {f : Addr} {fd : FuncData} (F : FunD K "mirror" "mirror" (defArgs s_mirror) (defBody s_mirror) (defScope s_mirror) [] [] f fd) : KBn K fd p_mirror 0 ["hall", "standing"] (fun _ ws => ws) (fun _ zs => zs) := by
  obtain ⟨oc, od, dV, kV, doc, pm, an, cdv, ct, osl, rfl, lk, hcd, hD, hK⟩ := F.ex
  rcases hD with ⟨_, rfl⟩ | ⟨e, _⟩
  · exact ⟨fun s us ws _ l1 l2 => match us, ws, l1, l2 with | [], [_, _], _, _ => .of_eq rfl, fun _ r => r⟩
  · exact absurd rfl e
def dd_is_number : He.DefD := ⟨("is_number", none), "is_number", "is_number", defArgs s_is_number, defBody s_is_number, defScope s_is_number, [], []⟩
def dd_are_numbers : He.DefD := ⟨("are_numbers", none), "are_numbers", "are_numbers", defArgs s_are_numbers, defBody s_are_numbers, defScope s_are_numbers, [], []⟩
def dd_are_rows : He.DefD := ⟨("are_rows", none), "are_rows", "are_rows", defArgs s_are_rows, defBody s_are_rows, defScope s_are_rows, [], []⟩
def dd_does_rise : He.DefD := ⟨("does_rise", none), "does_rise", "does_rise", defArgs s_does_rise, defBody s_does_rise, defScope s_does_rise, [], []⟩
def dd_are_strings : He.DefD := ⟨("are_strings", none), "are_strings", "are_strings", defArgs s_are_strings, defBody s_are_strings, defScope s_are_strings, [], []⟩
def dd_is_ladder : He.DefD := ⟨("is_ladder", none), "is_ladder", "is_ladder", defArgs s_is_ladder, defBody s_is_ladder, defScope s_is_ladder, [], []⟩
def dd_are_steps : He.DefD := ⟨("are_steps", none), "are_steps", "are_steps", defArgs s_are_steps, defBody s_are_steps, defScope s_are_steps, [], []⟩
def dd_is_memory : He.DefD := ⟨("is_memory", none), "is_memory", "is_memory", defArgs s_is_memory, defBody s_is_memory, defScope s_is_memory, [], []⟩
def dd_as_tuples : He.DefD := ⟨("as_tuples", none), "as_tuples", "as_tuples", defArgs s_as_tuples, defBody s_as_tuples, defScope s_as_tuples, [], []⟩
def dd_Hall___init__ : He.DefD := ⟨("Hall", some "__init__"), "__init__", "Hall.__init__", defArgs s_Hall___init__, defBody s_Hall___init__, defScope s_Hall___init__, [.adr (He.dflAt ("Hall", some "__init__") 0)], []⟩
def dd_Hall_strings : He.DefD := ⟨("Hall", some "strings"), "strings", "Hall.strings", defArgs s_Hall_strings, defBody s_Hall_strings, defScope s_Hall_strings, [], []⟩
def dd_Hall_steps : He.DefD := ⟨("Hall", some "steps"), "steps", "Hall.steps", defArgs s_Hall_steps, defBody s_Hall_steps, defScope s_Hall_steps, [], []⟩
def dd_Hall_memory : He.DefD := ⟨("Hall", some "memory"), "memory", "Hall.memory", defArgs s_Hall_memory, defBody s_Hall_memory, defScope s_Hall_memory, [], []⟩
def dd_Hall_tops : He.DefD := ⟨("Hall", some "tops"), "tops", "Hall.tops", defArgs s_Hall_tops, defBody s_Hall_tops, defScope s_Hall_tops, [], []⟩
def dd_Hall___len__ : He.DefD := ⟨("Hall", some "__len__"), "__len__", "Hall.__len__", defArgs s_Hall___len__, defBody s_Hall___len__, defScope s_Hall___len__, [], []⟩
def dd_weighed : He.DefD := ⟨("weighed", none), "weighed", "weighed", defArgs s_weighed, defBody s_weighed, defScope s_weighed, [], []⟩
def dd_pulled_by : He.DefD := ⟨("pulled_by", none), "pulled_by", "pulled_by", defArgs s_pulled_by, defBody s_pulled_by, defScope s_pulled_by, [], []⟩
def dd_pulls : He.DefD := ⟨("pulls", none), "pulls", "pulls", defArgs s_pulls, defBody s_pulls, defScope s_pulls, [], []⟩
def dd_reached : He.DefD := ⟨("reached", none), "reached", "reached", defArgs s_reached, defBody s_reached, defScope s_reached, [], []⟩
def dd_as_held : He.DefD := ⟨("as_held", none), "as_held", "as_held", defArgs s_as_held, defBody s_as_held, defScope s_as_held, [], []⟩
def dd_grips_of : He.DefD := ⟨("grips_of", none), "grips_of", "grips_of", defArgs s_grips_of, defBody s_grips_of, defScope s_grips_of, [], []⟩
def dd_leant : He.DefD := ⟨("leant", none), "leant", "leant", defArgs s_leant, defBody s_leant, defScope s_leant, [], []⟩
def dd_history : He.DefD := ⟨("history", none), "history", "history", defArgs s_history, defBody s_history, defScope s_history, [], [("held", .adr (kwAt ("history", none) "held"))]⟩
def dd_Sway___init__ : He.DefD := ⟨("Sway", some "__init__"), "__init__", "Sway.__init__", defArgs s_Sway___init__, defBody s_Sway___init__, defScope s_Sway___init__, [], [("held", .adr (kwAt ("Sway", some "__init__") "held"))]⟩
def dd_Sway_beat : He.DefD := ⟨("Sway", some "beat"), "beat", "Sway.beat", defArgs s_Sway_beat, defBody s_Sway_beat, defScope s_Sway_beat, [.int 1], []⟩
def dd_Sway_past : He.DefD := ⟨("Sway", some "past"), "past", "Sway.past", defArgs s_Sway_past, defBody s_Sway_past, defScope s_Sway_past, [], []⟩
def dd_middles : He.DefD := ⟨("middles", none), "middles", "middles", defArgs s_middles, defBody s_middles, defScope s_middles, [], []⟩
def dd_is_balanced : He.DefD := ⟨("is_balanced", none), "is_balanced", "is_balanced", defArgs s_is_balanced, defBody s_is_balanced, defScope s_is_balanced, [], []⟩
def dd_mirror : He.DefD := ⟨("mirror", none), "mirror", "mirror", defArgs s_mirror, defBody s_mirror, defScope s_mirror, [], []⟩
def dd__law_box : He.DefD := ⟨("_law_box", none), "_law_box", "_law_box", defArgs s__law_box, defBody s__law_box, defScope s__law_box, [], []⟩
def dd__law_take : He.DefD := ⟨("_law_take", none), "_law_take", "_law_take", defArgs s__law_take, defBody s__law_take, defScope s__law_take, [], []⟩
def dd__law_pick : He.DefD := ⟨("_law_pick", none), "_law_pick", "_law_pick", defArgs s__law_pick, defBody s__law_pick, defScope s__law_pick, [], []⟩
def dd__law_same : He.DefD := ⟨("_law_same", none), "_law_same", "_law_same", defArgs s__law_same, defBody s__law_same, defScope s__law_same, [], []⟩
def dd__law_number : He.DefD := ⟨("_law_number", none), "_law_number", "_law_number", defArgs s__law_number, defBody s__law_number, defScope s__law_number, [], []⟩
def dd__law_ties : He.DefD := ⟨("_law_ties", none), "_law_ties", "_law_ties", defArgs s__law_ties, defBody s__law_ties, defScope s__law_ties, [], []⟩
def dd__law_weights : He.DefD := ⟨("_law_weights", none), "_law_weights", "_law_weights", defArgs s__law_weights, defBody s__law_weights, defScope s__law_weights, [], []⟩
def dd__law_past : He.DefD := ⟨("_law_past", none), "_law_past", "_law_past", defArgs s__law_past, defBody s__law_past, defScope s__law_past, [], []⟩
def dd__law_pull : He.DefD := ⟨("_law_pull", none), "_law_pull", "_law_pull", defArgs s__law_pull, defBody s__law_pull, defScope s__law_pull, [], []⟩
def dd__law_going : He.DefD := ⟨("_law_going", none), "_law_going", "_law_going", defArgs s__law_going, defBody s__law_going, defScope s__law_going, [], []⟩
def dd__law_fixed : He.DefD := ⟨("_law_fixed", none), "_law_fixed", "_law_fixed", defArgs s__law_fixed, defBody s__law_fixed, defScope s__law_fixed, [], []⟩
def dd__law_sums : He.DefD := ⟨("_law_sums", none), "_law_sums", "_law_sums", defArgs s__law_sums, defBody s__law_sums, defScope s__law_sums, [], []⟩
def dd__law_tops : He.DefD := ⟨("_law_tops", none), "_law_tops", "_law_tops", defArgs s__law_tops, defBody s__law_tops, defScope s__law_tops, [], []⟩
def dd__law_level : He.DefD := ⟨("_law_level", none), "_law_level", "_law_level", defArgs s__law_level, defBody s__law_level, defScope s__law_level, [], []⟩
def dd__law_mirror : He.DefD := ⟨("_law_mirror", none), "_law_mirror", "_law_mirror", defArgs s__law_mirror, defBody s__law_mirror, defScope s__law_mirror, [], []⟩
def dd__law_moved_right : He.DefD := ⟨("_law_moved_right", none), "_law_moved_right", "_law_moved_right", defArgs s__law_moved_right, defBody s__law_moved_right, defScope s__law_moved_right, [], []⟩
def dd__law_right : He.DefD := ⟨("_law_right", none), "_law_right", "_law_right", defArgs s__law_right, defBody s__law_right, defScope s__law_right, [], []⟩
def dd_law : He.DefD := ⟨("law", none), "law", "law", defArgs s_law, defBody s_law, defScope s_law, [], []⟩
def fn : List He.DefD := [dd_is_number, dd_are_numbers, dd_are_rows, dd_does_rise, dd_are_strings, dd_is_ladder, dd_are_steps, dd_is_memory, dd_as_tuples, dd_Hall___init__, dd_Hall_strings, dd_Hall_steps, dd_Hall_memory, dd_Hall_tops, dd_Hall___len__, dd_weighed, dd_pulled_by, dd_pulls, dd_reached, dd_as_held, dd_grips_of, dd_leant, dd_history, dd_Sway___init__, dd_Sway_beat, dd_Sway_past, dd_middles, dd_is_balanced, dd_mirror, dd__law_box, dd__law_take, dd__law_pick, dd__law_same, dd__law_number, dd__law_ties, dd__law_weights, dd__law_past, dd__law_pull, dd__law_going, dd__law_fixed, dd__law_sums, dd__law_tops, dd__law_level, dd__law_mirror, dd__law_moved_right, dd__law_right, dd_law]
def fa : List He.Fa := [.free "abs", .free "all", .free "bool", .free "dict", .free "enumerate", .free "int", .free "isinstance", .free "len", .free "list", .free "min", .free "range", .free "str", .free "sum", .free "tuple", .free "zip", .int "MOST_STEPS" 4, .int "MOST_WEIGHTS" 5, .glo "Hall", .cls "Hall", .mkr "Hall", .noat "Hall" "string_rows", .noat "Hall" "step_rows", .noat "Hall" "weights", .glo "Sway", .cls "Sway", .mkr "Sway", .noat "Sway" "home", .noat "Sway" "grips", .noat "Sway" "standings", .noat "Sway" "gone", .glo "is_number", .glo "are_numbers", .glo "are_rows", .glo "does_rise", .glo "are_strings", .glo "is_ladder", .glo "are_steps", .glo "is_memory", .glo "as_tuples", .meth "Hall" "strings", .meth "Hall" "steps", .meth "Hall" "memory", .meth "Hall" "tops", .meth "Hall" "__len__", .glo "weighed", .glo "pulled_by", .glo "pulls", .glo "reached", .glo "as_held", .glo "grips_of", .glo "leant", .glo "history", .meth "Sway" "beat", .meth "Sway" "past", .glo "middles", .glo "is_balanced", .glo "mirror", .glo "_law_box", .glo "_law_take", .glo "_law_pick", .glo "_law_same", .glo "_law_number", .glo "_law_ties", .glo "_law_weights", .glo "_law_past", .glo "_law_pull", .glo "_law_going", .glo "_law_fixed", .glo "_law_sums", .glo "_law_tops", .glo "_law_level", .glo "_law_mirror", .glo "_law_moved_right", .glo "_law_right", .glo "law"]
theorem tx_of {K : PySem.W.Frag} {h : Heap} {mg : Str → Option Value} (X : K.In h) (G : h.Ns mainGlobals mg) (c : He.SaysD fa fn K) : Nonempty (Tx K mg) := by
  obtain ⟨t_MOST_STEPS, h_MOST_STEPS⟩ := He.int_ok X G (c.fact 15 (f := .int "MOST_STEPS" 4) rfl)
  obtain ⟨t_MOST_WEIGHTS, h_MOST_WEIGHTS⟩ := He.int_ok X G (c.fact 16 (f := .int "MOST_WEIGHTS" 5) rfl)
  obtain ⟨fd_is_number, F_is_number⟩ := c.def_ 0 (d := dd_is_number) rfl
  obtain ⟨fd_are_numbers, F_are_numbers⟩ := c.def_ 1 (d := dd_are_numbers) rfl
  obtain ⟨fd_are_rows, F_are_rows⟩ := c.def_ 2 (d := dd_are_rows) rfl
  obtain ⟨fd_does_rise, F_does_rise⟩ := c.def_ 3 (d := dd_does_rise) rfl
  obtain ⟨fd_are_strings, F_are_strings⟩ := c.def_ 4 (d := dd_are_strings) rfl
  obtain ⟨fd_is_ladder, F_is_ladder⟩ := c.def_ 5 (d := dd_is_ladder) rfl
  obtain ⟨fd_are_steps, F_are_steps⟩ := c.def_ 6 (d := dd_are_steps) rfl
  obtain ⟨fd_is_memory, F_is_memory⟩ := c.def_ 7 (d := dd_is_memory) rfl
  obtain ⟨fd_as_tuples, F_as_tuples⟩ := c.def_ 8 (d := dd_as_tuples) rfl
  obtain ⟨fd_Hall___init__, F_Hall___init__⟩ := c.def_ 9 (d := dd_Hall___init__) rfl
  obtain ⟨fd_Hall_strings, F_Hall_strings⟩ := c.def_ 10 (d := dd_Hall_strings) rfl
  obtain ⟨fd_Hall_steps, F_Hall_steps⟩ := c.def_ 11 (d := dd_Hall_steps) rfl
  obtain ⟨fd_Hall_memory, F_Hall_memory⟩ := c.def_ 12 (d := dd_Hall_memory) rfl
  obtain ⟨fd_Hall_tops, F_Hall_tops⟩ := c.def_ 13 (d := dd_Hall_tops) rfl
  obtain ⟨fd_Hall___len__, F_Hall___len__⟩ := c.def_ 14 (d := dd_Hall___len__) rfl
  obtain ⟨fd_weighed, F_weighed⟩ := c.def_ 15 (d := dd_weighed) rfl
  obtain ⟨fd_pulled_by, F_pulled_by⟩ := c.def_ 16 (d := dd_pulled_by) rfl
  obtain ⟨fd_pulls, F_pulls⟩ := c.def_ 17 (d := dd_pulls) rfl
  obtain ⟨fd_reached, F_reached⟩ := c.def_ 18 (d := dd_reached) rfl
  obtain ⟨fd_as_held, F_as_held⟩ := c.def_ 19 (d := dd_as_held) rfl
  obtain ⟨fd_grips_of, F_grips_of⟩ := c.def_ 20 (d := dd_grips_of) rfl
  obtain ⟨fd_leant, F_leant⟩ := c.def_ 21 (d := dd_leant) rfl
  obtain ⟨fd_history, F_history⟩ := c.def_ 22 (d := dd_history) rfl
  obtain ⟨fd_Sway___init__, F_Sway___init__⟩ := c.def_ 23 (d := dd_Sway___init__) rfl
  obtain ⟨fd_Sway_beat, F_Sway_beat⟩ := c.def_ 24 (d := dd_Sway_beat) rfl
  obtain ⟨fd_Sway_past, F_Sway_past⟩ := c.def_ 25 (d := dd_Sway_past) rfl
  obtain ⟨fd_middles, F_middles⟩ := c.def_ 26 (d := dd_middles) rfl
  obtain ⟨fd_is_balanced, F_is_balanced⟩ := c.def_ 27 (d := dd_is_balanced) rfl
  obtain ⟨fd_mirror, F_mirror⟩ := c.def_ 28 (d := dd_mirror) rfl
  obtain ⟨fd__law_box, F__law_box⟩ := c.def_ 29 (d := dd__law_box) rfl
  obtain ⟨fd__law_take, F__law_take⟩ := c.def_ 30 (d := dd__law_take) rfl
  obtain ⟨fd__law_pick, F__law_pick⟩ := c.def_ 31 (d := dd__law_pick) rfl
  obtain ⟨fd__law_same, F__law_same⟩ := c.def_ 32 (d := dd__law_same) rfl
  obtain ⟨fd__law_number, F__law_number⟩ := c.def_ 33 (d := dd__law_number) rfl
  obtain ⟨fd__law_ties, F__law_ties⟩ := c.def_ 34 (d := dd__law_ties) rfl
  obtain ⟨fd__law_weights, F__law_weights⟩ := c.def_ 35 (d := dd__law_weights) rfl
  obtain ⟨fd__law_past, F__law_past⟩ := c.def_ 36 (d := dd__law_past) rfl
  obtain ⟨fd__law_pull, F__law_pull⟩ := c.def_ 37 (d := dd__law_pull) rfl
  obtain ⟨fd__law_going, F__law_going⟩ := c.def_ 38 (d := dd__law_going) rfl
  obtain ⟨fd__law_fixed, F__law_fixed⟩ := c.def_ 39 (d := dd__law_fixed) rfl
  obtain ⟨fd__law_sums, F__law_sums⟩ := c.def_ 40 (d := dd__law_sums) rfl
  obtain ⟨fd__law_tops, F__law_tops⟩ := c.def_ 41 (d := dd__law_tops) rfl
  obtain ⟨fd__law_level, F__law_level⟩ := c.def_ 42 (d := dd__law_level) rfl
  obtain ⟨fd__law_mirror, F__law_mirror⟩ := c.def_ 43 (d := dd__law_mirror) rfl
  obtain ⟨fd__law_moved_right, F__law_moved_right⟩ := c.def_ 44 (d := dd__law_moved_right) rfl
  obtain ⟨fd__law_right, F__law_right⟩ := c.def_ 45 (d := dd__law_right) rfl
  obtain ⟨fd_law, F_law⟩ := c.def_ 46 (d := dd_law) rfl
  exact ⟨{ b_abs := He.free_ok X G (c.fact 0 (f := .free "abs") rfl), b_all := He.free_ok X G (c.fact 1 (f := .free "all") rfl), b_bool := He.free_ok X G (c.fact 2 (f := .free "bool") rfl), b_dict := He.free_ok X G (c.fact 3 (f := .free "dict") rfl), b_enumerate := He.free_ok X G (c.fact 4 (f := .free "enumerate") rfl), b_int := He.free_ok X G (c.fact 5 (f := .free "int") rfl), b_isinstance := He.free_ok X G (c.fact 6 (f := .free "isinstance") rfl), b_len := He.free_ok X G (c.fact 7 (f := .free "len") rfl), b_list := He.free_ok X G (c.fact 8 (f := .free "list") rfl), b_min := He.free_ok X G (c.fact 9 (f := .free "min") rfl), b_range := He.free_ok X G (c.fact 10 (f := .free "range") rfl), b_str := He.free_ok X G (c.fact 11 (f := .free "str") rfl), b_sum := He.free_ok X G (c.fact 12 (f := .free "sum") rfl), b_tuple := He.free_ok X G (c.fact 13 (f := .free "tuple") rfl), b_zip := He.free_ok X G (c.fact 14 (f := .free "zip") rfl), t_MOST_STEPS := t_MOST_STEPS, c_MOST_STEPS := h_MOST_STEPS, t_MOST_WEIGHTS := t_MOST_WEIGHTS, c_MOST_WEIGHTS := h_MOST_WEIGHTS, g_Hall := He.glo_ok X G (c.fact 17 (f := .glo "Hall") rfl), cl_Hall := He.cls_ok (c.fact 18 (f := .cls "Hall") rfl), mk_Hall := He.mkr_ok (c.fact 19 (f := .mkr "Hall") rfl), na_Hall_string_rows := He.noat_ok (c.fact 20 (f := .noat "Hall" "string_rows") rfl), na_Hall_step_rows := He.noat_ok (c.fact 21 (f := .noat "Hall" "step_rows") rfl), na_Hall_weights := He.noat_ok (c.fact 22 (f := .noat "Hall" "weights") rfl), g_Sway := He.glo_ok X G (c.fact 23 (f := .glo "Sway") rfl), cl_Sway := He.cls_ok (c.fact 24 (f := .cls "Sway") rfl), mk_Sway := He.mkr_ok (c.fact 25 (f := .mkr "Sway") rfl), na_Sway_home := He.noat_ok (c.fact 26 (f := .noat "Sway" "home") rfl), na_Sway_grips := He.noat_ok (c.fact 27 (f := .noat "Sway" "grips") rfl), na_Sway_standings := He.noat_ok (c.fact 28 (f := .noat "Sway" "standings") rfl), na_Sway_gone := He.noat_ok (c.fact 29 (f := .noat "Sway" "gone") rfl), fd_is_number := fd_is_number, F_is_number := F_is_number, g_is_number := He.glo_ok X G (c.fact 30 (f := .glo "is_number") rfl), bd_is_number := FunD.bindsN (ps := p_is_number) F_is_number fun _ _ _ _ _ _ us hl => match us, hl with | [_], _ => rfl, fd_are_numbers := fd_are_numbers, F_are_numbers := F_are_numbers, g_are_numbers := He.glo_ok X G (c.fact 31 (f := .glo "are_numbers") rfl), bd_are_numbers := FunD.bindsN (ps := p_are_numbers) F_are_numbers fun _ _ _ _ _ _ us hl => match us, hl with | [_], _ => rfl, fd_are_rows := fd_are_rows, F_are_rows := F_are_rows, g_are_rows := He.glo_ok X G (c.fact 32 (f := .glo "are_rows") rfl), bd_are_rows := FunD.bindsN (ps := p_are_rows) F_are_rows fun _ _ _ _ _ _ us hl => match us, hl with | [_], _ => rfl, fd_does_rise := fd_does_rise, F_does_rise := F_does_rise, g_does_rise := He.glo_ok X G (c.fact 33 (f := .glo "does_rise") rfl), bd_does_rise := FunD.bindsN (ps := p_does_rise) F_does_rise fun _ _ _ _ _ _ us hl => match us, hl with | [_], _ => rfl, fd_are_strings := fd_are_strings, F_are_strings := F_are_strings, g_are_strings := He.glo_ok X G (c.fact 34 (f := .glo "are_strings") rfl), bd_are_strings := FunD.bindsN (ps := p_are_strings) F_are_strings fun _ _ _ _ _ _ us hl => match us, hl with | [_], _ => rfl, fd_is_ladder := fd_is_ladder, F_is_ladder := F_is_ladder, g_is_ladder := He.glo_ok X G (c.fact 35 (f := .glo "is_ladder") rfl), bd_is_ladder := FunD.bindsN (ps := p_is_ladder) F_is_ladder fun _ _ _ _ _ _ us hl => match us, hl with | [_], _ => rfl, fd_are_steps := fd_are_steps, F_are_steps := F_are_steps, g_are_steps := He.glo_ok X G (c.fact 36 (f := .glo "are_steps") rfl), bd_are_steps := FunD.bindsN (ps := p_are_steps) F_are_steps fun _ _ _ _ _ _ us hl => match us, hl with | [_, _], _ => rfl, fd_is_memory := fd_is_memory, F_is_memory := F_is_memory, g_is_memory := He.glo_ok X G (c.fact 37 (f := .glo "is_memory") rfl), bd_is_memory := FunD.bindsN (ps := p_is_memory) F_is_memory fun _ _ _ _ _ _ us hl => match us, hl with | [_], _ => rfl, fd_as_tuples := fd_as_tuples, F_as_tuples := F_as_tuples, g_as_tuples := He.glo_ok X G (c.fact 38 (f := .glo "as_tuples") rfl), bd_as_tuples := FunD.bindsN (ps := p_as_tuples) F_as_tuples fun _ _ _ _ _ _ us hl => match us, hl with | [_], _ => rfl, fd_Hall___init__ := fd_Hall___init__, F_Hall___init__ := F_Hall___init__, bd_Hall___init__ := bd_Hall___init__ F_Hall___init__, fd_Hall_strings := fd_Hall_strings, F_Hall_strings := F_Hall_strings, m_Hall_strings := He.meth_ok (c.fact 39 (f := .meth "Hall" "strings") rfl), bd_Hall_strings := FunD.bindsN (ps := p_Hall_strings) F_Hall_strings fun _ _ _ _ _ _ us hl => match us, hl with | [_], _ => rfl, fd_Hall_steps := fd_Hall_steps, F_Hall_steps := F_Hall_steps, m_Hall_steps := He.meth_ok (c.fact 40 (f := .meth "Hall" "steps") rfl), bd_Hall_steps := FunD.bindsN (ps := p_Hall_steps) F_Hall_steps fun _ _ _ _ _ _ us hl => match us, hl with | [_], _ => rfl, fd_Hall_memory := fd_Hall_memory, F_Hall_memory := F_Hall_memory, m_Hall_memory := He.meth_ok (c.fact 41 (f := .meth "Hall" "memory") rfl), bd_Hall_memory := FunD.bindsN (ps := p_Hall_memory) F_Hall_memory fun _ _ _ _ _ _ us hl => match us, hl with | [_], _ => rfl, fd_Hall_tops := fd_Hall_tops, F_Hall_tops := F_Hall_tops, m_Hall_tops := He.meth_ok (c.fact 42 (f := .meth "Hall" "tops") rfl), bd_Hall_tops := FunD.bindsN (ps := p_Hall_tops) F_Hall_tops fun _ _ _ _ _ _ us hl => match us, hl with | [_], _ => rfl, fd_Hall___len__ := fd_Hall___len__, F_Hall___len__ := F_Hall___len__, m_Hall___len__ := He.meth_ok (c.fact 43 (f := .meth "Hall" "__len__") rfl), bd_Hall___len__ := FunD.bindsN (ps := p_Hall___len__) F_Hall___len__ fun _ _ _ _ _ _ us hl => match us, hl with | [_], _ => rfl, fd_weighed := fd_weighed, F_weighed := F_weighed, g_weighed := He.glo_ok X G (c.fact 44 (f := .glo "weighed") rfl), bd_weighed := FunD.bindsN (ps := p_weighed) F_weighed fun _ _ _ _ _ _ us hl => match us, hl with | [_, _], _ => rfl, fd_pulled_by := fd_pulled_by, F_pulled_by := F_pulled_by, g_pulled_by := He.glo_ok X G (c.fact 45 (f := .glo "pulled_by") rfl), bd_pulled_by := FunD.bindsN (ps := p_pulled_by) F_pulled_by fun _ _ _ _ _ _ us hl => match us, hl with | [_, _], _ => rfl, fd_pulls := fd_pulls, F_pulls := F_pulls, g_pulls := He.glo_ok X G (c.fact 46 (f := .glo "pulls") rfl), bd_pulls := FunD.bindsN (ps := p_pulls) F_pulls fun _ _ _ _ _ _ us hl => match us, hl with | [_, _], _ => rfl, fd_reached := fd_reached, F_reached := F_reached, g_reached := He.glo_ok X G (c.fact 47 (f := .glo "reached") rfl), bd_reached := FunD.bindsN (ps := p_reached) F_reached fun _ _ _ _ _ _ us hl => match us, hl with | [_, _], _ => rfl, fd_as_held := fd_as_held, F_as_held := F_as_held, g_as_held := He.glo_ok X G (c.fact 48 (f := .glo "as_held") rfl), bd_as_held := FunD.bindsN (ps := p_as_held) F_as_held fun _ _ _ _ _ _ us hl => match us, hl with | [_, _], _ => rfl, fd_grips_of := fd_grips_of, F_grips_of := F_grips_of, g_grips_of := He.glo_ok X G (c.fact 49 (f := .glo "grips_of") rfl), bd_grips_of := FunD.bindsN (ps := p_grips_of) F_grips_of fun _ _ _ _ _ _ us hl => match us, hl with | [_], _ => rfl, fd_leant := fd_leant, F_leant := F_leant, g_leant := He.glo_ok X G (c.fact 50 (f := .glo "leant") rfl), bd_leant := FunD.bindsN (ps := p_leant) F_leant fun _ _ _ _ _ _ us hl => match us, hl with | [_, _, _], _ => rfl, fd_history := fd_history, F_history := F_history, g_history := He.glo_ok X G (c.fact 51 (f := .glo "history") rfl), fd_Sway___init__ := fd_Sway___init__, F_Sway___init__ := F_Sway___init__, fd_Sway_beat := fd_Sway_beat, F_Sway_beat := F_Sway_beat, m_Sway_beat := He.meth_ok (c.fact 52 (f := .meth "Sway" "beat") rfl), bd_Sway_beat := bd_Sway_beat F_Sway_beat, fd_Sway_past := fd_Sway_past, F_Sway_past := F_Sway_past, m_Sway_past := He.meth_ok (c.fact 53 (f := .meth "Sway" "past") rfl), bd_Sway_past := FunD.bindsN (ps := p_Sway_past) F_Sway_past fun _ _ _ _ _ _ us hl => match us, hl with | [_], _ => rfl, fd_middles := fd_middles, F_middles := F_middles, g_middles := He.glo_ok X G (c.fact 54 (f := .glo "middles") rfl), bd_middles := FunD.bindsN (ps := p_middles) F_middles fun _ _ _ _ _ _ us hl => match us, hl with | [_], _ => rfl, fd_is_balanced := fd_is_balanced, F_is_balanced := F_is_balanced, g_is_balanced := He.glo_ok X G (c.fact 55 (f := .glo "is_balanced") rfl), bd_is_balanced := FunD.bindsN (ps := p_is_balanced) F_is_balanced fun _ _ _ _ _ _ us hl => match us, hl with | [_, _], _ => rfl, fd_mirror := fd_mirror, F_mirror := F_mirror, g_mirror := He.glo_ok X G (c.fact 56 (f := .glo "mirror") rfl), bd_mirror := FunD.bindsN (ps := p_mirror) F_mirror fun _ _ _ _ _ _ us hl => match us, hl with | [_, _], _ => rfl, kb_mirror := kb_mirror F_mirror, fd__law_box := fd__law_box, F__law_box := F__law_box, g__law_box := He.glo_ok X G (c.fact 57 (f := .glo "_law_box") rfl), bd__law_box := FunD.bindsN (ps := p__law_box) F__law_box fun _ _ _ _ _ _ us hl => match us, hl with | [_, _], _ => rfl, fd__law_take := fd__law_take, F__law_take := F__law_take, g__law_take := He.glo_ok X G (c.fact 58 (f := .glo "_law_take") rfl), bd__law_take := FunD.bindsN (ps := p__law_take) F__law_take fun _ _ _ _ _ _ us hl => match us, hl with | [_, _], _ => rfl, fd__law_pick := fd__law_pick, F__law_pick := F__law_pick, g__law_pick := He.glo_ok X G (c.fact 59 (f := .glo "_law_pick") rfl), bd__law_pick := FunD.bindsN (ps := p__law_pick) F__law_pick fun _ _ _ _ _ _ us hl => match us, hl with | [_, _], _ => rfl, fd__law_same := fd__law_same, F__law_same := F__law_same, g__law_same := He.glo_ok X G (c.fact 60 (f := .glo "_law_same") rfl), bd__law_same := FunD.bindsN (ps := p__law_same) F__law_same fun _ _ _ _ _ _ us hl => match us, hl with | [_, _], _ => rfl, fd__law_number := fd__law_number, F__law_number := F__law_number, g__law_number := He.glo_ok X G (c.fact 61 (f := .glo "_law_number") rfl), bd__law_number := FunD.bindsN (ps := p__law_number) F__law_number fun _ _ _ _ _ _ us hl => match us, hl with | [_, _], _ => rfl, fd__law_ties := fd__law_ties, F__law_ties := F__law_ties, g__law_ties := He.glo_ok X G (c.fact 62 (f := .glo "_law_ties") rfl), bd__law_ties := FunD.bindsN (ps := p__law_ties) F__law_ties fun _ _ _ _ _ _ us hl => match us, hl with | [_, _, _], _ => rfl, fd__law_weights := fd__law_weights, F__law_weights := F__law_weights, g__law_weights := He.glo_ok X G (c.fact 63 (f := .glo "_law_weights") rfl), bd__law_weights := FunD.bindsN (ps := p__law_weights) F__law_weights fun _ _ _ _ _ _ us hl => match us, hl with | [_, _], _ => rfl, fd__law_past := fd__law_past, F__law_past := F__law_past, g__law_past := He.glo_ok X G (c.fact 64 (f := .glo "_law_past") rfl), bd__law_past := FunD.bindsN (ps := p__law_past) F__law_past fun _ _ _ _ _ _ us hl => match us, hl with | [_, _, _], _ => rfl, fd__law_pull := fd__law_pull, F__law_pull := F__law_pull, g__law_pull := He.glo_ok X G (c.fact 65 (f := .glo "_law_pull") rfl), bd__law_pull := FunD.bindsN (ps := p__law_pull) F__law_pull fun _ _ _ _ _ _ us hl => match us, hl with | [_, _, _], _ => rfl, fd__law_going := fd__law_going, F__law_going := F__law_going, g__law_going := He.glo_ok X G (c.fact 66 (f := .glo "_law_going") rfl), bd__law_going := FunD.bindsN (ps := p__law_going) F__law_going fun _ _ _ _ _ _ us hl => match us, hl with | [_, _, _, _], _ => rfl, fd__law_fixed := fd__law_fixed, F__law_fixed := F__law_fixed, g__law_fixed := He.glo_ok X G (c.fact 67 (f := .glo "_law_fixed") rfl), bd__law_fixed := FunD.bindsN (ps := p__law_fixed) F__law_fixed fun _ _ _ _ _ _ us hl => match us, hl with | [_, _], _ => rfl, fd__law_sums := fd__law_sums, F__law_sums := F__law_sums, g__law_sums := He.glo_ok X G (c.fact 68 (f := .glo "_law_sums") rfl), bd__law_sums := FunD.bindsN (ps := p__law_sums) F__law_sums fun _ _ _ _ _ _ us hl => match us, hl with | [_, _, _], _ => rfl, fd__law_tops := fd__law_tops, F__law_tops := F__law_tops, g__law_tops := He.glo_ok X G (c.fact 69 (f := .glo "_law_tops") rfl), bd__law_tops := FunD.bindsN (ps := p__law_tops) F__law_tops fun _ _ _ _ _ _ us hl => match us, hl with | [_, _, _], _ => rfl, fd__law_level := fd__law_level, F__law_level := F__law_level, g__law_level := He.glo_ok X G (c.fact 70 (f := .glo "_law_level") rfl), bd__law_level := FunD.bindsN (ps := p__law_level) F__law_level fun _ _ _ _ _ _ us hl => match us, hl with | [_, _, _], _ => rfl, fd__law_mirror := fd__law_mirror, F__law_mirror := F__law_mirror, g__law_mirror := He.glo_ok X G (c.fact 71 (f := .glo "_law_mirror") rfl), bd__law_mirror := FunD.bindsN (ps := p__law_mirror) F__law_mirror fun _ _ _ _ _ _ us hl => match us, hl with | [_, _], _ => rfl, fd__law_moved_right := fd__law_moved_right, F__law_moved_right := F__law_moved_right, g__law_moved_right := He.glo_ok X G (c.fact 72 (f := .glo "_law_moved_right") rfl), bd__law_moved_right := FunD.bindsN (ps := p__law_moved_right) F__law_moved_right fun _ _ _ _ _ _ us hl => match us, hl with | [_, _, _, _], _ => rfl, fd__law_right := fd__law_right, F__law_right := F__law_right, g__law_right := He.glo_ok X G (c.fact 73 (f := .glo "_law_right") rfl), bd__law_right := FunD.bindsN (ps := p__law_right) F__law_right fun _ _ _ _ _ _ us hl => match us, hl with | [_], _ => rfl, fd_law := fd_law, F_law := F_law, g_law := He.glo_ok X G (c.fact 74 (f := .glo "law") rfl) }⟩
theorem glo_law {K : PySem.W.Frag} {h : Heap} {mg : Str → Option Value} (X : K.In h) (G : h.Ns mainGlobals mg) (c : He.SaysD fa fn K) : mg "law" = some (.ref (He.fAd K ("law", none))) := He.glo_ok X G (c.fact 74 (f := .glo "law") rfl)
/-! ### what else is asked of the defaults -/
def dfB (K : PySem.W.Frag) (a : Addr) : Bool := match K.lookup a with
  | some ⟨.type c, _, .seq its _, _⟩ => decide (c = "tuple") && (decide (its.size ≤ sizeLine) && He.relAll [] its.toList)
  | _ => false
theorem dfB_ok {K : PySem.W.Frag} {a : Addr} (h : dfB K a = true) : DfE K a := by
  unfold dfB at h
  split at h
  · rename_i c dd its n sl e
    obtain ⟨h1, h2⟩ := He.ba h
    obtain ⟨h3, h4⟩ := He.ba h2
    exact ⟨_, its, n, e, congrArg Value.type (of_decide_eq_true h1), rfl, of_decide_eq_true h3, He.relAll_ok h4⟩
  · cases h
abbrev mfB (K : PySem.W.Frag) : Bool := dfB K (kwAt ("history", none) "held" K) && dfB K (kwAt ("Sway", some "__init__") "held" K)
theorem facts {h : Heap} {f : Addr} (X : K.In h) (G : h.Ns mainGlobals mg) (hfa : mg ("law" : Str) = some (.ref f)) (c : mfB K = true ∧ He.SaysD fa fn K) :
    ∃ fd : FuncData, (∀ (s : Shared) (v : Value), BindsTo s fd ⟨[v], []⟩ [("_law_script", v)]) ∧ ∀ base : Heap, K.In base → base.Ns mainGlobals mg → FnG P w K mg base 17 f fd ["_law_script"] (sp_law K) := by
  obtain ⟨T⟩ := tx_of X G c.2
  obtain ⟨m1, m2⟩ := He.ba c.1
  have e := hfa.symm.trans (glo_law X G c.2)
  cases e
  have bd := FunD.bindsA (ps := p_law) T.F_law fun _ _ _ _ _ _ us hl => match us, hl with | [_], _ => rfl
  exact ⟨T.fd_law, fun s v => bd s [v] rfl, fun base _ _ => ok_law T⟩
abbrev R : PySem.W.OpenRow := PySem.W.OpenLaw.row PySem.Challenge.rw_swayhalls_k10_whole_mirrors_of_balanced
def obX (g : Addr → Option Obj) : Bool × He.AlD := (mfB (He.frG g (He.asD g 6)), He.obsDG 6 fa fn g)
def hkX (fa : List He.Fa) (fn : List He.DefD) (ob : (Addr → Option Obj) → Bool × He.AlD) (h : ∀ g, ob g = (mfB (He.frG g (He.asD g 6)), He.obsDG 6 fa fn g)) : PySem.W.Hook where
  α := Bool × He.AlD
  obs := fun s => ob s.heap.get?
  val := fun _ => (true, He.valD fn)
  says := fun _ h => ∃ K : PySem.W.Frag, K.In h ∧ (mfB K = true ∧ He.SaysD fa fn K)
  of := fun _ _ e => ⟨_, He.frG_in, congrArg Prod.fst ((h _).symm.trans e), congrArg Prod.snd ((h _).symm.trans e)⟩
  keeps := fun _ _ _ ⟨K, hK, c⟩ k => ⟨K, PySem.W.Frag.In.keeps hK k, c⟩
abbrev hk : PySem.W.Hook := hkX fa fn obX fun _ => rfl
def ob (s : PySem.W.SharedT) : Bool × He.AlD := obX (HandSHeadRun.getT s)
theorem ob_eq (s : PySem.W.SharedT) : ob s = hk.obs s.abs := by
  have e : HandSHeadRun.getT s = s.abs.heap.get? := funext (HandSHeadRun.getT_eq s)
  show obX (HandSHeadRun.getT s) = obX s.abs.heap.get?
  rw [e]
def names : List Str := (["_wall", "BadHall", "MOST_STEPS", "MOST_WEIGHTS", "is_number", "are_numbers", "are_rows", "does_rise", "are_strings", "is_ladder", "are_steps", "is_memory", "as_tuples", "Hall", "middles", "is_balanced", "mirror", "weighed", "pulled_by", "pulls", "reached", "as_held", "grips_of", "leant"] : List Str) ++ (["history", "Sway", "_law_box", "_law_take", "_law_pick", "_law_same", "_law_number", "_law_ties", "_law_weights", "_law_past", "_law_pull", "_law_going", "_law_fixed", "_law_sums", "_law_tops", "_law_level", "_law_mirror", "_law_moved_right", "_law_right"] : List Str)

end
end Sw

set_option maxHeartbeats 0
namespace Sw
open PySem PySem.Spec PyProof.Rows L2
theorem run (w : World) : HandSHeadRun.RunEq R (PySem.W.view R.prog [49]) hk ob 20000 names w := by
  intro os
  kernel_rfl
end Sw
open PySem PySem.W PySem.Calls PyProof.Rows
theorem PySem.Challenge.cw_swayhalls_k10_whole_mirrors_of_balanced_holds : PySem.Challenge.rw_swayhalls_k10_whole_mirrors_of_balanced.Holds := by
  w_on; o_law
  refine HandSHeadRun.head_any (r := OpenLaw.row PySem.Challenge.rw_swayhalls_k10_whole_mirrors_of_balanced) (q := view (OpenLaw.row PySem.Challenge.rw_swayhalls_k10_whole_mirrors_of_balanced).prog [49]) (H := Sw.hk) (ob := Sw.ob) (M := 20000) (loose := Sw.names) (d := HandSHeadRun.topDef (OpenLaw.row PySem.Challenge.rw_swayhalls_k10_whole_mirrors_of_balanced).prog 49) (kwd := []) Sw.ob_eq
    (by kernel_rfl) (fun s => by kernel_rfl) Sw.run (by kernel_rfl) (by kernel_rfl) (by kernel_rfl) (by rfl) (by first | assumption | decide +kernel) (by decide +kernel) ⟨rfl, rfl, rfl, rfl, rfl, by decide +kernel⟩ ?hw ?hc
  case hw => w_witness2
  case hc =>
    refine Sw.walkG (l := PySem.Challenge.rw_swayhalls_k10_whole_mirrors_of_balanced) (n := 63) (k := 17) (x := "_law_script") rfl (by decide) (by kernel_rfl) ⟨rfl, by decide, by decide⟩ ?F
    intro w mg fa h Y G hmg0
    obtain ⟨K, KX, c⟩ := Y
    have hmg : mg ("law" : PySem.Str) = some (.ref fa) := by
      have e : (HandSHeadRun.topDef (OpenLaw.row PySem.Challenge.rw_swayhalls_k10_whole_mirrors_of_balanced).prog 49).name = ("law" : PySem.Str) := by kernel_rfl
      rw [← e]
      exact hmg0
    obtain ⟨fd, hb, hF⟩ := Sw.facts (P := (PySem.Challenge.rw_swayhalls_k10_whole_mirrors_of_balanced).prog) (w := w) KX G hmg c
    exact ⟨K, fd, Sw.sp_law K, KX, hb, fun H a ns hl hS => ⟨a, ns, rfl, hS, hl, fun _ => rfl⟩, hF⟩
#print axioms PySem.Challenge.cw_swayhalls_k10_whole_mirrors_of_balanced_holds
