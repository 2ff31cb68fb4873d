import PyProof.Rows.All
import Wide.All
import OpenK.AllK
import Wide.FinOn
import HandS.ForMost
import HandS.IsInst
import HandS.Flow
import HandS.Style
import HandS.Zip
import HandS.More
import HandS.Walk
import HandS.Defaults
import HandS.Head0
import HandS.Head1
import HandS.Head2
import HandS.HeadEnd
import HandS.HeadHook1
import HandS.HeadHook2
import KE.GoesMore
import KE.GoesZip
import KE.GoesEnum
import HandS.OwnEq
import HandS.FStr
import HandS.Set
import HandS.SetFor
import HandS.Strs
import HandS.Sort
import HandS.Star
import HandS.TupMul
import HandS.DictComp
import HandS.ListItems
import HandS.Words
import HandS.WordsDict
import HandS.MakeKwOnly
import HandS.TupAny
import HandS.NoneIn
import HandS.Conv
import KE.KStateDown
import PySem.Challenge.RW_swayhalls_k65_whole_they_stay_whatever_o
set_option Elab.async false
set_option linter.all false
set_option maxRecDepth 100000
set_option maxHeartbeats 2000000
namespace Sw
open PySem PySem.Spec PyProof.Rows L2
/-! ### heaps that stay but at some places -/
def Kp (bs : List Addr) (H H' : Hp) : Prop := ∀ a o, H a = some o → a ∉ bs → H' a = some o
theorem Kp.rfl' {bs : List Addr} {H : Hp} : Kp bs H H := fun _ _ h _ => h
theorem Kp.trans {bs : List Addr} {H H1 H2 : Hp} (x : Kp bs H H1) (y : Kp bs H1 H2) : Kp bs H H2 := fun a o h n => y a o (x a o h n) n
theorem Kp.sub {bs cs : List Addr} {H H' : Hp} (x : Kp bs H H') (s : ∀ a, a ∈ bs → a ∈ cs) : Kp cs H H' := fun a o h n => x a o h fun m => n (s a m)
theorem Kp.new {bs : List Addr} {H H' : Hp} {p : Addr} {o : HO} (x : Kp bs H H') (h : H' p = none) : Kp bs H (upd H' p o) := fun a o' e n => by
  have e1 := x a o' e n
  rw [upd_ne (ne_of_none e1 h)]
  exact e1
theorem Kp.put {bs : List Addr} {H H' : Hp} {p : Addr} {o : HO} (x : Kp bs H H') (h : p ∈ bs) : Kp bs H (upd H' p o) := fun a o' e n => by
  have ne : a ≠ p := fun z => n (by rw [z]; exact h)
  rw [upd_ne ne]
  exact x a o' e n
/-- a place that was free at first may change -/
theorem Kp.own {bs : List Addr} {H H' : Hp} {p : Addr} {o : HO} (x : Kp bs H H') (h : H p = none) : Kp bs H (upd H' p o) := fun a o' e n => by
  rw [upd_ne (ne_of_none e h)]
  exact x a o' e n
/-- .. by a whole step that keeps all but it -/
theorem Kp.step {bs : List Addr} {H H1 H2 : Hp} {p : Addr} (x : Kp bs H H1) (h : H p = none) (y : Kp (p :: bs) H1 H2) : Kp bs H H2 := fun a o e n =>
  y a o (x a o e n) fun m => by
    rcases List.mem_cons.mp m with z | z
    · rw [z, h] at e
      cases e
    · exact n z
theorem Kp.free {bs : List Addr} {H H' : Hp} (x : Kp bs H H') {p : Addr} (h : H' p = none) (n : p ∉ bs) : H p = none := by
  cases e : H p with
  | none => rfl
  | some o =>
    rw [x p o e n] at h
    cases h
theorem Kp.same {H H' : Hp} (x : Kp [] H H') : Same H H' := fun b o e => x b o e (by simp)
theorem Same.kp {bs : List Addr} {H H' : Hp} (x : Same H H') : Kp bs H H' := fun b o e _ => x b o e
/-! ### data of lists and tuples that lie apart from bs: at most w wide, k deep -/
mutual
inductive D (bs : List Addr) (H : Hp) (w : Nat) : Nat → V → PyData → Prop
  | non {k : Nat} : D bs H w k .non .none
  | bl {k : Nat} (b : Bool) : D bs H w k (.bl b) (.bool b)
  | int {k : Nat} (i : Int) : i.natAbs < 2 ^ 39 + w → D bs H w k (.int i) (.int i)
  | str {k : Nat} (x : Str) : (reprText x).length ≤ 20 → D bs H w k (.str x) (.str x)
  | lst {k : Nat} {a : Addr} {xs : List V} {ds : List PyData} : H a = some (.lst xs) → a ∉ bs → xs.length ≤ w → DA bs H w k xs ds → D bs H w (k + 1) (.ref a) (.list ds)
  | tup {k : Nat} {a : Addr} {xs : List V} {ds : List PyData} : H a = some (.tup xs) → a ∉ bs → xs.length ≤ w → DA bs H w k xs ds → D bs H w (k + 1) (.ref a) (.tuple ds)
inductive DA (bs : List Addr) (H : Hp) (w : Nat) : Nat → List V → List PyData → Prop
  | nil {k : Nat} : DA bs H w k [] []
  | cons {k : Nat} {v : V} {vs : List V} {d : PyData} {ds : List PyData} : D bs H w k v d → DA bs H w k vs ds → DA bs H w k (v :: vs) (d :: ds)
end
mutual
theorem D.keep {bs : List Addr} {H H' : Hp} {w : Nat} (x : Kp bs H H') : ∀ {k : Nat} {v : V} {d : PyData}, D bs H w k v d → D bs H' w k v d
  | _, _, _, .non => .non
  | _, _, _, .bl b => .bl b
  | _, _, _, .int i h => .int i h
  | _, _, _, .str y h => .str y h
  | _, _, _, .lst h n l t => .lst (x _ _ h n) n l (DA.keep x t)
  | _, _, _, .tup h n l t => .tup (x _ _ h n) n l (DA.keep x t)
theorem DA.keep {bs : List Addr} {H H' : Hp} {w : Nat} (x : Kp bs H H') : ∀ {k : Nat} {v : List V} {d : List PyData}, DA bs H w k v d → DA bs H' w k v d
  | _, _, _, .nil => .nil
  | _, _, _, .cons h t => .cons (D.keep x h) (DA.keep x t)
end
mutual
/-- other places, wider, deeper -/
theorem D.wide {bs cs : List Addr} {H : Hp} {w w' : Nat} (s : ∀ a o, H a = some o → a ∉ bs → a ∉ cs) (hw : w ≤ w') : ∀ {k k' : Nat} {v : V} {d : PyData}, k ≤ k' → D bs H w k v d → D cs H w' k' v d
  | _, _, _, _, _, .non => .non
  | _, _, _, _, _, .bl b => .bl b
  | _, _, _, _, _, .int i h => .int i (Nat.lt_of_lt_of_le h (Nat.add_le_add_left hw _))
  | _, _, _, _, _, .str y h => .str y h
  | _, k' + 1, _, _, hk, .lst h n l t => .lst h (s _ _ h n) (Nat.le_trans l hw) (DA.wide s hw (Nat.le_of_succ_le_succ hk) t)
  | _, k' + 1, _, _, hk, .tup h n l t => .tup h (s _ _ h n) (Nat.le_trans l hw) (DA.wide s hw (Nat.le_of_succ_le_succ hk) t)
theorem DA.wide {bs cs : List Addr} {H : Hp} {w w' : Nat} (s : ∀ a o, H a = some o → a ∉ bs → a ∉ cs) (hw : w ≤ w') : ∀ {k k' : Nat} {v : List V} {d : List PyData}, k ≤ k' → DA bs H w k v d → DA cs H w' k' v d
  | _, _, _, _, _, .nil => .nil
  | _, _, _, _, hk, .cons h t => .cons (D.wide s hw hk h) (DA.wide s hw hk t)
end
section
variable {bs : List Addr} {H : Hp} {w k : Nat} {v : V} {d : PyData}
theorem apart_new {l : Addr} (h : H l = none) : ∀ a o, H a = some o → a ∉ bs → a ∉ l :: bs := fun a o e n m => by
  rcases List.mem_cons.mp m with z | z
  · rw [z, h] at e
    cases e
  · exact n z
theorem apart_less {cs : List Addr} (s : ∀ a, a ∈ cs → a ∈ bs) : ∀ a o, H a = some o → a ∉ bs → a ∉ cs := fun a o _ n m => n (s a m)
theorem D.fresh {l : Addr} (x : D bs H w k v d) (h : H l = none) : D (l :: bs) H w k v d := x.wide (apart_new h) (Nat.le_refl _) (Nat.le_refl _)
theorem DA.fresh {l : Addr} {vs : List V} {ds : List PyData} (x : DA bs H w k vs ds) (h : H l = none) : DA (l :: bs) H w k vs ds := x.wide (apart_new h) (Nat.le_refl _) (Nat.le_refl _)
theorem D.less {cs : List Addr} (x : D bs H w k v d) (s : ∀ a, a ∈ cs → a ∈ bs) : D cs H w k v d := x.wide (apart_less s) (Nat.le_refl _) (Nat.le_refl _)
theorem DA.less {cs : List Addr} {vs : List V} {ds : List PyData} (x : DA bs H w k vs ds) (s : ∀ a, a ∈ cs → a ∈ bs) : DA cs H w k vs ds := x.wide (apart_less s) (Nat.le_refl _) (Nat.le_refl _)
theorem D.up {w' k' : Nat} (x : D bs H w k v d) (hw : w ≤ w') (hk : k ≤ k') : D bs H w' k' v d := x.wide (fun _ _ _ n => n) hw hk
theorem DA.up {w' k' : Nat} {vs : List V} {ds : List PyData} (x : DA bs H w k vs ds) (hw : w ≤ w') (hk : k ≤ k') : DA bs H w' k' vs ds := x.wide (fun _ _ _ n => n) hw hk
end
theorem DA.len {bs : List Addr} {H : Hp} {w k : Nat} : ∀ {vs : List V} {ds : List PyData}, DA bs H w k vs ds → vs.length = ds.length
  | _, _, .nil => rfl
  | _, _, .cons _ t => congrArg Nat.succ (DA.len t)
theorem DA.get {bs : List Addr} {H : Hp} {w k : Nat} : ∀ {vs : List V} {ds : List PyData} {i : Nat} {v : V}, DA bs H w k vs ds → vs[i]? = some v → ∃ d, ds[i]? = some d ∧ D bs H w k v d
  | _, _, i, _, .nil, e => by simp at e
  | _, _, 0, _, .cons h _, e => ⟨_, rfl, by cases (Option.some.inj e); exact h⟩
  | _, _, i + 1, _, .cons _ t, e => DA.get (i := i) t e
theorem DA.app {bs : List Addr} {H : Hp} {w k : Nat} {us : List V} {es : List PyData} : ∀ {vs : List V} {ds : List PyData}, DA bs H w k vs ds → DA bs H w k us es → DA bs H w k (vs ++ us) (ds ++ es)
  | _, _, .nil, y => y
  | _, _, .cons h t, y => .cons h (DA.app t y)
theorem DA.one {bs : List Addr} {H : Hp} {w k : Nat} {v : V} {d : PyData} (h : D bs H w k v d) : DA bs H w k [v] [d] := .cons h .nil
/-- all items are data of some kind -/
theorem DA.any {bs : List Addr} {H : Hp} {w k : Nat} : ∀ {vs : List V}, (∀ v ∈ vs, ∃ d, D bs H w k v d) → ∃ ds, DA bs H w k vs ds
  | [], _ => ⟨[], .nil⟩
  | v :: vs, h => by
    obtain ⟨d, hd⟩ := h v (List.mem_cons_self ..)
    obtain ⟨ds, hs⟩ := DA.any (vs := vs) fun u hu => h u (List.mem_cons_of_mem _ hu)
    exact ⟨d :: ds, .cons hd hs⟩
theorem DA.mem {bs : List Addr} {H : Hp} {w k : Nat} {vs : List V} {ds : List PyData} (x : DA bs H w k vs ds) : ∀ v ∈ vs, ∃ d, D bs H w k v d := fun v hv => by
  obtain ⟨i, hi, e⟩ := List.getElem_of_mem hv
  obtain ⟨d, _, h⟩ := x.get (i := i) (v := v) (by rw [List.getElem?_eq_getElem hi, e])
  exact ⟨d, h⟩
theorem DA.ints {bs : List Addr} {H : Hp} {w k : Nat} : ∀ {ns : List Int} {vs : List V}, DA bs H w k vs (ns.map PyData.int) → vs = ns.map V.int
  | [], _, .nil => rfl
  | n :: ns, _, .cons h t => by
    cases h
    rw [DA.ints t]
    rfl
theorem DA.ofInts {bs : List Addr} {H : Hp} {w k : Nat} : ∀ {ns : List Int}, (∀ n ∈ ns, n.natAbs < 2 ^ 39 + w) → DA bs H w k (ns.map V.int) (ns.map PyData.int)
  | [], _ => .nil
  | n :: ns, h => .cons (.int n (h n (List.mem_cons_self ..))) (DA.ofInts fun m hm => h m (List.mem_cons_of_mem _ hm))
/-! ### as the layer's data -/
mutual
theorem D.dp {K : PySem.W.Frag} {bs : List Addr} {H : Hp} {w : Nat} : ∀ {k : Nat} {v : V} {d : PyData}, D bs H w k v d → Dp K H v d
  | _, _, _, .non => .non
  | _, _, _, .bl b => .bl b
  | _, _, _, .int i _ => .int i
  | _, _, _, .str y _ => .str y
  | _, _, _, .lst h _ _ t => .lst (SqL.of h) (DA.dp t)
  | _, _, _, .tup h _ _ t => .tup (SqT.of h) (DA.dp t)
theorem DA.dp {K : PySem.W.Frag} {bs : List Addr} {H : Hp} {w : Nat} : ∀ {k : Nat} {v : List V} {d : List PyData}, DA bs H w k v d → DpAll K H v d
  | _, _, _, .nil => .nil
  | _, _, _, .cons h t => .cons (D.dp h) (DA.dp t)
end
/-! ### kinds -/
def kindOf : PyData → String
  | .none => "NoneType"
  | .bool _ => "bool"
  | .int _ => "int"
  | .str _ => "str"
  | .list _ => "list"
  | .tuple _ => "tuple"
  | _ => "dict"
def isK (n : String) (d : PyData) : Bool := (kitB (kindOf d) n).getD false
theorem D.tyx {K : PySem.W.Frag} {bs : List Addr} {H : Hp} {w k : Nat} {v : V} {d : PyData} (x : D bs H w k v d) : TyX K H v (.type (kindOf d)) := by
  cases x with
  | non => exact .base .non
  | bl b => exact .base (.bl b)
  | int i h => exact .base (.int i)
  | str y h => exact .base (.str y)
  | lst h n l t => exact .base (.lst h)
  | tup h n l t => exact .base (.tup h)
def isSeq (d : PyData) : Bool := match d with
  | .list _ => true
  | .tuple _ => true
  | _ => false
def isLst (d : PyData) : Bool := match d with
  | .list _ => true
  | _ => false
def isTup (d : PyData) : Bool := match d with
  | .tuple _ => true
  | _ => false
def isStr (d : PyData) : Bool := match d with
  | .str _ => true
  | _ => false
def isInt (d : PyData) : Bool := match d with
  | .int _ => true
  | .bool _ => true
  | _ => false
def isBool (d : PyData) : Bool := match d with
  | .bool _ => true
  | _ => false
theorem D.kit {K : PySem.W.Frag} {bs : List Addr} {H : Hp} {w k : Nat} {v : V} {d : PyData} (x : D bs H w k v d) :
    PySem.W.kitOne K (.type (kindOf d)) (.type "list") = some (isLst d) ∧ PySem.W.kitOne K (.type (kindOf d)) (.type "tuple") = some (isTup d) ∧ PySem.W.kitOne K (.type (kindOf d)) (.type "str") = some (isStr d) ∧
    PySem.W.kitOne K (.type (kindOf d)) (.type "int") = some (isInt d) ∧ PySem.W.kitOne K (.type (kindOf d)) (.type "bool") = some (isBool d) := by
  cases x <;> refine ⟨kit_ty ?_, kit_ty ?_, kit_ty ?_, kit_ty ?_, kit_ty ?_⟩ <;> simp only [kindOf, isLst, isTup, isStr, isInt, isBool] <;> decide +kernel
section
variable {K : PySem.W.Frag} {bs : List Addr} {H : Hp} {w k : Nat} {v : V} {d : PyData} {Q : VK}
theorem D.kL (x : D bs H w k v d) : PySem.W.kitOne K (.type (kindOf d)) (.type "list") = some (isLst d) := x.kit.1
theorem D.kT (x : D bs H w k v d) : PySem.W.kitOne K (.type (kindOf d)) (.type "tuple") = some (isTup d) := x.kit.2.1
theorem D.kS (x : D bs H w k v d) : PySem.W.kitOne K (.type (kindOf d)) (.type "str") = some (isStr d) := x.kit.2.2.1
theorem D.kI (x : D bs H w k v d) : PySem.W.kitOne K (.type (kindOf d)) (.type "int") = some (isInt d) := x.kit.2.2.2.1
theorem D.kB (x : D bs H w k v d) : PySem.W.kitOne K (.type (kindOf d)) (.type "bool") = some (isBool d) := x.kit.2.2.2.2
theorem D.kQ (x : D bs H w k v d) : PySem.W.kitAny K (.type (kindOf d)) [.type "list", .type "tuple"] = some (isSeq d) := by
  have h := x.kit (K := K)
  refine kitAny_cons h.1 (fun e => kitAny_cons h.2.1 (fun _ => ?_) fun e2 => ?_) fun e => ?_
  · rw [kitAny_nil]
    cases x <;> first | rfl | cases e | skip
    all_goals simp_all [Sw.isTup, Sw.isSeq]
  · cases x <;> first | rfl | cases e2
  · cases x <;> first | rfl | cases e
theorem tyLT : Paired ClsV [.ty "list", .ty "tuple"] [.type "list", .type "tuple"] := .cons (.ty _) (.cons (.ty _) .nil)
/-- len of it -/
def lenOf (d : PyData) : Nat := match d with
  | .list ds => ds.length
  | .tuple ds => ds.length
  | _ => 0
theorem D.lenV (x : D bs H w k v d) (s : Sw.isSeq d = true) : LenV K v H (lenOf d) := by
  cases x with
  | lst h n l t => exact .inl ⟨_, SqL.of h, (DA.len t).symm⟩
  | tup h n l t => exact .inr ⟨_, SqT.of h, (DA.len t).symm⟩
  | _ => cases s
end
/-! ### what's drawn from -/
structure Bx (H : Hp) (b : Addr) (n : Nat) : Prop where
  ex : ∃ x y z : Int, H b = some (.lst [.int x, .int y, .int z]) ∧ 0 ≤ x ∧ 0 ≤ y ∧ y < 2 ^ 33 ∧ 0 ≤ z ∧ z ≤ n
theorem Bx.keep {H H' : Hp} {b : Addr} {n : Nat} {bs : List Addr} (x : Bx H b n) (s : Kp bs H H') (h : b ∉ bs) : Bx H' b n := by
  obtain ⟨p, q, r, e, t⟩ := x.ex
  exact ⟨p, q, r, s _ _ e h, t⟩
theorem Bx.up {H : Hp} {b : Addr} {n m : Nat} (x : Bx H b n) (h : n ≤ m) : Bx H b m := by
  obtain ⟨p, q, r, e, h1, h2, h3, h4, h5⟩ := x.ex
  exact ⟨p, q, r, e, h1, h2, h3, h4, by omega⟩
end Sw

set_option maxHeartbeats 2000000
namespace Sw
open PySem PySem.Spec PyProof.Rows L2
/-! ### defs that are called where no repr is under way -/
structure FnG (P : Program) (w : World) (K : PySem.W.Frag) (mg : Str → Option Value) (base : Heap) (k : Nat) (f : Addr) (fd : FuncData) (ps : List Str) (sp : Sp) : Prop where
  lenG : ∀ vs H Q E, sp vs H Q E → vs.length = ps.length
  runG : ∀ (A : Around) (outer : List Env) (s : Shared) (H : Hp) (args : Args) (us : List Value) (vs : List V) (Q : VK) (E : XK), A.guards = some [] → Room k A → Env0 P w K mg base A outer s H → BindsTo s fd args (ps.zip us) → Vals vs us → sp vs H Q E →
    codeAny (model P w) A (.call (.ref f) args) (CR CX0 outer P w H s Q E) s
section
variable {P : Program} {w : World} {K : PySem.W.Frag} {mg : Str → Option Value} {base : Heap}
theorem okG {x qual : Str} {params : Arguments} {body : List Stmt} {scope : Scope} {dvs : List V} {kws : List (Str × V)} {f : Addr} {fd : FuncData} {N ps : List Str} {k : Nat} {sp : Sp} (F : FunD K x qual params body scope dvs kws f fd) (S : FnScope N ps scope)
    (len : ∀ vs H Q E, sp vs H Q E → vs.length = ps.length)
    (hb0 : ∀ (cdv : Value) (A : Around) (outer : List Env) (s : Shared) (H : Hp) (vs : List V) (Q : VK) (E : XK), A.guards = some [] → Room k (A.deeper (envOfC qual scope s.heap.objs.size f cdv)) → sp vs H Q E →
      ∃ t, PSs (cxOf CX0 P w K mg base N qual scope f cdv A outer s H E) body t ∧ t { nx := fun _ H' => Q .non H', rt := Q } (start N vs) H) : FnG P w K mg base (k + 1) f fd ps sp := by
  obtain ⟨oc, od, dV, kV, doc, pm, an, cdv, ct, osl, rfl, lk, hcd, _, _⟩ := F.ex
  refine ⟨len, ?_⟩
  intro A outer s H args us vs Q E hG hr e0 hb r hsp
  have kin : K.In s.heap := e0.mod.kin.keeps (fun c u z => (e0.bs c u z).1)
  have nol : s.heap.NoLimit := e0.mod.nolimit.keeps (fun c u z => (e0.bs c u z).1)
  refine codeAny_call_function hr.depth (kin _ _ lk) rfl S.co S.gen rfl (PySem.W.codeRec_of kin hcd) (hb _ _ _ _ (wpAny_newFunctionEnv_cells S.kind ?_ fun env he s1 z => ?_))
  · rintro ⟨n, v⟩ hy
    exact (S.par n (List.of_mem_zip hy).1).elim (fun c => .inl c) fun c => .inr ⟨c, PySem.W.cellsFrom_some _ _ _ (.inl c)⟩
  · subst he
    obtain ⟨t, ht, hq⟩ := hb0 cdv A outer s H vs Q E hG (hr.deeper _) hsp
    have I0 : Inv (cxOf CX0 P w K mg base N qual scope f cdv A outer s H E) [] (start N vs) H s1 := inv_start S hr.hd e0 (len _ _ _ _ hsp) r z
    refine ⟨nol.keeps z.toInCall.keep, codeAny_func (wpAny_mono (ht.run [] s1 (start N vs) H _ I0 hq) (fun fl s' hs => ?_) fun e s' hs => hs)⟩
    match fl, hs with
    | .ret u, ⟨v, σ', H', J, rv, q⟩ => exact ⟨v, H', J.os, J.bare, J.base, J.hok, rv, q⟩
    | .next, ⟨σ', H', J, q⟩ => exact ⟨V.non, H', J.os, J.bare, J.base, J.hok, rfl, q⟩
    | .brk, ⟨_, _, _, q⟩ => exact q.elim
    | .cont, ⟨_, _, _, q⟩ => exact q.elim
end
section
variable {X : Cx} {k : Nat} {f : Addr} {fd : FuncData} {ps : List Str} {sp : Sp} {x : Str} {p pos : Pos} {e : Expr} {es : List Expr} {t : TA}
theorem pe_callG (F : FnG X.prog X.w X.K X.mg X.base k f fd ps sp) (hG : X.A.guards = some []) (hr : Room k X.A) (hg : Gl X x) (hm : X.mg x = some (.ref f)) (hk : PySem.W.keepIn X.K (.ref f) = true) (hb : Binds X.K fd ps [])
    (ha : PA X (e :: es) t) (hdb : (x == ("__debug__" : Str)) = false := by decide) (he : starEach (e :: es) X.env = (false, eval e X.env) :: starEach es X.env := by rfl) (hpl : (backTo pos (starEach es X.env)).any (·.1) = false := by rfl) :
    PE X (.Call (.Name x p) (e :: es) [] pos) (tCall sp [] E0 t) := by
  refine ⟨fun pins s σ H Q I h => wpAny_Call_Name_kw (ld_glob I hg hm ?_ hdb)⟩
  refine PySem.W.callWith_K (h₀ := X.base) I.ok.mod.kin hk (thn (ha.run pos pins s σ H _ I h) fun us s1 ⟨vs, H1, I1, r, q⟩ => ⟨I1.kIn, ?_⟩) he hpl
  have r2 : Vals (vs ++ []) (us ++ []) := r.append .nil
  have hl : (us ++ []).length = ps.length := by
    rw [← r2.length]
    exact F.lenG _ _ _ _ q
  refine wpAny_call (codeAny_mono (F.runG X.A X.stack s1 H1 ⟨us, []⟩ (us ++ []) (vs ++ []) Q E0 hG hr I1.env0 (hb s1 us I1.kIn hl) r2 q) fun z s' hq => ?_)
  match z, hq with
  | .ok (.ret u), hq => exact I1.after hq
end
/-! ### the law's end -/
theorem lawG {P : Program} {w : World} {K : PySem.W.Frag} {mg mb : Str → Option Value} {k : Nat} {fa a : Addr} {fd : FuncData} {x : Str} {sp : Sp} {s1 : Shared} {vs : List Value} {ns : List Int}
    (kin : K.In s1.heap) (hns : s1.heap.Ns mainGlobals mg) (hbn : s1.heap.Ns builtinsNs mb) (hbb : ∀ x : Str, x ≠ "__name__" → mb x = bootBuiltins x) (hlim : s1.heap.NoLimit) (hg : s1.gens = #[])
    (ha : s1.heap.get? a = some { cls := .type "list", data := .seq vs.toArray }) (hi : IntsAre vs ns) (hl : ns.length ≤ sizeLine) (hr : Room k callerA)
    (F : ∀ base : Heap, K.In base → base.Ns mainGlobals mg → FnG P w K mg base k fa fd [x] sp) (hbind : ∀ (s : Shared) (u : Value), BindsTo s fd ⟨[u], []⟩ [(x, u)])
    (hsp : ∀ H : Hp, Only H → SqL K H a (ns.map V.int) → sp [.ref a] H (fun v _ => v = .bl true) fun _ _ _ => False) :
    codeAny (model P w) callerA (.call (.ref fa) ⟨[.ref a], []⟩) (fun r s' => r = .ok (.ret (.bool true)) ∧ OldK s1.heap s'.heap ∧ s'.os = s1.os ∧ AllBare s'.gens) s1 := by
  have lv : vs.length = ns.length := hi.length
  have go : ∀ H : Hp, Only H → SqL K H a (ns.map V.int) → HOk P w H s1.heap → (∀ b, H b ≠ none → b = a ∧ K.lookup a = none) →
      codeAny (model P w) callerA (.call (.ref fa) ⟨[.ref a], []⟩) (fun r s' => r = .ok (.ret (.bool true)) ∧ OldK s1.heap s'.heap ∧ s'.os = s1.os ∧ AllBare s'.gens) s1 := by
    intro H hO hS hok hA
    have noD : ∀ {b : Addr} {m : Str → Option Value}, s1.heap.Ns b m → (hidT s1.heap H).Ns b m := by
      rintro b m ⟨o, es, ep, e, d, r⟩
      refine ⟨o, es, ep, hidT_get e ?_, d, r⟩
      cases z : H b with
      | none => rfl
      | some u =>
        obtain ⟨rfl, _⟩ := hA b (by rw [z]; exact fun y => nomatch y)
        rw [ha] at e
        cases e
        exact nomatch (show Data.seq vs.toArray _ = Data.dict es ep from d)
    have kb : K.In (hidT s1.heap H) := by
      intro b o e
      refine hidT_get (kin b o e) ?_
      cases z : H b with
      | none => rfl
      | some u =>
        obtain ⟨rfl, y⟩ := hA b (by rw [z]; exact fun y => nomatch y)
        rw [y] at e
        cases e
    obtain ⟨mc, l1, l2⟩ := hlim
    have e0 : Env0 P w K mg (hidT s1.heap H) callerA [] s1 H := ⟨rfl, ⟨kb, noD hns, ⟨mb, noD hbn, hbb⟩, mc, noD l1, l2⟩, fun b o e => of_hidT e, Nat.le_of_eq (hidT_size _ _), trivial, (fun b hb => absurd (show b ∈ ([] : List Addr) from hb) List.not_mem_nil), hok, AllBare.of_eq hg⟩
    refine codeAny_mono ((F _ kb (noD hns)).runG callerA [] s1 H ⟨[.ref a], []⟩ [.ref a] [.ref a] _ _ rfl hr e0 (hbind s1 (.ref a)) (.cons rfl .nil) (hsp H hO hS)) fun r s' h => ?_
    match r, h with
    | .ok (.ret u), ⟨v, H', os, bare, un, hok', r', q⟩ =>
      obtain rfl : v = .bl true := q
      obtain rfl : u = Value.bool true := r'
      refine ⟨rfl, OldK.of_keep fun b o e => ?_, os, bare⟩
      cases z : H b with
      | none => exact un.keep b o e z (fun y => absurd (show b ∈ ([] : List Addr) from y) List.not_mem_nil) (by simp)
      | some u =>
        rcases hO b with y | ⟨ob, xs, y⟩
        · rw [z] at y
          cases y
        · obtain ⟨e1, _⟩ := hok b _ y
          obtain ⟨e2, _⟩ := hok' b _ (un.frzs b ob _ y)
          rw [e] at e1
          cases e1
          exact e2
  cases hk : K.lookup a with
  | some o =>
    have e := kin a o hk
    rw [ha] at e
    cases e
    exact go (fun _ => none) (fun _ => .inl rfl) (.inr ⟨_, vs.toArray, _, hk, rfl, rfl, rfl, by rw [List.size_toArray, lv]; exact hl, by simpa using vals_ints hi⟩) (fun b u z => nomatch (show (none : Option HO) = some u from z)) (fun b z => absurd rfl z)
  | none =>
    have at0 : ∀ b, (if b = a then some (HO.frz { cls := .type "list", data := .seq vs.toArray } (.lst (ns.map V.int))) else none) ≠ none → b = a := fun b z => by
      by_cases hb : b = a
      · exact hb
      · exact absurd (if_neg hb) z
    refine go (fun b => if b = a then some (HO.frz { cls := .type "list", data := .seq vs.toArray } (.lst (ns.map V.int))) else none) (fun b => ?_) (.inl (.inr ⟨{ cls := .type "list", data := .seq vs.toArray }, if_pos rfl⟩)) (fun b u z => ?_) (fun b z => ⟨at0 b z, hk⟩)
    · by_cases hb : b = a
      · exact .inr ⟨_, _, if_pos hb⟩
      · exact .inl (if_neg hb)
    · have hb := at0 b (fun y => by cases y.symm.trans z)
      subst hb
      cases (if_pos rfl).symm.trans z
      exact ⟨ha, by rw [List.length_map]; exact hl, vs, _, vals_ints hi, ha⟩
theorem walkG {l : PySem.W.OpenLaw} {n k : Nat} {q : Program} {loose : List Str} {XP : (Str → Option Value) → Heap → Prop} {YP : World → Heap → Prop} {d : DefRec} {x : Str}
    (hn : l.most = some n) (hn2 : n ≤ sizeLine) (hdf : d.params.defaults = []) (hr : Room k callerA)
    (F : ∀ (w : World) (mg : Str → Option Value) (fa : Addr) (h : Heap), YP w h → h.Ns mainGlobals mg → mg d.name = some (.ref fa) →
      ∃ (K : PySem.W.Frag) (fd : FuncData) (sp : Sp), K.In h ∧ (∀ (s : Shared) (u : Value), BindsTo s fd ⟨[u], []⟩ [(x, u)]) ∧
        (∀ (H : Hp) (a : Addr) (ns : List Int), ns.length ≤ n → SqL K H a (ns.map V.int) → sp [.ref a] H (fun v _ => v = .bl true) fun _ _ _ => False) ∧
        ∀ base : Heap, K.In base → base.Ns mainGlobals mg → FnG l.prog w K mg base k fa fd [x] sp) :
    PySem.W.WalkO q loose XP YP l.row.toRowW d [] (fun f vs => PySem.call f vs) := by
  refine Att.attach_call hn hdf ?_
  intro w s0 s1 mg mb fa o pm cd doc a vs ns G Y ho hd hcd hmg hobj hints hlen hg
  obtain ⟨K, fd, sp, kin, hb, hsp, hF⟩ := F w mg fa _ Y G.T.g hmg
  exact lawG kin G.T.g G.T.b G.T.builtins G.T.nolimit hg hobj hints (Nat.le_trans hlen hn2) hr hF hb fun H _ hS => hsp H a ns hlen hS
/-! ### repr of data -/
def rReprD (K : PySem.W.Frag) : List V → Hp → VK → Prop := fun xs H Q => ∃ v d, xs = [v] ∧ Dp K H v d ∧ d.showable = true ∧ d.hasDict = false ∧ d.depth ≤ 60 ∧ d.shown.length ≤ sizeLine ∧ Q (.str d.shown) H
theorem call_reprD {X : Cx} {k : Nat} (hr : Room k X.A) (hG : X.A.guards = some []) : CallR X (.builtin "repr") (rReprD X.K) := by
  intro pins s σ H xs us Q I r h
  obtain ⟨v, d, rfl, hd, h1, h2, h3, h4, q⟩ := h
  obtain ⟨u, rfl, ru⟩ := vals1 r
  obtain ⟨as, rd⟩ := Dp.reads I d v u hd ru
  have hu : X.A.units + (d.depth + 1) < cLine := by
    have z := hr.un
    omega
  have out : ∀ tk : Nat, EP X pins σ Q (.str d.shown s.toks) { s with toks := tk } := fun tk => ⟨.str _, H, I.tok _, ⟨_, rfl⟩, q⟩
  cases rd with
  | none => exact PySem.P.repr_of_none (by simpa only [PyData.shown] using out _)
  | bool b => exact PySem.P.repr_of_bool (by simpa only [PyData.shown] using out _)
  | int i t => exact PySem.P.repr_of_int (by simpa [PyData.showable] using h1) (by simpa only [PyData.shown] using out _)
  | str x t => exact PySem.P.repr_of_str (by simpa only [PyData.shown] using out _) (by simpa only [PyData.shown] using h4)
  | list e1 e2 e3 e4 => exact repr_of_reads' (.list e1 e2 e3 e4) h1 (PyData.noDict_hsm h2) hG hu (fun _ _ e => e) (fun h' u tk hk => ⟨.str _, H, I.kept hk, ⟨_, rfl⟩, q⟩) h4
  | tuple e1 e2 e3 e4 => exact repr_of_reads' (.tuple e1 e2 e3 e4) h1 (PyData.noDict_hsm h2) hG hu (fun _ _ e => e) (fun h' u tk hk => ⟨.str _, H, I.kept hk, ⟨_, rfl⟩, q⟩) h4
  | dict e1 e2 e3 e4 e5 => simp [PyData.hasDict] at h2
/-! ### how long a text of data is -/
def szL (w : Nat) : Nat → Nat
  | 0 => 48
  | k + 1 => 48 + w * (szL w k + 2)
theorem szL_le (w : Nat) : ∀ k, 48 ≤ szL w k
  | 0 => Nat.le_refl _
  | k + 1 => Nat.le_add_right _ _
theorem piled_le {m : Nat} : ∀ {ts : List Str}, (∀ t ∈ ts, t.length ≤ m) → piled ts ≤ ts.length * (m + 2)
  | [], _ => by simp [piled_nil]
  | t :: ts, h => by
    have h1 := h t (List.mem_cons_self ..)
    have h2 := piled_le (m := m) (ts := ts) fun u hu => h u (List.mem_cons_of_mem _ hu)
    rw [piled_cons, List.length_cons, Nat.succ_mul]
    omega
theorem listText_le {m : Nat} {ts : List Str} (h : ∀ t ∈ ts, t.length ≤ m) : (listText ts).length ≤ 40 + ts.length * (m + 2) := by
  have h1 := piled_le h
  rw [listText_eq_join]
  cases ts with
  | nil => exact Nat.le_trans (by decide) (Nat.le_add_right 40 _)
  | cons t ts =>
    have h2 := join_length_add (t :: ts) (fun z => nomatch z)
    have e : ((("[" : String) : Str) ++ Str.join ", " (t :: ts) ++ (("]" : String) : Str)).length = 1 + (Str.join ", " (t :: ts)).length + 1 := by
      rw [strLen_append, strLen_append]
      rfl
    omega
theorem tupleText_le {m : Nat} {ts : List Str} (h : ∀ t ∈ ts, t.length ≤ m) : (tupleText ts).length ≤ 40 + ts.length * (m + 2) := by
  have h1 := piled_le h
  unfold tupleText
  cases ts with
  | nil => exact Nat.le_trans (by decide) (Nat.le_add_right 40 _)
  | cons t ts =>
    have h2 := join_length_add (t :: ts) (fun z => nomatch z)
    rw [strLen_append, strLen_append]
    have e1 : (("(" : String) : Str).length = 1 := rfl
    have e2 : ((if (t :: ts).length == 1 then ",)" else ")" : String) : Str).length ≤ 2 := by split <;> decide
    omega
theorem shownAll_len : ∀ ds : List PyData, (PyData.shownAll ds).length = ds.length
  | [] => by simp [PyData.shownAll]
  | d :: ds => by simp [PyData.shownAll, shownAll_len ds]
theorem log40 {i : Int} (h : i.natAbs < 2 ^ 40) : i.natAbs.log2 < 41 := by
  by_cases z : i.natAbs = 0
  · rw [z]; decide
  · have := (Nat.log2_lt z).mpr h
    omega
mutual
theorem D.show {bs : List Addr} {H : Hp} {w : Nat} (hw : w ≤ 1000000) : ∀ {k : Nat} {v : V} {d : PyData}, D bs H w k v d → d.showable = true ∧ d.hasDict = false ∧ d.depth ≤ k ∧ d.shown.length ≤ szL w k
  | k, _, _, .non => by
    have := szL_le w k
    refine ⟨by simp [PyData.showable], by simp [PyData.hasDict], by simp [PyData.depth], ?_⟩
    simp only [PyData.shown]
    exact Nat.le_trans (by decide) this
  | k, _, _, .bl b => by
    have := szL_le w k
    refine ⟨by simp [PyData.showable], by simp [PyData.hasDict], by simp [PyData.depth], ?_⟩
    simp only [PyData.shown]
    exact Nat.le_trans (by cases b <;> decide) this
  | k, _, _, .int i h => by
    have := szL_le w k
    have z := log40 (i := i) (by omega)
    have y := int_text_length_le (k := 41) (by decide) z
    refine ⟨by simp only [PyData.showable, decide_eq_true_eq]; omega, by simp [PyData.hasDict], by simp [PyData.depth], ?_⟩
    simp only [PyData.shown]
    rw [PySem.ofString_length]
    omega
  | k, _, _, .str x h => by
    have := szL_le w k
    refine ⟨by simp [PyData.showable], by simp [PyData.hasDict], by simp [PyData.depth], ?_⟩
    simp only [PyData.shown]
    omega
  | k + 1, _, _, .lst (ds := ds) h n l t => by
    obtain ⟨a1, a2, a3, a4⟩ := DA.show hw t
    refine ⟨by simpa [PyData.showable] using a1, by simpa [PyData.hasDict] using a2, by simp only [PyData.depth]; omega, ?_⟩
    simp only [PyData.shown]
    have z := listText_le a4
    rw [shownAll_len, ← DA.len t] at z
    have y := Nat.mul_le_mul_right (szL w k + 2) l
    simp only [szL]
    omega
  | k + 1, _, _, .tup (ds := ds) h n l t => by
    obtain ⟨a1, a2, a3, a4⟩ := DA.show hw t
    refine ⟨by simpa [PyData.showable] using a1, by simpa [PyData.hasDict] using a2, by simp only [PyData.depth]; omega, ?_⟩
    simp only [PyData.shown]
    have z := tupleText_le a4
    rw [shownAll_len, ← DA.len t] at z
    have y := Nat.mul_le_mul_right (szL w k + 2) l
    simp only [szL]
    omega
theorem DA.show {bs : List Addr} {H : Hp} {w : Nat} (hw : w ≤ 1000000) : ∀ {k : Nat} {v : List V} {d : List PyData}, DA bs H w k v d → PyData.showableAll d = true ∧ PyData.hasDictAll d = false ∧ PyData.depthAll d ≤ k ∧ ∀ t ∈ PyData.shownAll d, t.length ≤ szL w k
  | k, _, _, .nil => ⟨by simp [PyData.showableAll], by simp [PyData.hasDictAll], by simp [PyData.depthAll], by simp [PyData.shownAll]⟩
  | k, _, _, .cons h t => by
    obtain ⟨a1, a2, a3, a4⟩ := D.show hw h
    obtain ⟨b1, b2, b3, b4⟩ := DA.show hw t
    refine ⟨by simp [PyData.showableAll, a1, b1], by simp [PyData.hasDictAll, a2, b2], by simp only [PyData.depthAll]; omega, ?_⟩
    intro u hu
    simp only [PyData.shownAll] at hu
    rcases List.mem_cons.mp hu with z | z
    · rw [z]; exact a4
    · exact b4 u z
end
theorem D.repr {K : PySem.W.Frag} {bs : List Addr} {H : Hp} {w k : Nat} {v : V} {d : PyData} {Q : VK} (x : D bs H w k v d) (hk : k ≤ 60) (hw : szL w k ≤ 16777216) (hw2 : w ≤ 1000000) (q : Q (.str d.shown) H) : rReprD K [v] H Q := by
  obtain ⟨a1, a2, a3, a4⟩ := x.show hw2
  exact ⟨v, d, rfl, x.dp, a1, a2, Nat.le_trans a3 hk, by rw [sizeLine_eq]; omega, q⟩
/-! ### a call by keywords alone; a walk over a list or a tuple -/
section
variable {X : Cx} {CX : CXT} {k n : Nat} {f : Addr} {fd : FuncData} {ps ks : List Str} {sp : Sp} {E : XK} {x : Str} {p pos : Pos} {kws : List Keyword} {tk : TA} {g : List Value → List Value → List Value} {gV : List V → List V → List V}
theorem pe_callK0 (F : FnOk X.prog X.w X.K X.mg X.base CX k f fd ps sp) (hr : Room k X.A) (hg : Gl X x) (hm : X.mg x = some (.ref f)) (hk : PySem.W.keepIn X.K (.ref f) = true) (hb : KBn X.K fd ps 0 ks g gV) (hx : Passes CX X E)
    (hkw : PK X kws tk) (hall : (backToKw pos (keywordEach kws X.env)).all (·.1.isSome) = true := by rfl) (hks : (backToKw pos (keywordEach kws X.env)).filterMap (·.1) = ks := by rfl)
    (hdb : (x == ("__debug__" : Str)) = false := by decide) (hpl : ((backTo pos (starEach [] X.env)).any (·.1) || (backToKw pos (keywordEach kws X.env)).any (·.1.isNone)) = false := by rfl) :
    PE X (.Call (.Name x p) [] kws pos) (tCallN 0 ks.length sp gV E tNil tk) := by
  refine ⟨fun pins s σ H Q I h => wpAny_Call_Name_kw (ld_glob I hg hm ?_ hdb)⟩
  refine PySem.W.callWith_KW0 (h₀ := X.base) I.ok.mod.kin hk hall (thn (hkw.run pos pins s σ H _ I h) fun ws s2 ⟨zs, H2, I2, rz, l1, l2, q2⟩ => ⟨I2.kIn, ?_⟩) hpl
  rw [hks]
  exact run_fnN (us := []) F hr hb hx I2 .nil rz l1 l2 q2
end
def sw2 {α : Type} : List α → List α
  | [a, b] => [b, a]
  | _ => []
theorem sw2_rel : ∀ {zs : List V} {ws : List Value}, Vals zs ws → Vals (sw2 zs) (sw2 ws)
  | _, _, .nil => .nil
  | _, _, .cons _ .nil => .nil
  | _, _, .cons a (.cons b .nil) => .cons b (.cons a .nil)
  | _, _, .cons _ (.cons _ (.cons _ _)) => .nil
def iSeq (K : PySem.W.Frag) (tl : TE) : TI := fun σ H R => tl σ H fun x H1 => ∃ a, x = .ref a ∧ (((∃ xs, SqL K H1 a xs) ∧ R (Itl K a) H1) ∨ ((∃ xs, SqT K H1 a xs) ∧ R (Itt K a) H1))
theorem pi_seq {X : Cx} {tg l : Expr} {tl : TE} (hl : PE X l tl) : PI X tg l (iSeq X.K tl) := by
  refine ⟨fun pins s σ H R I h => thn (hl.run pins s σ H _ I h) fun v s1 ⟨x, H1, I1, r1, a, e, q1⟩ => ?_⟩
  subst e
  obtain rfl : v = Value.ref a := r1
  have fp : ∀ b ∈ [s1.heap.objs.size], FpOk X pins H1 b := fun b hb => by
    obtain rfl : b = s1.heap.objs.size := by simpa using hb
    exact I1.fpOk (Nat.le_refl _) (I1.hok.fresh (Nat.le_refl _))
  rcases q1 with ⟨⟨xs, hq⟩, q⟩ | ⟨⟨xs, hq⟩, q⟩
  · obtain ⟨its, rv, p, hz⟩ := I1.list hq
    exact wpAny_pyIter_list p.isList ⟨s1.heap.objs.size, [s1.heap.objs.size], _, _, H1, rfl, I1.kept (t' := s1.toks) fun b o e => Heap.get?_push_of_some _ e, turn_list a _, ⟨_, Heap.get?_push_size _ rfl, rfl, rfl⟩, fp, q⟩
  · obtain ⟨its, rv, p, hz⟩ := I1.tuple hq
    exact wpAny_pyIter_tuple (show s1.heap.IsTuple a its.toArray from p) ⟨s1.heap.objs.size, [s1.heap.objs.size], _, _, H1, rfl, I1.kept (t' := s1.toks) fun b o e => Heap.get?_push_of_some _ e, turn_tuple a _, ⟨_, Heap.get?_push_size _ rfl, rfl, rfl⟩, fp, q⟩
end Sw

set_option maxHeartbeats 2000000
namespace Sw
open PySem PySem.Spec PyProof.Rows L2
/-! ### zip of two, each a list or a tuple -/
def SqK (k : Bool) (K : PySem.W.Frag) (H : Hp) (a : Addr) (xs : List V) : Prop := match k with
  | true => SqL K H a xs
  | false => SqT K H a xs
def itK (k : Bool) (h : Heap) (it a : Addr) (i : Nat) : Prop := match k with
  | true => h.IsListIter it a i
  | false => h.IsTupleIter it a i
def sqK (k : Bool) (h : Heap) (a : Addr) (its : Array Value) : Prop := match k with
  | true => h.IsList a its
  | false => h.IsTuple a its
def objK (k : Bool) (a : Addr) : Obj := match k with
  | true => { cls := .type "list_iterator", data := .fields #[.ref a, .int 0 0] }
  | false => { cls := .type "tuple_iterator", data := .fields #[.ref a, .int 0 0] }
theorem begK (k : Bool) (a : Addr) (its : Array Value) : Begins (.ref a) (objK k a) (fun h => sqK k h a its) := by
  cases k
  · exact begins_tuple a its
  · exact begins_list a its
theorem drawsK {prog : Program} {w : World} {A : Around} (k : Bool) (hh : A.handled = none) (it a : Addr) (hne : a ≠ it) (its : Array Value) : Draws prog w A it [it, a] its.size (fun i v => its[i]? = some v) (fun i h => itK k h it a i ∧ sqK k h a its) := by
  cases k
  · exact .tuple hh it a hne its
  · exact .list hh it a hne its
theorem itK_obj {k : Bool} {h : Heap} {it a : Addr} {i : Nat} (x : itK k h it a i) : ∃ o, h.get? it = some o ∧ ∀ v, o.data ≠ .cell v := by
  cases k <;> (obtain ⟨o, e, _, d⟩ := x; exact ⟨o, e, fun v q => by rw [d] at q; cases q⟩)
theorem itK_at {k : Bool} {h h' : Heap} {it a : Addr} {i : Nat} (x : itK k h it a i) (e : ∀ o, h.get? it = some o → h'.get? it = some o) : itK k h' it a i := by
  cases k
  · exact Heap.IsTupleIter.at x e
  · exact Heap.IsListIter.at x e
theorem sqK_lt {k : Bool} {h : Heap} {a : Addr} {its : Array Value} (x : sqK k h a its) : a < h.objs.size := by
  cases k
  · obtain ⟨o, e, _⟩ := x
    exact Heap.lt_size e
  · obtain ⟨o, e, _⟩ := x
    exact Heap.lt_size e
section
variable {X : Cx} {pins : List (Addr × Obj)} {σ : L2.St} {H : Hp} {s : Shared}
theorem seqK {k : Bool} {a : Addr} {xs : List V} (I : Inv X pins σ H s) (h : SqK k X.K H a xs) : ∃ its : List Value, Vals xs its ∧ sqK k s.heap a its.toArray := by
  cases k
  · obtain ⟨its, r, p, _⟩ := I.tuple h
    exact ⟨its, r, p⟩
  · obtain ⟨its, r, p, _⟩ := I.list h
    exact ⟨its, r, p.isList⟩
theorem injK {k : Bool} {a : Addr} {xs ys : List V} (I : Inv X pins σ H s) (h : SqK k X.K H a xs) (h' : SqK k X.K H a ys) : xs = ys := by
  cases k
  · exact I.tuple_inj h h'
  · exact I.list_inj h h'
end
def ItZ (ka kb : Bool) (K : PySem.W.Frag) (a b : Addr) : It :=
  ⟨fun i H => ∃ (xs ys : List V), SqK ka K H a xs ∧ SqK kb K H b ys ∧ i < xs.length ∧ i < ys.length,
    fun i H v H' => ∃ T x y, v = .ref T ∧ H T = none ∧ H' = upd H T (.tup [x, y]) ∧ (∀ xs, SqK ka K H a xs → xs[i]? = some x) ∧ ∀ ys, SqK kb K H b ys → ys[i]? = some y,
    fun i H => ∃ xs ys : List V, SqK ka K H a xs ∧ SqK kb K H b ys ∧ i = min xs.length ys.length⟩
theorem five {c z TI TO i1 i2 : Addr} {p : Prop} (h : c ∈ [z, TI, TO, i1, i2]) (h1 : c = z → p) (h2 : c = TI → p) (h3 : c = TO → p) (h4 : c = i1 → p) (h5 : c = i2 → p) : p := by
  have e : c = z ∨ c = TI ∨ c = TO ∨ c = i1 ∨ c = i2 := by simpa using h
  exact e.elim h1 fun e => e.elim h2 fun e => e.elim h3 fun e => e.elim h4 h5
theorem turnZ {P : Program} {w : World} {K : PySem.W.Frag} {elts : List Expr} {kk : Nat} {tpos : Pos} {ka kb : Bool} {a b z TI TO i1 i2 : Addr} (S : ZipSep2 z TI TO i1 i2 [i1, a] [i2, b]) (ne1 : a ≠ i1) (ne2 : b ≠ i2) :
    Turn P w K (.Tuple elts kk tpos) (ItZ ka kb K a b) [z, TI, TO, i1, i2] z (fun i h => IsZip h z TI TO .none ∧ IsTupOf2 h TI (.ref i1) (.ref i2) ∧ (∃ x y, IsTupOf2 h TO x y) ∧ itK ka h i1 a i ∧ itK kb h i2 b i) where
  mem := by simp
  obj := fun i h st c hc => by
    obtain ⟨hz, hTI, ⟨x, y, hTO⟩, h1, h2⟩ := st
    exact five hc (fun q => by rw [q]; exact ⟨_, hz, fun v q => nomatch q⟩) (fun q => by rw [q]; exact ⟨_, hTI, fun v q => nomatch q⟩) (fun q => by rw [q]; exact ⟨_, hTO, fun v q => nomatch q⟩) (fun q => by rw [q]; exact itK_obj h1) (fun q => by rw [q]; exact itK_obj h2)
  keep := fun i h h' st k => by
    obtain ⟨hz, hTI, ⟨x, y, hTO⟩, h1, h2⟩ := st
    exact ⟨k z (by simp) _ hz, k TI (by simp) _ hTI, ⟨x, y, k TO (by simp) _ hTO⟩, itK_at h1 (k i1 (by simp)), itK_at h2 (k i2 (by simp))⟩
  item := by
    intro X hP hw hK hc i pins s σ H E I hf st hg
    subst hP hw hK
    obtain ⟨hz, hTI, ⟨x0, y0, hTO⟩, h1, h2⟩ := st
    obtain ⟨xs, ys, hqx, hqy, lx, ly⟩ := hg
    obtain ⟨its, rv, p⟩ := seqK I hqx
    obtain ⟨its2, rv2, p2⟩ := seqK I hqy
    have l1 := rv.length
    have l2 := rv2.length
    have hh : X.A.in1.handled = none := I.ok.hd hc
    have gx : xs[i]? = some xs[i] := by simp [lx]
    have gy : ys[i]? = some ys[i] := by simp [ly]
    obtain ⟨u, hu, ru⟩ := rv.get gx
    obtain ⟨u2, hu2, ru2⟩ := rv2.get gy
    have zl : z < s.heap.objs.size := Heap.lt_size hz
    refine wpAny_pyNext_zipD2_item S (drawsK ka hh i1 a ne1 its.toArray) (drawsK kb hh i2 b ne2 its2.toArray) hz hTI hTO ⟨h1, p⟩ ⟨h2, p2⟩ (by simp; omega) (by simp; omega) fun x1 x2 h' tk e1 e2 z' TO' s1' s2' hT hsz hk => ?_
    obtain rfl : x1 = u := by
      have e1' : its.toArray[i]? = some x1 := e1
      rw [List.getElem?_toArray, hu] at e1'
      exact (Option.some.inj e1').symm
    obtain rfl : x2 = u2 := by
      have e2' : its2.toArray[i]? = some x2 := e2
      rw [List.getElem?_toArray, hu2] at e2'
      exact (Option.some.inj e2').symm
    refine ⟨_, rfl, wpAny_letOwnedTupleGo_zip (s := { s with heap := h', toks := tk }) z' fun h'' z'' sb => ?_⟩
    have sb2 : ∀ c, c ≠ z → h''.get? c = h'.get? c := fun c hcz => sb.2 c hcz
    have tup2 : h''.get? s.heap.objs.size = some { cls := .type "tuple", data := .seq #[x1, x2] } := (sb2 _ (Nat.ne_of_gt zl)).trans hT
    have new : ObjOk X.prog X.w (upd H s.heap.objs.size (.tup [xs[i], ys[i]])) h'' s.heap.objs.size (.tup [xs[i], ys[i]]) :=
      ⟨by show 2 ≤ sizeLine; decide, [x1, x2], .cons ru (.cons ru2 .nil), ⟨_, tup2, rfl, _, rfl⟩⟩
    have I1 : Inv X pins σ (upd H s.heap.objs.size (.tup [xs[i], ys[i]])) { s with heap := h'', toks := tk } := by
      refine I.turnedNew (t' := tk) (ch := [z, TI, TO, i1, i2]) (fun c o hb q => ?_) hf (Nat.le_refl _) new
      have nz : c ≠ z := fun e => hb (by simp [e])
      exact (sb2 c nz).trans (hk c o nz (fun e => hb (by simp [e])) (fun e => hb (by simp [e])) (fun e => hb (by simp [e])) q)
    refine ⟨.ref s.heap.objs.size, _, I1, rfl, ⟨_, xs[i], ys[i], rfl, I.hok.fresh (Nat.le_refl _), rfl, fun l hl => by rw [injK I hl hqx]; exact gx, fun l hl => by rw [injK I hl hqy]; exact gy⟩, ⟨z'', ?_, ⟨x1, x2, ?_⟩, ?_, ?_⟩, fun c hcm => ?_⟩
    · exact (sb2 _ S.TIz).trans (hk _ _ S.TIz S.TITO S.TIi1 S.TIi2 hTI)
    · exact (sb2 _ S.TOz).trans TO'
    · exact itK_at s1'.1 fun o q => (sb2 _ S.zi1.symm).trans q
    · exact itK_at s2'.1 fun o q => (sb2 _ S.zi2.symm).trans q
    · have lt : c < s.heap.objs.size := by
        obtain ⟨o1, g1, _⟩ := itK_obj h1
        obtain ⟨o2, g2, _⟩ := itK_obj h2
        exact five hcm (fun q => by rw [q]; exact zl) (fun q => by rw [q]; exact Heap.lt_size hTI) (fun q => by rw [q]; exact Heap.lt_size hTO) (fun q => by rw [q]; exact Heap.lt_size g1) (fun q => by rw [q]; exact Heap.lt_size g2)
      rw [upd_ne (Nat.ne_of_lt lt)]
      exact (hf c hcm).1
  done := by
    intro X hP hw hK hc i pins s σ H E I hf st hg
    subst hP hw hK
    obtain ⟨hz, hTI, ⟨x0, y0, hTO⟩, h1, h2⟩ := st
    obtain ⟨xs, ys, hqx, hqy, he⟩ := hg
    obtain ⟨its, rv, p⟩ := seqK I hqx
    obtain ⟨its2, rv2, p2⟩ := seqK I hqy
    have l1 := rv.length
    have l2 := rv2.length
    have hh : X.A.in1.handled = none := I.ok.hd hc
    refine wpAny_pyNext_zipD2_end S (drawsK ka hh i1 a ne1 its.toArray) (drawsK kb hh i2 b ne2 its2.toArray) hz hTI hTO ⟨h1, p⟩ ⟨h2, p2⟩ (by simp; omega) (by simp; omega) (by simp; omega) fun h' tk hk => ⟨rfl, ?_⟩
    refine I.turnedL (t' := tk) (ch := [z, TI, TO, i1, i2]) (fun c o hb q => ?_) hf
    exact hk c o (fun e => hb (by simp [e])) (fun e => hb (by simp [e])) (fun e => hb (by simp [e])) (fun e => hb (by simp [e])) q
  self := fun A i s Q E st h => wpAny_pyIter_zip st.1 h
theorem five_le {N c : Nat} (h : c ∈ [N + 4, N + 2, N + 3, N, N + 1]) : N ≤ c := by
  simp at h
  omega
def iZipS (K : PySem.W.Frag) (ta : TA) : TI := fun σ H R => ta σ H fun vs H1 => ∃ (a b : Addr) (ka kb : Bool) (xs ys : List V), vs = [.ref a, .ref b] ∧ SqK ka K H1 a xs ∧ SqK kb K H1 b ys ∧ R (ItZ ka kb K a b) H1
theorem pi_zipS {X : Cx} {e e2 : Expr} {ta : TA} {p pos tpos : Pos} {elts : List Expr} {kk : Nat} (hg : Gl X "zip") (hm : X.mg "zip" = none) (ha : PA X [e, e2] ta)
    (hs : starEach [e, e2] X.env = (false, eval e X.env) :: starEach [e2] X.env := by rfl) (hpl : (backTo pos (starEach [e2] X.env)).any (·.1) = false := by rfl) :
    PI X (.Tuple elts kk tpos) (.Call (.Name "zip" p) [e, e2] [] pos) (iZipS X.K ta) := by
  refine ⟨fun pins s σ H R I h => Call_ (ld_blt I hg hm PyProof.Rows.boot_zip (PyProof.Rows.callWith_type1 (thn (ha.run pos pins s σ H _ I h) fun us s1 ⟨vs, H1, I1, r1, q1⟩ => ?_) hs hpl))⟩
  obtain ⟨a, b, ka, kb, xs, ys, rfl, hqx, hqy, q⟩ := q1
  obtain ⟨u1, u2, rfl, ra, rb⟩ := vals2 r1
  cases (show u1 = Value.ref a from ra)
  cases (show u2 = Value.ref b from rb)
  obtain ⟨its, rv, pa⟩ := seqK I1 hqx
  obtain ⟨its2, rv2, pb⟩ := seqK I1 hqy
  have la := sqK_lt pa
  have lb := sqK_lt pb
  refine zip_begins2 (begK ka a its.toArray) (begK kb b its2.toArray) pa pb fun h' hz hTI hTO h1 h2 hsz hk => wpAny_pyIter_zip hz ?_
  have new5 : ∀ c ∈ [s1.heap.objs.size + 4, s1.heap.objs.size + 2, s1.heap.objs.size + 3, s1.heap.objs.size, s1.heap.objs.size + 1], FpOk X pins H1 c := fun c hcm => by
    have hle : s1.heap.objs.size ≤ c := five_le hcm
    exact I1.fpOk hle (I1.hok.fresh hle)
  have i1 : itK ka h' s1.heap.objs.size a 0 := by
    cases ka <;> exact ⟨_, h1, rfl, rfl⟩
  have i2 : itK kb h' (s1.heap.objs.size + 1) b 0 := by
    cases kb <;> exact ⟨_, h2, rfl, rfl⟩
  have S : ZipSep2 (s1.heap.objs.size + 4) (s1.heap.objs.size + 2) (s1.heap.objs.size + 3) s1.heap.objs.size (s1.heap.objs.size + 1) [s1.heap.objs.size, a] [s1.heap.objs.size + 1, b] := zip_sep2 (N := s1.heap.objs.size) (fp1 := [a]) (fp2 := [b]) (fun c hc => by rw [List.mem_singleton.mp hc]; exact la) (fun c hc => by rw [List.mem_singleton.mp hc]; exact lb)
  exact ⟨s1.heap.objs.size + 4, [s1.heap.objs.size + 4, s1.heap.objs.size + 2, s1.heap.objs.size + 3, s1.heap.objs.size, s1.heap.objs.size + 1], _, _, H1, rfl, I1.kept (t' := s1.toks) hk, turnZ S (Nat.ne_of_lt la) (Nat.ne_of_lt (Nat.lt_succ_of_lt lb)), ⟨hz, hTI, ⟨_, _, hTO⟩, i1, i2⟩, new5, q⟩
theorem walkZ {K : PySem.W.Frag} {a b : Addr} {ka kb : Bool} {xs ys : List V} {n : Nat} (hn : n = min xs.length ys.length) : Walk (ItZ ka kb K a b) n (fun H => SqK ka K H a xs ∧ SqK kb K H b ys) (YPair (fun i => xs[i]?) (fun i => ys[i]?)) := by
  subst hn
  refine ⟨fun i _ hi q => ⟨xs, ys, q.1, q.2, by omega, by omega⟩, fun _ q => ⟨xs, ys, q.1, q.2, rfl⟩, ?_⟩
  rintro i H v H' _ q ⟨T, x, y, h1, h2, h3, h4, h5⟩
  exact ⟨T, x, y, h1, h2, h3, h4 xs q.1, h5 ys q.2⟩
/-! ### rules by the written part's own name (within comprehensions) -/
section
variable {X : Cx} {K : PySem.W.Frag}
theorem kLen (h : X.K = K) : CallR X (.builtin "len") (fun xs H Q => ∃ x n, xs = [x] ∧ LenV K x H n ∧ Q (.int n) H) := by
  subst h
  exact call_len
theorem kIx (h : X.K = K) : IxR X (rIxL K) := by
  subst h
  exact ix_list
theorem kSl (h : X.K = K) : SlR X (rSlL K) := by
  subst h
  exact sl_list
theorem kTup (h : X.K = K) : CallR X (.type "tuple") (fun xs H Q => ∃ p ys, xs = [.ref p] ∧ ((SqL K H p ys ∧ ∀ l, H l = none → Q (.ref l) (upd H l (.tup ys))) ∨ (SqT K H p ys ∧ Q (.ref p) H))) := by
  subst h
  exact call_tuple_of
theorem kLst (h : X.K = K) : CallR X (.type "list") (fun xs H Q => ∃ p ys, xs = [.ref p] ∧ (SqL K H p ys ∨ SqT K H p ys) ∧ ∀ l, H l = none → Q (.ref l) (upd H l (.lst ys))) := by
  subst h
  exact call_list_of
theorem kIsi (h : X.K = K) : CallR X (.builtin "isinstance") (rIsi K) := by
  subst h
  exact call_isi
theorem kIsiT (h : X.K = K) : CallR X (.builtin "isinstance") (rIsiT K) := by
  subst h
  exact call_isiT
theorem kAll (h : X.K = K) (hc : X.calm = true) : CallR X (.builtin "all") (rAll K) := by
  subst h
  exact cr_all hc
theorem kSum (h : X.K = K) (hc : X.calm = true) : CallR X (.builtin "sum") (rSum K) := by
  subst h
  exact cr_sum hc
theorem kPiL {tg l : Expr} {tl : TE} (h : X.K = K) (hl : PE X l tl) : PI X tg l (iList K tl) := by
  subst h
  exact pi_list hl
end
/-! ### a truth or a number, and a number -/
def toI : V → Option Int
  | .int i => some i
  | .bl b => some (if b = true then 1 else 0)
  | _ => none
section
variable {X : Cx}
theorem op_addN : OpR X (binaryOp .Add) (fun x y H Q => ∃ i j, toI x = some i ∧ y = .int j ∧ Q (.int (i + j)) H) := by
  intro pins s σ H x y v u Q I rx ry h
  obtain ⟨i, j, e, rfl, q⟩ := h
  cases x with
  | int m =>
    cases e
    exact op_add pins s σ H _ _ v u Q I rx ry ⟨_, _, rfl, rfl, q⟩
  | bl b =>
    cases e
    obtain ⟨t, rfl⟩ := ry
    cases rx
    exact PySem.IntBool.add_bool_int ⟨.int _, H, I.tok _, ⟨_, rfl⟩, q⟩
  | _ => cases e
theorem op_subN : OpR X (binaryOp .Sub) (fun x y H Q => ∃ i j, toI x = some i ∧ y = .int j ∧ Q (.int (i - j)) H) := by
  intro pins s σ H x y v u Q I rx ry h
  obtain ⟨i, j, e, rfl, q⟩ := h
  cases x with
  | int m =>
    cases e
    exact op_sub pins s σ H _ _ v u Q I rx ry ⟨_, _, rfl, rfl, q⟩
  | bl b =>
    cases e
    obtain ⟨t, rfl⟩ := ry
    cases rx
    exact PySem.IntBool.sub_bool_int ⟨.int _, H, I.tok _, ⟨_, rfl⟩, q⟩
  | _ => cases e
theorem op_eqN : OpR X (compareOp .Eq) (fun x y H Q => ∃ i j, toI x = some i ∧ y = .int j ∧ Q (.bl (decide (i = j))) H) := by
  intro pins s σ H x y v u Q I rx ry h
  obtain ⟨i, j, e, rfl, q⟩ := h
  cases x with
  | int m =>
    cases e
    have z : decide (V.int i = V.int j) = decide (i = j) := by simp
    exact op_eq pins s σ H _ _ v u Q I rx ry ⟨rfl, by rw [z]; exact q⟩
  | bl b =>
    cases e
    obtain ⟨t, rfl⟩ := ry
    cases rx
    exact PySem.EqBoolInt.eq_bool_int ⟨.bl _, H, I, rfl, q⟩
  | _ => cases e
end
end Sw

set_option maxHeartbeats 2000000
namespace Sw
open PySem PySem.Spec PyProof.Rows L2
/-! ### an own object's own ==, !=, len, repr -/
section
variable {X : Cx} {k : Nat} {f C : Addr} {fd : FuncData} {ps : List Str} {sp : Sp}
/-- the def's run within a builtin's call -/
theorem run_at {A1 : Around} {pins : List (Addr × Obj)} {σ : L2.St} {H : Hp} {s : Shared} {Q : VK} {us : List Value} {vs : List V} (F : FnOk X.prog X.w X.K X.mg X.base CX0 k f fd ps sp) (hfr : A1.frames = X.A.frames) (hr : Room k A1) (hb : Binds X.K fd ps [])
    (I : Inv X pins σ H s) (r : Vals vs us) (h : sp vs H Q E0) : wpAny (model X.prog X.w) A1 (call (.ref f) us) (EP X pins σ Q) X.xe s := by
  have e := I.env0
  have e0 : Env0 X.prog X.w X.K X.mg X.base A1 X.stack s H := ⟨by rw [hfr]; exact e.frames, e.mod, e.bs, e.bsz, e.funs, e.frf, e.hok, e.bare⟩
  have hl : (us ++ []).length = ps.length := by
    rw [List.append_nil, ← r.length]
    exact F.len _ _ _ _ h
  have bd := hb s us I.kIn hl
  rw [List.append_nil] at bd
  refine wpAny_call (codeAny_mono (F.run A1 X.stack s H ⟨us, []⟩ us vs Q E0 hr e0 bd r h) fun z s' hq => ?_)
  match z, hq with
  | .ok (.ret u), hq => exact I.after hq
def rLenO (C : Addr) (sp : Sp) : List V → Hp → VK → Prop := fun xs H Q => ∃ a dx fs, xs = [.ref a] ∧ H a = some (.ins C dx fs) ∧ sp [.ref a] H (fun v H' => ∃ m : Int, v = .int m ∧ 0 ≤ m ∧ m < 2 ^ 63 ∧ Q (.int m) H') E0
theorem call_lenO (M : Meth X.K C "__len__" f) (F : FnOk X.prog X.w X.K X.mg X.base CX0 k f fd ps sp) (hr : Room (k + 1) X.A) (hb : Binds X.K fd ps []) : CallR X (.builtin "len") (rLenO C sp) := by
  intro pins s σ H xs us Q I r h
  obtain ⟨a, dx, fs, rfl, ha, h⟩ := h
  obtain ⟨u, rfl, ru⟩ := vals1 r
  cases (show u = Value.ref a from ru)
  obtain ⟨mA, J, _⟩ := ins_get I.hok ha
  obtain ⟨od, J, _⟩ := J.look
  obtain ⟨m, hF⟩ := I.fr
  refine PySem.W.len_K hF I.ok.mod.kin J M.1 M.fn (wpAny_mono (run_at (A1 := X.A.in1) F rfl hr.in1 hb I r h) (fun v s' hv => ?_) fun _ _ z => z)
  obtain ⟨v', H', I', rv, n, rfl, n0, n1, q⟩ := hv
  obtain ⟨t, rfl⟩ := rv
  exact ⟨⟨n0, n1⟩, .int n, H', I'.tok _, ⟨_, rfl⟩, q⟩
def rReprO (C : Addr) (sp : Sp) : List V → Hp → VK → Prop := fun xs H Q => ∃ a dx fs, xs = [.ref a] ∧ H a = some (.ins C dx fs) ∧ sp [.ref a] H (fun v H' => ∃ z : Str, v = .str z ∧ Q (.str z) H') E0
theorem call_reprO (M : Meth X.K C "__repr__" f) (F : FnOk X.prog X.w X.K X.mg X.base CX0 k f fd ps sp) (hr : Room (k + 1) X.A) (hb : Binds X.K fd ps []) : CallR X (.builtin "repr") (rReprO C sp) := by
  intro pins s σ H xs us Q I r h
  obtain ⟨a, dx, fs, rfl, ha, h⟩ := h
  obtain ⟨u, rfl, ru⟩ := vals1 r
  cases (show u = Value.ref a from ru)
  obtain ⟨mA, J, _⟩ := ins_get I.hok ha
  obtain ⟨od, J, _⟩ := J.look
  obtain ⟨m, hF⟩ := I.fr
  have hu : X.A.in1.units < cLine := by
    have z := hr.un
    show X.A.units + 1 < cLine
    omega
  refine PySem.W.repr_K hu hF I.ok.mod.kin J M.1 M.fn (wpAny_mono (run_at (A1 := X.A.in1) F rfl hr.in1 hb I r h) (fun v s' hv => ?_) fun _ _ z => z)
  obtain ⟨v', H', I', rv, n, rfl, q⟩ := hv
  obtain ⟨t, rfl⟩ := rv
  exact ⟨.str n, H', I', ⟨_, rfl⟩, q⟩
/-- what the other one's type is, as the comparison asks it -/
theorem tyx_looks {pins : List (Addr × Obj)} {σ : L2.St} {H : Hp} {s : Shared} {y : V} {u t : Value} (I : Inv X pins σ H s) (ry : RelV y u) (ty : TyX X.K H y t) : PySem.W.Looks (model X.prog X.w) s.heap (typeOf u) t := by
  obtain ⟨P, Z, p, _⟩ := kit_of I ry ty
  exact Z.ty _ _ I.kIn p
def rCmpO (K : PySem.W.Frag) (C : Addr) (sp : Sp) (g : Bool → Bool) : R2 := fun x y H Q => ∃ a dx fs t, x = .ref a ∧ H a = some (.ins C dx fs) ∧ TyX K H y t ∧ PySem.W.notFirst K C t = true ∧ sp [x, y] H (fun v H' => ∃ b : Bool, v = .bl b ∧ Q (.bl (g b)) H') E0
theorem op_eqO (M : Meth X.K C "__eq__" f) (F : FnOk X.prog X.w X.K X.mg X.base CX0 k f fd ps sp) (hr : Room (k + 1) X.A) (hb : Binds X.K fd ps []) : OpR X (compareOp .Eq) (rCmpO X.K C sp id) := by
  intro pins s σ H x y v u Q I rx ry h
  obtain ⟨a, dx, fs, t, rfl, ha, ty, hn, h⟩ := h
  cases (show v = Value.ref a from rx)
  obtain ⟨mA, J, _⟩ := ins_get I.hok ha
  obtain ⟨od, J, _⟩ := J.look
  obtain ⟨m, hF⟩ := I.fr
  have hu : X.A.units < cLine := by
    have z := hr.un
    omega
  show wpAny (model X.prog X.w) X.A (richCompare .Eq (.ref a) u) _ _ s
  refine PySem.W.cmp_K (op := .Eq) hu hF I.ok.mod.kin J (tyx_looks I ry ty) hn M.1 M.fn (wpAny_mono (run_at (A1 := X.A) F rfl (hr.mono (Nat.le_succ _)) hb I (.cons rx (.cons ry .nil)) h) (fun v s' hv => ?_) fun _ _ z => z)
  obtain ⟨v', H', I', rv, b, rfl, q⟩ := hv
  cases (show v = Value.bool b from rv)
  exact ⟨.bl b, H', I', rfl, q⟩
theorem ne_bind (self : Value) : bindSpecial (.builtin "object.__ne__") self = pure (.builtin "object.__ne__", [self]) :=
  (Slot.of (T := "object") (name := "__ne__") (owner := "object") (n := "__ne__") (by rw [typeLookup_type, builtinLookup_eq_fast]; kernel_rfl) (by decide +kernel) (by decide +kernel) (by decide +kernel) (.inl (by decide +kernel)) (by rw [isSubtype_type]; kernel_rfl)).bind self
theorem op_neO (M : Meth X.K C "__eq__" f) (hne : PySem.W.findIn X.K (.ref C) "__ne__" = some (some (.builtin "object.__ne__"))) (hob : PySem.W.subIn X.K (.ref C) (.type "object") = some true)
    (F : FnOk X.prog X.w X.K X.mg X.base CX0 k f fd ps sp) (hr : Room (k + 1) X.A) (hb : Binds X.K fd ps []) : OpR X (compareOp .NotEq) (rCmpO X.K C sp not) := by
  intro pins s σ H x y v u Q I rx ry h
  obtain ⟨a, dx, fs, t, rfl, ha, ty, hn, h⟩ := h
  cases (show v = Value.ref a from rx)
  obtain ⟨mA, J, _⟩ := ins_get I.hok ha
  obtain ⟨od, J, _⟩ := J.look
  obtain ⟨m, hF⟩ := I.fr
  have lb := tyx_looks I ry ty
  have Xk := I.kIn
  have hu : X.A.units + 1 < cLine := by
    have z := hr.un
    omega
  show wpAny (model X.prog X.w) X.A (richCompare .NotEq (.ref a) u) _ _ s
  -- object.__ne__ asks __eq__
  have inner : wpAny (model X.prog X.w) X.A.in1 (Builtin.«object.__ne__» ⟨[.ref a, u], []⟩) (fun fin s' => ∃ c : Bool, fin = .done (.ret (.bool c)) ∧ EP X pins σ Q (.bool c) s') X.xe s := by
    unfold Builtin.«object.__ne__»
    refine wpAny_bind (wpAny_of_eq (a := (Value.ref a, [u])) rfl ?_)
    show wpAny _ _ (cRoomFor _ _ >>= _) _ _ s
    refine wpAny_bind (wpAny_cRoomFor hu ?_)
    refine wpAny_bind (m := callSpecialIfBound? (.ref a) (Str.ofString "__eq__") [u]) (PySem.W.ifBound_K Xk J M.1 M.fn (wpAny_mono (run_at (A1 := X.A.in1) F rfl hr.in1 hb I (.cons rx (.cons ry .nil)) h) (fun v s' hv => ?_) fun _ _ z => z))
    obtain ⟨v', H', I', rv, b, rfl, q⟩ := hv
    cases (show v = Value.bool b from rv)
    refine wpAny_bind (wpAny_truthy_bool (wpAny_pure ⟨_, rfl, .bl (!b), H', I', rfl, q⟩))
  have slot : Slot "object" "__ne__" "object.__ne__" := Slot.of (T := "object") (name := "__ne__") (owner := "object") (n := "__ne__") (by rw [typeLookup_type, builtinLookup_eq_fast]; kernel_rfl) (by decide +kernel) (by decide +kernel) (by decide +kernel) (.inl (by decide +kernel)) (by rw [isSubtype_type]; kernel_rfl)
  have chk : ∀ (M0 : Model) (A0 : Around) (E1 : Value → Shared → Prop) (Q1 : Unit → Shared → Prop), Q1 () s → wpAny M0 A0 (checkBuiltinCall "object.__ne__" ⟨[.ref a, u], []⟩) Q1 E1 s := by
    intro M0 A0 E1 Q1 hq
    simp only [checkBuiltinCall, PySem.F.cmpKind_ne, PySem.F.cmpSplit_ne]
    refine wpAny_bind ?_
    unfold isInstance
    refine wpAny_bind (J.type.here ((PySem.W.looks_subIn Xk hob).here ?_))
    have ha2 := PySem.F.cmpArgs_ne (.ref a) u
    cases hsig : Manifest.signature? "object.__ne__" with
    | none => exact wpAny_pure hq
    | some sig =>
      simp only [argsOk, hsig] at ha2
      have h2 : Bind.checkArgs "object.__ne__" sig ⟨[.ref a, u], []⟩ = pure () := ha2
      show wpAny M0 A0 (Bind.checkArgs "object.__ne__" sig ⟨[.ref a, u], []⟩) Q1 E1 _
      rw [h2]
      exact wpAny_pure hq
  have callne : wpAny (model X.prog X.w) X.A (call (.builtin "object.__ne__") [.ref a, u]) (fun r s' => ∃ c : Bool, r = .bool c ∧ EP X pins σ Q (.bool c) s') X.xe s := by
    refine wpAny_call (codeAny_call_builtin slot.plain PySem.F.cmpEntry_ne (chk _ _ _ _ ?_))
    refine wpAny_mono inner (fun fin s' hv => ?_) fun _ _ z => z
    obtain ⟨c, rfl, q⟩ := hv
    exact ⟨c, rfl, q⟩
  have one : wpAny (model X.prog X.w) X.A (tryCompare (.ref a) "__ne__" u) (fun r s' => ∃ z, r = some z ∧ EP X pins σ Q z s') X.xe s := by
    unfold tryCompare
    refine wpAny_bind ?_
    simp only [callSpecialIfBound?, bindSpecialIfBound?]
    refine wpAny_holding (wpAny_bind (wpAny_bind (wpAny_bind (J.type.here ((PySem.W.looks_findIn Xk hne).here ?_)))))
    refine wpAny_bind (wpAny_askSetting (wpAny_ite ?_))
    have tell : ∀ (g : List Value), g = [.ref a] → wpAny (model X.prog X.w) X.A (call (.builtin "object.__ne__") (g ++ [u]) >>= fun v => pure (some v)) (fun r s' => wpAny (model X.prog X.w) X.A (match r with | some .notImplemented | none => pure none | some v => pure (some v)) (fun r s' => ∃ z, r = some z ∧ EP X pins σ Q z s') X.xe s') X.xe s := fun g hg => by
      subst hg
      refine wpAny_bind (wpAny_mono callne (fun v s' hv => ?_) fun _ _ z => z)
      obtain ⟨c, rfl, q⟩ := hv
      exact wpAny_pure (wpAny_pure ⟨_, rfl, q⟩)
    simp only [ne_bind]
    split
    · exact wpAny_bind (wpAny_pure (wpAny_pure (tell _ rfl)))
    · exact wpAny_tryCatch (wpAny_bind (wpAny_pure (wpAny_pure (tell _ rfl))))
  unfold richCompare
  simp only [oneThing_ref]
  refine wpAny_holding (wpAny_bind (wpAny_cRoomFor (by omega) ?_))
  refine wpAny_bind (J.type.here (wpAny_bind (lb.here ?_)))
  split
  · rename_i q
    have e : PySem.W.subIn X.K t (.ref C) = some false := by
      rcases Bool.or_eq_true_iff.mp hn with e | e
      · rw [beq_iff_eq.mp e] at q
        simp at q
      · exact beq_iff_eq.mp e
    refine wpAny_bind ((PySem.W.looks_subIn Xk e).here ?_)
    simp only [Bool.false_eq_true, if_false]
    refine wpAny_bind (wpAny_mono one (fun r s' z => ?_) fun _ _ e => e)
    obtain ⟨v, rfl, hq⟩ := z
    exact wpAny_pure hq
  · refine wpAny_bind (wpAny_pure ?_)
    simp only [Bool.false_eq_true, if_false]
    refine wpAny_bind (wpAny_mono one (fun r s' z => ?_) fun _ _ e => e)
    obtain ⟨v, rfl, hq⟩ := z
    exact wpAny_pure hq
end
end Sw

set_option maxHeartbeats 4000000
namespace Sw
open PySem PySem.Spec PyProof.Rows L2
/-! ### a tuple read backwards -/
section
variable {prog : Program} {w : World} {A : Around} {E : Value → Shared → Prop} {s : Shared}
theorem applied_rev {sl : Addr} {vl vu vs : Value} {n : Nat} {Q : Int × Int × Nat → Shared → Prop} (hs : s.heap.IsSliceOf sl vl vu vs) (pl : IsPart vl none) (pu : IsPart vu none) (ps : IsPart vs (some (-1)))
    (h : Q ((n : Int) - 1, -1, n) s) : wpAny (model prog w) A (Builtin.Slice.sliceApplied (.ref sl) (pure (n : Int))) Q E s := by
  obtain ⟨os, g1, _, g3⟩ := id hs
  unfold Builtin.Slice.sliceApplied Builtin.Slice.sliceFields
  refine wpAny_bind (wpAny_bind (wpAny_field g1 g3 (x := vl) rfl (wpAny_bind (wpAny_field g1 g3 (x := vu) rfl (wpAny_bind (wpAny_field g1 g3 (x := vs) rfl (wpAny_pure ?_)))))))
  refine wpAny_bind (HT.slicePart_ ps ?_)
  show wpAny _ _ (if ((-1 : Int) == 0) = true then _ else _) _ _ s
  rw [if_neg (by decide)]
  refine wpAny_bind (HT.slicePart_ pl (wpAny_bind (HT.slicePart_ pu (wpAny_bind (wpAny_pure ?_)))))
  have e : Builtin.Slice.slicePlaces ((n : Int) - 1) (-1) (-1) = n := by
    unfold Builtin.Slice.slicePlaces
    rw [if_neg (by decide)]
    by_cases c : n = 0
    · subst c
      rfl
    · rw [if_pos (by omega), show (- -1 : Int) = 1 by decide, Int.ediv_one]
      omega
  show wpAny _ _ (pure ((n : Int) - 1, (-1 : Int), Builtin.Slice.slicePlaces ((n : Int) - 1) (-1) (-1))) _ _ s
  rw [e]
  exact wpAny_pure h
theorem pick_rev (xs : Array Value) : ((List.range xs.size).filterMap fun (k : Nat) => xs[((xs.size : Int) - 1 + (k : Int) * -1).toNat]?).toArray = xs.toList.reverse.toArray := by
  have e : (List.range xs.size).filterMap (fun (k : Nat) => xs[((xs.size : Int) - 1 + (k : Int) * -1).toNat]?) = ((List.range xs.size).map fun k => xs.size - 1 - k).filterMap (xs[·]?) := by
    rw [List.filterMap_map]
    congr 1
    funext k
    have : ((xs.size : Int) - 1 + (k : Int) * -1).toNat = xs.size - 1 - k := by omega
    rw [this]
    rfl
  rw [e, PySem.W.krv_range, List.filterMap_reverse, PySem.W.krv_all]
theorem getItem_rev {t sl : Addr} {items : Array Value} {vl vu vs : Value} {Q : Value → Shared → Prop} (ht : IsTup s.heap t items) (hs : s.heap.IsSliceOf sl vl vu vs) (pl : IsPart vl none) (pu : IsPart vu none) (ps : IsPart vs (some (-1)))
    (h : Q (.ref s.heap.objs.size) { s with heap := s.heap.push { cls := .type "tuple", data := .seq items.toList.reverse.toArray } }) (hz : items.size ≤ sizeLine) : wpAny (model prog w) A (getItem (.ref t) (.ref sl)) Q E s := by
  have hz2 : sizeOk (.seq items.toList.reverse.toArray) := by
    show items.toList.reverse.toArray.size ≤ sizeLine
    rw [List.size_toArray, List.length_reverse, Array.length_toList]
    exact hz
  obtain ⟨os, g1, g2, g3⟩ := id hs
  have hT : s.TypeIs (.ref sl) "slice" := ⟨os, g1, g2⟩
  unfold getItem
  try with_reducible refine wpAny_holding ?_
  first | refine wpAny_bind (wpAny_pure ?_) | skip
  refine wpAny_bind (wpAny_sequenceKey ht.typeIs (by decide) ?_)
  refine wpAny_bind (wpAny_callSpecial?_slot (name := Str.ofString "__getitem__") ht.typeIs PyProof.Rows.slot_tuple_getitem (wpAny_call_entry PyProof.Rows.slot_tuple_getitem ht.typeIs PyProof.Rows.entry_tuple_getitem ?_ (PyProof.Rows.args_tuple_getitem _ _)))
  show wpAny _ _ (Builtin.Tuple.tupleItemsOf (.ref t) >>= _) _ _ s
  refine wpAny_bind (PyProof.Rows.tupleItemsOf_ ht (wpAny_bind (wpAny_typeOf hT ?_)))
  rw [if_pos (by decide)]
  refine wpAny_bind (applied_rev hs pl pu ps ?_)
  have no : ¬ ((((items.size : Int) - 1) == 0 && (-1 : Int) == 1 && items.size == items.size) = true) := by simp
  show wpAny _ _ (if (((items.size : Int) - 1) == 0 && (-1 : Int) == 1 && items.size == items.size) = true then _ else _) _ _ s
  rw [if_neg no, pick_rev]
  first
    | exact wpAny_bind (m := Builtin.Tuple.tupleExact _) (wpAny_newObj_type (wpAny_pure ⟨_, rfl, wpAny_pure h⟩) hz2)
    | exact wpAny_bind (wpAny_bind (m := Builtin.Tuple.tupleExact _) (wpAny_newObj_type (wpAny_pure ⟨_, rfl, wpAny_pure h⟩) hz2))
    | exact wpAny_bind (wpAny_bind (m := Builtin.Tuple.tupleExact _) (wpAny_newObj_type (wpAny_pure (wpAny_pure ⟨_, rfl, wpAny_pure h⟩)) hz2))
end
section
variable {X : Cx}
def tRevT (K : PySem.W.Frag) (te : TE) : TE := fun σ H Q => te σ H fun x H1 => ∃ a xs, x = .ref a ∧ SqT K H1 a xs ∧ ∀ p, H1 p = none → Q (.ref p) (upd H1 p (.tup xs.reverse))
theorem pe_revT {e : Expr} {te : TE} {k : Nat} {p1 p2 p3 pos : Pos} (he : PE X e te) : PE X (.Subscript e (.Slice none none (some (.UnaryOp .USub (.Constant (.int 1) k p1) p2)) p3) pos) (tRevT X.K te) := by
  refine ⟨fun pins s σ H Q I h => Subscript_ (thn (he.run pins s σ H _ I h) fun v s1 ⟨x, H1, I1, r1, q1⟩ => ?_)⟩
  obtain ⟨a, xs, rfl, hx, q⟩ := q1
  cases r1
  have hm : PO X (some (.UnaryOp .USub (.Constant (.int 1) k p1) p2)) (tPart (tUn (rU fun i => .int (-i)) (tC (.int 1)))) := po_some (pe_un un_neg pe_int)
  refine wpAny_Slice (thn (po_none.run pins s1 σ H1 (fun o H2 => o = none ∧ H2 = H1) I1 ⟨rfl, rfl⟩) fun vl s2 ⟨l, H2, I2, pl, el, e2⟩ => ?_)
  subst el e2
  refine thn (po_none.run pins s2 σ H2 (fun o H3 => o = none ∧ H3 = H2) I2 ⟨rfl, rfl⟩) fun vu s3 ⟨u, H3, I3, pu, eu, e3⟩ => ?_
  subst eu e3
  refine thn (hm.run pins s3 σ H3 (fun o H4 => o = some (-1) ∧ H4 = H3) I3 ⟨1, rfl, -1, rfl, rfl, rfl⟩) fun vm s4 ⟨o, H4, I4, pm, eo, e4⟩ => ?_
  subst eo e4
  have I5 : Inv X pins σ H4 { s4 with heap := s4.heap.push { cls := .type "slice", data := .fields #[vl, vu, vm] } } := I4.kept (t' := s4.toks) fun b ob q => Heap.get?_push_of_some _ q
  obtain ⟨its, r, ht, hz⟩ := I5.tuple hx
  have hlen := r.length
  show wpAny (model X.prog X.w) X.A (subscriptTail e (.Slice none none (some (.UnaryOp .USub (.Constant (.int 1) k p1) p2)) p3) (.ref a) (.ref s4.heap.objs.size)) (EP X pins σ Q) X.xe { s4 with heap := s4.heap.push { cls := .type "slice", data := .fields #[vl, vu, vm] } }
  refine tail_any (ops := [.ref a, .ref s4.heap.objs.size]) ht.typeIs (PyProof.Rows.slot_tuple_getitem.lookup) ?_ (by with_unfolding_all rfl)
  refine getItem_rev ht (Heap.IsSliceOf.new _ vl vu vm) pl pu pm ?_ (by rw [List.size_toArray]; omega)
  refine ⟨.ref _, _, I5.laid (t' := s4.toks) (o := .tup xs.reverse) (fun b ob q => Heap.get?_push_of_some _ q) (Nat.le_refl _) ?_, rfl, q _ (I5.hok.fresh (Nat.le_refl _))⟩
  exact ⟨by rw [List.length_reverse]; exact hz, _, r.reverse, IsTup.new _ _⟩
end
/-! ### set(xs) of a list of ints -/
abbrev bare (w : World) : Obj := { cls := .type "set", dict := none, data := .set #[] 0 (.fresh 0 0 (!w.params.followText "set-order")) }
section
variable {P : Program} {w : World} {A : Around} {E : Value → Shared → Prop} {s : Shared}
theorem call_set_lst {x : Addr} {us : Array Value} (ns : List Int) {Q : Value → Shared → Prop} (calm : A.handled = none) (hx : s.heap.IsList x us) (hi : IntsAre us.toList ns) (room : ns.length + 1 < scanBound)
    (q : ∀ (h' : Heap) (tk c : Nat), SetR w h' s.heap.objs.size (fun j => decide (j ∈ ns)) c → c ≤ ns.length → (∀ b o, s.heap.get? b = some o → h'.get? b = some o) → Q (.ref s.heap.objs.size) { s with heap := h', toks := tk }) :
    wpAny (model P w) A (call (.type "set") [.ref x]) Q E s := by
  have len : us.size = ns.length := by
    have z := IntsAre.length hi
    rwa [Array.length_toList] at z
  obtain ⟨mc, mt, hmr⟩ := F.called_set.mro
  have hmd := F.called_set.made
  have hsb := F.called_set.sub
  refine wpAny_call (codeAny_of_tree (?_ : wpAny _ _ (callAny (.type "set") _) _ _ _))
  refine wpAny_pure ⟨Code.quiet_builtin _ (by decide +kernel), codeAny_builtin F.entry_type_call ?_⟩
  rw [Around.under_plain (weight_type_call_type "set" [.ref x] []) rfl]
  have k1 := F.called_set.notType
  have k2 := F.called_set.canCreate
  have k3 := F.typeCall_set_1 (.ref x)
  repeat (any_goals (first | assumption | wp_step))
  refine codeAny_mono (code_set_led1 (.ref x) (E := E) (Q₁ := fun ob s1 => ob = .ref s.heap.objs.size ∧ s1 = { s with heap := s.heap.push (bare w) }) ⟨rfl, rfl⟩) fun r s1 hr => ?_
  cases r with
  | error e => exact hr
  | ok fl =>
    cases fl with
    | ret ob =>
      obtain ⟨rfl, rfl⟩ := hr
      have at0 : (s.heap.push (bare w)).get? s.heap.objs.size = some (bare w) := Heap.get?_push_size _ rfl
      have ty0 : Shared.TypeIs { s with heap := s.heap.push (bare w) } (.ref s.heap.objs.size) "set" := ⟨_, at0, rfl⟩
      have k4 := F.called_set.init.lookup
      have k5 := F.called_set.init.bind (.ref s.heap.objs.size)
      repeat (any_goals (first | assumption | wp_step))
      refine codeAny_mono (codeAny_call_builtin (R := wants (fun r s2 => r = .none ∧ ∃ h' tk c, s2 = { s with heap := h', toks := tk } ∧ SetR w h' s.heap.objs.size (fun j => decide (j ∈ ns)) c ∧ c ≤ ns.length ∧ (∀ b o, s.heap.get? b = some o → h'.get? b = some o)) E) F.called_set.init.plain F.entry_set_init (check_set_init_1 ty0 ?_)) fun r2 s2 hr2 => ?_
      · obtain ⟨⟨oc, od, oda, osl⟩, hox, hc, nl, hd⟩ := hx
        simp only at hc hd
        subst hc hd
        have hox2 : (s.heap.push (bare w)).get? x = some { cls := .type "list", dict := od, data := .seq us nl, slots := osl } := Heap.get?_push_of_some _ hox
        have k6 := F.sub_list_set
        have k7 := F.sub_list_frozenset
        have k8 : (Value.type "list" == Value.type "dict") = false := by decide
        have hx2 : (s.heap.push (bare w)).IsList x us := ⟨_, hox2, rfl, nl, rfl⟩
        unfold Builtin.«set.__init__» noKeywords Builtin.Frozenset.updateFrom
        generalize hPI : pyIter = PI
        wp_walk
        subst hPI
        refine wpAny_pyIter_list hx2 (wpAny_bind (wpAny_runValue ?_))
        have lx : x < s.heap.objs.size := Heap.lt_size hox
        have calm3 : A.in1.in1.in1.handled = none := by simp [calm]
        have sz1 : (s.heap.push (bare w)).objs.size = s.heap.objs.size + 1 := Heap.size_push ..
        have ne1 : x ≠ (s.heap.push (bare w)).objs.size := by
          rw [sz1]
          exact Nat.ne_of_lt (Nat.lt_succ_of_lt lx)
        have off : s.heap.objs.size ∉ [(s.heap.push (bare w)).objs.size, x] := by
          rw [sz1]
          exact fun m => (List.mem_cons.mp m).elim (fun z => absurd z (Nat.ne_of_lt (Nat.lt_succ_self _))) fun m => absurd (List.mem_singleton.mp m) (Nat.ne_of_gt lx)
        have vals : ∀ (i : Nat) (v : Value), us[i]? = some v → ∃ k t, ns[i]? = some k ∧ v = .int k t := fun i v hv => by
          have li : i < ns.length := by
            rw [← len]
            exact (Array.getElem?_eq_some_iff.mp hv).1
          obtain ⟨t, e⟩ := PyProof.Rows.IntsAre.int_at hi i v (by rwa [Array.getElem?_toList])
          exact ⟨ns[i], t, List.getElem?_eq_getElem li, by rw [e, List.getD_eq_getElem?_getD, List.getElem?_eq_getElem li]; rfl⟩
        refine set_update_ints ((Walks.list calm3 _ x ne1 us).toS) s.heap.objs.size off ns len room vals (us.size - 0) 0 _ (by omega) (Nat.zero_le _) ⟨⟨_, Heap.get?_push_size _ rfl, rfl, rfl⟩, (hx2.push _)⟩ ⟨0, Nat.le_refl 0, setR_new_at (Heap.get?_push_of_some _ (Heap.get?_push_size _ rfl))⟩ ?_
        intro s' c' mv hc' R'
        obtain ⟨h', g2, d', tk', os'⟩ := s'
        have eg : g2 = s.gens := mv.gens
        have ed : d' = s.drawn := mv.drawn
        have eo : os' = s.os := mv.os
        subst eg ed eo
        show wpAny _ _ _ _ _ _
        refine wpAny_pure (?_ : wpAny _ _ (ret Value.none) _ _ _)
        rw [len] at hc'
        refine wpAny_pure ⟨rfl, h', tk', c', rfl, R', hc', fun b o e => ?_⟩
        have lb : b < s.heap.objs.size := Heap.lt_size e
        refine mv.heap b o ?_ (Heap.get?_push_of_some _ (Heap.get?_push_of_some _ e))
        rw [sz1]
        exact fun m => (List.mem_cons.mp m).elim (Nat.ne_of_lt lb) fun m => absurd (List.mem_singleton.mp m) (Nat.ne_of_lt (Nat.lt_succ_of_lt lb))
      · cases r2 with
        | error e => exact hr2
        | ok fl2 =>
          cases fl2 with
          | ret r =>
            obtain ⟨rfl, h', tk, c', rfl, R', hc', kk⟩ := hr2
            repeat (any_goals (first | assumption | wp_step))
            exact q _ _ _ R' hc' kk
          | _ => first | exact hr2 | exact hr2.elim | cases hr2
    | _ => first | exact hr | exact hr.elim | cases hr
end
section
variable {X : Cx}
def rSetLst (K : PySem.W.Frag) (w : World) : List V → Hp → VK → Prop := fun xs H Q => ∃ (l : Addr) (ns : List Int), xs = [.ref l] ∧ SqL K H l (ns.map V.int) ∧ ns.length < 64 ∧ ∀ (p : Addr) (c : Nat), H p = none → c ≤ ns.length → Q (.ref p) (upd H p (SetO w p (fun j => decide (j ∈ ns)) c))
theorem cr_setL (hc : X.calm = true) : CallR X (.type "set") (rSetLst X.K X.w) := by
  intro pins s σ H xs us Q I r h
  obtain ⟨l, ns, rfl, hq, l64, q⟩ := h
  rw [Vals.ref1 r]
  obtain ⟨its, rv, p, hz⟩ := I.list hq
  refine call_set_lst ns (I.ok.hd hc) p.isList (by simpa using ints_of_vals rv) (by unfold scanBound; omega) fun h' tk c R hcn k => ?_
  exact ⟨.ref _, upd H s.heap.objs.size (SetO X.w s.heap.objs.size (fun j => decide (j ∈ ns)) c), I.laid (t' := tk) k (Nat.le_refl _) (setO_new R), rfl, q _ c (I.hok.fresh (Nat.le_refl _)) hcn⟩
end
end Sw

set_option maxHeartbeats 4000000
namespace Sw
open PySem PySem.Spec PyProof.Rows L2
/-! ### sum of a tuple of ints -/
theorem preSum_take (ns : List Int) : ∀ k, k ≤ ns.length → preSum (fun i => ns.getD i 0) k = (ns.take k).sum
  | 0, _ => by simp [preSum]
  | k + 1, h => by
    have e : ns[k]? = some ns[k] := by simp
    simp only [preSum]
    rw [preSum_take ns k (by omega), List.take_add_one, e, List.sum_append]
    simp [List.getD_eq_getElem?_getD, e]
section
variable {prog : Program} {w : World} {A : Around} {E : Value → Shared → Prop} {s : Shared}
theorem sum_tup {l : Addr} {its : List Value} {ns : List Int} {Q : Value → Shared → Prop} (hh : A.handled = none) (ht : s.heap.IsTuple l its.toArray) (hi : IntsAre its ns)
    (h : ∀ h' tk t', (∀ b o, s.heap.get? b = some o → h'.get? b = some o) → Q (.int ns.sum t') { s with heap := h', toks := tk }) : wpAny (model prog w) A (call (.builtin "sum") [.ref l]) Q E s := by
  have hlt : l < s.heap.objs.size := by
    obtain ⟨_, e, _⟩ := ht
    exact Heap.lt_size e
  refine call_sum_walkG (wpAny_pyIter_tuple ht ?_)
  refine ⟨_, _, _, _, _, _, fun i => ns.getD i 0, rfl, Walks.tuple (A := A.in1) hh _ l (Nat.ne_of_lt hlt) its.toArray, ⟨⟨_, Heap.get?_push_size _ rfl, rfl, rfl⟩, ht.push _⟩, fun b hb => ?_, fun i v hv => ?_, fun h' tk t' hk => ?_⟩
  · have sz : (s.heap.push { cls := .type "tuple_iterator", data := .fields #[.ref l, .int 0 0] }).objs.size = s.heap.objs.size + 1 := Heap.size_push ..
    rw [sz]
    rcases List.mem_cons.mp hb with z | z
    · rw [z]
      exact Nat.lt_succ_self _
    · rw [List.mem_singleton.mp z]
      exact Nat.lt_succ_of_lt hlt
  · exact PyProof.Rows.IntsAre.int_at hi i v (by simpa using hv)
  · have e : preSum (fun i => ns.getD i 0) its.toArray.size = ns.sum := by
      rw [List.size_toArray, hi.length, preSum_take ns _ (Nat.le_refl _), List.take_length]
    rw [e]
    refine h h' tk t' fun b o g => hk b o (fun m => ?_) (Heap.get?_push_of_some _ g)
    have := Heap.lt_size g
    rw [List.mem_singleton.mp m] at this
    exact absurd this (Nat.lt_irrefl _)
end
section
variable {X : Cx} {K : PySem.W.Frag}
def rSumQ (K : PySem.W.Frag) : List V → Hp → VK → Prop := fun vs H Q => ∃ (a : Addr) (ns : List Int), vs = [V.ref a] ∧ SqT K H a (ns.map V.int) ∧ Q (.int ns.sum) H
theorem cr_sumQ (hc : X.calm = true) : CallR X (.builtin "sum") (rSumQ X.K) := by
  intro pins s σ H vs us Q I r h
  obtain ⟨a, ns, rfl, hs, q⟩ := h
  obtain ⟨its, rv, hl, _⟩ := I.tuple hs
  rw [Vals.ref1 r]
  exact sum_tup (I.ok.hd hc) (show s.heap.IsTuple a its.toArray from hl) rv.ints fun h' tk t' hk => ⟨.int _, H, I.kept hk, ⟨_, rfl⟩, q⟩
theorem kSet {w : World} (hw : X.w = w) (hK : X.K = K) (hc : X.calm = true) : CallR X (.type "set") (rSetLst K w) := by
  subst hw hK
  exact cr_setL hc
theorem kSortSet {w : World} (hw : X.w = w) (hc : X.calm = true) : CallR X (.builtin "sorted") (rSortedSet w) := by
  subst hw
  exact cr_sortedSet hc
theorem kZipS {e e2 : Expr} {ta : TA} {p pos tpos : Pos} {elts : List Expr} {kk : Nat} (h : X.K = K) (hg : Gl X "zip") (hm : X.mg "zip" = none) (ha : PA X [e, e2] ta)
    (hs : starEach [e, e2] X.env = (false, eval e X.env) :: starEach [e2] X.env := by rfl) (hpl : (backTo pos (starEach [e2] X.env)).any (·.1) = false := by rfl) :
    PI X (.Tuple elts kk tpos) (.Call (.Name "zip" p) [e, e2] [] pos) (iZipS K ta) := by
  subst h
  exact pi_zipS hg hm ha hs hpl
end
end Sw

set_option maxHeartbeats 4000000
namespace Sw
open PySem PySem.Spec PyProof.Rows L2
/-! ### zip of any number of tuples -/
section
variable {M : Model} {A : Around} {E : Value → Shared → Prop}
theorem forIn_wp {α β : Type} {f : α → β → Sem (ForInStep β)} (I : Nat → β → Shared → Prop) (l : List α) (hs : ∀ k x b s, l[k]? = some x → I k b s → wpAny M A (f x b) (fun r s' => ∃ b', r = .yield b' ∧ I (k + 1) b' s') E s) {Q : β → Shared → Prop} (hd : ∀ b s, I l.length b s → Q b s) :
    ∀ b s, I 0 b s → wpAny M A (forIn l b f) Q E s := by
  have go : ∀ (l2 : List α) (k : Nat), l.drop k = l2 → k ≤ l.length → ∀ b s, I k b s → wpAny M A (forIn l2 b f) Q E s := by
    intro l2
    induction l2 with
    | nil =>
      intro k e hk b s h
      have z := congrArg List.length e
      rw [List.length_drop, List.length_nil] at z
      have : k = l.length := by omega
      subst this
      rw [List.forIn_nil]
      exact wpAny_pure (hd b s h)
    | cons x l2 ih =>
      intro k e hk b s h
      have hx : l[k]? = some x := by
        rw [← List.head?_drop, e]
        rfl
      have lk := (List.getElem?_eq_some_iff.mp hx).1
      rw [List.forIn_cons]
      refine wpAny_bind (wpAny_mono (hs k x b s hx h) (fun r s' hr => ?_) fun _ _ z => z)
      obtain ⟨b', rfl, h'⟩ := hr
      refine ih (k + 1) ?_ (by omega) b' s' h'
      rw [← List.drop_drop, e]
      rfl
  exact fun b s h => go l 0 (by simp) (Nat.zero_le _) b s h
theorem wp_alive {a : Addr} {Q : Option Obj → Shared → Prop} {s : Shared} (h : Q (s.heap.get? a) s) : wpAny M A (loadIfAlive a) Q E s := fun Γ p hp => by
  unfold loadIfAlive
  rw [Sem.wp_loadIfAlive, Sem.wp_pure]
  exact h
end
/-- the k-th iterator at place f k of the k-th tuple -/
def Its (h : Heap) (its ts : List Addr) (rows : List (Array Value)) (f : Nat → Nat) : Prop := ∀ (k : Nat) (it t : Addr) (us : Array Value), its[k]? = some it → ts[k]? = some t → rows[k]? = some us → h.IsTupleIter it t (f k) ∧ h.IsTuple t us
abbrev zobj (f0 f1 : Value) (TI TO : Addr) : Obj := { cls := .type "zip", data := .fields #[f0, f1, .bool false, .ref TI, .ref TO] }
abbrev tobj (vs : List Value) : Obj := { cls := .type "tuple", data := .seq vs.toArray }
structure SepN (z TI TO : Addr) (its ts : List Addr) : Prop where
  nd : its.Nodup
  zi : z ∉ its
  Ii : TI ∉ its
  Oi : TO ∉ its
  zt : z ∉ ts
  Ot : TO ∉ ts
  it : ∀ a ∈ its, a ∉ ts
  Iz : TI ≠ z
  Oz : TO ≠ z
  IO : TI ≠ TO
section
variable {prog : Program} {w : World} {A : Around} {E : Value → Shared → Prop} {s : Shared} {z TI TO : Addr} {its ts : List Addr} {rows : List (Array Value)} {i : Nat}
/-- how the heap stands amid a turn: as far as k -/
structure Amid (h0 h : Heap) (z TI TO : Addr) (its ts : List Addr) (rows : List (Array Value)) (i k : Nat) (f0 f1 : Value) (os : List Value) : Prop where
  zo : h.get? z = some (zobj f0 f1 TI TO)
  ti : h.get? TI = some (tobj (its.map Value.ref))
  to : h.get? TO = some (tobj os)
  st : Its h its ts rows fun j => if j < k then i + 1 else i
  sz : h.objs.size = h0.objs.size
  kp : ∀ c o, c ≠ z → c ≠ TO → c ∉ its → h0.get? c = some o → h.get? c = some o
/-- one iterator more -/
theorem Amid.step {h0 h h' : Heap} {k : Nat} {f0 f1 : Value} {os : List Value} {it t : Addr} (S : SepN z TI TO its ts) (a : Amid h0 h z TI TO its ts rows i k f0 f1 os) (e1 : its[k]? = some it) (e2 : ts[k]? = some t) (hs : Heap.SameBut it h h') (ni : h'.IsTupleIter it t (i + 1)) : Amid h0 h' z TI TO its ts rows i (k + 1) f0 f1 os := by
  have mi := List.mem_of_getElem? e1
  have ne : ∀ c, c ∉ its → c ≠ it := fun c n e => n (e ▸ mi)
  refine ⟨hs.extBut _ _ (ne _ S.zi) a.zo, hs.extBut _ _ (ne _ S.Ii) a.ti, hs.extBut _ _ (ne _ S.Oi) a.to, ?_, by rw [hs.1, a.sz], fun c o c1 c2 c3 e => hs.extBut _ _ (ne c c3) (a.kp c o c1 c2 c3 e)⟩
  intro j it' t' us g1 g2 g3
  obtain ⟨st1, st2⟩ := a.st j it' t' us g1 g2 g3
  have ht' : t' ≠ it := fun e => S.it it mi (e ▸ List.mem_of_getElem? g2)
  have st2' : h'.IsTuple t' us := st2.at fun o e => hs.extBut _ _ ht' e
  by_cases c : j = k
  · subst c
    rw [e1] at g1
    rw [e2] at g2
    cases g1
    cases g2
    exact ⟨by show h'.IsTupleIter it t (if j < j + 1 then i + 1 else i); rw [if_pos (Nat.lt_succ_self _)]; exact ni, st2'⟩
  · have n2 : it' ≠ it := fun e => c (by
      obtain ⟨l1, q1⟩ := List.getElem?_eq_some_iff.mp g1
      obtain ⟨l2, q2⟩ := List.getElem?_eq_some_iff.mp e1
      exact (List.getElem_inj S.nd).mp (q1.trans (e.trans q2.symm)))
    have e3 : (if j < k + 1 then i + 1 else i) = (if j < k then i + 1 else i) := by
      by_cases d : j < k
      · rw [if_pos d, if_pos (by omega)]
      · rw [if_neg d, if_neg (by omega)]
    exact ⟨by show h'.IsTupleIter it' t' (if j < k + 1 then i + 1 else i); rw [e3]; exact Heap.IsTupleIter.at st1 fun o e => hs.extBut _ _ n2 e, st2'⟩
theorem Amid.put {h0 h h' : Heap} {k : Nat} {f0 f1 : Value} {os os' : List Value} (S : SepN z TI TO its ts) (a : Amid h0 h z TI TO its ts rows i k f0 f1 os) (hs : Heap.SameBut TO h h') (ho : h'.get? TO = some (tobj os')) : Amid h0 h' z TI TO its ts rows i k f0 f1 os' := by
  refine ⟨hs.extBut _ _ S.Oz.symm a.zo, hs.extBut _ _ S.IO a.ti, ho, ?_, by rw [hs.1, a.sz], fun c o c1 c2 c3 e => hs.extBut _ _ c2 (a.kp c o c1 c2 c3 e)⟩
  intro j it' t' us g1 g2 g3
  obtain ⟨st1, st2⟩ := a.st j it' t' us g1 g2 g3
  exact ⟨Heap.IsTupleIter.at st1 fun o e => hs.extBut _ _ (fun q => S.Oi (q ▸ List.mem_of_getElem? g1)) e, st2.at fun o e => hs.extBut _ _ (fun q => S.Ot (q ▸ List.mem_of_getElem? g2)) e⟩
theorem Amid.mark {h0 h h' : Heap} {k : Nat} {f0 f1 g0 g1 : Value} {os : List Value} (S : SepN z TI TO its ts) (a : Amid h0 h z TI TO its ts rows i k f0 f1 os) (hs : Heap.SameBut z h h') (hz : h'.get? z = some (zobj g0 g1 TI TO)) : Amid h0 h' z TI TO its ts rows i k g0 g1 os := by
  refine ⟨hz, hs.extBut _ _ S.Iz a.ti, hs.extBut _ _ S.Oz a.to, ?_, by rw [hs.1, a.sz], fun c o c1 c2 c3 e => hs.extBut _ _ c1 (a.kp c o c1 c2 c3 e)⟩
  intro j it' t' us e1 e2 e3
  obtain ⟨st1, st2⟩ := a.st j it' t' us e1 e2 e3
  exact ⟨Heap.IsTupleIter.at st1 fun o e => hs.extBut _ _ (fun q => S.zi (q ▸ List.mem_of_getElem? e1)) e, st2.at fun o e => hs.extBut _ _ (fun q => S.zt (q ▸ List.mem_of_getElem? e2)) e⟩
/-- what the turn tells -/
def tells (rows : List (Array Value)) (i : Nat) : List Value := rows.map fun us => us.getD i .none
theorem tells_len (rows : List (Array Value)) (i : Nat) : (tells rows i).length = rows.length := by simp [tells]
/-- how the heap stands behind a turn -/
structure Turned (h0 h : Heap) (z TI TO : Addr) (its ts : List Addr) (rows : List (Array Value)) (i : Nat) : Prop where
  zo : ∃ g0 g1, h.get? z = some (zobj g0 g1 TI TO) ∧ (g0 = .none ∨ ∃ a, g0 = rawInt a)
  ti : h.get? TI = some (tobj (its.map Value.ref))
  to : ∃ os, os.length = its.length ∧ h.get? TO = some (tobj os)
  st : Its h its ts rows fun _ => i + 1
  tup : h.get? h0.objs.size = some (tobj (tells rows i))
  kp : ∀ c o, c ≠ z → c ≠ TO → c ∉ its → h0.get? c = some o → h.get? c = some o
/-- one turn of an iterator -/
theorem draw_at {h0 : Heap} {k : Nat} {f0 f1 : Value} {os : List Value} {it t : Addr} {us : Array Value} {Q : Value → Shared → Prop} (hh : A.handled = none) (S : SepN z TI TO its ts) (a : Amid h0 s.heap z TI TO its ts rows i k f0 f1 os) (e1 : its[k]? = some it) (e2 : ts[k]? = some t) (e3 : rows[k]? = some us) (hi : i < us.size)
    (hQ : ∀ h' tk, Amid h0 h' z TI TO its ts rows i (k + 1) f0 f1 os → Q (us.getD i .none) { s with heap := h', toks := tk }) : wpAny (model prog w) A (Builtin.SmallTypes.nextOf (.ref it)) Q E s := by
  obtain ⟨st1, st2⟩ := a.st k it t us e1 e2 e3
  have st1 : s.heap.IsTupleIter it t (if k < k then i + 1 else i) := st1
  rw [if_neg (Nat.lt_irrefl _)] at st1
  have nt : t ≠ it := fun e => S.it it (List.mem_of_getElem? e1) (e ▸ List.mem_of_getElem? e2)
  refine (Draws.tuple (prog := prog) (w := w) hh it t nt us).item i s Q E hi ⟨st1, st2⟩ fun x h' tk hx st' hs => ?_
  have hx : us[i]? = some x := hx
  have : x = us.getD i .none := by
    rw [Array.getD_eq_getD_getElem?, hx]
    rfl
  rw [this]
  exact hQ h' tk (a.step S e1 e2 hs st'.1)
theorem next_free {f0 f1 : Value} {os : List Value} {x : Addr} {rest : List Addr} {Q : Value → Shared → Prop} (hh : A.handled = none) (S : SepN z TI TO (x :: rest) ts) (a : Amid s.heap s.heap z TI TO (x :: rest) ts rows i 0 f0 f1 os) (hf : f0 = .none ∨ ∃ n, f0 = rawInt n ∧ (s.heap.get? n.toNat).isNone = true) (l1 : (x :: rest).length = ts.length) (l2 : rows.length = (x :: rest).length) (l3 : os.length = (x :: rest).length) (hi : ∀ us ∈ rows, i < us.size) (small : (x :: rest).length ≤ 1000)
    (hQ : ∀ h' tk, Turned s.heap h' z TI TO (x :: rest) ts rows i → Q (.ref s.heap.objs.size) { s with heap := h', toks := tk }) :
    wpAny (model prog w) A (Builtin.«zip.__next__» ⟨[.ref z], []⟩) (fun fin s' => ∃ v, fin = .done (.ret v) ∧ Q v s') E s := by
  obtain ⟨hp, g, d, tk0, os0⟩ := s
  show wpAny _ _ (field (.ref z) 2 >>= _) _ _ _
  refine wpAny_bind (wpAny_field a.zo rfl (x := .bool false) rfl ?_)
  show wpAny _ _ (field (.ref z) 3 >>= _) _ _ _
  refine wpAny_bind (wpAny_field a.zo rfl (x := .ref TI) rfl (wpAny_bind (wpAny_seqItems a.ti rfl ?_)))
  show wpAny _ _ (Builtin.SmallTypes.ownedTupleIsFree (.ref z) >>= _) _ _ _
  refine wpAny_bind (wpAny_mono (Q := fun c s' => c = true ∧ s' = ⟨hp, g, d, tk0, os0⟩) ?_ (fun c s' hc => ?_) fun _ _ e => e)
  · unfold Builtin.SmallTypes.ownedTupleIsFree
    refine wpAny_bind (wpAny_field a.zo rfl (x := f0) rfl ?_)
    rcases hf with rfl | ⟨n, rfl, gone⟩
    · exact wpAny_pure ⟨rfl, rfl⟩
    · refine wpAny_bind (wp_alive ?_)
      have gone : (hp.get? n.toNat).isNone = true := gone
      simp only [gone, if_true]
      exact wpAny_pure ⟨rfl, rfl⟩
  obtain ⟨rfl, rfl⟩ := hc
  simp only [if_true]
  refine wpAny_bind (wpAny_rule (wpAny_bind (wpAny_field a.zo rfl (x := .ref TO) rfl ?_)))
  refine wpAny_bind (wpAny_setField_rec a.zo (by simp) fun g0 hz0 hs0 => ?_)
  replace hs0 : Heap.SameBut z hp g0 := hs0
  have a0 : Amid hp g0 z TI TO (x :: rest) ts rows i 0 .ellipsis f1 os := a.mark S hs0 hz0
  refine wpAny_bind ?_
  refine forIn_wp (fun k b s' => b = (none, ()) ∧ ∃ h tk os', s' = ⟨h, g, d, tk, os0⟩ ∧ Amid hp h z TI TO (x :: rest) ts rows i k .ellipsis f1 os' ∧ os'.length = (x :: rest).length ∧ ∀ j, j < k → os'[j]? = (tells rows i)[j]?) _ ?_ ?_ _ _ ⟨rfl, g0, tk0, os, rfl, a0, l3, fun j hj => absurd hj (Nat.not_lt_zero _)⟩
  · rintro k y b s' hy ⟨rfl, h, tk, os', rfl, ak, lo, ho⟩
    rw [List.getElem?_zipIdx, List.getElem?_map] at hy
    obtain ⟨v, hv, rfl⟩ := Option.map_eq_some_iff.mp hy
    obtain ⟨it, hit, rfl⟩ := Option.map_eq_some_iff.mp hv
    have lk := (List.getElem?_eq_some_iff.mp hit).1
    have e2 : ts[k]? = some ts[k] := by simp
    have e3 : rows[k]? = some rows[k] := by simp
    have ek : 0 + k = k := Nat.zero_add k
    refine wpAny_bind (wpAny_onRaise ?_)
    show wpAny _ _ (Builtin.SmallTypes.nextOf (.ref it) >>= _) _ _ ⟨h, g, d, tk, os0⟩
    refine wpAny_bind (draw_at (s := ⟨h, g, d, tk, os0⟩) hh S ak hit e2 e3 (hi _ (List.mem_of_getElem? e3)) fun h' tk' ak' => wpAny_pure ?_)
    refine wpAny_bind (wpAny_seqItems (s := ⟨h', g, d, tk', os0⟩) ak'.to rfl ?_)
    refine wpAny_bind (wpAny_updateSeq (s := ⟨h', g, d, tk', os0⟩) ak'.to rfl ?_ (_hz' := by
      rw [Array.size_setIfInBounds, List.size_toArray]
      have := small1000 (n := os'.length) (by omega)
      omega))
    refine wpAny_bind (wpAny_letGo (wpAny_pure ⟨_, rfl, rfl, _, tk', os'.set k (rows[k].getD i .none), rfl, ak'.put S (Heap.SameBut.update ..) ?_, by simpa using lo, fun j hj => ?_⟩))
    · rw [Heap.get?_update_self _ ak'.to rfl]
      simp [Obj.mapSeq, ek]
    · rw [List.getElem?_set]
      have er : (tells rows i)[k]? = some (rows[k].getD i .none) := by
        unfold tells
        rw [List.getElem?_map, e3]
        rfl
      by_cases c : k = j
      · subst c
        rw [if_pos rfl, if_pos (by omega), er]
      · rw [if_neg c]
        exact ho j (by omega)
  · rintro b s' ⟨rfl, h, tk, os', rfl, ak, lo, ho⟩
    have ek : ((x :: rest).map Value.ref).zipIdx.length = (x :: rest).length := by simp
    rw [ek] at ak ho
    have eo : os' = tells rows i := by
      apply List.ext_getElem?
      intro j
      by_cases c : j < (x :: rest).length
      · exact ho j c
      · rw [List.getElem?_eq_none (by omega), List.getElem?_eq_none (by rw [tells_len]; omega)]
    subst eo
    show wpAny _ _ (seqItems? (.ref TO) >>= _) _ _ ⟨h, g, d, tk, os0⟩
    refine wpAny_bind (wpAny_seqItems (s := ⟨h, g, d, tk, os0⟩) ak.to rfl ?_)
    refine wpAny_bind (wpAny_newTuple ?_ (by rw [tells_len]; exact Nat.le_of_lt (small1000 (by omega))))
    have hzlt : z < h.objs.size := Heap.lt_size ak.zo
    have hz6 : (h.push (tobj (tells rows i))).get? z = some (zobj .ellipsis f1 TI TO) := Heap.get?_push_of_some _ ak.zo
    show wpAny _ _ (Builtin.SmallTypes.ownedTupleHandOut (.ref z) (.ref h.objs.size) >>= _) _ _ ⟨h.push (tobj (tells rows i)), g, d, tk, os0⟩
    refine wpAny_bind ?_
    unfold Builtin.SmallTypes.ownedTupleHandOut
    refine wpAny_bind (wpAny_setField_rec hz6 (by simp) fun h7 hz7 hs7 => ?_)
    refine wpAny_setField_rec hz7 (by simp) fun h8 hz8 hs8 => ?_
    replace hs7 : Heap.SameBut z (h.push (tobj (tells rows i))) h7 := hs7
    replace hs8 : Heap.SameBut z h7 h8 := hs8
    have up : ∀ c o, c ≠ z → h.get? c = some o → h8.get? c = some o := fun c o c1 e => hs8.extBut _ _ c1 (hs7.extBut _ _ c1 (Heap.get?_push_of_some _ e))
    have esz : h.objs.size = hp.objs.size := ak.sz
    refine wpAny_pure ⟨_, rfl, ?_⟩
    have res := hQ h8 tk ⟨⟨_, _, hz8, .inr ⟨_, rfl⟩⟩, up _ _ S.Iz ak.ti, ⟨_, by rw [tells_len, l2], up _ _ S.Oz ak.to⟩, fun j it' t' us e1 e2 e3 => ?_, ?_, fun c o c1 c2 c3 e => up c o c1 (ak.kp c o c1 c2 c3 e)⟩
    · show Q (.ref h.objs.size) ⟨h8, g, d, tk, os0⟩
      rw [esz]
      exact res
    · obtain ⟨st1, st2⟩ := ak.st j it' t' us e1 e2 e3
      have lj := (List.getElem?_eq_some_iff.mp e1).1
      have st1 : h.IsTupleIter it' t' (if j < (x :: rest).length then i + 1 else i) := st1
      rw [if_pos lj] at st1
      exact ⟨Heap.IsTupleIter.at st1 fun o e => up _ _ (fun q => S.zi (q ▸ List.mem_of_getElem? e1)) e, st2.at fun o e => up _ _ (fun q => S.zt (q ▸ List.mem_of_getElem? e2)) e⟩
    · show h8.get? hp.objs.size = _
      rw [← esz]
      exact hs8.extBut _ _ (Nat.ne_of_gt hzlt) (hs7.extBut _ _ (Nat.ne_of_gt hzlt) (Heap.get?_push_size _ rfl))
theorem next_kept {f0 : Int} {f1 : Value} {os : List Value} {x : Addr} {rest : List Addr} {Q : Value → Shared → Prop} (hh : A.handled = none) (S : SepN z TI TO (x :: rest) ts) (a : Amid s.heap s.heap z TI TO (x :: rest) ts rows i 0 (rawInt f0) f1 os) (l1 : (x :: rest).length = ts.length) (l2 : rows.length = (x :: rest).length) (l3 : os.length = (x :: rest).length) (hi : ∀ us ∈ rows, i < us.size) (small : (x :: rest).length ≤ 1000) (alive : (s.heap.get? f0.toNat).isNone = false)
    (hQ : ∀ h' tk, Turned s.heap h' z TI TO (x :: rest) ts rows i → Q (.ref s.heap.objs.size) { s with heap := h', toks := tk }) :
    wpAny (model prog w) A (Builtin.«zip.__next__» ⟨[.ref z], []⟩) (fun fin s' => ∃ v, fin = .done (.ret v) ∧ Q v s') E s := by
  obtain ⟨hp, g, d, tk0, os0⟩ := s
  show wpAny _ _ (field (.ref z) 2 >>= _) _ _ _
  refine wpAny_bind (wpAny_field a.zo rfl (x := .bool false) rfl ?_)
  show wpAny _ _ (field (.ref z) 3 >>= _) _ _ _
  refine wpAny_bind (wpAny_field a.zo rfl (x := .ref TI) rfl (wpAny_bind (wpAny_seqItems a.ti rfl ?_)))
  show wpAny _ _ (Builtin.SmallTypes.ownedTupleIsFree (.ref z) >>= _) _ _ _
  refine wpAny_bind ?_
  unfold Builtin.SmallTypes.ownedTupleIsFree
  refine wpAny_bind (wpAny_field a.zo rfl (x := rawInt f0) rfl ?_)
  refine wpAny_bind (wp_alive ?_)
  have alive : (hp.get? f0.toNat).isNone = false := alive
  simp only [alive, Bool.false_eq_true, if_false]
  refine wpAny_bind (wpAny_field a.zo rfl (x := f1) rfl ?_)
  refine wpAny_mono (Q := fun c s' => c = false ∧ ∃ hq g1, s' = ⟨hq, g, d, tk0, os0⟩ ∧ Amid hp hq z TI TO (x :: rest) ts rows i 0 (rawInt f0) g1 os) ?_ (fun c s' hc => ?_) fun _ _ e => e
  · split
    · refine wpAny_bind (wpAny_setField_rec a.zo (by simp) fun h7 hz7 hs7 => wpAny_pure ⟨rfl, h7, _, rfl, a.mark S hs7 hz7⟩)
    · exact wpAny_pure ⟨rfl, hp, f1, rfl, a⟩
  obtain ⟨rfl, hq, g1, rfl, aq⟩ := hc
  simp only [Bool.false_eq_true, if_false]
  rw [← Array.forIn_toList]
  refine wpAny_bind ?_
  refine forIn_wp (fun k b s' => b = (none, ((tells rows i).take k).toArray) ∧ ∃ h tk, s' = ⟨h, g, d, tk, os0⟩ ∧ Amid hp h z TI TO (x :: rest) ts rows i k (rawInt f0) g1 os) _ ?_ ?_ _ _ ⟨rfl, hq, tk0, rfl, aq⟩
  · rintro k y b s' hy ⟨rfl, h, tk, rfl, ak⟩
    have hy : ((x :: rest).map Value.ref)[k]? = some y := hy
    rw [List.getElem?_map] at hy
    obtain ⟨it, hit, rfl⟩ := Option.map_eq_some_iff.mp hy
    have lk := (List.getElem?_eq_some_iff.mp hit).1
    have e2 : ts[k]? = some ts[k] := by simp
    have e3 : rows[k]? = some rows[k] := by simp
    refine wpAny_bind (wpAny_holding ?_)
    show wpAny _ _ (Builtin.SmallTypes.nextOf (.ref it) >>= _) _ _ ⟨h, g, d, tk, os0⟩
    refine wpAny_bind (draw_at (s := ⟨h, g, d, tk, os0⟩) hh S ak hit e2 e3 (hi _ (List.mem_of_getElem? e3)) fun h' tk' ak' => wpAny_pure ?_)
    refine wpAny_pure ⟨_, rfl, ?_, h', tk', rfl, ak'⟩
    have er : (tells rows i)[k]? = some (rows[k].getD i .none) := by
      unfold tells
      rw [List.getElem?_map, e3]
      rfl
    rw [List.take_add_one, er]
    simp
  · rintro b s' ⟨rfl, h, tk, rfl, ak⟩
    have ek : ((x :: rest).map Value.ref).toArray.toList.length = (x :: rest).length := by simp
    rw [ek] at ak ⊢
    have et : (tells rows i).take (x :: rest).length = tells rows i := List.take_of_length_le (by rw [tells_len]; omega)
    rw [et]
    show wpAny _ _ (newTuple (tells rows i) >>= _) _ _ ⟨h, g, d, tk, os0⟩
    refine wpAny_bind (wpAny_newTuple ?_ (by rw [tells_len]; exact Nat.le_of_lt (small1000 (by omega))))
    have up : ∀ c o, h.get? c = some o → (h.push (tobj (tells rows i))).get? c = some o := fun c o e => Heap.get?_push_of_some _ e
    have esz : h.objs.size = hp.objs.size := ak.sz
    refine wpAny_pure ⟨_, rfl, ?_⟩
    have res := hQ (h.push (tobj (tells rows i))) tk ⟨⟨_, _, up _ _ ak.zo, .inr ⟨_, rfl⟩⟩, up _ _ ak.ti, ⟨os, l3, up _ _ ak.to⟩, fun j it' t' us e1 e2 e3 => ?_, ?_, fun c o c1 c2 c3 e => up c o (ak.kp c o c1 c2 c3 e)⟩
    · show Q (.ref h.objs.size) ⟨h.push (tobj (tells rows i)), g, d, tk, os0⟩
      rw [esz]
      exact res
    · obtain ⟨st1, st2⟩ := ak.st j it' t' us e1 e2 e3
      have lj := (List.getElem?_eq_some_iff.mp e1).1
      have st1 : h.IsTupleIter it' t' (if j < (x :: rest).length then i + 1 else i) := st1
      rw [if_pos lj] at st1
      exact ⟨Heap.IsTupleIter.at st1 fun o e => up _ _ e, st2.at fun o e => up _ _ e⟩
    · show (h.push (tobj (tells rows i))).get? hp.objs.size = _
      rw [← esz]
      exact Heap.get?_push_size _ rfl
/-- the end: all are as long as one another, so the first one ends -/
theorem next_ends {f0 f1 : Value} {os : List Value} {x : Addr} {rest : List Addr} {Q : PySem.Fin → Shared → Prop} (hh : A.handled = none) (S : SepN z TI TO (x :: rest) ts) (a : Amid s.heap s.heap z TI TO (x :: rest) ts rows i 0 f0 f1 os) (hf : f0 = .none ∨ ∃ n, f0 = rawInt n) (l1 : (x :: rest).length = ts.length) (l2 : rows.length = (x :: rest).length) (hi : ∀ us ∈ rows, us.size = i)
    (hE : ∀ h' tk e, (∀ c o, c ≠ z → c ≠ TO → c ∉ x :: rest → s.heap.get? c = some o → h'.get? c = some o) → (∃ o, h'.get? e = some o ∧ o.cls = .type "StopIteration") → E (.ref e) { s with heap := h', toks := tk }) :
    wpAny (model prog w) A (Builtin.«zip.__next__» ⟨[.ref z], []⟩) Q E s := by
  obtain ⟨hp, g, d, tk0, os0⟩ := s
  have e1 : (x :: rest)[0]? = some x := rfl
  have lt0 : 0 < ts.length := by
    rw [← l1]
    simp
  have lr0 : 0 < rows.length := by
    rw [l2]
    simp
  have e2 : ts[0]? = some ts[0] := by simp
  have e3 : rows[0]? = some rows[0] := by simp
  have hlast : ∀ (hq : Heap) (g0 g1 : Value) (Q : Value → Shared → Prop) (E' : Value → Shared → Prop), Amid hp hq z TI TO (x :: rest) ts rows i 0 g0 g1 os → (∀ q e, Heap.ExtBut x hq q → (∃ o, q.get? e = some o ∧ o.cls = .type "StopIteration") → E' (.ref e) ⟨q, g, d, tk0, os0⟩) → wpAny (model prog w) A (Builtin.SmallTypes.nextOf (.ref x)) Q E' ⟨hq, g, d, tk0, os0⟩ := fun hq g0 g1 Q E' aq k => by
    obtain ⟨st1, st2⟩ := aq.st 0 x _ _ e1 e2 e3
    have st1 : hq.IsTupleIter x ts[0] (if 0 < 0 then i + 1 else i) := st1
    rw [if_neg (Nat.lt_irrefl _), ← hi _ (List.mem_of_getElem? e3)] at st1
    have nt : ts[0] ≠ x := fun e => S.it x (by simp) (e ▸ List.mem_of_getElem? e2)
    exact (Draws.tuple (prog := prog) (w := w) hh x _ nt _).done ⟨hq, g, d, tk0, os0⟩ Q E' ⟨st1, st2⟩ k
  have nx : ∀ c, c ∉ x :: rest → c ≠ x := fun c n e => n (by rw [e]; simp)
  have zx : z ≠ x := nx z S.zi
  show wpAny _ _ (field (.ref z) 2 >>= _) _ _ _
  refine wpAny_bind (wpAny_field a.zo rfl (x := .bool false) rfl ?_)
  show wpAny _ _ (field (.ref z) 3 >>= _) _ _ _
  refine wpAny_bind (wpAny_field a.zo rfl (x := .ref TI) rfl (wpAny_bind (wpAny_seqItems a.ti rfl ?_)))
  show wpAny _ _ (Builtin.SmallTypes.ownedTupleIsFree (.ref z) >>= _) _ _ _
  refine wpAny_bind (wpAny_mono (Q := fun c s' => ∃ hq g1, s' = ⟨hq, g, d, tk0, os0⟩ ∧ Amid hp hq z TI TO (x :: rest) ts rows i 0 f0 g1 os) ?_ (fun c s' hc => ?_) fun _ _ e => e)
  · unfold Builtin.SmallTypes.ownedTupleIsFree
    refine wpAny_bind (wpAny_field a.zo rfl (x := f0) rfl ?_)
    rcases hf with rfl | ⟨n, rfl⟩
    · exact wpAny_pure ⟨hp, f1, rfl, a⟩
    · refine wpAny_bind (wp_alive ?_)
      split
      · exact wpAny_pure ⟨hp, f1, rfl, a⟩
      · refine wpAny_bind (wpAny_field a.zo rfl (x := f1) rfl ?_)
        split
        · exact wpAny_bind (wpAny_setField_rec a.zo (by simp) fun h7 hz7 hs7 => wpAny_pure ⟨h7, _, rfl, a.mark S hs7 hz7⟩)
        · exact wpAny_pure ⟨hp, f1, rfl, a⟩
  obtain ⟨hq, g1, rfl, aq⟩ := hc
  cases c with
  | true =>
    simp only [if_true]
    refine wpAny_bind (wpAny_rule (wpAny_bind (wpAny_field aq.zo rfl (x := .ref TO) rfl ?_)))
    refine wpAny_bind (wpAny_setField_rec aq.zo (by simp) fun g0 hz0 hs0 => ?_)
    have a0 : Amid hp g0 z TI TO (x :: rest) ts rows i 0 .ellipsis g1 os := aq.mark S hs0 hz0
    refine wpAny_bind ?_
    simp only [List.map_cons, List.zipIdx_cons, List.forIn_cons]
    refine wpAny_bind (wpAny_bind (wpAny_onRaise ?_))
    show wpAny _ _ (Builtin.SmallTypes.nextOf (.ref x) >>= _) _ _ ⟨g0, g, d, tk0, os0⟩
    refine wpAny_bind (hlast g0 _ _ _ _ a0 fun q e hqx he => ?_)
    obtain ⟨oe, hoe, hce⟩ := he
    have hzq : q.get? z = some (zobj .ellipsis g1 TI TO) := hqx _ _ zx a0.zo
    have hez : e ≠ z := fun y => by
      subst y
      rw [hzq] at hoe
      cases hoe
      simp at hce
    refine wpAny_setField_rec (s := ⟨q, g, d, tk0, os0⟩) hzq (by simp) fun q' _ hq' => ?_
    replace hq' : Heap.SameBut z q q' := hq'
    exact hE q' tk0 e (fun c o cz cT ci y => hq'.extBut _ _ cz (hqx _ _ (nx c ci) (a0.kp c o cz cT ci y))) ⟨oe, hq'.extBut _ _ hez hoe, hce⟩
  | false =>
    simp only [Bool.false_eq_true, if_false]
    rw [← Array.forIn_toList]
    refine wpAny_bind ?_
    simp only [List.map_cons, List.forIn_cons]
    refine wpAny_bind (wpAny_bind (wpAny_holding ?_))
    show wpAny _ _ (Builtin.SmallTypes.nextOf (.ref x) >>= _) _ _ ⟨hq, g, d, tk0, os0⟩
    refine wpAny_bind (hlast hq _ _ _ _ aq fun q e hqx he => ?_)
    exact hE q tk0 e (fun c o cz cT ci y => hqx _ _ (nx c ci) (aq.kp c o cz cT ci y)) he
/-- pyNext of the zip -/
theorem zip_item {f0 f1 : Value} {os : List Value} {x : Addr} {rest : List Addr} {Q : Option Value → Shared → Prop} (hh : A.handled = none) (S : SepN z TI TO (x :: rest) ts) (a : Amid s.heap s.heap z TI TO (x :: rest) ts rows i 0 f0 f1 os) (hf : f0 = .none ∨ ∃ n, f0 = rawInt n) (l1 : (x :: rest).length = ts.length) (l2 : rows.length = (x :: rest).length) (l3 : os.length = (x :: rest).length) (hi : ∀ us ∈ rows, i < us.size) (small : (x :: rest).length ≤ 1000)
    (hQ : ∀ h' tk, Turned s.heap h' z TI TO (x :: rest) ts rows i → Q (some (.ref s.heap.objs.size)) { s with heap := h', toks := tk }) :
    wpAny (model prog w) A (pyNext (.ref z)) Q E s := by
  have hT : s.TypeIs (.ref z) "zip" := ⟨_, a.zo, rfl⟩
  have one : wpAny (model prog w) A.in1 (Builtin.«zip.__next__» ⟨[.ref z], []⟩) (fun fin s' => ∃ v, fin = .done (.ret v) ∧ (∃ h' tk, v = .ref s.heap.objs.size ∧ s' = { s with heap := h', toks := tk } ∧ Turned s.heap h' z TI TO (x :: rest) ts rows i)) (fun _ _ => False) s := by
    rcases hf with rfl | ⟨n, rfl⟩
    · exact next_free (A := A.in1) (by simpa using hh) S a (.inl rfl) l1 l2 l3 hi small fun h' tk t => ⟨h', tk, rfl, rfl, t⟩
    · cases e : (s.heap.get? n.toNat).isNone with
      | true => exact next_free (A := A.in1) (by simpa using hh) S a (.inr ⟨n, rfl, e⟩) l1 l2 l3 hi small fun h' tk t => ⟨h', tk, rfl, rfl, t⟩
      | false => exact next_kept (A := A.in1) (by simpa using hh) S a l1 l2 l3 hi small e fun h' tk t => ⟨h', tk, rfl, rfl, t⟩
  unfold pyNext
  refine wpAny_bind (wpAny_attempt (wpAny_callSpecial?_slot (name := Str.ofString "__next__") hT F.slot_zip_next (wpAny_call_entry F.slot_zip_next hT F.entry_zip_next ?_ (F.args_zip_next_1 _))))
  refine wpAny_mono one (fun fin s' hv => ?_) fun _ _ e => e.elim
  obtain ⟨v, rfl, h', tk, rfl, rfl, t⟩ := hv
  exact ⟨_, rfl, wpAny_pure (hQ h' tk t)⟩
theorem zip_end {f0 f1 : Value} {os : List Value} {x : Addr} {rest : List Addr} {Q : Option Value → Shared → Prop} (hh : A.handled = none) (S : SepN z TI TO (x :: rest) ts) (a : Amid s.heap s.heap z TI TO (x :: rest) ts rows i 0 f0 f1 os) (hf : f0 = .none ∨ ∃ n, f0 = rawInt n) (l1 : (x :: rest).length = ts.length) (l2 : rows.length = (x :: rest).length) (hi : ∀ us ∈ rows, us.size = i)
    (hQ : ∀ h' tk, (∀ c o, c ≠ z → c ≠ TO → c ∉ x :: rest → s.heap.get? c = some o → h'.get? c = some o) → Q none { s with heap := h', toks := tk }) : wpAny (model prog w) A (pyNext (.ref z)) Q E s := by
  have hT : s.TypeIs (.ref z) "zip" := ⟨_, a.zo, rfl⟩
  unfold pyNext
  refine wpAny_bind (wpAny_attempt (wpAny_callSpecial?_slot (name := Str.ofString "__next__") hT F.slot_zip_next (wpAny_call_entry F.slot_zip_next hT F.entry_zip_next ?_ (F.args_zip_next_1 _))))
  refine next_ends (A := A.in1) (by simpa using hh) S a hf l1 l2 hi fun h' tk e hk he => ?_
  obtain ⟨o, ho, hc⟩ := he
  refine wpAny_bind (wpAny_isInstance (T := "StopIteration") (b := true) ⟨o, ho, hc⟩ isSubtype_stop ?_)
  exact wpAny_pure (hQ _ _ hk)
end
/-! ### it begins -/
section
variable {prog : Program} {w : World} {A : Around} {E : Value → Shared → Prop} {s : Shared}
def itObj (t : Addr) : Obj := { cls := .type "tuple_iterator", data := .fields #[.ref t, .int 0 0] }
def pushAll (h : Heap) : List Addr → Heap
  | [] => h
  | t :: ts => pushAll (h.push (itObj t)) ts
theorem pushAll_size : ∀ (ts : List Addr) (h : Heap), (pushAll h ts).objs.size = h.objs.size + ts.length
  | [], h => rfl
  | t :: ts, h => by
    have e : (h.push (itObj t)).objs.size = h.objs.size + 1 := Heap.size_push ..
    rw [pushAll, pushAll_size ts, e, List.length_cons]
    omega
theorem pushAll_old : ∀ (ts : List Addr) (h : Heap) (c : Addr) (o : Obj), h.get? c = some o → (pushAll h ts).get? c = some o
  | [], h, c, o, e => e
  | t :: ts, h, c, o, e => pushAll_old ts _ c o (Heap.get?_push_of_some _ e)
theorem pushAll_at : ∀ (ts : List Addr) (h : Heap) (k : Nat) (t : Addr), ts[k]? = some t → (pushAll h ts).get? (h.objs.size + k) = some (itObj t)
  | [], h, k, t, e => by simp at e
  | u :: ts, h, 0, t, e => by
    cases e
    exact pushAll_old ts _ _ _ (Heap.get?_push_size _ rfl)
  | u :: ts, h, k + 1, t, e => by
    have z := pushAll_at ts (h.push (itObj u)) k t e
    have e2 : (h.push (itObj u)).objs.size = h.objs.size + 1 := Heap.size_push ..
    rw [e2] at z
    have e3 : h.objs.size + (k + 1) = h.objs.size + 1 + k := by omega
    rw [e3]
    exact z
def newIts (h : Heap) (n : Nat) : List Addr := (List.range n).map (h.objs.size + ·)
theorem iterAll_tup {ts : List Addr} {Q : List Value → Shared → Prop} (ht : ∀ t ∈ ts, ∃ us, s.heap.IsTuple t us) (h : Q ((newIts s.heap ts.length).map Value.ref) { s with heap := pushAll s.heap ts }) : wpAny (model prog w) A (Builtin.SmallTypes.iterAll (ts.map Value.ref)) Q E s := by
  unfold Builtin.SmallTypes.iterAll
  refine wpAny_bind ?_
  refine forIn_wp (fun k b s' => b = ((newIts s.heap k).map Value.ref).toArray ∧ s' = { s with heap := pushAll s.heap (ts.take k) }) _ ?_ ?_ _ _ ⟨rfl, rfl⟩
  · rintro k y b s' hy ⟨rfl, rfl⟩
    rw [List.getElem?_map] at hy
    obtain ⟨t, ht', rfl⟩ := Option.map_eq_some_iff.mp hy
    obtain ⟨us, hus⟩ := ht t (List.mem_of_getElem? ht')
    have lk := (List.getElem?_eq_some_iff.mp ht').1
    have hus' : (pushAll s.heap (ts.take k)).IsTuple t us := hus.at fun o e => pushAll_old _ _ _ _ e
    refine wpAny_bind (wpAny_holding (wpAny_pyIter_tuple hus' (wpAny_pure ⟨_, rfl, ?_, ?_⟩)))
    · have e : (pushAll s.heap (ts.take k)).objs.size = s.heap.objs.size + k := by
        rw [pushAll_size, List.length_take]
        omega
      unfold newIts
      rw [List.range_succ]
      simp [e]
    · have : ∀ (l : List Addr) (h : Heap), pushAll h (l ++ [t]) = (pushAll h l).push (itObj t) := by
        intro l
        induction l with
        | nil => intro h; rfl
        | cons a l ih => intro h; exact ih _
      rw [List.take_add_one, ht']
      show _ = { s with heap := pushAll s.heap (ts.take k ++ [t]) }
      rw [this]
      rfl
  · rintro b s' ⟨rfl, rfl⟩
    rw [List.length_map, List.take_length]
    exact wpAny_pure h
abbrev zT (h : Heap) (ts : List Addr) : Heap := (pushAll h ts).push (tobj ((newIts h ts.length).map Value.ref))
abbrev zO (h : Heap) (ts : List Addr) : Heap := (zT h ts).push (tobj ((newIts h ts.length).map fun _ => Value.none))
abbrev zZ (h : Heap) (ts : List Addr) : Heap := (zO h ts).push (zobj .none (.bool false) (pushAll h ts).objs.size (zT h ts).objs.size)
theorem meets_zipN (ts : List Addr) : Meets (Builtin.«zip.__new__» ⟨.type "zip" :: ts.map Value.ref, []⟩) (fun _ R s => ((∀ t ∈ ts, ∃ us, s.heap.IsTuple t us) ∧ ts.length ≤ 1000) ∧ R (.ok (.ret (.ref (zO s.heap ts).objs.size))) { s with heap := zZ s.heap ts }) :=
  .of_wp fun prog w A R s h => by
    obtain ⟨hp, g, d, tk, os⟩ := s
    obtain ⟨⟨h1, h2⟩, h⟩ := h
    have hsub := sub_zip
    have q1 : ∀ {A' : Around} {E : Value → Shared → Prop} {Q : List Value → Shared → Prop}, Q ((newIts hp ts.length).map Value.ref) ⟨pushAll hp ts, g, d, tk, os⟩ → wpAny (model prog w) A' (Builtin.SmallTypes.iterAll (ts.map Value.ref)) Q E ⟨hp, g, d, tk, os⟩ := fun q => iterAll_tup (s := ⟨hp, g, d, tk, os⟩) h1 q
    unfold Builtin.«zip.__new__»
    generalize hIA : Builtin.SmallTypes.iterAll = IA at q1
    generalize hNT : newTuple = NT
    generalize hNR : Builtin.SmallTypes.newRecord = NR
    wp_walk using q1
    subst hNT hNR
    have sz : (newIts hp ts.length).length ≤ 1000 := by simpa [newIts] using h2
    refine wpAny_newTuple ?_ (by rw [List.length_map]; exact Nat.le_of_lt (small1000 sz))
    refine wpAny_bind (wpAny_newTuple ?_ (by rw [List.length_map, List.length_map]; exact Nat.le_of_lt (small1000 sz)))
    unfold Builtin.SmallTypes.newRecord
    rw [List.map_map]
    exact wpAny_bind (wpAny_newObj_type (wpAny_pure ⟨_, rfl, h⟩) (by simp [sizeOk]; show 3 ≤ sizeLine; decide))
theorem zip_begins {ts : List Addr} {Q : Value → Shared → Prop} (ht : ∀ t ∈ ts, ∃ us, s.heap.IsTuple t us) (l5 : ts.length ≤ 5)
    (h : Q (.ref (zO s.heap ts).objs.size) { s with heap := zZ s.heap ts }) : wpAny (model prog w) A (call (.type "zip") (ts.map Value.ref)) Q E s := by
  have c1 : checkTypeCall "zip" ⟨ts.map Value.ref, []⟩ = pure () := by
    match ts, l5 with
    | [], _ => kernel_rfl
    | [_], _ => kernel_rfl
    | [_, _], _ => kernel_rfl
    | [_, _, _], _ => kernel_rfl
    | [_, _, _, _], _ => kernel_rfl
    | [_, _, _, _, _], _ => kernel_rfl
    | _ :: _ :: _ :: _ :: _ :: _ :: _, l => simp at l
  have c2 : checkBuiltinCall "zip.__new__" ⟨.type "zip" :: ts.map Value.ref, []⟩ = pure () := by
    match ts, l5 with
    | [], _ => kernel_rfl
    | [_], _ => kernel_rfl
    | [_, _], _ => kernel_rfl
    | [_, _, _], _ => kernel_rfl
    | [_, _, _, _], _ => kernel_rfl
    | [_, _, _, _, _], _ => kernel_rfl
    | _ :: _ :: _ :: _ :: _ :: _ :: _, l => simp at l
  have c3 : ∀ obj, argsOk "object.__init__" ⟨obj :: ts.map Value.ref, []⟩ := by
    intro obj
    unfold argsOk
    match ts, l5 with
    | [], _ => kernel_rfl
    | [_], _ => kernel_rfl
    | [_, _], _ => kernel_rfl
    | [_, _, _], _ => kernel_rfl
    | [_, _, _, _], _ => kernel_rfl
    | [_, _, _, _, _], _ => kernel_rfl
    | _ :: _ :: _ :: _ :: _ :: _ :: _, l => simp at l
  refine callType_new F.called_zip (by decide) c1 c2 c3 F.entry_zip_new (meets_zipN ts) ⟨⟨ht, by omega⟩, ?_⟩
  exact ⟨⟨_, Heap.get?_push_size _ rfl, rfl⟩, h⟩
end
end Sw

set_option maxHeartbeats 4000000
namespace Sw
open PySem PySem.Spec PyProof.Rows L2
/-! ### for x in zip(*rows) -/
def RowsAt (K : PySem.W.Frag) (H : Hp) (ts : List Addr) (xss : List (List V)) : Prop := ts.length = xss.length ∧ ∀ (k : Nat) (t : Addr) (xs : List V), ts[k]? = some t → xss[k]? = some xs → SqT K H t xs
def col (xss : List (List V)) (i : Nat) : List V := xss.map fun xs => xs.getD i .non
def ItN (K : PySem.W.Frag) (ts : List Addr) : It :=
  ⟨fun i H => ∃ xss, RowsAt K H ts xss ∧ ∀ xs ∈ xss, i < xs.length,
    fun i H v H' => ∃ T, v = .ref T ∧ H T = none ∧ ∃ ys, H' = upd H T (.tup ys) ∧ ∀ xss, RowsAt K H ts xss → ys = col xss i,
    fun i H => ∃ xss, RowsAt K H ts xss ∧ ∀ xs ∈ xss, xs.length = i⟩
section
variable {X : Cx} {pins : List (Addr × Obj)} {σ : L2.St} {H : Hp} {s : Shared}
theorem rows_of (I : Inv X pins σ H s) : ∀ {ts : List Addr} {xss : List (List V)}, RowsAt X.K H ts xss → ∃ rows : List (Array Value), rows.length = ts.length ∧ ∀ (k : Nat) (t : Addr) (xs : List V) (us : Array Value), ts[k]? = some t → xss[k]? = some xs → rows[k]? = some us → s.heap.IsTuple t us ∧ Vals xs us.toList ∧ us.size = xs.length
  | [], xss, _ => ⟨[], rfl, fun k t xs us e => by simp at e⟩
  | t :: ts, [], h => by
    have := h.1
    simp at this
  | t :: ts, xs :: xss, h => by
    obtain ⟨rows, l, al⟩ := rows_of I (ts := ts) (xss := xss) ⟨by simpa using h.1, fun k t xs e1 e2 => h.2 (k + 1) t xs e1 e2⟩
    obtain ⟨its, rv, p, hz⟩ := I.tuple (h.2 0 t xs rfl rfl)
    refine ⟨its.toArray :: rows, by simp [l], fun k t' xs' us e1 e2 e3 => ?_⟩
    cases k with
    | zero =>
      cases e1
      cases e2
      cases e3
      exact ⟨p, by simpa using rv, by rw [List.size_toArray]; exact rv.length.symm⟩
    | succ k => exact al k t' xs' us e1 e2 e3
theorem rows_inj (I : Inv X pins σ H s) {ts : List Addr} {xss yss : List (List V)} (h1 : RowsAt X.K H ts xss) (h2 : RowsAt X.K H ts yss) : xss = yss := by
  apply List.ext_getElem?
  intro k
  by_cases c : k < ts.length
  · have e : ts[k]? = some ts[k] := by simp
    have l1 : k < xss.length := by rw [← h1.1]; exact c
    have l2 : k < yss.length := by rw [← h2.1]; exact c
    have g1 : xss[k]? = some xss[k] := by simp
    have g2 : yss[k]? = some yss[k] := by simp
    rw [g1, g2, I.tuple_inj (h1.2 k _ _ e g1) (h2.2 k _ _ e g2)]
  · rw [List.getElem?_eq_none (by rw [← h1.1]; omega), List.getElem?_eq_none (by rw [← h2.1]; omega)]
end
def stN (z TI TO : Addr) (its ts : List Addr) (i : Nat) (h : Heap) : Prop := (∃ f0 f1, h.get? z = some (zobj f0 f1 TI TO) ∧ (f0 = .none ∨ ∃ n, f0 = rawInt n)) ∧ h.get? TI = some (tobj (its.map Value.ref)) ∧ (∃ os, os.length = its.length ∧ h.get? TO = some (tobj os)) ∧ ∀ (k : Nat) (it t : Addr), its[k]? = some it → ts[k]? = some t → h.IsTupleIter it t i
theorem vals_col {i : Nat} : ∀ {xss : List (List V)} {rows : List (Array Value)}, xss.length = rows.length → (∀ (k : Nat) (xs : List V) (us : Array Value), xss[k]? = some xs → rows[k]? = some us → Vals xs us.toList ∧ i < us.size) → Vals (col xss i) (tells rows i)
  | [], [], _, _ => .nil
  | [], _ :: _, l, _ => nomatch l
  | _ :: _, [], l, _ => nomatch l
  | xs :: xss, us :: rows, l, h => by
    obtain ⟨h1, h2⟩ := h 0 xs us rfl rfl
    have lx : i < xs.length := by
      rw [h1.length, Array.length_toList]
      exact h2
    have gx : xs[i]? = some xs[i] := by simp
    obtain ⟨u, hu, ru⟩ := h1.get gx
    have e1 : xs.getD i .non = xs[i] := by rw [List.getD_eq_getElem?_getD, gx]; rfl
    have e2 : us.getD i .none = u := by
      rw [Array.getElem?_toList] at hu
      rw [Array.getD_eq_getD_getElem?, hu]
      rfl
    refine .cons ?_ (vals_col (by simpa using l) fun k xs us e1 e2 => h (k + 1) xs us e1 e2)
    show L2.RelV (xs.getD i .non) (us.getD i .none)
    rw [e1, e2]
    exact ru
theorem turnN {P : Program} {w : World} {K : PySem.W.Frag} {n : Str} {tpos : Pos} {x : Addr} {rest ts : List Addr} {z TI TO : Addr} (S : SepN z TI TO (x :: rest) ts) (l1 : (x :: rest).length = ts.length) (l5 : ts.length ≤ 1000) :
    Turn P w K (.Name n tpos) (ItN K ts) (z :: TI :: TO :: x :: rest) z (stN z TI TO (x :: rest) ts) where
  mem := by simp
  obj := fun i h st c hc => by
    obtain ⟨⟨f0, f1, hz, _⟩, hTI, ⟨os, _, hTO⟩, hit⟩ := st
    rcases List.mem_cons.mp hc with q | hc
    · rw [q]
      exact ⟨_, hz, fun v q => nomatch q⟩
    rcases List.mem_cons.mp hc with q | hc
    · rw [q]
      exact ⟨_, hTI, fun v q => nomatch q⟩
    rcases List.mem_cons.mp hc with q | hc
    · rw [q]
      exact ⟨_, hTO, fun v q => nomatch q⟩
    obtain ⟨k, hk, e⟩ := List.getElem_of_mem hc
    have lk : k < ts.length := by rw [← l1]; exact hk
    obtain ⟨o, ho, _, hd⟩ := hit k c ts[k] (by rw [List.getElem?_eq_getElem hk, e]) (by simp)
    exact ⟨o, ho, fun v q => by rw [hd] at q; cases q⟩
  keep := fun i h h' st k => by
    obtain ⟨⟨f0, f1, hz, hf⟩, hTI, ⟨os, lo, hTO⟩, hit⟩ := st
    exact ⟨⟨f0, f1, k z (by simp) _ hz, hf⟩, k TI (by simp) _ hTI, ⟨os, lo, k TO (by simp) _ hTO⟩, fun j it t e1 e2 => (hit j it t e1 e2).at fun o e => k it (by have := List.mem_of_getElem? e1; simp only [List.mem_cons] at this ⊢; exact .inr (.inr (.inr this))) o e⟩
  item := by
    intro X hP hw hK hc i pins s σ H E I hf st hg
    subst hP hw hK
    obtain ⟨⟨f0, f1, hz, hf0⟩, hTI, ⟨os, lo, hTO⟩, hit⟩ := st
    obtain ⟨xss, hx, lx⟩ := hg
    obtain ⟨rows, lr, al⟩ := rows_of I hx
    have hh : X.A.handled = none := I.ok.hd hc
    have am : Amid s.heap s.heap z TI TO (x :: rest) ts rows i 0 f0 f1 os := ⟨hz, hTI, hTO, fun k it t us e1 e2 e3 => by
      have lk := (List.getElem?_eq_some_iff.mp e2).1
      have lk2 : k < xss.length := by rw [← hx.1]; exact lk
      exact ⟨by show s.heap.IsTupleIter it t (if k < 0 then i + 1 else i); rw [if_neg (Nat.not_lt_zero _)]; exact hit k it t e1 e2, (al k t xss[k] us e2 (by simp) e3).1⟩, rfl, fun c o _ _ _ e => e⟩
    have szs : ∀ us ∈ rows, i < us.size := fun us hu => by
      obtain ⟨k, hk, e⟩ := List.getElem_of_mem hu
      have lk : k < ts.length := by omega
      have lk2 : k < xss.length := by rw [← hx.1]; exact lk
      rw [(al k ts[k] xss[k] us (by simp) (by simp) (by rw [List.getElem?_eq_getElem hk, e])).2.2]
      exact lx _ (List.getElem_mem lk2)
    refine zip_item hh S am hf0 l1 (by omega) lo szs (by omega) fun h' tk t => ?_
    refine ⟨_, rfl, ?_⟩
    have tup := t.tup
    have new : ObjOk X.prog X.w (upd H s.heap.objs.size (.tup (col xss i))) h' s.heap.objs.size (.tup (col xss i)) := by
      refine ⟨?_, tells rows i, vals_col (by rw [← hx.1]; omega) fun k xs us e1 e2 => ?_, ⟨_, tup, rfl, _, rfl⟩⟩
      · show (col xss i).length ≤ sizeLine
        unfold col
        rw [List.length_map, ← hx.1]
        exact Nat.le_of_lt (small1000 l5)
      · have lk := (List.getElem?_eq_some_iff.mp e1).1
        have lk2 : k < ts.length := by rw [hx.1]; exact lk
        obtain ⟨_, g2, g3⟩ := al k ts[k] xs us (by simp) e1 e2
        exact ⟨g2, szs us (List.mem_of_getElem? e2)⟩
    have I1 : Inv X pins σ (upd H s.heap.objs.size (.tup (col xss i))) { s with heap := h', toks := tk } := by
      refine I.turnedNew (t' := tk) (ch := z :: TI :: TO :: x :: rest) (fun c o hb q => ?_) hf (Nat.le_refl _) new
      simp only [List.mem_cons, not_or] at hb
      exact t.kp c o hb.1 hb.2.2.1 (by simp only [List.mem_cons, not_or]; exact hb.2.2.2) q
    refine wpAny_pure ⟨.ref s.heap.objs.size, _, I1, rfl, ⟨_, rfl, I.hok.fresh (Nat.le_refl _), col xss i, rfl, fun yss hy => by rw [rows_inj I hy hx]⟩, ?_, fun c hcm => ?_⟩
    · obtain ⟨g0, g1, hz', hg0⟩ := t.zo
      obtain ⟨os', lo', hTO'⟩ := t.to
      refine ⟨⟨g0, g1, hz', hg0⟩, t.ti, ⟨os', lo', hTO'⟩, fun k it tt e1 e2 => ?_⟩
      have lk := (List.getElem?_eq_some_iff.mp e2).1
      have lk2 : k < rows.length := by omega
      exact (t.st k it tt rows[k] e1 e2 (by simp)).1
    · have lt : c < s.heap.objs.size := by
        rcases List.mem_cons.mp hcm with q | hcm
        · rw [q]
          exact Heap.lt_size hz
        rcases List.mem_cons.mp hcm with q | hcm
        · rw [q]
          exact Heap.lt_size hTI
        rcases List.mem_cons.mp hcm with q | hcm
        · rw [q]
          exact Heap.lt_size hTO
        obtain ⟨k, hk, e⟩ := List.getElem_of_mem hcm
        have lk : k < ts.length := by rw [← l1]; exact hk
        obtain ⟨o, ho, _⟩ := hit k c ts[k] (by rw [List.getElem?_eq_getElem hk, e]) (by simp)
        exact Heap.lt_size ho
      rw [upd_ne (Nat.ne_of_lt lt)]
      exact (hf c hcm).1
  done := by
    intro X hP hw hK hc i pins s σ H E I hf st hg
    subst hP hw hK
    obtain ⟨⟨f0, f1, hz, hf0⟩, hTI, ⟨os, lo, hTO⟩, hit⟩ := st
    obtain ⟨xss, hx, lx⟩ := hg
    obtain ⟨rows, lr, al⟩ := rows_of I hx
    have hh : X.A.handled = none := I.ok.hd hc
    have am : Amid s.heap s.heap z TI TO (x :: rest) ts rows i 0 f0 f1 os := ⟨hz, hTI, hTO, fun k it t us e1 e2 e3 => by
      have lk := (List.getElem?_eq_some_iff.mp e2).1
      have lk2 : k < xss.length := by rw [← hx.1]; exact lk
      exact ⟨by show s.heap.IsTupleIter it t (if k < 0 then i + 1 else i); rw [if_neg (Nat.not_lt_zero _)]; exact hit k it t e1 e2, (al k t xss[k] us e2 (by simp) e3).1⟩, rfl, fun c o _ _ _ e => e⟩
    have szs : ∀ us ∈ rows, us.size = i := fun us hu => by
      obtain ⟨k, hk, e⟩ := List.getElem_of_mem hu
      have lk : k < ts.length := by omega
      have lk2 : k < xss.length := by rw [← hx.1]; exact lk
      rw [(al k ts[k] xss[k] us (by simp) (by simp) (by rw [List.getElem?_eq_getElem hk, e])).2.2]
      exact lx _ (List.getElem_mem lk2)
    refine zip_end hh S am hf0 l1 (by omega) szs fun h' tk hk => ⟨rfl, ?_⟩
    refine I.turnedL (t' := tk) (ch := z :: TI :: TO :: x :: rest) (fun c o hb q => ?_) hf
    simp only [List.mem_cons, not_or] at hb
    exact hk c o hb.1 hb.2.2.1 (by simp only [List.mem_cons, not_or]; exact hb.2.2.2) q
  self := fun A i s Q E st h => by
    obtain ⟨⟨f0, f1, hz, _⟩, _⟩ := st
    have hT : s.TypeIs (.ref z) "zip" := ⟨_, hz, rfl⟩
    refine wpAny_pyIter_slot hT F.slot_zip_iter (wpAny_call_entry F.slot_zip_iter hT F.entry_zip_iter (?_ : wpAny _ _ (ret (.ref z)) _ _ s) (F.args_zip_iter_1 _))
    exact wpAny_pure ⟨_, rfl, "zip", _, hT, F.slot_zip_next.lookup, h⟩
theorem callWith_starT {M : Model} {A : Around} {E : Value → Shared → Prop} {s : Shared} {env : Env} {pos p : Pos} {T : String} {e : Expr} {Q : Value → Shared → Prop} (h : wpAny M A (eval e env) (fun v s1 => PySem.W.StarOf M A E v (fun vs s2 => wpAny M A (call (.type T) vs) Q E s2) s1) E s)
    (he : starEach [.Starred e p] env = [(true, eval e env)] := by rfl) : wpAny M A (callWith pos (.type T) [] (backTo pos (starEach [.Starred e p] env)) []) Q E s := by
  rw [he]
  refine PySem.W.ks_call (P := fun _ => True) rfl (fun h _ => ⟨.machine, .inr (.inl rfl), ?_⟩) (PySem.W.ks_lone ?_)
  · exact fun A Q E s _ q => wpAny_pure q
  · refine wpAny_mono h (fun v s1 h1 => ?_) fun _ _ z => z
    unfold PySem.W.StarOf at h1 ⊢
    exact wpAny_mono h1 (fun b s2 ⟨hb, h2⟩ => ⟨hb, wpAny_mono h2 (fun vs s3 h3 => ⟨trivial, h3⟩) fun _ _ z => z⟩) fun _ _ z => z
def iZipN (K : PySem.W.Frag) (te : TE) : TI := fun σ H R => te σ H fun x H1 => ∃ (p : Addr) (ts : List Addr) (xss : List (List V)), x = .ref p ∧ (SqT K H1 p (ts.map V.ref) ∨ SqL K H1 p (ts.map V.ref)) ∧ 1 ≤ ts.length ∧ ts.length ≤ 5 ∧ RowsAt K H1 ts xss ∧ R (ItN K ts) H1
theorem vals_refs : ∀ {ts : List Addr} {us : List Value}, Vals (ts.map V.ref) us → us = ts.map Value.ref
  | [], _, .nil => rfl
  | t :: ts, _, .cons r h => by
    cases (show _ = Value.ref t from r)
    rw [vals_refs h]
    rfl
theorem newIts_at (h : Heap) {n k : Nat} {it : Addr} (e : (newIts h n)[k]? = some it) : it = h.objs.size + k ∧ k < n := by
  have lk : k < n := by
    have := (List.getElem?_eq_some_iff.mp e).1
    simpa [newIts] using this
  unfold newIts at e
  rw [List.getElem?_map, List.getElem?_range lk] at e
  exact ⟨(Option.some.inj e).symm, lk⟩
theorem pi_zipN {X : Cx} {n : Str} {e : Expr} {te : TE} {p sp pos tpos : Pos} (hg : Gl X "zip") (hm : X.mg "zip" = none) (he : PE X e te)
    (hst : starEach [.Starred e sp] X.env = [(true, eval e X.env)] := by rfl) : PI X (.Name n tpos) (.Call (.Name "zip" p) [.Starred e sp] [] pos) (iZipN X.K te) := by
  refine ⟨fun pins s σ H R I h => Call_ (ld_blt I hg hm PyProof.Rows.boot_zip (callWith_starT (thn (he.run pins s σ H _ I h) fun v s1 ⟨y, H1, I1, ry, q1⟩ => ?_) hst))⟩
  obtain ⟨a, ts, xss, rfl, hq, l1, l5, hx, q⟩ := q1
  obtain rfl : v = Value.ref a := ry
  refine StX.star_any I1 hq fun us s2 I2 rv => ?_
  rw [vals_refs rv]
  obtain ⟨rows, lr, al⟩ := rows_of I2 hx
  have ht : ∀ t ∈ ts, ∃ us, s2.heap.IsTuple t us := fun t htm => by
    obtain ⟨k, hk, e⟩ := List.getElem_of_mem htm
    have lk2 : k < xss.length := by rw [← hx.1]; exact hk
    have lk3 : k < rows.length := by omega
    exact ⟨_, (al k t xss[k] rows[k] (by rw [List.getElem?_eq_getElem hk, e]) (by simp) (by simp)).1⟩
  have lt : ∀ t ∈ ts, t < s2.heap.objs.size := fun t htm => by
    obtain ⟨us, o, e, _⟩ := ht t htm
    exact Heap.lt_size e
  refine zip_begins ht l5 ?_
  have z1 : (pushAll s2.heap ts).objs.size = s2.heap.objs.size + ts.length := pushAll_size ts _
  have z2 : (zT s2.heap ts).objs.size = s2.heap.objs.size + ts.length + 1 := by
    have : (zT s2.heap ts).objs.size = (pushAll s2.heap ts).objs.size + 1 := Heap.size_push ..
    rw [this, z1]
  have z3 : (zO s2.heap ts).objs.size = s2.heap.objs.size + ts.length + 2 := by
    have : (zO s2.heap ts).objs.size = (zT s2.heap ts).objs.size + 1 := Heap.size_push ..
    rw [this, z2]
  have gZ : (zZ s2.heap ts).get? (zO s2.heap ts).objs.size = some (zobj .none (.bool false) (pushAll s2.heap ts).objs.size (zT s2.heap ts).objs.size) := Heap.get?_push_size _ rfl
  have gO : (zZ s2.heap ts).get? (zT s2.heap ts).objs.size = some (tobj ((newIts s2.heap ts.length).map fun _ => Value.none)) := Heap.get?_push_of_some _ (Heap.get?_push_size _ rfl)
  have gT : (zZ s2.heap ts).get? (pushAll s2.heap ts).objs.size = some (tobj ((newIts s2.heap ts.length).map Value.ref)) := Heap.get?_push_of_some _ (Heap.get?_push_of_some _ (Heap.get?_push_size _ rfl))
  have old : ∀ c o, s2.heap.get? c = some o → (zZ s2.heap ts).get? c = some o := fun c o e => Heap.get?_push_of_some _ (Heap.get?_push_of_some _ (Heap.get?_push_of_some _ (pushAll_old ts _ c o e)))
  have gI : ∀ (k : Nat) (it t : Addr), (newIts s2.heap ts.length)[k]? = some it → ts[k]? = some t → (zZ s2.heap ts).IsTupleIter it t 0 := fun k it t e1 e2 => by
    obtain ⟨rfl, _⟩ := newIts_at _ e1
    exact ⟨_, Heap.get?_push_of_some _ (Heap.get?_push_of_some _ (Heap.get?_push_of_some _ (pushAll_at ts _ k t e2))), rfl, rfl⟩
  have mI : ∀ c ∈ newIts s2.heap ts.length, s2.heap.objs.size ≤ c ∧ c < s2.heap.objs.size + ts.length := fun c hc => by
    obtain ⟨k, hk, e⟩ := List.getElem_of_mem hc
    obtain ⟨rfl, lk⟩ := newIts_at (k := k) s2.heap (by rw [List.getElem?_eq_getElem hk, e])
    exact ⟨Nat.le_add_right _ _, Nat.add_lt_add_left lk _⟩
  have sep : SepN (zO s2.heap ts).objs.size (pushAll s2.heap ts).objs.size (zT s2.heap ts).objs.size (newIts s2.heap ts.length) ts := by
    refine ⟨?_, fun m => ?_, fun m => ?_, fun m => ?_, fun m => ?_, fun m => ?_, fun c hc m => ?_, ?_, ?_, ?_⟩
    · unfold newIts List.Nodup
      rw [List.pairwise_map]
      exact (List.nodup_range (n := ts.length)).imp fun h z => h (Nat.add_left_cancel z)
    · have := (mI _ m).2
      rw [z3] at this
      exact Nat.lt_irrefl _ (Nat.lt_of_lt_of_le this (show s2.heap.objs.size + ts.length ≤ s2.heap.objs.size + ts.length + 2 by omega))
    · have := (mI _ m).2
      rw [z1] at this
      exact absurd this (Nat.lt_irrefl _)
    · have := (mI _ m).2
      rw [z2] at this
      exact Nat.lt_irrefl _ (Nat.lt_of_lt_of_le this (show s2.heap.objs.size + ts.length ≤ s2.heap.objs.size + ts.length + 1 by omega))
    · have := lt _ m
      rw [z3] at this
      exact Nat.lt_irrefl _ (Nat.lt_of_lt_of_le this (show s2.heap.objs.size ≤ s2.heap.objs.size + ts.length + 2 by omega))
    · have := lt _ m
      rw [z2] at this
      exact Nat.lt_irrefl _ (Nat.lt_of_lt_of_le this (show s2.heap.objs.size ≤ s2.heap.objs.size + ts.length + 1 by omega))
    · exact absurd (lt c m) (Nat.not_lt_of_le (mI c hc).1)
    · rw [z1, z3]
      exact Nat.ne_of_lt (by omega)
    · rw [z2, z3]
      exact Nat.ne_of_lt (by omega)
    · rw [z1, z2]
      exact Nat.ne_of_lt (by omega)
  have ln : (newIts s2.heap ts.length).length = ts.length := by simp [newIts]
  generalize hits : newIts s2.heap ts.length = its at gO gT gI mI sep ln
  match its, ln with
  | [], ln => exact absurd ln (by simp; omega)
  | x :: rest, ln =>
    have T := turnN (P := X.prog) (w := X.w) (K := X.K) (n := n) (tpos := tpos) sep ln (by omega)
    have new : ∀ c ∈ (zO s2.heap ts).objs.size :: (pushAll s2.heap ts).objs.size :: (zT s2.heap ts).objs.size :: x :: rest, s2.heap.objs.size ≤ c := fun c hc => by
      rcases List.mem_cons.mp hc with q | hc
      · rw [q, z3]
        omega
      rcases List.mem_cons.mp hc with q | hc
      · rw [q, z1]
        omega
      rcases List.mem_cons.mp hc with q | hc
      · rw [q, z2]
        omega
      exact (mI c hc).1
    have st0 : stN (zO s2.heap ts).objs.size (pushAll s2.heap ts).objs.size (zT s2.heap ts).objs.size (x :: rest) ts 0 (zZ s2.heap ts) := ⟨⟨_, _, gZ, .inl rfl⟩, gT, ⟨_, by simp, gO⟩, gI⟩
    refine T.self X.A 0 { s2 with heap := zZ s2.heap ts } _ _ st0 ?_
    exact ⟨_, _, _, _, H1, rfl, I2.kept (t' := s2.toks) old, T, st0, fun c hc => I2.fpOk (new c hc) (I2.hok.fresh (new c hc)), q⟩
theorem walkN {K : PySem.W.Frag} {ts : List Addr} {xss : List (List V)} {n : Nat} (hl : ∀ xs ∈ xss, xs.length = n) : Walk (ItN K ts) n (fun H => RowsAt K H ts xss) (fun i H v H' => ∃ T, v = .ref T ∧ H T = none ∧ H' = upd H T (.tup (col xss i))) := by
  refine ⟨fun i _ hi q => ⟨xss, q, fun xs hx => by rw [hl xs hx]; exact hi⟩, fun _ q => ⟨xss, q, hl⟩, ?_⟩
  rintro i H v H' _ q ⟨T, h1, h2, ys, h3, h4⟩
  exact ⟨T, h1, h2, by rw [h3, h4 xss q]⟩
theorem PE.or {X : Cx} {e : Expr} {t u : TE} (h1 : PE X e t) (h2 : PE X e u) : PE X e (fun σ H Q => t σ H Q ∨ u σ H Q) := ⟨fun pins s σ H Q I h => h.elim (h1.run pins s σ H Q I) (h2.run pins s σ H Q I)⟩
/-! ### t * 1, t * k -/
theorem tuple_mul1 (l : Addr) (items : Array Value) (n : Nat) (dd : Option Addr) (sl : Array (Option Value)) (u : Tok) :
    Meets (Builtin.«tuple.__mul__» ⟨[.ref l, .int 1 u], []⟩) (fun _ R s => s.heap.get? l = some { cls := .type "tuple", dict := dd, data := .seq items n, slots := sl } ∧ R (.ok (.ret (Value.ref l))) s) :=
  .of_wp fun prog w A R s h => by
    obtain ⟨hp, g, d, tk, os⟩ := s
    obtain ⟨hl, h⟩ := h
    have f1 := AutoSeq1.idx_int
    wp_walk using wpAny_loadPart' hl
    exact ⟨_, rfl, h⟩
def rRepT1 (K : PySem.W.Frag) : R2 := fun x y H Q => ∃ l xs, x = .ref l ∧ y = .int 1 ∧ SqT K H l xs ∧ Q (.ref l) H
theorem op_repT1 {X : Cx} : OpR X (binaryOp .Mult) (rRepT1 X.K) := by
  intro pins s σ H x y v u Q I rx ry h
  obtain ⟨l, xs, rfl, rfl, hT, q⟩ := h
  cases rx
  obtain ⟨t, rfl⟩ := ry
  obtain ⟨its, r, ⟨⟨cls, dd, data, sl⟩, ho, hc, n, hd⟩, hs⟩ := I.tuple hT
  simp only at hc hd
  subst hc hd
  refine wpAny_binaryOp_repeat_ref (T := "tuple") (U := "int") (by decide) ⟨_, ho, rfl⟩ (fun s' => typeIs_int s' 1 t) noFill_tuple_mul F.fills_int_mul F.slot_int_rmul repeat_tuple F.slot_int_index.lookup
    (call_meets F.slot_int_rmul (typeIs_int s 1 t) F.entry_int_rmul (F.args_int_rmul_2 _ _) (int_rmul_tuple 1 t l its.toArray n dd sl) ⟨ho, rfl, ⟨_, ho, rfl⟩, call_meets F.slot_tuple_mul ⟨_, ho, rfl⟩ F.entry_tuple_mul (F.args_tuple_mul_2 _ _) (tuple_mul1 l its.toArray n dd sl t) ⟨ho, ?_⟩⟩)
  exact ⟨.ref l, H, I, rfl, q⟩
theorem kIxT {X : Cx} {K : PySem.W.Frag} (h : X.K = K) : IxR X (rIxT K) := by
  subst h
  exact ix_tup
end Sw

set_option maxHeartbeats 4000000
namespace Sw
open PySem PySem.Spec PyProof.Rows L2
/-! ### enumerate(tuple) -/
def enO (it : Addr) : Obj := { cls := .type "enumerate", data := .fields #[.none, .bool false, .ref it, rawInt 0, .none, .none] }
theorem new_enum {v : Value} {o : Obj} {G : Heap → Prop} (B : Begins v o G) :
    Meets (Builtin.«enumerate.__new__» ⟨[.type "enumerate", v], []⟩) fun _ R s => G s.heap ∧
      R (.ok (.ret (.ref (s.heap.push o).objs.size))) { s with heap := (s.heap.push o).push (enO s.heap.objs.size) } :=
  .of_wp fun prog w A R s hs => by
    obtain ⟨hp, gl, dd, tk, oo⟩ := s
    obtain ⟨g1, hR⟩ := hs
    have sub := sub_enumerate
    have itr : ∀ {A2 : Around} {E2 : Value → Shared → Prop} {Q2 : Value → Shared → Prop}, Q2 (.ref hp.objs.size) ⟨hp.push o, gl, dd, tk, oo⟩ → wpAny (model prog w) A2 (pyIter v) Q2 E2 ⟨hp, gl, dd, tk, oo⟩ :=
      fun z => B.iter prog w _ _ ⟨hp, gl, dd, tk, oo⟩ _ g1 z
    wp_walk using itr
    refine wpAny_stack_any fun stk => wpAny_pure ?_
    split
    · rename_i cc _ _ _ _ _
      cases (cc == Value.type "enumerate")
      · wp_walk using itr
        exact ⟨_, rfl, hR⟩
      · wp_walk using itr
        exact ⟨_, rfl, hR⟩
    · wp_walk using itr
      exact ⟨_, rfl, hR⟩
theorem call_enumT {prog : Program} {w : World} {A : Around} {E : Value → Shared → Prop} {s : Shared} {a : Addr} {us : Array Value} {Q : Value → Shared → Prop} (hT : s.heap.IsTuple a us)
    (q : ∀ h2, IsEnum h2 (s.heap.objs.size + 1) s.heap.objs.size 0 .none → h2.IsTupleIter s.heap.objs.size a 0 → h2.objs.size = s.heap.objs.size + 2 → (∀ c o, s.heap.get? c = some o → h2.get? c = some o) → Q (.ref (s.heap.objs.size + 1)) { s with heap := h2 }) :
    wpAny (model prog w) A (call (.type "enumerate") [.ref a]) Q E s := by
  have B := begins_tuple a us
  refine callType_new F.called_enumerate (by decide) (F.typeCall_enumerate_1 _) (F.newCall_enumerate_1 _) (fun ob => F.args_object_init_2 ob _) F.entry_enumerate_new (new_enum B) ⟨hT, ?_⟩
  have sz := Heap.size_push s.heap { cls := .type "tuple_iterator", data := .fields #[.ref a, .int 0 0] }
  show _ ∧ _
  rw [sz]
  have en := Heap.get?_push_size (s.heap.push { cls := .type "tuple_iterator", data := .fields #[.ref a, .int 0 0] }) (o := enO s.heap.objs.size) rfl
  rw [sz] at en
  exact ⟨⟨_, en, rfl⟩, q _ en ⟨_, Heap.get?_push_of_some _ (Heap.get?_push_size _ rfl), rfl, rfl⟩ (by rw [Heap.size_push, sz]) fun c o e => Heap.get?_push_of_some _ (Heap.get?_push_of_some _ e)⟩
def ItET (K : PySem.W.Frag) (a : Addr) : It :=
  ⟨fun i H => ∃ (xs : List V) (x : V), SqT K H a xs ∧ xs[i]? = some x,
   fun i H v H' => ∃ t x, v = .ref t ∧ H t = none ∧ H' = upd H t (.tup [.int (i : Nat), x]) ∧ ∀ xs, SqT K H a xs → xs[i]? = some x,
   fun i H => ∃ xs : List V, SqT K H a xs ∧ xs.length = i⟩
theorem turn_enumT {P : Program} {w : World} {K : PySem.W.Frag} {elts : List Expr} {kk : Nat} {tpos : Pos} (a e it : Addr) :
    Turn P w K (.Tuple elts kk tpos) (ItET K a) [e, it] e fun i h => (∃ old, IsEnum h e it (i : Nat) old) ∧ h.IsTupleIter it a i ∧ e ≠ it ∧ a ≠ it ∧ e ≠ a where
  mem := List.mem_cons_self ..
  obj := fun i h ⟨⟨old, he⟩, ⟨o, ho, _, hd⟩, _⟩ c hc => by
    rcases (by simpa using hc : c = e ∨ c = it) with rfl | rfl
    · exact ⟨_, he, fun v z => nomatch z⟩
    · exact ⟨o, ho, fun v z => by rw [hd] at z; cases z⟩
  keep := fun i h h2 ⟨⟨old, he⟩, hi, n1, n2, n3⟩ k => ⟨⟨old, k e (by simp) _ he⟩, Heap.IsTupleIter.at hi fun o z => k it (by simp) o z, n1, n2, n3⟩
  item := by
    rintro X rfl rfl rfl calm i pins s σ H E I hf ⟨⟨old, he⟩, hit, n1, n2, n3⟩ ⟨xs, x, hq, hx⟩
    obtain ⟨its, rv, tp, hz⟩ := I.tuple hq
    have D := Draws.tuple (prog := X.prog) (w := X.w) (A := X.A.in1) (I.ok.hd calm) it a n2 its.toArray
    have li : i < its.toArray.size := by
      have l1 := (List.getElem?_eq_some_iff.mp hx).1
      have l2 := rv.length
      simp
      omega
    obtain ⟨u, hu, ru⟩ := rv.get hx
    have le : e < s.heap.objs.size := Heap.lt_size he
    have lit : it < s.heap.objs.size := by
      obtain ⟨_, z, _⟩ := hit
      exact Heap.lt_size z
    refine wpAny_pyNext_enum_itemC D he ⟨hit, tp⟩ li n1 (by simp [n1, n3]) fun y h2 tk hy ho st2 hT hsz hk => ⟨_, rfl, ?_⟩
    obtain rfl : y = u := by
      have hy : its.toArray[i]? = some y := hy
      rw [List.getElem?_toArray, hu] at hy
      exact (Option.some.inj hy).symm
    refine wpAny_letOwnedTupleGo_enum (s := { s with heap := h2, toks := tk + 1 }) ho fun h3 he3 sb => ?_
    have hT3 := (sb.2 _ (Nat.ne_of_gt le)).trans hT
    have ok : ObjOk X.prog X.w (upd H s.heap.objs.size (.tup [.int (i : Nat), x])) h3 s.heap.objs.size (.tup [.int (i : Nat), x]) :=
      ⟨by show 2 ≤ sizeLine; decide, [.int i tk, y], .cons ⟨_, rfl⟩ (.cons ru .nil), ⟨_, hT3, rfl, _, rfl⟩⟩
    have I3 : Inv X pins σ (upd H s.heap.objs.size (.tup [.int (i : Nat), x])) { s with heap := h3, toks := tk + 1 } :=
      I.turnedNew (ch := [e, it]) (fun c o hc z => (sb.2 c fun k => hc (by simp [k])).trans (hk c o (fun k => hc (by simp [k])) (fun k => hc (by simp [k])) z)) hf (Nat.le_refl _) ok
    have st3 : h3.IsTupleIter it a (i + 1) := Heap.IsTupleIter.at st2.1 fun o z => (sb.2 it n1.symm).trans z
    refine ⟨.ref s.heap.objs.size, _, I3, rfl, ⟨_, x, rfl, I.hok.fresh (Nat.le_refl _), rfl, fun ys hy => by rw [I.tuple_inj hy hq]; exact hx⟩, ⟨⟨y, ?_⟩, st3, n1, n2, n3⟩, fun c hc => ?_⟩
    · rw [show ((i + 1 : Nat) : Int) = (i : Int) + 1 by omega]
      exact he3
    · have lc : c < s.heap.objs.size := by
        rcases (by simpa using hc : c = e ∨ c = it) with rfl | rfl
        · exact le
        · exact lit
      rw [upd_ne (Nat.ne_of_lt lc)]
      exact (hf c hc).1
  done := by
    rintro X rfl rfl rfl calm i pins s σ H E I hf ⟨⟨old, he⟩, hit, n1, n2, n3⟩ ⟨xs, hq, hx⟩
    obtain ⟨its, rv, tp, hz⟩ := I.tuple hq
    obtain ⟨f0, f1, f2, f3, f4, f5⟩ := hf it (by simp)
    have D := Draws.tuple (prog := X.prog) (w := X.w) (A := X.A.in1) (I.ok.hd calm) it a n2 its.toArray
    have li : i = its.toArray.size := by
      have l2 := rv.length
      simp
      omega
    exact wpAny_pyNext_enum_endD D he ⟨li ▸ hit, tp⟩ fun h2 eb => ⟨rfl, I.turned (t' := s.toks) (fun c o hc z => eb c o hc z) f0 f1 f3 f4 f5⟩
  self := fun A i s Q E ⟨⟨_, he⟩, _⟩ q => wpAny_pyIter_enum he q
def iEnumT (K : PySem.W.Frag) (ta : TA) : TI := fun σ H R => ta σ H fun vs H1 => ∃ a xs, vs = [.ref a] ∧ SqT K H1 a xs ∧ R (ItET K a) H1
theorem pi_enumT {X : Cx} {e : Expr} {ta : TA} {p pos tpos : Pos} {elts : List Expr} {kk : Nat} (hg : Gl X "enumerate") (hm : X.mg "enumerate" = none) (ha : PA X [e] ta) (hs : starEach [e] X.env = [(false, eval e X.env)] := by rfl) :
    PI X (.Tuple elts kk tpos) (.Call (.Name "enumerate" p) [e] [] pos) (iEnumT X.K ta) := by
  refine ⟨fun pins s σ H R I h => Call_ (ld_blt I hg hm boot_enumerate (PyProof.Rows.callWith_type1 (thn (ha.run pos pins s σ H _ I h) fun us s1 ⟨vs, H1, I1, r1, q1⟩ => ?_) hs rfl))⟩
  obtain ⟨a, xs, rfl, hq, q⟩ := q1
  cases r1 with
  | cons r rr =>
    cases rr
    cases r
    obtain ⟨its, rv, tp, hz⟩ := I1.tuple hq
    have la : a < s1.heap.objs.size := by
      obtain ⟨_, z, _⟩ := tp
      exact Heap.lt_size z
    refine call_enumT tp fun h2 he hit hsz hk => wpAny_pyIter_enum he ?_
    refine ⟨s1.heap.objs.size + 1, [s1.heap.objs.size + 1, s1.heap.objs.size], _, _, H1, rfl, I1.kept (t' := s1.toks) hk, turn_enumT a (s1.heap.objs.size + 1) s1.heap.objs.size, ⟨⟨.none, he⟩, hit, Nat.succ_ne_self _, Nat.ne_of_lt la, (Nat.ne_of_lt (Nat.lt_succ_of_lt la)).symm⟩, fun c hc => ?_, q⟩
    have lc : s1.heap.objs.size ≤ c := by
      rcases (by simpa using hc : c = s1.heap.objs.size + 1 ∨ c = s1.heap.objs.size) with rfl | rfl
      · exact Nat.le_succ _
      · exact Nat.le_refl _
    exact I1.fpOk lc (I1.hok.fresh lc)
theorem walk_enumT {K : PySem.W.Frag} {a : Addr} {xs : List V} : Walk (ItET K a) xs.length (fun H => SqT K H a xs) (YPair (fun i => some (.int (i : Nat))) fun i => xs[i]?) :=
  ⟨fun i _ hi z => ⟨xs, xs[i], z, by simp [hi]⟩, fun _ z => ⟨xs, z, rfl⟩, fun i H v H2 _ z ⟨t, x, h1, h2, h3, h4⟩ => ⟨t, .int (i : Nat), x, h1, h2, h3, rfl, h4 xs z⟩⟩
end Sw

set_option maxHeartbeats 4000000
namespace Sw
open PySem PySem.Spec PyProof.Rows L2
/-! ### enumerate of a list or a tuple; dict comprehensions over any walk; a dict beside the bare one -/
theorem PI.or {X : Cx} {tg it : Expr} {u v : TI} (h1 : PI X tg it u) (h2 : PI X tg it v) : PI X tg it (fun σ H R => u σ H R ∨ v σ H R) := ⟨fun pins s σ H R I h => h.elim (h1.run pins s σ H R I) (h2.run pins s σ H R I)⟩
def ItES (kd : Bool) (K : PySem.W.Frag) (a : Addr) : It := match kd with
  | true => Ite K a
  | false => ItET K a
def iEnumS (K : PySem.W.Frag) (ta : TA) : TI := fun σ H R => ta σ H fun vs H1 => ∃ (a : Addr) (kd : Bool) (xs : List V), vs = [.ref a] ∧ SqK kd K H1 a xs ∧ R (ItES kd K a) H1
theorem pi_enumS {X : Cx} {e : Expr} {ta : TA} {p pos tpos : Pos} {elts : List Expr} {kk : Nat} (hg : Gl X "enumerate") (hm : X.mg "enumerate" = none) (ha : PA X [e] ta) (hs : starEach [e] X.env = [(false, eval e X.env)] := by rfl) :
    PI X (.Tuple elts kk tpos) (.Call (.Name "enumerate" p) [e] [] pos) (iEnumS X.K ta) := by
  refine ⟨fun pins s σ H R I h => Call_ (ld_blt I hg hm boot_enumerate (PyProof.Rows.callWith_type1 (thn (ha.run pos pins s σ H _ I h) fun us s1 ⟨vs, H1, I1, r1, q1⟩ => ?_) hs rfl))⟩
  obtain ⟨a, kd, xs, rfl, hq, q⟩ := q1
  have fp : ∀ c ∈ [s1.heap.objs.size + 1, s1.heap.objs.size], FpOk X pins H1 c := fun c hc => by
    have lc : s1.heap.objs.size ≤ c := by
      rcases (by simpa using hc : c = s1.heap.objs.size + 1 ∨ c = s1.heap.objs.size) with rfl | rfl
      · exact Nat.le_succ _
      · exact Nat.le_refl _
    exact I1.fpOk lc (I1.hok.fresh lc)
  cases r1 with
  | cons r rr =>
    cases rr
    cases r
    cases kd with
    | true =>
      obtain ⟨its, rv, tl, hz⟩ := I1.list hq
      refine call_enumerate_list tl.isList fun h2 he hit hsz hk => wpAny_pyIter_enum he ?_
      exact ⟨s1.heap.objs.size + 1, _, _, _, H1, rfl, I1.kept (t' := s1.toks) hk, turn_enum a (s1.heap.objs.size + 1) s1.heap.objs.size, ⟨⟨.none, he⟩, hit, Nat.succ_ne_self _⟩, fp, q⟩
    | false =>
      obtain ⟨its, rv, tp, hz⟩ := I1.tuple hq
      have la : a < s1.heap.objs.size := by
        obtain ⟨_, z, _⟩ := tp
        exact Heap.lt_size z
      refine call_enumT tp fun h2 he hit hsz hk => wpAny_pyIter_enum he ?_
      exact ⟨s1.heap.objs.size + 1, _, _, _, H1, rfl, I1.kept (t' := s1.toks) hk, turn_enumT a (s1.heap.objs.size + 1) s1.heap.objs.size, ⟨⟨.none, he⟩, hit, Nat.succ_ne_self _, Nat.ne_of_lt la, (Nat.ne_of_lt (Nat.lt_succ_of_lt la)).symm⟩, fp, q⟩
theorem walk_enumS {K : PySem.W.Frag} {a : Addr} {kd : Bool} {xs : List V} : Walk (ItES kd K a) xs.length (fun H => SqK kd K H a xs) (YPair (fun i => some (.int (i : Nat))) fun i => xs[i]?) := by
  cases kd
  · exact walk_enumT
  · exact walk_enum
theorem kEnumS {X : Cx} {K : PySem.W.Frag} {e : Expr} {ta : TA} {p pos tpos : Pos} {elts : List Expr} {kk : Nat} (h : X.K = K) (hg : Gl X "enumerate") (hm : X.mg "enumerate" = none) (ha : PA X [e] ta) (hs : starEach [e] X.env = [(false, eval e X.env)] := by rfl) :
    PI X (.Tuple elts kk tpos) (.Call (.Name "enumerate" p) [e] [] pos) (iEnumS K ta) := by
  subst h
  exact pi_enumS hg hm ha hs
def ItSq (kd : Bool) (K : PySem.W.Frag) (a : Addr) : It := match kd with
  | true => Itl K a
  | false => Itt K a
theorem walk_sq {K : PySem.W.Frag} {a : Addr} {kd : Bool} {xs : List V} : Walk (ItSq kd K a) xs.length (fun H => SqK kd K H a xs) (YAt xs) := by
  cases kd
  · exact walk_tup
  · exact walk_list
def iSq (K : PySem.W.Frag) (tl : TE) : TI := fun σ H R => tl σ H fun x H1 => ∃ (a : Addr) (kd : Bool) (xs : List V), x = .ref a ∧ SqK kd K H1 a xs ∧ R (ItSq kd K a) H1
theorem pi_sq {X : Cx} {tg l : Expr} {tl : TE} (hl : PE X l tl) : PI X tg l (iSq X.K tl) := by
  have z := pi_seq (tg := tg) hl
  refine ⟨fun pins s σ H R I h => thn (hl.run pins s σ H _ I h) fun v s1 ⟨x, H1, I1, r1, a, kd, xs, e, hq, q⟩ => ?_⟩
  subst e
  obtain rfl : v = Value.ref a := r1
  have fp : ∀ b ∈ [s1.heap.objs.size], FpOk X pins H1 b := fun b hb => by
    cases (List.mem_singleton.mp hb)
    exact I1.fpOk (Nat.le_refl _) (I1.hok.fresh (Nat.le_refl _))
  cases kd with
  | true =>
    obtain ⟨its, rv, p, hz⟩ := I1.list hq
    exact wpAny_pyIter_list p.isList ⟨s1.heap.objs.size, _, _, _, H1, rfl, I1.kept (t' := s1.toks) fun b o e => Heap.get?_push_of_some _ e, turn_list a _, ⟨_, Heap.get?_push_size _ rfl, rfl, rfl⟩, fp, q⟩
  | false =>
    obtain ⟨its, rv, p, hz⟩ := I1.tuple hq
    exact wpAny_pyIter_tuple (show s1.heap.IsTuple a its.toArray from p) ⟨s1.heap.objs.size, _, _, _, H1, rfl, I1.kept (t' := s1.toks) fun b o e => Heap.get?_push_of_some _ e, turn_tuple a _, ⟨_, Heap.get?_push_size _ rfl, rfl, rfl⟩, fp, q⟩
theorem kSq {X : Cx} {K : PySem.W.Frag} {tg l : Expr} {tl : TE} (h : X.K = K) (hl : PE X l tl) : PI X tg l (iSq K tl) := by
  subst h
  exact pi_sq hl
/-- a dict comprehension over a walk -/
theorem dc_it {J : It} {n : Nat} {G : Hp → Prop} {Y : Nat → Hp → V → Hp → Prop} (wk : Walk J n G Y) {g : TG} {tt : TT} {tk tv : TE} {vs : List Nat} {σ : L2.St} {H1 : Hp} {d : Addr} {Qd : Hp → Prop} (Pv : Nat → Hp → Prop) (h0 : Pv 0 (upd H1 d (.dK []))) (hG : ∀ i H, i ≤ n → Pv i H → G H)
    (hs : ∀ i x H H', i < n → Pv i H → Y i H x H' → g x (wipe σ vs) H' fun σ2 H2 => wipe σ2 vs = wipe σ vs ∧ tt σ2 H2 fun b H3 =>
      if b = true then tk σ2 H3 fun y H4 => tv σ2 H4 fun z H5 => ∃ kvs k, y = kV k ∧ H5 d = some (.dK kvs) ∧ kvs.length < sizeLine ∧ Pv (i + 1) (upd H5 d (.dK (putK kvs k z))) else Pv (i + 1) H3) (hd : ∀ H, Pv n H → Qd H) :
    ∃ W : Nat → Nat → Hp → Prop, (∃ m, W 0 m (upd H1 d (.dK []))) ∧ ∀ i m H, W i m H →
      (J.stop i H ∧ Qd H) ∨ (J.go i H ∧ ∃ Nx : Hp → Prop, (∀ H', Nx H' → ∃ m', m' < m ∧ W (i + 1) m' H') ∧ ∀ x H', J.yld i H x H' → g x (wipe σ vs) H' fun σ2 H2 => wipe σ2 vs = wipe σ vs ∧ tt σ2 H2 fun b H3 =>
        if b = true then tk σ2 H3 fun y H4 => tv σ2 H4 fun z H5 => ∃ kvs k, y = kV k ∧ H5 d = some (.dK kvs) ∧ kvs.length < sizeLine ∧ Nx (upd H5 d (.dK (putK kvs k z))) else Nx H3) := by
  refine ⟨fun i m H => m = n - i ∧ i ≤ n ∧ Pv i H, ⟨n, by simp, Nat.zero_le _, h0⟩, ?_⟩
  rintro i m H ⟨rfl, hi, p⟩
  have q := hG i H hi p
  by_cases hlt : i < n
  · exact .inr ⟨wk.goes i H hlt q, Pv (i + 1), fun H' p' => ⟨n - (i + 1), by omega, rfl, hlt, p'⟩, fun x H' y => hs i x H H' hlt p (wk.yields i H x H' hlt q y)⟩
  · obtain rfl : i = n := by omega
    exact .inl ⟨wk.stops H q, hd H p⟩
def rEqD0 : R2 := fun x y H Q => ∃ a b ks, x = .ref a ∧ y = .ref b ∧ H a = some (.dK ks) ∧ H b = some (.dK []) ∧ Q (.bl ks.isEmpty) H
theorem op_eqD0 {X : Cx} (hu : X.A.units < cLine) : OpR X (compareOp .Eq) rEqD0 := by
  intro pins s σ H x y v u Q I rx ry h
  obtain ⟨a, b, ks, rfl, rfl, ea, eb, q⟩ := h
  obtain rfl : v = Value.ref a := rx
  obtain rfl : u = Value.ref b := ry
  obtain ⟨_, ya, va, ra, da⟩ := (show ObjOk X.prog X.w H s.heap a (.dK ks) from I.hok a _ ea)
  obtain ⟨_, yb, vb, rb, db⟩ := (show ObjOk X.prog X.w H s.heap b (.dK []) from I.hok b _ eb)
  have l1 := ra.length
  have l2 := rb.length
  refine PySem.W.keq_eq (knd := mixKind X.prog X.w) (r := true) ya yb da db hu (fun e => ?_) (fin_bl I q ?_)
  · have z : va = [] := List.length_eq_zero_iff.mp (by rw [e, ← l2]; rfl)
    subst z
    exact .nil
  · rw [← l1, ← l2]
    cases ks <;> simp
end Sw

set_option maxHeartbeats 2000000
namespace Sw
open PySem PySem.Spec PyProof.Rows L2
def top (i : Nat) : Stmt := PySem.Challenge.pw_swayhalls_k65_whole_they_stay_whatever_o.main.body.getD i (.Pass ⟨0, 0, 0, 0⟩)
def retOf (s : Stmt) : Expr := match defBody s with
  | (.Return (some e) _) :: _ => e
  | _ => .Constant .none 0 ⟨0, 0, 0, 0⟩
def retAt (i : Nat) (s : Stmt) : Expr := match (defBody s).getD i (.Pass ⟨0, 0, 0, 0⟩) with
  | .Return (some e) _ => e
  | _ => .Constant .none 0 ⟨0, 0, 0, 0⟩
def valAt (i : Nat) (s : Stmt) : Expr := match (defBody s).getD i (.Pass ⟨0, 0, 0, 0⟩) with
  | .Assign _ e _ => e
  | _ => .Constant .none 0 ⟨0, 0, 0, 0⟩
def ifTest (i : Nat) (s : Stmt) : Expr := match (defBody s).getD i (.Pass ⟨0, 0, 0, 0⟩) with
  | .If t _ _ _ => t
  | _ => .Constant .none 0 ⟨0, 0, 0, 0⟩
def notAll : Expr → Expr
  | .BoolOp _ [_, .UnaryOp _ (.Call _ (e :: _) _ _) _] _ => e
  | e => e
def argOf : Expr → Expr
  | .Call _ (e :: _) _ _ => e
  | e => e
def lcScope : Expr → Scope
  | .ListComp _ _ sc _ => sc
  | _ => { kind := .function, names := [], isGenerator := false, isCoroutine := false }
def valIn (i j : Nat) (s : Stmt) : Expr := match (defBody s).getD i (.Pass ⟨0, 0, 0, 0⟩) with
  | .For _ _ body _ _ => (match body.getD j (.Pass ⟨0, 0, 0, 0⟩) with
    | .Assign _ e _ => e
    | _ => .Constant .none 0 ⟨0, 0, 0, 0⟩)
  | _ => .Constant .none 0 ⟨0, 0, 0, 0⟩
/-- the keyword-only default x of the def at f, if it is an object -/
def kwAt (f : Str × Option Str) (x : Str) (K : PySem.W.Frag) : Addr := match K.lookup (He.fAd K f) with
  | some ⟨_, _, .func fd, _⟩ => (match fd.kwdefaults with
    | .ref T => (match PySem.W.nsIn K T x with
      | some (some (.ref a)) => a
      | _ => 0)
    | _ => 0)
  | _ => 0
def rot3 {α : Type} : List α → List α
  | [a, b, c] => [b, c, a]
  | _ => []
theorem rot3_rel : ∀ {zs : List V} {ws : List Value}, Vals zs ws → Vals (rot3 zs) (rot3 ws)
  | _, _, .nil => .nil
  | _, _, .cons _ .nil => .nil
  | _, _, .cons _ (.cons _ .nil) => .nil
  | _, _, .cons a (.cons b (.cons c .nil)) => .cons b (.cons c (.cons a .nil))
  | _, _, .cons _ (.cons _ (.cons _ (.cons _ _))) => .nil
abbrev s_is_number : Stmt := top 9
abbrev n_is_number : List Str := ["thing"]
abbrev p_is_number : List Str := ["thing"]
theorem sc_is_number : FnScope n_is_number p_is_number (defScope s_is_number) := ⟨rfl, rfl, rfl, by decide +kernel, rfl, by decide +kernel, by decide +kernel⟩
abbrev s_are_numbers : Stmt := top 10
abbrev n_are_numbers : List Str := ["thing", "one"]
abbrev p_are_numbers : List Str := ["thing"]
theorem sc_are_numbers : FnScope n_are_numbers p_are_numbers (defScope s_are_numbers) := ⟨rfl, rfl, rfl, by decide +kernel, rfl, by decide +kernel, by decide +kernel⟩
abbrev s_are_rows : Stmt := top 11
abbrev n_are_rows : List Str := ["thing", "row"]
abbrev p_are_rows : List Str := ["thing"]
theorem sc_are_rows : FnScope n_are_rows p_are_rows (defScope s_are_rows) := ⟨rfl, rfl, rfl, by decide +kernel, rfl, by decide +kernel, by decide +kernel⟩
abbrev s_does_rise : Stmt := top 12
abbrev n_does_rise : List Str := ["numbers", "low", "high"]
abbrev p_does_rise : List Str := ["numbers"]
theorem sc_does_rise : FnScope n_does_rise p_does_rise (defScope s_does_rise) := ⟨rfl, rfl, rfl, by decide +kernel, rfl, by decide +kernel, by decide +kernel⟩
abbrev s_are_strings : Stmt := top 14
abbrev n_are_strings : List Str := ["thing", "row"]
abbrev p_are_strings : List Str := ["thing"]
theorem sc_are_strings : FnScope n_are_strings p_are_strings (defScope s_are_strings) := ⟨rfl, rfl, rfl, by decide +kernel, rfl, by decide +kernel, by decide +kernel⟩
abbrev s_is_ladder : Stmt := top 15
abbrev n_is_ladder : List Str := ["numbers"]
abbrev p_is_ladder : List Str := ["numbers"]
theorem sc_is_ladder : FnScope n_is_ladder p_is_ladder (defScope s_is_ladder) := ⟨rfl, rfl, rfl, by decide +kernel, rfl, by decide +kernel, by decide +kernel⟩
abbrev s_are_steps : Stmt := top 16
abbrev n_are_steps : List Str := ["thing", "persons", "row"]
abbrev p_are_steps : List Str := ["thing", "persons"]
theorem sc_are_steps : FnScope n_are_steps p_are_steps (defScope s_are_steps) := ⟨rfl, rfl, rfl, by decide +kernel, rfl, by decide +kernel, by decide +kernel⟩
abbrev s_is_memory : Stmt := top 17
abbrev n_is_memory : List Str := ["thing"]
abbrev p_is_memory : List Str := ["thing"]
theorem sc_is_memory : FnScope n_is_memory p_is_memory (defScope s_is_memory) := ⟨rfl, rfl, rfl, by decide +kernel, rfl, by decide +kernel, by decide +kernel⟩
abbrev s_as_tuples : Stmt := top 18
abbrev n_as_tuples : List Str := ["rows", "row"]
abbrev p_as_tuples : List Str := ["rows"]
theorem sc_as_tuples : FnScope n_as_tuples p_as_tuples (defScope s_as_tuples) := ⟨rfl, rfl, rfl, by decide +kernel, rfl, by decide +kernel, by decide +kernel⟩
abbrev s_Hall___init__ : Stmt := inClass (top 19) 0
abbrev n_Hall___init__ : List Str := ["self", "strings", "steps", "memory"]
abbrev p_Hall___init__ : List Str := ["self", "strings", "steps", "memory"]
theorem sc_Hall___init__ : FnScope n_Hall___init__ p_Hall___init__ (defScope s_Hall___init__) := ⟨rfl, rfl, rfl, by decide +kernel, rfl, by decide +kernel, by decide +kernel⟩
abbrev s_Hall_strings : Stmt := inClass (top 19) 1
abbrev n_Hall_strings : List Str := ["self"]
abbrev p_Hall_strings : List Str := ["self"]
theorem sc_Hall_strings : FnScope n_Hall_strings p_Hall_strings (defScope s_Hall_strings) := ⟨rfl, rfl, rfl, by decide +kernel, rfl, by decide +kernel, by decide +kernel⟩
abbrev s_Hall_steps : Stmt := inClass (top 19) 2
abbrev n_Hall_steps : List Str := ["self"]
abbrev p_Hall_steps : List Str := ["self"]
theorem sc_Hall_steps : FnScope n_Hall_steps p_Hall_steps (defScope s_Hall_steps) := ⟨rfl, rfl, rfl, by decide +kernel, rfl, by decide +kernel, by decide +kernel⟩
abbrev s_Hall_memory : Stmt := inClass (top 19) 3
abbrev n_Hall_memory : List Str := ["self"]
abbrev p_Hall_memory : List Str := ["self"]
theorem sc_Hall_memory : FnScope n_Hall_memory p_Hall_memory (defScope s_Hall_memory) := ⟨rfl, rfl, rfl, by decide +kernel, rfl, by decide +kernel, by decide +kernel⟩
abbrev s_Hall_tops : Stmt := inClass (top 19) 4
abbrev n_Hall_tops : List Str := ["self", "row"]
abbrev p_Hall_tops : List Str := ["self"]
theorem sc_Hall_tops : FnScope n_Hall_tops p_Hall_tops (defScope s_Hall_tops) := ⟨rfl, rfl, rfl, by decide +kernel, rfl, by decide +kernel, by decide +kernel⟩
abbrev s_Hall___len__ : Stmt := inClass (top 19) 6
abbrev n_Hall___len__ : List Str := ["self"]
abbrev p_Hall___len__ : List Str := ["self"]
theorem sc_Hall___len__ : FnScope n_Hall___len__ p_Hall___len__ (defScope s_Hall___len__) := ⟨rfl, rfl, rfl, by decide +kernel, rfl, by decide +kernel, by decide +kernel⟩
abbrev s_is_person : Stmt := top 20
abbrev n_is_person : List Str := ["hall", "thing"]
abbrev p_is_person : List Str := ["hall", "thing"]
theorem sc_is_person : FnScope n_is_person p_is_person (defScope s_is_person) := ⟨rfl, rfl, rfl, by decide +kernel, rfl, by decide +kernel, by decide +kernel⟩
abbrev s_is_posture : Stmt := top 21
abbrev n_is_posture : List Str := ["hall", "person", "thing"]
abbrev p_is_posture : List Str := ["hall", "person", "thing"]
theorem sc_is_posture : FnScope n_is_posture p_is_posture (defScope s_is_posture) := ⟨rfl, rfl, rfl, by decide +kernel, rfl, by decide +kernel, by decide +kernel⟩
abbrev s_weighed : Stmt := top 23
abbrev n_weighed : List Str := ["hall", "past", "ahead", "postures", "weight", "posture"]
abbrev p_weighed : List Str := ["hall", "past"]
theorem sc_weighed : FnScope n_weighed p_weighed (defScope s_weighed) := ⟨rfl, rfl, rfl, by decide +kernel, rfl, by decide +kernel, by decide +kernel⟩
abbrev s_pulled_by : Stmt := top 24
abbrev n_pulled_by : List Str := ["row", "much", "string", "one"]
abbrev p_pulled_by : List Str := ["row", "much"]
theorem sc_pulled_by : FnScope n_pulled_by p_pulled_by (defScope s_pulled_by) := ⟨rfl, rfl, rfl, by decide +kernel, rfl, by decide +kernel, by decide +kernel⟩
abbrev s_pulls : Stmt := top 25
abbrev n_pulls : List Str := ["hall", "past", "much", "row"]
abbrev p_pulls : List Str := ["hall", "past"]
theorem sc_pulls : FnScope n_pulls p_pulls (defScope s_pulls) := ⟨rfl, rfl, rfl, by decide +kernel, rfl, by decide +kernel, by decide +kernel⟩
abbrev s_reached : Stmt := top 27
abbrev n_reached : List Str := ["steps", "pull", "step"]
abbrev p_reached : List Str := ["steps", "pull"]
theorem sc_reached : FnScope n_reached p_reached (defScope s_reached) := ⟨rfl, rfl, rfl, by decide +kernel, rfl, by decide +kernel, by decide +kernel⟩
abbrev s_as_held : Stmt := top 28
abbrev n_as_held : List Str := ["standing", "grips", "person", "posture"]
abbrev p_as_held : List Str := ["standing", "grips"]
theorem sc_as_held : FnScope n_as_held p_as_held (defScope s_as_held) := ⟨rfl, rfl, rfl, by decide +kernel, rfl, by decide +kernel, by decide +kernel⟩
abbrev s_grips_of : Stmt := top 29
abbrev n_grips_of : List Str := ["held", "person", "posture"]
abbrev p_grips_of : List Str := ["held"]
theorem sc_grips_of : FnScope n_grips_of p_grips_of (defScope s_grips_of) := ⟨rfl, rfl, rfl, by decide +kernel, rfl, by decide +kernel, by decide +kernel⟩
abbrev s_leant : Stmt := top 30
abbrev n_leant : List Str := ["hall", "past", "grips", "postures", "steps", "pull"]
abbrev p_leant : List Str := ["hall", "past", "grips"]
theorem sc_leant : FnScope n_leant p_leant (defScope s_leant) := ⟨rfl, rfl, rfl, by decide +kernel, rfl, by decide +kernel, by decide +kernel⟩
abbrev s_leant_to : Stmt := top 26
abbrev n_leant_to : List Str := ["hall", "past", "person", "pull"]
abbrev p_leant_to : List Str := ["hall", "past", "person"]
theorem sc_leant_to : FnScope n_leant_to p_leant_to (defScope s_leant_to) := ⟨rfl, rfl, rfl, by decide +kernel, rfl, by decide +kernel, by decide +kernel⟩
abbrev s_lean : Stmt := top 31
abbrev n_lean : List Str := ["hall", "past", "held", "grips", "standing"]
abbrev p_lean : List Str := ["hall", "past", "held"]
theorem sc_lean : FnScope n_lean p_lean (defScope s_lean) := ⟨rfl, rfl, rfl, by decide +kernel, rfl, by decide +kernel, by decide +kernel⟩
abbrev s_history : Stmt := top 32
abbrev n_history : List Str := ["hall", "past", "many", "held", "grips", "standings", "beat", "standing"]
abbrev p_history : List Str := ["hall", "past", "many", "held"]
theorem sc_history : FnScope n_history p_history (defScope s_history) := ⟨rfl, rfl, rfl, by decide +kernel, rfl, by decide +kernel, by decide +kernel⟩
abbrev s_Sway___init__ : Stmt := inClass (top 33) 0
abbrev n_Sway___init__ : List Str := ["self", "hall", "past", "held", "standing"]
abbrev p_Sway___init__ : List Str := ["self", "hall", "past", "held"]
theorem sc_Sway___init__ : FnScope n_Sway___init__ p_Sway___init__ (defScope s_Sway___init__) := ⟨rfl, rfl, rfl, by decide +kernel, rfl, by decide +kernel, by decide +kernel⟩
abbrev s_Sway_beat : Stmt := inClass (top 33) 1
abbrev n_Sway_beat : List Str := ["self", "many", "turn"]
abbrev p_Sway_beat : List Str := ["self", "many"]
theorem sc_Sway_beat : FnScope n_Sway_beat p_Sway_beat (defScope s_Sway_beat) := ⟨rfl, rfl, rfl, by decide +kernel, rfl, by decide +kernel, by decide +kernel⟩
abbrev s_Sway_past : Stmt := inClass (top 33) 2
abbrev n_Sway_past : List Str := ["self"]
abbrev p_Sway_past : List Str := ["self"]
theorem sc_Sway_past : FnScope n_Sway_past p_Sway_past (defScope s_Sway_past) := ⟨rfl, rfl, rfl, by decide +kernel, rfl, by decide +kernel, by decide +kernel⟩
abbrev s_Sway_hold : Stmt := inClass (top 33) 3
abbrev n_Sway_hold : List Str := ["self", "person", "posture"]
abbrev p_Sway_hold : List Str := ["self", "person", "posture"]
theorem sc_Sway_hold : FnScope n_Sway_hold p_Sway_hold (defScope s_Sway_hold) := ⟨rfl, rfl, rfl, by decide +kernel, rfl, by decide +kernel, by decide +kernel⟩
abbrev s_Sway_loose : Stmt := inClass (top 33) 4
abbrev n_Sway_loose : List Str := ["self", "person"]
abbrev p_Sway_loose : List Str := ["self", "person"]
theorem sc_Sway_loose : FnScope n_Sway_loose p_Sway_loose (defScope s_Sway_loose) := ⟨rfl, rfl, rfl, by decide +kernel, rfl, by decide +kernel, by decide +kernel⟩
abbrev s_far_past : Stmt := top 35
abbrev n_far_past : List Str := ["hall", "standing", "group", "person", "side", "past", "weight", "tops", "row", "postures", "one", "string", "top"]
abbrev p_far_past : List Str := ["hall", "standing", "group", "person", "side"]
theorem sc_far_past : FnScope n_far_past p_far_past (defScope s_far_past) := ⟨rfl, rfl, rfl, by decide +kernel, rfl, by decide +kernel, by decide +kernel⟩
abbrev s_moving_past : Stmt := top 36
abbrev n_moving_past : List Str := ["hall", "standing", "group", "person", "side", "past"]
abbrev p_moving_past : List Str := ["hall", "standing", "group", "person"]
theorem sc_moving_past : FnScope n_moving_past p_moving_past (defScope s_moving_past) := ⟨rfl, rfl, rfl, by decide +kernel, rfl, by decide +kernel, by decide +kernel⟩
abbrev s_is_firm : Stmt := top 37
abbrev n_is_firm : List Str := ["hall", "standing", "group", "person"]
abbrev p_is_firm : List Str := ["hall", "standing", "group"]
theorem sc_is_firm : FnScope n_is_firm p_is_firm (defScope s_is_firm) := ⟨rfl, rfl, rfl, by decide +kernel, rfl, by decide +kernel, by decide +kernel⟩
abbrev s_mover_in : Stmt := top 38
abbrev n_mover_in : List Str := ["hall", "standing", "group", "person", "past"]
abbrev p_mover_in : List Str := ["hall", "standing", "group"]
theorem sc_mover_in : FnScope n_mover_in p_mover_in (defScope s_mover_in) := ⟨rfl, rfl, rfl, by decide +kernel, rfl, by decide +kernel, by decide +kernel⟩
abbrev s_movers : Stmt := top 39
abbrev n_movers : List Str := ["hall", "standing", "group", "moved", "found"]
abbrev p_movers : List Str := ["hall", "standing"]
theorem sc_movers : FnScope n_movers p_movers (defScope s_movers) := ⟨rfl, rfl, rfl, by decide +kernel, rfl, by decide +kernel, by decide +kernel⟩
abbrev s_firm_of : Stmt := top 40
abbrev n_firm_of : List Str := ["hall", "standing", "gone", "person", "past"]
abbrev p_firm_of : List Str := ["hall", "standing"]
theorem sc_firm_of : FnScope n_firm_of p_firm_of (defScope s_firm_of) := ⟨rfl, rfl, rfl, by decide +kernel, rfl, by decide +kernel, by decide +kernel⟩
abbrev s__law_box : Stmt := top 42
abbrev n__law_box : List Str := ["_law_script", "_law_k", "_law_cell"]
abbrev p__law_box : List Str := ["_law_script", "_law_k"]
theorem sc__law_box : FnScope n__law_box p__law_box (defScope s__law_box) := ⟨rfl, rfl, rfl, by decide +kernel, rfl, by decide +kernel, by decide +kernel⟩
abbrev s__law_take : Stmt := top 43
abbrev n__law_take : List Str := ["_law_box_here", "_law_bound", "_law_once", "_law_found"]
abbrev p__law_take : List Str := ["_law_box_here", "_law_bound"]
theorem sc__law_take : FnScope n__law_take p__law_take (defScope s__law_take) := ⟨rfl, rfl, rfl, by decide +kernel, rfl, by decide +kernel, by decide +kernel⟩
abbrev s__law_same : Stmt := top 44
abbrev n__law_same : List Str := ["_law_found", "_law_due", "_law_one", "_law_two"]
abbrev p__law_same : List Str := ["_law_found", "_law_due"]
theorem sc__law_same : FnScope n__law_same p__law_same (defScope s__law_same) := ⟨rfl, rfl, rfl, by decide +kernel, rfl, by decide +kernel, by decide +kernel⟩
abbrev s__law_steps : Stmt := top 45
abbrev n__law_steps : List Str := ["_law_box_here", "_law_many", "_law_near", "_law_found", "_law_turn"]
abbrev p__law_steps : List Str := ["_law_box_here", "_law_many", "_law_near"]
theorem sc__law_steps : FnScope n__law_steps p__law_steps (defScope s__law_steps) := ⟨rfl, rfl, rfl, by decide +kernel, rfl, by decide +kernel, by decide +kernel⟩
abbrev s__law_memory : Stmt := top 46
abbrev n__law_memory : List Str := ["_law_box_here", "_law_many", "_law_weights", "_law_turn"]
abbrev p__law_memory : List Str := ["_law_box_here", "_law_many"]
theorem sc__law_memory : FnScope n__law_memory p__law_memory (defScope s__law_memory) := ⟨rfl, rfl, rfl, by decide +kernel, rfl, by decide +kernel, by decide +kernel⟩
abbrev s__law_standing : Stmt := top 47
abbrev n__law_standing : List Str := ["_law_box_here", "_law_steps_here", "_law_row"]
abbrev p__law_standing : List Str := ["_law_box_here", "_law_steps_here"]
theorem sc__law_standing : FnScope n__law_standing p__law_standing (defScope s__law_standing) := ⟨rfl, rfl, rfl, by decide +kernel, rfl, by decide +kernel, by decide +kernel⟩
abbrev s__law_span : Stmt := top 51
abbrev n__law_span : List Str := ["_law_row", "_law_steps_here", "_law_memory_here", "_law_standing_here", "_law_group", "_law_low", "_law_high", "_law_other", "_law_string", "_law_weight", "_law_by", "_law_ends"]
abbrev p__law_span : List Str := ["_law_row", "_law_steps_here", "_law_memory_here", "_law_standing_here", "_law_group"]
theorem sc__law_span : FnScope n__law_span p__law_span (defScope s__law_span) := ⟨rfl, rfl, rfl, by decide +kernel, rfl, by decide +kernel, by decide +kernel⟩
abbrev s__law_planned : Stmt := top 52
abbrev n__law_planned : List Str := ["_law_box_here", "_law_most", "_law_beats", "_law_many", "_law_strings", "_law_steps_here", "_law_group", "_law_one", "_law_memory_here", "_law_standing_here", "_law_turn", "_law_far", "_law_other", "_law_low", "_law_high", "_law_own", "_law_near", "_law_step"]
abbrev p__law_planned : List Str := ["_law_box_here", "_law_most", "_law_beats"]
theorem sc__law_planned : FnScope n__law_planned p__law_planned (defScope s__law_planned) := ⟨rfl, rfl, rfl, by decide +kernel, rfl, by decide +kernel, by decide +kernel⟩
abbrev s__law_pull : Stmt := top 48
abbrev n__law_pull : List Str := ["_law_row", "_law_memory_here", "_law_past", "_law_found", "_law_back", "_law_weight", "_law_string", "_law_posture"]
abbrev p__law_pull : List Str := ["_law_row", "_law_memory_here", "_law_past"]
theorem sc__law_pull : FnScope n__law_pull p__law_pull (defScope s__law_pull) := ⟨rfl, rfl, rfl, by decide +kernel, rfl, by decide +kernel, by decide +kernel⟩
abbrev s__law_leaned : Stmt := top 49
abbrev n__law_leaned : List Str := ["_law_strings", "_law_steps_here", "_law_memory_here", "_law_past", "_law_found", "_law_row", "_law_own", "_law_pull_here", "_law_step"]
abbrev p__law_leaned : List Str := ["_law_strings", "_law_steps_here", "_law_memory_here", "_law_past"]
theorem sc__law_leaned : FnScope n__law_leaned p__law_leaned (defScope s__law_leaned) := ⟨rfl, rfl, rfl, by decide +kernel, rfl, by decide +kernel, by decide +kernel⟩
abbrev s__law_gone : Stmt := top 50
abbrev n__law_gone : List Str := ["_law_strings", "_law_steps_here", "_law_memory_here", "_law_past", "_law_many", "_law_found", "_law_turn"]
abbrev p__law_gone : List Str := ["_law_strings", "_law_steps_here", "_law_memory_here", "_law_past", "_law_many"]
theorem sc__law_gone : FnScope n__law_gone p__law_gone (defScope s__law_gone) := ⟨rfl, rfl, rfl, by decide +kernel, rfl, by decide +kernel, by decide +kernel⟩
abbrev s__law_some_past : Stmt := top 53
abbrev n__law_some_past : List Str := ["_law_box_here", "_law_steps_here", "_law_memory_here", "_law_standing_here", "_law_group", "_law_found", "_law_beat", "_law_row", "_law_one"]
abbrev p__law_some_past : List Str := ["_law_box_here", "_law_steps_here", "_law_memory_here", "_law_standing_here", "_law_group"]
theorem sc__law_some_past : FnScope n__law_some_past p__law_some_past (defScope s__law_some_past) := ⟨rfl, rfl, rfl, by decide +kernel, rfl, by decide +kernel, by decide +kernel⟩
abbrev s__law_stand_so : Stmt := top 54
abbrev n__law_stand_so : List Str := ["_law_rows", "_law_standing_here", "_law_group", "_law_row", "_law_one"]
abbrev p__law_stand_so : List Str := ["_law_rows", "_law_standing_here", "_law_group"]
theorem sc__law_stand_so : FnScope n__law_stand_so p__law_stand_so (defScope s__law_stand_so) := ⟨rfl, rfl, rfl, by decide +kernel, rfl, by decide +kernel, by decide +kernel⟩
abbrev s__law_played_right : Stmt := top 55
abbrev n__law_played_right : List Str := ["_law_box_here", "_law_hall", "_law_steps_here", "_law_memory_here", "_law_standing_here", "_law_group", "_law_others", "_law_turn", "_law_sway", "_law_kept", "_law_one", "_law_other"]
abbrev p__law_played_right : List Str := ["_law_box_here", "_law_hall", "_law_steps_here", "_law_memory_here", "_law_standing_here", "_law_group", "_law_others"]
theorem sc__law_played_right : FnScope n__law_played_right p__law_played_right (defScope s__law_played_right) := ⟨rfl, rfl, rfl, by decide +kernel, rfl, by decide +kernel, by decide +kernel⟩
abbrev s__law_otherwise : Stmt := top 56
abbrev n__law_otherwise : List Str := ["_law_box_here", "_law_strings", "_law_steps_here", "_law_others", "_law_one", "_law_more", "_law_own", "_law_row", "_law_string"]
abbrev p__law_otherwise : List Str := ["_law_box_here", "_law_strings", "_law_steps_here", "_law_others"]
theorem sc__law_otherwise : FnScope n__law_otherwise p__law_otherwise (defScope s__law_otherwise) := ⟨rfl, rfl, rfl, by decide +kernel, rfl, by decide +kernel, by decide +kernel⟩
abbrev s__law_moved_right : Stmt := top 57
abbrev n__law_moved_right : List Str := ["_law_hall", "_law_strings", "_law_steps_here", "_law_memory_here", "_law_standing_here", "_law_found", "_law_ahead", "_law_one", "_law_past", "_law_row", "_law_kept", "_law_other"]
abbrev p__law_moved_right : List Str := ["_law_hall", "_law_strings", "_law_steps_here", "_law_memory_here", "_law_standing_here", "_law_found"]
theorem sc__law_moved_right : FnScope n__law_moved_right p__law_moved_right (defScope s__law_moved_right) := ⟨rfl, rfl, rfl, by decide +kernel, rfl, by decide +kernel, by decide +kernel⟩
abbrev s__law_right : Stmt := top 58
abbrev n__law_right : List Str := ["_law_box_here", "_law_told", "_law_hall", "_law_group", "_law_others", "_law_turn", "_law_other_hall", "_law_strings", "_law_steps_here", "_law_memory_here", "_law_standing_here", "_law_past", "_law_kept", "_law_rows", "_law_more", "_law_own", "_law_one"]
abbrev p__law_right : List Str := ["_law_box_here"]
theorem sc__law_right : FnScope n__law_right p__law_right (defScope s__law_right) := ⟨rfl, rfl, rfl, by decide +kernel, rfl, by decide +kernel, by decide +kernel⟩
abbrev s_law : Stmt := top 59
abbrev n_law : List Str := ["_law_script", "_law_k", "_law_box_here", "_law_turn"]
abbrev p_law : List Str := ["_law_script"]
theorem sc_law : FnScope n_law p_law (defScope s_law) := ⟨rfl, rfl, rfl, by decide +kernel, rfl, by decide +kernel, by decide +kernel⟩
structure Tx (K : PySem.W.Frag) (mg : Str → Option Value) : Type where
  b_abs : mg "abs" = none
  b_all : mg "all" = none
  b_bool : mg "bool" = none
  b_enumerate : mg "enumerate" = none
  b_int : mg "int" = none
  b_isinstance : mg "isinstance" = none
  b_len : mg "len" = none
  b_list : mg "list" = none
  b_max : mg "max" = none
  b_min : mg "min" = none
  b_range : mg "range" = none
  b_str : mg "str" = none
  b_sum : mg "sum" = none
  b_tuple : mg "tuple" = none
  b_zip : mg "zip" = none
  t_MOST_STEPS : Tok
  c_MOST_STEPS : mg "MOST_STEPS" = some (.int 4 t_MOST_STEPS)
  t_MOST_WEIGHTS : Tok
  c_MOST_WEIGHTS : mg "MOST_WEIGHTS" = some (.int 5 t_MOST_WEIGHTS)
  g_Hall : mg "Hall" = some (.ref (He.ga K "Hall"))
  cl_Hall : Cls K (He.ga K "Hall")
  mk_Hall : Mk K (He.ga K "Hall") (He.ma K (He.ga K "Hall") "__init__")
  na_Hall_string_rows : NoAttr K (He.ga K "Hall") "string_rows"
  na_Hall_step_rows : NoAttr K (He.ga K "Hall") "step_rows"
  na_Hall_weights : NoAttr K (He.ga K "Hall") "weights"
  g_Sway : mg "Sway" = some (.ref (He.ga K "Sway"))
  cl_Sway : Cls K (He.ga K "Sway")
  mk_Sway : Mk K (He.ga K "Sway") (He.ma K (He.ga K "Sway") "__init__")
  na_Sway_home : NoAttr K (He.ga K "Sway") "home"
  na_Sway_grips : NoAttr K (He.ga K "Sway") "grips"
  na_Sway_standings : NoAttr K (He.ga K "Sway") "standings"
  na_Sway_gone : NoAttr K (He.ga K "Sway") "gone"
  fd_is_number : FuncData
  F_is_number : FunD K "is_number" "is_number" (defArgs s_is_number) (defBody s_is_number) (defScope s_is_number) [] [] (He.fAd K ("is_number", none)) fd_is_number
  g_is_number : mg "is_number" = some (.ref (He.fAd K ("is_number", none)))
  bd_is_number : Binds K fd_is_number p_is_number []
  fd_are_numbers : FuncData
  F_are_numbers : FunD K "are_numbers" "are_numbers" (defArgs s_are_numbers) (defBody s_are_numbers) (defScope s_are_numbers) [] [] (He.fAd K ("are_numbers", none)) fd_are_numbers
  g_are_numbers : mg "are_numbers" = some (.ref (He.fAd K ("are_numbers", none)))
  bd_are_numbers : Binds K fd_are_numbers p_are_numbers []
  fd_are_rows : FuncData
  F_are_rows : FunD K "are_rows" "are_rows" (defArgs s_are_rows) (defBody s_are_rows) (defScope s_are_rows) [] [] (He.fAd K ("are_rows", none)) fd_are_rows
  g_are_rows : mg "are_rows" = some (.ref (He.fAd K ("are_rows", none)))
  bd_are_rows : Binds K fd_are_rows p_are_rows []
  fd_does_rise : FuncData
  F_does_rise : FunD K "does_rise" "does_rise" (defArgs s_does_rise) (defBody s_does_rise) (defScope s_does_rise) [] [] (He.fAd K ("does_rise", none)) fd_does_rise
  g_does_rise : mg "does_rise" = some (.ref (He.fAd K ("does_rise", none)))
  bd_does_rise : Binds K fd_does_rise p_does_rise []
  fd_are_strings : FuncData
  F_are_strings : FunD K "are_strings" "are_strings" (defArgs s_are_strings) (defBody s_are_strings) (defScope s_are_strings) [] [] (He.fAd K ("are_strings", none)) fd_are_strings
  g_are_strings : mg "are_strings" = some (.ref (He.fAd K ("are_strings", none)))
  bd_are_strings : Binds K fd_are_strings p_are_strings []
  fd_is_ladder : FuncData
  F_is_ladder : FunD K "is_ladder" "is_ladder" (defArgs s_is_ladder) (defBody s_is_ladder) (defScope s_is_ladder) [] [] (He.fAd K ("is_ladder", none)) fd_is_ladder
  g_is_ladder : mg "is_ladder" = some (.ref (He.fAd K ("is_ladder", none)))
  bd_is_ladder : Binds K fd_is_ladder p_is_ladder []
  fd_are_steps : FuncData
  F_are_steps : FunD K "are_steps" "are_steps" (defArgs s_are_steps) (defBody s_are_steps) (defScope s_are_steps) [] [] (He.fAd K ("are_steps", none)) fd_are_steps
  g_are_steps : mg "are_steps" = some (.ref (He.fAd K ("are_steps", none)))
  bd_are_steps : Binds K fd_are_steps p_are_steps []
  fd_is_memory : FuncData
  F_is_memory : FunD K "is_memory" "is_memory" (defArgs s_is_memory) (defBody s_is_memory) (defScope s_is_memory) [] [] (He.fAd K ("is_memory", none)) fd_is_memory
  g_is_memory : mg "is_memory" = some (.ref (He.fAd K ("is_memory", none)))
  bd_is_memory : Binds K fd_is_memory p_is_memory []
  fd_as_tuples : FuncData
  F_as_tuples : FunD K "as_tuples" "as_tuples" (defArgs s_as_tuples) (defBody s_as_tuples) (defScope s_as_tuples) [] [] (He.fAd K ("as_tuples", none)) fd_as_tuples
  g_as_tuples : mg "as_tuples" = some (.ref (He.fAd K ("as_tuples", none)))
  bd_as_tuples : Binds K fd_as_tuples p_as_tuples []
  fd_Hall___init__ : FuncData
  F_Hall___init__ : FunD K "__init__" "Hall.__init__" (defArgs s_Hall___init__) (defBody s_Hall___init__) (defScope s_Hall___init__) [V.ref (He.dflAt ("Hall", some "__init__") 0 K)] [] (He.fAd K ("Hall", some "__init__")) fd_Hall___init__
  bd_Hall___init__ : Binds K fd_Hall___init__ p_Hall___init__ []
  fd_Hall_strings : FuncData
  F_Hall_strings : FunD K "strings" "Hall.strings" (defArgs s_Hall_strings) (defBody s_Hall_strings) (defScope s_Hall_strings) [] [] (He.fAd K ("Hall", some "strings")) fd_Hall_strings
  m_Hall_strings : Meth K (He.ga K "Hall") "strings" (He.fAd K ("Hall", some "strings"))
  bd_Hall_strings : Binds K fd_Hall_strings p_Hall_strings []
  fd_Hall_steps : FuncData
  F_Hall_steps : FunD K "steps" "Hall.steps" (defArgs s_Hall_steps) (defBody s_Hall_steps) (defScope s_Hall_steps) [] [] (He.fAd K ("Hall", some "steps")) fd_Hall_steps
  m_Hall_steps : Meth K (He.ga K "Hall") "steps" (He.fAd K ("Hall", some "steps"))
  bd_Hall_steps : Binds K fd_Hall_steps p_Hall_steps []
  fd_Hall_memory : FuncData
  F_Hall_memory : FunD K "memory" "Hall.memory" (defArgs s_Hall_memory) (defBody s_Hall_memory) (defScope s_Hall_memory) [] [] (He.fAd K ("Hall", some "memory")) fd_Hall_memory
  m_Hall_memory : Meth K (He.ga K "Hall") "memory" (He.fAd K ("Hall", some "memory"))
  bd_Hall_memory : Binds K fd_Hall_memory p_Hall_memory []
  fd_Hall_tops : FuncData
  F_Hall_tops : FunD K "tops" "Hall.tops" (defArgs s_Hall_tops) (defBody s_Hall_tops) (defScope s_Hall_tops) [] [] (He.fAd K ("Hall", some "tops")) fd_Hall_tops
  m_Hall_tops : Meth K (He.ga K "Hall") "tops" (He.fAd K ("Hall", some "tops"))
  bd_Hall_tops : Binds K fd_Hall_tops p_Hall_tops []
  fd_Hall___len__ : FuncData
  F_Hall___len__ : FunD K "__len__" "Hall.__len__" (defArgs s_Hall___len__) (defBody s_Hall___len__) (defScope s_Hall___len__) [] [] (He.fAd K ("Hall", some "__len__")) fd_Hall___len__
  m_Hall___len__ : Meth K (He.ga K "Hall") "__len__" (He.fAd K ("Hall", some "__len__"))
  bd_Hall___len__ : Binds K fd_Hall___len__ p_Hall___len__ []
  fd_is_person : FuncData
  F_is_person : FunD K "is_person" "is_person" (defArgs s_is_person) (defBody s_is_person) (defScope s_is_person) [] [] (He.fAd K ("is_person", none)) fd_is_person
  g_is_person : mg "is_person" = some (.ref (He.fAd K ("is_person", none)))
  bd_is_person : Binds K fd_is_person p_is_person []
  fd_is_posture : FuncData
  F_is_posture : FunD K "is_posture" "is_posture" (defArgs s_is_posture) (defBody s_is_posture) (defScope s_is_posture) [] [] (He.fAd K ("is_posture", none)) fd_is_posture
  g_is_posture : mg "is_posture" = some (.ref (He.fAd K ("is_posture", none)))
  bd_is_posture : Binds K fd_is_posture p_is_posture []
  fd_weighed : FuncData
  F_weighed : FunD K "weighed" "weighed" (defArgs s_weighed) (defBody s_weighed) (defScope s_weighed) [] [] (He.fAd K ("weighed", none)) fd_weighed
  g_weighed : mg "weighed" = some (.ref (He.fAd K ("weighed", none)))
  bd_weighed : Binds K fd_weighed p_weighed []
  fd_pulled_by : FuncData
  F_pulled_by : FunD K "pulled_by" "pulled_by" (defArgs s_pulled_by) (defBody s_pulled_by) (defScope s_pulled_by) [] [] (He.fAd K ("pulled_by", none)) fd_pulled_by
  g_pulled_by : mg "pulled_by" = some (.ref (He.fAd K ("pulled_by", none)))
  bd_pulled_by : Binds K fd_pulled_by p_pulled_by []
  fd_pulls : FuncData
  F_pulls : FunD K "pulls" "pulls" (defArgs s_pulls) (defBody s_pulls) (defScope s_pulls) [] [] (He.fAd K ("pulls", none)) fd_pulls
  g_pulls : mg "pulls" = some (.ref (He.fAd K ("pulls", none)))
  bd_pulls : Binds K fd_pulls p_pulls []
  fd_reached : FuncData
  F_reached : FunD K "reached" "reached" (defArgs s_reached) (defBody s_reached) (defScope s_reached) [] [] (He.fAd K ("reached", none)) fd_reached
  g_reached : mg "reached" = some (.ref (He.fAd K ("reached", none)))
  bd_reached : Binds K fd_reached p_reached []
  fd_as_held : FuncData
  F_as_held : FunD K "as_held" "as_held" (defArgs s_as_held) (defBody s_as_held) (defScope s_as_held) [] [] (He.fAd K ("as_held", none)) fd_as_held
  g_as_held : mg "as_held" = some (.ref (He.fAd K ("as_held", none)))
  bd_as_held : Binds K fd_as_held p_as_held []
  fd_grips_of : FuncData
  F_grips_of : FunD K "grips_of" "grips_of" (defArgs s_grips_of) (defBody s_grips_of) (defScope s_grips_of) [] [] (He.fAd K ("grips_of", none)) fd_grips_of
  g_grips_of : mg "grips_of" = some (.ref (He.fAd K ("grips_of", none)))
  bd_grips_of : Binds K fd_grips_of p_grips_of []
  fd_leant : FuncData
  F_leant : FunD K "leant" "leant" (defArgs s_leant) (defBody s_leant) (defScope s_leant) [] [] (He.fAd K ("leant", none)) fd_leant
  g_leant : mg "leant" = some (.ref (He.fAd K ("leant", none)))
  bd_leant : Binds K fd_leant p_leant []
  fd_leant_to : FuncData
  F_leant_to : FunD K "leant_to" "leant_to" (defArgs s_leant_to) (defBody s_leant_to) (defScope s_leant_to) [] [] (He.fAd K ("leant_to", none)) fd_leant_to
  g_leant_to : mg "leant_to" = some (.ref (He.fAd K ("leant_to", none)))
  bd_leant_to : Binds K fd_leant_to p_leant_to []
  fd_lean : FuncData
  F_lean : FunD K "lean" "lean" (defArgs s_lean) (defBody s_lean) (defScope s_lean) [] [("held", V.ref (kwAt ("lean", none) "held" K))] (He.fAd K ("lean", none)) fd_lean
  g_lean : mg "lean" = some (.ref (He.fAd K ("lean", none)))
  fd_history : FuncData
  F_history : FunD K "history" "history" (defArgs s_history) (defBody s_history) (defScope s_history) [] [("held", V.ref (kwAt ("history", none) "held" K))] (He.fAd K ("history", none)) fd_history
  g_history : mg "history" = some (.ref (He.fAd K ("history", none)))
  fd_Sway___init__ : FuncData
  F_Sway___init__ : FunD K "__init__" "Sway.__init__" (defArgs s_Sway___init__) (defBody s_Sway___init__) (defScope s_Sway___init__) [] [("held", V.ref (kwAt ("Sway", some "__init__") "held" K))] (He.fAd K ("Sway", some "__init__")) fd_Sway___init__
  fd_Sway_beat : FuncData
  F_Sway_beat : FunD K "beat" "Sway.beat" (defArgs s_Sway_beat) (defBody s_Sway_beat) (defScope s_Sway_beat) [V.int 1] [] (He.fAd K ("Sway", some "beat")) fd_Sway_beat
  m_Sway_beat : Meth K (He.ga K "Sway") "beat" (He.fAd K ("Sway", some "beat"))
  bd_Sway_beat : Binds K fd_Sway_beat p_Sway_beat []
  fd_Sway_past : FuncData
  F_Sway_past : FunD K "past" "Sway.past" (defArgs s_Sway_past) (defBody s_Sway_past) (defScope s_Sway_past) [] [] (He.fAd K ("Sway", some "past")) fd_Sway_past
  m_Sway_past : Meth K (He.ga K "Sway") "past" (He.fAd K ("Sway", some "past"))
  bd_Sway_past : Binds K fd_Sway_past p_Sway_past []
  fd_Sway_hold : FuncData
  F_Sway_hold : FunD K "hold" "Sway.hold" (defArgs s_Sway_hold) (defBody s_Sway_hold) (defScope s_Sway_hold) [] [] (He.fAd K ("Sway", some "hold")) fd_Sway_hold
  m_Sway_hold : Meth K (He.ga K "Sway") "hold" (He.fAd K ("Sway", some "hold"))
  bd_Sway_hold : Binds K fd_Sway_hold p_Sway_hold []
  fd_Sway_loose : FuncData
  F_Sway_loose : FunD K "loose" "Sway.loose" (defArgs s_Sway_loose) (defBody s_Sway_loose) (defScope s_Sway_loose) [] [] (He.fAd K ("Sway", some "loose")) fd_Sway_loose
  m_Sway_loose : Meth K (He.ga K "Sway") "loose" (He.fAd K ("Sway", some "loose"))
  bd_Sway_loose : Binds K fd_Sway_loose p_Sway_loose []
  fd_far_past : FuncData
  F_far_past : FunD K "far_past" "far_past" (defArgs s_far_past) (defBody s_far_past) (defScope s_far_past) [] [] (He.fAd K ("far_past", none)) fd_far_past
  g_far_past : mg "far_past" = some (.ref (He.fAd K ("far_past", none)))
  bd_far_past : Binds K fd_far_past p_far_past []
  fd_moving_past : FuncData
  F_moving_past : FunD K "moving_past" "moving_past" (defArgs s_moving_past) (defBody s_moving_past) (defScope s_moving_past) [] [] (He.fAd K ("moving_past", none)) fd_moving_past
  g_moving_past : mg "moving_past" = some (.ref (He.fAd K ("moving_past", none)))
  bd_moving_past : Binds K fd_moving_past p_moving_past []
  fd_is_firm : FuncData
  F_is_firm : FunD K "is_firm" "is_firm" (defArgs s_is_firm) (defBody s_is_firm) (defScope s_is_firm) [] [] (He.fAd K ("is_firm", none)) fd_is_firm
  g_is_firm : mg "is_firm" = some (.ref (He.fAd K ("is_firm", none)))
  bd_is_firm : Binds K fd_is_firm p_is_firm []
  fd_mover_in : FuncData
  F_mover_in : FunD K "mover_in" "mover_in" (defArgs s_mover_in) (defBody s_mover_in) (defScope s_mover_in) [] [] (He.fAd K ("mover_in", none)) fd_mover_in
  g_mover_in : mg "mover_in" = some (.ref (He.fAd K ("mover_in", none)))
  bd_mover_in : Binds K fd_mover_in p_mover_in []
  fd_movers : FuncData
  F_movers : FunD K "movers" "movers" (defArgs s_movers) (defBody s_movers) (defScope s_movers) [] [] (He.fAd K ("movers", none)) fd_movers
  g_movers : mg "movers" = some (.ref (He.fAd K ("movers", none)))
  bd_movers : Binds K fd_movers p_movers []
  fd_firm_of : FuncData
  F_firm_of : FunD K "firm_of" "firm_of" (defArgs s_firm_of) (defBody s_firm_of) (defScope s_firm_of) [] [] (He.fAd K ("firm_of", none)) fd_firm_of
  g_firm_of : mg "firm_of" = some (.ref (He.fAd K ("firm_of", none)))
  bd_firm_of : Binds K fd_firm_of p_firm_of []
  fd__law_box : FuncData
  F__law_box : FunD K "_law_box" "_law_box" (defArgs s__law_box) (defBody s__law_box) (defScope s__law_box) [] [] (He.fAd K ("_law_box", none)) fd__law_box
  g__law_box : mg "_law_box" = some (.ref (He.fAd K ("_law_box", none)))
  bd__law_box : Binds K fd__law_box p__law_box []
  fd__law_take : FuncData
  F__law_take : FunD K "_law_take" "_law_take" (defArgs s__law_take) (defBody s__law_take) (defScope s__law_take) [] [] (He.fAd K ("_law_take", none)) fd__law_take
  g__law_take : mg "_law_take" = some (.ref (He.fAd K ("_law_take", none)))
  bd__law_take : Binds K fd__law_take p__law_take []
  fd__law_same : FuncData
  F__law_same : FunD K "_law_same" "_law_same" (defArgs s__law_same) (defBody s__law_same) (defScope s__law_same) [] [] (He.fAd K ("_law_same", none)) fd__law_same
  g__law_same : mg "_law_same" = some (.ref (He.fAd K ("_law_same", none)))
  bd__law_same : Binds K fd__law_same p__law_same []
  fd__law_steps : FuncData
  F__law_steps : FunD K "_law_steps" "_law_steps" (defArgs s__law_steps) (defBody s__law_steps) (defScope s__law_steps) [] [] (He.fAd K ("_law_steps", none)) fd__law_steps
  g__law_steps : mg "_law_steps" = some (.ref (He.fAd K ("_law_steps", none)))
  bd__law_steps : Binds K fd__law_steps p__law_steps []
  fd__law_memory : FuncData
  F__law_memory : FunD K "_law_memory" "_law_memory" (defArgs s__law_memory) (defBody s__law_memory) (defScope s__law_memory) [] [] (He.fAd K ("_law_memory", none)) fd__law_memory
  g__law_memory : mg "_law_memory" = some (.ref (He.fAd K ("_law_memory", none)))
  bd__law_memory : Binds K fd__law_memory p__law_memory []
  fd__law_standing : FuncData
  F__law_standing : FunD K "_law_standing" "_law_standing" (defArgs s__law_standing) (defBody s__law_standing) (defScope s__law_standing) [] [] (He.fAd K ("_law_standing", none)) fd__law_standing
  g__law_standing : mg "_law_standing" = some (.ref (He.fAd K ("_law_standing", none)))
  bd__law_standing : Binds K fd__law_standing p__law_standing []
  fd__law_span : FuncData
  F__law_span : FunD K "_law_span" "_law_span" (defArgs s__law_span) (defBody s__law_span) (defScope s__law_span) [] [] (He.fAd K ("_law_span", none)) fd__law_span
  g__law_span : mg "_law_span" = some (.ref (He.fAd K ("_law_span", none)))
  bd__law_span : Binds K fd__law_span p__law_span []
  fd__law_planned : FuncData
  F__law_planned : FunD K "_law_planned" "_law_planned" (defArgs s__law_planned) (defBody s__law_planned) (defScope s__law_planned) [] [] (He.fAd K ("_law_planned", none)) fd__law_planned
  g__law_planned : mg "_law_planned" = some (.ref (He.fAd K ("_law_planned", none)))
  bd__law_planned : Binds K fd__law_planned p__law_planned []
  fd__law_pull : FuncData
  F__law_pull : FunD K "_law_pull" "_law_pull" (defArgs s__law_pull) (defBody s__law_pull) (defScope s__law_pull) [] [] (He.fAd K ("_law_pull", none)) fd__law_pull
  g__law_pull : mg "_law_pull" = some (.ref (He.fAd K ("_law_pull", none)))
  bd__law_pull : Binds K fd__law_pull p__law_pull []
  fd__law_leaned : FuncData
  F__law_leaned : FunD K "_law_leaned" "_law_leaned" (defArgs s__law_leaned) (defBody s__law_leaned) (defScope s__law_leaned) [] [] (He.fAd K ("_law_leaned", none)) fd__law_leaned
  g__law_leaned : mg "_law_leaned" = some (.ref (He.fAd K ("_law_leaned", none)))
  bd__law_leaned : Binds K fd__law_leaned p__law_leaned []
  fd__law_gone : FuncData
  F__law_gone : FunD K "_law_gone" "_law_gone" (defArgs s__law_gone) (defBody s__law_gone) (defScope s__law_gone) [] [] (He.fAd K ("_law_gone", none)) fd__law_gone
  g__law_gone : mg "_law_gone" = some (.ref (He.fAd K ("_law_gone", none)))
  bd__law_gone : Binds K fd__law_gone p__law_gone []
  fd__law_some_past : FuncData
  F__law_some_past : FunD K "_law_some_past" "_law_some_past" (defArgs s__law_some_past) (defBody s__law_some_past) (defScope s__law_some_past) [] [] (He.fAd K ("_law_some_past", none)) fd__law_some_past
  g__law_some_past : mg "_law_some_past" = some (.ref (He.fAd K ("_law_some_past", none)))
  bd__law_some_past : Binds K fd__law_some_past p__law_some_past []
  fd__law_stand_so : FuncData
  F__law_stand_so : FunD K "_law_stand_so" "_law_stand_so" (defArgs s__law_stand_so) (defBody s__law_stand_so) (defScope s__law_stand_so) [] [] (He.fAd K ("_law_stand_so", none)) fd__law_stand_so
  g__law_stand_so : mg "_law_stand_so" = some (.ref (He.fAd K ("_law_stand_so", none)))
  bd__law_stand_so : Binds K fd__law_stand_so p__law_stand_so []
  fd__law_played_right : FuncData
  F__law_played_right : FunD K "_law_played_right" "_law_played_right" (defArgs s__law_played_right) (defBody s__law_played_right) (defScope s__law_played_right) [] [] (He.fAd K ("_law_played_right", none)) fd__law_played_right
  g__law_played_right : mg "_law_played_right" = some (.ref (He.fAd K ("_law_played_right", none)))
  bd__law_played_right : Binds K fd__law_played_right p__law_played_right []
  fd__law_otherwise : FuncData
  F__law_otherwise : FunD K "_law_otherwise" "_law_otherwise" (defArgs s__law_otherwise) (defBody s__law_otherwise) (defScope s__law_otherwise) [] [] (He.fAd K ("_law_otherwise", none)) fd__law_otherwise
  g__law_otherwise : mg "_law_otherwise" = some (.ref (He.fAd K ("_law_otherwise", none)))
  bd__law_otherwise : Binds K fd__law_otherwise p__law_otherwise []
  fd__law_moved_right : FuncData
  F__law_moved_right : FunD K "_law_moved_right" "_law_moved_right" (defArgs s__law_moved_right) (defBody s__law_moved_right) (defScope s__law_moved_right) [] [] (He.fAd K ("_law_moved_right", none)) fd__law_moved_right
  g__law_moved_right : mg "_law_moved_right" = some (.ref (He.fAd K ("_law_moved_right", none)))
  bd__law_moved_right : Binds K fd__law_moved_right p__law_moved_right []
  fd__law_right : FuncData
  F__law_right : FunD K "_law_right" "_law_right" (defArgs s__law_right) (defBody s__law_right) (defScope s__law_right) [] [] (He.fAd K ("_law_right", none)) fd__law_right
  g__law_right : mg "_law_right" = some (.ref (He.fAd K ("_law_right", none)))
  bd__law_right : Binds K fd__law_right p__law_right []
  fd_law : FuncData
  F_law : FunD K "law" "law" (defArgs s_law) (defBody s_law) (defScope s_law) [] [] (He.fAd K ("law", none)) fd_law
  g_law : mg "law" = some (.ref (He.fAd K ("law", none)))
end Sw

set_option maxHeartbeats 2000000
namespace Sw
open PySem PySem.Spec PyProof.Rows L2
section
variable {P : Program} {w : World} {K : PySem.W.Frag} {mg : Str → Option Value} {base : Heap}
def sp_take : Sp := fun vs H Q _ => ∃ (b : Addr) (m : Int) (n : Nat), vs = [.ref b, .int m] ∧ Bx H b n ∧ 0 < m ∧ m < 1073741824 ∧ n ≤ 1000000 ∧
  ∀ (r : Int) (H' : Hp), 0 ≤ r → r < m → Bx H' b (n + 1) → Kp [b] H H' → Q (.int r) H'
theorem ok_take (T : Tx K mg) : FnOk P w K mg base CX0 1 (He.fAd K ("_law_take", none)) T.fd__law_take p__law_take sp_take := by
  refine T.F__law_take.ok sc__law_take (fun vs H Q E h => ?_) (fun cdv A outer s H vs Q E hr h => ?_)
  · obtain ⟨b, m, n, rfl, _⟩ := h
    rfl
  · obtain ⟨b, m, n, rfl, hB, m0, m1, hn, k⟩ := h
    obtain ⟨x, y, z, hb, hx, hy, hy2, hz, hz2⟩ := hB.ex
    refine ⟨_, PSs.nox (pss_cons (ps_if (pt_cmpR op_gt (pe_ix ix_list (pv 0) pe_int (fun _ _ => rfl)) pe_int (nomark _))
      (pss_cons (ps_set (i := 3) sc__law_take.nd rfl (by first | exact Or.inl rfl | exact Or.inr rfl) (pe_op op_modN (pe_ix ix_list (pv 0) pe_int (fun _ _ => rfl)) (pv 1)))
      (pss_cons (ps_asg (pe_op op_fdivN (pe_ix ix_list (pv 0) pe_int (fun _ _ => rfl)) (pv 1)) (pg_sub (pv 0) pe_int set_list))
      (pss_one (ps_ret (pv 3)))))
      pss_nil)
      (pss_cons (ps_asg (pe_op op_add (pe_ix ix_list (pv 0) pe_int (fun _ _ => rfl)) pe_int) (pg_sub (pv 0) pe_int set_list))
      (pss_cons (ps_set (i := 2) sc__law_take.nd rfl (by first | exact Or.inl rfl | exact Or.inr rfl) (pe_op op_modN (pe_op op_pow (pe_op op_add (pe_ix ix_list (pv 0) pe_int (fun _ _ => rfl)) (pe_op op_mul pe_int (pe_ix ix_list (pv 0) pe_int (fun _ _ => rfl)))) pe_int) pe_int))
      (pss_one (ps_ret (pe_op op_modN (pe_op op_fdivN (pe_op op_modN (pe_op op_add (pe_op op_mul (pv 2) (pe_op op_add (pe_op op_modN (pv 2) pe_int) pe_int)) (pe_op op_mul (pe_ix ix_list (pv 0) pe_int (fun _ _ => rfl)) pe_int)) pe_int) pe_int) (pv 1))))))), ?_⟩
    refine ⟨_, rfl, b, _, _, _, rfl, rfl, SqL.of hb, rfl, _, _, rfl, rfl, _, rfl, ite2 (fun c => ?_) (fun c => ?_)⟩
    · refine ⟨_, rfl, b, _, _, _, rfl, rfl, SqL.of hb, rfl, _, rfl, _, _, rfl, rfl, (Int.ne_of_gt m0), ?_⟩
      refine ⟨_, rfl, b, _, _, _, rfl, rfl, SqL.of hb, rfl, _, rfl, _, _, rfl, rfl, ⟨Int.ne_of_gt m0, by omega⟩, ?_⟩
      refine ⟨_, rfl, b, _, _, _, rfl, rfl, hb, rfl, _, rfl, ?_⟩
      exact k _ _ (Int.fmod_nonneg_of_pos _ m0) (Int.fmod_lt_of_pos _ m0) ⟨_, _, _, upd_same, Int.fdiv_nonneg hx (Int.le_of_lt m0), hy, hy2, hz, by omega⟩ (Kp.rfl'.put (by simp))
    · refine ⟨_, rfl, b, _, _, _, rfl, rfl, SqL.of hb, rfl, _, _, rfl, rfl, _, rfl, b, _, _, _, rfl, rfl, hb, rfl, ?_⟩
      have hb1 : (upd H b (.lst ([V.int x, V.int y, V.int z].set 2 (V.int (z + 1))))) b = some (.lst [V.int x, V.int y, V.int (z + 1)]) := upd_same
      have e1 : (y + 39373 * (z + 1)).natAbs < 2 ^ 64 := by omega
      refine ⟨_, rfl, b, _, _, _, rfl, rfl, SqL.of hb1, rfl, _, rfl, b, _, _, _, rfl, rfl, SqL.of hb1, rfl, _, _, rfl, rfl, .inl ⟨by decide, by decide⟩, _, _, rfl, rfl, _, _, rfl, rfl, ⟨by decide, by decide, e1⟩, _, _, rfl, rfl, (show (2147483647 : Int) ≠ 0 by decide), ?_⟩
      have o0 : 0 ≤ ((y + 39373 * (z + 1)) ^ (5 : Int).toNat).fmod 2147483647 := Int.fmod_nonneg_of_pos _ (by decide)
      have o1 : ((y + 39373 * (z + 1)) ^ (5 : Int).toNat).fmod 2147483647 < 2147483647 := Int.fmod_lt_of_pos _ (by decide)
      refine ⟨_, rfl, _, rfl, _, _, rfl, rfl, (show (40009 : Int) ≠ 0 by decide), _, _, rfl, rfl, _, _, rfl, rfl, .inl ⟨by omega, by omega⟩, ?_⟩
      refine ⟨_, rfl, b, _, _, _, rfl, rfl, SqL.of hb1, rfl, _, _, rfl, rfl, .inr ⟨by decide, by decide⟩, _, _, rfl, rfl, _, _, rfl, rfl, (show (2147483629 : Int) ≠ 0 by decide), _, _, rfl, rfl, ⟨by decide, by decide⟩, _, rfl, _, _, rfl, rfl, (Int.ne_of_gt m0), ?_⟩
      exact k _ _ (Int.fmod_nonneg_of_pos _ m0) (Int.fmod_lt_of_pos _ m0) ⟨_, _, _, hb1, hx, hy, hy2, by omega, by omega⟩ (Kp.rfl'.put (by simp))
theorem b01lo (c : Prop) [Decidable c] : -(2 ^ 64) < (if c then (1 : Int) else 0) := by split <;> decide
theorem b01hi (c : Prop) [Decidable c] : (if c then (1 : Int) else 0) < 2 ^ 64 := by split <;> decide
def sp_box (K : PySem.W.Frag) : Sp := fun vs H Q _ => ∃ (a : Addr) (ns : List Int) (k : Int), vs = [.ref a, .int k] ∧ SqL K H a (ns.map V.int) ∧ 0 ≤ k ∧ k ≤ 63 ∧
  ∀ (p : Addr) (H' : Hp), H p = none → Bx H' p 0 → Kp [] H H' → Q (.ref p) H'
theorem ok_box (T : Tx K mg) : FnOk P w K mg base CX0 1 (He.fAd K ("_law_box", none)) T.fd__law_box p__law_box (sp_box K) := by
  refine T.F__law_box.ok sc__law_box (fun vs H Q E h => ?_) (fun cdv A outer s H vs Q E hr h => ?_)
  · obtain ⟨b, m, n, rfl, _⟩ := h
    rfl
  · obtain ⟨a, ns, k, rfl, hS, k0, k1, q⟩ := h
    refine ⟨_, PSs.nox (pss_cons (ps_set (i := 2) sc__law_box.nd rfl (by first | exact Or.inl rfl | exact Or.inr rfl) pe_int)
      (pss_cons (ps_if (pt_cmpR op_lt (pv 1) (pe_callB call_len (by rfl) T.b_len (by decide +kernel) (pa_cons (pv 0) pa_nil)) (nomark _))
      (pss_one (ps_set (i := 2) sc__law_box.nd rfl (by first | exact Or.inl rfl | exact Or.inr rfl) (pe_ix ix_list (pv 0) (pv 1) (fun _ _ => rfl))))
      pss_nil)
      (pss_one (ps_ret (pe_lst (pa_cons (pe_op op_mul (pe_callB call_abs (by rfl) T.b_abs (by decide +kernel) (pa_cons (pv 2) pa_nil)) (pe_callTy call_int1 (by rfl) T.b_int (by decide +kernel) (pa_cons (pe_cmpR op_ge (pe_callB call_abs (by rfl) T.b_abs (by decide +kernel) (pa_cons (pv 2) pa_nil)) (pe_op op_pow pe_int pe_int) (nomark _)) pa_nil))) (pa_cons (pe_op op_add (pe_op op_add (pe_op op_modN (pv 2) pe_int) (pe_op op_mul pe_int (pv 1))) pe_int) (pa_cons pe_int pa_nil)))))))), ?_⟩
    have fin : ∀ (c : Int) (p : Addr), H p = none → Q (.ref p) (upd H p (.lst [V.int ((if c < 0 then -c else c) * (if decide ((10 : Int) ^ (18 : Int).toNat ≤ (if c < 0 then -c else c)) = true then 1 else 0)), V.int (c.fmod 2147483629 + 7919 * k + 11), V.int 0])) := fun c p hp => by
      have a0 : 0 ≤ (if c < 0 then -c else c) := by split <;> omega
      have f0 : 0 ≤ c.fmod 2147483629 := Int.fmod_nonneg_of_pos _ (by decide)
      have f1 : c.fmod 2147483629 < 2147483629 := Int.fmod_lt_of_pos _ (by decide)
      refine q p _ hp ⟨_, _, _, upd_same, Int.mul_nonneg a0 (by split <;> omega), by omega, by omega, Int.le_refl 0, Int.le_refl 0⟩ (Kp.rfl'.new hp)
    refine ⟨_, rfl, _, rfl, _, ns.length, rfl, .inl ⟨_, hS, (List.length_map ..).symm⟩, _, _, rfl, rfl, _, rfl, ite2 (fun c => ?_) (fun c => ?_)⟩
    · have lt : k.toNat < ns.length := by
        have := of_decide_eq_true c
        omega
      refine ⟨_, rfl, _, rfl, a, _, _, V.int ns[k.toNat], rfl, rfl, hS, at_of (j := k.toNat) (by omega) (by simp [lt]), ?_⟩
      refine ⟨_, rfl, _, rfl, _, rfl, _, rfl, _, _, rfl, rfl, ⟨by decide, by decide, by decide⟩, _, _, rfl, rfl, .inr ⟨_, rfl, _, _, rfl, rfl, .inr ⟨b01lo _, b01hi _⟩, ?_⟩⟩
      refine ⟨_, rfl, _, _, rfl, rfl, (show (2147483629 : Int) ≠ 0 by decide), _, rfl, _, _, rfl, rfl, .inl ⟨by decide, by decide⟩, _, _, rfl, rfl, _, _, rfl, rfl, (by show 3 ≤ sizeLine; decide), fun p hp => ?_⟩
      exact fin _ p hp
    · refine ⟨_, rfl, _, rfl, _, rfl, _, rfl, _, _, rfl, rfl, ⟨by decide, by decide, by decide⟩, _, _, rfl, rfl, .inr ⟨_, rfl, _, _, rfl, rfl, .inr ⟨b01lo _, b01hi _⟩, ?_⟩⟩
      refine ⟨_, rfl, _, _, rfl, rfl, (show (2147483629 : Int) ≠ 0 by decide), _, rfl, _, _, rfl, rfl, .inl ⟨by decide, by decide⟩, _, _, rfl, rfl, _, _, rfl, rfl, (by show 3 ≤ sizeLine; decide), fun p hp => ?_⟩
      exact fin 0 p hp

end
end Sw

set_option maxHeartbeats 2000000
namespace Sw
open PySem PySem.Spec PyProof.Rows L2
section
variable {P : Program} {w : World} {K : PySem.W.Frag} {mg : Str → Option Value} {base : Heap}
theorem yesT {σ : L2.St} {H : Hp} {A : Hp → Prop} {B : Hp → Prop} (h : A H) : tYes σ H fun b H3 => if b = true then A H3 else B H3 := by
  show if true = true then A H else B H
  exact iteT h
abbrev dI (ns : List Int) : PyData := .list (ns.map PyData.int)
abbrev dII (rows : List (List Int)) : PyData := .list (rows.map dI)
theorem D.lints {bs : List Addr} {H : Hp} {w k : Nat} {v : V} {ns : List Int} (x : D bs H w k v (dI ns)) : ∃ a, v = .ref a ∧ H a = some (.lst (ns.map V.int)) ∧ a ∉ bs ∧ ns.length ≤ w := by
  cases x with
  | lst h n l t =>
    have e := DA.ints t
    subst e
    exact ⟨_, rfl, h, n, by simpa using l⟩
theorem D.ofInts {bs : List Addr} {H : Hp} {w k : Nat} {a : Addr} {ns : List Int} (h : H a = some (.lst (ns.map V.int))) (n : a ∉ bs) (l : ns.length ≤ w) (hs : ∀ n ∈ ns, n.natAbs < 2 ^ 39 + w) : D bs H w (k + 1) (.ref a) (dI ns) :=
  .lst h n (by simpa using l) (DA.ofInts hs)
theorem small40 {x : Int} {m w : Nat} (h0 : -(m : Int) ≤ x) (h1 : x ≤ m) (hm : m < 2 ^ 39 := by decide) : x.natAbs < 2 ^ 39 + w := by omega
theorem atI_end {ns : List Int} (h : ns ≠ []) : atI (ns.map V.int) (-1) = some (.int (ns.getLast h)) := by
  have e : ns.map V.int = (ns.dropLast).map V.int ++ [.int (ns.getLast h)] := by
    rw [← List.map_singleton, ← List.map_append, List.dropLast_concat_getLast h]
  rw [e]
  exact atI_last _ _
theorem cut_end (xs : List V) : cutV xs none (some (-1)) = xs.take (xs.length - 1) := by
  have e : HT.sIx xs.length xs.length (some (-1)) = xs.length - 1 := by
    unfold HT.sIx
    simp only []
    rw [if_pos (by decide)]
    omega
  unfold cutV
  rw [HT.sIx_none, e, List.drop_zero, Nat.sub_zero]
theorem ints_snoc (ws : List Int) (x : Int) : ws.map V.int ++ [V.int x] = (ws ++ [x]).map V.int := by simp
def rises (r : List Int) : Prop := ∀ (i : Nat) (x y : Int), r[i]? = some x → r[i + 1]? = some y → x < y
theorem rises_one (x : Int) : rises [x] := fun i a b h1 h2 => by
  cases i <;> simp at h2
structure Rung (r : List Int) : Prop where
  l1 : 1 ≤ r.length
  l4 : r.length ≤ 4
  up : rises r
  bd : ∀ x ∈ r, -20000 ≤ x ∧ x ≤ 20000

end
end Sw

set_option maxHeartbeats 2000000
namespace Sw
open PySem PySem.Spec PyProof.Rows L2
section
variable {P : Program} {w : World} {K : PySem.W.Frag} {mg : Str → Option Value} {base : Heap}

def isNum (d : PyData) : Bool := match d with
  | .int _ => true
  | _ => false
def allOf (f : PyData → Bool) (d : PyData) : Bool := match d with
  | .list ds => ds.all f
  | .tuple ds => ds.all f
  | _ => false
def areNums (d : PyData) : Bool := allOf isNum d
def areRows (d : PyData) : Bool := allOf areNums d
/-- a def that tells a truth of a thing -/
def sp_tell (f : PyData → Bool) : Sp := fun vs H Q _ => ∃ (v : V) (d : PyData) (bs : List Addr) (w k : Nat), vs = [v] ∧ D bs H w k v d ∧ w ≤ 1000 ∧ ∀ H', Kp [] H H' → Q (.bl (f d)) H'
theorem ok_is_number (T : Tx K mg) : FnOk P w K mg base CX0 1 (He.fAd K ("is_number", none)) T.fd_is_number p_is_number (sp_tell isNum) := by
  refine T.F_is_number.ok sc_is_number (fun vs H Q E h => ?_) (fun cdv A outer s H vs Q E hr h => ?_)
  · obtain ⟨v, d, bs, w', k, rfl, _⟩ := h
    rfl
  · obtain ⟨v, d, bs, w', k, rfl, hD, _, q⟩ := h
    refine ⟨_, PSs.nox (pss_one (ps_ret (pe_and (pe_callB call_isi (by rfl) T.b_isinstance (by decide +kernel) (pa_cons (pv 0) (pa_cons (pe_bltn (v := .ty "int") (by rfl) T.b_int (by decide +kernel) rfl) pa_nil))) (pe_one (pe_not (pe_callB call_isi (by rfl) T.b_isinstance (by decide +kernel) (pa_cons (pv 0) (pa_cons (pe_bltn (v := .ty "bool") (by rfl) T.b_bool (by decide +kernel) rfl) pa_nil)))))))), ?_⟩
    refine ⟨_, rfl, _, _, _, _, _, rfl, .ty _, hD.tyx, hD.kI, _, rfl, ?_⟩
    cases hD with
    | int i hi => exact iteT ⟨_, rfl, _, _, _, _, _, rfl, .ty _, (D.int (bs := bs) (w := w') (k := k) i hi).tyx, (D.int (bs := bs) (H := H) (w := w') (k := k) i hi).kB, _, rfl, q H Kp.rfl'⟩
    | bl b => exact iteT ⟨_, rfl, _, _, _, _, _, rfl, .ty _, (D.bl (bs := bs) (w := w') (k := k) b).tyx, (D.bl (bs := bs) (H := H) (w := w') (k := k) b).kB, _, rfl, q H Kp.rfl'⟩
    | _ => exact iteF (q H Kp.rfl')

theorem ok_are_numbers (T : Tx K mg) : FnOk P w K mg base CX0 2 (He.fAd K ("are_numbers", none)) T.fd_are_numbers p_are_numbers (sp_tell areNums) := by
  have G_is_number := ok_is_number (P := P) (w := w) (base := base) T
  refine T.F_are_numbers.ok sc_are_numbers (fun vs H Q E h => ?_) (fun cdv A outer s H vs Q E hr h => ?_)
  · obtain ⟨v, d, bs, w', k, rfl, _⟩ := h
    rfl
  · obtain ⟨v, d, bs, w', k, rfl, hD, lw, q⟩ := h
    refine ⟨_, PSs.nox (pss_one (ps_ret (pe_and (pe_callB call_isiT (by rfl) T.b_isinstance (by decide +kernel) (pa_cons (pv 0) (pa_cons (pe_tup (pa_cons (pe_bltn (v := .ty "list") (by rfl) T.b_list (by decide +kernel) rfl) (pa_cons (pe_bltn (v := .ty "tuple") (by rfl) T.b_tuple (by decide +kernel) rfl) pa_nil))) pa_nil))) (pe_one (pe_callB (cr_all rfl) (by rfl) T.b_all (by decide +kernel) (pa_cons (pe_lc (own := [("one", 1)]) (g := (gName 1)) (tt := tYes) rfl sc_are_numbers.nd (pi_seq (pv 0)) (blkOk_by (own := [("one", 1)]) (N := n_are_numbers) (sc := defScope s_are_numbers) (by decide +kernel)) (fun _ _ _ _ _ => (pg_name (i := 1) sc_are_numbers.nd rfl (by first | exact Or.inl rfl | exact Or.inr rfl))) (fun _ _ _ _ _ => pts_nil) (fun _ _ _ _ _ => (pe_call G_is_number (hr.mono (by first | decide | omega)) rfl T.g_is_number T.F_is_number.kp T.bd_is_number .nil pass0 (pa_cons (pv 1) pa_nil)))) pa_nil)))))), ?_⟩
    refine ⟨_, rfl, by show 2 ≤ sizeLine; decide, fun t ht => ?_⟩
    have k1 : ∀ cs, Kp cs H (upd H t (.tup [.ty "list", .ty "tuple"])) := fun cs => Kp.rfl'.new ht
    have hD1 := hD.keep (k1 bs)
    refine ⟨_, t, _, _, [.type "list", .type "tuple"], _, rfl, upd_same, tyLT, hD1.tyx, hD1.kQ, _, rfl, ?_⟩
    cases hD1 with
    | @lst k' a xs ds h n l da =>
      refine iteT ⟨_, rfl, a, rfl, .inl ⟨⟨_, SqL.of h⟩, fun p hp => lc_list (K := K) (a := a) (xs := xs) (fun j H3 => H3 p = some (.lst (((ds.take j).map isNum).map V.bl)) ∧ Kp [] (upd H t (.tup [.ty "list", .ty "tuple"])) H3) ?_ ?_ ?_ ?_⟩⟩
      · exact ⟨by rw [upd_same]; rfl, Kp.rfl'.new hp⟩
      · rintro j H3 _ ⟨_, k3⟩
        exact SqL.of (k3 _ _ h (by simp))
      · rintro j y H3 hj ⟨h3, k3⟩
        obtain ⟨e, he, hy⟩ := da.get hj
        have hjl := (List.getElem?_eq_some_iff.mp hj).1
        refine ⟨rfl, yesT ⟨_, rfl, y, e, bs, w', k', rfl, hy.keep (k3.sub (by simp)), lw, fun H4 k4 => ⟨_, k4 _ _ h3 (by simp), ?_, ?_, ?_⟩⟩⟩
        · simp only [List.length_map, List.length_take]
          exact small1000 (by omega)
        · rw [upd_same, List.take_add_one, he]
          simp
        · exact (k3.trans k4).own hp
      · rintro H3 ⟨h3, k3⟩
        rw [DA.len da, List.take_length] at h3
        refine ⟨p, _, rfl, SqL.of h3, ?_⟩
        have e : (ds.map isNum).all id = areNums (.list ds) := by simp [areNums, allOf, List.all_map, Function.comp_def]
        rw [e]
        exact q _ ((k1 []).trans k3)
    | @tup k' a xs ds h n l da =>
      refine iteT ⟨_, rfl, a, rfl, .inr ⟨⟨_, SqT.of h⟩, fun p hp => lc_tup (K := K) (a := a) (xs := xs) (fun j H3 => H3 p = some (.lst (((ds.take j).map isNum).map V.bl)) ∧ Kp [] (upd H t (.tup [.ty "list", .ty "tuple"])) H3) ?_ ?_ ?_ ?_⟩⟩
      · exact ⟨by rw [upd_same]; rfl, Kp.rfl'.new hp⟩
      · rintro j H3 _ ⟨_, k3⟩
        exact SqT.of (k3 _ _ h (by simp))
      · rintro j y H3 hj ⟨h3, k3⟩
        obtain ⟨e, he, hy⟩ := da.get hj
        have hjl := (List.getElem?_eq_some_iff.mp hj).1
        refine ⟨rfl, yesT ⟨_, rfl, y, e, bs, w', k', rfl, hy.keep (k3.sub (by simp)), lw, fun H4 k4 => ⟨_, k4 _ _ h3 (by simp), ?_, ?_, ?_⟩⟩⟩
        · simp only [List.length_map, List.length_take]
          exact small1000 (by omega)
        · rw [upd_same, List.take_add_one, he]
          simp
        · exact (k3.trans k4).own hp
      · rintro H3 ⟨h3, k3⟩
        rw [DA.len da, List.take_length] at h3
        refine ⟨p, _, rfl, SqL.of h3, ?_⟩
        have e : (ds.map isNum).all id = areNums (.tuple ds) := by simp [areNums, allOf, List.all_map, Function.comp_def]
        rw [e]
        exact q _ ((k1 []).trans k3)
    | _ => exact iteF (q _ (k1 []))

theorem ok_are_rows (T : Tx K mg) : FnOk P w K mg base CX0 3 (He.fAd K ("are_rows", none)) T.fd_are_rows p_are_rows (sp_tell areRows) := by
  have G_are_numbers := ok_are_numbers (P := P) (w := w) (base := base) T
  refine T.F_are_rows.ok sc_are_rows (fun vs H Q E h => ?_) (fun cdv A outer s H vs Q E hr h => ?_)
  · obtain ⟨v, d, bs, w', k, rfl, _⟩ := h
    rfl
  · obtain ⟨v, d, bs, w', k, rfl, hD, lw, q⟩ := h
    refine ⟨_, PSs.nox (pss_one (ps_ret (pe_and (pe_callB call_isiT (by rfl) T.b_isinstance (by decide +kernel) (pa_cons (pv 0) (pa_cons (pe_tup (pa_cons (pe_bltn (v := .ty "list") (by rfl) T.b_list (by decide +kernel) rfl) (pa_cons (pe_bltn (v := .ty "tuple") (by rfl) T.b_tuple (by decide +kernel) rfl) pa_nil))) pa_nil))) (pe_one (pe_callB (cr_all rfl) (by rfl) T.b_all (by decide +kernel) (pa_cons (pe_lc (own := [("row", 1)]) (g := (gName 1)) (tt := tYes) rfl sc_are_rows.nd (pi_seq (pv 0)) (blkOk_by (own := [("row", 1)]) (N := n_are_rows) (sc := defScope s_are_rows) (by decide +kernel)) (fun _ _ _ _ _ => (pg_name (i := 1) sc_are_rows.nd rfl (by first | exact Or.inl rfl | exact Or.inr rfl))) (fun _ _ _ _ _ => pts_nil) (fun _ _ _ _ _ => (pe_call G_are_numbers (hr.mono (by first | decide | omega)) rfl T.g_are_numbers T.F_are_numbers.kp T.bd_are_numbers .nil pass0 (pa_cons (pv 1) pa_nil)))) pa_nil)))))), ?_⟩
    refine ⟨_, rfl, by show 2 ≤ sizeLine; decide, fun t ht => ?_⟩
    have k1 : ∀ cs, Kp cs H (upd H t (.tup [.ty "list", .ty "tuple"])) := fun cs => Kp.rfl'.new ht
    have hD1 := hD.keep (k1 bs)
    refine ⟨_, t, _, _, [.type "list", .type "tuple"], _, rfl, upd_same, tyLT, hD1.tyx, hD1.kQ, _, rfl, ?_⟩
    cases hD1 with
    | @lst k' a xs ds h n l da =>
      refine iteT ⟨_, rfl, a, rfl, .inl ⟨⟨_, SqL.of h⟩, fun p hp => lc_list (K := K) (a := a) (xs := xs) (fun j H3 => H3 p = some (.lst (((ds.take j).map areNums).map V.bl)) ∧ Kp [] (upd H t (.tup [.ty "list", .ty "tuple"])) H3) ?_ ?_ ?_ ?_⟩⟩
      · exact ⟨by rw [upd_same]; rfl, Kp.rfl'.new hp⟩
      · rintro j H3 _ ⟨_, k3⟩
        exact SqL.of (k3 _ _ h (by simp))
      · rintro j y H3 hj ⟨h3, k3⟩
        obtain ⟨e, he, hy⟩ := da.get hj
        have hjl := (List.getElem?_eq_some_iff.mp hj).1
        refine ⟨rfl, yesT ⟨_, rfl, y, e, bs, w', k', rfl, hy.keep (k3.sub (by simp)), lw, fun H4 k4 => ⟨_, k4 _ _ h3 (by simp), ?_, ?_, ?_⟩⟩⟩
        · simp only [List.length_map, List.length_take]
          exact small1000 (by omega)
        · rw [upd_same, List.take_add_one, he]
          simp
        · exact (k3.trans k4).own hp
      · rintro H3 ⟨h3, k3⟩
        rw [DA.len da, List.take_length] at h3
        refine ⟨p, _, rfl, SqL.of h3, ?_⟩
        have e : (ds.map areNums).all id = areRows (.list ds) := by simp [areRows, allOf, List.all_map, Function.comp_def]
        rw [e]
        exact q _ ((k1 []).trans k3)
    | @tup k' a xs ds h n l da =>
      refine iteT ⟨_, rfl, a, rfl, .inr ⟨⟨_, SqT.of h⟩, fun p hp => lc_tup (K := K) (a := a) (xs := xs) (fun j H3 => H3 p = some (.lst (((ds.take j).map areNums).map V.bl)) ∧ Kp [] (upd H t (.tup [.ty "list", .ty "tuple"])) H3) ?_ ?_ ?_ ?_⟩⟩
      · exact ⟨by rw [upd_same]; rfl, Kp.rfl'.new hp⟩
      · rintro j H3 _ ⟨_, k3⟩
        exact SqT.of (k3 _ _ h (by simp))
      · rintro j y H3 hj ⟨h3, k3⟩
        obtain ⟨e, he, hy⟩ := da.get hj
        have hjl := (List.getElem?_eq_some_iff.mp hj).1
        refine ⟨rfl, yesT ⟨_, rfl, y, e, bs, w', k', rfl, hy.keep (k3.sub (by simp)), lw, fun H4 k4 => ⟨_, k4 _ _ h3 (by simp), ?_, ?_, ?_⟩⟩⟩
        · simp only [List.length_map, List.length_take]
          exact small1000 (by omega)
        · rw [upd_same, List.take_add_one, he]
          simp
        · exact (k3.trans k4).own hp
      · rintro H3 ⟨h3, k3⟩
        rw [DA.len da, List.take_length] at h3
        refine ⟨p, _, rfl, SqL.of h3, ?_⟩
        have e : (ds.map areNums).all id = areRows (.tuple ds) := by simp [areRows, allOf, List.all_map, Function.comp_def]
        rw [e]
        exact q _ ((k1 []).trans k3)
    | _ => exact iteF (q _ (k1 []))

end
end Sw

set_option maxHeartbeats 2000000
namespace Sw
open PySem PySem.Spec PyProof.Rows L2
section
variable {P : Program} {w : World} {K : PySem.W.Frag} {mg : Str → Option Value} {base : Heap}
theorem DA.small {bs : List Addr} {H : Hp} {w k : Nat} : ∀ {ns : List Int} {vs : List V}, DA bs H w k vs (ns.map PyData.int) → ∀ n ∈ ns, n.natAbs < 2 ^ 39 + w
  | [], _, _, n, hn => nomatch hn
  | m :: ns, _, .cons h t, n, hn => by
    rcases List.mem_cons.mp hn with z | z
    · subst z
      cases h with
      | int _ hi => exact hi
    · exact DA.small t n z
/-! ### a list or a tuple -/
def sqo (kd : Bool) (xs : List V) : HO := match kd with
  | true => .lst xs
  | false => .tup xs
def mkD (kd : Bool) (ds : List PyData) : PyData := match kd with
  | true => .list ds
  | false => .tuple ds
theorem D.seq {bs : List Addr} {H : Hp} {w k : Nat} {v : V} {d : PyData} (x : D bs H w k v d) (hsq : isSeq d = true) : ∃ a kd xs ds k', v = .ref a ∧ k = k' + 1 ∧ H a = some (sqo kd xs) ∧ a ∉ bs ∧ xs.length ≤ w ∧ DA bs H w k' xs ds ∧ d = mkD kd ds := by
  cases x with
  | lst h n l t => exact ⟨_, true, _, _, _, rfl, rfl, h, n, l, t, rfl⟩
  | tup h n l t => exact ⟨_, false, _, _, _, rfl, rfl, h, n, l, t, rfl⟩
  | _ => cases hsq
theorem D.ofSeq {bs : List Addr} {H : Hp} {w k : Nat} {a : Addr} {kd : Bool} {xs : List V} {ds : List PyData} (h : H a = some (sqo kd xs)) (n : a ∉ bs) (l : xs.length ≤ w) (t : DA bs H w k xs ds) : D bs H w (k + 1) (.ref a) (mkD kd ds) := by
  cases kd
  · exact .tup h n l t
  · exact .lst h n l t
theorem sqo_len {H : Hp} {a : Addr} {kd : Bool} {xs : List V} {n : Nat} (h : H a = some (sqo kd xs)) (e : n = xs.length) : LenV K (.ref a) H n := by
  cases kd
  · exact .inr ⟨_, SqT.of h, e⟩
  · exact .inl ⟨_, SqL.of h, e⟩
theorem sqo_k {H : Hp} {a : Addr} {kd : Bool} {xs : List V} (h : H a = some (sqo kd xs)) : SqK kd K H a xs := by
  cases kd
  · exact SqT.of h
  · exact SqL.of h
/-- a comprehension over a list or a tuple -/
theorem lc_seq {H1 : Hp} {a : Addr} {kd : Bool} {xs : List V} {g : TG} {tt : TT} {te : TE} {vs : List Nat} {σ : L2.St} {Qd : Addr → Hp → Prop} (h : H1 a = some (sqo kd xs)) (Pv : Addr → Nat → Hp → Prop) (h0 : ∀ p, H1 p = none → Pv p 0 (upd H1 p (.lst [])))
    (hG : ∀ p i H, H1 p = none → Pv p i H → H a = some (sqo kd xs))
    (hs : ∀ p i x H, H1 p = none → xs[i]? = some x → Pv p i H → g x (wipe σ vs) H fun σ2 H2 => wipe σ2 vs = wipe σ vs ∧ tt σ2 H2 fun b H3 =>
      if b = true then te σ2 H3 fun y H4 => ∃ acc, H4 p = some (.lst acc) ∧ acc.length < sizeLine ∧ Pv p (i + 1) (upd H4 p (.lst (acc ++ [y]))) else Pv p (i + 1) H3) (hd : ∀ p H, H1 p = none → Pv p xs.length H → Qd p H) :
    ((∃ xs, SqL K H1 a xs) ∧ ∀ p, H1 p = none → ∃ W : Nat → Nat → Hp → Prop, (∃ m, W 0 m (upd H1 p (.lst []))) ∧ ∀ i m H, W i m H →
      ((Itl K a).stop i H ∧ Qd p H) ∨ ((Itl K a).go i H ∧ ∃ Nx : Hp → Prop, (∀ H', Nx H' → ∃ m', m' < m ∧ W (i + 1) m' H') ∧ ∀ x H', (Itl K a).yld i H x H' → g x (wipe σ vs) H' fun σ2 H2 => wipe σ2 vs = wipe σ vs ∧ tt σ2 H2 fun b H3 =>
        if b = true then te σ2 H3 fun y H4 => ∃ acc, H4 p = some (.lst acc) ∧ acc.length < sizeLine ∧ Nx (upd H4 p (.lst (acc ++ [y]))) else Nx H3)) ∨
    ((∃ xs, SqT K H1 a xs) ∧ ∀ p, H1 p = none → ∃ W : Nat → Nat → Hp → Prop, (∃ m, W 0 m (upd H1 p (.lst []))) ∧ ∀ i m H, W i m H →
      ((Itt K a).stop i H ∧ Qd p H) ∨ ((Itt K a).go i H ∧ ∃ Nx : Hp → Prop, (∀ H', Nx H' → ∃ m', m' < m ∧ W (i + 1) m' H') ∧ ∀ x H', (Itt K a).yld i H x H' → g x (wipe σ vs) H' fun σ2 H2 => wipe σ2 vs = wipe σ vs ∧ tt σ2 H2 fun b H3 =>
        if b = true then te σ2 H3 fun y H4 => ∃ acc, H4 p = some (.lst acc) ∧ acc.length < sizeLine ∧ Nx (upd H4 p (.lst (acc ++ [y]))) else Nx H3)) := by
  cases kd
  · exact .inr ⟨⟨_, SqT.of h⟩, fun p hp => lc_tup (K := K) (a := a) (xs := xs) (Pv p) (h0 p hp) (fun i H _ q => SqT.of (hG p i H hp q)) (fun i x H hx q => hs p i x H hp hx q) fun H q => hd p H hp q⟩
  · exact .inl ⟨⟨_, SqL.of h⟩, fun p hp => lc_list (K := K) (a := a) (xs := xs) (Pv p) (h0 p hp) (fun i H _ q => SqL.of (hG p i H hp q)) (fun i x H hx q => hs p i x H hp hx q) fun H q => hd p H hp q⟩
theorem iteC {c : Bool} {A B : Prop} (h : c = true) (k : A) : if c = true then A else B := by
  rw [if_pos h]
  exact k
theorem iteN {c : Bool} {A B : Prop} (h : c = false) (k : B) : if c = true then A else B := by
  rw [h]
  exact iteF k
theorem rep_snoc (j : Nat) : (List.replicate j true).map V.bl ++ [V.bl true] = (List.replicate (j + 1) true).map V.bl := by
  rw [List.replicate_succ']
  simp
theorem rep_all (j : Nat) : (List.replicate j true).all id = true := by simp
theorem cut_one (xs : List V) : cutV xs (some 1) none = xs.drop 1 := by
  have e : HT.sIx xs.length 0 (some 1) = min 1 xs.length := HT.sIx_nat xs.length 0 1
  unfold cutV
  rw [HT.sIx_none, e]
  cases xs with
  | nil => rfl
  | cons a r =>
    have e2 : min 1 (a :: r).length = 1 := by simp
    rw [e2, List.take_of_length_le (by simp)]
/-! ### numbers, rows of numbers -/
/-- d tells the numbers ns -/
def IntsD (d : PyData) (ns : List Int) : Prop := ∃ kd, d = mkD kd (ns.map PyData.int)
theorem IntsD.nums {d : PyData} {ns : List Int} (h : IntsD d ns) : areNums d = true := by
  obtain ⟨kd, rfl⟩ := h
  cases kd <;> simp [mkD, areNums, allOf, isNum, List.all_map]
theorem IntsD.seq {d : PyData} {ns : List Int} (h : IntsD d ns) : isSeq d = true := by
  obtain ⟨kd, rfl⟩ := h
  cases kd <;> rfl
def RowsD (d : PyData) (rows : List (List Int)) : Prop := ∃ kd ds, d = mkD kd ds ∧ ds.length = rows.length ∧ ∀ (i : Nat) (e : PyData) (r : List Int), ds[i]? = some e → rows[i]? = some r → IntsD e r
theorem RowsD.rowsOk {d : PyData} {rows : List (List Int)} (h : RowsD d rows) : areRows d = true := by
  obtain ⟨kd, ds, rfl, l, a⟩ := h
  have e : ds.all areNums = true := by
    rw [List.all_eq_true]
    intro x hx
    obtain ⟨i, hi, e⟩ := List.getElem_of_mem hx
    have hr : i < rows.length := by omega
    exact (a i x rows[i] (by rw [List.getElem?_eq_getElem hi, e]) (by simp [hr])).nums
  cases kd <;> simpa [mkD, areRows, allOf] using e
theorem D.ints {bs : List Addr} {H : Hp} {w k : Nat} {v : V} {d : PyData} {ns : List Int} (x : D bs H w k v d) (h : IntsD d ns) : ∃ a kd, v = .ref a ∧ H a = some (sqo kd (ns.map V.int)) ∧ a ∉ bs ∧ ns.length ≤ w ∧ (∀ n ∈ ns, n.natAbs < 2 ^ 39 + w) := by
  obtain ⟨a, kd, xs, ds, k', e, ek, ha, na, l, da, ed⟩ := x.seq h.seq
  obtain ⟨kd2, e2⟩ := h
  rw [ed] at e2
  have eds : ds = ns.map PyData.int := by
    cases kd <;> cases kd2 <;> simp [mkD] at e2 <;> exact e2
  rw [eds] at da
  have ex := DA.ints da
  rw [ex] at ha l
  exact ⟨a, kd, e, ha, na, by simpa using l, DA.small da⟩
theorem D.rows {bs : List Addr} {H : Hp} {w k : Nat} {v : V} {d : PyData} {rows : List (List Int)} (x : D bs H w k v d) (h : RowsD d rows) : ∃ a kd xs, v = .ref a ∧ H a = some (sqo kd xs) ∧ a ∉ bs ∧ xs.length = rows.length ∧ xs.length ≤ w ∧
    ∀ (i : Nat) (y : V), xs[i]? = some y → ∃ r e k', rows[i]? = some r ∧ IntsD e r ∧ D bs H w k' y e ∧ k' + 1 = k := by
  obtain ⟨kd2, ds, rfl, l, al⟩ := h
  have hs : isSeq (mkD kd2 ds) = true := by cases kd2 <;> rfl
  obtain ⟨a, kd, xs, ds2, k', e, ek, ha, na, lx, da, ed⟩ := x.seq hs
  have eds : ds = ds2 := by
    cases kd <;> cases kd2 <;> simp [mkD] at ed <;> exact ed
  subst eds
  have ll := DA.len da
  refine ⟨a, kd, xs, e, ha, na, by omega, lx, fun i y hy => ?_⟩
  obtain ⟨e', he', hD⟩ := da.get hy
  have hi := (List.getElem?_eq_some_iff.mp hy).1
  have hr : i < rows.length := by omega
  exact ⟨rows[i], e', k', by simp [hr], al i e' rows[i] he' (by simp [hr]), hD, ek.symm⟩
def risesB (ns : List Int) : List Bool := (ns.zip (ns.drop 1)).map fun p => decide (p.1 < p.2)
theorem risesB_of {ns : List Int} (h : rises ns) : (risesB ns).all id = true := by
  rw [risesB, List.all_map, List.all_eq_true]
  rintro ⟨x, y⟩ hp
  obtain ⟨i, hi, e⟩ := List.getElem_of_mem hp
  have e1 : (ns.zip (ns.drop 1))[i]? = some (x, y) := by rw [List.getElem?_eq_getElem hi, e]
  rw [List.getElem?_zip_eq_some] at e1
  obtain ⟨e2, e3⟩ := e1
  rw [List.getElem?_drop] at e3
  have := h i x y e2 (by rw [Nat.add_comm]; exact e3)
  simpa using this
def sp_rise : Sp := fun vs H Q _ => ∃ (a : Addr) (kd : Bool) (ns : List Int), vs = [.ref a] ∧ H a = some (sqo kd (ns.map V.int)) ∧ 1 ≤ ns.length ∧ ns.length ≤ 1000 ∧ ∀ H', Kp [] H H' → Q (.bl ((risesB ns).all id)) H'
theorem ok_rise (T : Tx K mg) : FnOk P w K mg base CX0 1 (He.fAd K ("does_rise", none)) T.fd_does_rise p_does_rise sp_rise := by
  refine T.F_does_rise.ok sc_does_rise (fun vs H Q E h => ?_) (fun cdv A outer s H vs Q E hr h => ?_)
  · obtain ⟨a, kd, ns, rfl, _⟩ := h
    rfl
  · obtain ⟨a, kd, ns, rfl, hA, hl1, hl, q⟩ := h
    refine ⟨_, PSs.nox (pss_one (ps_ret (pe_callB (cr_all rfl) (by rfl) T.b_all (by decide +kernel) (pa_cons (pe_lc (own := [("low", 1), ("high", 2)]) (g := (gTup K 2 (gCons (gName 1) (gCons (gName 2) gNil)))) (tt := tYes) rfl sc_does_rise.nd (pi_zipS (by rfl) T.b_zip (pa_cons (pv 0) (pa_cons (pe_slice (sl_list.or sl_tup) (pv 0) (po_some pe_int) po_none) pa_nil))) (blkOk_by (own := [("low", 1), ("high", 2)]) (N := n_does_rise) (sc := defScope s_does_rise) (by decide +kernel)) (fun _ _ _ _ _ => (pg_tup rfl (pgs_cons (pg_name (i := 1) sc_does_rise.nd rfl (by first | exact Or.inl rfl | exact Or.inr rfl)) (pgs_cons (pg_name (i := 2) sc_does_rise.nd rfl (by first | exact Or.inl rfl | exact Or.inr rfl)) pgs_nil)))) (fun _ _ _ _ _ => pts_nil) (fun _ _ _ _ _ => (pe_cmpR op_lt (pv 1) (pv 2) (nomark _)))) pa_nil)))), ?_⟩
    have rest : ∀ p, H p = none → (iZipS K (fun σ H Q => Q [.ref a, .ref p] H)) (L2.start n_does_rise [V.ref a]) (upd H p (sqo kd (cutV (ns.map V.int) (some 1) none))) (fun J H1 => ∀ D, H1 D = none → ∃ W : Nat → Nat → Hp → Prop, (∃ m, W 0 m (upd H1 D (.lst []))) ∧ ∀ i m H, W i m H →
        (J.stop i H ∧ rAll K [.ref D] H Q) ∨ (J.go i H ∧ ∃ Nx : Hp → Prop, (∀ H', Nx H' → ∃ m', m' < m ∧ W (i + 1) m' H') ∧ ∀ x H', J.yld i H x H' → (gTup K 2 (gCons (gName 1) (gCons (gName 2) gNil))) x (wipe (L2.start n_does_rise [V.ref a]) [1, 2]) H' fun σ2 H2 => wipe σ2 [1, 2] = wipe (L2.start n_does_rise [V.ref a]) [1, 2] ∧ tYes σ2 H2 fun b H3 =>
          if b = true then (tOp (rI0 fun i j => V.bl (decide (i < j))) (tVar 1) (tVar 2)) σ2 H3 fun y H4 => ∃ acc, H4 D = some (.lst acc) ∧ acc.length < sizeLine ∧ Nx (upd H4 D (.lst (acc ++ [y]))) else Nx H3)) := by
      intro p hp
      have nap := ne_of_none hA hp
      have hA1 : (upd H p (sqo kd (cutV (ns.map V.int) (some 1) none))) a = some (sqo kd (ns.map V.int)) := by
        rw [upd_ne nap]
        exact hA
      have hP1 : (upd H p (sqo kd (cutV (ns.map V.int) (some 1) none))) p = some (sqo kd ((ns.drop 1).map V.int)) := by
        rw [upd_same, cut_one, List.map_drop]
      refine ⟨a, p, kd, kd, _, _, rfl, sqo_k hA1, sqo_k hP1, fun d hd => lc_it (walkZ (xs := ns.map V.int) (ys := (ns.drop 1).map V.int) rfl) (fun j H3 => H3 d = some (.lst (((risesB ns).take j).map V.bl)) ∧ Kp [] (upd H p (sqo kd (cutV (ns.map V.int) (some 1) none))) H3) ?_ ?_ ?_ ?_⟩
      · exact ⟨by rw [upd_same]; rfl, Kp.rfl'.new hd⟩
      · rintro j H3 _ ⟨_, k3⟩
        exact ⟨sqo_k (k3 _ _ hA1 (by simp)), sqo_k (k3 _ _ hP1 (by simp))⟩
      · rintro j x H3 H4 hj ⟨h3, k3⟩ ⟨t, y, z, rfl, ht, rfl, hy, hz⟩
        simp only [List.getElem?_map] at hy hz
        obtain ⟨y', hy', rfl⟩ := Option.map_eq_some_iff.mp hy
        obtain ⟨z', hz', rfl⟩ := Option.map_eq_some_iff.mp hz
        refine ⟨t, _, rfl, SqT.of upd_same, rfl, _, _, rfl, _, _, rfl, rfl, rfl, yesT ⟨_, rfl, _, rfl, _, _, rfl, rfl, ?_⟩⟩
        refine ⟨_, by rw [upd_ne (ne_of_none h3 ht)]; exact h3, ?_, ?_, ?_⟩
        · simp only [List.length_map, List.length_take, risesB, List.length_zip]
          exact small1000 (by omega)
        · have e : (risesB ns)[j]? = some (decide (y' < z')) := by
            rw [risesB, List.getElem?_map, (List.getElem?_zip_eq_some (i := j) (z := (y', z'))).mpr ⟨hy', hz'⟩]
            rfl
          rw [upd_same, List.take_add_one, e]
          simp
        · exact (k3.new ht).own hd
      · rintro H3 ⟨h3, k3⟩
        have e : (risesB ns).take (min (ns.map V.int).length ((ns.drop 1).map V.int).length) = risesB ns := by
          apply List.take_of_length_le
          simp [risesB]
        rw [e] at h3
        exact ⟨d, _, rfl, SqL.of h3, q _ ((Kp.rfl'.new hp).trans k3)⟩
    refine ⟨_, rfl, _, rfl, 1, rfl, ?_⟩
    cases kd with
    | true => exact .inl ⟨a, _, rfl, SqL.of hA, rest⟩
    | false =>
      refine .inr ⟨a, _, rfl, SqT.of hA, ?_, rest⟩
      rintro ⟨z, _⟩
      have e : HT.sIx (ns.map V.int).length 0 (some 1) = min 1 (ns.map V.int).length := HT.sIx_nat _ 0 1
      rw [e, List.length_map] at z
      omega
structure Rung0 (r : List Int) : Prop where
  l1 : 1 ≤ r.length
  l4 : r.length ≤ 4
  up : rises r
theorem Rung.r0 {r : List Int} (h : Rung r) : Rung0 r := ⟨h.l1, h.l4, h.up⟩

end
end Sw

set_option maxHeartbeats 2000000
namespace Sw
open PySem PySem.Spec PyProof.Rows L2
section
variable {P : Program} {w : World} {K : PySem.W.Frag} {mg : Str → Option Value} {base : Heap}
/-- a row of data that tells r -/
def sp_strings : Sp := fun vs H Q _ => ∃ (v : V) (d : PyData) (rows : List (List Int)) (bs : List Addr) (w k : Nat), vs = [v] ∧ D bs H w k v d ∧ RowsD d rows ∧ w ≤ 1000 ∧ 1 ≤ rows.length ∧ (∀ r ∈ rows, r.length = rows.length) ∧ ∀ H', Kp [] H H' → Q (.bl true) H'
theorem ok_strings (T : Tx K mg) : FnOk P w K mg base CX0 4 (He.fAd K ("are_strings", none)) T.fd_are_strings p_are_strings sp_strings := by
  have G_are_rows := ok_are_rows (P := P) (w := w) (base := base) T
  refine T.F_are_strings.ok sc_are_strings (fun vs H Q E h => ?_) (fun cdv A outer s H vs Q E hr h => ?_)
  · obtain ⟨_, _, _, _, _, _, rfl, _⟩ := h
    rfl
  · obtain ⟨v, d, rows, bs, w', k, rfl, hD, hR, lw, l1, hl, q⟩ := h
    refine ⟨_, PSs.nox (pss_one (ps_ret (pe_and (pe_call G_are_rows (hr.mono (by first | decide | omega)) rfl T.g_are_rows T.F_are_rows.kp T.bd_are_rows .nil pass0 (pa_cons (pv 0) pa_nil)) (pe_and (pe_cmpR op_gt (pe_callB call_len (by rfl) T.b_len (by decide +kernel) (pa_cons (pv 0) pa_nil)) pe_int (nomark _)) (pe_one (pe_callB (cr_all rfl) (by rfl) T.b_all (by decide +kernel) (pa_cons (pe_lc (own := [("row", 1)]) (g := (gName 1)) (tt := tYes) rfl sc_are_strings.nd (pi_seq (pv 0)) (blkOk_by (own := [("row", 1)]) (N := n_are_strings) (sc := defScope s_are_strings) (by decide +kernel)) (fun _ _ _ _ _ => (pg_name (i := 1) sc_are_strings.nd rfl (by first | exact Or.inl rfl | exact Or.inr rfl))) (fun _ _ _ _ _ => pts_nil) (fun _ _ _ _ _ => (pe_cmpR op_eq (pe_callB (kLen (K := K) rfl) (by rfl) T.b_len (by decide +kernel) (pa_cons (pv 1) pa_nil)) (pe_callB (kLen (K := K) rfl) (by rfl) T.b_len (by decide +kernel) (pa_cons (pv 0) pa_nil)) (nomark _)))) pa_nil))))))), ?_⟩
    refine ⟨_, rfl, _, _, bs, w', k, rfl, hD, lw, fun H1 k1 => ⟨_, rfl, iteC hR.rowsOk ?_⟩⟩
    obtain ⟨t, kd, xs, rfl, h, n, lx, lxw, al⟩ := (hD.keep (k1.sub (by simp))).rows hR
    refine ⟨_, rfl, _, rows.length, rfl, sqo_len h lx.symm, _, _, rfl, rfl, _, rfl, iteC (by simp; omega) ?_⟩
    refine ⟨_, rfl, t, rfl, lc_seq h (fun p j H3 => H3 p = some (.lst ((List.replicate j true).map V.bl)) ∧ Kp [] H1 H3) ?_ ?_ ?_ ?_⟩
    · exact fun p hp => ⟨by rw [upd_same]; rfl, Kp.rfl'.new hp⟩
    · rintro p j H3 _ ⟨_, k3⟩
      exact k3 _ _ h (by simp)
    · rintro p j y H3 hp hj ⟨h3, k3⟩
      obtain ⟨r, e, k', hr2, hI, hDy, _⟩ := al j y hj
      have hjl := (List.getElem?_eq_some_iff.mp hj).1
      have hrl := hl r (List.mem_of_getElem? hr2)
      obtain ⟨ra, kd2, rfl, hRa, _, _, _⟩ := hDy.ints hI
      refine ⟨rfl, yesT ⟨_, rfl, _, r.length, rfl, sqo_len (k3 _ _ hRa (by simp)) (by simp), _, rfl, _, rows.length, rfl, sqo_len (k3 _ _ h (by simp)) lx.symm, rfl, ?_⟩⟩
      refine ⟨_, h3, by simp only [List.length_map, List.length_replicate]; exact small1000 (by omega), ?_, k3.own hp⟩
      rw [upd_same, hrl, decide_eq_true rfl, rep_snoc]
    · rintro p H3 hp ⟨h3, k3⟩
      refine ⟨p, _, rfl, SqL.of h3, ?_⟩
      rw [rep_all]
      exact q _ (k1.trans k3)
def sp_ladder : Sp := fun vs H Q _ => ∃ (a : Addr) (kd : Bool) (r : List Int), vs = [.ref a] ∧ H a = some (sqo kd (r.map V.int)) ∧ Rung0 r ∧ ∀ H', Kp [] H H' → Q (.bl true) H'
theorem ok_ladder (T : Tx K mg) : FnOk P w K mg base CX0 2 (He.fAd K ("is_ladder", none)) T.fd_is_ladder p_is_ladder sp_ladder := by
  have G_does_rise := ok_rise (P := P) (w := w) (base := base) T
  refine T.F_is_ladder.ok sc_is_ladder (fun vs H Q E h => ?_) (fun cdv A outer s H vs Q E hr h => ?_)
  · obtain ⟨t, kd, rows, rfl, _⟩ := h
    rfl
  · obtain ⟨a, kd, r, rfl, hA, hR, q⟩ := h
    refine ⟨_, PSs.nox (pss_one (ps_ret (pe_and (pe_chain op_le op_le pe_int (pe_callB call_len (by rfl) T.b_len (by decide +kernel) (pa_cons (pv 0) pa_nil)) (pe_glob (v := .int 4) rfl T.c_MOST_STEPS ⟨_, rfl⟩)) (pe_one (pe_call G_does_rise (hr.mono (by first | decide | omega)) rfl T.g_does_rise T.F_does_rise.kp T.bd_does_rise .nil pass0 (pa_cons (pv 0) pa_nil)))))), ?_⟩
    have l1 := hR.l1
    have l4 := hR.l4
    refine ⟨_, rfl, _, r.length, rfl, sqo_len hA (by simp), _, _, rfl, rfl, _, rfl, iteC (by simp; omega) ?_⟩
    refine ⟨_, _, rfl, rfl, _, rfl, iteC (by simp; omega) ?_⟩
    refine ⟨_, rfl, a, kd, r, rfl, hA, l1, by omega, fun H1 k1 => ?_⟩
    rw [risesB_of hR.up]
    exact q _ k1
def sp_steps : Sp := fun vs H Q _ => ∃ (v : V) (d : PyData) (rows : List (List Int)) (bs : List Addr) (w k : Nat), vs = [v, .int rows.length] ∧ D bs H w k v d ∧ RowsD d rows ∧ w ≤ 1000 ∧ (∀ r ∈ rows, Rung0 r) ∧ ∀ H', Kp [] H H' → Q (.bl true) H'
theorem ok_steps (T : Tx K mg) : FnOk P w K mg base CX0 4 (He.fAd K ("are_steps", none)) T.fd_are_steps p_are_steps sp_steps := by
  have G_are_rows := ok_are_rows (P := P) (w := w) (base := base) T
  have G_is_ladder := ok_ladder (P := P) (w := w) (base := base) T
  refine T.F_are_steps.ok sc_are_steps (fun vs H Q E h => ?_) (fun cdv A outer s H vs Q E hr h => ?_)
  · obtain ⟨_, _, _, _, _, _, rfl, _⟩ := h
    rfl
  · obtain ⟨v, d, rows, bs, w', k, rfl, hD, hR, lw, hl, q⟩ := h
    refine ⟨_, PSs.nox (pss_one (ps_ret (pe_and (pe_call G_are_rows (hr.mono (by first | decide | omega)) rfl T.g_are_rows T.F_are_rows.kp T.bd_are_rows .nil pass0 (pa_cons (pv 0) pa_nil)) (pe_and (pe_cmpR op_eq (pe_callB call_len (by rfl) T.b_len (by decide +kernel) (pa_cons (pv 0) pa_nil)) (pv 1) (nomark _)) (pe_one (pe_callB (cr_all rfl) (by rfl) T.b_all (by decide +kernel) (pa_cons (pe_lc (own := [("row", 2)]) (g := (gName 2)) (tt := tYes) rfl sc_are_steps.nd (pi_seq (pv 0)) (blkOk_by (own := [("row", 2)]) (N := n_are_steps) (sc := defScope s_are_steps) (by decide +kernel)) (fun _ _ _ _ _ => (pg_name (i := 2) sc_are_steps.nd rfl (by first | exact Or.inl rfl | exact Or.inr rfl))) (fun _ _ _ _ _ => pts_nil) (fun _ _ _ _ _ => (pe_call G_is_ladder (hr.mono (by first | decide | omega)) rfl T.g_is_ladder T.F_is_ladder.kp T.bd_is_ladder .nil pass0 (pa_cons (pv 2) pa_nil)))) pa_nil))))))), ?_⟩
    refine ⟨_, rfl, _, _, bs, w', k, rfl, hD, lw, fun H1 k1 => ⟨_, rfl, iteC hR.rowsOk ?_⟩⟩
    obtain ⟨t, kd, xs, rfl, h, n, lx, lxw, al⟩ := (hD.keep (k1.sub (by simp))).rows hR
    refine ⟨_, rfl, _, rows.length, rfl, sqo_len h lx.symm, _, rfl, rfl, _, rfl, iteC (by simp) ?_⟩
    refine ⟨_, rfl, t, rfl, lc_seq h (fun p j H3 => H3 p = some (.lst ((List.replicate j true).map V.bl)) ∧ Kp [] H1 H3) ?_ ?_ ?_ ?_⟩
    · exact fun p hp => ⟨by rw [upd_same]; rfl, Kp.rfl'.new hp⟩
    · rintro p j H3 _ ⟨_, k3⟩
      exact k3 _ _ h (by simp)
    · rintro p j y H3 hp hj ⟨h3, k3⟩
      obtain ⟨r, e, k', hr2, hI, hDy, _⟩ := al j y hj
      have hjl := (List.getElem?_eq_some_iff.mp hj).1
      obtain ⟨ra, kd2, rfl, hRa, _, _, _⟩ := hDy.ints hI
      refine ⟨rfl, yesT ⟨_, rfl, ra, kd2, r, rfl, k3 _ _ hRa (by simp), hl r (List.mem_of_getElem? hr2), fun H4 k4 => ?_⟩⟩
      refine ⟨_, k4 _ _ h3 (by simp), by simp only [List.length_map, List.length_replicate]; exact small1000 (by omega), ?_, (k3.trans k4).own hp⟩
      rw [upd_same, rep_snoc]
    · rintro p H3 hp ⟨h3, k3⟩
      refine ⟨p, _, rfl, SqL.of h3, ?_⟩
      rw [rep_all]
      exact q _ (k1.trans k3)
def sp_memory : Sp := fun vs H Q _ => ∃ (v : V) (d : PyData) (ws : List Int) (bs : List Addr) (w k : Nat), vs = [v] ∧ D bs H w k v d ∧ IntsD d ws ∧ w ≤ 1000 ∧ 1 ≤ ws.length ∧ ws.length ≤ 5 ∧ (∀ h : ws ≠ [], ws.getLast h ≠ 0) ∧ ∀ H', Kp [] H H' → Q (.bl true) H'
theorem ok_memory (T : Tx K mg) : FnOk P w K mg base CX0 3 (He.fAd K ("is_memory", none)) T.fd_is_memory p_is_memory sp_memory := by
  have G_are_numbers := ok_are_numbers (P := P) (w := w) (base := base) T
  refine T.F_is_memory.ok sc_is_memory (fun vs H Q E h => ?_) (fun cdv A outer s H vs Q E hr h => ?_)
  · obtain ⟨_, _, _, _, _, _, rfl, _⟩ := h
    rfl
  · obtain ⟨v, d, ws, bs, w', k, rfl, hD, hI, lw, l1, l5, hl, q⟩ := h
    refine ⟨_, PSs.nox (pss_one (ps_ret (pe_and (pe_call G_are_numbers (hr.mono (by first | decide | omega)) rfl T.g_are_numbers T.F_are_numbers.kp T.bd_are_numbers .nil pass0 (pa_cons (pv 0) pa_nil)) (pe_and (pe_chain op_le op_le pe_int (pe_callB call_len (by rfl) T.b_len (by decide +kernel) (pa_cons (pv 0) pa_nil)) (pe_glob (v := .int 5) rfl T.c_MOST_WEIGHTS ⟨_, rfl⟩)) (pe_one (pe_cmpR op_ne (pe_ix ix_seq (pv 0) (pe_un un_neg pe_int) (fun _ _ => rfl)) pe_int (nomark _))))))), ?_⟩
    refine ⟨_, rfl, _, _, bs, w', k, rfl, hD, lw, fun H1 k1 => ⟨_, rfl, iteC hI.nums ?_⟩⟩
    obtain ⟨a, kd, rfl, h, n, _, _⟩ := (hD.keep (k1.sub (by simp))).ints hI
    have ne : ws ≠ [] := fun z => by
      rw [z] at l1
      cases l1
    refine ⟨_, rfl, _, ws.length, rfl, sqo_len h (by simp), _, _, rfl, rfl, _, rfl, iteC (by simp; omega) ?_⟩
    refine ⟨_, _, rfl, rfl, _, rfl, iteC (by simp; omega) ?_⟩
    have e : (!decide (V.int (ws.getLast ne) = V.int 0)) = true := by
      have := hl ne
      simp [this]
    have fin : Q (.bl (!decide (V.int (ws.getLast ne) = V.int 0))) H1 := by
      rw [e]
      exact q _ k1
    refine ⟨_, rfl, 1, rfl, ?_⟩
    cases kd with
    | true => exact .inl ⟨a, _, _, _, rfl, rfl, SqL.of h, atI_end ne, rfl, fin⟩
    | false => exact .inr (.inl ⟨a, _, _, _, rfl, rfl, SqT.of h, atI_end ne, rfl, fin⟩)
abbrev dT (ns : List Int) : PyData := .tuple (ns.map PyData.int)
abbrev dTT (rows : List (List Int)) : PyData := .tuple (rows.map dT)
theorem away {H H1 : Hp} {bs : List Addr} {p : Addr} (hb : ∀ b ∈ bs, ∃ o, H b = some o) (k : Kp [] H H1) (hp : H1 p = none) : p ∉ bs := fun m => by
  obtain ⟨o, e⟩ := hb p m
  rw [k p o e (by simp)] at hp
  cases hp
/-- what is told are tuples; those handed in as tuples are the same -/
def sp_tuples : Sp := fun vs H Q _ => ∃ (v : V) (d : PyData) (rows : List (List Int)) (cs bs : List Addr) (w k : Nat), vs = [v] ∧ D cs H w k v d ∧ RowsD d rows ∧ w ≤ 1000 ∧ (∀ b ∈ bs, ∃ o, H b = some o) ∧ (∀ b ∈ bs, b ∈ cs) ∧
  ∀ (p : Addr) (H' : Hp), H p = none → Kp [] H H' → D bs H' w 2 (.ref p) (dTT rows) → Q (.ref p) H'
theorem ok_tuples (T : Tx K mg) : FnOk P w K mg base CX0 1 (He.fAd K ("as_tuples", none)) T.fd_as_tuples p_as_tuples sp_tuples := by
  refine T.F_as_tuples.ok sc_as_tuples (fun vs H Q E h => ?_) (fun cdv A outer s H vs Q E hr h => ?_)
  · obtain ⟨_, _, _, _, _, _, _, rfl, _⟩ := h
    rfl
  · obtain ⟨v, d, rows, cs, bs, w', k, rfl, hD, hR, lw, hbs, hsub, q⟩ := h
    obtain ⟨t, kd, xs, rfl, h, n, lx, lxw, al⟩ := hD.rows hR
    refine ⟨_, PSs.nox (pss_one (ps_ret (pe_callTy call_tuple_of (by rfl) T.b_tuple (by decide +kernel) (pa_cons (pe_lc (own := [("row", 1)]) (g := (gName 1)) (tt := tYes) rfl sc_as_tuples.nd (pi_seq (pv 0)) (blkOk_by (own := [("row", 1)]) (N := n_as_tuples) (sc := defScope s_as_tuples) (by decide +kernel)) (fun _ _ _ _ _ => (pg_name (i := 1) sc_as_tuples.nd rfl (by first | exact Or.inl rfl | exact Or.inr rfl))) (fun _ _ _ _ _ => pts_nil) (fun _ _ _ _ _ => (pe_callTy (kTup (K := K) rfl) (by rfl) T.b_tuple (by decide +kernel) (pa_cons (pv 1) pa_nil)))) pa_nil)))), ?_⟩
    refine ⟨_, rfl, t, rfl, lc_seq h (fun p j H3 => ∃ ys, H3 p = some (.lst ys) ∧ DA (p :: bs) H3 w' 1 ys ((rows.take j).map dT) ∧ Kp [] H H3) ?_ ?_ ?_ ?_⟩
    · exact fun p hp => ⟨[], upd_same, .nil, Kp.rfl'.new hp⟩
    · rintro p j H3 _ ⟨_, _, _, k3⟩
      exact k3 _ _ h (by simp)
    · rintro p j y H3 hp hj ⟨ys, h3, d3, k3⟩
      obtain ⟨r, e, k', hr2, hI, hDy, _⟩ := al j y hj
      have hjl := (List.getElem?_eq_some_iff.mp hj).1
      obtain ⟨ra, kd2, rfl, hRa, nRa, lr, sm⟩ := hDy.ints hI
      have hRa3 := k3 _ _ hRa (by simp)
      have len3 : ys.length < sizeLine := by
        rw [DA.len d3, List.length_map, List.length_take]
        exact small1000 (by omega)
      have last : ∀ (l : Addr) (H4 : Hp), H4 l = some (.tup (r.map V.int)) → l ∉ p :: bs → (∀ cs, Kp cs H3 H4) → DA (p :: bs) (upd H4 p (.lst (ys ++ [.ref l]))) w' 1 (ys ++ [.ref l]) ((rows.take (j + 1)).map dT) := fun l H4 hl nl k4 => by
        have k5 : Kp (p :: bs) H4 (upd H4 p (.lst (ys ++ [.ref l]))) := Kp.rfl'.put (by simp)
        rw [List.take_add_one, hr2, List.map_append]
        exact ((d3.keep (k4 _)).keep k5).app (DA.one ((D.tup (k := 0) hl nl (by simpa using lr) (DA.ofInts sm)).keep k5))
      cases kd2 with
      | true =>
        refine ⟨rfl, yesT ⟨_, rfl, ra, _, rfl, .inl ⟨SqL.of hRa3, fun l hl => ?_⟩⟩⟩
        have nlp : l ≠ p := (ne_of_none h3 hl).symm
        have k4 : ∀ cs, Kp cs H3 (upd H3 l (.tup (r.map V.int))) := fun cs => Kp.rfl'.new hl
        refine ⟨ys, (k4 [] _ _ h3 (by simp)), len3, ys ++ [.ref l], upd_same, last l _ upd_same (fun m => ?_) k4, (k3.new hl).own hp⟩
        rcases List.mem_cons.mp m with z | z
        · exact nlp z
        · exact away hbs k3 hl z
      | false =>
        refine ⟨rfl, yesT ⟨_, rfl, ra, _, rfl, .inr ⟨SqT.of hRa3, ?_⟩⟩⟩
        refine ⟨ys, h3, len3, ys ++ [.ref ra], upd_same, last ra H3 hRa3 (fun m => ?_) (fun _ => Kp.rfl'), k3.own hp⟩
        rcases List.mem_cons.mp m with z | z
        · rw [z, hp] at hRa
          cases hRa
        · exact nRa (hsub ra z)
    · rintro p H3 hp ⟨ys, h3, d3, k3⟩
      rw [lx, List.take_length] at d3
      refine ⟨p, ys, rfl, .inl ⟨SqL.of h3, fun l hl => ?_⟩⟩
      have k4 : ∀ cs, Kp cs H3 (upd H3 l (.tup ys)) := fun cs => Kp.rfl'.new hl
      refine q l _ (k3.free hl (by simp)) (k3.new hl) (.tup upd_same (away hbs k3 hl) (by rw [DA.len d3, List.length_map]; omega) ((d3.less (by simp +contextual)).keep (k4 _)))

end
end Sw

set_option maxHeartbeats 2000000
namespace Sw
open PySem PySem.Spec PyProof.Rows L2
section
variable {P : Program} {w : World} {K : PySem.W.Frag} {mg : Str → Option Value} {base : Heap}
mutual
theorem D.noIns {bs : List Addr} {H : Hp} {w : Nat} {x C dx : Addr} {fs : List (Str × V)} (hx : H x = some (.ins C dx fs)) : ∀ {k : Nat} {v : V} {d : PyData}, D bs H w k v d → D (x :: bs) H w k v d
  | _, _, _, .non => .non
  | _, _, _, .bl b => .bl b
  | _, _, _, .int i h => .int i h
  | _, _, _, .str y h => .str y h
  | _, _, _, .lst h n l t => .lst h (fun m => (List.mem_cons.mp m).elim (fun z => by rw [z, hx] at h; cases h) n) l (DA.noIns hx t)
  | _, _, _, .tup h n l t => .tup h (fun m => (List.mem_cons.mp m).elim (fun z => by rw [z, hx] at h; cases h) n) l (DA.noIns hx t)
theorem DA.noIns {bs : List Addr} {H : Hp} {w : Nat} {x C dx : Addr} {fs : List (Str × V)} (hx : H x = some (.ins C dx fs)) : ∀ {k : Nat} {v : List V} {d : List PyData}, DA bs H w k v d → DA (x :: bs) H w k v d
  | _, _, _, .nil => .nil
  | _, _, _, .cons h t => .cons (D.noIns hx h) (DA.noIns hx t)
end
theorem putF_le (f : Str) (v : V) : ∀ fs : List (Str × V), (putF f v fs).length ≤ fs.length + 1
  | [] => Nat.le_refl _
  | (g, u) :: r => by
    show (if g = f then (g, v) :: r else (g, u) :: putF f v r).length ≤ _
    have := putF_le f v r
    split <;> simp <;> omega
/-! ### the hall -/
abbrev C0 (K : PySem.W.Frag) : Addr := He.ga K "Hall"
theorem n12 : ¬ (("string_rows" : Str) = "step_rows") := by decide +kernel
theorem n13 : ¬ (("string_rows" : Str) = "weights") := by decide +kernel
theorem n23 : ¬ (("step_rows" : Str) = "weights") := by decide +kernel
def flds (a1 a2 a3 : Addr) : List (Str × V) := putF "weights" (.ref a3) (putF "step_rows" (.ref a2) (putF "string_rows" (.ref a1) []))
theorem flds_1 (a1 a2 a3 : Addr) : (flds a1 a2 a3).lookup ("string_rows" : Str) = some (.ref a1) := by
  unfold flds
  rw [lookup_putF, if_neg n13, lookup_putF, if_neg n12, lookup_putF, if_pos rfl]
theorem flds_2 (a1 a2 a3 : Addr) : (flds a1 a2 a3).lookup ("step_rows" : Str) = some (.ref a2) := by
  unfold flds
  rw [lookup_putF, if_neg n23, lookup_putF, if_pos rfl]
theorem flds_3 (a1 a2 a3 : Addr) : (flds a1 a2 a3).lookup ("weights" : Str) = some (.ref a3) := by
  unfold flds
  rw [lookup_putF, if_pos rfl]
theorem flds_no (a1 a2 a3 : Addr) {m : Str} (h1 : ¬ m = "weights") (h2 : ¬ m = "step_rows") (h3 : ¬ m = "string_rows") : (flds a1 a2 a3).lookup m = none := by
  unfold flds
  rw [lookup_putF, if_neg h1, lookup_putF, if_neg h2, lookup_putF, if_neg h3]
  rfl
structure HallAt (K : PySem.W.Frag) (bs : List Addr) (H : Hp) (w : Nat) (x : Addr) (rows steps : List (List Int)) (ws : List Int) : Prop where
  ex : ∃ dx a1 a2 a3, H x = some (.ins (C0 K) dx (flds a1 a2 a3)) ∧ x ∉ bs ∧ D bs H w 2 (.ref a1) (dTT rows) ∧ D bs H w 2 (.ref a2) (dTT steps) ∧ D bs H w 1 (.ref a3) (dT ws)
theorem HallAt.keep {bs : List Addr} {H H' : Hp} {w' : Nat} {x : Addr} {rows steps : List (List Int)} {ws : List Int} (h : HallAt K bs H w' x rows steps ws) (k : Kp bs H H') : HallAt K bs H' w' x rows steps ws := by
  obtain ⟨dx, a1, a2, a3, e, n, d1, d2, d3⟩ := h.ex
  exact ⟨dx, a1, a2, a3, k _ _ e n, n, d1.keep k, d2.keep k, d3.keep k⟩
structure HallOk (rows steps : List (List Int)) (ws : List Int) : Prop where
  r1 : 1 ≤ rows.length
  row : ∀ r ∈ rows, r.length = rows.length
  ls : steps.length = rows.length
  step : ∀ r ∈ steps, Rung0 r
  w1 : 1 ≤ ws.length
  w5 : ws.length ≤ 5
  last : ∀ h : ws ≠ [], ws.getLast h ≠ 0
def sp_init (K : PySem.W.Frag) : Sp := fun vs H Q _ => ∃ (x dx : Addr) (v1 v2 v3 : V) (d1 d2 d3 : PyData) (rows steps : List (List Int)) (ws : List Int) (cs bs : List Addr) (w k : Nat), vs = [.ref x, v1, v2, v3] ∧ H x = some (.ins (C0 K) dx []) ∧
  D cs H w k v1 d1 ∧ D cs H w k v2 d2 ∧ D cs H w k v3 d3 ∧ RowsD d1 rows ∧ RowsD d2 steps ∧ IntsD d3 ws ∧ w ≤ 1000 ∧ HallOk rows steps ws ∧ (∀ b ∈ bs, ∃ o, H b = some o) ∧ (∀ b ∈ bs, b ∈ cs) ∧ x ∉ bs ∧
  ∀ H', HallAt K bs H' w x rows steps ws → Kp [x] H H' → Q .non H'
theorem ok_init (T : Tx K mg) : FnOk P w K mg base CX0 5 (He.fAd K ("Hall", some "__init__")) T.fd_Hall___init__ p_Hall___init__ (sp_init K) := by
  have G_are_strings := ok_strings (P := P) (w := w) (base := base) T
  have G_are_steps := ok_steps (P := P) (w := w) (base := base) T
  have G_is_memory := ok_memory (P := P) (w := w) (base := base) T
  have G_as_tuples := ok_tuples (P := P) (w := w) (base := base) T
  refine T.F_Hall___init__.ok sc_Hall___init__ (fun vs H Q E h => ?_) (fun cdv A outer s H vs Q E hr h => ?_)
  · obtain ⟨_, _, _, _, _, _, _, _, _, _, _, _, _, _, _, rfl, _⟩ := h
    rfl
  · obtain ⟨x, dx, v1, v2, v3, e1, e2, e3, rows, steps, ws, cs, bs, w', k, rfl, hx, dP, dS, dW, hP, hS, hW, lw, hd, hbs, hsub, nx, q⟩ := h
    refine ⟨_, PSs.nox (pss_cons (ps_if (pt_not (pt_val (pe_call G_are_strings (hr.mono (by first | decide | omega)) rfl T.g_are_strings T.F_are_strings.kp T.bd_are_strings .nil pass0 (pa_cons (pv 1) pa_nil))))
      (pss_one ps_never)
      pss_nil)
      (pss_cons (ps_if (pt_not (pt_val (pe_call G_are_steps (hr.mono (by first | decide | omega)) rfl T.g_are_steps T.F_are_steps.kp T.bd_are_steps .nil pass0 (pa_cons (pv 2) (pa_cons (pe_callB call_len (by rfl) T.b_len (by decide +kernel) (pa_cons (pv 1) pa_nil)) pa_nil)))))
      (pss_one ps_never)
      pss_nil)
      (pss_cons (ps_if (pt_not (pt_val (pe_call G_is_memory (hr.mono (by first | decide | omega)) rfl T.g_is_memory T.F_is_memory.kp T.bd_is_memory .nil pass0 (pa_cons (pv 3) pa_nil))))
      (pss_one ps_never)
      pss_nil)
      (pss_cons (ps_fld (pv 0) (pe_call G_as_tuples (hr.mono (by first | decide | omega)) rfl T.g_as_tuples T.F_as_tuples.kp T.bd_as_tuples .nil pass0 (pa_cons (pv 1) pa_nil)) rfl)
      (pss_cons (ps_fld (pv 0) (pe_call G_as_tuples (hr.mono (by first | decide | omega)) rfl T.g_as_tuples T.F_as_tuples.kp T.bd_as_tuples .nil pass0 (pa_cons (pv 2) pa_nil)) rfl)
      (pss_one (ps_fld (pv 0) (pe_callTy call_tuple_of (by rfl) T.b_tuple (by decide +kernel) (pa_cons (pv 3) pa_nil)) rfl))))))), ?_⟩
    refine ⟨_, rfl, v1, e1, rows, cs, w', k, rfl, dP, hP, lw, hd.r1, hd.row, fun H1 k1 => ⟨_, rfl, ?_⟩⟩
    refine iteF ?_
    have dP1 := dP.keep (k1.sub (by simp))
    have dS1 := dS.keep (k1.sub (by simp))
    obtain ⟨p, kdp, xp, rfl, hp1, _, lx, _, _⟩ := dP1.rows hP
    have el : (rows.length : Int) = (steps.length : Int) := by rw [hd.ls]
    refine ⟨_, rfl, _, rfl, _, rows.length, rfl, sqo_len hp1 lx.symm, v2, e2, steps, cs, w', k, (by rw [el]; rfl), dS1, hS, lw, hd.step, fun H2 k2 => ⟨_, rfl, ?_⟩⟩
    refine iteF ?_
    refine ⟨_, rfl, v3, e3, ws, cs, w', k, rfl, dW.keep ((k1.trans k2).sub (by simp)), hW, lw, hd.w1, hd.w5, hd.last, fun H3 k3 => ⟨_, rfl, ?_⟩⟩
    refine iteF ?_
    have k13 : Kp [] H H3 := k1.trans (k2.trans k3)
    have bs3 : ∀ b ∈ x :: bs, ∃ o, H3 b = some o := fun b hb => by
      rcases List.mem_cons.mp hb with z | z
      · exact ⟨_, by rw [z]; exact k13 _ _ hx (by simp)⟩
      · obtain ⟨o, e⟩ := hbs b z
        exact ⟨o, k13 _ _ e (by simp)⟩
    have sub2 : ∀ b ∈ x :: bs, b ∈ x :: cs := fun b hb => (List.mem_cons.mp hb).elim (fun z => by rw [z]; simp) fun z => List.mem_cons_of_mem _ (hsub b z)
    refine ⟨_, rfl, _, e1, rows, x :: cs, x :: bs, w', k, rfl, (dP.noIns hx).keep (k13.sub (by simp)), hP, lw, bs3, sub2, fun a1 H4 f4 k4 d4 => ?_⟩
    have hx4 : H4 x = some (.ins (C0 K) dx []) := (k13.trans k4) _ _ hx (by simp)
    refine ⟨_, rfl, x, C0 K, dx, [], rfl, hx4, T.cl_Hall, T.na_Hall_string_rows, (by show 0 < 1000; decide), ?_⟩
    have k5 : ∀ cs, Kp (x :: cs) H4 (upd H4 x (.ins (C0 K) dx (putF "string_rows" (.ref a1) []))) := fun cs => Kp.rfl'.put (by simp)
    have k04 : Kp [] H H4 := k13.trans k4
    have bs5 : ∀ b ∈ x :: bs, ∃ o, (upd H4 x (.ins (C0 K) dx (putF "string_rows" (.ref a1) []))) b = some o := fun b hb => by
      by_cases z : b = x
      · exact ⟨_, by rw [z]; exact upd_same⟩
      · obtain ⟨o, e⟩ := bs3 b hb
        exact ⟨o, by rw [upd_ne z]; exact k4 _ _ e (by simp)⟩
    have dS5 := ((dS.noIns hx).keep (k04.sub (by simp))).keep (k5 cs)
    have dW5 := ((dW.noIns hx).keep (k04.sub (by simp))).keep (k5 cs)
    have d5 := d4.keep (k5 bs)
    refine ⟨_, rfl, v2, e2, steps, x :: cs, x :: bs, w', k, rfl, dS5, hS, lw, bs5, sub2, fun a2 H6 f6 k6 d6 => ?_⟩
    have hx6 := k6 _ _ upd_same (show x ∉ [] by simp)
    refine ⟨_, rfl, x, C0 K, dx, _, rfl, hx6, T.cl_Hall, T.na_Hall_step_rows, (by show 1 < 1000; decide), ?_⟩
    have k7 : ∀ cs, Kp (x :: cs) H6 (upd H6 x (.ins (C0 K) dx (putF "step_rows" (.ref a2) (putF "string_rows" (.ref a1) [])))) := fun cs => Kp.rfl'.put (by simp)
    have dW7 := (dW5.keep (k6.sub (by simp))).keep (k7 cs)
    have d57 := (d5.keep (k6.sub (by simp))).keep (k7 bs)
    have d67 := d6.keep (k7 bs)
    have bs7 : ∀ b ∈ x :: bs, ∃ o, (upd H6 x (.ins (C0 K) dx (putF "step_rows" (.ref a2) (putF "string_rows" (.ref a1) [])))) b = some o := fun b hb => by
      by_cases z : b = x
      · exact ⟨_, by rw [z]; exact upd_same⟩
      · obtain ⟨o, e⟩ := bs5 b hb
        exact ⟨o, by rw [upd_ne z]; exact k6 _ _ e (by simp)⟩
    have hx7 : (upd H6 x (.ins (C0 K) dx (putF "step_rows" (.ref a2) (putF "string_rows" (.ref a1) [])))) x = some (.ins (C0 K) dx (putF "step_rows" (.ref a2) (putF "string_rows" (.ref a1) []))) := upd_same
    have k07 : Kp [x] H (upd H6 x (.ins (C0 K) dx (putF "step_rows" (.ref a2) (putF "string_rows" (.ref a1) [])))) := (((k04.sub (by simp)).trans (k5 [])).trans (k6.sub (by simp))).trans (k7 [])
    generalize upd H6 x (.ins (C0 K) dx (putF "step_rows" (.ref a2) (putF "string_rows" (.ref a1) []))) = H7 at dW7 d57 d67 bs7 hx7 k07 ⊢
    obtain ⟨aw, kdw, rfl, hw7, nw7, lw7, sm7⟩ := dW7.ints hW
    have sub1 : ∀ a, a ∈ bs → a ∈ x :: bs := fun a h => List.mem_cons_of_mem _ h
    have fin : ∀ (a3 : Addr) (H8 : Hp), H8 a3 = some (.tup (ws.map V.int)) → a3 ∉ x :: bs → (∀ cs, Kp cs H7 H8) → sFld K (tVar 0) (fun σ H Q => Q (.ref a3) H) "weights" { nx := fun _ H' => Q .non H', rt := Q } (L2.start n_Hall___init__ [V.ref x, .ref p, v2, .ref aw]) H8 := by
      intro a3 H8 h8 na3 k8
      have hx8 := k8 [] _ _ hx7 (by simp)
      refine ⟨_, rfl, x, C0 K, dx, _, rfl, hx8, T.cl_Hall, T.na_Hall_weights, Nat.lt_of_le_of_lt (putF_le _ _ _) (by show 2 < 1000; decide), ?_⟩
      have k9 : ∀ (cs : List Addr) (o : HO), Kp (x :: cs) H8 (upd H8 x o) := fun cs o => Kp.rfl'.put (by simp)
      refine q _ ⟨dx, a1, a2, a3, upd_same, nx, ((d57.keep (k8 _)).keep (k9 bs _)).less sub1, ((d67.keep (k8 _)).keep (k9 bs _)).less sub1, ((D.tup (k := 0) h8 na3 (by simpa using lw7) (DA.ofInts sm7)).keep (k9 bs _)).less sub1⟩ ?_
      exact k07.trans ((k8 [x]).trans (k9 [] _))
    refine ⟨_, rfl, aw, ws.map V.int, rfl, ?_⟩
    cases kdw with
    | true =>
      refine .inl ⟨SqL.of hw7, fun a3 h8 => ?_⟩
      refine fin a3 _ upd_same (fun m => ?_) fun cs => Kp.rfl'.new h8
      obtain ⟨o, e⟩ := bs7 a3 m
      rw [e] at h8
      cases h8
    | false =>
      refine .inr ⟨SqT.of hw7, fin aw H7 hw7 (fun m => nw7 (sub2 aw m)) fun _ => Kp.rfl'⟩
def sp_get (K : PySem.W.Frag) (f : Addr → Addr → Addr → Addr) : Sp := fun vs H Q _ => ∃ (x dx a1 a2 a3 : Addr), vs = [.ref x] ∧ H x = some (.ins (C0 K) dx (flds a1 a2 a3)) ∧ Q (.ref (f a1 a2 a3)) H
theorem ok_getm (T : Tx K mg) : FnOk P w K mg base CX0 1 (He.fAd K ("Hall", some "memory")) T.fd_Hall_memory p_Hall_memory (sp_get K fun _ _ a => a) := by
  refine T.F_Hall_memory.ok sc_Hall_memory (fun vs H Q E h => ?_) (fun cdv A outer s H vs Q E hr h => ?_)
  · obtain ⟨_, _, _, _, _, rfl, _⟩ := h
    rfl
  · obtain ⟨x, dx, a1, a2, a3, rfl, hx, q⟩ := h
    refine ⟨_, PSs.nox (pss_one (ps_ret (pe_fld (pv 0) rfl))), ?_⟩
    exact ⟨_, rfl, x, C0 K, dx, _, _, rfl, hx, T.cl_Hall, T.na_Hall_weights, flds_3 _ _ _, q⟩
theorem ok_gets (T : Tx K mg) : FnOk P w K mg base CX0 1 (He.fAd K ("Hall", some "strings")) T.fd_Hall_strings p_Hall_strings (sp_get K fun a _ _ => a) := by
  refine T.F_Hall_strings.ok sc_Hall_strings (fun vs H Q E h => ?_) (fun cdv A outer s H vs Q E hr h => ?_)
  · obtain ⟨_, _, _, _, _, rfl, _⟩ := h
    rfl
  · obtain ⟨x, dx, a1, a2, a3, rfl, hx, q⟩ := h
    refine ⟨_, PSs.nox (pss_one (ps_ret (pe_fld (pv 0) rfl))), ?_⟩
    exact ⟨_, rfl, x, C0 K, dx, _, _, rfl, hx, T.cl_Hall, T.na_Hall_string_rows, flds_1 _ _ _, q⟩
theorem ok_gett (T : Tx K mg) : FnOk P w K mg base CX0 1 (He.fAd K ("Hall", some "steps")) T.fd_Hall_steps p_Hall_steps (sp_get K fun _ a _ => a) := by
  refine T.F_Hall_steps.ok sc_Hall_steps (fun vs H Q E h => ?_) (fun cdv A outer s H vs Q E hr h => ?_)
  · obtain ⟨_, _, _, _, _, rfl, _⟩ := h
    rfl
  · obtain ⟨x, dx, a1, a2, a3, rfl, hx, q⟩ := h
    refine ⟨_, PSs.nox (pss_one (ps_ret (pe_fld (pv 0) rfl))), ?_⟩
    exact ⟨_, rfl, x, C0 K, dx, _, _, rfl, hx, T.cl_Hall, T.na_Hall_step_rows, flds_2 _ _ _, q⟩
theorem DA.trowAt {bs : List Addr} {H : Hp} {w k : Nat} {xs : List V} {rows : List (List Int)} {i : Nat} {x : V} (t : DA bs H w k xs (rows.map dT)) (h : xs[i]? = some x) : ∃ r a, rows[i]? = some r ∧ x = .ref a ∧ H a = some (.tup (r.map V.int)) ∧ r.length ≤ w := by
  obtain ⟨d, hd, hx⟩ := t.get h
  rw [List.getElem?_map] at hd
  obtain ⟨r, hr, rfl⟩ := Option.map_eq_some_iff.mp hd
  cases hx with
  | tup h1 n l t2 =>
    have e := DA.ints t2
    subst e
    exact ⟨r, _, hr, rfl, h1, by simpa using l⟩
def topsOf (steps : List (List Int)) : List Int := steps.map fun r => (r.length : Int)
def sp_tops (K : PySem.W.Frag) : Sp := fun vs H Q _ => ∃ (x : Addr) (rows steps : List (List Int)) (ws : List Int) (bs : List Addr) (w : Nat), vs = [.ref x] ∧ HallAt K bs H w x rows steps ws ∧ w ≤ 1000 ∧
  ∀ (p : Addr) (H' : Hp), H p = none → Kp [] H H' → H' p = some (.tup ((topsOf steps).map V.int)) → Q (.ref p) H'
theorem ok_tops (T : Tx K mg) : FnOk P w K mg base CX0 1 (He.fAd K ("Hall", some "tops")) T.fd_Hall_tops p_Hall_tops (sp_tops K) := by
  refine T.F_Hall_tops.ok sc_Hall_tops (fun vs H Q E h => ?_) (fun cdv A outer s H vs Q E hr h => ?_)
  · obtain ⟨_, _, _, _, _, _, rfl, _⟩ := h
    rfl
  · obtain ⟨x, rows, steps, ws, bs, w', rfl, hA, lw, q⟩ := h
    obtain ⟨dx, a1, a2, a3, hx, nx, d1, d2, d3⟩ := hA.ex
    refine ⟨_, PSs.nox (pss_one (ps_ret (pe_callTy call_tuple_of (by rfl) T.b_tuple (by decide +kernel) (pa_cons (pe_lc (own := [("row", 1)]) (g := (gName 1)) (tt := tYes) rfl sc_Hall_tops.nd (pi_tup (pe_fld (pv 0) rfl)) (blkOk_by (own := [("row", 1)]) (N := n_Hall_tops) (sc := defScope s_Hall_tops) (by decide +kernel)) (fun _ _ _ _ _ => (pg_name (i := 1) sc_Hall_tops.nd rfl (by first | exact Or.inl rfl | exact Or.inr rfl))) (fun _ _ _ _ _ => pts_nil) (fun _ _ _ _ _ => (pe_callB (kLen (K := K) rfl) (by rfl) T.b_len (by decide +kernel) (pa_cons (pv 1) pa_nil)))) pa_nil)))), ?_⟩
    cases d2 with
    | @tup _ _ xs _ h2 n2 l2 t2 =>
    refine ⟨_, rfl, x, C0 K, dx, _, _, rfl, hx, T.cl_Hall, T.na_Hall_step_rows, flds_2 _ _ _, a2, rfl, ⟨_, SqT.of h2⟩, fun p hp => lc_tup (K := K) (a := a2) (xs := xs) (fun j H3 => H3 p = some (.lst ((topsOf (steps.take j)).map V.int)) ∧ Kp [] H H3) ?_ ?_ ?_ ?_⟩
    · exact ⟨by rw [upd_same]; rfl, Kp.rfl'.new hp⟩
    · rintro j H3 _ ⟨_, k3⟩
      exact SqT.of (k3 _ _ h2 (by simp))
    · rintro j y H3 hj ⟨h3, k3⟩
      obtain ⟨r, ra, hr2, rfl, hR, _⟩ := t2.trowAt hj
      have hjl := (List.getElem?_eq_some_iff.mp hj).1
      refine ⟨rfl, yesT ⟨_, rfl, _, r.length, rfl, .inr ⟨_, SqT.of (k3 _ _ hR (by simp)), by simp⟩, _, h3, ?_, ?_, k3.own hp⟩⟩
      · simp only [topsOf, List.length_map, List.length_take]
        exact small1000 (by omega)
      · rw [upd_same, List.take_add_one, hr2]
        simp [topsOf]
    · rintro H3 ⟨h3, k3⟩
      have ls := DA.len t2
      rw [List.length_map] at ls
      rw [ls, List.take_length] at h3
      refine ⟨p, _, rfl, .inl ⟨SqL.of h3, fun l hl => ?_⟩⟩
      exact q l _ (k3.free hl (by simp)) (k3.new hl) upd_same

end
end Sw

set_option maxHeartbeats 2000000
namespace Sw
open PySem PySem.Spec PyProof.Rows L2
section
variable {P : Program} {w : World} {K : PySem.W.Frag} {mg : Str → Option Value} {base : Heap}
/-- alike, where both hold the same -/
def sp_same (m : Nat) : Sp := fun vs H Q _ => ∃ (v1 v2 : V) (d : PyData) (bs cs : List Addr) (w k : Nat), vs = [v1, v2] ∧ D bs H w k v1 d ∧ D cs H w k v2 d ∧ k < m ∧ w ≤ 5000 ∧ ∀ H', Kp [] H H' → Q (.bl true) H'
theorem ok_same (T : Tx K mg) : ∀ m : Nat, FnOk P w K mg base CX0 (m + 1) (He.fAd K ("_law_same", none)) T.fd__law_same p__law_same (sp_same m)
  | 0 => by
    refine T.F__law_same.ok sc__law_same (fun vs H Q E h => ?_) (fun cdv A outer s H vs Q E hr h => ?_)
    · obtain ⟨_, _, _, _, _, _, _, rfl, _⟩ := h
      rfl
    · obtain ⟨_, _, _, _, _, _, _, _, _, _, z, _⟩ := h
      exact absurd z (Nat.not_lt_zero _)
  | m + 1 => by
    have G__law_same := ok_same T m
    refine T.F__law_same.ok sc__law_same (fun vs H Q E h => ?_) (fun cdv A outer s H vs Q E hr h => ?_)
    · obtain ⟨_, _, _, _, _, _, _, rfl, _⟩ := h
      rfl
    · obtain ⟨v1, v2, d, bs, cs, w', k, rfl, h1, h2, km, lw, q⟩ := h
      refine ⟨_, PSs.nox (pss_cons (ps_if (pt_val (pe_callB call_isiT (by rfl) T.b_isinstance (by decide +kernel) (pa_cons (pv 1) (pa_cons (pe_tup (pa_cons (pe_bltn (v := .ty "list") (by rfl) T.b_list (by decide +kernel) rfl) (pa_cons (pe_bltn (v := .ty "tuple") (by rfl) T.b_tuple (by decide +kernel) rfl) pa_nil))) pa_nil))))
      (pss_cons (ps_if (PW.pt (pw_or (pt_cmpR op_ne (pe_callB call_isi (by rfl) T.b_isinstance (by decide +kernel) (pa_cons (pv 0) (pa_cons (pe_bltn (v := .ty "list") (by rfl) T.b_list (by decide +kernel) rfl) pa_nil))) (pe_callB call_isi (by rfl) T.b_isinstance (by decide +kernel) (pa_cons (pv 1) (pa_cons (pe_bltn (v := .ty "list") (by rfl) T.b_list (by decide +kernel) rfl) pa_nil))) (nomark _)) (pw_or1 (pt_cmpR op_ne (pe_callB call_isi (by rfl) T.b_isinstance (by decide +kernel) (pa_cons (pv 0) (pa_cons (pe_bltn (v := .ty "tuple") (by rfl) T.b_tuple (by decide +kernel) rfl) pa_nil))) (pe_callB call_isi (by rfl) T.b_isinstance (by decide +kernel) (pa_cons (pv 1) (pa_cons (pe_bltn (v := .ty "tuple") (by rfl) T.b_tuple (by decide +kernel) rfl) pa_nil))) (nomark _)))))
      (pss_one (ps_ret pe_bl))
      pss_nil)
      (pss_cons (ps_if (pt_cmpR op_ne (pe_callB call_len (by rfl) T.b_len (by decide +kernel) (pa_cons (pv 0) pa_nil)) (pe_callB call_len (by rfl) T.b_len (by decide +kernel) (pa_cons (pv 1) pa_nil)) (nomark _))
      (pss_one (ps_ret pe_bl))
      pss_nil)
      (pss_one (ps_ret (pe_callB (cr_all rfl) (by rfl) T.b_all (by decide +kernel) (pa_cons (pe_lc (own := [("_law_one", 2), ("_law_two", 3)]) (g := (gTup K 2 (gCons (gName 2) (gCons (gName 3) gNil)))) (tt := tYes) rfl sc__law_same.nd (pi_zipS (by rfl) T.b_zip (pa_cons (pv 0) (pa_cons (pv 1) pa_nil))) (blkOk_by (own := [("_law_one", 2), ("_law_two", 3)]) (N := n__law_same) (sc := defScope s__law_same) (by decide +kernel)) (fun _ _ _ _ _ => (pg_tup rfl (pgs_cons (pg_name (i := 2) sc__law_same.nd rfl (by first | exact Or.inl rfl | exact Or.inr rfl)) (pgs_cons (pg_name (i := 3) sc__law_same.nd rfl (by first | exact Or.inl rfl | exact Or.inr rfl)) pgs_nil)))) (fun _ _ _ _ _ => pts_nil) (fun _ _ _ _ _ => (pe_call G__law_same hr rfl T.g__law_same T.F__law_same.kp T.bd__law_same .nil pass0 (pa_cons (pv 2) (pa_cons (pv 3) pa_nil))))) pa_nil))))))
      pss_nil)
      (pss_cons (ps_if (PW.pt (pw_or (pt_cmpR op_isN (pv 1) pe_non (nomark _)) (pw_or1 (pt_val (pe_callB call_isi (by rfl) T.b_isinstance (by decide +kernel) (pa_cons (pv 1) (pa_cons (pe_bltn (v := .ty "str") (by rfl) T.b_str (by decide +kernel) rfl) pa_nil)))))))
      (pss_one (ps_ret (pe_and (pe_cmpR op_eq (pv 0) (pv 1) (nomark _)) (pe_one (pe_cmpR op_eq (pe_callB call_isi (by rfl) T.b_isinstance (by decide +kernel) (pa_cons (pv 0) (pa_cons (pe_bltn (v := .ty "str") (by rfl) T.b_str (by decide +kernel) rfl) pa_nil))) (pe_callB call_isi (by rfl) T.b_isinstance (by decide +kernel) (pa_cons (pv 1) (pa_cons (pe_bltn (v := .ty "str") (by rfl) T.b_str (by decide +kernel) rfl) pa_nil))) (nomark _))))))
      pss_nil)
      (pss_one (ps_ret (pe_and (pe_callB call_isi (by rfl) T.b_isinstance (by decide +kernel) (pa_cons (pv 0) (pa_cons (pe_bltn (v := .ty "int") (by rfl) T.b_int (by decide +kernel) rfl) pa_nil))) (pe_and (pe_cmpR op_eq (pe_callB call_isi (by rfl) T.b_isinstance (by decide +kernel) (pa_cons (pv 0) (pa_cons (pe_bltn (v := .ty "bool") (by rfl) T.b_bool (by decide +kernel) rfl) pa_nil))) (pe_callB call_isi (by rfl) T.b_isinstance (by decide +kernel) (pa_cons (pv 1) (pa_cons (pe_bltn (v := .ty "bool") (by rfl) T.b_bool (by decide +kernel) rfl) pa_nil))) (nomark _)) (pe_one (pe_cmpR op_eq (pv 0) (pv 1) (nomark _))))))))), ?_⟩
      refine ⟨_, rfl, by show 2 ≤ sizeLine; decide, fun t ht => ?_⟩
      have k0 : ∀ cs, Kp cs H (upd H t (.tup [.ty "list", .ty "tuple"])) := fun cs => Kp.rfl'.new ht
      have g1 := h1.keep (k0 bs)
      have g2 := h2.keep (k0 cs)
      generalize hH : upd H t (.tup [.ty "list", .ty "tuple"]) = H1 at g1 g2 k0
      have tup1 : H1 t = some (.tup [.ty "list", .ty "tuple"]) := by
        rw [← hH]
        exact upd_same
      refine ⟨_, t, _, _, [.type "list", .type "tuple"], _, rfl, tup1, tyLT, g2.tyx, g2.kQ, _, rfl, ?_⟩
      have kk1 := g1.kit (K := K)
      have kk2 := g2.kit (K := K)
      have isi1 := g1.tyx (K := K)
      have isi2 := g2.tyx (K := K)
      have seqs : ∀ (ka : Bool) (a1 a2 : Addr) (x1 x2 : List V) (ds : List PyData) (k' : Nat), SqK ka K H1 a1 x1 → SqK ka K H1 a2 x2 → DA bs H1 w' k' x1 ds → DA cs H1 w' k' x2 ds → (∀ H', Kp [] H1 H' → SqK ka K H' a1 x1 ∧ SqK ka K H' a2 x2) → x1.length ≤ w' → k' < m →
          ∀ p, H1 p = none → ∃ W : Nat → Nat → Hp → Prop, (∃ j, W 0 j (upd H1 p (.lst []))) ∧ ∀ i j H, W i j H →
          ((ItZ ka ka K a1 a2).stop i H ∧ rAll K [.ref p] H Q) ∨ ((ItZ ka ka K a1 a2).go i H ∧ ∃ Nx : Hp → Prop, (∀ H', Nx H' → ∃ j', j' < j ∧ W (i + 1) j' H') ∧ ∀ x H', (ItZ ka ka K a1 a2).yld i H x H' → (gTup K 2 (gCons (gName 2) (gCons (gName 3) gNil))) x (wipe [some v1, some v2, none, none] [2, 3]) H' fun σ2 H2 => wipe σ2 [2, 3] = wipe [some v1, some v2, none, none] [2, 3] ∧ tYes σ2 H2 fun b H3 =>
            if b = true then (tCall (sp_same m) [] E0 (tCons (tVar 2) (tCons (tVar 3) tNil))) σ2 H3 fun y H4 => ∃ acc, H4 p = some (.lst acc) ∧ acc.length < sizeLine ∧ Nx (upd H4 p (.lst (acc ++ [y]))) else Nx H3) := by
        intro ka a1 a2 x1 x2 ds k' s1 s2 t1 t2 hk lx km' p hp
        have l1 := DA.len t1
        have l2 := DA.len t2
        refine lc_it (walkZ (n := ds.length) (xs := x1) (ys := x2) (by simp [l1, l2])) (fun j H3 => H3 p = some (.lst ((List.replicate j true).map V.bl)) ∧ Kp [] H1 H3) ?_ ?_ ?_ ?_
        · exact ⟨by rw [upd_same]; rfl, Kp.rfl'.new hp⟩
        · rintro j H3 _ ⟨_, k3⟩
          exact hk H3 k3
        · rintro j y H3 H4 hj ⟨h3, k3⟩ ⟨t', y1, y2, rfl, ft, rfl, e1, e2⟩
          have e1 : x1[j]? = some y1 := e1
          have e2 : x2[j]? = some y2 := e2
          obtain ⟨e, he, hy1⟩ := t1.get e1
          obtain ⟨e', he', hy2⟩ := t2.get e2
          rw [he] at he'
          cases he'
          have kt : ∀ cs, Kp cs H3 (upd H3 t' (.tup [y1, y2])) := fun cs => Kp.rfl'.new ft
          refine ⟨t', _, rfl, SqT.of upd_same, rfl, _, _, rfl, _, _, rfl, rfl, rfl, yesT ⟨_, rfl, _, rfl, y1, y2, e, bs, cs, w', k', rfl, (hy1.keep (k3.sub (by simp))).keep (kt _), (hy2.keep (k3.sub (by simp))).keep (kt _), km', lw, fun H5 k5 => ⟨_, k5 _ _ (kt [] _ _ h3 (by simp)) (by simp), ?_, ?_, ?_⟩⟩⟩
          · simp only [List.length_map, List.length_replicate]
            rw [sizeLine_eq]; omega
          · rw [upd_same, rep_snoc]
          · exact ((k3.trans (kt [])).trans k5).own hp
        · rintro H3 ⟨h3, k3⟩
          refine ⟨p, _, rfl, SqL.of h3, ?_⟩
          rw [rep_all]
          exact q _ ((k0 []).trans k3)
      cases g2 with
      | @lst k' a2 x2 ds e2 n2 l2 t2 =>
        cases g1 with
        | @lst _ a1 x1 _ e1 n1 l1 t1 =>
        refine iteT ?_
        refine ⟨_, rfl, _, _, _, _, _, rfl, .ty _, isi1, kk1.1, _, rfl, _, _, _, _, _, rfl, .ty _, isi2, kk2.1, rfl, _, rfl, iteF ?_⟩
        refine ⟨_, rfl, _, _, _, _, _, rfl, .ty _, isi1, kk1.2.1, _, rfl, _, _, _, _, _, rfl, .ty _, isi2, kk2.2.1, rfl, _, rfl, iteF ?_⟩
        refine ⟨_, rfl, _, ds.length, rfl, .inl ⟨_, SqL.of e1, (DA.len t1).symm⟩, _, rfl, _, ds.length, rfl, .inl ⟨_, SqL.of e2, (DA.len t2).symm⟩, rfl, _, rfl, iteN (by simp) ?_⟩
        exact ⟨_, rfl, _, rfl, a1, a2, true, true, x1, x2, rfl, SqL.of e1, SqL.of e2, seqs true a1 a2 x1 x2 ds k' (SqL.of e1) (SqL.of e2) t1 t2 (fun H' k3 => ⟨SqL.of (k3 _ _ e1 (by simp)), SqL.of (k3 _ _ e2 (by simp))⟩) l1 (by omega)⟩
      | @tup k' a2 x2 ds e2 n2 l2 t2 =>
        cases g1 with
        | @tup _ a1 x1 _ e1 n1 l1 t1 =>
        refine iteT ?_
        refine ⟨_, rfl, _, _, _, _, _, rfl, .ty _, isi1, kk1.1, _, rfl, _, _, _, _, _, rfl, .ty _, isi2, kk2.1, rfl, _, rfl, iteF ?_⟩
        refine ⟨_, rfl, _, _, _, _, _, rfl, .ty _, isi1, kk1.2.1, _, rfl, _, _, _, _, _, rfl, .ty _, isi2, kk2.2.1, rfl, _, rfl, iteF ?_⟩
        refine ⟨_, rfl, _, ds.length, rfl, .inr ⟨_, SqT.of e1, (DA.len t1).symm⟩, _, rfl, _, ds.length, rfl, .inr ⟨_, SqT.of e2, (DA.len t2).symm⟩, rfl, _, rfl, iteN (by simp) ?_⟩
        exact ⟨_, rfl, _, rfl, a1, a2, false, false, x1, x2, rfl, SqT.of e1, SqT.of e2, seqs false a1 a2 x1 x2 ds k' (SqT.of e1) (SqT.of e2) t1 t2 (fun H' k3 => ⟨SqT.of (k3 _ _ e1 (by simp)), SqT.of (k3 _ _ e2 (by simp))⟩) l1 (by omega)⟩
      | non =>
        cases g1
        refine iteF ⟨_, rfl, rfl, _, rfl, iteT (iteT ?_)⟩
        refine ⟨_, rfl, _, rfl, rfl, _, rfl, iteC (by simp) ?_⟩
        refine ⟨_, rfl, _, _, _, _, _, rfl, .ty _, isi1, kk1.2.2.1, _, rfl, _, _, _, _, _, rfl, .ty _, isi2, kk2.2.2.1, rfl, ?_⟩
        exact q _ (k0 [])
      | str y hy =>
        cases g1
        refine iteF ⟨_, rfl, rfl, _, rfl, iteF ⟨_, rfl, _, _, _, _, _, rfl, .ty _, isi2, kk2.2.2.1, _, rfl, iteT ?_⟩⟩
        refine ⟨_, rfl, _, rfl, rfl, _, rfl, iteC (by simp) ?_⟩
        refine ⟨_, rfl, _, _, _, _, _, rfl, .ty _, isi1, kk1.2.2.1, _, rfl, _, _, _, _, _, rfl, .ty _, isi2, kk2.2.2.1, rfl, ?_⟩
        exact q _ (k0 [])
      | int i hi =>
        cases g1
        refine iteF ⟨_, rfl, rfl, _, rfl, iteF ⟨_, rfl, _, _, _, _, _, rfl, .ty _, isi2, kk2.2.2.1, _, rfl, iteF ?_⟩⟩
        refine ⟨_, rfl, _, _, _, _, _, rfl, .ty _, isi1, kk1.2.2.2.1, _, rfl, iteT ?_⟩
        refine ⟨_, rfl, _, _, _, _, _, rfl, .ty _, isi1, kk1.2.2.2.2, _, rfl, _, _, _, _, _, rfl, .ty _, isi2, kk2.2.2.2.2, rfl, _, rfl, iteT ?_⟩
        refine ⟨_, rfl, _, rfl, rfl, ?_⟩
        rw [decide_eq_true rfl]
        exact q _ (k0 [])
      | bl b =>
        cases g1
        refine iteF ⟨_, rfl, rfl, _, rfl, iteF ⟨_, rfl, _, _, _, _, _, rfl, .ty _, isi2, kk2.2.2.1, _, rfl, iteF ?_⟩⟩
        refine ⟨_, rfl, _, _, _, _, _, rfl, .ty _, isi1, kk1.2.2.2.1, _, rfl, iteT ?_⟩
        refine ⟨_, rfl, _, _, _, _, _, rfl, .ty _, isi1, kk1.2.2.2.2, _, rfl, _, _, _, _, _, rfl, .ty _, isi2, kk2.2.2.2.2, rfl, _, rfl, iteT ?_⟩
        refine ⟨_, rfl, _, rfl, rfl, ?_⟩
        rw [decide_eq_true rfl]
        exact q _ (k0 [])

end
end Sw

set_option maxHeartbeats 2000000
namespace Sw
open PySem PySem.Spec PyProof.Rows L2
section
variable {P : Program} {w : World} {K : PySem.W.Frag} {mg : Str → Option Value} {base : Heap}
theorem nx_of {f : L2.St → Hp → Prop} {r : VK} {b c : L2.St → Hp → Prop} {σ : L2.St} {H : Hp} (h : f σ H) : (Ends.mk f r b c).nx σ H := h
theorem seq_cutI {c : TT} {a b tb : TS} {D : Ends} {σ : L2.St} {H : Hp} (Iv : L2.St → Hp → Prop) (main : ∀ σ' H', Iv σ' H' → tb D σ' H') (h : ∀ nx : L2.St → Hp → Prop, (∀ σ' H', Iv σ' H' → nx σ' H') → tIfS c a b { D with nx := nx } σ H) : tSeq (tIfS c a b) tb D σ H := h _ main
theorem seq_cut {ta tb : TS} {D : Ends} {σ : L2.St} {H : Hp} (Iv : L2.St → Hp → Prop) (main : ∀ σ' H', Iv σ' H' → tb D σ' H') (h : ∀ nx : L2.St → Hp → Prop, (∀ σ' H', Iv σ' H' → nx σ' H') → ta { D with nx := nx } σ H) : tSeq ta tb D σ H := h _ main
theorem Bx.at' {H : Hp} {b : Addr} {n : Nat} (h : Bx H b n) : ∃ o, H b = some o := by
  obtain ⟨_, _, _, e, _⟩ := h.ex
  exact ⟨_, e⟩
theorem Bx.off {H : Hp} {b p : Addr} {n : Nat} (h : Bx H b n) (hp : H p = none) : p ≠ b := by
  obtain ⟨_, e⟩ := h.at'
  exact (ne_of_none e hp).symm
/-- weights, no greater than m -/
structure WtOk (m : Int) (ws : List Int) : Prop where
  l1 : 1 ≤ ws.length
  l5 : ws.length ≤ 5
  bd : ∀ x ∈ ws, -m ≤ x ∧ x ≤ m
  last : ∃ v, ws[ws.length - 1]? = some v ∧ v ≠ 0
theorem WtOk.nz {m : Int} {ws : List Int} (h : WtOk m ws) : ∀ ne : ws ≠ [], ws.getLast ne ≠ 0 := fun ne => by
  obtain ⟨v, hv, v0⟩ := h.last
  rw [List.getLast_eq_getElem]
  have l1 := h.l1
  rw [List.getElem?_eq_getElem (by omega)] at hv
  rw [Option.some.inj hv]
  exact v0
theorem WtOk.set {m : Int} {ws : List Int} (h : WtOk m ws) {i : Nat} {x : Int} (hx : -m ≤ x ∧ x ≤ m) (hi : i = ws.length - 1 → x ≠ 0) : WtOk m (ws.set i x) := by
  obtain ⟨v, hv, v0⟩ := h.last
  have l1 := h.l1
  refine ⟨by simpa using h.l1, by simpa using h.l5, fun y hy => (List.mem_or_eq_of_mem_set hy).elim (h.bd y) fun z => by rw [z]; exact hx, ?_⟩
  rw [List.length_set]
  by_cases z : i = ws.length - 1
  · subst z
    exact ⟨x, by rw [List.getElem?_set, if_pos rfl, if_pos (by omega)], hi rfl⟩
  · exact ⟨v, by rw [List.getElem?_set, if_neg z]; exact hv, v0⟩
theorem ixN_nat {n j : Nat} (h : j < n) : ixN n (j : Int) = some j := by
  unfold ixN
  rw [if_pos (by omega), if_pos (by omega)]
  simp
theorem ixN_last {n : Nat} (h : 1 ≤ n) : ixN n (-1) = some (n - 1) := by
  unfold ixN
  rw [if_neg (by decide), if_pos (by omega)]
  exact congrArg some (by omega)
theorem map_set_int (ns : List Int) (i : Nat) (x : Int) : (ns.map V.int).set i (V.int x) = (ns.set i x).map V.int := by
  rw [List.map_set]

end
end Sw

set_option maxHeartbeats 2000000
namespace Sw
open PySem PySem.Spec PyProof.Rows L2
section
variable {P : Program} {w : World} {K : PySem.W.Frag} {mg : Str → Option Value} {base : Heap}
structure LR (H : Hp) (bs : List Addr) (p : Addr) (as : List Addr) (rows : List (List Int)) : Prop where
  hp : H p = some (.lst (as.map V.ref))
  nd : as.Nodup
  np : p ∉ as
  pb : p ∉ bs
  nb : ∀ a ∈ as, a ∉ bs
  len : as.length = rows.length
  row : ∀ (i : Nat) (a : Addr) (r : List Int), as[i]? = some a → rows[i]? = some r → H a = some (.lst (r.map V.int))
theorem LR.keep {H H' : Hp} {bs : List Addr} {p : Addr} {as : List Addr} {rows : List (List Int)} (h : LR H bs p as rows) (k : Kp bs H H') : LR H' bs p as rows :=
  ⟨k _ _ h.hp h.pb, h.nd, h.np, h.pb, h.nb, h.len, fun i a r e1 e2 => k _ _ (h.row i a r e1 e2) (h.nb a (List.mem_of_getElem? e1))⟩
theorem nodup_ix {as : List Addr} (h : as.Nodup) {i j : Nat} {a : Addr} (e1 : as[i]? = some a) (e2 : as[j]? = some a) : i = j := by
  obtain ⟨h1, g1⟩ := List.getElem?_eq_some_iff.mp e1
  obtain ⟨h2, g2⟩ := List.getElem?_eq_some_iff.mp e2
  exact (List.getElem_inj h).mp (g1.trans g2.symm)
theorem LR.setRow {H : Hp} {bs : List Addr} {p : Addr} {as : List Addr} {rows : List (List Int)} (h : LR H bs p as rows) {i : Nat} {a : Addr} (e : as[i]? = some a) (r' : List Int) : LR (upd H a (.lst (r'.map V.int))) bs p as (rows.set i r') := by
  have ha := List.mem_of_getElem? e
  refine ⟨?_, h.nd, h.np, h.pb, h.nb, by simpa using h.len, fun j c r ec er => ?_⟩
  · rw [upd_ne (fun z : p = a => h.np (by rw [z]; exact ha))]
    exact h.hp
  · rw [List.getElem?_set] at er
    by_cases z : i = j
    · subst z
      rw [e] at ec
      cases ec
      rw [if_pos rfl] at er
      split at er
      · cases er
        exact upd_same
      · cases er
    · rw [if_neg z] at er
      have nc : c ≠ a := fun y => z (nodup_ix h.nd e (y ▸ ec))
      rw [upd_ne nc]
      exact h.row j c r ec er
theorem LR.other {H : Hp} {bs : List Addr} {p q : Addr} {as : List Addr} {rows : List (List Int)} (h : LR H bs p as rows) {o : HO} (n1 : q ≠ p) (n2 : q ∉ as) : LR (upd H q o) bs p as rows := by
  refine ⟨by rw [upd_ne n1.symm]; exact h.hp, h.nd, h.np, h.pb, h.nb, h.len, fun i a r e1 e2 => ?_⟩
  rw [upd_ne (fun z : a = q => n2 (by rw [← z]; exact List.mem_of_getElem? e1))]
  exact h.row i a r e1 e2
theorem LR.ix {H : Hp} {bs : List Addr} {p : Addr} {as : List Addr} {rows : List (List Int)} (h : LR H bs p as rows) {i : Nat} (hi : i < rows.length) : ∃ a, as[i]? = some a ∧ a ∈ as ∧ H a = some (.lst (rows[i].map V.int)) ∧ atI (as.map V.ref) (i : Int) = some (V.ref a) ∧ ixN (as.map V.ref).length (i : Int) = some i := by
  have hl : i < as.length := by
    have := h.len
    omega
  have e : as[i]? = some as[i] := by simp
  exact ⟨as[i], e, List.getElem_mem hl, h.row i _ _ e (by simp), atI_nat (by simp), ixN_nat (by simpa using hl)⟩
theorem bset {rows : List (List Int)} {B : List Int → Prop} {i : Nat} {r' : List Int} (h : ∀ r ∈ rows, B r) (h' : B r') : ∀ r ∈ rows.set i r', B r := fun r hr =>
  (List.mem_or_eq_of_mem_set hr).elim (h r) fun z => by rw [z]; exact h'
theorem LR.keepO {H H' : Hp} {bs : List Addr} {p q : Addr} {as : List Addr} {rows : List (List Int)} (h : LR H bs p as rows) (k : Kp [q] H H') (n1 : q ≠ p) (n2 : q ∉ as) : LR H' bs p as rows :=
  ⟨k _ _ h.hp (by simpa using n1.symm), h.nd, h.np, h.pb, h.nb, h.len, fun i a r e1 e2 => k _ _ (h.row i a r e1 e2) (by simpa using fun z : a = q => n2 (by rw [← z]; exact List.mem_of_getElem? e1))⟩
/-- one row more, at a new place -/
theorem LR.push {H : Hp} {bs : List Addr} {p a : Addr} {as : List Addr} {rows : List (List Int)} (h : LR H bs p as rows) {r : List Int} (ha : H a = some (.lst (r.map V.int))) (n1 : a ≠ p) (n2 : a ∉ as) (n3 : a ∉ bs) : LR (upd H p (.lst (as.map V.ref ++ [.ref a]))) bs p (as ++ [a]) (rows ++ [r]) := by
  refine ⟨by rw [upd_same]; simp, ?_, fun m => ?_, h.pb, fun c hc => ?_, by simp [h.len], fun i c r' e1 e2 => ?_⟩
  · rw [List.nodup_append]
    exact ⟨h.nd, by simp, fun x hx y hy => by rw [List.mem_singleton.mp hy]; exact fun z => n2 (z ▸ hx)⟩
  · rcases List.mem_append.mp m with z | z
    · exact h.np z
    · exact n1 (List.mem_singleton.mp z).symm
  · rcases List.mem_append.mp hc with z | z
    · exact h.nb c z
    · rw [List.mem_singleton.mp z]
      exact n3
  · have hl := h.len
    have hc := List.mem_of_getElem? e1
    have ncp : c ≠ p := fun z => by
      rcases List.mem_append.mp hc with y | y
      · exact h.np (z ▸ y)
      · exact n1 ((List.mem_singleton.mp y).symm.trans z)
    rw [upd_ne ncp]
    by_cases ci : i < as.length
    · rw [List.getElem?_append_left ci] at e1
      rw [List.getElem?_append_left (by omega)] at e2
      exact h.row i c r' e1 e2
    · rw [List.getElem?_append_right (by omega)] at e1
      rw [List.getElem?_append_right (by omega)] at e2
      have z : i - as.length = 0 := by
        have := (List.getElem?_eq_some_iff.mp e1).1
        simp at this
        omega
      rw [z] at e1
      rw [← hl, z] at e2
      cases (show some a = some c from e1)
      cases (show some r = some r' from e2)
      exact ha
theorem rep_zero (k : Nat) : (List.replicate k [V.int 0]).flatten = (List.replicate k (0 : Int)).map V.int := by
  induction k with
  | zero => rfl
  | succ k ih => rw [List.replicate_succ, List.replicate_succ, List.flatten_cons, ih]; rfl
abbrev dLT (rows : List (List Int)) : PyData := .list (rows.map dT)
/-- strings of c persons, no greater than m -/
structure Sq (m : Int) (c : Nat) (rows : List (List Int)) : Prop where
  len : rows.length = c
  row : ∀ r ∈ rows, r.length = c ∧ ∀ x ∈ r, -m ≤ x ∧ x ≤ m
theorem Sq.set {m : Int} {c : Nat} {rows : List (List Int)} (h : Sq m c rows) {i j : Nat} {x : Int} (hi : i < rows.length) (hx : -m ≤ x ∧ x ≤ m) : Sq m c (rows.set i (rows[i].set j x)) := by
  refine ⟨by simpa using h.len, bset h.row ?_⟩
  obtain ⟨h1, h2⟩ := h.row rows[i] (List.getElem_mem hi)
  exact ⟨by simpa using h1, fun y hy => (List.mem_or_eq_of_mem_set hy).elim (h2 y) fun z => by rw [z]; exact hx⟩
theorem bit01 (c : Bool) : (if c = true then (1 : Int) else 0) = 0 ∨ (if c = true then (1 : Int) else 0) = 1 := by cases c <;> simp
theorem mul_bd {x y a c : Int} (hx : -a ≤ x ∧ x ≤ a) (hy : -c ≤ y ∧ y ≤ c) : -(a * c) ≤ x * y ∧ x * y ≤ a * c := by
  have a0 : 0 ≤ a := by omega
  have c0 : 0 ≤ c := by omega
  have h1 := Int.mul_nonneg (a := a - x) (b := c + y) (by omega) (by omega)
  have h2 := Int.mul_nonneg (a := a + x) (b := c - y) (by omega) (by omega)
  have h3 := Int.mul_nonneg (a := a - x) (b := c - y) (by omega) (by omega)
  have h4 := Int.mul_nonneg (a := a + x) (b := c + y) (by omega) (by omega)
  simp only [Int.sub_mul, Int.mul_add, Int.add_mul, Int.mul_sub] at h1 h2 h3 h4
  constructor <;> omega
theorem gn {i : Nat} {x : V} {σ : L2.St} {H : Hp} {R : L2.St → Hp → Prop} (h : R (σ.set i (some x)) H) : gName i x σ H R := h
theorem seq_cutA {te : TE} {g : TG} {tb : TS} {D : Ends} {σ : L2.St} {H : Hp} (Iv : L2.St → Hp → Prop) (main : ∀ σ' H', Iv σ' H' → tb D σ' H') (h : ∀ nx : L2.St → Hp → Prop, (∀ σ' H', Iv σ' H' → nx σ' H') → tAsg te g { D with nx := nx } σ H) : tSeq (tAsg te g) tb D σ H := h _ main
/-- rows that are being filled -/
structure StS (H0 : Hp) (b o p : Addr) (ow : List Int) (n c : Nat) (H : Hp) (as : List Addr) (rows : List (List Int)) : Prop where
  lr : LR H [b, o] p as rows
  row : ∀ r ∈ rows, r.length = c ∧ ∀ x ∈ r, -60 ≤ x ∧ x ≤ 60
  own : H o = some (.lst (ow.map V.int))
  fr : ∀ a ∈ as, H0 a = none
  bx : Bx H b n
  kp : Kp [b] H0 H
  fp : H0 p = none
  nob : o ≠ b
section
variable {H0 H H1 : Hp} {b o p : Addr} {ow : List Int} {n m c : Nat} {as : List Addr} {rows : List (List Int)}
theorem StS.npb (h : StS H0 b o p ow n c H as rows) : p ≠ b := fun z => h.lr.pb (by simp [z])
theorem StS.nab (h : StS H0 b o p ow n c H as rows) {a : Addr} (ha : a ∈ as) : a ≠ b ∧ a ≠ o := by
  have := h.lr.nb a ha
  simpa using this
theorem StS.box (h : StS H0 b o p ow n c H as rows) (k : Kp [b] H H1) (hB : Bx H1 b m) : StS H0 b o p ow m c H1 as rows :=
  ⟨h.lr.keepO k h.npb.symm fun z => (h.nab z).1 rfl, h.row, k _ _ h.own (by simpa using h.nob), h.fr, hB, h.kp.trans k, h.fp, h.nob⟩
theorem StS.new (h : StS H0 b o p ow n c H as rows) {l : Addr} {v : HO} (hl : H l = none) : StS H0 b o p ow n c (upd H l v) as rows :=
  ⟨h.lr.keep (Kp.rfl'.new hl), h.row, (by rw [upd_ne (ne_of_none h.own hl)]; exact h.own), h.fr, h.bx.keep (Kp.rfl'.new (bs := []) hl) (by simp), h.kp.new hl, h.fp, h.nob⟩
theorem StS.set (h : StS H0 b o p ow n c H as rows) {i j : Nat} {a : Addr} {x : Int} (hi : i < rows.length) (e : as[i]? = some a) (hx : -60 ≤ x ∧ x ≤ 60) : StS H0 b o p ow n c (upd H a (.lst ((rows[i].map V.int).set j (V.int x)))) as (rows.set i (rows[i].set j x)) := by
  have ha := List.mem_of_getElem? e
  obtain ⟨n1, n2⟩ := h.nab ha
  obtain ⟨h1, h2⟩ := h.row rows[i] (List.getElem_mem hi)
  rw [map_set_int]
  refine ⟨h.lr.setRow e _, bset h.row ⟨by simpa using h1, fun y hy => (List.mem_or_eq_of_mem_set hy).elim (h2 y) fun z => by rw [z]; exact hx⟩, (by rw [upd_ne n2.symm]; exact h.own), h.fr, h.bx.keep (Kp.rfl'.put (bs := [a]) (by simp)) (by simpa using n1.symm), h.kp.own (h.fr a ha), h.fp, h.nob⟩
theorem StS.push (h : StS H0 b o p ow n c H as rows) {a : Addr} {r : List Int} (ha : H a = some (.lst (r.map V.int))) (fa : H0 a = none) (n1 : a ≠ p) (n2 : a ∉ as) (n3 : a ≠ b ∧ a ≠ o) (hr : r.length = c ∧ ∀ x ∈ r, -60 ≤ x ∧ x ≤ 60) : StS H0 b o p ow n c (upd H p (.lst (as.map V.ref ++ [.ref a]))) (as ++ [a]) (rows ++ [r]) := by
  have npo : o ≠ p := fun z => h.lr.pb (by simp [z])
  refine ⟨h.lr.push ha n1 n2 (by simpa using n3), fun r' h' => ?_, (by rw [upd_ne npo]; exact h.own), fun c hc => ?_, h.bx.keep (Kp.rfl'.put (bs := [p]) (by simp)) (by simpa using h.npb.symm), h.kp.own h.fp, h.fp, h.nob⟩
  · rcases List.mem_append.mp h' with z | z
    · exact h.row r' z
    · rw [List.mem_singleton.mp z]
      exact hr
  · rcases List.mem_append.mp hc with z | z
    · exact h.fr c z
    · rw [List.mem_singleton.mp z]
      exact fa
end

end
end Sw

set_option maxHeartbeats 2000000
namespace Sw
open PySem PySem.Spec PyProof.Rows L2
section
variable {P : Program} {w : World} {K : PySem.W.Frag} {mg : Str → Option Value} {base : Heap}
theorem rowsLT (rows : List (List Int)) : RowsD (dLT rows) rows := ⟨true, rows.map dT, rfl, by simp, fun i e r h1 h2 => by
  rw [List.getElem?_map, h2] at h1
  cases h1
  exact ⟨false, rfl⟩⟩
/-! ### comprehensions over numbers -/
theorem lc_zipI {α : Type} {ka kb : Bool} {a b d : Addr} {ns ms : List Int} {g : TG} {tt : TT} {te : TE} {vs : List Nat} {σ : L2.St} {H1 : Hp} {Qd : Hp → Prop} (c : α → V) (f : Int → Int → α) (ha : H1 a = some (sqo ka (ns.map V.int))) (hb : H1 b = some (sqo kb (ms.map V.int))) (l1 : ns.length ≤ 900) (hd : H1 d = none)
    (step : ∀ (x y : Int) (t : Addr) (H2 : Hp) (R : V → Hp → Prop) (N : Hp → Prop), x ∈ ns → y ∈ ms → H2 t = none → R (c (f x y)) (upd H2 t (.tup [.int x, .int y])) → g (.ref t) (wipe σ vs) (upd H2 t (.tup [.int x, .int y])) fun σ2 H3 => wipe σ2 vs = wipe σ vs ∧ tt σ2 H3 fun b H4 => if b = true then te σ2 H4 R else N H4)
    (done : ∀ H3, H3 d = some (.lst ((List.zipWith f ns ms).map c)) → Kp [] H1 H3 → Qd H3) :
    ∃ W : Nat → Nat → Hp → Prop, (∃ m, W 0 m (upd H1 d (.lst []))) ∧ ∀ i m H, W i m H →
      ((ItZ ka kb K a b).stop i H ∧ Qd H) ∨ ((ItZ ka kb K a b).go i H ∧ ∃ Nx : Hp → Prop, (∀ H', Nx H' → ∃ m', m' < m ∧ W (i + 1) m' H') ∧ ∀ x H', (ItZ ka kb K a b).yld i H x H' → g x (wipe σ vs) H' fun σ2 H2 => wipe σ2 vs = wipe σ vs ∧ tt σ2 H2 fun b H3 =>
        if b = true then te σ2 H3 fun y H4 => ∃ acc, H4 d = some (.lst acc) ∧ acc.length < sizeLine ∧ Nx (upd H4 d (.lst (acc ++ [y]))) else Nx H3) := by
  refine lc_it (walkZ (K := K) (xs := ns.map V.int) (ys := ms.map V.int) rfl) (fun j H3 => H3 d = some (.lst (((List.zipWith f ns ms).take j).map c)) ∧ Kp [] H1 H3) ?_ ?_ ?_ ?_
  · exact ⟨by rw [upd_same]; rfl, Kp.rfl'.new hd⟩
  · rintro j H3 _ ⟨_, k3⟩
    exact ⟨sqo_k (k3 _ _ ha (by simp)), sqo_k (k3 _ _ hb (by simp))⟩
  · rintro j x H3 H4 hj ⟨h3, k3⟩ ⟨t, y, z, rfl, ht, rfl, hy, hz⟩
    simp only [List.getElem?_map] at hy hz
    obtain ⟨y', hy', rfl⟩ := Option.map_eq_some_iff.mp hy
    obtain ⟨z', hz', rfl⟩ := Option.map_eq_some_iff.mp hz
    refine step y' z' t H3 _ _ (List.mem_of_getElem? hy') (List.mem_of_getElem? hz') ht ?_
    refine ⟨_, by rw [upd_ne (ne_of_none h3 ht)]; exact h3, ?_, ?_, (k3.new ht).own hd⟩
    · simp only [List.length_map, List.length_take, List.length_zipWith]
      exact small1000 (by omega)
    · have e : (List.zipWith f ns ms)[j]? = some (f y' z') := by
        rw [List.getElem?_zipWith, hy', hz']
      rw [upd_same, List.take_add_one, e]
      simp
  · rintro H3 ⟨h3, k3⟩
    have e : (List.zipWith f ns ms).take (min (ns.map V.int).length (ms.map V.int).length) = List.zipWith f ns ms := by
      apply List.take_of_length_le
      simp
    rw [e] at h3
    exact done H3 h3 k3
theorem lc_intsL {α : Type} {a d : Addr} {ns : List Int} {g : TG} {tt : TT} {te : TE} {vs : List Nat} {σ : L2.St} {H1 : Hp} {Qd : Hp → Prop} (c : α → V) (f : Int → α) (ha : H1 a = some (.lst (ns.map V.int))) (l1 : ns.length ≤ 900) (hd : H1 d = none)
    (step : ∀ (x : Int) (H2 : Hp) (R : V → Hp → Prop) (N : Hp → Prop), x ∈ ns → R (c (f x)) H2 → g (.int x) (wipe σ vs) H2 fun σ2 H3 => wipe σ2 vs = wipe σ vs ∧ tt σ2 H3 fun b H4 => if b = true then te σ2 H4 R else N H4)
    (done : ∀ H3, H3 d = some (.lst ((ns.map f).map c)) → Kp [] H1 H3 → Qd H3) :
    ∃ W : Nat → Nat → Hp → Prop, (∃ m, W 0 m (upd H1 d (.lst []))) ∧ ∀ i m H, W i m H →
      ((Itl K a).stop i H ∧ Qd H) ∨ ((Itl K a).go i H ∧ ∃ Nx : Hp → Prop, (∀ H', Nx H' → ∃ m', m' < m ∧ W (i + 1) m' H') ∧ ∀ x H', (Itl K a).yld i H x H' → g x (wipe σ vs) H' fun σ2 H2 => wipe σ2 vs = wipe σ vs ∧ tt σ2 H2 fun b H3 =>
        if b = true then te σ2 H3 fun y H4 => ∃ acc, H4 d = some (.lst acc) ∧ acc.length < sizeLine ∧ Nx (upd H4 d (.lst (acc ++ [y]))) else Nx H3) := by
  refine lc_list (K := K) (a := a) (xs := ns.map V.int) (fun j H3 => H3 d = some (.lst (((ns.take j).map f).map c)) ∧ Kp [] H1 H3) ?_ ?_ ?_ ?_
  · exact ⟨by rw [upd_same]; rfl, Kp.rfl'.new hd⟩
  · rintro j H3 _ ⟨_, k3⟩
    exact SqL.of (k3 _ _ ha (by simp))
  · rintro j x H3 hj ⟨h3, k3⟩
    rw [List.getElem?_map] at hj
    obtain ⟨z, hz, rfl⟩ := Option.map_eq_some_iff.mp hj
    refine step z H3 _ _ (List.mem_of_getElem? hz) ⟨_, h3, ?_, ?_, k3.own hd⟩
    · simp only [List.length_map, List.length_take]
      exact small1000 (by omega)
    · rw [upd_same, List.take_add_one, hz]
      simp
  · rintro H3 ⟨h3, k3⟩
    rw [List.length_map, List.take_length] at h3
    exact done H3 h3 k3
/-! ### sums -/
def Bd (m : Int) (ns : List Int) : Prop := ∀ x ∈ ns, -m ≤ x ∧ x ≤ m
theorem sum_bd2 {m : Int} : ∀ {ns : List Int}, Bd m ns → -(ns.length * m) ≤ ns.sum ∧ ns.sum ≤ ns.length * m
  | [], _ => by simp
  | a :: r, h => by
    have h1 := h a (List.mem_cons_self ..)
    have h2 := sum_bd2 (ns := r) fun x hx => h x (List.mem_cons_of_mem _ hx)
    have e : ((a :: r).length : Int) * m = (r.length : Int) * m + m := by
      rw [List.length_cons, Int.natCast_succ, Int.add_mul, Int.one_mul]
    rw [List.sum_cons, e]
    omega
def dot (r ts : List Int) : Int := (List.zipWith (· * ·) r ts).sum
theorem zip_bd {f : Int → Int → Int} {a c : Int} : ∀ {r ts : List Int}, (∀ x ∈ r, ∀ y ∈ ts, -a ≤ f x y ∧ f x y ≤ a) → Bd a (List.zipWith f r ts)
  | [], _, _ => fun x h => by simp at h
  | _ :: _, [], _ => fun x h => by simp at h
  | p :: r, q :: ts, h => fun x hx => by
    rw [List.zipWith_cons_cons] at hx
    rcases List.mem_cons.mp hx with z | z
    · rw [z]
      exact h p (by simp) q (by simp)
    · exact zip_bd (c := c) (fun x hx y hy => h x (List.mem_cons_of_mem _ hx) y (List.mem_cons_of_mem _ hy)) x z
theorem dot_bd {r ts : List Int} {a c : Int} (a0 : 0 ≤ a) (c0 : 0 ≤ c) (h1 : Bd a r) (h2 : Bd c ts) : -(r.length * (a * c)) ≤ dot r ts ∧ dot r ts ≤ r.length * (a * c) := by
  have z := sum_bd2 (zip_bd (a := a * c) (c := c) fun x hx y hy => mul_bd (h1 x hx) (h2 y hy))
  have l : ((List.zipWith (· * ·) r ts).length : Int) ≤ (r.length : Int) := by
    rw [List.length_zipWith]
    omega
  have m := Int.mul_le_mul_of_nonneg_right l (Int.mul_nonneg a0 c0)
  unfold dot
  omega
/-- numbers of a hall that stay small -/
theorem D.rowLT {bs : List Addr} {H : Hp} {w k : Nat} {p : Addr} {rows : List (List Int)} (h : D bs H w k (.ref p) (dLT rows)) : ∃ xs : List V, H p = some (.lst xs) ∧ p ∉ bs ∧ xs.length = rows.length ∧ xs.length ≤ w ∧ ∀ (i : Nat) (r : List Int), rows[i]? = some r → ∃ a, xs[i]? = some (.ref a) ∧ H a = some (.tup (r.map V.int)) ∧ a ∉ bs ∧ r.length ≤ w := by
  cases h with
  | @lst _ _ xs _ h n l t =>
    have len := DA.len t
    rw [List.length_map] at len
    refine ⟨xs, h, n, len, l, fun i r hr => ?_⟩
    have li : i < xs.length := by
      have := (List.getElem?_eq_some_iff.mp hr).1
      omega
    have gx : xs[i]? = some xs[i] := by simp
    obtain ⟨dd, hd, hx⟩ := t.get gx
    rw [List.getElem?_map, hr] at hd
    cases hd
    cases hx' : xs[i] with
    | ref a =>
      rw [hx'] at hx gx
      cases hx with
      | tup h1 n1 l1 t1 =>
        have e := DA.ints t1
        subst e
        exact ⟨a, gx, h1, n1, by simpa using l1⟩
    | _ => rw [hx'] at hx; cases hx
theorem cut_to (xs : List V) (k : Nat) : cutV xs none (some (k : Int)) = xs.take k := by
  have e : HT.sIx xs.length xs.length (some (k : Int)) = min k xs.length := HT.sIx_nat xs.length xs.length k
  unfold cutV
  rw [HT.sIx_none, e, List.drop_zero, Nat.sub_zero]
  by_cases h : k ≤ xs.length
  · rw [Nat.min_eq_left h]
  · rw [Nat.min_eq_right (by omega), List.take_length, List.take_of_length_le (by omega)]
theorem cut_from (xs : List V) (k : Nat) : cutV xs (some (k : Int)) none = xs.drop k := by
  have e : HT.sIx xs.length 0 (some (k : Int)) = min k xs.length := HT.sIx_nat xs.length 0 k
  unfold cutV
  rw [HT.sIx_none, e]
  by_cases h : k ≤ xs.length
  · rw [Nat.min_eq_left h, List.take_of_length_le (by rw [List.length_drop]; omega)]
  · rw [Nat.min_eq_right (by omega), List.drop_length, List.drop_of_length_le (by omega), List.take_nil]
theorem DA.takeD {bs : List Addr} {H : Hp} {w k : Nat} : ∀ {vs : List V} {ds : List PyData} (i : Nat), DA bs H w k vs ds → DA bs H w k (vs.take i) (ds.take i)
  | _, _, 0, _ => by simpa using DA.nil
  | _, _, _ + 1, .nil => .nil
  | _, _, i + 1, .cons h t => .cons h (DA.takeD i t)
theorem DA.dropD {bs : List Addr} {H : Hp} {w k : Nat} : ∀ {vs : List V} {ds : List PyData} (i : Nat), DA bs H w k vs ds → DA bs H w k (vs.drop i) (ds.drop i)
  | _, _, 0, h => by simpa using h
  | _, _, _ + 1, .nil => .nil
  | _, _, i + 1, .cons h t => DA.dropD i t

end
end Sw

set_option maxHeartbeats 2000000
namespace Sw
open PySem PySem.Spec PyProof.Rows L2
section
variable {P : Program} {w : World} {K : PySem.W.Frag} {mg : Str → Option Value} {base : Heap}
theorem lc_zipI2 {α : Type} {ka kb : Bool} {a b d : Addr} {ns ms : List Int} {g : TG} {tt : TT} {te : TE} {vs : List Nat} {σ : L2.St} {H1 : Hp} {Qd : Hp → Prop} (c : α → V) (f : Int → Int → α) (ha : ∀ H', Kp [] H1 H' → SqK ka K H' a (ns.map V.int)) (hb : H1 b = some (sqo kb (ms.map V.int))) (l1 : ns.length ≤ 900) (hd : H1 d = none)
    (step : ∀ (x y : Int) (t : Addr) (H2 : Hp) (R : V → Hp → Prop) (N : Hp → Prop), x ∈ ns → y ∈ ms → H2 t = none → R (c (f x y)) (upd H2 t (.tup [.int x, .int y])) → g (.ref t) (wipe σ vs) (upd H2 t (.tup [.int x, .int y])) fun σ2 H3 => wipe σ2 vs = wipe σ vs ∧ tt σ2 H3 fun b H4 => if b = true then te σ2 H4 R else N H4)
    (done : ∀ H3, H3 d = some (.lst ((List.zipWith f ns ms).map c)) → Kp [] H1 H3 → Qd H3) :
    ∃ W : Nat → Nat → Hp → Prop, (∃ m, W 0 m (upd H1 d (.lst []))) ∧ ∀ i m H, W i m H →
      ((ItZ ka kb K a b).stop i H ∧ Qd H) ∨ ((ItZ ka kb K a b).go i H ∧ ∃ Nx : Hp → Prop, (∀ H', Nx H' → ∃ m', m' < m ∧ W (i + 1) m' H') ∧ ∀ x H', (ItZ ka kb K a b).yld i H x H' → g x (wipe σ vs) H' fun σ2 H2 => wipe σ2 vs = wipe σ vs ∧ tt σ2 H2 fun b H3 =>
        if b = true then te σ2 H3 fun y H4 => ∃ acc, H4 d = some (.lst acc) ∧ acc.length < sizeLine ∧ Nx (upd H4 d (.lst (acc ++ [y]))) else Nx H3) := by
  refine lc_it (walkZ (K := K) (xs := ns.map V.int) (ys := ms.map V.int) rfl) (fun j H3 => H3 d = some (.lst (((List.zipWith f ns ms).take j).map c)) ∧ Kp [] H1 H3) ?_ ?_ ?_ ?_
  · exact ⟨by rw [upd_same]; rfl, Kp.rfl'.new hd⟩
  · rintro j H3 _ ⟨_, k3⟩
    exact ⟨ha _ k3, sqo_k (k3 _ _ hb (by simp))⟩
  · rintro j x H3 H4 hj ⟨h3, k3⟩ ⟨t, y, z, rfl, ht, rfl, hy, hz⟩
    simp only [List.getElem?_map] at hy hz
    obtain ⟨y', hy', rfl⟩ := Option.map_eq_some_iff.mp hy
    obtain ⟨z', hz', rfl⟩ := Option.map_eq_some_iff.mp hz
    refine step y' z' t H3 _ _ (List.mem_of_getElem? hy') (List.mem_of_getElem? hz') ht ?_
    refine ⟨_, by rw [upd_ne (ne_of_none h3 ht)]; exact h3, ?_, ?_, (k3.new ht).own hd⟩
    · simp only [List.length_map, List.length_take, List.length_zipWith]
      exact small1000 (by omega)
    · have e : (List.zipWith f ns ms)[j]? = some (f y' z') := by
        rw [List.getElem?_zipWith, hy', hz']
      rw [upd_same, List.take_add_one, e]
      simp
  · rintro H3 ⟨h3, k3⟩
    have e : (List.zipWith f ns ms).take (min (ns.map V.int).length (ms.map V.int).length) = List.zipWith f ns ms := by
      apply List.take_of_length_le
      simp
    rw [e] at h3
    exact done H3 h3 k3
/-- a hall whose memory may be the one that was left out -/
structure HallS (K : PySem.W.Frag) (bs : List Addr) (H : Hp) (w : Nat) (x : Addr) (rows steps : List (List Int)) (ws : List Int) : Prop where
  ex : ∃ dx a1 a2 a3, H x = some (.ins (C0 K) dx (flds a1 a2 a3)) ∧ x ∉ bs ∧ D bs H w 2 (.ref a1) (dTT rows) ∧ D bs H w 2 (.ref a2) (dTT steps) ∧ (∀ H', Kp bs H H' → SqT K H' a3 (ws.map V.int)) ∧ ws.length ≤ w
theorem HallS.keep {bs : List Addr} {H H' : Hp} {w' : Nat} {x : Addr} {rows steps : List (List Int)} {ws : List Int} (h : HallS K bs H w' x rows steps ws) (k : Kp bs H H') : HallS K bs H' w' x rows steps ws := by
  obtain ⟨dx, a1, a2, a3, e, n, d1, d2, s3, l3⟩ := h.ex
  exact ⟨dx, a1, a2, a3, k _ _ e n, n, d1.keep k, d2.keep k, fun H2 k2 => s3 H2 (k.trans k2), l3⟩
theorem HallAt.s {bs : List Addr} {H : Hp} {w' : Nat} {x : Addr} {rows steps : List (List Int)} {ws : List Int} (h : HallAt K bs H w' x rows steps ws) : HallS K bs H w' x rows steps ws := by
  obtain ⟨dx, a1, a2, a3, e, n, d1, d2, d3⟩ := h.ex
  refine ⟨dx, a1, a2, a3, e, n, d1, d2, ?_⟩
  cases d3 with
  | @tup _ _ xs3 _ h3 n3 l3 t3 =>
  have e3 := DA.ints t3
  subst e3
  rw [List.length_map] at l3
  exact ⟨fun H2 k2 => SqT.of (k2 _ _ h3 n3), l3⟩
/-! ### pulls -/
structure PastAt (H : Hp) (a : Addr) (past : List (List Int)) : Prop where
  ex : ∃ (kd : Bool) (as : List Addr), H a = some (sqo kd (as.map V.ref)) ∧ as.length = past.length ∧ ∀ (k : Nat) (t : Addr) (st : List Int), as[k]? = some t → past[k]? = some st → H t = some (.tup (st.map V.int))
theorem PastAt.keep {H H' : Hp} {a : Addr} {past : List (List Int)} (h : PastAt H a past) (k : Kp [] H H') : PastAt H' a past := by
  obtain ⟨kd, as, h1, h2, h3⟩ := h.ex
  exact ⟨kd, as, k _ _ h1 (by simp), h2, fun j t st e1 e2 => k _ _ (h3 j t st e1 e2) (by simp)⟩
theorem refs_of {xs : List V} : (∀ y ∈ xs, ∃ c, y = V.ref c) → ∃ as : List Addr, xs = as.map V.ref := by
  induction xs with
  | nil => exact fun _ => ⟨[], rfl⟩
  | cons y xs ih =>
    intro h
    obtain ⟨c, rfl⟩ := h y (by simp)
    obtain ⟨as, e⟩ := ih fun z hz => h z (List.mem_cons_of_mem _ hz)
    exact ⟨c :: as, by rw [e]; rfl⟩
theorem D.past {bs : List Addr} {H : Hp} {w k : Nat} {a : Addr} {past : List (List Int)} (h : D bs H w k (.ref a) (dLT past)) : PastAt H a past := by
  obtain ⟨xs, hp, _, lx, _, al⟩ := h.rowLT
  obtain ⟨as, rfl⟩ := refs_of (xs := xs) fun y hy => by
    obtain ⟨j, hj, e⟩ := List.getElem_of_mem hy
    have lj : j < past.length := by omega
    obtain ⟨c, gx, _⟩ := al j past[j] (by simp)
    rw [List.getElem?_eq_getElem hj, e] at gx
    exact ⟨c, Option.some.inj gx⟩
  refine ⟨true, as, hp, by simpa using lx, fun j t st e1 e2 => ?_⟩
  obtain ⟨c, gx, hc, _⟩ := al j st e2
  rw [List.getElem?_map, e1] at gx
  cases (Option.some.inj gx)
  exact hc
def wgt (ws : List Int) (past : List (List Int)) (j : Nat) : Int := dot ws (past.reverse.map fun st => st.getD j 0)
def pullR (ws : List Int) (past : List (List Int)) (c : Nat) (r : List Int) : Int := dot r ((List.range c).map (wgt ws past))
theorem col_ints {i : Nat} : ∀ {ps : List (List Int)}, (∀ st ∈ ps, i < st.length) → col (ps.map fun st => st.map V.int) i = (ps.map fun st => st.getD i 0).map V.int
  | [], _ => rfl
  | st :: ps, h => by
    have h1 := h st (by simp)
    have ih := col_ints (ps := ps) fun u hu => h u (List.mem_cons_of_mem _ hu)
    unfold col at ih ⊢
    have e : (st.map V.int).getD i .non = V.int (st.getD i 0) := by
      rw [List.getD_eq_getElem?_getD, List.getD_eq_getElem?_getD, List.getElem?_map, List.getElem?_eq_getElem h1]
      rfl
    simp only [List.map_cons, ih, e]
def sp_weighed (K : PySem.W.Frag) : Sp := fun vs H Q _ => ∃ (x a : Addr) (rows steps : List (List Int)) (ws : List Int) (past : List (List Int)) (bs : List Addr) (w c : Nat), vs = [.ref x, .ref a] ∧ HallS K bs H w x rows steps ws ∧ PastAt H a past ∧ 1 ≤ past.length ∧ past.length ≤ 5 ∧ (∀ st ∈ past, st.length = c) ∧ c ≤ 900 ∧ w ≤ 900 ∧ Bd 1000 ws ∧
  ∀ (p : Addr) (H' : Hp), H p = none → Kp [] H H' → H' p = some (.lst (((List.range c).map (wgt ws past)).map V.int)) → Q (.ref p) H'
theorem ok_weighed (T : Tx K mg) : FnOk P w K mg base CX0 2 (He.fAd K ("weighed", none)) T.fd_weighed p_weighed (sp_weighed K) := by
  have G_Hall_memory := ok_getm (P := P) (w := w) (base := base) T
  refine T.F_weighed.ok sc_weighed (fun vs H Q E h => ?_) (fun cdv A outer s H vs Q E hr h => ?_)
  · obtain ⟨_, _, _, _, _, _, _, _, _, rfl, _⟩ := h
    rfl
  · obtain ⟨x, a, rows, steps, ws, past, bs, w', c, rfl, hA, hP, p1, p5, lst, c9, lw, bw, q⟩ := h
    obtain ⟨dx, a1, a2, a3, hx, nx, d1, d2, s3, l3⟩ := hA.ex
    obtain ⟨kd, as, ha, la, al⟩ := hP.ex
    refine ⟨_, PSs.nox (pss_cons (ps_set (i := 2) sc_weighed.nd rfl (by first | exact Or.inl rfl | exact Or.inr rfl) (PE.or (pe_revL (pv 1)) (pe_revT (pv 1))))
      (pss_one (ps_ret (pe_lc (own := [("postures", 3)]) (g := (gName 3)) (tt := tYes) rfl sc_weighed.nd (pi_zipN (by rfl) T.b_zip (pv 2)) (blkOk_by (own := [("postures", 3)]) (N := n_weighed) (sc := defScope s_weighed) (by decide +kernel)) (fun _ _ _ _ _ => (pg_name (i := 3) sc_weighed.nd rfl (by first | exact Or.inl rfl | exact Or.inr rfl))) (fun _ _ _ _ _ => pts_nil) (fun _ _ _ _ _ => (pe_callB (kSum (K := K) rfl rfl) (by rfl) T.b_sum (by decide +kernel) (pa_cons (pe_lc (own := [("weight", 4), ("posture", 5)]) (g := (gTup K 2 (gCons (gName 4) (gCons (gName 5) gNil)))) (tt := tYes) rfl sc_weighed.nd (kZipS (K := K) rfl (by rfl) T.b_zip (pa_cons (pe_meth0 (pv 0) T.cl_Hall T.m_Hall_memory G_Hall_memory (hr.mono (by first | decide | omega)) T.bd_Hall_memory .nil pass0) (pa_cons (pv 3) pa_nil))) (blkOk_by (own := [("weight", 4), ("posture", 5)]) (N := n_weighed) (sc := relabel (lcScope (retAt 1 s_weighed)) (envOfC "" (defScope s_weighed) 0 0 .none)) (by decide +kernel)) (fun _ _ _ _ _ => (pg_tup rfl (pgs_cons (pg_name (i := 4) sc_weighed.nd rfl (by first | exact Or.inl rfl | exact Or.inr rfl)) (pgs_cons (pg_name (i := 5) sc_weighed.nd rfl (by first | exact Or.inl rfl | exact Or.inr rfl)) pgs_nil)))) (fun _ _ _ _ _ => pts_nil) (fun _ _ _ _ _ => (pe_op op_mul (pv 4) (pv 5)))) pa_nil))))))), ?_⟩
    refine seq_cutA (fun σ H1 => ∃ p, σ = [some (.ref x), some (.ref a), some (.ref p), none, none, none] ∧ H1 p = some (sqo kd (as.reverse.map V.ref)) ∧ Kp [] H H1) ?_ fun nx hnx => ?_
    · rintro σ H1 ⟨p, rfl, hp1, k1⟩
      have hx1 := k1 _ _ hx (by simp)
      have s31 : ∀ H', Kp [] H1 H' → SqK false K H' a3 (ws.map V.int) := fun H' k => s3 H' ((k1.trans k).sub (by simp))
      have rowsAt : ∀ H', Kp [] H1 H' → RowsAt K H' as.reverse (past.reverse.map fun st => st.map V.int) := fun H' k => by
        refine ⟨by simpa using la, fun j t xs e1 e2 => ?_⟩
        rw [List.getElem?_map] at e2
        obtain ⟨st, hst, rfl⟩ := Option.map_eq_some_iff.mp e2
        have lj := (List.getElem?_eq_some_iff.mp e1).1
        rw [List.length_reverse] at lj
        rw [List.getElem?_reverse (by omega)] at e1
        rw [List.getElem?_reverse (by omega), ← la] at hst
        exact SqT.of ((k1.trans k) _ _ (al _ t st e1 hst) (by simp))
      have sq : SqT K H1 p (as.reverse.map V.ref) ∨ SqL K H1 p (as.reverse.map V.ref) := by
        cases kd
        · exact .inl (SqT.of hp1)
        · exact .inr (SqL.of hp1)
      have lens : ∀ xs ∈ past.reverse.map (fun st => st.map V.int), xs.length = c := fun xs hxs => by
        obtain ⟨st, hst, rfl⟩ := List.mem_map.mp hxs
        rw [List.length_map]
        exact lst st (List.mem_reverse.mp hst)
      refine ⟨_, rfl, p, as.reverse, past.reverse.map (fun st : List Int => st.map V.int), rfl, sq, by rw [List.length_reverse]; omega, by rw [List.length_reverse]; omega, rowsAt H1 Kp.rfl', fun d hd => lc_it (walkN (K := K) (ts := as.reverse) lens) (fun j H2 => H2 d = some (.lst (((List.range j).map (wgt ws past)).map V.int)) ∧ Kp [] H1 H2) ?_ ?_ ?_ ?_⟩
      · exact ⟨by rw [upd_same]; rfl, Kp.rfl'.new hd⟩
      · rintro j H2 _ ⟨_, k2⟩
        exact rowsAt H2 k2
      · rintro j y H2 H3 hj ⟨h2, k2⟩ ⟨t, rfl, ft, rfl⟩
        rw [col_ints fun st hst => by rw [lst st (List.mem_reverse.mp hst)]; exact hj]
        have k3 : Kp [] H2 (upd H2 t (.tup ((past.reverse.map fun st => st.getD j 0).map V.int))) := Kp.rfl'.new ft
        have ht3 : (upd H2 t (.tup ((past.reverse.map fun st => st.getD j 0).map V.int))) t = some (.tup ((past.reverse.map fun st => st.getD j 0).map V.int)) := upd_same
        have h23 := k3 _ _ h2 (by simp)
        generalize upd H2 t (.tup ((past.reverse.map fun st => st.getD j 0).map V.int)) = H3 at k3 ht3 h23 ⊢
        have hx3 := (k2.trans k3) _ _ hx1 (by simp)
        have s33 : ∀ H', Kp [] H3 H' → SqK false K H' a3 (ws.map V.int) := fun H' k => s31 H' ((k2.trans k3).trans k)
        refine ⟨rfl, yesT ⟨_, rfl, x, dx, _, rfl, hx3, flds_no _ _ _ (by decide +kernel) (by decide +kernel) (by decide +kernel), x, dx, a1, a2, a3, rfl, hx3, _, rfl, a3, t, false, false, _, _, rfl, s33 _ Kp.rfl', SqT.of ht3, fun d2 hd2 => lc_zipI2 (ka := false) (kb := false) V.int (· * ·) s33 ht3 (by omega) hd2 ?_ ?_⟩⟩
        · intro u v t' H4 R N hu hv ht' hr'
          have := bw u hu
          exact ⟨t', _, rfl, SqT.of upd_same, rfl, _, _, rfl, _, _, rfl, rfl, rfl, yesT ⟨_, rfl, _, rfl, _, _, rfl, rfl, .inl ⟨by omega, by omega⟩, hr'⟩⟩
        · intro H4 h4 k4
          refine ⟨d2, _, rfl, SqL.of h4, _, k4 _ _ h23 (by simp), by simp only [List.length_map, List.length_range]; exact small1000 (by omega), ?_, ((k2.trans k3).trans k4).own hd⟩
          rw [upd_same, List.range_succ]
          simp [wgt, dot]
      · rintro H2 ⟨h2, k2⟩
        exact q d H2 (k1.free hd (by simp)) (k1.trans k2) h2
    · cases kd with
      | true =>
        refine .inl ⟨_, rfl, a, _, rfl, SqL.of ha, fun p hp => hnx _ _ ⟨p, rfl, ?_, Kp.rfl'.new hp⟩⟩
        rw [upd_same, ← List.map_reverse]
        rfl
      | false =>
        refine .inr ⟨_, rfl, a, _, rfl, SqT.of ha, fun p hp => hnx _ _ ⟨p, rfl, ?_, Kp.rfl'.new hp⟩⟩
        rw [upd_same, ← List.map_reverse]
        rfl
def sp_pulledBy : Sp := fun vs H Q _ => ∃ (a d : Addr) (ka kb : Bool) (ns ms : List Int), vs = [.ref a, .ref d] ∧ H a = some (sqo ka (ns.map V.int)) ∧ H d = some (sqo kb (ms.map V.int)) ∧ ns.length ≤ 900 ∧ Bd 1000 ns ∧ ∀ H', Kp [] H H' → Q (.int (dot ns ms)) H'
theorem ok_pulledBy (T : Tx K mg) : FnOk P w K mg base CX0 1 (He.fAd K ("pulled_by", none)) T.fd_pulled_by p_pulled_by sp_pulledBy := by
  refine T.F_pulled_by.ok sc_pulled_by (fun vs H Q E h => ?_) (fun cdv A outer s H vs Q E hr h => ?_)
  · obtain ⟨_, _, _, _, _, _, rfl, _⟩ := h
    rfl
  · obtain ⟨a, d, ka, kb, ns, ms, rfl, ha, hd, l9, b1, q⟩ := h
    refine ⟨_, PSs.nox (pss_one (ps_ret (pe_callB (cr_sum rfl) (by rfl) T.b_sum (by decide +kernel) (pa_cons (pe_lc (own := [("string", 2), ("one", 3)]) (g := (gTup K 2 (gCons (gName 2) (gCons (gName 3) gNil)))) (tt := tYes) rfl sc_pulled_by.nd (pi_zipS (by rfl) T.b_zip (pa_cons (pv 0) (pa_cons (pv 1) pa_nil))) (blkOk_by (own := [("string", 2), ("one", 3)]) (N := n_pulled_by) (sc := defScope s_pulled_by) (by decide +kernel)) (fun _ _ _ _ _ => (pg_tup rfl (pgs_cons (pg_name (i := 2) sc_pulled_by.nd rfl (by first | exact Or.inl rfl | exact Or.inr rfl)) (pgs_cons (pg_name (i := 3) sc_pulled_by.nd rfl (by first | exact Or.inl rfl | exact Or.inr rfl)) pgs_nil)))) (fun _ _ _ _ _ => pts_nil) (fun _ _ _ _ _ => (pe_op op_mul (pv 2) (pv 3)))) pa_nil)))), ?_⟩
    refine ⟨_, rfl, _, rfl, a, d, ka, kb, _, _, rfl, sqo_k ha, sqo_k hd, fun d2 hd2 => lc_zipI V.int (· * ·) ha hd l9 hd2 ?_ ?_⟩
    · intro u v t' H4 R N hu hv ht' hr'
      have := b1 u hu
      exact ⟨t', _, rfl, SqT.of upd_same, rfl, _, _, rfl, _, _, rfl, rfl, rfl, yesT ⟨_, rfl, _, rfl, _, _, rfl, rfl, .inl ⟨by omega, by omega⟩, hr'⟩⟩
    · intro H4 h4 k4
      exact ⟨d2, _, rfl, SqL.of h4, q _ k4⟩
def sp_pulls (K : PySem.W.Frag) : Sp := fun vs H Q _ => ∃ (x a : Addr) (rows steps : List (List Int)) (ws : List Int) (past : List (List Int)) (bs : List Addr) (w c : Nat), vs = [.ref x, .ref a] ∧ HallS K bs H w x rows steps ws ∧ PastAt H a past ∧ 1 ≤ past.length ∧ past.length ≤ 5 ∧ (∀ st ∈ past, st.length = c) ∧ rows.length = c ∧ c ≤ 900 ∧ w ≤ 900 ∧ Bd 1000 ws ∧ (∀ r ∈ rows, Bd 1000 r) ∧
  ∀ (p : Addr) (H' : Hp), H p = none → Kp [] H H' → H' p = some (.tup ((rows.map (pullR ws past c)).map V.int)) → Q (.ref p) H'
theorem ok_pulls (T : Tx K mg) : FnOk P w K mg base CX0 3 (He.fAd K ("pulls", none)) T.fd_pulls p_pulls (sp_pulls K) := by
  have G_weighed := ok_weighed (P := P) (w := w) (base := base) T
  have G_pulled_by := ok_pulledBy (P := P) (w := w) (base := base) T
  have G_Hall_strings := ok_gets (P := P) (w := w) (base := base) T
  refine T.F_pulls.ok sc_pulls (fun vs H Q E h => ?_) (fun cdv A outer s H vs Q E hr h => ?_)
  · obtain ⟨_, _, _, _, _, _, _, _, _, rfl, _⟩ := h
    rfl
  · obtain ⟨x, a, rows, steps, ws, past, bs, w', c, rfl, hA, hP, p1, p5, lst, lc, c9, lw, bw, br, q⟩ := h
    refine ⟨_, PSs.nox (pss_cons (ps_set (i := 2) sc_pulls.nd rfl (by first | exact Or.inl rfl | exact Or.inr rfl) (pe_call G_weighed (hr.mono (by first | decide | omega)) rfl T.g_weighed T.F_weighed.kp T.bd_weighed .nil pass0 (pa_cons (pv 0) (pa_cons (pv 1) pa_nil))))
      (pss_one (ps_ret (pe_callTy call_tuple_of (by rfl) T.b_tuple (by decide +kernel) (pa_cons (pe_lc (own := [("row", 3)]) (g := (gName 3)) (tt := tYes) rfl sc_pulls.nd (pi_tup (pe_meth0 (pv 0) T.cl_Hall T.m_Hall_strings G_Hall_strings (hr.mono (by first | decide | omega)) T.bd_Hall_strings .nil pass0)) (blkOk_by (own := [("row", 3)]) (N := n_pulls) (sc := defScope s_pulls) (by decide +kernel)) (fun _ _ _ _ _ => (pg_name (i := 3) sc_pulls.nd rfl (by first | exact Or.inl rfl | exact Or.inr rfl))) (fun _ _ _ _ _ => pts_nil) (fun _ _ _ _ _ => (pe_call G_pulled_by (hr.mono (by first | decide | omega)) rfl T.g_pulled_by T.F_pulled_by.kp T.bd_pulled_by .nil pass0 (pa_cons (pv 3) (pa_cons (pv 2) pa_nil))))) pa_nil))))), ?_⟩
    refine ⟨_, rfl, _, rfl, x, a, rows, steps, ws, past, bs, w', c, rfl, hA, hP, p1, p5, lst, c9, lw, bw, fun d H2 fd k2 h2 => ?_⟩
    obtain ⟨dx, a1, a2, a3, hx2, nx, d1, d2, d3⟩ := (hA.keep (k2.sub (by simp))).ex
    cases d1 with
    | @tup _ _ xs _ h4 n4 l4 t4 =>
    have len4 := DA.len t4
    rw [List.length_map] at len4
    refine ⟨_, rfl, x, dx, _, rfl, hx2, flds_no _ _ _ (by decide +kernel) (by decide +kernel) (by decide +kernel), x, dx, a1, a2, a3, rfl, hx2, a1, rfl, ⟨_, SqT.of h4⟩, fun d3 hd3 => lc_tup (K := K) (a := a1) (xs := xs) (fun j H3 => H3 d3 = some (.lst (((rows.take j).map (pullR ws past c)).map V.int)) ∧ Kp [] H2 H3) ?_ ?_ ?_ ?_⟩
    · exact ⟨by rw [upd_same]; rfl, Kp.rfl'.new hd3⟩
    · rintro j H3 _ ⟨_, k3⟩
      exact SqT.of (k3 _ _ h4 (by simp))
    · rintro j y H3 hj ⟨h3', k3⟩
      obtain ⟨r, ra, hr2, rfl, hR, lr⟩ := t4.trowAt hj
      have hjl := (List.getElem?_eq_some_iff.mp hj).1
      have b1 := br r (List.mem_of_getElem? hr2)
      refine ⟨rfl, yesT ⟨_, rfl, _, rfl, ra, d, false, true, r, (List.range c).map (wgt ws past), rfl, k3 _ _ hR (by simp), k3 _ _ h2 (by simp), by omega, b1, fun H4 k4 => ?_⟩⟩
      refine ⟨_, k4 _ _ h3' (by simp), ?_, ?_, (k3.trans k4).own hd3⟩
      · simp only [List.length_map, List.length_take]
        exact small1000 (by omega)
      · rw [upd_same, List.take_add_one, hr2]
        simp [pullR, dot]
    · rintro H3 ⟨h3', k3⟩
      rw [len4, List.take_length] at h3'
      refine ⟨d3, _, rfl, .inl ⟨SqL.of h3', fun l hl => ?_⟩⟩
      have kk := k2.trans k3
      exact q l _ (kk.free hl (by simp)) (kk.new hl) upd_same

end
end Sw

set_option maxHeartbeats 2000000
namespace Sw
open PySem PySem.Spec PyProof.Rows L2
section
variable {P : Program} {w : World} {K : PySem.W.Frag} {mg : Str → Option Value} {base : Heap}
theorem Bd.up {a c : Int} {ns : List Int} (h : Bd a ns) (l : a ≤ c) : Bd c ns := fun x hx => by
  have := h x hx
  omega
/-! ### sums -/
def lawP (ws : List Int) (ps : List (List Int)) (r : List Int) : Int := (List.zipWith (fun w p => w * dot r p) ws ps).sum
theorem dot_nil {ts : List Int} : dot [] ts = 0 := rfl
theorem dot_nilr {r : List Int} : dot r [] = 0 := by
  unfold dot
  rw [List.zipWith_nil_right]
  rfl
theorem dot_cons {x y : Int} {r ts : List Int} : dot (x :: r) (y :: ts) = x * y + dot r ts := by
  unfold dot
  rw [List.zipWith_cons_cons, List.sum_cons]
theorem lawP_nil {ps : List (List Int)} {r : List Int} : lawP [] ps r = 0 := rfl
theorem lawP_nilr {ws r : List Int} : lawP ws [] r = 0 := by
  unfold lawP
  rw [List.zipWith_nil_right]
  rfl
theorem lawP_cons {x : Int} {p : List Int} {ws : List Int} {ps : List (List Int)} {r : List Int} : lawP (x :: ws) (p :: ps) r = x * dot r p + lawP ws ps r := by
  unfold lawP
  rw [List.zipWith_cons_cons, List.sum_cons]
theorem dot_madd {f g : Nat → Int} : ∀ (r : List Int) (l : List Nat), dot r (l.map fun j => f j + g j) = dot r (l.map f) + dot r (l.map g)
  | [], _ => rfl
  | _ :: _, [] => by simp only [List.map_nil, dot_nilr]; rfl
  | x :: r, j :: l => by
    have ih := dot_madd (f := f) (g := g) r l
    simp only [List.map_cons, dot_cons, ih, Int.mul_add]
    omega
theorem dot_mmul {f : Nat → Int} {w : Int} : ∀ (r : List Int) (l : List Nat), dot r (l.map fun j => w * f j) = w * dot r (l.map f)
  | [], _ => by simp only [dot_nil, Int.mul_zero]
  | _ :: _, [] => by simp only [List.map_nil, dot_nilr, Int.mul_zero]
  | x :: r, j :: l => by
    have ih := dot_mmul (f := f) (w := w) r l
    simp only [List.map_cons, dot_cons, ih, Int.mul_add, Int.mul_left_comm]
theorem dot_m0 : ∀ (r : List Int) (l : List Nat), dot r (l.map fun _ => (0 : Int)) = 0
  | [], _ => rfl
  | _ :: _, [] => by rw [List.map_nil, dot_nilr]
  | x :: r, j :: l => by rw [List.map_cons, dot_cons, dot_m0 r l, Int.mul_zero]; rfl
theorem range_get {p : List Int} {c : Nat} (h : p.length = c) : ((List.range c).map fun j => p.getD j 0) = p := by
  apply List.ext_getElem
  · simpa using h.symm
  · intro i h1 h2
    simp [List.getD_eq_getElem?_getD, h2]
theorem pull_law {c : Nat} {r : List Int} : ∀ {ws : List Int} {ps : List (List Int)}, (∀ st ∈ ps, st.length = c) → dot r ((List.range c).map fun j => dot ws (ps.map fun st => st.getD j 0)) = lawP ws ps r
  | [], ps, _ => by
    rw [lawP_nil]
    exact dot_m0 r _
  | _ :: _, [], _ => by
    simp only [List.map_nil, dot_nilr]
    rw [lawP_nilr]
    exact dot_m0 r _
  | x :: ws, p :: ps, h => by
    have ih := pull_law (c := c) (r := r) (ws := ws) (ps := ps) fun st hs => h st (List.mem_cons_of_mem _ hs)
    simp only [List.map_cons, dot_cons]
    rw [dot_madd (f := fun j => x * p.getD j 0) (g := fun j => dot ws (ps.map fun st => st.getD j 0)), ih, dot_mmul (f := fun j => p.getD j 0), range_get (h p (by simp)), lawP_cons]
theorem pullR_law {c : Nat} {r ws : List Int} {past : List (List Int)} (h : ∀ st ∈ past, st.length = c) : pullR ws past c r = lawP ws past.reverse r :=
  pull_law fun st hs => h st (List.mem_reverse.mp hs)
/-- a sum over the first c -/
def SU (f : Nat → Int) (c : Nat) : Int := ((List.range c).map f).sum
theorem SU_succ (f : Nat → Int) (c : Nat) : SU f (c + 1) = SU f c + f c := by
  unfold SU
  rw [List.range_succ, List.map_append, List.sum_append]
  simp
theorem SU_congr {f g : Nat → Int} : ∀ {c : Nat}, (∀ j, j < c → f j = g j) → SU f c = SU g c
  | 0, _ => rfl
  | c + 1, h => by rw [SU_succ, SU_succ, SU_congr fun j hj => h j (by omega), h c (by omega)]
theorem SU_le {f g : Nat → Int} : ∀ {c : Nat}, (∀ j, j < c → f j ≤ g j) → SU f c ≤ SU g c
  | 0, _ => Int.le_refl _
  | c + 1, h => by
    have h1 := SU_le (c := c) fun j hj => h j (by omega)
    have h2 := h c (by omega)
    rw [SU_succ, SU_succ]
    omega
theorem SU_mul {f : Nat → Int} {w : Int} : ∀ {c : Nat}, w * SU f c = SU (fun j => w * f j) c
  | 0 => Int.mul_zero _
  | c + 1 => by rw [SU_succ, SU_succ, Int.mul_add, SU_mul]
theorem SU_add {f g : Nat → Int} : ∀ {c : Nat}, SU (fun j => f j + g j) c = SU f c + SU g c
  | 0 => rfl
  | c + 1 => by
    rw [SU_succ, SU_succ, SU_succ, SU_add]
    omega
theorem SU_0 : ∀ {c : Nat}, SU (fun _ => 0) c = 0
  | 0 => rfl
  | c + 1 => by rw [SU_succ, SU_0]; rfl
theorem SU_swap {f : Int → Nat → Int} {c : Nat} : ∀ (ws : List Int), (ws.map fun w => SU (f w) c).sum = SU (fun j => (ws.map fun w => f w j).sum) c
  | [] => SU_0.symm
  | w :: ws => by
    simp only [List.map_cons, List.sum_cons]
    rw [SU_swap ws, ← SU_add]
theorem SU_cons {f : Nat → Int} : ∀ {c : Nat}, SU f (c + 1) = f 0 + SU (fun j => f (j + 1)) c
  | 0 => by rw [SU_succ]; show (0 : Int) + f 0 = f 0 + 0; omega
  | c + 1 => by
    rw [SU_succ, SU_cons, SU_succ]
    omega
theorem dot_SU : ∀ {c : Nat} {r p : List Int}, r.length = c → p.length = c → dot r p = SU (fun j => r.getD j 0 * p.getD j 0) c
  | 0, [], _, _, _ => rfl
  | 0, _ :: _, _, h, _ => nomatch h
  | c + 1, [], _, h, _ => nomatch h
  | c + 1, _ :: _, [], _, h => nomatch h
  | c + 1, x :: r, y :: p, h1, h2 => by
    rw [dot_cons, SU_cons, dot_SU (c := c) (by simpa using h1) (by simpa using h2)]
    rfl
/-! ### the farthest pasts -/
def pv1 (sg : Int) (ts st G r : List Int) (w : Int) (j : Nat) : Int := if (j : Int) ∈ G then st.getD j 0 else if 0 < sg * w * r.getD j 0 then ts.getD j 0 else 0
def post (sg : Int) (ts st G r : List Int) (c : Nat) (w : Int) : List Int := (List.range c).map (pv1 sg ts st G r w)
def farP (sg : Int) (ts st G r : List Int) (c : Nat) (ws : List Int) : List (List Int) := (ws.map (post sg ts st G r c)).reverse
def ev (sg : Int) (ts st G r : List Int) (j : Nat) (w : Int) : Int := w * r.getD j 0 * pv1 sg ts st G r w j
def spanL (sg : Int) (ts st G r : List Int) (c : Nat) (ws : List Int) : Int := SU (fun j => (ws.map (ev sg ts st G r j)).sum) c
theorem post_len {sg : Int} {ts st G r : List Int} {c : Nat} {w : Int} : (post sg ts st G r c w).length = c := by simp [post]
theorem post_get {sg : Int} {ts st G r : List Int} {c : Nat} {w : Int} {j : Nat} (h : j < c) : (post sg ts st G r c w).getD j 0 = pv1 sg ts st G r w j := by
  unfold post
  rw [List.getD_eq_getElem?_getD, List.getElem?_map, List.getElem?_range h]
  rfl
theorem far_len {sg : Int} {ts st G r ws : List Int} {c : Nat} : (farP sg ts st G r c ws).length = ws.length := by simp [farP]
theorem far_row {sg : Int} {ts st G r ws : List Int} {c : Nat} : ∀ p ∈ farP sg ts st G r c ws, ∃ w ∈ ws, p = post sg ts st G r c w := fun p hp => by
  unfold farP at hp
  obtain ⟨w, hw, e⟩ := List.mem_map.mp (List.mem_reverse.mp hp)
  exact ⟨w, hw, e.symm⟩
theorem wdot {r p : List Int} {c : Nat} {w : Int} (h1 : r.length = c) (h2 : p.length = c) : w * dot r p = SU (fun j => w * r.getD j 0 * p.getD j 0) c := by
  rw [dot_SU h1 h2, SU_mul]
  exact SU_congr fun j _ => by rw [Int.mul_assoc]
theorem wpost {sg : Int} {ts st G r : List Int} {c : Nat} {w : Int} (h1 : r.length = c) : w * dot r (post sg ts st G r c w) = SU (fun j => ev sg ts st G r j w) c := by
  rw [wdot h1 post_len]
  exact SU_congr fun j hj => by rw [post_get hj]; rfl
theorem lawP_map {r : List Int} {f : Int → List Int} : ∀ (ws : List Int), lawP ws (ws.map f) r = (ws.map fun w => w * dot r (f w)).sum
  | [] => rfl
  | w :: ws => by rw [List.map_cons, lawP_cons, lawP_map ws, List.map_cons, List.sum_cons]
theorem span_eq {sg : Int} {ts st G r ws : List Int} {c : Nat} (h1 : r.length = c) : pullR ws (farP sg ts st G r c ws) c r = spanL sg ts st G r c ws := by
  rw [pullR_law fun p hp => by obtain ⟨w, _, rfl⟩ := far_row p hp; exact post_len]
  unfold farP
  rw [List.reverse_reverse, lawP_map]
  have e : (ws.map fun w => w * dot r (post sg ts st G r c w)) = ws.map fun w => SU (fun j => ev sg ts st G r j w) c := List.map_congr_left fun w _ => wpost h1
  rw [e, SU_swap]
  rfl
/-- a row in which a group stands so -/
structure RowIn (ts st G : List Int) (c : Nat) (p : List Int) : Prop where
  len : p.length = c
  ok : ∀ j, j < c → if (j : Int) ∈ G then p.getD j 0 = st.getD j 0 else 0 ≤ p.getD j 0 ∧ p.getD j 0 ≤ ts.getD j 0
theorem mul_le0 {x y t : Int} (h0 : 0 ≤ y) (h1 : y ≤ t) : (if 0 < -x then x * t else 0) ≤ x * y ∧ x * y ≤ (if 0 < x then x * t else 0) := by
  have a := Int.mul_nonneg (a := t - y) (b := if 0 < x then x else -x) (by omega) (by split <;> omega)
  have b := Int.mul_nonneg (a := y) (b := if 0 < x then x else -x) h0 (by split <;> omega)
  by_cases c : 0 < x
  · rw [if_pos c] at a b
    rw [if_neg (by omega), if_pos c]
    rw [Int.sub_mul, Int.mul_comm t x, Int.mul_comm y x] at a
    rw [Int.mul_comm y x] at b
    omega
  · rw [if_neg c] at a b
    rw [if_neg c]
    rw [Int.mul_neg, Int.sub_mul, Int.mul_comm t x, Int.mul_comm y x] at a
    rw [Int.mul_neg, Int.mul_comm y x] at b
    split
    · omega
    · have : x = 0 := by omega
      subst this
      omega
theorem ev_le {ts st G r : List Int} {w y : Int} {j : Nat} (h : if (j : Int) ∈ G then y = st.getD j 0 else 0 ≤ y ∧ y ≤ ts.getD j 0) : ev (-1) ts st G r j w ≤ w * r.getD j 0 * y ∧ w * r.getD j 0 * y ≤ ev 1 ts st G r j w := by
  unfold ev pv1
  by_cases c : (j : Int) ∈ G
  · rw [if_pos c] at h
    rw [if_pos c, if_pos c, h]
    exact ⟨Int.le_refl _, Int.le_refl _⟩
  · rw [if_neg c] at h
    rw [if_neg c, if_neg c]
    have m := mul_le0 (x := w * r.getD j 0) h.1 h.2
    have e1 : -1 * w * r.getD j 0 = -(w * r.getD j 0) := by rw [Int.mul_assoc, Int.neg_mul, Int.one_mul]
    have e2 : 1 * w * r.getD j 0 = w * r.getD j 0 := by rw [Int.one_mul]
    rw [e1, e2]
    constructor
    · by_cases z : 0 < -(w * r.getD j 0)
      · rw [if_pos z] at m ⊢
        exact m.1
      · rw [if_neg z] at m ⊢
        rw [Int.mul_zero]
        exact m.1
    · by_cases z : 0 < w * r.getD j 0
      · rw [if_pos z]
        have := m.2
        rw [if_pos z] at this
        exact this
      · rw [if_neg z, Int.mul_zero]
        have := m.2
        rw [if_neg z] at this
        exact this
theorem wrow_le {ts st G r p : List Int} {c : Nat} {w : Int} (h1 : r.length = c) (h : RowIn ts st G c p) : w * dot r (post (-1) ts st G r c w) ≤ w * dot r p ∧ w * dot r p ≤ w * dot r (post 1 ts st G r c w) := by
  rw [wpost h1, wpost h1, wdot h1 h.len]
  exact ⟨SU_le fun j hj => (ev_le (h.ok j hj)).1, SU_le fun j hj => (ev_le (h.ok j hj)).2⟩
theorem lawP_le {ts st G r : List Int} {c : Nat} (h1 : r.length = c) : ∀ {ws : List Int} {ps : List (List Int)}, ps.length = ws.length → (∀ p ∈ ps, RowIn ts st G c p) → lawP ws (ws.map (post (-1) ts st G r c)) r ≤ lawP ws ps r ∧ lawP ws ps r ≤ lawP ws (ws.map (post 1 ts st G r c)) r
  | [], [], _, _ => ⟨Int.le_refl _, Int.le_refl _⟩
  | [], _ :: _, h, _ => nomatch h
  | _ :: _, [], h, _ => nomatch h
  | w :: ws, p :: ps, h, hp => by
    have ih := lawP_le h1 (ws := ws) (ps := ps) (by simpa using h) fun q hq => hp q (List.mem_cons_of_mem _ hq)
    have hw := wrow_le (w := w) h1 (hp p (by simp))
    simp only [List.map_cons, lawP_cons]
    omega
theorem pull_le {ts st G r ws : List Int} {c : Nat} {past : List (List Int)} (h1 : r.length = c) (hl : past.length = ws.length) (hp : ∀ p ∈ past, RowIn ts st G c p) : spanL (-1) ts st G r c ws ≤ pullR ws past c r ∧ pullR ws past c r ≤ spanL 1 ts st G r c ws := by
  have z := lawP_le h1 (ws := ws) (ps := past.reverse) (by simpa using hl) fun p hq => hp p (List.mem_reverse.mp hq)
  have e : ∀ sg, spanL sg ts st G r c ws = lawP ws (ws.map (post sg ts st G r c)) r := fun sg => by
    rw [← span_eq h1, pullR_law fun p hp => by obtain ⟨w, _, rfl⟩ := far_row p hp; exact post_len]
    unfold farP
    rw [List.reverse_reverse]
  rw [e, e, pullR_law fun p hq => (hp p hq).len]
  exact z
theorem post_in {sg : Int} {ts st G r : List Int} {c : Nat} {w : Int} (ht : ∀ j, j < c → 0 ≤ ts.getD j 0) : RowIn ts st G c (post sg ts st G r c w) :=
  ⟨post_len, fun j hj => by
    rw [post_get hj]
    unfold pv1
    have := ht j hj
    by_cases c : (j : Int) ∈ G
    · rw [if_pos c, if_pos c]
    · rw [if_neg c, if_neg c]
      split <;> omega⟩

end
end Sw

set_option maxHeartbeats 2000000
namespace Sw
open PySem PySem.Spec PyProof.Rows L2
section
variable {P : Program} {w : World} {K : PySem.W.Frag} {mg : Str → Option Value} {base : Heap}
theorem rises_snoc {r : List Int} {z : Int} (h : rises r) (ne : r ≠ []) (hz : r.getLast ne < z) : rises (r ++ [z]) := fun i x y h1 h2 => by
  have hl : r.length ≠ 0 := fun e => ne (List.eq_nil_of_length_eq_zero e)
  by_cases c : i + 1 < r.length
  · rw [List.getElem?_append_left (by omega)] at h1
    rw [List.getElem?_append_left c] at h2
    exact h i x y h1 h2
  · by_cases e : i + 1 = r.length
    · rw [List.getElem?_append_left (by omega)] at h1
      rw [List.getElem?_append_right (by omega), e, Nat.sub_self] at h2
      have hy : z = y := by simpa using h2
      have hx : r.getLast ne = x := by
        rw [List.getLast_eq_getElem]
        have e2 : i = r.length - 1 := by omega
        subst e2
        rw [List.getElem?_eq_getElem (by omega)] at h1
        exact Option.some.inj h1
      omega
    · rw [List.getElem?_eq_none (by simp; omega)] at h2
      cases h2
theorem D.rowII {bs : List Addr} {H : Hp} {w k : Nat} {p : Addr} {rows : List (List Int)} (h : D bs H w k (.ref p) (dII rows)) : ∃ xs : List V, H p = some (.lst xs) ∧ p ∉ bs ∧ xs.length = rows.length ∧ xs.length ≤ w ∧ ∀ (i : Nat) (r : List Int), rows[i]? = some r → ∃ a, xs[i]? = some (.ref a) ∧ H a = some (.lst (r.map V.int)) ∧ a ∉ bs ∧ r.length ≤ w := by
  cases h with
  | @lst _ _ xs _ h n l t =>
    have len := DA.len t
    rw [List.length_map] at len
    refine ⟨xs, h, n, len, l, fun i r hr => ?_⟩
    have li : i < xs.length := by
      have := (List.getElem?_eq_some_iff.mp hr).1
      omega
    have gx : xs[i]? = some xs[i] := by simp
    obtain ⟨dd, hd, hx⟩ := t.get gx
    rw [List.getElem?_map, hr] at hd
    cases hd
    cases hx' : xs[i] with
    | ref a =>
      rw [hx'] at hx gx
      cases hx with
      | lst h1 n1 l1 t1 =>
        have e := DA.ints t1
        subst e
        exact ⟨a, gx, h1, n1, by simpa using l1⟩
    | _ => rw [hx'] at hx; cases hx
def sp_lsteps : Sp := fun vs H Q _ => ∃ (b : Addr) (m near : Int) (n : Nat), vs = [.ref b, .int m, .int near] ∧ Bx H b n ∧ n ≤ 800000 ∧ 1 ≤ m ∧ m ≤ 4 ∧ -1000 ≤ near ∧ near ≤ 1000 ∧
  ∀ (t : Addr) (ns : List Int) (H' : Hp), H t = none → Kp [b] H H' → H' t = some (.lst (ns.map V.int)) → Rung0 ns → (ns.length : Int) = m → Bd 2000 ns → Bx H' b (n + 5) → Q (.ref t) H'
theorem ok_lsteps (T : Tx K mg) : FnOk P w K mg base CX0 2 (He.fAd K ("_law_steps", none)) T.fd__law_steps p__law_steps sp_lsteps := by
  have G__law_take := ok_take (P := P) (w := w) (base := base) T
  refine T.F__law_steps.ok sc__law_steps (fun vs H Q E h => ?_) (fun cdv A outer s H vs Q E hr h => ?_)
  · obtain ⟨_, _, _, _, rfl, _⟩ := h
    rfl
  · obtain ⟨b, m, near, n, rfl, hB, hn, m1, m4, e1, e2, q⟩ := h
    refine ⟨_, PSs.nox (pss_cons (ps_set (i := 3) sc__law_steps.nd rfl (by first | exact Or.inl rfl | exact Or.inr rfl) (pe_lst (pa_cons (pe_op op_sub (pe_op op_add (pv 2) (pe_call G__law_take (hr.mono (by first | decide | omega)) rfl T.g__law_take T.F__law_take.kp T.bd__law_take .nil pass0 (pa_cons (pv 0) (pa_cons pe_int pa_nil)))) pe_int) pa_nil)))
      (pss_cons (ps_for PassesOwn.never rfl (pi_range1 (by rfl) T.b_range (pa_cons (pe_op op_sub (pv 1) pe_int) pa_nil)) (pg_name (i := 4) sc__law_steps.nd rfl (by first | exact Or.inl rfl | exact Or.inr rfl))
      (pss_one (ps_expr (pe_bm PySem.F.plainAttrs_list PySem.F.slot_list_append PySem.F.type_list_append mt_append (pv 3) (pa_cons (pe_op op_add (pe_op op_add (pe_ix ix_list (pv 3) (pe_un un_neg pe_int) (fun _ _ => rfl)) pe_int) (pe_call G__law_take (hr.mono (by first | decide | omega)) rfl T.g__law_take T.F__law_take.kp T.bd__law_take .nil pass0 (pa_cons (pv 0) (pa_cons pe_int pa_nil)))) pa_nil)))))
      (pss_one (ps_ret (pv 3))))), ?_⟩
    refine ⟨_, rfl, _, rfl, b, 9, n, rfl, hB, by decide, by decide, by omega, fun x H1 x0 x1 hB1 k1 => ⟨_, _, rfl, rfl, _, _, rfl, rfl, by show 1 ≤ sizeLine; decide, fun l hl => ?_⟩⟩
    have nlb := hB1.off hl
    have fl : H l = none := k1.free hl (by simpa using nlb)
    refine ⟨_, rfl, _, _, rfl, rfl, _, rfl, by omega, by omega, for_range (n := (m - 1).toNat) (fun i σ H3 => ∃ (o4 : Option V) (ns : List Int), σ = [some (.ref b), some (.int m), some (.int near), some (.ref l), o4] ∧ H3 l = some (.lst (ns.map V.int)) ∧ ns.length = 1 + i ∧ rises ns ∧ Bd (1010 + 10 * (i : Int)) ns ∧ Bx H3 b (n + 1 + i) ∧ Kp [b] H H3) ?_ ?_ ?_⟩
    · refine ⟨_, [near + x - 4], rfl, upd_same, rfl, rises_one _, fun y hy => ?_, hB1.keep (Kp.rfl'.new (bs := []) hl) (by simp), k1.new hl⟩
      rw [List.mem_singleton.mp hy]
      omega
    · rintro i σ H3 hi' ⟨o4, ns, rfl, h3, l3, up, bd, hB3, k3⟩
      refine gn ?_
      have ne : ns ≠ [] := fun z => by
        rw [z] at l3
        simp at l3
        omega
      have bl3 := bd _ (List.getLast_mem ne)
      refine ⟨_, rfl, .inl ⟨rfl, _, SqL.of h3⟩, _, rfl, 1, rfl, l, _, _, _, rfl, rfl, SqL.of h3, atI_end ne, _, _, rfl, rfl, ?_⟩
      refine ⟨_, rfl, b, 5, _, rfl, hB3, by decide, by decide, by omega, fun y H4 y0 y1 hB4 k4 => ⟨_, _, rfl, rfl, ?_⟩⟩
      have h4 := k4 _ _ h3 (by simpa using nlb)
      refine ⟨l, _, _, rfl, rfl, h4, by rw [List.length_map]; exact small1000 (by omega), _, ns ++ [ns.getLast ne + 1 + y], rfl, by rw [upd_same, ints_snoc], by simp [l3]; omega, rises_snoc up ne (by omega), fun z hz => ?_, (hB4.keep (Kp.rfl'.put (bs := [l]) (by simp)) (by simpa using nlb.symm)).up (by omega), (k3.trans k4).own fl⟩
      rcases List.mem_append.mp hz with e | e
      · have := bd z e
        omega
      · rw [List.mem_singleton.mp e]
        omega
    · rintro σ H3 ⟨o4, ns, rfl, h3, l3, up, bd, hB3, k3⟩
      refine ⟨_, rfl, q l ns H3 fl k3 h3 ⟨by omega, by omega, up⟩ (by omega) (fun z hz => ?_) (hB3.up (by omega))⟩
      have := bd z hz
      omega
def sp_lmem : Sp := fun vs H Q _ => ∃ (b : Addr) (m : Int) (n : Nat), vs = [.ref b, .int m] ∧ Bx H b n ∧ n ≤ 800000 ∧ 1 ≤ m ∧ m ≤ 5 ∧
  ∀ (t : Addr) (ws : List Int) (H' : Hp), H t = none → Kp [b] H H' → H' t = some (.lst (ws.map V.int)) → WtOk 9 ws → Bx H' b (n + 6) → Q (.ref t) H'
theorem ok_lmem (T : Tx K mg) : FnOk P w K mg base CX0 2 (He.fAd K ("_law_memory", none)) T.fd__law_memory p__law_memory sp_lmem := by
  have G__law_take := ok_take (P := P) (w := w) (base := base) T
  refine T.F__law_memory.ok sc__law_memory (fun vs H Q E h => ?_) (fun cdv A outer s H vs Q E hr h => ?_)
  · obtain ⟨_, _, _, rfl, _⟩ := h
    rfl
  · obtain ⟨b, m, n, rfl, hB, hn, m1, m5, q⟩ := h
    refine ⟨_, PSs.nox (pss_cons (ps_setLc (i := 2) (own := [("_law_turn", 3)]) (g := (gName 3)) (tt := tYes) rfl sc__law_memory.nd rfl rfl (sw_true rfl rfl rfl (by decide +kernel)) (pi_range1 (by rfl) T.b_range (pa_cons (pe_op op_sub (pv 1) pe_int) pa_nil)) (blkOk_by (own := [("_law_turn", 3)]) (N := n__law_memory) (sc := defScope s__law_memory) (by decide +kernel)) (fun _ _ _ _ _ => (pg_name (i := 3) sc__law_memory.nd rfl (by first | exact Or.inl rfl | exact Or.inr rfl))) (fun _ _ _ _ _ => pts_nil) (fun _ _ _ _ _ => (pe_ix (kIx (K := K) rfl) (pe_lst (pa_cons pe_int (pa_cons pe_int (pa_cons pe_int (pa_cons (pe_un un_neg pe_int) (pa_cons pe_int (pa_cons (pe_un un_neg pe_int) pa_nil))))))) (pe_call G__law_take (hr.mono (by first | decide | omega)) rfl T.g__law_take T.F__law_take.kp T.bd__law_take .nil pass0 (pa_cons (pv 0) (pa_cons pe_int pa_nil))) (fun _ _ => rfl))))
      (pss_one (ps_ret (pe_op op_cat (pv 2) (pe_lst (pa_cons (pe_ix ix_list (pe_lst (pa_cons pe_int (pa_cons pe_int (pa_cons (pe_un un_neg pe_int) (pa_cons pe_int (pa_cons pe_int (pa_cons (pe_un un_neg pe_int) pa_nil))))))) (pe_call G__law_take (hr.mono (by first | decide | omega)) rfl T.g__law_take T.F__law_take.kp T.bd__law_take .nil pass0 (pa_cons (pv 0) (pa_cons pe_int pa_nil))) (fun _ _ => rfl)) pa_nil)))))), ?_⟩
    refine ⟨_, rfl, _, _, rfl, rfl, _, rfl, by omega, by omega, fun d hd => lc_range (n := (m - 1).toNat) (fun j H1 => ∃ ws : List Int, H1 d = some (.lst (ws.map V.int)) ∧ ws.length = j ∧ Bd 9 ws ∧ Bx H1 b (n + j) ∧ Kp [b] H H1) ?_ ?_ ?_⟩
    · exact ⟨[], upd_same, rfl, by simp [Bd], hB.keep (Kp.rfl'.new (bs := []) hd) (by simp), Kp.rfl'.new hd⟩
    · rintro j H1 hj ⟨ws, h1, l1, b1, hB1, k1⟩
      have ndb := hB.off hd
      refine ⟨rfl, yesT ⟨1, rfl, 3, rfl, by show 6 ≤ sizeLine; decide, fun l hl => ?_⟩⟩
      have nlb := hB1.off hl
      have kl : ∀ cs v, Kp cs H1 (upd H1 l v) := fun cs v => Kp.rfl'.new hl
      refine ⟨_, rfl, b, 6, _, rfl, hB1.keep (kl [] _) (by simp), by decide, by decide, by omega, fun r H2 r0 r1 hB2 k2 => ?_⟩
      obtain ⟨v, hv, v0, v1⟩ : ∃ v : Int, atI [V.int 0, V.int 1, V.int 1, V.int (-1), V.int 2, V.int (-3)] r = some (.int v) ∧ -9 ≤ v ∧ v ≤ 9 := by
        rcases (by omega : r = 0 ∨ r = 1 ∨ r = 2 ∨ r = 3 ∨ r = 4 ∨ r = 5) with z | z | z | z | z | z <;> subst z
        · exact ⟨0, rfl, by decide, by decide⟩
        · exact ⟨1, rfl, by decide, by decide⟩
        · exact ⟨1, rfl, by decide, by decide⟩
        · exact ⟨-1, rfl, by decide, by decide⟩
        · exact ⟨2, rfl, by decide, by decide⟩
        · exact ⟨-3, rfl, by decide, by decide⟩
      refine ⟨l, _, _, _, rfl, rfl, SqL.of (k2 _ _ upd_same (by simpa using nlb)), hv, ?_⟩
      refine ⟨_, k2 _ _ (kl [] _ _ _ h1 (by simp)) (by simpa using ndb), by rw [List.length_map]; exact small1000 (by omega), ws ++ [v], by rw [upd_same, ints_snoc], by simp [l1], fun z hz => ?_, (hB2.keep (Kp.rfl'.put (bs := [d]) (by simp)) (by simpa using ndb.symm)).up (by omega), ((k1.trans (kl _ _)).trans k2).own hd⟩
      rcases List.mem_append.mp hz with e | e
      · exact b1 z e
      · rw [List.mem_singleton.mp e]
        omega
    · rintro H1 ⟨ws, h1, l1, b1, hB1, k1⟩
      have ndb := hB.off hd
      refine ⟨_, rfl, 1, rfl, 9, rfl, by show 6 ≤ sizeLine; decide, fun l hl => ?_⟩
      have nlb := hB1.off hl
      have kl : ∀ cs v, Kp cs H1 (upd H1 l v) := fun cs v => Kp.rfl'.new hl
      refine ⟨_, rfl, b, 6, _, rfl, hB1.keep (kl [] _) (by simp), by decide, by decide, by omega, fun r H2 r0 r1 hB2 k2 => ?_⟩
      obtain ⟨v, hv, v0, v1, v2⟩ : ∃ v : Int, atI [V.int 1, V.int 1, V.int (-1), V.int 2, V.int 9, V.int (-9)] r = some (.int v) ∧ -9 ≤ v ∧ v ≤ 9 ∧ v ≠ 0 := by
        rcases (by omega : r = 0 ∨ r = 1 ∨ r = 2 ∨ r = 3 ∨ r = 4 ∨ r = 5) with z | z | z | z | z | z <;> subst z
        · exact ⟨1, rfl, by decide, by decide, by decide⟩
        · exact ⟨1, rfl, by decide, by decide, by decide⟩
        · exact ⟨-1, rfl, by decide, by decide, by decide⟩
        · exact ⟨2, rfl, by decide, by decide, by decide⟩
        · exact ⟨9, rfl, by decide, by decide, by decide⟩
        · exact ⟨-9, rfl, by decide, by decide, by decide⟩
      refine ⟨l, _, _, _, rfl, rfl, SqL.of (k2 _ _ upd_same (by simpa using nlb)), hv, by show 1 ≤ sizeLine; decide, fun l2 hl2 => ?_⟩
      have k02 : Kp [b] H H2 := (k1.trans (kl _ _)).trans k2
      have h2 := k2 _ _ (kl [] _ _ _ h1 (by simp)) (by simpa using ndb)
      have k3 : ∀ cs, Kp cs H2 (upd H2 l2 (.lst [V.int v])) := fun cs => Kp.rfl'.new hl2
      refine ⟨d, l2, _, _, rfl, rfl, k3 [] _ _ h2 (by simp), upd_same, by rw [List.length_map, sizeLine_eq]; simp; omega, fun p hp => ?_⟩
      have k4 : ∀ v, Kp [] H2 (upd (upd H2 l2 (.lst [V.int v])) p (.lst (ws.map V.int ++ [V.int v]))) := fun v => by
        by_cases z : H2 p = none
        · exact Kp.rfl'.own hl2 |>.trans (Kp.rfl'.own (by
            by_cases y : p = l2
            · subst y
              rw [upd_same] at hp
              cases hp
            · rw [upd_ne y]
              exact z))
        · exact absurd ((Kp.rfl'.new hl2 : Kp [] H2 _).free hp (by simp)) z
      have fp : H2 p = none := (k3 []).free hp (by simp)
      have hB3 := hB2.keep (k4 v) (by simp)
      refine q p (ws ++ [v]) _ (k02.free fp (by simpa using hB2.off fp)) (k02.trans ((k4 v).sub (by simp))) (by rw [upd_same, ints_snoc]) ⟨by simp, by simp; omega, fun z hz => ?_, v, by simp, v2⟩ (hB3.up (by omega))
      rcases List.mem_append.mp hz with e | e
      · exact b1 z e
      · rw [List.mem_singleton.mp e]
        exact ⟨v0, v1⟩
structure StIn (steps : List (List Int)) (st : List Int) : Prop where
  len : st.length = steps.length
  bd : ∀ x ∈ st, 0 ≤ x ∧ x ≤ 4
  top : ∀ (j : Nat) (x : Int) (r : List Int), st[j]? = some x → steps[j]? = some r → x ≤ r.length
def sp_lstand : Sp := fun vs H Q _ => ∃ (b sa : Addr) (steps : List (List Int)) (n : Nat), vs = [.ref b, .ref sa] ∧ Bx H b n ∧ n ≤ 800000 ∧ D [b] H 12 2 (.ref sa) (dII steps) ∧ steps.length ≤ 12 ∧ (∀ r ∈ steps, r.length ≤ 4) ∧
  ∀ (p : Addr) (st : List Int) (H' : Hp), H p = none → Kp [b] H H' → H' p = some (.tup (st.map V.int)) → StIn steps st → Bx H' b (n + 12) → Q (.ref p) H'
theorem ok_lstand (T : Tx K mg) : FnOk P w K mg base CX0 2 (He.fAd K ("_law_standing", none)) T.fd__law_standing p__law_standing sp_lstand := by
  have G__law_take := ok_take (P := P) (w := w) (base := base) T
  refine T.F__law_standing.ok sc__law_standing (fun vs H Q E h => ?_) (fun cdv A outer s H vs Q E hr h => ?_)
  · obtain ⟨_, _, _, _, rfl, _⟩ := h
    rfl
  · obtain ⟨b, sa, steps, n, rfl, hB, hn, dS, c12, s4, q⟩ := h
    refine ⟨_, PSs.nox (pss_one (ps_ret (pe_callTy call_tuple_of (by rfl) T.b_tuple (by decide +kernel) (pa_cons (pe_lc (own := [("_law_row", 2)]) (g := (gName 2)) (tt := tYes) rfl sc__law_standing.nd (pi_list (pv 1)) (blkOk_by (own := [("_law_row", 2)]) (N := n__law_standing) (sc := defScope s__law_standing) (by decide +kernel)) (fun _ _ _ _ _ => (pg_name (i := 2) sc__law_standing.nd rfl (by first | exact Or.inl rfl | exact Or.inr rfl))) (fun _ _ _ _ _ => pts_nil) (fun _ _ _ _ _ => (pe_call G__law_take (hr.mono (by first | decide | omega)) rfl T.g__law_take T.F__law_take.kp T.bd__law_take .nil pass0 (pa_cons (pv 0) (pa_cons (pe_op op_add (pe_callB (kLen (K := K) rfl) (by rfl) T.b_len (by decide +kernel) (pa_cons (pv 2) pa_nil)) pe_int) pa_nil))))) pa_nil)))), ?_⟩
    obtain ⟨xs, hsa, nsa, lx, _, al⟩ := dS.rowII
    refine ⟨_, rfl, sa, rfl, ⟨_, SqL.of hsa⟩, fun p hp => lc_list (K := K) (a := sa) (xs := xs) (fun j H1 => ∃ st : List Int, H1 p = some (.lst (st.map V.int)) ∧ st.length = j ∧ (∀ x ∈ st, 0 ≤ x ∧ x ≤ 4) ∧ (∀ (j : Nat) (x : Int) (r : List Int), st[j]? = some x → steps[j]? = some r → x ≤ r.length) ∧ Bx H1 b (n + j) ∧ Kp [b] H H1) ?_ ?_ ?_ ?_⟩
    · exact ⟨[], upd_same, rfl, by simp, by simp, hB.keep (Kp.rfl'.new (bs := []) hp) (by simp), Kp.rfl'.new hp⟩
    · rintro j H1 _ ⟨_, _, _, _, _, _, k1⟩
      exact SqL.of (k1 _ _ hsa nsa)
    · rintro j y H1 hj ⟨st, h1, l1, b1, t1, hB1, k1⟩
      have npb := hB.off hp
      have hjl := (List.getElem?_eq_some_iff.mp hj).1
      obtain ⟨r, er⟩ : ∃ r, steps[j]? = some r := ⟨steps[j]'(by omega), by simp⟩
      obtain ⟨a, gx, ha, na, _⟩ := al j _ er
      rw [gx] at hj
      cases hj
      have r4 := s4 r (List.mem_of_getElem? er)
      refine ⟨rfl, yesT ⟨_, rfl, _, rfl, _, r.length, rfl, .inl ⟨_, SqL.of (k1 _ _ ha na), by simp⟩, _, _, rfl, rfl, b, _, _, rfl, hB1, by omega, by omega, by omega, fun x H2 x0 x1 hB2 k2 => ?_⟩⟩
      have h2 := k2 _ _ h1 (by simpa using npb)
      refine ⟨_, h2, by rw [List.length_map]; exact small1000 (by omega), st ++ [x], by rw [upd_same, ints_snoc], by simp [l1], fun z hz => ?_, fun i z r' e1 e2 => ?_, (hB2.keep (Kp.rfl'.put (bs := [p]) (by simp)) (by simpa using npb.symm)).up (by omega), (k1.trans k2).own hp⟩
      · rcases List.mem_append.mp hz with e | e
        · exact b1 z e
        · rw [List.mem_singleton.mp e]
          omega
      · by_cases c : i < st.length
        · rw [List.getElem?_append_left c] at e1
          exact t1 i z r' e1 e2
        · have li : i = st.length := by
            have := (List.getElem?_eq_some_iff.mp e1).1
            simp at this
            omega
          rw [li, List.getElem?_append_right (Nat.le_refl _), Nat.sub_self] at e1
          cases e1
          rw [li, l1, er] at e2
          cases e2
          omega
    · rintro H1 ⟨st, h1, l1, b1, t1, hB1, k1⟩
      refine ⟨p, _, rfl, .inl ⟨SqL.of h1, fun l hl => ?_⟩⟩
      exact q l st _ (k1.free hl (by simpa using hB1.off hl)) (k1.new hl) upd_same ⟨by omega, b1, t1⟩ ((hB1.keep (Kp.rfl'.new (bs := []) hl) (by simp)).up (by omega))

end
end Sw

set_option maxHeartbeats 2000000
namespace Sw
open PySem PySem.Spec PyProof.Rows L2
section
variable {P : Program} {w : World} {K : PySem.W.Frag} {mg : Str → Option Value} {base : Heap}
/-! ### steps reached, persons held -/
def cnt (r : List Int) (p : Int) : Int := ((r.filter fun x => decide (x ≤ p)).length : Int)
def sp_reached : Sp := fun vs H Q _ => ∃ (a : Addr) (r : List Int) (p : Int), vs = [.ref a, .int p] ∧ H a = some (.tup (r.map V.int)) ∧ r.length ≤ 900 ∧ ∀ H', Kp [] H H' → Q (.int (cnt r p)) H'
theorem ok_reached (T : Tx K mg) : FnOk P w K mg base CX0 1 (He.fAd K ("reached", none)) T.fd_reached p_reached sp_reached := by
  refine T.F_reached.ok sc_reached (fun vs H Q E h => ?_) (fun cdv A outer s H vs Q E hr h => ?_)
  · obtain ⟨_, _, _, rfl, _⟩ := h
    rfl
  · obtain ⟨a, r, p, rfl, ha, l9, q⟩ := h
    refine ⟨_, PSs.nox (pss_one (ps_ret (pe_callB call_len (by rfl) T.b_len (by decide +kernel) (pa_cons (pe_lc (own := [("step", 2)]) (g := (gName 2)) rfl sc_reached.nd (pi_tup (pv 0)) (blkOk_by (own := [("step", 2)]) (N := n_reached) (sc := defScope s_reached) (by decide +kernel)) (fun _ _ _ _ _ => (pg_name (i := 2) sc_reached.nd rfl (by first | exact Or.inl rfl | exact Or.inr rfl))) (fun _ _ _ _ _ => pts_one (pt_cmpR op_le (pv 2) (pv 1) (nomark _))) (fun _ _ _ _ _ => (pv 2))) pa_nil)))), ?_⟩
    refine ⟨_, rfl, a, rfl, ⟨_, SqT.of ha⟩, fun d hd => lc_tup (K := K) (a := a) (xs := r.map V.int) (fun j H1 => H1 d = some (.lst (((r.take j).filter fun x => decide (x ≤ p)).map V.int)) ∧ Kp [] H H1) ?_ ?_ ?_ ?_⟩
    · exact ⟨by rw [upd_same]; rfl, Kp.rfl'.new hd⟩
    · rintro j H1 _ ⟨_, k1⟩
      exact SqT.of (k1 _ _ ha (by simp))
    · rintro j y H1 hj ⟨h1, k1⟩
      rw [List.getElem?_map] at hj
      obtain ⟨z, hz, rfl⟩ := Option.map_eq_some_iff.mp hj
      have e : r.take (j + 1) = r.take j ++ [z] := by rw [List.take_add_one, hz]; rfl
      refine ⟨rfl, _, rfl, _, rfl, _, _, rfl, rfl, _, rfl, ?_⟩
      by_cases c : z ≤ p
      · refine iteC (by simp [c]) ⟨_, rfl, _, h1, ?_, ?_, k1.own hd⟩
        · rw [List.length_map]
          exact small1000 (Nat.le_trans (List.length_filter_le ..) (by rw [List.length_take]; omega))
        · rw [upd_same, e, List.filter_append]
          simp [c]
      · refine iteN (by simp [c]) ⟨?_, k1⟩
        rw [h1, e, List.filter_append]
        simp [c]
    · rintro H1 ⟨h1, k1⟩
      rw [List.length_map, List.take_length] at h1
      exact ⟨_, _, rfl, .inl ⟨_, SqL.of h1, (List.length_map ..).symm⟩, q _ k1⟩
/-! who is held: pairs of a person and its posture -/
abbrev kvI (fx : List (Int × Int)) : List (Key × V) := fx.map fun p => (.inl p.1, .int p.2)
def lk (fx : List (Int × Int)) (i : Int) : Option Int := (fx.find? fun p => decide (p.1 = i)).map (·.2)
theorem valV_kvI (i : Int) : ∀ fx : List (Int × Int), valV (kvI fx) (.inl i) = (lk fx i).map V.int
  | [] => rfl
  | p :: fx => by
    have ih := valV_kvI i fx
    unfold valV lk at ih ⊢
    by_cases c : p.1 = i
    · simp [c]
    · have c' : ¬ (Sum.inl p.1 : Key) = .inl i := fun z => c (Sum.inl.inj z)
      simpa [kvI, List.find?_cons, c] using ih
def hold (fx : List (Int × Int)) (st : List Int) : List Int := st.mapIdx fun i x => (lk fx (i : Nat)).getD x
theorem hold_len {fx : List (Int × Int)} {st : List Int} : (hold fx st).length = st.length := by simp [hold]
theorem hold_at {fx : List (Int × Int)} {st : List Int} {i : Nat} {x : Int} (h : st[i]? = some x) : (hold fx st)[i]? = some ((lk fx (i : Nat)).getD x) := by
  unfold hold
  rw [List.getElem?_mapIdx, h]
  rfl
def sp_as_held (K : PySem.W.Frag) : Sp := fun vs H Q _ => ∃ (s g : Addr) (kd : Bool) (st : List Int) (fx : List (Int × Int)), vs = [.ref s, .ref g] ∧ H s = some (sqo kd (st.map V.int)) ∧ H g = some (.dK (kvI fx)) ∧ st.length ≤ 900 ∧
  ∀ (p : Addr) (H' : Hp), H p = none → Kp [] H H' → H' p = some (.tup ((hold fx st).map V.int)) → Q (.ref p) H'
theorem ok_as_held (T : Tx K mg) : FnOk P w K mg base CX0 1 (He.fAd K ("as_held", none)) T.fd_as_held p_as_held (sp_as_held K) := by
  refine T.F_as_held.ok sc_as_held (fun vs H Q E h => ?_) (fun cdv A outer s H vs Q E hr h => ?_)
  · obtain ⟨_, _, _, _, _, rfl, _⟩ := h
    rfl
  · obtain ⟨s, g, kd, st, fx, rfl, hs, hg, l9, q⟩ := h
    refine ⟨_, PSs.nox (pss_one (ps_ret (pe_callTy call_tuple_of (by rfl) T.b_tuple (by decide +kernel) (pa_cons (pe_lc (own := [("person", 2), ("posture", 3)]) (g := (gTup K 2 (gCons (gName 2) (gCons (gName 3) gNil)))) (tt := tYes) rfl sc_as_held.nd (pi_enumS (by rfl) T.b_enumerate (pa_cons (pv 0) pa_nil)) (blkOk_by (own := [("person", 2), ("posture", 3)]) (N := n_as_held) (sc := defScope s_as_held) (by decide +kernel)) (fun _ _ _ _ _ => (pg_tup rfl (pgs_cons (pg_name (i := 2) sc_as_held.nd rfl (by first | exact Or.inl rfl | exact Or.inr rfl)) (pgs_cons (pg_name (i := 3) sc_as_held.nd rfl (by first | exact Or.inl rfl | exact Or.inr rfl)) pgs_nil)))) (fun _ _ _ _ _ => pts_nil) (fun _ _ _ _ _ => (pe_dget2 (hu_of hr) (pv 1) (pv 2) (pv 3) ⟨rfl, rfl, rfl, rfl⟩))) pa_nil)))), ?_⟩
    refine ⟨_, rfl, s, kd, _, rfl, sqo_k hs, fun d hd => lc_it (walk_enumS (K := K) (a := s) (kd := kd) (xs := st.map V.int)) (fun j H1 => H1 d = some (.lst (((hold fx st).take j).map V.int)) ∧ Kp [] H H1) ?_ ?_ ?_ ?_⟩
    · exact ⟨by rw [upd_same]; rfl, Kp.rfl'.new hd⟩
    · rintro j H1 _ ⟨_, k1⟩
      exact sqo_k (k1 _ _ hs (by simp))
    · rintro j y H1 H2 hj ⟨h1, k1⟩ ⟨t, u, v, rfl, ft, rfl, hu, hv⟩
      cases hu
      simp only [List.getElem?_map] at hv
      obtain ⟨x, hx, rfl⟩ := Option.map_eq_some_iff.mp hv
      have k2 : Kp [] H (upd H1 t (.tup [.int (j : Nat), .int x])) := k1.new ft
      have hg2 := k2 _ _ hg (by simp)
      refine ⟨t, _, rfl, SqT.of upd_same, rfl, _, _, rfl, _, _, rfl, rfl, rfl, yesT ⟨_, rfl, g, rfl, .inl ⟨_, .inl hg2⟩, _, rfl, _, rfl, _, .inl ⟨_, .inl (j : Nat), .inl hg2, rfl, rfl⟩, _, by rw [upd_ne (ne_of_none h1 ft)]; exact h1, ?_, ?_, k2.own hd⟩⟩
      · rw [List.length_map]
        exact small1000 (by rw [List.length_take, hold_len]; omega)
      · rw [upd_same, List.take_add_one, hold_at hx, valV_kvI]
        cases lk fx (j : Nat) <;> simp
    · rintro H1 ⟨h1, k1⟩
      rw [List.length_map, ← hold_len (fx := fx), List.take_length] at h1
      exact ⟨d, _, rfl, .inl ⟨SqL.of h1, fun l hl => q l _ (k1.free hl (by simp)) (k1.new hl) upd_same⟩⟩

end
end Sw

set_option maxHeartbeats 2000000
namespace Sw
open PySem PySem.Spec PyProof.Rows L2
section
variable {P : Program} {w : World} {K : PySem.W.Frag} {mg : Str → Option Value} {base : Heap}
theorem sqK_keep {kd : Bool} {H H' : Hp} {a : Addr} {xs : List V} (h : SqK kd K H a xs) (k : Kp [] H H') : SqK kd K H' a xs := by
  cases kd with
  | true => exact k.same.seq h
  | false =>
    rcases (show SqT K H a xs from h) with (h | ⟨o, h⟩) | h
    · exact .inl (.inl (k _ _ h (by simp)))
    · exact .inl (.inr ⟨o, k _ _ h (by simp)⟩)
    · exact .inr h
/-- pairs of a person and its posture, each a tuple -/
structure PairsAt (K : PySem.W.Frag) (H : Hp) (a : Addr) (kd : Bool) (fx : List (Int × Int)) : Prop where
  ex : ∃ ts : List Addr, SqK kd K H a (ts.map V.ref) ∧ ts.length = fx.length ∧ ∀ (i : Nat) (t : Addr) (p : Int × Int), ts[i]? = some t → fx[i]? = some p → H t = some (.tup [.int p.1, .int p.2])
theorem PairsAt.keep {H H' : Hp} {a : Addr} {kd : Bool} {fx : List (Int × Int)} (h : PairsAt K H a kd fx) (k : Kp [] H H') : PairsAt K H' a kd fx := by
  obtain ⟨ts, h1, h2, h3⟩ := h.ex
  exact ⟨ts, sqK_keep h1 k, h2, fun i t p e1 e2 => k _ _ (h3 i t p e1 e2) (by simp)⟩
theorem lk_none {i : Int} : ∀ {fx : List (Int × Int)}, i ∉ fx.map (·.1) → lk fx i = none
  | [], _ => rfl
  | p :: fx, h => by
    have ih := lk_none (fx := fx) fun m => h (List.mem_cons_of_mem _ m)
    have ne : ¬ p.1 = i := fun z => h (by rw [← z]; exact List.mem_cons_self ..)
    unfold lk at ih ⊢
    simpa [List.find?_cons, ne] using ih
theorem putK_kvI {fx : List (Int × Int)} {p : Int × Int} (h : p.1 ∉ fx.map (·.1)) : putK (kvI fx) (.inl p.1) (.int p.2) = kvI (fx ++ [p]) := by
  rw [putK_new _ (by rw [valV_kvI, lk_none h]; rfl)]
  simp [kvI]
theorem nd_take {α : Type} {x : α} : ∀ {l : List α} {j : Nat}, l.Nodup → l[j]? = some x → x ∉ l.take j
  | [], _, _, e => by simp at e
  | a :: l, 0, _, _ => by simp
  | a :: l, j + 1, h, e => fun m => by
    obtain ⟨h1, h2⟩ := List.nodup_cons.mp h
    rw [List.getElem?_cons_succ] at e
    rw [List.take_succ_cons] at m
    rcases List.mem_cons.mp m with z | z
    · rw [← z] at h1
      exact h1 (List.mem_of_getElem? e)
    · exact nd_take h2 e z
def sp_grips (K : PySem.W.Frag) : Sp := fun vs H Q _ => ∃ (a : Addr) (kd : Bool) (fx : List (Int × Int)), vs = [.ref a] ∧ PairsAt K H a kd fx ∧ (fx.map (·.1)).Nodup ∧ fx.length ≤ 900 ∧
  ∀ (d : Addr) (H' : Hp), H d = none → Kp [] H H' → H' d = some (.dK (kvI fx)) → Q (.ref d) H'
theorem ok_grips (T : Tx K mg) : FnOk P w K mg base CX0 1 (He.fAd K ("grips_of", none)) T.fd_grips_of p_grips_of (sp_grips K) := by
  refine T.F_grips_of.ok sc_grips_of (fun vs H Q E h => ?_) (fun cdv A outer s H vs Q E hr h => ?_)
  · obtain ⟨_, _, _, rfl, _⟩ := h
    rfl
  · obtain ⟨a, kd, fx, rfl, hP, nd, l9, q⟩ := h
    obtain ⟨ts, ha, lt, al⟩ := hP.ex
    refine ⟨_, PSs.nox (pss_one (ps_ret (pe_dc (own := [("person", 1), ("posture", 2)]) (g := (gTup K 2 (gCons (gName 1) (gCons (gName 2) gNil)))) (tt := tYes) rfl sc_grips_of.nd (pi_sq (pv 0)) (blkOk_by (own := [("person", 1), ("posture", 2)]) (N := n_grips_of) (sc := defScope s_grips_of) (by decide +kernel)) (fun _ _ _ _ _ => (pg_tup rfl (pgs_cons (pg_name (i := 1) sc_grips_of.nd rfl (by first | exact Or.inl rfl | exact Or.inr rfl)) (pgs_cons (pg_name (i := 2) sc_grips_of.nd rfl (by first | exact Or.inl rfl | exact Or.inr rfl)) pgs_nil)))) (fun _ _ _ _ _ => pts_nil) (fun _ _ _ _ _ => (pv 1)) (fun _ _ _ _ _ => (pv 2))))), ?_⟩
    refine ⟨_, rfl, a, kd, _, rfl, ha, fun d hd => dc_it (walk_sq (K := K) (a := a) (kd := kd) (xs := ts.map V.ref)) (fun j H1 => H1 d = some (.dK (kvI (fx.take j))) ∧ Kp [] H H1) ?_ ?_ ?_ ?_⟩
    · exact ⟨by rw [upd_same]; rfl, Kp.rfl'.new hd⟩
    · rintro j H1 _ ⟨_, k1⟩
      exact sqK_keep ha k1
    · rintro j y H1 H2 hj ⟨h1, k1⟩ ⟨rfl, hy⟩
      rw [List.getElem?_map] at hy
      obtain ⟨t, ht, rfl⟩ := Option.map_eq_some_iff.mp hy
      have lj : j < fx.length := by
        rw [List.length_map] at hj
        omega
      have ep : fx[j]? = some fx[j] := by simp
      have h2 := k1 _ _ (al j t _ ht ep) (by simp)
      have e : fx.take (j + 1) = fx.take j ++ [fx[j]] := by rw [List.take_add_one, ep]; rfl
      have nm : fx[j].1 ∉ (fx.take j).map (·.1) := by
        rw [List.map_take]
        exact nd_take nd (by rw [List.getElem?_map, ep]; rfl)
      refine ⟨t, _, rfl, SqT.of h2, rfl, _, _, rfl, _, _, rfl, rfl, rfl, yesT ⟨_, rfl, _, rfl, _, .inl fx[j].1, rfl, h1, ?_, ?_, k1.own hd⟩⟩
      · rw [List.length_map, List.length_take]
        exact small1000 (by omega)
      · rw [upd_same, putK_kvI nm, e]
    · rintro H1 ⟨h1, k1⟩
      rw [List.length_map, lt, List.take_length] at h1
      exact q d _ hd k1 h1
/-- the next standing: rows, steps, weights, who is held -/
def nxt (rows steps : List (List Int)) (ws : List Int) (fx : List (Int × Int)) (past : List (List Int)) : List Int := hold fx (List.zipWith cnt steps (rows.map (lawP ws past.reverse)))
def sp_leant (K : PySem.W.Frag) : Sp := fun vs H Q _ => ∃ (x a g : Addr) (rows steps : List (List Int)) (ws : List Int) (past : List (List Int)) (fx : List (Int × Int)) (bs : List Addr) (w c : Nat), vs = [.ref x, .ref a, .ref g] ∧ HallS K bs H w x rows steps ws ∧ PastAt H a past ∧ H g = some (.dK (kvI fx)) ∧ 1 ≤ past.length ∧ past.length ≤ 5 ∧ (∀ st ∈ past, st.length = c) ∧ rows.length = c ∧ steps.length = c ∧ c ≤ 900 ∧ w ≤ 900 ∧ Bd 1000 ws ∧ (∀ r ∈ rows, Bd 1000 r) ∧
  ∀ (p : Addr) (H' : Hp), H p = none → Kp [] H H' → H' p = some (.tup ((nxt rows steps ws fx past).map V.int)) → Q (.ref p) H'
theorem ok_leant (T : Tx K mg) : FnOk P w K mg base CX0 4 (He.fAd K ("leant", none)) T.fd_leant p_leant (sp_leant K) := by
  have G_Hall_steps := ok_gett (P := P) (w := w) (base := base) T
  have G_pulls := ok_pulls (P := P) (w := w) (base := base) T
  have G_reached := ok_reached (P := P) (w := w) (base := base) T
  have G_as_held := ok_as_held (P := P) (w := w) (base := base) T
  refine T.F_leant.ok sc_leant (fun vs H Q E h => ?_) (fun cdv A outer s H vs Q E hr h => ?_)
  · obtain ⟨_, _, _, _, _, _, _, _, _, _, _, rfl, _⟩ := h
    rfl
  · obtain ⟨x, a, g, rows, steps, ws, past, fx, bs, w', c, rfl, hA, hP, hg, p1, p5, lst, lr, ls, c9, lw, bw, br, q⟩ := h
    obtain ⟨dx, a1, a2, a3, hx, nx, d1, d2, d3⟩ := hA.ex
    refine ⟨_, PSs.nox (pss_cons (ps_setLc (i := 3) (own := [("steps", 4), ("pull", 5)]) (g := (gTup K 2 (gCons (gName 4) (gCons (gName 5) gNil)))) (tt := tYes) rfl sc_leant.nd rfl rfl (sw_true rfl rfl rfl (by decide +kernel)) (pi_zipS (by rfl) T.b_zip (pa_cons (pe_meth0 (pv 0) T.cl_Hall T.m_Hall_steps G_Hall_steps (hr.mono (by first | decide | omega)) T.bd_Hall_steps .nil pass0) (pa_cons (pe_call G_pulls (hr.mono (by first | decide | omega)) rfl T.g_pulls T.F_pulls.kp T.bd_pulls .nil pass0 (pa_cons (pv 0) (pa_cons (pv 1) pa_nil))) pa_nil))) (blkOk_by (own := [("steps", 4), ("pull", 5)]) (N := n_leant) (sc := defScope s_leant) (by decide +kernel)) (fun _ _ _ _ _ => (pg_tup rfl (pgs_cons (pg_name (i := 4) sc_leant.nd rfl (by first | exact Or.inl rfl | exact Or.inr rfl)) (pgs_cons (pg_name (i := 5) sc_leant.nd rfl (by first | exact Or.inl rfl | exact Or.inr rfl)) pgs_nil)))) (fun _ _ _ _ _ => pts_nil) (fun _ _ _ _ _ => (pe_call G_reached (hr.mono (by first | decide | omega)) rfl T.g_reached T.F_reached.kp T.bd_reached .nil pass0 (pa_cons (pv 4) (pa_cons (pv 5) pa_nil)))))
      (pss_one (ps_ret (pe_call G_as_held (hr.mono (by first | decide | omega)) rfl T.g_as_held T.F_as_held.kp T.bd_as_held .nil pass0 (pa_cons (pv 3) (pa_cons (pv 2) pa_nil)))))), ?_⟩
    refine ⟨_, rfl, x, dx, _, rfl, hx, flds_no _ _ _ (by decide +kernel) (by decide +kernel) (by decide +kernel), x, dx, a1, a2, a3, rfl, hx, ?_⟩
    refine ⟨_, rfl, _, rfl, x, a, rows, steps, ws, past, bs, w', c, rfl, hA, hP, p1, p5, lst, lr, c9, lw, bw, br, fun pu H1 fpu k1 hpu => ?_⟩
    have ep : rows.map (pullR ws past c) = rows.map (lawP ws past.reverse) := List.map_congr_left fun r _ => pullR_law lst
    rw [ep] at hpu
    cases d2.keep (k1.sub (by simp)) with
    | @tup _ _ xs _ h4 n4 l4 t4 =>
    have len4 := DA.len t4
    rw [List.length_map] at len4
    have lp : (rows.map (lawP ws past.reverse)).length = c := by rw [List.length_map]; exact lr
    refine ⟨a2, pu, false, false, _, _, rfl, SqT.of h4, SqT.of hpu, fun d hd => lc_it (walkZ (K := K) (a := a2) (b := pu) (ka := false) (kb := false) (n := c) (xs := xs) (ys := (rows.map (lawP ws past.reverse)).map V.int) (by rw [List.length_map, lp]; omega)) (fun j H2 => H2 d = some (.lst (((List.zipWith cnt steps (rows.map (lawP ws past.reverse))).take j).map V.int)) ∧ Kp [] H1 H2) ?_ ?_ ?_ ?_⟩
    · exact ⟨by rw [upd_same]; rfl, Kp.rfl'.new hd⟩
    · rintro j H2 _ ⟨_, k2⟩
      exact ⟨SqT.of (k2 _ _ h4 (by simp)), SqT.of (k2 _ _ hpu (by simp))⟩
    · rintro j y H2 H3 hj ⟨h2, k2⟩ ⟨t, u, v, rfl, ft, rfl, hu, hv⟩
      have hu : xs[j]? = some u := hu
      obtain ⟨r, ra, hr2, rfl, hR, lr'⟩ := t4.trowAt hu
      simp only [List.getElem?_map (f := V.int)] at hv
      obtain ⟨pl, hpl, rfl⟩ := Option.map_eq_some_iff.mp hv
      have k3 : Kp [] H1 (upd H2 t (.tup [.ref ra, .int pl])) := k2.new ft
      refine ⟨t, _, rfl, SqT.of upd_same, rfl, _, _, rfl, _, _, rfl, rfl, rfl, yesT ⟨_, rfl, _, rfl, ra, r, pl, rfl, k3 _ _ hR (by simp), by omega, fun H4 k4 => ?_⟩⟩
      refine ⟨_, k4 _ _ (by rw [upd_ne (ne_of_none h2 ft)]; exact h2) (by simp), ?_, ?_, (k3.trans k4).own hd⟩
      · rw [List.length_map, List.length_take, List.length_zipWith]
        exact small1000 (by omega)
      · have e : (List.zipWith cnt steps (rows.map (lawP ws past.reverse)))[j]? = some (cnt r pl) := by
          rw [List.getElem?_zipWith, hr2, hpl]
        rw [upd_same, List.take_add_one, e]
        simp
    · rintro H2 ⟨h2, k2⟩
      have e : (List.zipWith cnt steps (rows.map (lawP ws past.reverse))).take c = List.zipWith cnt steps (rows.map (lawP ws past.reverse)) := by
        apply List.take_of_length_le
        rw [List.length_zipWith]
        omega
      rw [e] at h2
      have k02 := k1.trans k2
      refine ⟨_, rfl, _, rfl, d, g, true, _, fx, rfl, h2, k02 _ _ hg (by simp), by rw [List.length_zipWith]; omega, fun p H3 fp k3 hp => q p H3 (k02.free fp (by simp)) (k02.trans k3) hp⟩

end
end Sw

set_option maxHeartbeats 2000000
namespace Sw
open PySem PySem.Spec PyProof.Rows L2
section
variable {P : Program} {w : World} {K : PySem.W.Frag} {mg : Str → Option Value} {base : Heap}
def sp_lean (K : PySem.W.Frag) : Sp := fun vs H Q _ => ∃ (x a h : Addr) (kh : Bool) (rows steps : List (List Int)) (ws : List Int) (past : List (List Int)) (fx : List (Int × Int)) (bs : List Addr) (w c : Nat), vs = [.ref x, .ref a, .ref h] ∧ HallAt K bs H w x rows steps ws ∧ PastAt H a past ∧ PairsAt K H h kh fx ∧ (fx.map (·.1)).Nodup ∧ fx.length ≤ 900 ∧ 1 ≤ past.length ∧ past.length ≤ 5 ∧ (∀ st ∈ past, st.length = c) ∧ rows.length = c ∧ steps.length = c ∧ c ≤ 900 ∧ w ≤ 900 ∧ Bd 1000 ws ∧ (∀ r ∈ rows, Bd 1000 r) ∧
  ∀ (p : Addr) (H' : Hp), H p = none → Kp [] H H' → H' p = some (.tup ((nxt rows steps ws fx (past.map (hold fx))).map V.int)) → Q (.ref p) H'
theorem ok_lean (T : Tx K mg) : FnOk P w K mg base CX0 5 (He.fAd K ("lean", none)) T.fd_lean p_lean (sp_lean K) := by
  have G_grips_of := ok_grips (P := P) (w := w) (base := base) T
  have G_leant := ok_leant (P := P) (w := w) (base := base) T
  have G_as_held := ok_as_held (P := P) (w := w) (base := base) T
  refine T.F_lean.ok sc_lean (fun vs H Q E h => ?_) (fun cdv A outer s H vs Q E hr h => ?_)
  · obtain ⟨_, _, _, _, _, _, _, _, _, _, _, _, rfl, _⟩ := h
    rfl
  · obtain ⟨x, a, h, kh, rows, steps, ws, past, fx, bs, w', c, rfl, hA, hP, hF, nd, l9, p1, p5, lst, lr, ls, c9, lw, bw, br, q⟩ := h
    refine ⟨_, PSs.nox (pss_cons (ps_set (i := 3) sc_lean.nd rfl (by first | exact Or.inl rfl | exact Or.inr rfl) (pe_call G_grips_of (hr.mono (by first | decide | omega)) rfl T.g_grips_of T.F_grips_of.kp T.bd_grips_of .nil pass0 (pa_cons (pv 2) pa_nil)))
      (pss_one (ps_ret (pe_call G_leant (hr.mono (by first | decide | omega)) rfl T.g_leant T.F_leant.kp T.bd_leant .nil pass0 (pa_cons (pv 0) (pa_cons (pe_lc (own := [("standing", 4)]) (g := (gName 4)) (tt := tYes) rfl sc_lean.nd (pi_sq (pv 1)) (blkOk_by (own := [("standing", 4)]) (N := n_lean) (sc := defScope s_lean) (by decide +kernel)) (fun _ _ _ _ _ => (pg_name (i := 4) sc_lean.nd rfl (by first | exact Or.inl rfl | exact Or.inr rfl))) (fun _ _ _ _ _ => pts_nil) (fun _ _ _ _ _ => (pe_call G_as_held (hr.mono (by first | decide | omega)) rfl T.g_as_held T.F_as_held.kp T.bd_as_held .nil pass0 (pa_cons (pv 4) (pa_cons (pv 3) pa_nil))))) (pa_cons (pv 3) pa_nil))))))), ?_⟩
    refine ⟨_, rfl, h, kh, fx, rfl, hF, nd, l9, fun g H1 fg k1 hg => ?_⟩
    obtain ⟨kd, as, ha, la, al⟩ := (hP.keep k1).ex
    refine ⟨_, rfl, _, rfl, a, kd, _, rfl, sqo_k ha, fun d hd => lc_it (walk_sq (K := K) (a := a) (kd := kd) (xs := as.map V.ref)) (fun j H2 => ∃ qs : List Addr, H2 d = some (.lst (qs.map V.ref)) ∧ qs.length = j ∧ (∀ (i : Nat) (t : Addr) (st : List Int), qs[i]? = some t → past[i]? = some st → H2 t = some (.tup ((hold fx st).map V.int))) ∧ Kp [] H1 H2) ?_ ?_ ?_ ?_⟩
    · exact ⟨[], by rw [upd_same]; rfl, rfl, fun i t st e => by simp at e, Kp.rfl'.new hd⟩
    · rintro j H2 _ ⟨_, _, _, _, k2⟩
      exact sqo_k (k2 _ _ ha (by simp))
    · rintro j y H2 H2' hj ⟨qs, h2, lq, aq, k2⟩ ⟨rfl, hy⟩
      rw [List.getElem?_map] at hy
      obtain ⟨t, ht, rfl⟩ := Option.map_eq_some_iff.mp hy
      have lj : j < past.length := by
        rw [List.length_map] at hj
        omega
      have es : past[j]? = some past[j] := by simp
      refine ⟨rfl, yesT ⟨_, rfl, _, rfl, t, g, false, past[j], fx, rfl, k2 _ _ (al j t _ ht es) (by simp), k2 _ _ hg (by simp), by rw [lst _ (List.getElem_mem lj)]; omega, fun p H3 fp k3 hp => ?_⟩⟩
      have h3 := k3 _ _ h2 (by simp)
      refine ⟨_, h3, ?_, qs ++ [p], by rw [upd_same]; simp, by simp [lq], fun i u st e1 e2 => ?_, (k2.trans k3).own hd⟩
      · rw [List.length_map, lq]
        exact small1000 (by omega)
      · have z : H3 u = some (.tup ((hold fx st).map V.int)) := by
          by_cases ci : i < qs.length
          · rw [List.getElem?_append_left ci] at e1
            exact k3 _ _ (aq i u st e1 e2) (by simp)
          · rw [List.getElem?_append_right (by omega)] at e1
            have li := (List.getElem?_eq_some_iff.mp e1).1
            rw [List.length_singleton] at li
            have ei : i = j := by omega
            subst ei
            rw [lq, Nat.sub_self] at e1
            cases e1
            rw [es] at e2
            cases e2
            exact hp
        rw [upd_ne fun e => by rw [e, h3] at z; cases z]
        exact z
    · rintro H2 ⟨qs, h2, lq, aq, k2⟩
      rw [List.length_map, la] at lq
      have k02 := k1.trans k2
      have hP2 : PastAt H2 d (past.map (hold fx)) := ⟨true, qs, h2, by rw [List.length_map]; exact lq, fun i t st e1 e2 => by
        rw [List.getElem?_map] at e2
        obtain ⟨st', e3, rfl⟩ := Option.map_eq_some_iff.mp e2
        exact aq i t st' e1 e3⟩
      refine ⟨_, rfl, x, d, g, rows, steps, ws, past.map (hold fx), fx, bs, w', c, rfl, (hA.keep (k02.sub (by simp))).s, hP2, k2 _ _ hg (by simp), by rw [List.length_map]; exact p1, by rw [List.length_map]; exact p5, fun st hs => ?_, lr, ls, c9, lw, bw, br, fun p H3 fp k3 hp => q p H3 (k02.free fp (by simp)) (k02.trans k3) hp⟩
      obtain ⟨st', hs', rfl⟩ := List.mem_map.mp hs
      rw [hold_len]
      exact lst st' hs'

end
end Sw

set_option maxHeartbeats 2000000
namespace Sw
open PySem PySem.Spec PyProof.Rows L2
section
variable {P : Program} {w : World} {K : PySem.W.Frag} {mg : Str → Option Value} {base : Heap}
theorem zip_take {α β γ : Type} {f : α → β → γ} : ∀ {a : List α} {b : List β} {m : Nat}, a.length ≤ m → List.zipWith f a (b.take m) = List.zipWith f a b
  | [], _, _, _ => by simp
  | _ :: _, [], _, _ => by simp
  | x :: a, y :: b, 0, h => by simp at h
  | x :: a, y :: b, m + 1, h => by
    rw [List.take_succ_cons, List.zipWith_cons_cons, List.zipWith_cons_cons, zip_take (by simpa using h)]
theorem lawP_drop {ws r : List Int} {F : List (List Int)} {i : Nat} (h : ws.length + i ≤ F.length) : lawP ws (F.drop i).reverse r = lawP ws F.reverse r := by
  unfold lawP
  rw [List.reverse_drop, zip_take (by omega)]
theorem nxt_drop {rows steps : List (List Int)} {ws : List Int} {fx : List (Int × Int)} {F : List (List Int)} {i : Nat} (h : ws.length + i ≤ F.length) : nxt rows steps ws fx (F.drop i) = nxt rows steps ws fx F := by
  unfold nxt
  rw [List.map_congr_left fun r _ => lawP_drop (r := r) h]
def goR (rows steps : List (List Int)) (ws : List Int) (fx : List (Int × Int)) : Nat → List (List Int) → List (List Int)
  | 0, f => f
  | n + 1, f => goR rows steps ws fx n f ++ [nxt rows steps ws fx (goR rows steps ws fx n f)]
theorem goR_len {rows steps : List (List Int)} {ws : List Int} {fx : List (Int × Int)} {f : List (List Int)} : ∀ n, (goR rows steps ws fx n f).length = f.length + n
  | 0 => rfl
  | n + 1 => by
    unfold goR
    rw [List.length_append, goR_len n, List.length_singleton]
    omega
theorem lk_mem {fx : List (Int × Int)} {i v : Int} (h : lk fx i = some v) : (i, v) ∈ fx := by
  unfold lk at h
  obtain ⟨p, hp, rfl⟩ := Option.map_eq_some_iff.mp h
  have h1 := List.mem_of_find?_eq_some hp
  have h2 : p.1 = i := by simpa using List.find?_some hp
  rw [← h2]
  exact h1
theorem hold_bd {fx : List (Int × Int)} {st : List Int} {m : Int} (h1 : ∀ p ∈ fx, -m ≤ p.2 ∧ p.2 ≤ m) (h2 : Bd m st) : Bd m (hold fx st) := fun y hy => by
  obtain ⟨i, hi, e⟩ := List.getElem_of_mem hy
  rw [hold_len] at hi
  have z := hold_at (fx := fx) (show st[i]? = some st[i] by simp)
  rw [List.getElem?_eq_getElem (by rw [hold_len]; exact hi), e] at z
  rw [Option.some.inj z]
  cases c : lk fx (i : Nat) with
  | none => exact h2 _ (List.getElem_mem hi)
  | some v => exact h1 _ (lk_mem c)
theorem nxt_len {rows steps : List (List Int)} {ws : List Int} {fx : List (Int × Int)} {f : List (List Int)} (h : steps.length = rows.length) : (nxt rows steps ws fx f).length = rows.length := by
  unfold nxt
  rw [hold_len, List.length_zipWith, List.length_map]
  omega
theorem zip_bd' {α β : Type} {f : α → β → Int} {a : Int} : ∀ {r : List α} {ts : List β}, (∀ x ∈ r, ∀ y ∈ ts, -a ≤ f x y ∧ f x y ≤ a) → Bd a (List.zipWith f r ts)
  | [], _, _ => fun x h => by simp at h
  | _ :: _, [], _ => fun x h => by simp at h
  | p :: r, q :: ts, h => fun x hx => by
    rw [List.zipWith_cons_cons] at hx
    rcases List.mem_cons.mp hx with z | z
    · rw [z]
      exact h p (by simp) q (by simp)
    · exact zip_bd' (fun x hx y hy => h x (List.mem_cons_of_mem _ hx) y (List.mem_cons_of_mem _ hy)) x z
theorem nxt_bd {rows steps : List (List Int)} {ws : List Int} {fx : List (Int × Int)} {f : List (List Int)} {m : Int} (h1 : ∀ p ∈ fx, -m ≤ p.2 ∧ p.2 ≤ m) (h2 : ∀ r ∈ steps, (r.length : Int) ≤ m) (m0 : 0 ≤ m) : Bd m (nxt rows steps ws fx f) := by
  refine hold_bd h1 (zip_bd' ?_)
  intro r hr p _
  have l := List.length_filter_le (fun x => decide (x ≤ p)) r
  have := h2 r hr
  unfold cnt
  omega
theorem goR_all {rows steps : List (List Int)} {ws : List Int} {fx : List (Int × Int)} {f : List (List Int)} (hl : steps.length = rows.length) (h : ∀ st ∈ f, st.length = rows.length) : ∀ n, ∀ st ∈ goR rows steps ws fx n f, st.length = rows.length
  | 0 => h
  | n + 1 => fun st hs => by
    unfold goR at hs
    rcases List.mem_append.mp hs with z | z
    · exact goR_all hl h n st z
    · rw [List.mem_singleton.mp z, nxt_len hl]

end
end Sw

set_option maxHeartbeats 2000000
namespace Sw
open PySem PySem.Spec PyProof.Rows L2
section
variable {P : Program} {w : World} {K : PySem.W.Frag} {mg : Str → Option Value} {base : Heap}
def sp_history (K : PySem.W.Frag) : Sp := fun vs H Q _ => ∃ (x a h : Addr) (n : Nat) (kh : Bool) (rows steps : List (List Int)) (ws : List Int) (past : List (List Int)) (fx : List (Int × Int)) (bs cs : List Addr) (w c : Nat), vs = [.ref x, .ref a, .int n, .ref h] ∧ HallS K bs H w x rows steps ws ∧ PastAt H a past ∧ PairsAt K H h kh fx ∧ (fx.map (·.1)).Nodup ∧ fx.length ≤ 900 ∧ 1 ≤ past.length ∧ past.length ≤ 5 ∧ ws.length ≤ past.length ∧ (∀ st ∈ past, st.length = c ∧ Bd 900 st) ∧ rows.length = c ∧ steps.length = c ∧ c ≤ 12 ∧ w ≤ 900 ∧ n ≤ 2000 ∧ Bd 1000 ws ∧ (∀ r ∈ rows, Bd 1000 r) ∧ (∀ r ∈ steps, r.length ≤ 900) ∧ (∀ p ∈ fx, -900 ≤ p.2 ∧ p.2 ≤ 900) ∧ (∀ b ∈ cs, ∃ o, H b = some o) ∧
  ∀ (q : Addr) (H' : Hp), H q = none → Kp [] H H' → D cs H' (12 + n) 2 (.ref q) (dLT (goR rows steps ws fx n (past.map (hold fx)))) → Q (.ref q) H'
theorem ok_history (T : Tx K mg) : FnOk P w K mg base CX0 5 (He.fAd K ("history", none)) T.fd_history p_history (sp_history K) := by
  have G_grips_of := ok_grips (P := P) (w := w) (base := base) T
  have G_leant := ok_leant (P := P) (w := w) (base := base) T
  have G_as_held := ok_as_held (P := P) (w := w) (base := base) T
  refine T.F_history.ok sc_history (fun vs H Q E h => ?_) (fun cdv A outer s H vs Q E hr h => ?_)
  · obtain ⟨_, _, _, _, _, _, _, _, _, _, _, _, _, _, rfl, _⟩ := h
    rfl
  · obtain ⟨x, a, h, n, kh, rows, steps, ws, past, fx, bs, cs, w', c, rfl, hA, hP, hF, nd, l9, p1, p5, lwp, lst, lr, ls, c12, lw, n2, bw, br, bst, bf, sb, q⟩ := h
    have fresh : ∀ {H1 : Hp} {p : Addr}, Kp [] H H1 → H1 p = none → p ∉ cs := fun {H1 p} k hp m => by
      obtain ⟨o, e⟩ := sb p m
      rw [k _ _ e (by simp)] at hp
      cases hp
    refine ⟨_, PSs.nox (pss_cons (ps_set (i := 4) sc_history.nd rfl (by first | exact Or.inl rfl | exact Or.inr rfl) (pe_call G_grips_of (hr.mono (by first | decide | omega)) rfl T.g_grips_of T.F_grips_of.kp T.bd_grips_of .nil pass0 (pa_cons (pv 3) pa_nil)))
      (pss_cons (ps_setLc (i := 5) (own := [("standing", 7)]) (g := (gName 7)) (tt := tYes) rfl sc_history.nd rfl rfl (sw_true rfl rfl rfl (by decide +kernel)) (pi_sq (pv 1)) (blkOk_by (own := [("standing", 7)]) (N := n_history) (sc := defScope s_history) (by decide +kernel)) (fun _ _ _ _ _ => (pg_name (i := 7) sc_history.nd rfl (by first | exact Or.inl rfl | exact Or.inr rfl))) (fun _ _ _ _ _ => pts_nil) (fun _ _ _ _ _ => (pe_call G_as_held (hr.mono (by first | decide | omega)) rfl T.g_as_held T.F_as_held.kp T.bd_as_held .nil pass0 (pa_cons (pv 7) (pa_cons (pv 4) pa_nil)))))
      (pss_cons (ps_for PassesOwn.never rfl (pi_range1 (by rfl) T.b_range (pa_cons (pv 2) pa_nil)) (pg_name (i := 6) sc_history.nd rfl (by first | exact Or.inl rfl | exact Or.inr rfl))
      (pss_one (ps_expr (pe_bm PySem.F.plainAttrs_list PySem.F.slot_list_append PySem.F.type_list_append mt_append (pv 5) (pa_cons (pe_call G_leant (hr.mono (by first | decide | omega)) rfl T.g_leant T.F_leant.kp T.bd_leant .nil pass0 (pa_cons (pv 0) (pa_cons (pe_slice sl_list (pv 5) (po_some (pv 6)) po_none) (pa_cons (pv 4) pa_nil)))) pa_nil)))))
      (pss_one (ps_ret (pv 5)))))), ?_⟩
    refine ⟨_, rfl, h, kh, fx, rfl, hF, nd, l9, fun g H1 fg k1 hg => ?_⟩
    obtain ⟨kd, as, ha, la, al⟩ := (hP.keep k1).ex
    refine ⟨_, rfl, a, kd, _, rfl, sqo_k ha, fun d hd => lc_it (walk_sq (K := K) (a := a) (kd := kd) (xs := as.map V.ref)) (fun j H2 => ∃ ys : List V, H2 d = some (.lst ys) ∧ DA (d :: cs) H2 (12 + n) 1 ys (((past.map (hold fx)).take j).map dT) ∧ Kp [] H1 H2) ?_ ?_ ?_ ?_⟩
    · exact ⟨[], upd_same, .nil, Kp.rfl'.new hd⟩
    · rintro j H2 _ ⟨_, _, _, k2⟩
      exact sqo_k (k2 _ _ ha (by simp))
    · rintro j y H2 H2' hj ⟨ys, h2, d2, k2⟩ ⟨rfl, hy⟩
      rw [List.getElem?_map] at hy
      obtain ⟨t, ht, rfl⟩ := Option.map_eq_some_iff.mp hy
      have lj : j < past.length := by
        rw [List.length_map] at hj
        omega
      have es : past[j]? = some past[j] := by simp
      obtain ⟨lsj, bsj⟩ := lst _ (List.getElem_mem lj)
      refine ⟨rfl, yesT ⟨_, rfl, _, rfl, t, g, false, past[j], fx, rfl, k2 _ _ (al j t _ ht es) (by simp), k2 _ _ hg (by simp), by omega, fun p H3 fp k3 hp => ?_⟩⟩
      have h3 := k3 _ _ h2 (by simp)
      have npd : p ≠ d := (ne_of_none h2 fp).symm
      have npc := fresh (k1.trans k2) fp
      have kd' : Kp (d :: cs) H3 (upd H3 d (.lst (ys ++ [.ref p]))) := Kp.rfl'.put (by simp)
      have ly : ys.length ≤ 5 := by
        rw [DA.len d2, List.length_map, List.length_take, List.length_map]
        omega
      refine ⟨_, h3, small1000 (by omega), ys ++ [.ref p], upd_same, ?_, (k2.trans k3).own hd⟩
      have e : (past.map (hold fx)).take (j + 1) = (past.map (hold fx)).take j ++ [hold fx past[j]] := by
        rw [List.take_add_one, List.getElem?_map, es]
        rfl
      rw [e, List.map_append]
      refine ((d2.keep (k3.sub (by simp))).keep kd').app (DA.one ((D.tup (k := 0) hp (by simp [npd, npc]) (by rw [List.length_map, hold_len]; omega) (DA.ofInts fun x hx => ?_)).keep kd'))
      have := hold_bd bf bsj x hx
      omega
    · rintro H2 ⟨ys, h2, d2, k2⟩
      have k02 := k1.trans k2
      have ndc := fresh k1 hd
      rw [List.length_map, la, ← List.length_map (f := hold fx) (as := past), List.take_length] at d2
      refine ⟨_, rfl, _, rfl, by omega, by omega, for_range (n := ((n : Nat) : Int).toNat) (fun i σ H3 => ∃ (o6 : Option V) (ys : List V), σ = [some (.ref x), some (.ref a), some (.int (n : Nat)), some (.ref h), some (.ref g), some (.ref d), o6, none] ∧ H3 d = some (.lst ys) ∧ DA (d :: cs) H3 (12 + n) 1 ys ((goR rows steps ws fx i (past.map (hold fx))).map dT) ∧ Kp [] H H3 ∧ H3 g = some (.dK (kvI fx))) ?_ ?_ ?_⟩
      · exact ⟨_, ys, rfl, h2, d2, k02, k2 _ _ hg (by simp)⟩
      · rintro i σ H3 hi ⟨o6, zs, rfl, h3, d3, k3, hg3⟩
        refine gn ?_
        have hin : i < n := by omega
        have lF := goR_len (rows := rows) (steps := steps) (ws := ws) (fx := fx) (f := past.map (hold fx)) i
        rw [List.length_map] at lF
        have lz : zs.length = past.length + i := by rw [DA.len d3, List.length_map, lF]
        have alF : ∀ st ∈ goR rows steps ws fx i (past.map (hold fx)), st.length = c := by
          rw [← lr]
          refine goR_all (by omega) (fun st hs => ?_) i
          obtain ⟨st', hs', rfl⟩ := List.mem_map.mp hs
          rw [hold_len, lr]
          exact (lst st' hs').1
        generalize hF' : goR rows steps ws fx i (past.map (hold fx)) = F at d3 lF alF
        refine ⟨_, rfl, .inl ⟨rfl, _, SqL.of h3⟩, _, rfl, _, rfl, ?_⟩
        refine ⟨_, rfl, _, rfl, d, zs, rfl, SqL.of h3, fun p2 hp2 => ?_⟩
        have ec : cutV zs (some (0 + (i : Int))) none = zs.drop i := by
          rw [Int.zero_add]
          exact cut_from _ i
        rw [ec]
        have k4 : ∀ cs, Kp cs H3 (upd H3 p2 (.lst (zs.drop i))) := fun cs => Kp.rfl'.new hp2
        have dD : D [] (upd H3 p2 (.lst (zs.drop i))) (12 + n) 2 (.ref p2) (dLT (F.drop i)) := .lst upd_same (by simp) (by rw [List.length_drop]; omega) (by
          rw [List.map_drop]
          exact ((d3.keep (k4 _)).less (by simp)).dropD i)
        have h34 := k4 [] _ _ h3 (by simp)
        have d34 := d3.keep (k4 _)
        have hg34 := k4 [] _ _ hg3 (by simp)
        have k04 : Kp [] H (upd H3 p2 (.lst (zs.drop i))) := k3.trans (k4 [])
        generalize upd H3 p2 (.lst (zs.drop i)) = H4 at dD h34 d34 hg34 k04 ⊢
        refine ⟨_, rfl, x, p2, g, rows, steps, ws, F.drop i, fx, bs, w', c, rfl, hA.keep (k04.sub (by simp)), dD.past, hg34, by rw [List.length_drop]; omega, by rw [List.length_drop]; omega, (fun st hs => alF st (List.mem_of_mem_drop hs)), lr, ls, by omega, lw, bw, br, fun p H5 fp k5 hp => ?_⟩
        rw [nxt_drop (by omega)] at hp
        have h35 := k5 _ _ h34 (by simp)
        have npd : p ≠ d := (ne_of_none h34 fp).symm
        have npc := fresh k04 fp
        have kd' : Kp (d :: cs) H5 (upd H5 d (.lst (zs ++ [.ref p]))) := Kp.rfl'.put (by simp)
        have k05 : Kp [] H (upd H5 d (.lst (zs ++ [.ref p]))) := (k04.trans k5).own (k1.free hd (by simp))
        refine ⟨d, _, _, rfl, rfl, h35, by rw [sizeLine_eq]; omega, _, zs ++ [.ref p], rfl, upd_same, ?_, k05, ?_⟩
        · unfold goR
          rw [hF', List.map_append]
          refine ((d34.keep (k5.sub (by simp))).keep kd').app (DA.one ((D.tup (k := 0) hp (by simp [npd, npc]) (by rw [List.length_map, nxt_len (by omega)]; omega) (DA.ofInts fun x hx => ?_)).keep kd'))
          have := nxt_bd (m := 900) bf (fun r hr => by have := bst r hr; omega) (by decide) x hx
          omega
        · have hg5 := k5 _ _ hg34 (by simp)
          rw [upd_ne fun e => by rw [e, h35] at hg5; cases hg5]
          exact hg5
      · rintro σ H3 ⟨o6, zs, rfl, h3, d3, k3, _⟩
        have lF := goR_len (rows := rows) (steps := steps) (ws := ws) (fx := fx) (f := past.map (hold fx)) ((n : Nat) : Int).toNat
        rw [List.length_map] at lF
        refine ⟨_, rfl, q d H3 (k1.free hd (by simp)) k3 (.lst h3 ndc ?_ (d3.less fun a ha => List.mem_cons_of_mem _ ha))⟩
        rw [DA.len d3, List.length_map, lF]
        omega

end
end Sw

set_option maxHeartbeats 2000000
namespace Sw
open PySem PySem.Spec PyProof.Rows L2
section
variable {P : Program} {w : World} {K : PySem.W.Frag} {mg : Str → Option Value} {base : Heap}
/-! ### lean's arguments -/
abbrev kwL (K : PySem.W.Frag) : List (Str × V) := [("held", V.ref (kwAt ("history", none) "held" K))]
theorem app_rel : ∀ {vs zs : List V} {us ws : List Value}, Vals vs us → Vals zs ws → Vals (vs ++ zs) (us ++ ws)
  | _, _, _, _, .nil, h => h
  | _, _, _, _, .cons a r, h => .cons a (app_rel r h)
theorem rev_rel {zs : List V} {ws : List Value} (h : Vals zs ws) : Vals zs.reverse ws.reverse := by
  induction h with
  | nil => exact .nil
  | cons a r ih =>
    rw [List.reverse_cons, List.reverse_cons]
    exact app_rel ih (.cons a .nil)
theorem kb_hist3 {f : Addr} {fd : FuncData} (F : FunD K "history" "history" (defArgs s_history) (defBody s_history) (defScope s_history) [] (kwL K) f fd) : KBn K fd p_history 3 ["held"] (fun us ws => us ++ ws) (fun vs zs => vs ++ zs) := by
  obtain ⟨mv, h⟩ := F.kbinds0 (ps := p_history) 3 ["held"] [] (fun us _ ws => us ++ ws) (by simp) (by simp) (fun r1 _ r3 => app_rel r1 r3) (fun D doc pm an cdv ct us mv ws l1 l2 l3 => match us, mv, ws, l1, l2, l3 with | [_, _, _], [], [_], _, _, _ => rfl)
  exact h
theorem kb_hist0 {f : Addr} {fd : FuncData} (F : FunD K "history" "history" (defArgs s_history) (defBody s_history) (defScope s_history) [] (kwL K) f fd) : KBn K fd p_history 0 ["held", "many", "past", "hall"] (fun _ ws => ws.reverse) (fun _ zs => zs.reverse) := by
  obtain ⟨mv, h⟩ := F.kbinds0 (ps := p_history) 0 ["held", "many", "past", "hall"] [] (fun _ _ ws => ws.reverse) (by simp) (by simp) (fun _ _ r3 => rev_rel r3) (fun D doc pm an cdv ct us mv ws l1 l2 l3 => match us, mv, ws, l1, l2, l3 with | [], [], [_, _, _, _], _, _, _ => rfl)
  exact h
theorem bq_history {f : Addr} {fd : FuncData} (F : FunD K "history" "history" (defArgs s_history) (defBody s_history) (defScope s_history) [] (kwL K) f fd) : ∃ ds, Vals [V.ref (kwAt ("history", none) "held" K)] ds ∧ Binds K fd p_history ds :=
  F.binds0 (ps := p_history) 3 (by simp) rfl (fun D doc pm an cdv ct us ks l1 l2 => match us, ks, l1, l2 with | [_, _, _], [_], _, _ => ⟨_, _, _, _, _, _, rfl, rfl, rfl⟩)
/-- the bare tuple that is left out -/
def DfE (K : PySem.W.Frag) (a : Addr) : Prop := ∃ (o : Obj) (its : Array Value) (n : Nat), K.lookup a = some o ∧ o.cls = .type "tuple" ∧ o.data = .seq its n ∧ its.size ≤ sizeLine ∧ Vals [] its.toList
theorem DfE.pairs {a : Addr} (h : DfE K a) (H : Hp) : PairsAt K H a false [] := ⟨[], .inr h, rfl, fun i t p e => by simp at e⟩

abbrev kwN (K : PySem.W.Frag) : List (Str × V) := [("held", V.ref (kwAt ("lean", none) "held" K))]
theorem kb_lean2 {f : Addr} {fd : FuncData} (F : FunD K "lean" "lean" (defArgs s_lean) (defBody s_lean) (defScope s_lean) [] (kwN K) f fd) : KBn K fd p_lean 2 ["held"] (fun us ws => us ++ ws) (fun vs zs => vs ++ zs) := by
  obtain ⟨mv, h⟩ := F.kbinds0 (ps := p_lean) 2 ["held"] [] (fun us _ ws => us ++ ws) (by simp) (by simp) (fun r1 _ r3 => app_rel r1 r3) (fun D doc pm an cdv ct us mv ws l1 l2 l3 => match us, mv, ws, l1, l2, l3 with | [_, _], [], [_], _, _, _ => rfl)
  exact h
theorem bq_lean {f : Addr} {fd : FuncData} (F : FunD K "lean" "lean" (defArgs s_lean) (defBody s_lean) (defScope s_lean) [] (kwN K) f fd) : ∃ ds, Vals [V.ref (kwAt ("lean", none) "held" K)] ds ∧ Binds K fd p_lean ds :=
  F.binds0 (ps := p_lean) 2 (by simp) rfl (fun D doc pm an cdv ct us ks l1 l2 => match us, ks, l1, l2 with | [_, _], [_], _, _ => ⟨_, _, _, _, _, _, rfl, rfl, rfl⟩)
abbrev kwS (K : PySem.W.Frag) : List (Str × V) := [("held", V.ref (kwAt ("Sway", some "__init__") "held" K))]
theorem bq_sway {f : Addr} {fd : FuncData} (F : FunD K "__init__" "Sway.__init__" (defArgs s_Sway___init__) (defBody s_Sway___init__) (defScope s_Sway___init__) [] (kwS K) f fd) : ∃ ds, Vals [V.ref (kwAt ("Sway", some "__init__") "held" K)] ds ∧ Binds K fd p_Sway___init__ ds :=
  F.binds0 (ps := p_Sway___init__) 3 (by simp) rfl (fun D doc pm an cdv ct us ks l1 l2 => match us, ks, l1, l2 with | [_, _, _], [_], _, _ => ⟨_, _, _, _, _, _, rfl, rfl, rfl⟩)
theorem bq_beat {f : Addr} {fd : FuncData} (F : FunD K "beat" "Sway.beat" (defArgs s_Sway_beat) (defBody s_Sway_beat) (defScope s_Sway_beat) [V.int 1] [] f fd) : ∃ ds, Vals [V.int 1] ds ∧ Binds K fd p_Sway_beat ds :=
  F.binds1 (ps := p_Sway_beat) 1 0 (by simp) rfl (fun T kV doc pm an cdv ct us its h1 h2 => match us, its, h1, h2 with | [_], [_], _, _ => ⟨_, rfl, rfl⟩)

end
end Sw

set_option maxHeartbeats 2000000
namespace Sw
open PySem PySem.Spec PyProof.Rows L2
section
variable {P : Program} {w : World} {K : PySem.W.Frag} {mg : Str → Option Value} {base : Heap}
theorem for_seq {H1 : Hp} {a : Addr} {kd : Bool} {xs : List V} {g : TG} {tb : TS} {D : Ends} {σ : L2.St} (h : H1 a = some (sqo kd xs)) (Pv : Nat → L2.St → Hp → Prop) (h0 : Pv 0 σ H1) (hG : ∀ i σ H, Pv i σ H → H a = some (sqo kd xs))
    (hs : ∀ i x σ H, xs[i]? = some x → Pv i σ H → g x σ H fun σ2 H2 => tb { D with nx := Pv (i + 1), ct := Pv (i + 1), bk := D.nx } σ2 H2) (hd : ∀ σ H, Pv xs.length σ H → D.nx σ H) :
    ((∃ xs, SqL K H1 a xs) ∧ ∃ W : Nat → Nat → L2.St → Hp → Prop, (∃ m, W 0 m σ H1) ∧ ∀ i m σ H, W i m σ H →
      ((Itl K a).stop i H ∧ D.nx σ H) ∨ ((Itl K a).go i H ∧ ∃ N : L2.St → Hp → Prop, (∀ σ' H', N σ' H' → ∃ m', m' < m ∧ W (i + 1) m' σ' H') ∧ ∀ x H', (Itl K a).yld i H x H' → g x σ H' fun σ2 H2 => tb { D with nx := N, ct := N, bk := D.nx } σ2 H2)) ∨
    ((∃ xs, SqT K H1 a xs) ∧ ∃ W : Nat → Nat → L2.St → Hp → Prop, (∃ m, W 0 m σ H1) ∧ ∀ i m σ H, W i m σ H →
      ((Itt K a).stop i H ∧ D.nx σ H) ∨ ((Itt K a).go i H ∧ ∃ N : L2.St → Hp → Prop, (∀ σ' H', N σ' H' → ∃ m', m' < m ∧ W (i + 1) m' σ' H') ∧ ∀ x H', (Itt K a).yld i H x H' → g x σ H' fun σ2 H2 => tb { D with nx := N, ct := N, bk := D.nx } σ2 H2)) := by
  cases kd
  · exact .inr ⟨⟨_, SqT.of h⟩, for_tup (K := K) (a := a) (xs := xs) Pv h0 (fun i σ H _ q => SqT.of (hG i σ H q)) hs hd⟩
  · exact .inl ⟨⟨_, SqL.of h⟩, for_list (K := K) (a := a) (xs := xs) Pv h0 (fun i σ H _ q => SqL.of (hG i σ H q)) hs hd⟩
/-- all but lists outside cs stay -/
theorem D.trow {bs : List Addr} {H : Hp} {w k : Nat} {a : Addr} {rows : List (List Int)} {i : Nat} {r : List Int} (h : D bs H w k (.ref a) (dTT rows)) (e : rows[i]? = some r) : ∃ (xs : List V) (t : Addr), H a = some (.tup xs) ∧ atI xs (i : Int) = some (.ref t) ∧ H t = some (.tup (r.map V.int)) := by
  cases h with
  | @tup _ _ xs _ h1 n1 l1 t1 =>
    have ll := DA.len t1
    rw [List.length_map] at ll
    have hi := (List.getElem?_eq_some_iff.mp e).1
    have ex : xs[i]? = some (xs[i]'(by omega)) := by simp
    obtain ⟨r', t, hr, ea, ht, _⟩ := t1.trowAt ex
    rw [e] at hr
    cases hr
    rw [ea] at ex
    exact ⟨xs, t, h1, atI_nat ex, ht⟩
theorem ext_getD : ∀ {a b : List Int}, a.length = b.length → (∀ j, j < a.length → a.getD j 0 = b.getD j 0) → a = b := fun {a b} h e => by
  apply List.ext_getElem h
  intro i h1 h2
  have := e i h1
  rw [List.getD_eq_getElem?_getD, List.getD_eq_getElem?_getD, List.getElem?_eq_getElem h1, List.getElem?_eq_getElem h2] at this
  exact this
theorem getD_set {a : List Int} {i j : Nat} {x : Int} (h : i < a.length) : (a.set i x).getD j 0 = if i = j then x else a.getD j 0 := by
  rw [List.getD_eq_getElem?_getD, List.getElem?_set]
  by_cases e : i = j
  · rw [if_pos e, if_pos h, if_pos e]
    rfl
  · rw [if_neg e, if_neg e, List.getD_eq_getElem?_getD]
theorem get_getD {a : List Int} {j : Nat} (h : j < a.length) : a[j]? = some (a.getD j 0) := by
  rw [List.getD_eq_getElem?_getD, List.getElem?_eq_getElem h]
  rfl
/-- tuples at these places -/
structure AsAt (H : Hp) (as : List Addr) (past : List (List Int)) : Prop where
  len : as.length = past.length
  row : ∀ (k : Nat) (t : Addr) (st : List Int), as[k]? = some t → past[k]? = some st → H t = some (.tup (st.map V.int))
theorem AsAt.at {H : Hp} {as : List Addr} {past : List (List Int)} (h : AsAt H as past) {t : Addr} (ht : t ∈ as) : ∃ st : List Int, H t = some (.tup (st.map V.int)) := by
  obtain ⟨k, hk, e⟩ := List.getElem_of_mem ht
  have l := h.len
  exact ⟨past[k]'(by omega), h.row k t _ (by rw [List.getElem?_eq_getElem hk, e]) (by simp)⟩
theorem AsAt.keep {H H' : Hp} {as : List Addr} {past : List (List Int)} {p : Addr} {xs : List V} (h : AsAt H as past) (hp : H p = some (.lst xs)) (k : Kp [p] H H') : AsAt H' as past :=
  ⟨h.len, fun m t st e1 e2 => k _ _ (h.row m t st e1 e2) fun z => by
    have g := h.row m t st e1 e2
    rw [List.mem_singleton.mp z, hp] at g
    cases g⟩
theorem AsAt.keep0 {H H' : Hp} {as : List Addr} {past : List (List Int)} (h : AsAt H as past) (k : Kp [] H H') : AsAt H' as past :=
  ⟨h.len, fun m t st e1 e2 => k _ _ (h.row m t st e1 e2) (by simp)⟩
theorem AsAt.push {H : Hp} {as : List Addr} {past : List (List Int)} {t : Addr} {st : List Int} (h : AsAt H as past) (ht : H t = some (.tup (st.map V.int))) : AsAt H (as ++ [t]) (past ++ [st]) := by
  refine ⟨by simp [h.len], fun m u s e1 e2 => ?_⟩
  have l := h.len
  by_cases c : m < as.length
  · rw [List.getElem?_append_left c] at e1
    rw [List.getElem?_append_left (by omega)] at e2
    exact h.row m u s e1 e2
  · rw [List.getElem?_append_right (by omega)] at e1
    rw [List.getElem?_append_right (by omega)] at e2
    have z : m - as.length = 0 := by
      have := (List.getElem?_eq_some_iff.mp e1).1
      simp at this
      omega
    rw [z] at e1
    rw [← l, z] at e2
    cases (show some t = some u from e1)
    cases (show some st = some s from e2)
    exact ht
theorem AsAt.rev {H : Hp} {as : List Addr} {past : List (List Int)} (h : AsAt H as past) : AsAt H as.reverse past.reverse := by
  have l := h.len
  refine ⟨by simp [l], fun m u s e1 e2 => ?_⟩
  have lm : m < as.length := by
    have := (List.getElem?_eq_some_iff.mp e1).1
    simpa using this
  rw [List.getElem?_reverse lm] at e1
  rw [List.getElem?_reverse (by omega), ← l] at e2
  exact h.row _ u s e1 e2
theorem AsAt.past {H : Hp} {as : List Addr} {past : List (List Int)} {p : Addr} (h : AsAt H as past) (hp : H p = some (.lst (as.map V.ref))) : PastAt H p past := ⟨true, as, hp, h.len, h.row⟩
/-- a past that lies in a list -/
def PastL (H : Hp) (a : Addr) (past : List (List Int)) : Prop := ∃ as : List Addr, H a = some (.lst (as.map V.ref)) ∧ AsAt H as past
theorem PastL.past {H : Hp} {a : Addr} {past : List (List Int)} (h : PastL H a past) : PastAt H a past := by
  obtain ⟨as, e, q⟩ := h
  exact q.past e
theorem PastL.keep {H H' : Hp} {a : Addr} {past : List (List Int)} (h : PastL H a past) (k : Kp [] H H') : PastL H' a past := by
  obtain ⟨as, e, q⟩ := h
  exact ⟨as, k _ _ e (by simp), q.keep0 k⟩
def sp_far (K : PySem.W.Frag) : Sp := fun vs H Q _ => ∃ (x sa ga : Addr) (i : Nat) (sg : Int) (rows steps : List (List Int)) (ws st G r : List Int) (bs : List Addr) (w c : Nat) (kd : Bool), vs = [.ref x, .ref sa, .ref ga, .int i, .int sg] ∧ HallAt K bs H w x rows steps ws ∧ H sa = some (.tup (st.map V.int)) ∧ H ga = some (sqo kd (G.map V.int)) ∧
  (∀ g ∈ G, 0 ≤ g ∧ g < c) ∧ rows[i]? = some r ∧ r.length = c ∧ steps.length = c ∧ st.length = c ∧ c ≤ 900 ∧ w ≤ 900 ∧ Bd 1000 ws ∧ Bd 1000 r ∧ ws.length ≤ 5 ∧ (sg = 1 ∨ sg = -1) ∧
  ∀ (p : Addr) (H' : Hp), H p = none → Kp [] H H' → PastL H' p (farP sg (topsOf steps) st G r c ws) → Q (.ref p) H'
theorem ok_far (T : Tx K mg) : FnOk P w K mg base CX0 2 (He.fAd K ("far_past", none)) T.fd_far_past p_far_past (sp_far K) := by
  have G_Hall_memory := ok_getm (P := P) (w := w) (base := base) T
  have G_Hall_strings := ok_gets (P := P) (w := w) (base := base) T
  have G_Hall_tops := ok_tops (P := P) (w := w) (base := base) T
  refine T.F_far_past.ok sc_far_past (fun vs H Q E h => ?_) (fun cdv A outer s H vs Q E hr h => ?_)
  · obtain ⟨_, _, _, _, _, _, _, _, _, _, _, _, _, _, _, rfl, _⟩ := h
    rfl
  · obtain ⟨x, sa, ga, i, sg, rows, steps, ws, st, G, r, bs, w', c, kd, rfl, hA, hS, hG, gb, er, lr, ls, lst, c9, lw, bw, br, w5, hsg, q⟩ := h
    refine ⟨_, PSs.nox (pss_cons (ps_par (i := 7) (j := 8) (by rfl) sc_far_past.nd rfl rfl (by decide) rfl rfl (pa_cons (pe_meth0 (pv 0) T.cl_Hall T.m_Hall_tops G_Hall_tops (hr.mono (by first | decide | omega)) T.bd_Hall_tops .nil pass0) (pa_cons (pe_ix ix_tup (pe_meth0 (pv 0) T.cl_Hall T.m_Hall_strings G_Hall_strings (hr.mono (by first | decide | omega)) T.bd_Hall_strings .nil pass0) (pv 3) (fun _ _ => rfl)) pa_nil)) (by rfl))
      (pss_cons (ps_set (i := 5) sc_far_past.nd rfl (by first | exact Or.inl rfl | exact Or.inr rfl) (pe_lst pa_nil))
      (pss_cons (ps_for PassesOwn.never rfl (pi_tup (pe_meth0 (pv 0) T.cl_Hall T.m_Hall_memory G_Hall_memory (hr.mono (by first | decide | omega)) T.bd_Hall_memory .nil pass0)) (pg_name (i := 6) sc_far_past.nd rfl (by first | exact Or.inl rfl | exact Or.inr rfl))
      (pss_cons (ps_setLc (i := 9) (own := [("string", 11), ("top", 12)]) (g := (gTup K 2 (gCons (gName 11) (gCons (gName 12) gNil)))) (tt := tYes) rfl sc_far_past.nd rfl rfl (sw_true rfl rfl rfl (by decide +kernel)) (pi_zipS (by rfl) T.b_zip (pa_cons (pv 8) (pa_cons (pv 7) pa_nil))) (blkOk_by (own := [("string", 11), ("top", 12)]) (N := n_far_past) (sc := defScope s_far_past) (by decide +kernel)) (fun _ _ _ _ _ => (pg_tup rfl (pgs_cons (pg_name (i := 11) sc_far_past.nd rfl (by first | exact Or.inl rfl | exact Or.inr rfl)) (pgs_cons (pg_name (i := 12) sc_far_past.nd rfl (by first | exact Or.inl rfl | exact Or.inr rfl)) pgs_nil)))) (fun _ _ _ _ _ => pts_nil) (fun _ _ _ _ _ => (pe_ifExp (pt_cmpR op_gt (pe_op op_mul (pe_op op_mul (pv 4) (pv 6)) (pv 11)) pe_int (nomark _)) (pv 12) pe_int)))
      (pss_cons (ps_for PassesOwn.never rfl (pi_seq (pv 2)) (pg_name (i := 10) sc_far_past.nd rfl (by first | exact Or.inl rfl | exact Or.inr rfl))
      (pss_one (ps_asg (pe_ix ix_tup (pv 1) (pv 10) (fun _ _ => rfl)) (pg_sub (pv 9) (pv 10) set_list))))
      (pss_one (ps_expr (pe_bm PySem.F.plainAttrs_list PySem.F.slot_list_append PySem.F.type_list_append mt_append (pv 5) (pa_cons (pe_callTy call_tuple_of (by rfl) T.b_tuple (by decide +kernel) (pa_cons (pv 9) pa_nil)) pa_nil)))))))
      (pss_one (ps_ret (pe_revL (pv 5))))))), ?_⟩
    obtain ⟨dx, a1, a2, a3, hx, nx, d1, d2, d3⟩ := hA.ex
    refine ⟨_, rfl, x, dx, _, rfl, hx, flds_no _ _ _ (by decide +kernel) (by decide +kernel) (by decide +kernel), x, rows, steps, ws, bs, w', rfl, hA, by omega, fun tp H1 f1 k1 h1 => ?_⟩
    have hx1 := k1 _ _ hx (by simp)
    have d11 := d1.keep (k1.sub (by simp))
    obtain ⟨xs1, t, e1, at1, ht1⟩ := d11.trow er
    refine ⟨_, rfl, x, dx, _, rfl, hx1, flds_no _ _ _ (by decide +kernel) (by decide +kernel) (by decide +kernel), x, dx, a1, a2, a3, rfl, hx1, ?_⟩
    refine ⟨_, rfl, a1, _, _, _, rfl, rfl, SqT.of e1, at1, ⟨_, _, rfl, ?_⟩⟩
    refine ⟨Nat.zero_le _, fun p hp => ?_⟩
    have fp : H p = none := k1.free hp (by simp)
    have k2 : Kp [] H (upd H1 p (.lst [])) := k1.new hp
    have hp2 : (upd H1 p (.lst [])) p = some (.lst []) := upd_same
    have ht2 := (Kp.rfl'.new hp : Kp [] H1 (upd H1 p (.lst []))) _ _ ht1 (by simp)
    have htp2 := (Kp.rfl'.new hp : Kp [] H1 (upd H1 p (.lst []))) _ _ h1 (by simp)
    have ntp : t ≠ p := ne_of_none ht1 hp
    have ntpp : tp ≠ p := ne_of_none h1 hp
    generalize upd H1 p (.lst []) = H2 at k2 hp2 ht2 htp2 ⊢
    have hx2 := k2 _ _ hx (by simp)
    cases d3 with
    | @tup _ _ xs3 _ h3 n3 l3 t3 =>
    have e3 := DA.ints t3
    subst e3
    refine ⟨_, rfl, x, dx, _, rfl, hx2, flds_no _ _ _ (by decide +kernel) (by decide +kernel) (by decide +kernel), x, dx, a1, a2, a3, rfl, hx2, a3, rfl, ⟨_, SqT.of (k2 _ _ h3 (by simp))⟩, for_tup (K := K) (a := a3) (xs := ws.map V.int) (fun k σ H4 => ∃ (o6 o9 o10 : Option V) (as : List Addr), σ = [some (.ref x), some (.ref sa), some (.ref ga), some (.int i), some (.int sg), some (.ref p), o6, some (.ref tp), some (.ref t), o9, o10, none, none] ∧ H4 p = some (.lst (as.map V.ref)) ∧ AsAt H4 as ((ws.take k).map (post sg (topsOf steps) st G r c)) ∧ Kp [p] H2 H4) ?_ ?_ ?_ ?_⟩
    · exact ⟨_, _, _, [], rfl, hp2, ⟨rfl, fun k t st e => by simp at e⟩, Kp.rfl'⟩
    · rintro k σ H4 _ ⟨_, _, _, _, _, _, _, k4⟩
      exact SqT.of (k4 _ _ (k2 _ _ h3 (by simp)) (by simpa using ne_of_none h3 fp))
    · rintro k y σ H4 hk ⟨o6, o9, o10, as, rfl, hp4, A4, k4⟩
      rw [List.getElem?_map] at hk
      obtain ⟨wt, hwt, rfl⟩ := Option.map_eq_some_iff.mp hk
      have bwt := bw wt (List.mem_of_getElem? hwt)
      refine gn ?_
      have ht4 := k4 _ _ ht2 (by simpa using ntp)
      have htp4 := k4 _ _ htp2 (by simpa using ntpp)
      have lts : (topsOf steps).length = c := by simp [topsOf, ls]
      refine ⟨_, rfl, _, rfl, t, tp, false, false, _, _, rfl, SqT.of ht4, SqT.of htp4, fun po hpo => lc_zipI (ka := false) (kb := false) V.int (fun s top => if 0 < sg * wt * s then top else 0) ht4 htp4 (by omega) hpo ?_ ?_⟩
      · intro u v t' H5 R N hu hv ht' hr'
        have bu := br u hu
        have msw : -1000 ≤ sg * wt ∧ sg * wt ≤ 1000 := by
          rcases hsg with z | z <;> subst z <;> omega
        refine ⟨t', _, rfl, SqT.of upd_same, rfl, _, _, rfl, _, _, rfl, rfl, rfl, yesT ⟨_, rfl, _, rfl, _, _, rfl, rfl, .inl ⟨by omega, by omega⟩, _, rfl, _, _, rfl, rfl, .inl ⟨by omega, by omega⟩, _, _, rfl, rfl, _, rfl, ite2 (fun cc => ?_) (fun cc => ?_)⟩⟩
        · rw [if_pos (of_decide_eq_true cc)] at hr'
          exact ⟨_, rfl, hr'⟩
        · rw [if_neg fun z => cc (decide_eq_true z)] at hr'
          exact hr'
      · intro H5 hpo5 k5
        have hp5 := k5 _ _ hp4 (by simp)
        have A5 := A4.keep0 k5
        have k25 : Kp [p] H2 H5 := k4.trans (k5.sub (by simp))
        have npp : po ≠ p := (ne_of_none hp4 hpo).symm
        have fpo : H2 po = none := k4.free hpo (by simpa using npp)
        have l0 : (List.zipWith (fun s top => if 0 < sg * wt * s then top else 0) r (topsOf steps)).length = c := by
          rw [List.length_zipWith, lr, lts]
          omega
        have nG : ga ≠ po := ne_of_none (k4 _ _ (k2 _ _ hG (by simp)) (by simpa using ne_of_none hG fp)) hpo
        have nS : sa ≠ po := ne_of_none (k4 _ _ (k2 _ _ hS (by simp)) (by simpa using ne_of_none hS fp)) hpo
        have hG5 := k25 _ _ (k2 _ _ hG (by simp)) (by simpa using ne_of_none hG fp)
        have hS5 := k25 _ _ (k2 _ _ hS (by simp)) (by simpa using ne_of_none hS fp)
        refine nx_of ?_
        refine ⟨_, rfl, ga, rfl, for_seq hG5 (fun m σ H6 => ∃ (o10 : Option V) (L : List Int), σ = [some (.ref x), some (.ref sa), some (.ref ga), some (.int i), some (.int sg), some (.ref p), some (.int wt), some (.ref tp), some (.ref t), some (.ref po), o10, none, none] ∧ H6 po = some (.lst (L.map V.int)) ∧ L.length = c ∧ (∀ j, j < c → L.getD j 0 = if (j : Int) ∈ G.take m then st.getD j 0 else if 0 < sg * wt * r.getD j 0 then (topsOf steps).getD j 0 else 0) ∧ Kp [po] H5 H6) ?_ ?_ ?_ ?_⟩
        · refine ⟨_, _, rfl, hpo5, l0, fun j hj => ?_, Kp.rfl'⟩
          rw [if_neg (by simp), List.getD_eq_getElem?_getD, List.getElem?_zipWith, get_getD (show j < r.length by omega), get_getD (show j < (topsOf steps).length by omega)]
          rfl
        · rintro m σ H6 ⟨_, _, _, _, _, _, k6⟩
          exact k6 _ _ hG5 (by simpa using nG)
        · rintro m y σ H6 hm ⟨o10, L, rfl, h6, lL, gL, k6⟩
          rw [List.getElem?_map] at hm
          obtain ⟨g, hg, rfl⟩ := Option.map_eq_some_iff.mp hm
          obtain ⟨g0, g1⟩ := gb g (List.mem_of_getElem? hg)
          obtain ⟨gn', rfl⟩ : ∃ k : Nat, g = (k : Int) := ⟨g.toNat, by omega⟩
          refine gn ?_
          refine ⟨_, rfl, _, rfl, sa, _, _, _, rfl, rfl, SqT.of (k6 _ _ hS5 (by simpa using nS)), atI_nat (by rw [List.getElem?_map, get_getD (show gn' < st.length by omega)]; rfl), ?_⟩
          refine ⟨_, rfl, _, rfl, po, _, _, gn', rfl, rfl, h6, by rw [List.length_map]; exact ixN_nat (by omega), ?_⟩
          refine ⟨_, L.set gn' (st.getD gn' 0), rfl, by rw [upd_same, map_set_int], by simpa using lL, fun j hj => ?_, k6.trans (Kp.rfl'.put (by simp))⟩
          rw [getD_set (by omega), gL j hj, List.take_add_one, hg]
          by_cases e : gn' = j
          · subst e
            rw [if_pos rfl, if_pos (by simp)]
          · rw [if_neg e]
            have e' : ¬ ((j : Int) = (gn' : Int)) := by omega
            simp [e']
        · rintro σ H6 ⟨o10, L, rfl, h6, lL, gL, k6⟩
          rw [List.length_map, List.take_length] at gL
          have eL : L = post sg (topsOf steps) st G r c wt := ext_getD (by rw [lL, post_len]) fun j hj => by
            rw [gL j (by omega), post_get (by omega)]
            rfl
          subst eL
          have hp6 := k6 _ _ hp5 (by simpa using npp.symm)
          have A6 := A5.keep hpo5 k6
          have k26 : Kp [p] H2 H6 := fun a o e n => k6 a o (k25 a o e n) (by simpa using ne_of_none e fpo)
          refine ⟨_, rfl, .inl ⟨rfl, _, SqL.of hp6⟩, _, rfl, po, _, rfl, .inl ⟨SqL.of h6, fun l hl => ?_⟩⟩
          have kl : ∀ cs, Kp cs H6 (upd H6 l (.tup ((post sg (topsOf steps) st G r c wt).map V.int))) := fun cs => Kp.rfl'.new hl
          have hp7 := kl [] _ _ hp6 (by simp)
          have A7 := (A6.keep0 (kl [])).push upd_same
          refine ⟨p, _, _, rfl, rfl, hp7, by rw [List.length_map, A6.len, List.length_map, List.length_take]; exact small1000 (by omega), ?_⟩
          refine ⟨_, _, _, as ++ [l], rfl, by rw [upd_same]; simp, ?_, (k26.trans (kl _)).trans (Kp.rfl'.put (by simp))⟩
          rw [List.take_add_one, hwt, List.map_append]
          exact A7.keep hp7 (Kp.rfl'.put (by simp))
    · rintro σ H4 ⟨o6, o9, o10, as, rfl, hp4, A4, k4⟩
      rw [List.length_map, List.take_length] at A4
      refine ⟨_, rfl, p, _, rfl, SqL.of hp4, fun l hl => ?_⟩
      have k04 : Kp [] H H4 := fun a o e n => k4 a o (k2 a o e (by simp)) (by simpa using ne_of_none e fp)
      exact q l _ (k04.free hl (by simp)) (k04.new hl) ⟨as.reverse, by rw [upd_same, List.map_reverse], A4.rev.keep0 (Kp.rfl'.new hl)⟩

end
end Sw

set_option maxHeartbeats 2000000
namespace Sw
open PySem PySem.Spec PyProof.Rows L2
section
variable {P : Program} {w : World} {K : PySem.W.Frag} {mg : Str → Option Value} {base : Heap}
/-! ### who can be moved -/
def sp_leantTo (K : PySem.W.Frag) : Sp := fun vs H Q _ => ∃ (x a : Addr) (i : Nat) (rows steps past : List (List Int)) (ws r sr : List Int) (bs : List Addr) (w c : Nat), vs = [.ref x, .ref a, .int i] ∧ HallAt K bs H w x rows steps ws ∧ PastAt H a past ∧ rows[i]? = some r ∧ steps[i]? = some sr ∧ 1 ≤ past.length ∧ past.length ≤ 5 ∧ (∀ st ∈ past, st.length = c) ∧ c ≤ 900 ∧ w ≤ 900 ∧ Bd 1000 ws ∧ r.length ≤ 900 ∧ Bd 1000 r ∧ sr.length ≤ 900 ∧ ∀ H', Kp [] H H' → Q (.int (cnt sr (pullR ws past c r))) H'
theorem ok_leantTo (T : Tx K mg) : FnOk P w K mg base CX0 3 (He.fAd K ("leant_to", none)) T.fd_leant_to p_leant_to (sp_leantTo K) := by
  have G_Hall_strings := ok_gets (P := P) (w := w) (base := base) T
  have G_Hall_steps := ok_gett (P := P) (w := w) (base := base) T
  have G_weighed := ok_weighed (P := P) (w := w) (base := base) T
  have G_pulled_by := ok_pulledBy (P := P) (w := w) (base := base) T
  have G_reached := ok_reached (P := P) (w := w) (base := base) T
  refine T.F_leant_to.ok sc_leant_to (fun vs H Q E h => ?_) (fun cdv A outer s H vs Q E hr h => ?_)
  · obtain ⟨_, _, _, _, _, _, _, _, _, _, _, _, rfl, _⟩ := h
    rfl
  · obtain ⟨x, a, i, rows, steps, past, ws, r, sr, bs, w', c, rfl, hA, hP, er, es, p1, p5, lst, c9, lw, bw, lr, br, ls, q⟩ := h
    refine ⟨_, PSs.nox (pss_cons (ps_set (i := 3) sc_leant_to.nd rfl (by first | exact Or.inl rfl | exact Or.inr rfl) (pe_call G_pulled_by (hr.mono (by first | decide | omega)) rfl T.g_pulled_by T.F_pulled_by.kp T.bd_pulled_by .nil pass0 (pa_cons (pe_ix ix_tup (pe_meth0 (pv 0) T.cl_Hall T.m_Hall_strings G_Hall_strings (hr.mono (by first | decide | omega)) T.bd_Hall_strings .nil pass0) (pv 2) (fun _ _ => rfl)) (pa_cons (pe_call G_weighed (hr.mono (by first | decide | omega)) rfl T.g_weighed T.F_weighed.kp T.bd_weighed .nil pass0 (pa_cons (pv 0) (pa_cons (pv 1) pa_nil))) pa_nil))))
      (pss_one (ps_ret (pe_call G_reached (hr.mono (by first | decide | omega)) rfl T.g_reached T.F_reached.kp T.bd_reached .nil pass0 (pa_cons (pe_ix ix_tup (pe_meth0 (pv 0) T.cl_Hall T.m_Hall_steps G_Hall_steps (hr.mono (by first | decide | omega)) T.bd_Hall_steps .nil pass0) (pv 2) (fun _ _ => rfl)) (pa_cons (pv 3) pa_nil)))))), ?_⟩
    obtain ⟨dx, a1, a2, a3, hx, nx, d1, d2, d3⟩ := id hA.ex
    obtain ⟨xs, t, h1, at1, ht⟩ := d1.trow er
    refine ⟨_, rfl, x, dx, _, rfl, hx, flds_no _ _ _ (by decide +kernel) (by decide +kernel) (by decide +kernel), x, dx, a1, a2, a3, rfl, hx, ?_⟩
    refine ⟨_, rfl, a1, _, _, _, rfl, rfl, SqT.of h1, at1, ?_⟩
    refine ⟨_, rfl, _, rfl, x, a, rows, steps, ws, past, bs, w', c, rfl, hA.s, hP, p1, p5, lst, c9, lw, bw, fun p H1 fp k1 hp => ?_⟩
    refine ⟨t, p, false, true, r, _, rfl, k1 _ _ ht (by simp), hp, lr, br, fun H2 k2 => ?_⟩
    have k12 := k1.trans k2
    obtain ⟨xs2, t2, h2, at2, ht2⟩ := d2.trow es
    have hx2 := k12 _ _ hx (by simp)
    refine ⟨_, rfl, x, dx, _, rfl, hx2, flds_no _ _ _ (by decide +kernel) (by decide +kernel) (by decide +kernel), x, dx, a1, a2, a3, rfl, hx2, ?_⟩
    refine ⟨_, rfl, a2, _, _, _, rfl, rfl, SqT.of (k12 _ _ h2 (by simp)), at2, ?_⟩
    exact ⟨_, rfl, t2, sr, _, rfl, k12 _ _ ht2 (by simp), ls, fun H3 k3 => q H3 (k12.trans k3)⟩
/-- what is known of a hall, a standing and a group -/
structure Grp (K : PySem.W.Frag) (bs : List Addr) (H : Hp) (w : Nat) (x sa ga : Addr) (kd : Bool) (rows steps : List (List Int)) (ws st G : List Int) (c : Nat) : Prop where
  ha : HallAt K bs H w x rows steps ws
  hs : H sa = some (.tup (st.map V.int))
  hg : H ga = some (sqo kd (G.map V.int))
  gb : ∀ g ∈ G, 0 ≤ g ∧ g < c
  lr : rows.length = c
  row : ∀ r ∈ rows, r.length = c ∧ Bd 1000 r
  ls : steps.length = c
  s4 : ∀ r ∈ steps, r.length ≤ 4
  lst : st.length = c
  c9 : c ≤ 900
  lw : w ≤ 900
  bw : Bd 1000 ws
  w5 : ws.length ≤ 5
  w1 : 1 ≤ ws.length
theorem Grp.keep {bs : List Addr} {H H' : Hp} {w' : Nat} {x sa ga : Addr} {kd : Bool} {rows steps : List (List Int)} {ws st G : List Int} {c : Nat} (h : Grp K bs H w' x sa ga kd rows steps ws st G c) (k : Kp [] H H') : Grp K bs H' w' x sa ga kd rows steps ws st G c :=
  ⟨h.ha.keep (k.sub (by simp)), k _ _ h.hs (by simp), k _ _ h.hg (by simp), h.gb, h.lr, h.row, h.ls, h.s4, h.lst, h.c9, h.lw, h.bw, h.w5, h.w1⟩
def endB (sg : Int) (rows steps : List (List Int)) (ws st G : List Int) (c : Nat) (g : Nat) : Bool := decide (cnt (steps.getD g []) (spanL sg (topsOf steps) st G (rows.getD g []) c ws) = st.getD g 0)
def stB (rows steps : List (List Int)) (ws st G : List Int) (c : Nat) (g : Nat) : Bool := endB (-1) rows steps ws st G c g && endB 1 rows steps ws st G c g
theorem rowD {rows : List (List Int)} {g : Nat} {r : List Int} (h : rows[g]? = some r) : rows.getD g [] = r := by
  rw [List.getD_eq_getElem?_getD, h]
  rfl
def sp_moving (K : PySem.W.Frag) : Sp := fun vs H Q _ => ∃ (x sa ga : Addr) (i : Nat) (rows steps : List (List Int)) (ws st G : List Int) (bs : List Addr) (w c : Nat) (kd : Bool), vs = [.ref x, .ref sa, .ref ga, .int i] ∧ Grp K bs H w x sa ga kd rows steps ws st G c ∧ i < c ∧
  ∀ (v : V) (H' : Hp), Kp [] H H' → ((v = .non ∧ stB rows steps ws st G c i = true) ∨ (∃ p, v = .ref p ∧ H p = none ∧ stB rows steps ws st G c i = false ∧ ∃ sg, (sg = 1 ∨ sg = -1) ∧ endB sg rows steps ws st G c i = false ∧ PastL H' p (farP sg (topsOf steps) st G (rows.getD i []) c ws))) → Q v H'
theorem ok_moving (T : Tx K mg) : FnOk P w K mg base CX0 4 (He.fAd K ("moving_past", none)) T.fd_moving_past p_moving_past (sp_moving K) := by
  have G_far_past := ok_far (P := P) (w := w) (base := base) T
  have G_leant_to := ok_leantTo (P := P) (w := w) (base := base) T
  refine T.F_moving_past.ok sc_moving_past (fun vs H Q E h => ?_) (fun cdv A outer s H vs Q E hr h => ?_)
  · obtain ⟨_, _, _, _, _, _, _, _, _, _, _, _, _, rfl, _⟩ := h
    rfl
  · obtain ⟨x, sa, ga, i, rows, steps, ws, st, G, bs, w', c, kd, rfl, g, hi, q⟩ := h
    refine ⟨_, PSs.nox (pss_cons (ps_for PassesOwn.never rfl (pi_tup (pe_tup (pa_cons (pe_un un_neg pe_int) (pa_cons pe_int pa_nil)))) (pg_name (i := 4) sc_moving_past.nd rfl (by first | exact Or.inl rfl | exact Or.inr rfl))
      (pss_cons (ps_set (i := 5) sc_moving_past.nd rfl (by first | exact Or.inl rfl | exact Or.inr rfl) (pe_call G_far_past (hr.mono (by first | decide | omega)) rfl T.g_far_past T.F_far_past.kp T.bd_far_past .nil pass0 (pa_cons (pv 0) (pa_cons (pv 1) (pa_cons (pv 2) (pa_cons (pv 3) (pa_cons (pv 4) pa_nil)))))))
      (pss_one (ps_if (pt_cmpR op_ne (pe_call G_leant_to (hr.mono (by first | decide | omega)) rfl T.g_leant_to T.F_leant_to.kp T.bd_leant_to .nil pass0 (pa_cons (pv 0) (pa_cons (pv 5) (pa_cons (pv 3) pa_nil)))) (pe_ix ix_tup (pv 1) (pv 3) (fun _ _ => rfl)) (nomark _))
      (pss_one (ps_ret (pv 5)))
      pss_nil))))
      (pss_one (ps_ret pe_non))), ?_⟩
    have hlr := g.lr
    have hls := g.ls
    have hlt := g.lst
    have c9 := g.c9
    have er : rows[i]? = some (rows.getD i []) := by
      have : rows[i]? = some (rows[i]'(by omega)) := by simp
      rw [rowD this]
      exact this
    have es : steps[i]? = some (steps.getD i []) := by
      have : steps[i]? = some (steps[i]'(by omega)) := by simp
      rw [rowD this]
      exact this
    obtain ⟨lr, br⟩ := g.row _ (List.mem_of_getElem? er)
    have s4 := g.s4 _ (List.mem_of_getElem? es)
    refine ⟨1, rfl, by show 2 ≤ sizeLine; decide, fun u hu => ?_⟩
    have k1 : Kp [] H (upd H u (.tup [V.int (-1), V.int 1])) := Kp.rfl'.new hu
    have hu1 : (upd H u (.tup [V.int (-1), V.int 1])) u = some (.tup [V.int (-1), V.int 1]) := upd_same
    generalize upd H u (.tup [V.int (-1), V.int 1]) = H1 at k1 hu1 ⊢
    refine ⟨u, rfl, ⟨_, SqT.of hu1⟩, for_tup (K := K) (a := u) (xs := [V.int (-1), V.int 1]) (fun j σ H2 => ∃ (o4 o5 : Option V), σ = [some (.ref x), some (.ref sa), some (.ref ga), some (.int i), o4, o5] ∧ (0 < j → endB (-1) rows steps ws st G c i = true) ∧ (1 < j → endB 1 rows steps ws st G c i = true) ∧ Kp [] H1 H2) ?_ ?_ ?_ ?_⟩
    · exact ⟨_, _, rfl, fun z => absurd z (by decide), fun z => absurd z (by decide), Kp.rfl'⟩
    · rintro j σ H2 _ ⟨_, _, _, _, _, k2⟩
      exact SqT.of (k2 _ _ hu1 (by simp))
    · rintro j y σ H2 hj ⟨o4, o5, rfl, f1, f2, k2⟩
      have jl := (List.getElem?_eq_some_iff.mp hj).1
      obtain ⟨sg, ey, hsg, esg⟩ : ∃ sg : Int, y = V.int sg ∧ (sg = 1 ∨ sg = -1) ∧ sg = if j = 0 then -1 else 1 := by
        rcases (by simp at jl; omega : j = 0 ∨ j = 1) with z | z <;> subst z <;> cases hj
        · exact ⟨-1, rfl, .inr rfl, rfl⟩
        · exact ⟨1, rfl, .inl rfl, rfl⟩
      subst ey
      refine gn ?_
      have k02 := k1.trans k2
      have g2 := g.keep k02
      refine ⟨_, rfl, _, rfl, _, rfl, _, rfl, _, rfl, x, sa, ga, i, sg, rows, steps, ws, st, G, _, bs, w', c, kd, rfl, g2.ha, g2.hs, g2.hg, g.gb, er, lr, hls, hlt, c9, g.lw, g.bw, br, g.w5, hsg, fun p H3 fp k3 hp => ?_⟩
      have k03 := k02.trans k3
      have g3 := g.keep k03
      have far := far_len (sg := sg) (ts := topsOf steps) (st := st) (G := G) (r := rows.getD i []) (ws := ws) (c := c)
      have frow : ∀ p ∈ farP sg (topsOf steps) st G (rows.getD i []) c ws, p.length = c := fun p hp => by
        obtain ⟨w, _, rfl⟩ := far_row p hp
        exact post_len
      refine ⟨_, rfl, _, rfl, _, rfl, x, p, i, rows, steps, _, ws, _, _, bs, w', c, rfl, g3.ha, hp.past, er, es, by rw [far]; exact g.w1, by rw [far]; exact g.w5, frow, c9, g.lw, g.bw, by omega, br, by omega, fun H4 k4 => ?_⟩
      have k04 := k03.trans k4
      refine ⟨_, rfl, _, rfl, sa, _, _, V.int (st.getD i 0), rfl, rfl, SqT.of ((g.keep k04).hs), atI_nat (by rw [List.getElem?_map, get_getD (show i < st.length by omega)]; rfl), rfl, _, rfl, ?_⟩
      rw [span_eq lr]
      obtain ⟨A', eA⟩ : ∃ A', cnt (steps.getD i []) (spanL sg (topsOf steps) st G (rows.getD i []) c ws) = A' := ⟨_, rfl⟩
      obtain ⟨B', eB⟩ : ∃ B', st.getD i 0 = B' := ⟨_, rfl⟩
      have eE : endB sg rows steps ws st G c i = decide (A' = B') := by
        unfold endB
        rw [eA, eB]
      rw [eA, eB]
      by_cases ce : A' = B'
      · refine iteN (by simp [ce]) ?_
        have eb : endB sg rows steps ws st G c i = true := by rw [eE]; exact decide_eq_true ce
        refine ⟨_, _, rfl, fun z => ?_, fun z => ?_, (k2.trans k3).trans k4⟩
        · by_cases jz : j = 0
          · rw [if_pos jz] at esg
            rw [esg] at eb
            exact eb
          · exact f1 (by omega)
        · rw [if_neg (by omega)] at esg
          rw [esg] at eb
          exact eb
      · refine iteC (by simp [ce]) ⟨_, rfl, q _ H4 k04 (.inr ⟨p, rfl, k02.free fp (by simp), ?_, sg, hsg, by rw [eE]; exact decide_eq_false ce, hp.keep k4⟩)⟩
        have eb : endB sg rows steps ws st G c i = false := by rw [eE]; exact decide_eq_false ce
        unfold stB
        rcases hsg with z | z <;> rw [z] at eb <;> rw [eb] <;> simp
    · rintro σ H2 ⟨o4, o5, rfl, f1, f2, k2⟩
      refine q _ H2 (k1.trans k2) (.inl ⟨rfl, ?_⟩)
      unfold stB
      rw [f1 (by decide), f2 (by decide)]
      rfl
def sp_firm (K : PySem.W.Frag) : Sp := fun vs H Q _ => ∃ (x sa ga : Addr) (rows steps : List (List Int)) (ws st G : List Int) (bs : List Addr) (w c : Nat) (kd : Bool), vs = [.ref x, .ref sa, .ref ga] ∧ Grp K bs H w x sa ga kd rows steps ws st G c ∧ G.length ≤ 900 ∧
  ∀ (H' : Hp), Kp [] H H' → Q (.bl ((G.map fun g => stB rows steps ws st G c g.toNat).all id)) H'
theorem ok_firm (T : Tx K mg) : FnOk P w K mg base CX0 5 (He.fAd K ("is_firm", none)) T.fd_is_firm p_is_firm (sp_firm K) := by
  have G_moving_past := ok_moving (P := P) (w := w) (base := base) T
  refine T.F_is_firm.ok sc_is_firm (fun vs H Q E h => ?_) (fun cdv A outer s H vs Q E hr h => ?_)
  · obtain ⟨_, _, _, _, _, _, _, _, _, _, _, _, rfl, _⟩ := h
    rfl
  · obtain ⟨x, sa, ga, rows, steps, ws, st, G, bs, w', c, kd, rfl, g, l9, q⟩ := h
    refine ⟨_, PSs.nox (pss_one (ps_ret (pe_callB (cr_all rfl) (by rfl) T.b_all (by decide +kernel) (pa_cons (pe_lc (own := [("person", 3)]) (g := (gName 3)) (tt := tYes) rfl sc_is_firm.nd (pi_seq (pv 2)) (blkOk_by (own := [("person", 3)]) (N := n_is_firm) (sc := defScope s_is_firm) (by decide +kernel)) (fun _ _ _ _ _ => (pg_name (i := 3) sc_is_firm.nd rfl (by first | exact Or.inl rfl | exact Or.inr rfl))) (fun _ _ _ _ _ => pts_nil) (fun _ _ _ _ _ => (pe_cmp (pc_isN (pe_call G_moving_past (hr.mono (by first | decide | omega)) rfl T.g_moving_past T.F_moving_past.kp T.bd_moving_past .nil pass0 (pa_cons (pv 0) (pa_cons (pv 1) (pa_cons (pv 2) (pa_cons (pv 3) pa_nil)))))) rfl))) pa_nil)))), ?_⟩
    refine ⟨_, rfl, ga, rfl, lc_seq g.hg (fun p j H3 => H3 p = some (.lst (((G.take j).map fun g => stB rows steps ws st G c g.toNat).map V.bl)) ∧ Kp [] H H3) ?_ ?_ ?_ ?_⟩
    · exact fun p hp => ⟨by rw [upd_same]; rfl, Kp.rfl'.new hp⟩
    · rintro p j H3 _ ⟨_, k3⟩
      exact k3 _ _ g.hg (by simp)
    · rintro p j y H3 hp hj ⟨h3, k3⟩
      rw [List.getElem?_map] at hj
      obtain ⟨z, hz, rfl⟩ := Option.map_eq_some_iff.mp hj
      obtain ⟨z0, z1⟩ := g.gb z (List.mem_of_getElem? hz)
      have hjl := (List.getElem?_eq_some_iff.mp hz).1
      obtain ⟨zn, rfl⟩ : ∃ k : Nat, z = (k : Int) := ⟨z.toNat, by omega⟩
      refine ⟨rfl, yesT ⟨_, rfl, _, rfl, _, rfl, _, rfl, x, sa, ga, zn, rows, steps, ws, st, G, bs, w', c, kd, rfl, g.keep k3, by omega, fun v H4 k4 hv => ?_⟩⟩
      have ev : decide (v = V.non) = stB rows steps ws st G c zn := by
        rcases hv with ⟨e, b⟩ | ⟨p', e, _, b, _⟩
        · rw [e, b]
          rfl
        · rw [e, b]
          rfl
      refine ⟨_, k4 _ _ h3 (by simp), by rw [List.length_map, List.length_map, List.length_take]; exact small1000 (by omega), ?_, (k3.trans k4).own hp⟩
      rw [upd_same, List.take_add_one, hz, ev]
      simp
    · rintro p H3 hp ⟨h3, k3⟩
      rw [List.length_map, List.take_length] at h3
      exact ⟨p, _, rfl, SqL.of h3, q H3 k3⟩

end
end Sw

set_option maxHeartbeats 2000000
namespace Sw
open PySem PySem.Spec PyProof.Rows L2
section
variable {P : Program} {w : World} {K : PySem.W.Frag} {mg : Str → Option Value} {base : Heap}
theorem inV_ints (s : Int) : ∀ fs : List Int, inV (.int s) (fs.map V.int) = decide (s ∈ fs)
  | [] => by simp [inV]
  | x :: fs => by
    have ih := inV_ints s fs
    unfold inV at ih ⊢
    rw [List.map_cons, List.any_cons, ih]
    by_cases h : x = s
    · subst h
      simp [eqV]
    · have h2 : s ≠ x := fun z => h z.symm
      simp [eqV, h, h2]
theorem flat_ints (fs : List Int) : (fs.map V.int).all flatV = true := by
  rw [List.all_map, List.all_eq_true]
  intro x _
  rfl
theorem min_far {x t m : Int} (t0 : 0 ≤ t) (h1 : m ∈ [0, x * t]) (h2 : ∀ y ∈ [0, x * t], m ≤ y) : m = x * (if 0 < -x then t else 0) := by
  have a := h2 0 (by simp)
  have b := h2 (x * t) (by simp)
  simp at h1
  by_cases c : 0 < -x
  · have z := Int.mul_nonneg (a := -x) (b := t) (by omega) t0
    rw [Int.neg_mul] at z
    rw [if_pos c]
    omega
  · have z := Int.mul_nonneg (a := x) (b := t) (by omega) t0
    rw [if_neg c, Int.mul_zero]
    omega
theorem max_far {x t m : Int} (t0 : 0 ≤ t) (h1 : m ∈ [0, x * t]) (h2 : ∀ y ∈ [0, x * t], y ≤ m) : m = x * (if 0 < x then t else 0) := by
  have a := h2 0 (by simp)
  have b := h2 (x * t) (by simp)
  simp at h1
  by_cases c : 0 < x
  · have z := Int.mul_nonneg (a := x) (b := t) (by omega) t0
    rw [if_pos c]
    omega
  · have z := Int.mul_nonneg (a := -x) (b := t) (by omega) t0
    rw [Int.neg_mul] at z
    rw [if_neg c, Int.mul_zero]
    omega
theorem ev_in {sg : Int} {ts st G r : List Int} {j : Nat} {w : Int} (h : (j : Int) ∈ G) : ev sg ts st G r j w = w * r.getD j 0 * st.getD j 0 := by
  unfold ev pv1
  rw [if_pos h]
theorem ev_lo {ts st G r : List Int} {j : Nat} {w : Int} (h : ¬ (j : Int) ∈ G) : ev (-1) ts st G r j w = w * r.getD j 0 * (if 0 < -(w * r.getD j 0) then ts.getD j 0 else 0) := by
  unfold ev pv1
  have e1 : -1 * w * r.getD j 0 = -(w * r.getD j 0) := by rw [Int.mul_assoc, Int.neg_mul, Int.one_mul]
  rw [if_neg h, e1]
theorem ev_hi {ts st G r : List Int} {j : Nat} {w : Int} (h : ¬ (j : Int) ∈ G) : ev 1 ts st G r j w = w * r.getD j 0 * (if 0 < w * r.getD j 0 then ts.getD j 0 else 0) := by
  unfold ev pv1
  rw [if_neg h, Int.one_mul]
/-- what a law's own look is told -/
structure Looks (H : Hp) (bs : List Addr) (ra sa ma pa ca : Addr) (r : List Int) (steps : List (List Int)) (ws st G : List Int) (c : Nat) : Prop where
  hr : H ra = some (.lst (r.map V.int))
  ds : D bs H 12 2 (.ref sa) (dII steps)
  hm : H ma = some (.lst (ws.map V.int))
  hp : H pa = some (.tup (st.map V.int))
  hc : H ca = some (.lst (G.map V.int))
  lr : r.length = c
  ls : steps.length = c
  lst : st.length = c
  c12 : c ≤ 12
  w5 : ws.length ≤ 5
  bw : Bd 9 ws
  br : Bd 20 r
  bs : ∀ x ∈ st, 0 ≤ x ∧ x ≤ 4
  s4 : ∀ r ∈ steps, r.length ≤ 4
theorem Looks.keep {H H' : Hp} {bs : List Addr} {ra sa ma pa ca : Addr} {r : List Int} {steps : List (List Int)} {ws st G : List Int} {c : Nat} (h : Looks H bs ra sa ma pa ca r steps ws st G c) (k : Kp [] H H') : Looks H' bs ra sa ma pa ca r steps ws st G c :=
  ⟨k _ _ h.hr (by simp), h.ds.keep (k.sub (by simp)), k _ _ h.hm (by simp), k _ _ h.hp (by simp), k _ _ h.hc (by simp), h.lr, h.ls, h.lst, h.c12, h.w5, h.bw, h.br, h.bs, h.s4⟩
theorem tops_get {steps : List (List Int)} {j : Nat} {r : List Int} (h : steps[j]? = some r) : (topsOf steps).getD j 0 = (r.length : Int) := by
  unfold topsOf
  rw [List.getD_eq_getElem?_getD, List.getElem?_map, h]
  rfl
def sp_lspan : Sp := fun vs H Q _ => ∃ (bs : List Addr) (ra sa ma pa ca : Addr) (r : List Int) (steps : List (List Int)) (ws st G : List Int) (c : Nat), vs = [.ref ra, .ref sa, .ref ma, .ref pa, .ref ca] ∧ Looks H bs ra sa ma pa ca r steps ws st G c ∧
  ∀ (p : Addr) (H' : Hp), H p = none → Kp [] H H' → H' p = some (.tup [.int (spanL (-1) (topsOf steps) st G r c ws), .int (spanL 1 (topsOf steps) st G r c ws)]) → Q (.ref p) H'
theorem ok_lspan (T : Tx K mg) : FnOk P w K mg base CX0 1 (He.fAd K ("_law_span", none)) T.fd__law_span p__law_span sp_lspan := by
  refine T.F__law_span.ok sc__law_span (fun vs H Q E h => ?_) (fun cdv A outer s H vs Q E hr h => ?_)
  · obtain ⟨_, _, _, _, _, _, _, _, _, _, _, _, rfl, _⟩ := h
    rfl
  · obtain ⟨bs, ra, sa, ma, pa, ca, r, steps, ws, st, G, c, rfl, L, q⟩ := h
    refine ⟨_, PSs.nox (pss_cons (ps_asg (pe_tup (pa_cons pe_int (pa_cons pe_int pa_nil))) (pg_tup rfl (pgs_cons (pg_name (i := 5) sc__law_span.nd rfl (by first | exact Or.inl rfl | exact Or.inr rfl)) (pgs_cons (pg_name (i := 6) sc__law_span.nd rfl (by first | exact Or.inl rfl | exact Or.inr rfl)) pgs_nil))))
      (pss_cons (ps_for PassesOwn.never rfl (pi_enum (by rfl) T.b_enumerate (pa_cons (pv 0) pa_nil)) (pg_tup rfl (pgs_cons (pg_name (i := 7) sc__law_span.nd rfl (by first | exact Or.inl rfl | exact Or.inr rfl)) (pgs_cons (pg_name (i := 8) sc__law_span.nd rfl (by first | exact Or.inl rfl | exact Or.inr rfl)) pgs_nil)))
      (pss_one (ps_for PassesOwn.never rfl (pi_list (pv 2)) (pg_name (i := 9) sc__law_span.nd rfl (by first | exact Or.inl rfl | exact Or.inr rfl))
      (pss_cons (ps_set (i := 10) sc__law_span.nd rfl (by first | exact Or.inl rfl | exact Or.inr rfl) (pe_op op_mul (pv 9) (pv 8)))
      (pss_cons (ps_set (i := 11) sc__law_span.nd rfl (by first | exact Or.inl rfl | exact Or.inr rfl) (pe_ifExp (pt_cmpR op_in_seq (pv 7) (pv 4) rfl) (pe_op op_rep (pe_lst (pa_cons (pe_op op_mul (pv 10) (pe_ix ix_tup (pv 3) (pv 7) (fun _ _ => rfl))) pa_nil)) pe_int) (pe_lst (pa_cons pe_int (pa_cons (pe_op op_mul (pv 10) (pe_callB call_len (by rfl) T.b_len (by decide +kernel) (pa_cons (pe_ix ix_list (pv 1) (pv 7) (fun _ _ => rfl)) pa_nil))) pa_nil)))))
      (pss_one (ps_par (i := 5) (j := 6) (by rfl) sc__law_span.nd rfl rfl (by decide) rfl rfl (pa_cons (pe_op op_add (pv 5) (pe_callB (cr_min rfl) (by rfl) T.b_min (by decide +kernel) (pa_cons (pv 11) pa_nil))) (pa_cons (pe_op op_add (pv 6) (pe_callB (cr_max rfl) (by rfl) T.b_max (by decide +kernel) (pa_cons (pv 11) pa_nil))) pa_nil)) (by rfl))))))))
      (pss_one (ps_ret (pe_tup (pa_cons (pv 5) (pa_cons (pv 6) pa_nil))))))), ?_⟩
    have c12 := L.c12
    have hls := L.ls
    have hlr := L.lr
    have hlt := L.lst
    obtain ⟨xs, hsa, nsa, lx, _, al⟩ := L.ds.rowII
    refine ⟨by show 2 ≤ sizeLine; decide, fun t0 ht0 => ⟨t0, _, rfl, SqT.of upd_same, rfl, _, _, rfl, _, _, rfl, rfl, ?_⟩⟩
    have k00 : Kp [] H (upd H t0 (.tup [.int 0, .int 0])) := Kp.rfl'.new ht0
    generalize upd H t0 (.tup [.int 0, .int 0]) = H0 at k00 ⊢
    refine ⟨_, rfl, ra, _, rfl, SqL.of (k00 _ _ L.hr (by simp)), for_it (walk_enum (K := K) (a := ra) (xs := r.map V.int)) (fun j σ H1 => ∃ (o7 o8 o9 o10 o11 : Option V) (lo hi : Int), σ = [some (.ref ra), some (.ref sa), some (.ref ma), some (.ref pa), some (.ref ca), some (.int lo), some (.int hi), o7, o8, o9, o10, o11] ∧ lo = SU (fun j => (ws.map (ev (-1) (topsOf steps) st G r j)).sum) j ∧ hi = SU (fun j => (ws.map (ev 1 (topsOf steps) st G r j)).sum) j ∧ Kp [] H H1) ?_ ?_ ?_ ?_⟩
    · exact ⟨_, _, _, _, _, 0, 0, rfl, rfl, rfl, k00⟩
    · rintro j σ H1 _ ⟨_, _, _, _, _, _, _, _, _, _, k1⟩
      exact SqL.of (k1 _ _ L.hr (by simp))
    · rintro j y σ H1 H2 hj ⟨o7, o8, o9, o10, o11, lo, hi, rfl, elo, ehi, k1⟩ ⟨t, u, v, rfl, ft, rfl, hu, hv⟩
      cases hu
      rw [List.length_map, hlr] at hj
      simp only [List.getElem?_map] at hv
      obtain ⟨s', hs', rfl⟩ := Option.map_eq_some_iff.mp hv
      have es : r.getD j 0 = s' := by
        rw [List.getD_eq_getElem?_getD, hs']
        rfl
      have bs' := L.br s' (List.mem_of_getElem? hs')
      have k2 : Kp [] H (upd H1 t (.tup [.int (j : Nat), .int s'])) := k1.new ft
      have ht2 : (upd H1 t (.tup [.int (j : Nat), .int s'])) t = some (.tup [.int (j : Nat), .int s']) := upd_same
      generalize upd H1 t (.tup [.int (j : Nat), .int s']) = H2 at k2 ht2 ⊢
      refine ⟨t, _, rfl, SqT.of ht2, rfl, _, _, rfl, _, _, rfl, rfl, ?_⟩
      have L2' := L.keep k2
      refine ⟨_, rfl, ma, rfl, ⟨_, SqL.of L2'.hm⟩, for_list (K := K) (a := ma) (xs := ws.map V.int) (fun k σ H3 => ∃ (o9 o10 o11 : Option V) (lo hi : Int), σ = [some (.ref ra), some (.ref sa), some (.ref ma), some (.ref pa), some (.ref ca), some (.int lo), some (.int hi), some (.int (j : Nat)), some (.int s'), o9, o10, o11] ∧ lo = SU (fun j => (ws.map (ev (-1) (topsOf steps) st G r j)).sum) j + ((ws.take k).map (ev (-1) (topsOf steps) st G r j)).sum ∧ hi = SU (fun j => (ws.map (ev 1 (topsOf steps) st G r j)).sum) j + ((ws.take k).map (ev 1 (topsOf steps) st G r j)).sum ∧ Kp [] H H3) ?_ ?_ ?_ ?_⟩
      · exact ⟨_, _, _, lo, hi, rfl, by simp [elo], by simp [ehi], k2⟩
      · rintro k σ H3 _ ⟨_, _, _, _, _, _, _, _, k3⟩
        exact SqL.of (k3 _ _ L.hm (by simp))
      · rintro k y σ H3 hk ⟨o9, o10, o11, lo, hi, rfl, elo, ehi, k3⟩
        rw [List.getElem?_map] at hk
        obtain ⟨wt, hwt, rfl⟩ := Option.map_eq_some_iff.mp hk
        have bwt := L.bw wt (List.mem_of_getElem? hwt)
        refine gn ?_
        have L3 := L.keep k3
        refine ⟨_, rfl, _, rfl, _, _, rfl, rfl, .inl ⟨by omega, by omega⟩, ?_⟩
        have mb := mul_bd (x := wt) (y := s') (a := 9) (c := 20) bwt bs'
        refine nx_of (seq_cutA (fun σ H4 => ∃ (l : Addr) (a b : Int), σ = [some (.ref ra), some (.ref sa), some (.ref ma), some (.ref pa), some (.ref ca), some (.int lo), some (.int hi), some (.int (j : Nat)), some (.int s'), some (.int wt), some (.int (wt * s')), some (.ref l)] ∧ H4 l = some (.lst [.int a, .int b]) ∧ (∀ m, m ∈ [a, b] → (∀ y, y ∈ [a, b] → m ≤ y) → m = ev (-1) (topsOf steps) st G r j wt) ∧ (∀ m, m ∈ [a, b] → (∀ y, y ∈ [a, b] → y ≤ m) → m = ev 1 (topsOf steps) st G r j wt) ∧ Kp [] H H4) ?_ fun nx hnx => ?_)
        · rintro σ H4 ⟨l, a, b, rfl, h4, f1, f2, k4⟩
          refine ⟨_, rfl, _, rfl, l, [a, b], rfl, SqL.of h4, Nat.zero_lt_succ _, fun m1 m11 m12 => ⟨_, _, rfl, rfl, _, rfl, _, rfl, l, [a, b], rfl, SqL.of h4, Nat.zero_lt_succ _, fun m2 m21 m22 => ⟨_, _, rfl, rfl, _, _, rfl, ?_⟩⟩⟩
          refine ⟨_, _, _, lo + m1, hi + m2, rfl, ?_, ?_, k4⟩
          · rw [f1 m1 m11 m12, List.take_add_one, hwt, List.map_append, List.sum_append, elo]
            simp
            omega
          · rw [f2 m2 m21 m22, List.take_add_one, hwt, List.map_append, List.sum_append, ehi]
            simp
            omega
        · refine ⟨_, rfl, _, rfl, ca, _, rfl, .inl (SqL.of L3.hc), rfl, flat_ints _, _, rfl, ?_⟩
          rw [inV_ints]
          refine ite2 (fun cc => ?_) (fun cc => ?_)
          · have hG : (j : Int) ∈ G := by simpa using cc
            refine ⟨_, rfl, _, rfl, _, rfl, pa, _, _, V.int (st.getD j 0), rfl, rfl, SqT.of L3.hp, atI_nat (by rw [List.getElem?_map, get_getD (show j < st.length by omega)]; rfl), _, _, rfl, rfl, .inl ⟨by omega, by omega⟩, by show 1 ≤ sizeLine; decide, fun l1 hl1 => ?_⟩
            refine ⟨l1, 2, _, rfl, rfl, upd_same, by decide, by decide, by show 1 * 2 ≤ sizeLine; decide, fun l hl => ?_⟩
            refine hnx _ _ ⟨l, wt * s' * st.getD j 0, wt * s' * st.getD j 0, rfl, upd_same, fun m hm _ => ?_, fun m hm _ => ?_, (k3.new hl1).new hl⟩
            · rw [ev_in hG, es]
              simpa using hm
            · rw [ev_in hG, es]
              simpa using hm
          · have hG : ¬ (j : Int) ∈ G := by simpa using cc
            obtain ⟨sr, esr⟩ : ∃ sr, steps[j]? = some sr := ⟨steps[j]'(by omega), by simp⟩
            obtain ⟨a, gx, ha, na, _⟩ := al j sr esr
            have et := tops_get esr
            refine ⟨_, rfl, _, rfl, _, rfl, sa, _, _, V.ref a, rfl, rfl, SqL.of (k3 _ _ hsa (by simp)), atI_nat gx, _, sr.length, rfl, .inl ⟨_, SqL.of (k3 _ _ ha (by simp)), by simp⟩, _, _, rfl, rfl, .inl ⟨by omega, by omega⟩, by show 2 ≤ sizeLine; decide, fun l hl => ?_⟩
            refine hnx _ _ ⟨l, 0, wt * s' * (sr.length : Int), rfl, upd_same, fun m hm h2 => ?_, fun m hm h2 => ?_, k3.new hl⟩
            · rw [ev_lo hG, es, et]
              exact min_far (by omega) hm h2
            · rw [ev_hi hG, es, et]
              exact max_far (by omega) hm h2
      · rintro σ H3 ⟨o9, o10, o11, lo, hi, rfl, elo, ehi, k3⟩
        rw [List.length_map, List.take_length] at elo ehi
        exact ⟨_, _, _, _, _, lo, hi, rfl, by rw [elo, SU_succ], by rw [ehi, SU_succ], k3⟩
    · rintro σ H1 ⟨o7, o8, o9, o10, o11, lo, hi, rfl, elo, ehi, k1⟩
      rw [List.length_map, hlr] at elo ehi
      refine ⟨_, rfl, _, rfl, by show 2 ≤ sizeLine; decide, fun t ht => q t _ (k1.free ht (by simp)) (k1.new ht) ?_⟩
      rw [upd_same, elo, ehi]
      rfl

end
end Sw

set_option maxHeartbeats 2000000
namespace Sw
open PySem PySem.Spec PyProof.Rows L2
section
variable {P : Program} {w : World} {K : PySem.W.Frag} {mg : Str → Option Value} {base : Heap}
theorem kIn {X : Cx} {K : PySem.W.Frag} (h : X.K = K) : OpR X (compareOp .In) (rIn K false) := by
  subst h
  exact op_in_seq
/-! ### a law's own look at a group -/
structure Wd (H : Hp) (b ra sa ma pa : Addr) (rows steps : List (List Int)) (ws st : List Int) (c : Nat) : Prop where
  dr : D [b] H 12 2 (.ref ra) (dII rows)
  ds : D [b] H 12 2 (.ref sa) (dII steps)
  hm : H ma = some (.lst (ws.map V.int))
  nm : ma ≠ b
  hp : H pa = some (.tup (st.map V.int))
  np : pa ≠ b
  c1 : 1 ≤ c
  c12 : c ≤ 12
  lr : rows.length = c
  row : ∀ r ∈ rows, r.length = c ∧ Bd 20 r
  ls : steps.length = c
  step : ∀ r ∈ steps, Rung0 r ∧ Bd 200000 r
  wt : WtOk 9 ws
  lst : st.length = c
  sb : ∀ x ∈ st, 0 ≤ x ∧ x ≤ 4
theorem Wd.keep {H H' : Hp} {b ra sa ma pa : Addr} {rows steps : List (List Int)} {ws st : List Int} {c : Nat} (h : Wd H b ra sa ma pa rows steps ws st c) (k : Kp [b] H H') : Wd H' b ra sa ma pa rows steps ws st c :=
  ⟨h.dr.keep k, h.ds.keep k, k _ _ h.hm (by simpa using h.nm), h.nm, k _ _ h.hp (by simpa using h.np), h.np, h.c1, h.c12, h.lr, h.row, h.ls, h.step, h.wt, h.lst, h.sb⟩
theorem Wd.look {H : Hp} {b ra sa ma pa ca : Addr} {rows steps : List (List Int)} {ws st G : List Int} {c i : Nat} (h : Wd H b ra sa ma pa rows steps ws st c) (hc : H ca = some (.lst (G.map V.int))) (hi : i < c) :
    ∃ (xs : List V) (a : Addr) (r : List Int), H ra = some (.lst xs) ∧ xs[i]? = some (.ref a) ∧ rows[i]? = some r ∧ Looks H [b] a sa ma pa ca r steps ws st G c := by
  obtain ⟨xs, h1, _, _, _, al⟩ := h.dr.rowII
  have lr := h.lr
  have er : rows[i]? = some (rows[i]'(by omega)) := by simp
  obtain ⟨a, gx, ha, _, _⟩ := al i _ er
  obtain ⟨l1, b1⟩ := h.row _ (List.getElem_mem (show i < rows.length by omega))
  exact ⟨xs, a, _, h1, gx, er, ha, h.ds, h.hm, h.hp, hc, l1, h.ls, h.lst, h.c12, h.wt.l5, h.wt.bd, b1, h.sb, fun r hr => (h.step r hr).1.l4⟩
theorem Wd.own {H : Hp} {b ra sa ma pa : Addr} {rows steps : List (List Int)} {ws st : List Int} {c i : Nat} (h : Wd H b ra sa ma pa rows steps ws st c) (hi : i < c) :
    ∃ (xs : List V) (a : Addr) (r : List Int), H sa = some (.lst xs) ∧ xs[i]? = some (.ref a) ∧ steps[i]? = some r ∧ H a = some (.lst (r.map V.int)) ∧ r.length ≤ 4 := by
  obtain ⟨xs, h1, _, _, _, al⟩ := h.ds.rowII
  have ls := h.ls
  have er : steps[i]? = some (steps[i]'(by omega)) := by simp
  obtain ⟨a, gx, ha, _, _⟩ := al i _ er
  exact ⟨xs, a, _, h1, gx, er, ha, (h.step _ (List.getElem_mem (show i < steps.length by omega))).1.l4⟩
def sp_lsome : Sp := fun vs H Q _ => ∃ (b ra sa ma pa ca : Addr) (rows steps : List (List Int)) (ws st G : List Int) (c n : Nat), vs = [.ref b, .ref sa, .ref ma, .ref pa, .ref ca] ∧ Wd H b ra sa ma pa rows steps ws st c ∧ H ca = some (.lst (G.map V.int)) ∧ ca ≠ b ∧ Bx H b n ∧ n ≤ 700000 ∧
  ∀ (p : Addr) (past : List (List Int)) (H' : Hp), H p = none → Kp [b] H H' → PastL H' p past → past.length = ws.length → (∀ row ∈ past, RowIn (topsOf steps) st G c row) → Bx H' b (n + 60) → Q (.ref p) H'
theorem ok_lsome (T : Tx K mg) : FnOk P w K mg base CX0 3 (He.fAd K ("_law_some_past", none)) T.fd__law_some_past p__law_some_past sp_lsome := by
  have G__law_standing := ok_lstand (P := P) (w := w) (base := base) T
  refine T.F__law_some_past.ok sc__law_some_past (fun vs H Q E h => ?_) (fun cdv A outer s H vs Q E hr h => ?_)
  · obtain ⟨_, _, _, _, _, _, _, _, _, _, _, _, _, rfl, _⟩ := h
    rfl
  · obtain ⟨b, ra, sa, ma, pa, ca, rows, steps, ws, st, G, c, n, rfl, W, hca, ncb, hB, hn, q⟩ := h
    refine ⟨_, PSs.nox (pss_cons (ps_set (i := 5) sc__law_some_past.nd rfl (by first | exact Or.inl rfl | exact Or.inr rfl) (pe_lst pa_nil))
      (pss_cons (ps_for PassesOwn.never rfl (pi_list (pv 2)) (pg_name (i := 6) sc__law_some_past.nd rfl (by first | exact Or.inl rfl | exact Or.inr rfl))
      (pss_cons (ps_set (i := 7) sc__law_some_past.nd rfl (by first | exact Or.inl rfl | exact Or.inr rfl) (pe_call G__law_standing (hr.mono (by first | decide | omega)) rfl T.g__law_standing T.F__law_standing.kp T.bd__law_standing .nil pass0 (pa_cons (pv 0) (pa_cons (pv 1) pa_nil))))
      (pss_one (ps_expr (pe_bm PySem.F.plainAttrs_list PySem.F.slot_list_append PySem.F.type_list_append mt_append (pv 5) (pa_cons (pe_callTy call_tuple_of (by rfl) T.b_tuple (by decide +kernel) (pa_cons (pe_lc (own := [("_law_one", 8)]) (g := (gName 8)) (tt := tYes) rfl sc__law_some_past.nd (pi_range1 (by rfl) T.b_range (pa_cons (pe_callB call_len (by rfl) T.b_len (by decide +kernel) (pa_cons (pv 1) pa_nil)) pa_nil)) (blkOk_by (own := [("_law_one", 8)]) (N := n__law_some_past) (sc := defScope s__law_some_past) (by decide +kernel)) (fun _ _ _ _ _ => (pg_name (i := 8) sc__law_some_past.nd rfl (by first | exact Or.inl rfl | exact Or.inr rfl))) (fun _ _ _ _ _ => pts_nil) (fun _ _ _ _ _ => (pe_ifExp (pt_cmpR (kIn (K := K) rfl) (pv 8) (pv 4) rfl) (pe_ix (kIxT (K := K) rfl) (pv 3) (pv 8) (fun _ _ => rfl)) (pe_ix (kIxT (K := K) rfl) (pv 7) (pv 8) (fun _ _ => rfl))))) pa_nil)) pa_nil))))))
      (pss_one (ps_ret (pv 5))))), ?_⟩
    have c12 := W.c12
    have hls := W.ls
    have hlt := W.lst
    have w5 := W.wt.l5
    refine ⟨Nat.zero_le _, fun f hf => ?_⟩
    have nfb := hB.off hf
    have k1 : ∀ cs, Kp cs H (upd H f (.lst [])) := fun cs => Kp.rfl'.new hf
    have hf1 : (upd H f (.lst [])) f = some (.lst []) := upd_same
    have hB1 := hB.keep (k1 []) (by simp)
    generalize upd H f (.lst []) = H1 at k1 hf1 hB1 ⊢
    refine ⟨_, rfl, ma, rfl, ⟨_, SqL.of (k1 [] _ _ W.hm (by simp))⟩, for_list (K := K) (a := ma) (xs := ws.map V.int) (fun k σ H4 => ∃ (o6 o7 : Option V) (as : List Addr) (past : List (List Int)), σ = [some (.ref b), some (.ref sa), some (.ref ma), some (.ref pa), some (.ref ca), some (.ref f), o6, o7, none] ∧ H4 f = some (.lst (as.map V.ref)) ∧ AsAt H4 as past ∧ past.length = k ∧ (∀ row ∈ past, RowIn (topsOf steps) st G c row) ∧ Bx H4 b (n + 12 * k) ∧ Kp [f, b] H1 H4) ?_ ?_ ?_ ?_⟩
    · exact ⟨_, _, [], [], rfl, hf1, ⟨rfl, fun k t st e => by simp at e⟩, rfl, by simp, hB1, Kp.rfl'⟩
    · rintro k σ H4 _ ⟨_, _, _, _, _, _, _, _, _, _, k4⟩
      exact SqL.of (k4 _ _ (k1 [] _ _ W.hm (by simp)) (by simp [W.nm, ne_of_none W.hm hf]))
    · rintro k y σ H4 hk ⟨o6, o7, as, past, rfl, hf4, A4, lp, rp, hB4, k4⟩
      rw [List.getElem?_map] at hk
      obtain ⟨wt, hwt, rfl⟩ := Option.map_eq_some_iff.mp hk
      have hkl := (List.getElem?_eq_some_iff.mp hwt).1
      refine gn ?_
      have k04 : Kp [b] H H4 := fun a o e n => k4 a o (k1 [] a o e (by simp)) (by
        have := ne_of_none e hf
        simp at n ⊢
        exact ⟨this, n⟩)
      have W4 := W.keep k04
      refine ⟨_, rfl, _, rfl, b, sa, steps, _, rfl, hB4, by omega, W4.ds, by omega, fun r hr => (W.step r hr).1.l4, fun p rw' H5 fp k5 hp so hB5 => ?_⟩
      have k05 := k04.trans k5
      have hf5 := k5 _ _ hf4 (by simpa using nfb)
      have A5 : AsAt H5 as past := by
        obtain ⟨_, _, _, eb, _⟩ := hB4.ex
        exact A4.keep eb k5
      have npf : p ≠ f := (ne_of_none hf4 fp).symm
      have W5 := W.keep k05
      obtain ⟨xs, hsa, _, lx, _, _⟩ := W5.ds.rowII
      refine ⟨_, rfl, .inl ⟨rfl, _, SqL.of hf5⟩, _, rfl, _, steps.length, rfl, .inl ⟨_, SqL.of hsa, lx.symm⟩, _, rfl, by omega, by omega, fun d hd => lc_range (n := ((steps.length : Nat) : Int).toNat) (fun j H6 => ∃ vs : List Int, H6 d = some (.lst (vs.map V.int)) ∧ vs.length = j ∧ (∀ i, i < j → if (i : Int) ∈ G then vs.getD i 0 = st.getD i 0 else 0 ≤ vs.getD i 0 ∧ vs.getD i 0 ≤ (topsOf steps).getD i 0) ∧ Kp [] H5 H6) ?_ ?_ ?_⟩
      · exact ⟨[], upd_same, rfl, fun i hi => absurd hi (Nat.not_lt_zero _), Kp.rfl'.new hd⟩
      · rintro j H6 hj ⟨vs, h6, l6, g6, k6⟩
        have ej : (0 : Int) + (j : Int) = ((j : Nat) : Int) := Int.zero_add _
        have hjc : j < c := by omega
        have lrw := so.len
        have k06 : Kp [b] H H6 := k05.trans (k6.sub (by simp))
        have fin : ∀ x : Int, (if (j : Int) ∈ G then x = st.getD j 0 else 0 ≤ x ∧ x ≤ (topsOf steps).getD j 0) → ∃ vs' : List Int, (upd H6 d (.lst (vs.map V.int ++ [V.int x]))) d = some (.lst (vs'.map V.int)) ∧ vs'.length = j + 1 ∧ (∀ i, i < j + 1 → if (i : Int) ∈ G then vs'.getD i 0 = st.getD i 0 else 0 ≤ vs'.getD i 0 ∧ vs'.getD i 0 ≤ (topsOf steps).getD i 0) ∧ Kp [] H5 (upd H6 d (.lst (vs.map V.int ++ [V.int x]))) := fun x hx => by
          refine ⟨vs ++ [x], by rw [upd_same, ints_snoc], by simp [l6], fun i hi => ?_, k6.own hd⟩
          have ga : (vs ++ [x]).getD i 0 = if i < j then vs.getD i 0 else x := by
            rw [List.getD_eq_getElem?_getD]
            by_cases z : i < j
            · rw [if_pos z, List.getElem?_append_left (by omega), List.getD_eq_getElem?_getD]
            · rw [if_neg z, List.getElem?_append_right (by omega), show i - vs.length = 0 by omega]
              rfl
          rw [ga]
          by_cases z : i < j
          · rw [if_pos z]
            exact g6 i z
          · have zi : i = j := by omega
            rw [if_neg z, zi]
            exact hx
        refine ⟨rfl, yesT ⟨_, rfl, _, rfl, ca, _, rfl, .inl (SqL.of (k06 _ _ hca (by simpa using ncb))), rfl, flat_ints _, _, rfl, ?_⟩⟩
        rw [inV_ints, ej]
        refine ite2 (fun cc => ?_) (fun cc => ?_)
        · have hG : (j : Int) ∈ G := by simpa using cc
          refine ⟨_, rfl, _, rfl, pa, _, _, V.int (st.getD j 0), rfl, rfl, SqT.of (k06 _ _ W.hp (by simpa using W.np)), atI_nat (by rw [List.getElem?_map, get_getD (show j < st.length by omega)]; rfl), ?_⟩
          exact ⟨_, h6, by rw [List.length_map]; exact small1000 (by omega), fin _ (by rw [if_pos hG])⟩
        · have hG : ¬ (j : Int) ∈ G := by simpa using cc
          obtain ⟨sr, esr⟩ : ∃ sr, steps[j]? = some sr := ⟨steps[j]'(by omega), by simp⟩
          have eg := get_getD (a := rw') (show j < rw'.length by omega)
          have b1 := so.bd _ (List.mem_of_getElem? eg)
          have b2 := so.top j _ sr eg esr
          refine ⟨_, rfl, _, rfl, p, _, _, V.int (rw'.getD j 0), rfl, rfl, SqT.of (k6 _ _ hp (by simp)), atI_nat (by rw [List.getElem?_map, eg]; rfl), ?_⟩
          exact ⟨_, h6, by rw [List.length_map]; exact small1000 (by omega), fin _ (by rw [if_neg hG, tops_get esr]; exact ⟨b1.1, b2⟩)⟩
      · rintro H6 ⟨vs, h6, l6, g6, k6⟩
        have lv : vs.length = c := by omega
        have es : ((steps.length : Nat) : Int).toNat = c := by omega
        rw [es] at g6
        refine ⟨d, _, rfl, .inl ⟨SqL.of h6, fun l hl => ?_⟩⟩
        have kl : ∀ cs, Kp cs H6 (upd H6 l (.tup (vs.map V.int))) := fun cs => Kp.rfl'.new hl
        have hf7 := kl [] _ _ (k6 _ _ hf5 (by simp)) (by simp)
        have A7 := ((A5.keep0 k6).keep0 (kl [])).push (st := vs) upd_same
        have hB7 := (hB5.keep k6 (by simp)).keep (kl []) (by simp)
        have k57 := k6.trans (kl [])
        generalize upd H6 l (.tup (vs.map V.int)) = H7 at hf7 A7 hB7 k57 ⊢
        have kf : Kp [f] H7 (upd H7 f (.lst (as.map V.ref ++ [V.ref l]))) := Kp.rfl'.put (by simp)
        refine ⟨f, _, _, rfl, rfl, hf7, by rw [List.length_map, A4.len, lp]; exact small1000 (by omega), ?_⟩
        refine ⟨_, _, as ++ [l], past ++ [vs], rfl, by rw [upd_same]; simp, A7.keep hf7 kf, by simp [lp], fun row hrow => ?_, (hB7.keep kf (by simpa using nfb.symm)).up (by omega), ((k4.trans (k5.sub (by simp))).trans (k57.sub (by simp))).trans (kf.sub (by simp))⟩
        rcases List.mem_append.mp hrow with z | z
        · exact rp row z
        · rw [List.mem_singleton.mp z]
          exact ⟨lv, g6⟩
    · rintro σ H4 ⟨o6, o7, as, past, rfl, hf4, A4, lp, rp, hB4, k4⟩
      rw [List.length_map] at lp hB4
      have k04 : Kp [b] H H4 := fun a o e n => k4 a o (k1 [] a o e (by simp)) (by
        have := ne_of_none e hf
        simp at n ⊢
        exact ⟨this, n⟩)
      exact ⟨_, rfl, q f past H4 hf k04 ⟨as, hf4, A4⟩ lp rp (hB4.up (by omega))⟩

end
end Sw

set_option maxHeartbeats 2000000
namespace Sw
open PySem PySem.Spec PyProof.Rows L2
section
variable {P : Program} {w : World} {K : PySem.W.Frag} {mg : Str → Option Value} {base : Heap}
/-! ### halls whose steps are laid about what a group lets -/
theorem rises_cons {x : Int} {r : List Int} (h : rises r) (hx : ∀ y ∈ r, x < y) : rises (x :: r) := fun i a b h1 h2 => by
  cases i with
  | zero =>
    have h1 : some x = some a := h1
    cases h1
    exact hx b (List.mem_of_getElem? (i := 0) h2)
  | succ i => exact h i a b h1 h2
theorem DA.of_get {bs : List Addr} {H : Hp} {w k : Nat} : ∀ {vs : List V} {ds : List PyData}, vs.length = ds.length → (∀ (i : Nat) (v : V) (d : PyData), vs[i]? = some v → ds[i]? = some d → D bs H w k v d) → DA bs H w k vs ds
  | [], [], _, _ => .nil
  | [], _ :: _, h, _ => nomatch h
  | _ :: _, [], h, _ => nomatch h
  | v :: vs, d :: ds, h, f => .cons (f 0 v d rfl rfl) (DA.of_get (by simpa using h) fun i u e h1 h2 => f (i + 1) u e h1 h2)
/-- the parts while steps are laid -/
structure Pl (H : Hp) (b ra sa ma pa ca : Addr) (rows steps : List (List Int)) (ws st G : List Int) (c : Nat) : Prop where
  dr : D [sa, b] H 12 2 (.ref ra) (dII rows)
  ds : D [b] H 12 2 (.ref sa) (dII steps)
  hm : H ma = some (.lst (ws.map V.int))
  nm : ma ∉ [sa, b]
  hp : H pa = some (.tup (st.map V.int))
  np : pa ∉ [sa, b]
  hc : H ca = some (.lst (G.map V.int))
  nc : ca ∉ [sa, b]
theorem Pl.keep {H H' : Hp} {b ra sa ma pa ca : Addr} {rows steps : List (List Int)} {ws st G : List Int} {c : Nat} (h : Pl H b ra sa ma pa ca rows steps ws st G c) (k : Kp [b] H H') : Pl H' b ra sa ma pa ca rows steps ws st G c :=
  have k2 : Kp [sa, b] H H' := k.sub (by simp)
  ⟨h.dr.keep k2, h.ds.keep k, k2 _ _ h.hm h.nm, h.nm, k2 _ _ h.hp h.np, h.np, k2 _ _ h.hc h.nc, h.nc⟩
/-- one person's steps laid anew -/
theorem Pl.lay {H : Hp} {b ra sa ma pa ca o : Addr} {rows steps : List (List Int)} {ws st G os : List Int} {c g : Nat} {ys : List V} (h : Pl H b ra sa ma pa ca rows steps ws st G c) (e : H sa = some (.lst ys)) (ho : H o = some (.lst (os.map V.int))) (nob : o ≠ b) (nos : o ≠ sa) (hg : g < steps.length) (l4 : os.length ≤ 4) (bd : ∀ x ∈ os, x.natAbs < 2 ^ 39) :
    Pl (upd H sa (.lst (ys.set g (.ref o)))) b ra sa ma pa ca rows (steps.set g os) ws st G c := by
  have k : Kp [sa, b] H (upd H sa (.lst (ys.set g (.ref o)))) := Kp.rfl'.put (by simp)
  obtain ⟨xs, h1, n1, lx, lw, al⟩ := h.ds.rowII
  rw [e] at h1
  cases h1
  refine ⟨h.dr.keep k, ?_, k _ _ h.hm h.nm, h.nm, k _ _ h.hp h.np, h.np, k _ _ h.hc h.nc, h.nc⟩
  refine .lst (k := 1) upd_same n1 (by simpa using lw) (DA.of_get (by simp [lx]) fun i v d h2 h3 => ?_)
  rw [List.getElem?_map, List.getElem?_set] at h3
  rw [List.getElem?_set] at h2
  by_cases z : g = i
  · rw [if_pos z, if_pos (by omega)] at h2
    rw [if_pos z, if_pos hg] at h3
    cases h2
    cases h3
    exact .lst (k := 0) (by rw [upd_ne nos]; exact ho) (by simpa using nob) (by rw [List.length_map]; omega) (DA.ofInts fun x hx => by have := bd x hx; omega)
  · rw [if_neg z] at h2 h3
    obtain ⟨r, hr, rfl⟩ := Option.map_eq_some_iff.mp h3
    obtain ⟨a, gx, ha, na, lr⟩ := al i r hr
    rw [gx] at h2
    cases h2
    have nas : a ≠ sa := fun z => by
      rw [z, e] at ha
      have e2 : ys = r.map V.int := by
        cases ha
        rfl
      rw [e2, List.getElem?_map] at gx
      obtain ⟨y, _, hy⟩ := Option.map_eq_some_iff.mp gx
      cases hy
    have hD : D [b] H 12 1 (.ref a) (dI r) := by
      have hd := h.ds
      cases hd with
      | lst h5 _ _ t5 =>
        rw [e] at h5
        cases h5
        obtain ⟨d', hd', hx⟩ := t5.get gx
        rw [List.getElem?_map, hr] at hd'
        cases hd'
        exact hx
    cases hD with
    | lst h5 n5 l5 t5 =>
      have e5 := DA.ints t5
      subst e5
      refine .lst (by rw [upd_ne nas]; exact h5) n5 l5 (DA.of_get (by simp) fun j u d h6 h7 => ?_)
      have h8 := t5.get h6
      obtain ⟨d', hd', hx⟩ := h8
      rw [h7] at hd'
      cases hd'
      rw [List.getElem?_map] at h6
      obtain ⟨y, _, hy⟩ := Option.map_eq_some_iff.mp h6
      subst hy
      cases hx with
      | int _ b => exact .int _ b

end
end Sw

set_option maxHeartbeats 2000000
namespace Sw
open PySem PySem.Spec PyProof.Rows L2
section
variable {P : Program} {w : World} {K : PySem.W.Frag} {mg : Str → Option Value} {base : Heap}
theorem SU_bd {f : Nat → Int} {B : Int} : ∀ {c : Nat}, (∀ j, j < c → -B ≤ f j ∧ f j ≤ B) → -((c : Int) * B) ≤ SU f c ∧ SU f c ≤ (c : Int) * B
  | 0, _ => by
    show -(0 * B) ≤ 0 ∧ (0 : Int) ≤ 0 * B
    omega
  | c + 1, h => by
    have ih := SU_bd (c := c) fun j hj => h j (by omega)
    have hc := h c (by omega)
    have e : ((c + 1 : Nat) : Int) * B = (c : Int) * B + B := by rw [Int.natCast_succ, Int.add_mul, Int.one_mul]
    rw [SU_succ, e]
    omega
theorem Looks.stb {H : Hp} {bs : List Addr} {ra sa ma pa ca : Addr} {r : List Int} {steps : List (List Int)} {ws st G : List Int} {c : Nat} (L : Looks H bs ra sa ma pa ca r steps ws st G c) : ∀ j, j < c → (0 ≤ st.getD j 0 ∧ st.getD j 0 ≤ 4) ∧ (topsOf steps).getD j 0 ≤ 4 ∧ 0 ≤ (topsOf steps).getD j 0 := fun j hj => by
  have h1 := L.lst
  have h2 := L.ls
  have e1 := get_getD (a := st) (show j < st.length by omega)
  have e2 : steps[j]? = some (steps[j]'(by omega)) := by simp
  have := L.bs _ (List.mem_of_getElem? e1)
  have := L.s4 _ (List.mem_of_getElem? e2)
  rw [tops_get e2]
  omega
theorem Looks.bd {H : Hp} {bs : List Addr} {ra sa ma pa ca : Addr} {r : List Int} {steps : List (List Int)} {ws st G : List Int} {c : Nat} (L : Looks H bs ra sa ma pa ca r steps ws st G c) (sg : Int) : -50000 ≤ spanL sg (topsOf steps) st G r c ws ∧ spanL sg (topsOf steps) st G r c ws ≤ 50000 := by
  have w5 := L.w5
  have c12 := L.c12
  have z := SU_bd (f := fun j => (ws.map (ev sg (topsOf steps) st G r j)).sum) (B := 3600) (c := c) fun j hj => by
    have b1 : Bd 720 (ws.map (ev sg (topsOf steps) st G r j)) := fun x hx => by
      obtain ⟨w, hw, rfl⟩ := List.mem_map.mp hx
      have bw := L.bw w hw
      have lr := L.lr
      have br := L.br _ (List.mem_of_getElem? (get_getD (a := r) (show j < r.length by omega)))
      have sb := L.stb j hj
      have m1 := mul_bd (x := w) (y := r.getD j 0) (a := 9) (c := 20) bw br
      have m2 := mul_bd (x := w * r.getD j 0) (y := pv1 sg (topsOf steps) st G r w j) (a := 180) (c := 4) ⟨by omega, by omega⟩ (by
        unfold pv1
        split
        · omega
        · split <;> omega)
      unfold ev
      omega
    have s2 := sum_bd2 b1
    rw [List.length_map] at s2
    have : (ws.length : Int) * 720 ≤ 3600 := by omega
    omega
  unfold spanL
  have : (c : Int) * 3600 ≤ 43200 := by omega
  omega
def sp_planned : Sp := fun vs H Q _ => ∃ (b : Addr) (m k : Int) (n : Nat), vs = [.ref b, .int m, .int k] ∧ Bx H b n ∧ n ≤ 700000 ∧ 1 ≤ m ∧ m ≤ 12 ∧ 1 ≤ k ∧ k ≤ 5 ∧
  ∀ (t ra sa ma pa ca : Addr) (rows steps : List (List Int)) (ws st G : List Int) (c : Nat) (H' : Hp), H t = none → Kp [b] H H' → H' t = some (.tup [.ref ra, .ref sa, .ref ma, .ref pa, .ref ca]) → Wd H' b ra sa ma pa rows steps ws st c → StIn steps st → H' ca = some (.lst (G.map V.int)) → ca ≠ b → (∀ g ∈ G, 0 ≤ g ∧ g < c) → G.length ≤ c → Bx H' b (n + 1000) → Q (.ref t) H'
theorem ok_planned (T : Tx K mg) : FnOk P w K mg base CX0 4 (He.fAd K ("_law_planned", none)) T.fd__law_planned p__law_planned sp_planned := by
  have G__law_take := ok_take (P := P) (w := w) (base := base) T
  have G__law_steps := ok_lsteps (P := P) (w := w) (base := base) T
  have G__law_memory := ok_lmem (P := P) (w := w) (base := base) T
  have G__law_standing := ok_lstand (P := P) (w := w) (base := base) T
  have G__law_span := ok_lspan (P := P) (w := w) (base := base) T
  refine T.F__law_planned.ok sc__law_planned (fun vs H Q E h => ?_) (fun cdv A outer s H vs Q E hr h => ?_)
  · obtain ⟨_, _, _, _, rfl, _⟩ := h
    rfl
  · obtain ⟨b, m, k, n, rfl, hB, hn, m1, m12, kk1, kk5, q⟩ := h
    refine ⟨_, PSs.nox (pss_cons (ps_set (i := 3) sc__law_planned.nd rfl (by first | exact Or.inl rfl | exact Or.inr rfl) (pe_op op_add pe_int (pe_call G__law_take (hr.mono (by first | decide | omega)) rfl T.g__law_take T.F__law_take.kp T.bd__law_take .nil pass0 (pa_cons (pv 0) (pa_cons (pv 1) pa_nil)))))
      (pss_cons (ps_setLc (i := 4) (own := [("_law_other", 12)]) (g := (gName 12)) (tt := tYes) rfl sc__law_planned.nd rfl rfl (sw_true rfl rfl rfl (by decide +kernel)) (pi_range1 (by rfl) T.b_range (pa_cons (pv 3) pa_nil)) (blkOk_by (own := [("_law_other", 12)]) (N := n__law_planned) (sc := defScope s__law_planned) (by decide +kernel)) (fun _ _ _ _ _ => (pg_name (i := 12) sc__law_planned.nd rfl (by first | exact Or.inl rfl | exact Or.inr rfl))) (fun _ _ _ _ _ => pts_nil) (fun _ _ _ _ _ => (pe_lc (own := [("_law_one", 7)]) (g := (gName 7)) (tt := tYes) rfl sc__law_planned.nd (pi_range1 (by rfl) T.b_range (pa_cons (pv 3) pa_nil)) (blkOk_by (own := [("_law_one", 7)]) (N := n__law_planned) (sc := relabel (lcScope (valAt 1 s__law_planned)) (envOfC "" (defScope s__law_planned) 0 0 .none)) (by decide +kernel)) (fun _ _ _ _ _ => (pg_name (i := 7) sc__law_planned.nd rfl (by first | exact Or.inl rfl | exact Or.inr rfl))) (fun _ _ _ _ _ => pts_nil) (fun _ _ _ _ _ => (pe_ix (kIx (K := K) rfl) (pe_lst (pa_cons pe_int (pa_cons pe_int (pa_cons (pe_un un_neg pe_int) (pa_cons pe_int (pa_cons (pe_un un_neg pe_int) (pa_cons pe_int (pa_cons pe_int pa_nil)))))))) (pe_call G__law_take (hr.mono (by first | decide | omega)) rfl T.g__law_take T.F__law_take.kp T.bd__law_take .nil pass0 (pa_cons (pv 0) (pa_cons pe_int pa_nil))) (fun _ _ => rfl))))))
      (pss_cons (ps_setLc (i := 5) (own := [("_law_one", 7)]) (g := (gName 7)) (tt := tYes) rfl sc__law_planned.nd rfl rfl (sw_true rfl rfl rfl (by decide +kernel)) (pi_range1 (by rfl) T.b_range (pa_cons (pv 3) pa_nil)) (blkOk_by (own := [("_law_one", 7)]) (N := n__law_planned) (sc := defScope s__law_planned) (by decide +kernel)) (fun _ _ _ _ _ => (pg_name (i := 7) sc__law_planned.nd rfl (by first | exact Or.inl rfl | exact Or.inr rfl))) (fun _ _ _ _ _ => pts_nil) (fun _ _ _ _ _ => (pe_call G__law_steps (hr.mono (by first | decide | omega)) rfl T.g__law_steps T.F__law_steps.kp T.bd__law_steps .nil pass0 (pa_cons (pv 0) (pa_cons (pe_op op_add pe_int (pe_call G__law_take (hr.mono (by first | decide | omega)) rfl T.g__law_take T.F__law_take.kp T.bd__law_take .nil pass0 (pa_cons (pv 0) (pa_cons pe_int pa_nil)))) (pa_cons pe_int pa_nil))))))
      (pss_cons (ps_par (i := 8) (j := 9) (by rfl) sc__law_planned.nd rfl rfl (by decide) rfl rfl (pa_cons (pe_call G__law_memory (hr.mono (by first | decide | omega)) rfl T.g__law_memory T.F__law_memory.kp T.bd__law_memory .nil pass0 (pa_cons (pv 0) (pa_cons (pe_op op_add pe_int (pe_call G__law_take (hr.mono (by first | decide | omega)) rfl T.g__law_take T.F__law_take.kp T.bd__law_take .nil pass0 (pa_cons (pv 0) (pa_cons (pv 2) pa_nil)))) pa_nil))) (pa_cons (pe_call G__law_standing (hr.mono (by first | decide | omega)) rfl T.g__law_standing T.F__law_standing.kp T.bd__law_standing .nil pass0 (pa_cons (pv 0) (pa_cons (pv 5) pa_nil))) pa_nil)) (by rfl))
      (pss_cons (ps_setLc (i := 6) (own := [("_law_one", 7)]) (g := (gName 7)) rfl sc__law_planned.nd rfl rfl (sw_true rfl rfl rfl (by decide +kernel)) (pi_range1 (by rfl) T.b_range (pa_cons (pv 3) pa_nil)) (blkOk_by (own := [("_law_one", 7)]) (N := n__law_planned) (sc := defScope s__law_planned) (by decide +kernel)) (fun _ _ _ _ _ => (pg_name (i := 7) sc__law_planned.nd rfl (by first | exact Or.inl rfl | exact Or.inr rfl))) (fun _ _ _ _ _ => pts_one (pt_cmpR op_gt (pe_call G__law_take (hr.mono (by first | decide | omega)) rfl T.g__law_take T.F__law_take.kp T.bd__law_take .nil pass0 (pa_cons (pv 0) (pa_cons pe_int pa_nil))) pe_int (nomark _))) (fun _ _ _ _ _ => (pv 7)))
      (pss_cons (ps_for PassesOwn.never rfl (pi_list (pv 6)) (pg_name (i := 7) sc__law_planned.nd rfl (by first | exact Or.inl rfl | exact Or.inr rfl))
      (pss_cons (ps_asg (pe_call G__law_span (hr.mono (by first | decide | omega)) rfl T.g__law_span T.F__law_span.kp T.bd__law_span .nil pass0 (pa_cons (pe_ix ix_list (pv 4) (pv 7) (fun _ _ => rfl)) (pa_cons (pv 5) (pa_cons (pv 8) (pa_cons (pv 9) (pa_cons (pv 6) pa_nil)))))) (pg_tup rfl (pgs_cons (pg_name (i := 13) sc__law_planned.nd rfl (by first | exact Or.inl rfl | exact Or.inr rfl)) (pgs_cons (pg_name (i := 14) sc__law_planned.nd rfl (by first | exact Or.inl rfl | exact Or.inr rfl)) pgs_nil))))
      (pss_cons (ps_par (i := 15) (j := 16) (by rfl) sc__law_planned.nd rfl rfl (by decide) rfl rfl (pa_cons (pe_lst pa_nil) (pa_cons (pe_op op_add (pe_op op_sub (pv 13) (pe_call G__law_take (hr.mono (by first | decide | omega)) rfl T.g__law_take T.F__law_take.kp T.bd__law_take .nil pass0 (pa_cons (pv 0) (pa_cons pe_int pa_nil)))) (pe_callTy call_int1 (by rfl) T.b_int (by decide +kernel) (pa_cons (pe_cmpR op_eq (pe_call G__law_take (hr.mono (by first | decide | omega)) rfl T.g__law_take T.F__law_take.kp T.bd__law_take .nil pass0 (pa_cons (pv 0) (pa_cons pe_int pa_nil))) pe_int (nomark _)) pa_nil))) pa_nil)) (by rfl))
      (pss_cons (ps_for PassesOwn.never rfl (pi_range1 (by rfl) T.b_range (pa_cons (pe_ix ix_tup (pv 9) (pv 7) (fun _ _ => rfl)) pa_nil)) (pg_name (i := 10) sc__law_planned.nd rfl (by first | exact Or.inl rfl | exact Or.inr rfl))
      (pss_one (ps_par (i := 15) (j := 16) (by rfl) sc__law_planned.nd rfl rfl (by decide) rfl rfl (pa_cons (pe_op op_cat (pe_lst (pa_cons (pv 16) pa_nil)) (pv 15)) (pa_cons (pe_op op_sub (pe_op op_sub (pv 16) pe_int) (pe_call G__law_take (hr.mono (by first | decide | omega)) rfl T.g__law_take T.F__law_take.kp T.bd__law_take .nil pass0 (pa_cons (pv 0) (pa_cons pe_int pa_nil)))) pa_nil)) (by rfl))))
      (pss_cons (ps_set (i := 11) sc__law_planned.nd rfl (by first | exact Or.inl rfl | exact Or.inr rfl) (pe_callB (cr_max rfl) (by rfl) T.b_max (by decide +kernel) (pa_cons (pe_op op_cat (pe_lst (pa_cons (pe_op op_add (pe_op op_add (pv 14) pe_int) (pe_call G__law_take (hr.mono (by first | decide | omega)) rfl T.g__law_take T.F__law_take.kp T.bd__law_take .nil pass0 (pa_cons (pv 0) (pa_cons pe_int pa_nil)))) pa_nil)) (pe_lc (own := [("_law_step", 17)]) (g := (gName 17)) (tt := tYes) rfl sc__law_planned.nd (pi_list (pv 15)) (blkOk_by (own := [("_law_step", 17)]) (N := n__law_planned) (sc := defScope s__law_planned) (by decide +kernel)) (fun _ _ _ _ _ => (pg_name (i := 17) sc__law_planned.nd rfl (by first | exact Or.inl rfl | exact Or.inr rfl))) (fun _ _ _ _ _ => pts_nil) (fun _ _ _ _ _ => (pe_op op_add (pv 17) pe_int)))) pa_nil)))
      (pss_cons (ps_for PassesOwn.never rfl (pi_range1 (by rfl) T.b_range (pa_cons (pe_op op_sub (pe_callB call_len (by rfl) T.b_len (by decide +kernel) (pa_cons (pe_ix ix_list (pv 5) (pv 7) (fun _ _ => rfl)) pa_nil)) (pe_ix ix_tup (pv 9) (pv 7) (fun _ _ => rfl))) pa_nil)) (pg_name (i := 10) sc__law_planned.nd rfl (by first | exact Or.inl rfl | exact Or.inr rfl))
      (pss_one (ps_par (i := 15) (j := 11) (by rfl) sc__law_planned.nd rfl rfl (by decide) rfl rfl (pa_cons (pe_op op_cat (pv 15) (pe_lst (pa_cons (pv 11) pa_nil))) (pa_cons (pe_op op_add (pe_op op_add (pv 11) pe_int) (pe_call G__law_take (hr.mono (by first | decide | omega)) rfl T.g__law_take T.F__law_take.kp T.bd__law_take .nil pass0 (pa_cons (pv 0) (pa_cons pe_int pa_nil)))) pa_nil)) (by rfl))))
      (pss_one (ps_asg (pv 15) (pg_sub (pv 5) (pv 7) set_list)))))))))
      (pss_one (ps_ret (pe_tup (pa_cons (pv 4) (pa_cons (pv 5) (pa_cons (pv 8) (pa_cons (pv 9) (pa_cons (pv 6) pa_nil)))))))))))))), ?_⟩
    refine ⟨_, rfl, _, rfl, b, m, n, rfl, hB, by omega, by omega, by omega, fun r H1 r0 r1 hB1 k1 => ⟨_, _, rfl, rfl, ?_⟩⟩
    obtain ⟨c, ec, c1, c12⟩ : ∃ c : Int, 1 + r = c ∧ 1 ≤ c ∧ c ≤ 12 := ⟨_, rfl, by omega, by omega⟩
    show gName 3 (V.int (1 + r)) _ _ _
    rw [ec]
    refine ⟨_, rfl, c, rfl, by omega, by omega, fun d hdN => lc_range (n := c.toNat) (fun j H3 => ∃ (ys : List V) (rs : List (List Int)), H3 d = some (.lst ys) ∧ DA [d, b] H3 12 1 ys (rs.map dI) ∧ rs.length = j ∧ (∀ r ∈ rs, r.length = c.toNat ∧ Bd 20 r) ∧ Bx H3 b (n + 1 + 12 * j) ∧ Kp [b] H1 H3) ?_ ?_ ?_⟩
    · exact ⟨[], [], upd_same, .nil, rfl, by simp, (hB1.keep (Kp.rfl'.new (bs := []) hdN) (by simp)).up (by omega), Kp.rfl'.new hdN⟩
    · rintro j H3 hj ⟨ys, rs, h3, d3, l3, g3, hB3, k3⟩
      have ndb := hB1.off hdN
      refine ⟨rfl, yesT ⟨_, rfl, c, rfl, by omega, by omega, fun e heN => lc_range (n := c.toNat) (fun i H4 => ∃ ns : List Int, H4 e = some (.lst (ns.map V.int)) ∧ ns.length = i ∧ Bd 20 ns ∧ Bx H4 b (n + 1 + 12 * j + i) ∧ Kp [b] H3 H4) ?_ ?_ ?_⟩⟩
      · exact ⟨[], upd_same, rfl, by simp [Bd], hB3.keep (Kp.rfl'.new (bs := []) heN) (by simp), Kp.rfl'.new heN⟩
      · rintro i H4 hi ⟨ns, h4, l4, b4, hB4, k4⟩
        have neb := hB3.off heN
        refine ⟨rfl, yesT ⟨1, rfl, 2, rfl, by show 7 ≤ sizeLine; decide, fun l hl => ?_⟩⟩
        have nlb := hB4.off hl
        have kl : ∀ cs v, Kp cs H4 (upd H4 l v) := fun cs v => Kp.rfl'.new hl
        refine ⟨_, rfl, b, 7, _, rfl, hB4.keep (kl [] _) (by simp), by decide, by decide, by omega, fun r H5 r0 r1 hB5 k5 => ?_⟩
        obtain ⟨v, hv, v0, v1⟩ : ∃ v : Int, atI [V.int 0, V.int 1, V.int (-1), V.int 3, V.int (-2), V.int 9, V.int 0] r = some (.int v) ∧ -20 ≤ v ∧ v ≤ 20 := by
          rcases (by omega : r = 0 ∨ r = 1 ∨ r = 2 ∨ r = 3 ∨ r = 4 ∨ r = 5 ∨ r = 6) with z | z | z | z | z | z | z <;> subst z
          · exact ⟨0, rfl, by decide, by decide⟩
          · exact ⟨1, rfl, by decide, by decide⟩
          · exact ⟨-1, rfl, by decide, by decide⟩
          · exact ⟨3, rfl, by decide, by decide⟩
          · exact ⟨-2, rfl, by decide, by decide⟩
          · exact ⟨9, rfl, by decide, by decide⟩
          · exact ⟨0, rfl, by decide, by decide⟩
        refine ⟨l, _, _, _, rfl, rfl, SqL.of (k5 _ _ upd_same (by simpa using nlb)), hv, ?_⟩
        refine ⟨_, k5 _ _ (kl [] _ _ _ h4 (by simp)) (by simpa using neb), by rw [List.length_map]; exact small1000 (by omega), ns ++ [v], by rw [upd_same, ints_snoc], by simp [l4], fun z hz => ?_, (hB5.keep (Kp.rfl'.put (bs := [e]) (by simp)) (by simpa using neb.symm)).up (by omega), ((k4.trans (kl _ _)).trans k5).own heN⟩
        rcases List.mem_append.mp hz with w | w
        · exact b4 z w
        · rw [List.mem_singleton.mp w]
          omega
      · rintro H4 ⟨ns, h4, l4, b4, hB4, k4⟩
        have ned : e ≠ d := (ne_of_none h3 heN).symm
        have neb : e ≠ b := hB3.off heN
        have h34 := k4 _ _ h3 (by simpa using ndb)
        have kd : Kp [d, b] H4 (upd H4 d (.lst (ys ++ [.ref e]))) := Kp.rfl'.put (by simp)
        refine ⟨ys, h34, by rw [DA.len d3, List.length_map]; exact small1000 (by omega), ys ++ [.ref e], rs ++ [ns], upd_same, ?_, by simp [l3], ?_, (hB4.keep (Kp.rfl'.put (bs := [d]) (by simp)) (by simpa using ndb.symm)).up (by omega), (k3.trans k4).own hdN⟩
        · rw [List.map_append]
          refine ((d3.keep (k4.sub (by simp))).keep kd).app (DA.one ((D.lst (k := 0) h4 (by simp [ned, neb]) (by rw [List.length_map]; omega) (DA.ofInts fun x hx => ?_)).keep kd))
          have := b4 x hx
          omega
        · intro r hr
          rcases List.mem_append.mp hr with z | z
          · exact g3 r z
          · rw [List.mem_singleton.mp z]
            exact ⟨l4, b4⟩
    rintro H3 ⟨ys, rows, h3, d3, l3, g3, hB3, k3⟩
    have ndb := hB1.off hdN
    have dR : D [b] H3 12 2 (.ref d) (dII rows) := .lst (k := 1) h3 (by simpa using ndb) (by rw [DA.len d3, List.length_map]; omega) (d3.less (by simp))
    have k03 : Kp [b] H H3 := k1.trans k3
    clear h3 d3 k3 k1 ys
    refine ⟨_, rfl, c, rfl, by omega, by omega, fun s hs => lc_range (n := c.toNat) (fun j H5 => ∃ (ys : List V) (ss : List (List Int)), H5 s = some (.lst ys) ∧ DA [s, b] H5 12 1 ys (ss.map dI) ∧ ss.length = j ∧ (∀ r ∈ ss, Rung0 r ∧ Bd 2000 r) ∧ Bx H5 b (n + 150 + 6 * j) ∧ Kp [b] H3 H5) ?_ ?_ ?_⟩
    · exact ⟨[], [], upd_same, .nil, rfl, by simp, (hB3.keep (Kp.rfl'.new (bs := []) hs) (by simp)).up (by omega), Kp.rfl'.new hs⟩
    · rintro j H5 hj ⟨ys, ss, h5, d5, l5, g5, hB5, k5⟩
      have nsb := hB3.off hs
      refine ⟨rfl, yesT ⟨_, rfl, _, rfl, b, 4, _, rfl, hB5, by decide, by decide, by omega, fun x H6 x0 x1 hB6 k6 => ⟨_, _, rfl, rfl, b, _, 0, _, rfl, hB6, by omega, by omega, by omega, by decide, by decide, fun t ns H7 ft k7 ht rg ln bd hB7 => ?_⟩⟩⟩
      have h56 := k6 _ _ h5 (by simpa using nsb)
      have nts : t ≠ s := (ne_of_none h56 ft).symm
      have ntb : t ≠ b := hB6.off ft
      have k57 : Kp [b] H5 H7 := k6.trans k7
      have kd : Kp [s, b] H7 (upd H7 s (.lst (ys ++ [.ref t]))) := Kp.rfl'.put (by simp)
      refine ⟨ys, k7 _ _ h56 (by simpa using nsb), by rw [DA.len d5, List.length_map]; exact small1000 (by omega), ys ++ [.ref t], ss ++ [ns], upd_same, ?_, by simp [l5], ?_, (hB7.keep (Kp.rfl'.put (bs := [s]) (by simp)) (by simpa using nsb.symm)).up (by omega), (k5.trans k57).own hs⟩
      · rw [List.map_append]
        have r4 := rg.l4
        refine ((d5.keep (k57.sub (by simp))).keep kd).app (DA.one ((D.lst (k := 0) ht (by simp [nts, ntb]) (by rw [List.length_map]; omega) (DA.ofInts fun x hx => ?_)).keep kd))
        have := bd x hx
        omega
      · intro r hr
        rcases List.mem_append.mp hr with z | z
        · exact g5 r z
        · rw [List.mem_singleton.mp z]
          exact ⟨rg, bd⟩
    rintro H5 ⟨ys, steps, h5, d5, l5, g5, hB5, k5⟩
    have nsb := hB3.off hs
    have fs : H s = none := k03.free hs (by simpa using nsb)
    have dR5 : D [s, b] H5 12 2 (.ref d) (dII rows) := (dR.fresh hs).keep (k5.sub (by simp))
    have dS : D [b] H5 12 2 (.ref s) (dII steps) := .lst (k := 1) h5 (by simpa using nsb) (by rw [DA.len d5, List.length_map]; omega) (d5.less (by simp))
    have k05 : Kp [b] H H5 := k03.trans k5
    obtain ⟨os, es⟩ : ∃ o, H5 s = some o := ⟨_, h5⟩
    clear h5 d5 k5 ys hs
    refine ⟨_, rfl, _, rfl, _, rfl, b, k, _, rfl, hB5, by omega, by omega, by omega, fun x H6 x0 x1 hB6 k6 => ⟨_, _, rfl, rfl, b, _, _, rfl, hB6, by omega, by omega, by omega, fun ma ws H7 fm k7 hm okw hB7 => ?_⟩⟩
    have k57 : Kp [b] H5 H7 := k6.trans k7
    have nmb := hB6.off fm
    have s4 : ∀ r ∈ steps, r.length ≤ 4 := fun r hr => (g5 r hr).1.l4
    have nms : ma ≠ s := (ne_of_none (k6 _ _ es (by simpa using nsb)) fm).symm
    refine ⟨_, rfl, _, rfl, b, s, steps, _, rfl, hB7, by omega, dS.keep k57, by omega, s4, fun pa st H8 fp k8 hp so hB8 => ⟨_, _, rfl, ?_⟩⟩
    have npb := hB7.off fp
    have nps : pa ≠ s := (ne_of_none (k57 _ _ es (by simpa using nsb)) fp).symm
    have k58 := k57.trans k8
    refine nx_of ⟨_, rfl, c, rfl, by omega, by omega, fun ca hca => lc_range (n := c.toNat) (fun j H9 => ∃ G : List Int, H9 ca = some (.lst (G.map V.int)) ∧ G.length ≤ j ∧ (∀ g ∈ G, 0 ≤ g ∧ g < c) ∧ Bx H9 b (n + 300 + j) ∧ Kp [b] H8 H9) ?_ ?_ ?_⟩
    · exact ⟨[], upd_same, by simp, by simp, (hB8.keep (Kp.rfl'.new (bs := []) hca) (by simp)).up (by omega), Kp.rfl'.new hca⟩
    · rintro j H9 hj ⟨G, h9, l9, g9, hB9, k9⟩
      have ncb := hB8.off hca
      refine ⟨rfl, _, rfl, b, 3, _, rfl, hB9, by decide, by decide, by omega, fun r H10 r0 r1 hB10 k10 => ⟨_, _, rfl, rfl, _, rfl, ite2 (fun cc => ?_) (fun cc => ?_)⟩⟩
      · refine ⟨_, rfl, _, k10 _ _ h9 (by simpa using ncb), by rw [List.length_map]; exact small1000 (by omega), G ++ [0 + (j : Int)], by rw [upd_same, ints_snoc], by simp; omega, fun g hg => ?_, (hB10.keep (Kp.rfl'.put (bs := [ca]) (by simp)) (by simpa using ncb.symm)).up (by omega), (k9.trans k10).own hca⟩
        rcases List.mem_append.mp hg with z | z
        · exact g9 g z
        · rw [List.mem_singleton.mp z]
          omega
      · exact ⟨G, k10 _ _ h9 (by simpa using ncb), by omega, g9, hB10.up (by omega), k9.trans k10⟩
    rintro H9 ⟨G, h9, l9, g9, hB9, k9⟩
    have ncb := hB8.off hca
    have ncs : ca ≠ s := (ne_of_none (k58 _ _ es (by simpa using nsb)) hca).symm
    have k59 := k58.trans k9
    have k89 := k8.trans k9
    obtain ⟨cn, rfl⟩ : ∃ cn : Nat, c = (cn : Int) := ⟨c.toNat, by omega⟩
    have ect : ((cn : Nat) : Int).toNat = cn := by omega
    rw [ect] at l3 g3 l5 l9
    have pl9 : Pl H9 b d s ma pa ca rows steps ws st G cn := ⟨dR5.keep (k59.sub (by simp)), dS.keep k59, k89 _ _ hm (by simpa using nmb), by simp [nms, nmb], k9 _ _ hp (by simpa using npb), by simp [nps, npb], h9, by simp [ncs, ncb]⟩
    have lst : st.length = cn := so.len.trans l5
    have hB9' := hB9.up (show n + 300 + ((cn : Nat) : Int).toNat ≤ n + 320 by omega)
    have k09 := k05.trans k59
    clear hB9 hB8 hB7 hB6 hB5 k57 k58 k59 k89 k9 k8 k7 k6 hm hp h9 dR5 dS k05 k03 dR hca fp fm es
    refine nx_of ⟨_, rfl, ca, rfl, ⟨_, SqL.of pl9.hc⟩, for_list (K := K) (a := ca) (xs := G.map V.int) (fun g σ H10 => ∃ (o7 o10 o11 o13 o14 o15 o16 : Option V) (steps : List (List Int)), σ = [some (.ref b), some (.int m), some (.int k), some (.int cn), some (.ref d), some (.ref s), some (.ref ca), o7, some (.ref ma), some (.ref pa), o10, o11, none, o13, o14, o15, o16, none] ∧ Pl H10 b d s ma pa ca rows steps ws st G cn ∧ steps.length = cn ∧ (∀ r ∈ steps, Rung0 r ∧ Bd 200000 r) ∧ StIn steps st ∧ Bx H10 b (n + 320 + 40 * g) ∧ Kp [s, b] H9 H10) ?_ ?_ ?_ ?_⟩
    · exact ⟨_, _, _, _, _, _, _, steps, rfl, pl9, l5, fun r hr => ⟨(g5 r hr).1, (g5 r hr).2.up (by decide)⟩, so, hB9', Kp.rfl'⟩
    · rintro g σ H10 _ ⟨_, _, _, _, _, _, _, _, _, pl, _⟩
      exact SqL.of pl.hc
    · rintro g y σ H10 hg ⟨o7, o10, o11, o13, o14, o15, o16, steps, rfl, pl, ls, okS, so, hB10, k10⟩
      rw [List.getElem?_map] at hg
      obtain ⟨z, hz, rfl⟩ := Option.map_eq_some_iff.mp hg
      obtain ⟨z0, z1⟩ := g9 z (List.mem_of_getElem? hz)
      have gl := (List.getElem?_eq_some_iff.mp hz).1
      obtain ⟨gn', rfl⟩ : ∃ k : Nat, z = (k : Int) := ⟨z.toNat, by omega⟩
      have hgc : gn' < cn := by omega
      refine gn ?_
      have W10 : Wd H10 b d s ma pa rows steps ws st cn := ⟨pl.dr.less (by simp), pl.ds, pl.hm, by have := pl.nm; simp at this; exact this.2, pl.hp, by have := pl.np; simp at this; exact this.2, by omega, by omega, l3, g3, ls, okS, okw, lst, so.bd⟩
      obtain ⟨xr, a, r, hra, gx, er, LK⟩ := W10.look pl.hc hgc
      refine ⟨_, rfl, _, rfl, d, _, _, V.ref a, rfl, rfl, SqL.of hra, atI_nat gx, _, rfl, _, rfl, _, rfl, _, rfl, [b], a, s, ma, pa, ca, r, steps, ws, st, G, cn, rfl, LK, fun t H11 f11 k11 ht => ?_⟩
      refine ⟨t, _, rfl, SqT.of ht, rfl, _, _, rfl, _, _, rfl, rfl, ?_⟩
      have bL := LK.bd (-1)
      have bH := LK.bd 1
      obtain ⟨lo, elo⟩ : ∃ lo, spanL (-1) (topsOf steps) st G r cn ws = lo := ⟨_, rfl⟩
      obtain ⟨hi, ehi⟩ : ∃ hi, spanL 1 (topsOf steps) st G r cn ws = hi := ⟨_, rfl⟩
      rw [elo] at bL
      rw [ehi] at bH
      rw [elo, ehi]
      have pl11 := pl.keep (k11.sub (by simp))
      have hB11 := hB10.keep k11 (by simp)
      have k911 : Kp [s, b] H9 H11 := k10.trans (k11.sub (by simp))
      have eg := get_getD (show gn' < st.length by omega)
      obtain ⟨s1, es1⟩ : ∃ s1, st.getD gn' 0 = s1 := ⟨_, rfl⟩
      rw [es1] at eg
      have bs1 := so.bd s1 (List.mem_of_getElem? eg)
      obtain ⟨sr, esr⟩ : ∃ sr, steps[gn']? = some sr := ⟨steps[gn']'(by omega), by simp⟩
      have tp1 := so.top gn' s1 sr eg esr
      have rgs := (okS sr (List.mem_of_getElem? esr)).1
      have rg4 := rgs.l4
      clear LK W10 ht
      refine ⟨Nat.zero_le _, fun o ho => ?_⟩
      have k12 : ∀ cs, Kp cs H11 (upd H11 o (.lst [])) := fun cs => Kp.rfl'.new ho
      have ho12 : (upd H11 o (.lst [])) o = some (.lst []) := upd_same
      have pl12 := pl11.keep (k12 _)
      have hB12 := hB11.keep (k12 []) (by simp)
      have nos : o ≠ s := by
        obtain ⟨xs, e1, _⟩ := pl11.ds.rowII
        exact (ne_of_none e1 ho).symm
      have nob := hB11.off ho
      have k912 := k911.trans (k12 _)
      generalize upd H11 o (.lst []) = H12 at k12 ho12 pl12 hB12 k912 ⊢
      refine ⟨_, rfl, _, rfl, b, 3, _, rfl, hB12, by decide, by decide, by omega, fun r1 H13 x0 x1 hB13 k13 => ⟨_, _, rfl, rfl, ?_⟩⟩
      refine ⟨_, rfl, b, 9, _, rfl, hB13, by decide, by decide, by omega, fun r2 H14 y0 y1 hB14 k14 => ⟨rfl, .inr ⟨_, rfl, _, _, rfl, rfl, _, _, rfl, ?_⟩⟩⟩
      obtain ⟨nr, enr, bnr⟩ : ∃ nr : Int, lo - r1 + (if decide (V.int r2 = V.int 0) = true then (1 : Int) else 0) = nr ∧ -50010 ≤ nr ∧ nr ≤ 50010 := ⟨_, rfl, by rcases bit01 (decide (V.int r2 = V.int 0)) with z | z <;> rw [z] <;> omega, by rcases bit01 (decide (V.int r2 = V.int 0)) with z | z <;> rw [z] <;> omega⟩
      have k1214 := k13.trans k14
      have pl14 := pl12.keep k1214
      have ho14 := k1214 _ _ ho12 (by simpa using nob)
      have k914 := k912.trans (k1214.sub (by simp))
      clear k13 k14 k1214 hB12 hB13 pl12 pl11 ho12 k912 k911 k12
      refine nx_of ⟨_, rfl, _, rfl, pa, _, _, V.int s1, rfl, rfl, SqT.of pl14.hp, atI_nat (by rw [List.getElem?_map, eg]; rfl), _, rfl, by omega, by omega, for_range (n := s1.toNat) (fun j σ H15 => ∃ (o10 : Option V) (o : Addr) (os : List Int) (near : Int), σ = [some (.ref b), some (.int m), some (.int k), some (.int cn), some (.ref d), some (.ref s), some (.ref ca), some (.int (gn' : Int)), some (.ref ma), some (.ref pa), o10, o11, none, some (.int lo), some (.int hi), some (.ref o), some (.int near), none] ∧ H15 o = some (.lst (os.map V.int)) ∧ o ≠ b ∧ o ≠ s ∧ os.length = j ∧ rises os ∧ (∀ x ∈ os, near < x ∧ x ≤ 50010 ∧ -50010 - 10 * (j : Int) ≤ x) ∧ (-50010 - 10 * (j : Int) ≤ near ∧ near ≤ 50010) ∧ Bx H15 b (n + 320 + 40 * g + 2 + j) ∧ Kp [b] H14 H15) ?_ ?_ ?_⟩
      · exact ⟨_, o, [], _, rfl, ho14, nob, nos, rfl, fun i x y h1 => by simp at h1, by simp, by rw [enr]; omega, hB14, Kp.rfl'⟩
      · rintro j σ H15 hj ⟨o10, o, os, near, rfl, h15, nob, nos, lj, up, mx, nb, hB15, k15⟩
        refine gn ?_
        refine ⟨_, rfl, by show 1 ≤ sizeLine; decide, fun l hl => ?_⟩
        have k16 : ∀ cs, Kp cs H15 (upd H15 l (.lst [.int near])) := fun cs => Kp.rfl'.new hl
        refine ⟨_, rfl, l, o, _, _, rfl, rfl, upd_same, k16 [] _ _ h15 (by simp), by rw [List.length_map, sizeLine_eq]; simp; omega, fun p hp => ?_⟩
        have k17 : ∀ cs v, Kp cs H15 (upd (upd H15 l (.lst [.int near])) p v) := fun cs v => (k16 cs).new hp
        have hp17 : (upd (upd H15 l (.lst [.int near])) p (.lst ([.int near] ++ os.map V.int))) p = some (.lst ((near :: os).map V.int)) := upd_same
        have npb : p ≠ b := (hB15.keep (k16 []) (by simp)).off hp
        have nps' : p ≠ s := by
          obtain ⟨xs, e1, _⟩ := (pl14.keep (k15.trans (k16 _))).ds.rowII
          exact (ne_of_none e1 hp).symm
        have hB17 := hB15.keep (k17 [] (.lst ([.int near] ++ os.map V.int))) (by simp)
        refine ⟨_, rfl, _, _, rfl, rfl, _, rfl, b, 4, _, rfl, hB17, by decide, by decide, by omega, fun r4 H18 x0 x1 hB18 k18 => ⟨_, _, rfl, rfl, _, _, rfl, ?_⟩⟩
        refine ⟨_, p, near :: os, near - 1 - r4, rfl, k18 _ _ hp17 (by simpa using npb), npb, nps', by simp [lj], rises_cons up fun y hy => (mx y hy).1, fun y hy => ?_, by omega, hB18, (k15.trans (k17 _ _)).trans k18⟩
        rcases List.mem_cons.mp hy with z | z
        · rw [z]
          omega
        · have := mx y z
          omega
      rintro σ H15 ⟨o10, o, os, near, rfl, h15, nob, nos, lj, up, mx, nb, hB15, k15⟩
      have k915 := k914.trans (k15.sub (by simp))
      have pl15 := pl14.keep k15
      clear k15 hB14 pl14 k914 ho14
      refine nx_of ?_
      refine ⟨_, rfl, _, _, rfl, rfl, _, rfl, b, 3, _, rfl, hB15, by decide, by decide, by omega, fun r3 H16 x0 x1 hB16 k16 => ⟨_, _, rfl, rfl, by show 1 ≤ sizeLine; decide, fun l hl => ?_⟩⟩
      have k17 : ∀ cs, Kp cs H16 (upd H16 l (.lst [.int (hi + 1 + r3)])) := fun cs => Kp.rfl'.new hl
      have hl17 : (upd H16 l (.lst [.int (hi + 1 + r3)])) l = some (.lst [.int (hi + 1 + r3)]) := upd_same
      have h17 := k17 [] _ _ (k16 _ _ h15 (by simpa using nob)) (by simp)
      have hB17 := hB16.keep (k17 []) (by simp)
      have k1517 : Kp [b] H15 (upd H16 l (.lst [.int (hi + 1 + r3)])) := k16.trans (k17 _)
      generalize upd H16 l (.lst [.int (hi + 1 + r3)]) = H17 at hl17 h17 hB17 k1517 ⊢
      refine ⟨_, rfl, o, rfl, ⟨_, SqL.of h17⟩, fun d' hd' => lc_intsL V.int (fun x => x + 1) h17 (by omega) hd' ?_ ?_⟩
      · intro x H' R N hx hr'
        exact ⟨rfl, yesT ⟨_, rfl, _, _, rfl, rfl, hr'⟩⟩
      intro H18 h18 k18
      refine ⟨l, d', _, _, rfl, rfl, k18 _ _ hl17 (by simp), h18, by rw [List.length_map, List.length_map, sizeLine_eq]; simp; omega, fun p hp => ?_⟩
      have k19 : ∀ v, Kp [] H17 (upd H18 p v) := fun v => k18.new hp
      refine ⟨p, (hi + 1 + r3) :: os.map (fun x => x + 1), rfl, SqL.of upd_same, Nat.zero_lt_succ _, fun fa fa1 fa2 => ?_⟩
      have fb : -50010 ≤ fa ∧ fa ≤ 50020 := by
        have := fa2 (hi + 1 + r3) (by simp)
        rcases List.mem_cons.mp fa1 with z | z
        · omega
        · obtain ⟨y, hy, rfl⟩ := List.mem_map.mp z
          have := mx y hy
          omega
      have fx : ∀ x ∈ os, x < fa := fun x hx => by
        have := fa2 (x + 1) (List.mem_cons_of_mem _ (List.mem_map.mpr ⟨x, hx, rfl⟩))
        omega
      have k1519 := k1517.trans ((k19 (.lst ([V.int (hi + 1 + r3)] ++ (os.map fun x => x + 1).map V.int))).sub (by simp))
      have hB19 := hB17.keep (k19 (.lst ([V.int (hi + 1 + r3)] ++ (os.map fun x => x + 1).map V.int))) (by simp)
      have h19 := k19 (.lst ([V.int (hi + 1 + r3)] ++ (os.map fun x => x + 1).map V.int)) _ _ h17 (by simp)
      have pl19 := pl15.keep k1519
      have k919 := k915.trans (k1519.sub (by simp))
      generalize upd H18 p (.lst ([V.int (hi + 1 + r3)] ++ (os.map fun x => x + 1).map V.int)) = H19 at k1519 hB19 h19 pl19 k919 ⊢
      clear k19 k18 h18 hp fa2 fa1 hd' k1517 hB17 h17 hl17 k17 hl k16 hB16 pl15 k915 hB15 h15
      obtain ⟨xs9, hs9, _, lx9, _, al9⟩ := pl19.ds.rowII
      obtain ⟨a9, gx9, ha9, _, _⟩ := al9 gn' sr esr
      refine ⟨_, rfl, _, rfl, s, _, _, V.ref a9, rfl, rfl, SqL.of hs9, atI_nat gx9, _, sr.length, rfl, .inl ⟨_, SqL.of ha9, by simp⟩, _, rfl, _, rfl, pa, _, _, V.int s1, rfl, rfl, SqT.of pl19.hp, atI_nat (by rw [List.getElem?_map, eg]; rfl), _, _, rfl, rfl, _, rfl, by omega, by omega, for_range (n := ((sr.length : Int) - s1).toNat) (fun j σ H20 => ∃ (o10 : Option V) (o : Addr) (os : List Int) (fa : Int), σ = [some (.ref b), some (.int m), some (.int k), some (.int cn), some (.ref d), some (.ref s), some (.ref ca), some (.int (gn' : Int)), some (.ref ma), some (.ref pa), o10, some (.int fa), none, some (.int lo), some (.int hi), some (.ref o), some (.int near), none] ∧ H20 o = some (.lst (os.map V.int)) ∧ o ≠ b ∧ o ≠ s ∧ (os.length : Int) = s1 + j ∧ rises os ∧ (∀ x ∈ os, x < fa ∧ -100000 ≤ x) ∧ (-50010 ≤ fa ∧ fa ≤ 50020 + 10 * (j : Int)) ∧ Bx H20 b (n + 320 + 40 * g + 10 + j) ∧ Kp [b] H19 H20) ?_ ?_ ?_⟩
      · exact ⟨_, o, os, fa, rfl, h19, nob, nos, by omega, up, fun x hx => ⟨fx x hx, by have := mx x hx; omega⟩, by omega, hB19.up (by omega), Kp.rfl'⟩
      · rintro j σ H20 hj ⟨o10, o, os, fa, rfl, h20, nob, nos, lj, up, mx, fb, hB20, k20⟩
        refine gn ?_
        refine ⟨_, rfl, _, rfl, by show 1 ≤ sizeLine; decide, fun l hl => ?_⟩
        have k21 : ∀ cs, Kp cs H20 (upd H20 l (.lst [.int fa])) := fun cs => Kp.rfl'.new hl
        refine ⟨o, l, _, _, rfl, rfl, k21 [] _ _ h20 (by simp), upd_same, by rw [List.length_map, sizeLine_eq]; simp; omega, fun p hp => ?_⟩
        have k22 : ∀ cs v, Kp cs H20 (upd (upd H20 l (.lst [.int fa])) p v) := fun cs v => (k21 cs).new hp
        have hp22 : (upd (upd H20 l (.lst [.int fa])) p (.lst (os.map V.int ++ [.int fa]))) p = some (.lst ((os ++ [fa]).map V.int)) := by rw [upd_same, ints_snoc]
        have npb : p ≠ b := (hB20.keep (k21 []) (by simp)).off hp
        have nps' : p ≠ s := by
          obtain ⟨xs, e1, _⟩ := (pl19.keep (k20.trans (k21 _))).ds.rowII
          exact (ne_of_none e1 hp).symm
        have hB22 := hB20.keep (k22 [] (.lst (os.map V.int ++ [.int fa]))) (by simp)
        refine ⟨_, rfl, _, _, rfl, rfl, _, rfl, b, 4, _, rfl, hB22, by decide, by decide, by omega, fun r4 H23 x0 x1 hB23 k23 => ⟨_, _, rfl, rfl, _, _, rfl, ?_⟩⟩
        refine ⟨_, p, os ++ [fa], fa + 1 + r4, rfl, k23 _ _ hp22 (by simpa using npb), npb, nps', by simp; omega, ?_, fun y hy => ?_, by omega, hB23, (k20.trans (k22 _ _)).trans k23⟩
        · by_cases ne : os = []
          · rw [ne]
            exact rises_one fa
          · exact rises_snoc up ne (mx _ (List.getLast_mem ne)).1
        · rcases List.mem_append.mp hy with z | z
          · have := mx y z
            omega
          · rw [List.mem_singleton.mp z]
            omega
      rintro σ H20 ⟨o10, o, os, fa, rfl, h20, nob, nos, lj, up, mx, fb, hB20, k20⟩
      have pl20 := pl19.keep k20
      obtain ⟨xs0, hs0, _, lx0, _, _⟩ := pl20.ds.rowII
      have los : (os.length : Int) = sr.length := by omega
      have rg1 := rgs.l1
      refine nx_of ⟨_, rfl, _, rfl, _, rfl, s, _, _, gn', rfl, rfl, hs0, ixN_nat (by omega), ?_⟩
      have kz : Kp [s, b] H20 (upd H20 s (.lst (xs0.set gn' (V.ref o)))) := Kp.rfl'.put (by simp)
      refine ⟨_, _, _, _, _, _, _, steps.set gn' os, rfl, pl20.lay hs0 h20 nob nos (by omega) (by omega) (fun x hx => by have := mx x hx; omega), by simpa using ls, fun r hr => ?_, ⟨by rw [List.length_set]; exact so.len, so.bd, fun j x r e1 e2 => ?_⟩, (hB20.keep (Kp.rfl'.put (bs := [s]) (by simp)) (by simpa using nsb.symm)).up (by omega), (k919.trans (k20.sub (by simp))).trans kz⟩
      · rcases List.mem_or_eq_of_mem_set hr with z | z
        · exact okS r z
        · rw [z]
          exact ⟨⟨by omega, by omega, up⟩, fun x hx => by have := mx x hx; omega⟩
      · rw [List.getElem?_set] at e2
        by_cases z : gn' = j
        · rw [if_pos z, if_pos (by omega)] at e2
          cases e2
          subst z
          have := so.top gn' x sr e1 esr
          omega
        · rw [if_neg z] at e2
          exact so.top j x r e1 e2
    · rintro σ H10 ⟨o7, o10, o11, o13, o14, o15, o16, steps, rfl, pl, ls, okS, so, hB10, k10⟩
      rw [List.length_map] at hB10
      have k010 : Kp [b] H H10 := fun a o e n => k10 a o (k09 a o e n) (by
        have := ne_of_none e fs
        simp at n ⊢
        exact ⟨this, n⟩)
      refine ⟨_, rfl, _, rfl, _, rfl, _, rfl, _, rfl, by show 5 ≤ sizeLine; decide, fun t ht => ?_⟩
      have kt : ∀ cs, Kp cs H10 (upd H10 t (.tup [.ref d, .ref s, .ref ma, .ref pa, .ref ca])) := fun cs => Kp.rfl'.new ht
      have nt := hB10.off ht
      have pt := pl.keep (kt _)
      exact q t d s ma pa ca rows steps ws st G cn _ (k010.free ht (by simpa using nt)) (k010.trans (kt _)) upd_same ⟨pt.dr.less (by simp), pt.ds, pt.hm, by have := pt.nm; simp at this; exact this.2, pt.hp, by have := pt.np; simp at this; exact this.2, by omega, by omega, l3, g3, ls, okS, okw, lst, so.bd⟩ so pt.hc (by have := pt.nc; simp at this; exact this.2) g9 l9 ((hB10.keep (kt []) (by simp)).up (by omega))

end
end Sw

set_option maxHeartbeats 2000000
namespace Sw
open PySem PySem.Spec PyProof.Rows L2
section
variable {P : Program} {w : World} {K : PySem.W.Frag} {mg : Str → Option Value} {base : Heap}
/-! ### the greatest firm group -/
theorem ev_mono {ts st G G' r : List Int} {w : Int} {j : Nat} (h : 0 ≤ st.getD j 0 ∧ st.getD j 0 ≤ ts.getD j 0) (sub : (j : Int) ∈ G → (j : Int) ∈ G') : ev (-1) ts st G r j w ≤ ev (-1) ts st G' r j w ∧ ev 1 ts st G' r j w ≤ ev 1 ts st G r j w := by
  by_cases c : (j : Int) ∈ G
  · rw [ev_in c, ev_in (sub c), ev_in c, ev_in (sub c)]
    exact ⟨Int.le_refl _, Int.le_refl _⟩
  · by_cases c' : (j : Int) ∈ G'
    · have z := ev_le (ts := ts) (st := st) (G := G) (r := r) (w := w) (y := st.getD j 0) (j := j) (by rw [if_neg c]; exact h)
      rw [ev_in c', ev_in c']
      exact z
    · rw [ev_lo c, ev_lo c', ev_hi c, ev_hi c']
      exact ⟨Int.le_refl _, Int.le_refl _⟩
theorem ev_two {ts st G r : List Int} {w : Int} {j : Nat} (h : 0 ≤ ts.getD j 0) : ev (-1) ts st G r j w ≤ ev 1 ts st G r j w := by
  by_cases c : (j : Int) ∈ G
  · rw [ev_in c, ev_in c]
    exact Int.le_refl _
  · have z := ev_le (ts := ts) (st := st) (G := G) (r := r) (w := w) (y := 0) (j := j) (by rw [if_neg c]; exact ⟨Int.le_refl _, h⟩)
    omega
theorem sum_le {f g : Int → Int} : ∀ {ws : List Int}, (∀ w ∈ ws, f w ≤ g w) → (ws.map f).sum ≤ (ws.map g).sum
  | [], _ => Int.le_refl _
  | w :: ws, h => by
    have h1 := h w (by simp)
    have h2 := sum_le (ws := ws) fun x hx => h x (List.mem_cons_of_mem _ hx)
    rw [List.map_cons, List.map_cons, List.sum_cons, List.sum_cons]
    omega
theorem span_mono {ts st G G' r ws : List Int} {c : Nat} (h : ∀ j, j < c → 0 ≤ st.getD j 0 ∧ st.getD j 0 ≤ ts.getD j 0) (sub : ∀ x ∈ G, x ∈ G') : spanL (-1) ts st G r c ws ≤ spanL (-1) ts st G' r c ws ∧ spanL (-1) ts st G' r c ws ≤ spanL 1 ts st G' r c ws ∧ spanL 1 ts st G' r c ws ≤ spanL 1 ts st G r c ws :=
  ⟨SU_le fun j hj => sum_le fun w _ => (ev_mono (h j hj) (sub _)).1, SU_le fun j hj => sum_le fun w _ => ev_two (by have := h j hj; omega), SU_le fun j hj => sum_le fun w _ => (ev_mono (h j hj) (sub _)).2⟩
theorem cnt_mono {r : List Int} {p q : Int} (h : p ≤ q) : cnt r p ≤ cnt r q := by
  unfold cnt
  induction r with
  | nil => simp
  | cons x r ih =>
    by_cases c1 : x ≤ p
    · have c2 : x ≤ q := by omega
      simp [c1, c2]
      simpa using ih
    · by_cases c2 : x ≤ q
      · simp [c1, c2]
        have := ih
        omega
      · simp [c1, c2]
        simpa using ih
theorem stB_mono {rows steps : List (List Int)} {ws st G G' : List Int} {c g : Nat} (h : ∀ j, j < c → 0 ≤ st.getD j 0 ∧ st.getD j 0 ≤ (topsOf steps).getD j 0) (sub : ∀ x ∈ G, x ∈ G') (e : stB rows steps ws st G c g = true) : stB rows steps ws st G' c g = true := by
  unfold stB endB at e ⊢
  rw [Bool.and_eq_true] at e ⊢
  have a1 := of_decide_eq_true e.1
  have a2 := of_decide_eq_true e.2
  obtain ⟨m1, m2, m3⟩ := span_mono (r := rows.getD g []) (ws := ws) h sub
  have c1 := cnt_mono (r := steps.getD g []) m1
  have c2 := cnt_mono (r := steps.getD g []) m2
  have c3 := cnt_mono (r := steps.getD g []) m3
  exact ⟨decide_eq_true (by omega), decide_eq_true (by omega)⟩
def Fm (rows steps : List (List Int)) (ws st : List Int) (c : Nat) (G : List Int) : Prop := ∀ g ∈ G, stB rows steps ws st G c g.toNat = true
structure Rg (c : Nat) (G : List Int) : Prop where
  pw : G.Pairwise (· < ·)
  rg : ∀ g ∈ G, 0 ≤ g ∧ g < c
/-- all firm groups lie within -/
def Up (rows steps : List (List Int)) (ws st : List Int) (c : Nat) (G : List Int) : Prop := ∀ F : List Int, (∀ g ∈ F, 0 ≤ g ∧ g < c) → Fm rows steps ws st c F → ∀ x ∈ F, x ∈ G
structure Grt (rows steps : List (List Int)) (ws st : List Int) (c : Nat) (G : List Int) : Prop where
  rg : Rg c G
  fm : Fm rows steps ws st c G
  up : Up rows steps ws st c G
theorem sorted_ext : ∀ {a b : List Int}, a.Pairwise (· < ·) → b.Pairwise (· < ·) → (∀ x, x ∈ a ↔ x ∈ b) → a = b
  | [], [], _, _, _ => rfl
  | [], y :: b, _, _, h => by
    have := (h y).mpr (by simp)
    simp at this
  | x :: a, [], _, _, h => by
    have := (h x).mp (by simp)
    simp at this
  | x :: a, y :: b, ha, hb, h => by
    obtain ⟨ha1, ha2⟩ := List.pairwise_cons.mp ha
    obtain ⟨hb1, hb2⟩ := List.pairwise_cons.mp hb
    have exy : x = y := by
      have h1 := (h x).mp (by simp)
      have h2 := (h y).mpr (by simp)
      rcases List.mem_cons.mp h1 with z | z
      · exact z
      · rcases List.mem_cons.mp h2 with u | u
        · exact u.symm
        · have := hb1 x z
          have := ha1 y u
          omega
    subst exy
    rw [sorted_ext ha2 hb2 fun z => ⟨fun hz => ?_, fun hz => ?_⟩]
    · rcases List.mem_cons.mp ((h z).mp (List.mem_cons_of_mem _ hz)) with u | u
      · have := ha1 z hz
        omega
      · exact u
    · rcases List.mem_cons.mp ((h z).mpr (List.mem_cons_of_mem _ hz)) with u | u
      · have := hb1 z hz
        omega
      · exact u
theorem Grt.eq {rows steps : List (List Int)} {ws st : List Int} {c : Nat} {G G' : List Int} (h : Grt rows steps ws st c G) (h' : Grt rows steps ws st c G') : G = G' :=
  sorted_ext h.rg.pw h'.rg.pw fun x => ⟨h'.up G h.rg.rg h.fm x, h.up G' h'.rg.rg h'.fm x⟩
/-- somebody taken out who can be moved -/
theorem Up.out {rows steps : List (List Int)} {ws st : List Int} {c : Nat} {G G' : List Int} {p : Int} (hs : ∀ j, j < c → 0 ≤ st.getD j 0 ∧ st.getD j 0 ≤ (topsOf steps).getD j 0) (h : Up rows steps ws st c G) (hp : stB rows steps ws st G c p.toNat = false) (e : ∀ x ∈ G, x ≠ p → x ∈ G') : Up rows steps ws st c G' := fun F rF hF x hx => by
  refine e x (h F rF hF x hx) fun z => ?_
  subst z
  have := stB_mono hs (h F rF hF) (hF x hx)
  rw [hp] at this
  cases this
theorem rng_rg (c : Nat) : Rg c ((List.range c).map fun (i : Nat) => (i : Int)) := by
  refine ⟨?_, fun g hg => ?_⟩
  · rw [List.pairwise_map]
    exact List.pairwise_lt_range.imp fun h => by omega
  · obtain ⟨i, hi, rfl⟩ := List.mem_map.mp hg
    have := List.mem_range.mp hi
    omega
theorem rng_up (rows steps : List (List Int)) (ws st : List Int) (c : Nat) : Up rows steps ws st c ((List.range c).map fun (i : Nat) => (i : Int)) := fun F rF _ x hx => by
  obtain ⟨h0, h1⟩ := rF x hx
  exact List.mem_map.mpr ⟨x.toNat, List.mem_range.mpr (by omega), by omega⟩
theorem Rg.filter {c : Nat} {G : List Int} (h : Rg c G) (p : Int → Bool) : Rg c (G.filter p) :=
  ⟨h.pw.sublist List.filter_sublist, fun g hg => h.rg g (List.mem_filter.mp hg).1⟩
theorem Fm.union {rows steps : List (List Int)} {ws st : List Int} {c : Nat} {G G' U : List Int} (hs : ∀ j, j < c → 0 ≤ st.getD j 0 ∧ st.getD j 0 ≤ (topsOf steps).getD j 0) (h : Fm rows steps ws st c G) (h' : Fm rows steps ws st c G') (hU : ∀ x, x ∈ U ↔ x ∈ G ∨ x ∈ G') : Fm rows steps ws st c U := fun x hx => by
  rcases (hU x).mp hx with z | z
  · exact stB_mono hs (fun y hy => (hU y).mpr (.inl hy)) (h x z)
  · exact stB_mono hs (fun y hy => (hU y).mpr (.inr hy)) (h' x z)
/-! ### all groups, by bits -/
def bitG (n b : Nat) : List Int := ((List.range n).filter fun i => decide (b / 2 ^ i % 2 = 1)).map fun (i : Nat) => (i : Int)
theorem bitG_rg (n b : Nat) : Rg n (bitG n b) := by
  refine ⟨?_, fun g hg => ?_⟩
  · unfold bitG
    rw [List.pairwise_map]
    exact (List.pairwise_lt_range.sublist List.filter_sublist).imp fun h => by omega
  · obtain ⟨i, hi, rfl⟩ := List.mem_map.mp hg
    have := List.mem_range.mp (List.mem_filter.mp hi).1
    omega
theorem bits_ex (p : Nat → Prop) [DecidablePred p] : ∀ n : Nat, ∃ b, b < 2 ^ n ∧ ∀ i, i < n → (b / 2 ^ i % 2 = 1 ↔ p i)
  | 0 => ⟨0, by decide, fun i hi => absurd hi (Nat.not_lt_zero _)⟩
  | n + 1 => by
    obtain ⟨b, hb, h⟩ := bits_ex p n
    by_cases c : p n
    · refine ⟨b + 2 ^ n, by rw [Nat.pow_succ]; omega, fun i hi => ?_⟩
      by_cases e : i = n
      · subst e
        have e1 : (b + 2 ^ i) / 2 ^ i = 1 := by
          rw [Nat.add_div_right _ (Nat.two_pow_pos i), Nat.div_eq_of_lt hb]
        rw [e1]
        exact ⟨fun _ => c, fun _ => rfl⟩
      · have hin : i < n := by omega
        rw [← h i hin]
        have e1 : 2 ^ n = 2 ^ i * (2 * 2 ^ (n - i - 1)) := by
          have : n = i + (1 + (n - i - 1)) := by omega
          conv => lhs; rw [this]
          rw [Nat.pow_add, Nat.pow_add, Nat.pow_one]
        rw [e1, Nat.add_mul_div_left _ _ (Nat.two_pow_pos i), Nat.add_mul_mod_self_left]
    · refine ⟨b, by rw [Nat.pow_succ]; omega, fun i hi => ?_⟩
      by_cases e : i = n
      · subst e
        rw [Nat.div_eq_of_lt hb]
        exact ⟨fun z => absurd z (by decide), fun z => absurd z c⟩
      · exact h i (by omega)
theorem bitG_all {n : Nat} {G : List Int} (h : Rg n G) : ∃ b, b < 2 ^ n ∧ bitG n b = G := by
  obtain ⟨b, hb, hi⟩ := bits_ex (fun i => (i : Int) ∈ G) n
  refine ⟨b, hb, sorted_ext (bitG_rg n b).pw h.pw fun x => ⟨fun hx => ?_, fun hx => ?_⟩⟩
  · obtain ⟨i, h1, rfl⟩ := List.mem_map.mp hx
    obtain ⟨h2, h3⟩ := List.mem_filter.mp h1
    exact (hi i (List.mem_range.mp h2)).mp (of_decide_eq_true h3)
  · obtain ⟨x0, x1⟩ := h.rg x hx
    refine List.mem_map.mpr ⟨x.toNat, List.mem_filter.mpr ⟨List.mem_range.mpr (by omega), decide_eq_true ((hi x.toNat (by omega)).mpr ?_)⟩, by omega⟩
    have e : ((x.toNat : Nat) : Int) = x := by omega
    rw [e]
    exact hx

end
end Sw

set_option maxHeartbeats 2000000
namespace Sw
open PySem PySem.Spec PyProof.Rows L2
section
variable {P : Program} {w : World} {K : PySem.W.Frag} {mg : Str → Option Value} {base : Heap}
/-! ### movers, and the greatest firm group by the program -/
theorem kNotIn {X : Cx} {K : PySem.W.Frag} (h : X.K = K) : OpR X (compareOp .NotIn) (rIn K true) := by
  subst h
  exact op_notIn_seq
theorem Grp.set {bs : List Addr} {H H' : Hp} {w' : Nat} {x sa ga ga' : Addr} {kd kd' : Bool} {rows steps : List (List Int)} {ws st G G' : List Int} {c : Nat} (h : Grp K bs H w' x sa ga kd rows steps ws st G c) (k : Kp [] H H') (hg : H' ga' = some (sqo kd' (G'.map V.int))) (gb : ∀ g ∈ G', 0 ≤ g ∧ g < c) : Grp K bs H' w' x sa ga' kd' rows steps ws st G' c :=
  ⟨h.ha.keep (k.sub (by simp)), k _ _ h.hs (by simp), hg, gb, h.lr, h.row, h.ls, h.s4, h.lst, h.c9, h.lw, h.bw, h.w5, h.w1⟩
def sp_moverIn (K : PySem.W.Frag) : Sp := fun vs H Q _ => ∃ (x sa ga : Addr) (rows steps : List (List Int)) (ws st G : List Int) (bs : List Addr) (w c : Nat), vs = [.ref x, .ref sa, .ref ga] ∧ Grp K bs H w x sa ga true rows steps ws st G c ∧
  ∀ (v : V) (H' : Hp), Kp [] H H' → ((v = .non ∧ Fm rows steps ws st c G) ∨ (∃ (t p : Addr) (g : Int), v = .ref t ∧ H' t = some (.tup [.int g, .ref p]) ∧ g ∈ G ∧ stB rows steps ws st G c g.toNat = false ∧ H p = none ∧ ∃ sg : Int, (sg = 1 ∨ sg = -1) ∧ endB sg rows steps ws st G c g.toNat = false ∧ PastL H' p (farP sg (topsOf steps) st G (rows.getD g.toNat []) c ws))) → Q v H'
theorem ok_moverIn (T : Tx K mg) : FnOk P w K mg base CX0 5 (He.fAd K ("mover_in", none)) T.fd_mover_in p_mover_in (sp_moverIn K) := by
  have G_moving_past := ok_moving (P := P) (w := w) (base := base) T
  refine T.F_mover_in.ok sc_mover_in (fun vs H Q E h => ?_) (fun cdv A outer s H vs Q E hr h => ?_)
  · obtain ⟨_, _, _, _, _, _, _, _, _, _, _, rfl, _⟩ := h
    rfl
  · obtain ⟨x, sa, ga, rows, steps, ws, st, G, bs, w', c, rfl, g, q⟩ := h
    refine ⟨_, PSs.nox (pss_cons (ps_for PassesOwn.never rfl (pi_list (pv 2)) (pg_name (i := 3) sc_mover_in.nd rfl (by first | exact Or.inl rfl | exact Or.inr rfl))
      (pss_cons (ps_set (i := 4) sc_mover_in.nd rfl (by first | exact Or.inl rfl | exact Or.inr rfl) (pe_call G_moving_past (hr.mono (by first | decide | omega)) rfl T.g_moving_past T.F_moving_past.kp T.bd_moving_past .nil pass0 (pa_cons (pv 0) (pa_cons (pv 1) (pa_cons (pv 2) (pa_cons (pv 3) pa_nil))))))
      (pss_one (ps_if (pt_cmpR op_notN (pv 4) pe_non (nomark _))
      (pss_one (ps_ret (pe_tup (pa_cons (pv 3) (pa_cons (pv 4) pa_nil)))))
      pss_nil))))
      (pss_one (ps_ret pe_non))), ?_⟩
    have hg : H ga = some (.lst (G.map V.int)) := g.hg
    refine ⟨_, rfl, ga, rfl, ⟨_, SqL.of hg⟩, for_list (K := K) (a := ga) (xs := G.map V.int) (fun j σ H1 => ∃ (o3 o4 : Option V), σ = [some (.ref x), some (.ref sa), some (.ref ga), o3, o4] ∧ (∀ z ∈ G.take j, stB rows steps ws st G c z.toNat = true) ∧ Kp [] H H1) ?_ ?_ ?_ ?_⟩
    · exact ⟨_, _, rfl, by simp, Kp.rfl'⟩
    · rintro j σ H1 _ ⟨_, _, _, _, k1⟩
      exact SqL.of (k1 _ _ hg (by simp))
    · rintro j y σ H1 hj ⟨o3, o4, rfl, f, k1⟩
      rw [List.getElem?_map] at hj
      obtain ⟨z, hz, rfl⟩ := Option.map_eq_some_iff.mp hj
      have zm := List.mem_of_getElem? hz
      obtain ⟨z0, z1⟩ := g.gb z zm
      obtain ⟨zn, rfl⟩ : ∃ k : Nat, z = (k : Int) := ⟨z.toNat, by omega⟩
      refine gn ?_
      refine ⟨_, rfl, _, rfl, _, rfl, _, rfl, x, sa, ga, zn, rows, steps, ws, st, G, bs, w', c, true, rfl, g.keep k1, by omega, fun v H2 k2 hv => ?_⟩
      rcases hv with ⟨rfl, e⟩ | ⟨p, rfl, fp, e, sg, hsg, eb, hp⟩
      · refine ⟨_, rfl, rfl, _, rfl, iteN (by simp) ?_⟩
        refine ⟨_, _, rfl, fun u hu => ?_, k1.trans k2⟩
        rw [List.take_add_one, hz] at hu
        rcases List.mem_append.mp hu with a | a
        · exact f u a
        · have : u = (zn : Int) := by simpa using a
          rw [this]
          exact e
      · refine ⟨_, rfl, rfl, _, rfl, iteC (by simp) ?_⟩
        refine ⟨_, rfl, _, rfl, by show 2 ≤ sizeLine; decide, fun t ht => ?_⟩
        exact q _ _ ((k1.trans k2).new ht) (.inr ⟨t, p, (zn : Int), rfl, upd_same, zm, e, k1.free fp (by simp), sg, hsg, eb, hp.keep (Kp.rfl'.new ht)⟩)
    · rintro σ H1 ⟨o3, o4, rfl, f, k1⟩
      rw [List.length_map, List.take_length] at f
      exact q _ H1 k1 (.inl ⟨rfl, f⟩)
def sp_len (K : PySem.W.Frag) : Sp := fun vs H Q _ => ∃ (x : Addr) (rows steps : List (List Int)) (ws : List Int) (bs : List Addr) (w : Nat), vs = [.ref x] ∧ HallAt K bs H w x rows steps ws ∧ Q (.int (rows.length : Int)) H
theorem ok_len (T : Tx K mg) : FnOk P w K mg base CX0 1 (He.fAd K ("Hall", some "__len__")) T.fd_Hall___len__ p_Hall___len__ (sp_len K) := by
  refine T.F_Hall___len__.ok sc_Hall___len__ (fun vs H Q E h => ?_) (fun cdv A outer s H vs Q E hr h => ?_)
  · obtain ⟨_, _, _, _, _, _, rfl, _⟩ := h
    rfl
  · obtain ⟨x, rows, steps, ws, bs, w', rfl, hA, q⟩ := h
    obtain ⟨dx, a1, a2, a3, hx, _, d1, d2, d3⟩ := hA.ex
    refine ⟨_, PSs.nox (pss_one (ps_ret (pe_callB call_len (by rfl) T.b_len (by decide +kernel) (pa_cons (pe_fld (pv 0) rfl) pa_nil)))), ?_⟩
    cases d1 with
    | @tup _ _ xs _ h1 _ _ t1 =>
    have l1 := DA.len t1
    rw [List.length_map] at l1
    exact ⟨_, rfl, x, C0 K, dx, _, _, rfl, hx, T.cl_Hall, T.na_Hall_string_rows, flds_1 _ _ _, _, rows.length, rfl, .inr ⟨_, SqT.of h1, by rw [l1]⟩, q⟩
theorem rng_vals {c : Nat} {n : Int} (h : n = (c : Int)) : rgV 0 n = ((List.range c).map fun (i : Nat) => (i : Int)).map V.int := by
  unfold rgV
  rw [List.map_map]
  have e1 : (n - 0).toNat = c := by omega
  rw [e1]
  refine List.map_congr_left fun i _ => ?_
  show V.int (0 + (i : Int)) = V.int (i : Int)
  rw [Int.zero_add]
theorem erase_mem {G : List Int} {j : Nat} {g : Int} (pw : G.Pairwise (· < ·)) (hj : G[j]? = some g) : (G.eraseIdx j).Pairwise (· < ·) ∧ (∀ x ∈ G.eraseIdx j, x ∈ G) ∧ (∀ x ∈ G, x ≠ g → x ∈ G.eraseIdx j) ∧ g ∉ G.eraseIdx j ∧ (G.eraseIdx j).length + 1 = G.length := by
  obtain ⟨hl, e⟩ := List.getElem?_eq_some_iff.mp hj
  refine ⟨pw.sublist (List.eraseIdx_sublist ..), fun x hx => (List.eraseIdx_sublist ..).subset hx, fun x hx ne => ?_, fun hg => ?_, ?_⟩
  · obtain ⟨i, hi, ei⟩ := List.getElem_of_mem hx
    rw [List.mem_eraseIdx_iff_getElem]
    refine ⟨i, hi, fun z => ne ?_, ei⟩
    subst z
    rw [← ei, e]
  · rw [List.mem_eraseIdx_iff_getElem] at hg
    obtain ⟨i, hi, ne, ei⟩ := hg
    have := List.pairwise_iff_getElem.mp pw
    rcases Nat.lt_or_gt_of_ne ne with z | z
    · have := this i j hi hl z
      rw [ei, e] at this
      omega
    · have := this j i hl hi z
      rw [ei, e] at this
      omega
  · rw [List.length_eraseIdx, if_pos hl]
    omega
theorem AsAt.keepLs {H H' : Hp} {as : List Addr} {past : List (List Int)} {bs : List Addr} (h : AsAt H as past) (k : Kp bs H H') (f : ∀ b ∈ bs, ∃ xs, H b = some (.lst xs)) : AsAt H' as past :=
  ⟨h.len, fun m t st e1 e2 => k _ _ (h.row m t st e1 e2) fun z => by
    have e := h.row m t st e1 e2
    obtain ⟨xs, ex⟩ := f t z
    rw [ex] at e
    cases e⟩
/-- those taken out so far, each with a past -/
structure Mv (rows steps : List (List Int)) (ws st : List Int) (c : Nat) (bs : List Addr) (H : Hp) (ts : List Addr) (gs : List Int) : Prop where
  len : ts.length = gs.length
  at' : ∀ (k : Nat) (t : Addr) (g : Int), ts[k]? = some t → gs[k]? = some g → ∃ (p : Addr) (sg : Int) (Gk : List Int), H t = some (.tup [.int g, .ref p]) ∧ p ∉ bs ∧ (sg = 1 ∨ sg = -1) ∧ endB sg rows steps ws st Gk c g.toNat = false ∧ PastL H p (farP sg (topsOf steps) st Gk (rows.getD g.toNat []) c ws) ∧ (∀ j : Int, 0 ≤ j → j < c → (j ∈ Gk ↔ j ∉ gs.take k)) ∧ 0 ≤ g ∧ g < c ∧ g ∉ gs.take k
theorem Mv.keep {rows steps : List (List Int)} {ws st : List Int} {c : Nat} {H H' : Hp} {ts : List Addr} {gs : List Int} {bs cs : List Addr} (h : Mv rows steps ws st c bs H ts gs) (k : Kp cs H H') (sb : ∀ b ∈ cs, b ∈ bs) (f : ∀ b ∈ cs, ∃ xs, H b = some (.lst xs)) : Mv rows steps ws st c bs H' ts gs :=
  ⟨h.len, fun i t g e1 e2 => by
    obtain ⟨p, sg, Gk, hp, pb, h1, h2, ⟨as, h3, h4⟩, h5⟩ := h.at' i t g e1 e2
    refine ⟨p, sg, Gk, k _ _ hp fun z => ?_, pb, h1, h2, ⟨as, k _ _ h3 fun z => pb (sb _ z), h4.keepLs k f⟩, h5⟩
    obtain ⟨xs, e⟩ := f t z
    rw [e] at hp
    cases hp⟩
theorem Mv.push {rows steps : List (List Int)} {ws st : List Int} {c : Nat} {bs : List Addr} {H : Hp} {ts : List Addr} {gs Gk : List Int} {t p : Addr} {g sg : Int} (h : Mv rows steps ws st c bs H ts gs) (ht : H t = some (.tup [.int g, .ref p])) (pb : p ∉ bs) (h1 : sg = 1 ∨ sg = -1) (h2 : endB sg rows steps ws st Gk c g.toNat = false) (h3 : PastL H p (farP sg (topsOf steps) st Gk (rows.getD g.toNat []) c ws)) (h4 : ∀ j : Int, 0 ≤ j → j < c → (j ∈ Gk ↔ j ∉ gs)) (g0 : 0 ≤ g) (g1 : g < c) (gn : g ∉ gs) : Mv rows steps ws st c bs H (ts ++ [t]) (gs ++ [g]) := by
  have l := h.len
  refine ⟨by simp [l], fun i u z e1 e2 => ?_⟩
  by_cases cc : i < ts.length
  · rw [List.getElem?_append_left cc] at e1
    rw [List.getElem?_append_left (by omega)] at e2
    rw [List.take_append_of_le_length (by omega)]
    exact h.at' i u z e1 e2
  · rw [List.getElem?_append_right (by omega)] at e1
    rw [List.getElem?_append_right (by omega)] at e2
    have z0 : i - ts.length = 0 := by
      have := (List.getElem?_eq_some_iff.mp e1).1
      simp at this
      omega
    rw [z0] at e1
    rw [← l, z0] at e2
    cases (show some t = some u from e1)
    cases (show some g = some z from e2)
    have ei : i = gs.length := by omega
    rw [ei, List.take_left']
    · exact ⟨p, sg, Gk, ht, pb, h1, h2, h3, h4, g0, g1, gn⟩
    · rfl
def lenAt (H : Hp) (a : Addr) : Nat := match H a with
  | some (.lst xs) => xs.length
  | _ => 0
def sp_movers (K : PySem.W.Frag) : Sp := fun vs H Q _ => ∃ (x sa : Addr) (rows steps : List (List Int)) (ws st : List Int) (bs : List Addr) (w c : Nat), vs = [.ref x, .ref sa] ∧ (∀ (ga : Addr) (G : List Int) (H' : Hp), Kp [] H H' → H' ga = some (.lst (G.map V.int)) → (∀ g ∈ G, 0 ≤ g ∧ g < c) → Grp K bs H' w x sa ga true rows steps ws st G c) ∧ (∀ j, j < c → 0 ≤ st.getD j 0 ∧ st.getD j 0 ≤ (topsOf steps).getD j 0) ∧ HallAt K bs H w x rows steps ws ∧ rows.length = c ∧ c ≤ 900 ∧
  ∀ (mo : Addr) (ts : List Addr) (gs G : List Int) (H' : Hp), H mo = none → Kp [] H H' → H' mo = some (.lst (ts.map V.ref)) → Mv rows steps ws st c [] H' ts gs → gs.length ≤ 900 → Grt rows steps ws st c G → (∀ g : Int, 0 ≤ g → g < c → (g ∈ G ↔ g ∉ gs)) → Q (.ref mo) H'
theorem ok_movers (T : Tx K mg) : FnOk P w K mg base CX0 6 (He.fAd K ("movers", none)) T.fd_movers p_movers (sp_movers K) := by
  have G_mover_in := ok_moverIn (P := P) (w := w) (base := base) T
  have G_len := ok_len (P := P) (w := w) (base := base) T
  refine T.F_movers.ok sc_movers (fun vs H Q E h => ?_) (fun cdv A outer s H vs Q E hr h => ?_)
  · obtain ⟨_, _, _, _, _, _, _, _, _, rfl, _⟩ := h
    rfl
  · obtain ⟨x, sa, rows, steps, ws, st, bs, w', c, rfl, mk, hs, hA, hlr, c9, q⟩ := h
    refine ⟨_, PSs.nox (pss_cons (ps_set (i := 2) sc_movers.nd rfl (by first | exact Or.inl rfl | exact Or.inr rfl) (pe_listRg rfl (by rfl) T.b_list (prg_1 (by rfl) T.b_range (pe_callB (call_lenO T.m_Hall___len__ G_len (hr.mono (by first | decide | omega)) T.bd_Hall___len__) (by rfl) T.b_len (by decide +kernel) (pa_cons (pv 0) pa_nil)))))
      (pss_cons (ps_set (i := 3) sc_movers.nd rfl (by first | exact Or.inl rfl | exact Or.inr rfl) (pe_lst pa_nil))
      (pss_cons (ps_set (i := 4) sc_movers.nd rfl (by first | exact Or.inl rfl | exact Or.inr rfl) (pe_call G_mover_in (hr.mono (by first | decide | omega)) rfl T.g_mover_in T.F_mover_in.kp T.bd_mover_in .nil pass0 (pa_cons (pv 0) (pa_cons (pv 1) (pa_cons (pv 2) pa_nil)))))
      (pss_cons (ps_while PassesOwn.never (pt_cmpR op_notN (pv 4) pe_non (nomark _))
      (pss_cons (ps_expr (pe_bm PySem.F.plainAttrs_list PySem.F.slot_list_append PySem.F.type_list_append mt_append (pv 3) (pa_cons (pv 4) pa_nil)))
      (pss_cons (ps_expr (pe_bm PySem.F.plainAttrs_list PySem.F.slot_list_remove PySem.F.type_list_remove mt_remove (pv 2) (pa_cons (pe_ix ix_tup (pv 4) pe_int (fun _ _ => rfl)) pa_nil)))
      (pss_one (ps_set (i := 4) sc_movers.nd rfl (by first | exact Or.inl rfl | exact Or.inr rfl) (pe_call G_mover_in (hr.mono (by first | decide | omega)) rfl T.g_mover_in T.F_mover_in.kp T.bd_mover_in .nil pass0 (pa_cons (pv 0) (pa_cons (pv 1) (pa_cons (pv 2) pa_nil)))))))))
      (pss_one (ps_ret (pv 3))))))), ?_⟩
    obtain ⟨dx, a1, a2, a3, hx, _⟩ := id hA.ex
    refine ⟨_, rfl, x, dx, _, rfl, hx, x, rows, steps, ws, bs, w', rfl, hA, _, rfl, by omega, by omega, ?_⟩
    refine ⟨_, rfl, ⟨by omega, by omega, by omega, by omega, by omega⟩, fun ga hga => ?_⟩
    have hga1 : (upd H ga (.lst (rgV 0 (rows.length : Int)))) ga = some (.lst (((List.range c).map fun (i : Nat) => (i : Int)).map V.int)) := by rw [upd_same, rng_vals (c := c) (by omega)]
    have k1 : Kp [] H (upd H ga (.lst (rgV 0 (rows.length : Int)))) := Kp.rfl'.new hga
    generalize upd H ga (.lst (rgV 0 (rows.length : Int))) = H1 at hga1 k1 ⊢
    refine ⟨Nat.zero_le _, fun mo hmo => ?_⟩
    have k2 : Kp [] H1 (upd H1 mo (.lst [])) := Kp.rfl'.new hmo
    have hmo2 : (upd H1 mo (.lst [])) mo = some (.lst []) := upd_same
    have hga2 := k2 _ _ hga1 (by simp)
    have ngm : ga ≠ mo := ne_of_none hga1 hmo
    have fmo : H mo = none := k1.free hmo (by simp)
    generalize upd H1 mo (.lst []) = H2 at k2 hmo2 hga2 ⊢
    have k02 := k1.trans k2
    refine ⟨_, rfl, _, rfl, _, rfl, x, sa, ga, rows, steps, ws, st, _, bs, w', c, rfl, mk ga _ H2 k02 hga2 (rng_rg c).rg, fun v H3 k3 hv => ?_⟩
    have k03 := k02.trans k3
    have hvf : ∀ {Ha Hb : Hp} {G : List Int} {v : V} {xm xg : HO}, Ha mo = some xm → Ha ga = some xg → ((v = .non ∧ Fm rows steps ws st c G) ∨ (∃ (t p : Addr) (g : Int), v = .ref t ∧ Hb t = some (.tup [.int g, .ref p]) ∧ g ∈ G ∧ stB rows steps ws st G c g.toNat = false ∧ Ha p = none ∧ ∃ sg : Int, (sg = 1 ∨ sg = -1) ∧ endB sg rows steps ws st G c g.toNat = false ∧ PastL Hb p (farP sg (topsOf steps) st G (rows.getD g.toNat []) c ws))) → ((v = .non ∧ Fm rows steps ws st c G) ∨ (∃ (t p : Addr) (g : Int), v = .ref t ∧ Hb t = some (.tup [.int g, .ref p]) ∧ g ∈ G ∧ stB rows steps ws st G c g.toNat = false ∧ p ∉ [mo, ga] ∧ ∃ sg : Int, (sg = 1 ∨ sg = -1) ∧ endB sg rows steps ws st G c g.toNat = false ∧ PastL Hb p (farP sg (topsOf steps) st G (rows.getD g.toNat []) c ws))) := fun {Ha Hb G v xm xg} em eg hv => by
      rcases hv with h | ⟨t, p, g, e1, e2, e3, e4, e5, e6⟩
      · exact .inl h
      · refine .inr ⟨t, p, g, e1, e2, e3, e4, ?_, e6⟩
        have := (ne_of_none em e5).symm
        have := (ne_of_none eg e5).symm
        simp only [List.mem_cons, List.not_mem_nil, or_false, not_or]
        exact ⟨‹p ≠ mo›, ‹p ≠ ga›⟩
    have hv := hvf hmo2 hga2 hv
    refine nx_of ?_
    refine seq_cut (fun σ H4 => ∃ (ts : List Addr) (gs G : List Int), σ = [some (.ref x), some (.ref sa), some (.ref ga), some (.ref mo), some .non] ∧ H4 mo = some (.lst (ts.map V.ref)) ∧ Mv rows steps ws st c [] H4 ts gs ∧ gs.length ≤ 900 ∧ Grt rows steps ws st c G ∧ (∀ g : Int, 0 ≤ g → g < c → (g ∈ G ↔ g ∉ gs)) ∧ Kp [] H H4) ?_ fun nx hnx => ?_
    · rintro σ H4 ⟨ts, gs, G, rfl, h4, mv, l9, gr, hm, k4⟩
      exact ⟨_, rfl, q mo ts gs G H4 fmo k4 h4 mv l9 gr hm⟩
    · refine while_by (fun σ H4 => ∃ (ts : List Addr) (gs G : List Int) (v : V), σ = [some (.ref x), some (.ref sa), some (.ref ga), some (.ref mo), some v] ∧ H4 mo = some (.lst (ts.map V.ref)) ∧ H4 ga = some (.lst (G.map V.int)) ∧ Mv rows steps ws st c [mo, ga] H4 ts gs ∧ gs.length + G.length ≤ c ∧ Rg c G ∧ Up rows steps ws st c G ∧ (∀ g : Int, 0 ≤ g → g < c → (g ∈ G ↔ g ∉ gs)) ∧ ((v = .non ∧ Fm rows steps ws st c G) ∨ (∃ (t p : Addr) (g : Int), v = .ref t ∧ H4 t = some (.tup [.int g, .ref p]) ∧ g ∈ G ∧ stB rows steps ws st G c g.toNat = false ∧ p ∉ [mo, ga] ∧ ∃ sg : Int, (sg = 1 ∨ sg = -1) ∧ endB sg rows steps ws st G c g.toNat = false ∧ PastL H4 p (farP sg (topsOf steps) st G (rows.getD g.toNat []) c ws))) ∧ Kp [] H H4) (fun σ H4 => lenAt H4 ga) ?_ ?_ ?_
      · refine ⟨[], [], _, v, rfl, k3 _ _ hmo2 (by simp), k3 _ _ hga2 (by simp), ⟨rfl, fun k t g e => by simp at e⟩, by simp, rng_rg c, rng_up _ _ _ _ _, fun g g0 g1 => ?_, hv, k03⟩
        refine ⟨fun _ => by simp, fun _ => List.mem_map.mpr ⟨g.toNat, List.mem_range.mpr (by omega), by omega⟩⟩
      · rintro σ H4 ⟨ts, gs, G, v, rfl, h4, hg4, mv, lg, rg, up, hm, hv, k4⟩
        rcases hv with ⟨rfl, fm⟩ | ⟨t, p, g, rfl, ht, hgG, hst, pb, sg, hsg, heb, hpl⟩
        · refine ⟨_, rfl, rfl, _, rfl, iteN (by simp) ?_⟩
          exact hnx _ _ ⟨ts, gs, G, rfl, h4, ⟨mv.len, fun k t g e1 e2 => by
            obtain ⟨p, sg, Gk, a1, _, a2⟩ := mv.at' k t g e1 e2
            exact ⟨p, sg, Gk, a1, by simp, a2⟩⟩, by omega, ⟨rg, fm, up⟩, hm, k4⟩
        · refine ⟨_, rfl, rfl, _, rfl, iteC (by simp) ?_⟩
          obtain ⟨j, hj, ej⟩ := List.getElem_of_mem hgG
          have hj? : G[j]? = some g := by rw [List.getElem?_eq_getElem hj, ej]
          obtain ⟨e1, e2, e3, e4, e5⟩ := erase_mem rg.pw hj?
          refine ⟨_, rfl, .inl ⟨rfl, _, SqL.of h4⟩, _, rfl, mo, _, _, rfl, rfl, h4, by rw [List.length_map, mv.len]; exact small1000 (by omega), ?_⟩
          have k5 : Kp [mo] H4 (upd H4 mo (.lst (ts.map V.ref ++ [V.ref t]))) := Kp.rfl'.put (by simp)
          have ntm : t ≠ mo := fun z => by
            rw [z, h4] at ht
            cases ht
          have ht5 := k5 _ _ ht (by simpa using ntm)
          have hg5 := k5 _ _ hg4 (by simpa using ngm)
          have fk5 : ∀ b ∈ [mo], ∃ xs, H4 b = some (.lst xs) := fun b hb => by rw [List.mem_singleton.mp hb]; exact ⟨_, h4⟩
          have hpl5 : PastL (upd H4 mo (.lst (ts.map V.ref ++ [V.ref t]))) p (farP sg (topsOf steps) st G (rows.getD g.toNat []) c ws) := by
            obtain ⟨as, b1, b2⟩ := hpl
            refine ⟨as, k5 _ _ b1 fun z => pb ?_, b2.keepLs k5 fk5⟩
            rw [List.mem_singleton.mp z]
            simp
          obtain ⟨g0, g1⟩ := rg.rg g hgG
          have mv5 := (mv.keep k5 (by simp) fk5).push ht5 pb hsg heb hpl5 hm g0 g1 ((hm g g0 g1).mp hgG)
          have h5 : (upd H4 mo (.lst (ts.map V.ref ++ [V.ref t]))) mo = some (.lst ((ts ++ [t]).map V.ref)) := by rw [upd_same]; simp
          have k05 : Kp [] H (upd H4 mo (.lst (ts.map V.ref ++ [V.ref t]))) := k4.own fmo
          generalize upd H4 mo (.lst (ts.map V.ref ++ [V.ref t])) = H5 at k5 ht5 hg5 mv5 h5 k05 ⊢
          have pwi := List.pairwise_iff_getElem.mp rg.pw
          refine ⟨_, rfl, .inl ⟨rfl, _, SqL.of hg5⟩, _, rfl, t, _, _, V.int g, rfl, rfl, SqT.of ht5, rfl, ga, G, g, j, rfl, rfl, hg5, hj?, fun m hm' e => ?_, ?_⟩
          · obtain ⟨ml, em⟩ := List.getElem?_eq_some_iff.mp e
            have := pwi m j ml hj hm'
            rw [em, ej] at this
            omega
          have k6 : Kp [ga] H5 (upd H5 ga (.lst ((G.eraseIdx j).map V.int))) := Kp.rfl'.put (by simp)
          have hg6 : (upd H5 ga (.lst ((G.eraseIdx j).map V.int))) ga = some (.lst ((G.eraseIdx j).map V.int)) := upd_same
          have h6 := k6 _ _ h5 (by simpa using ngm.symm)
          have mv6 := mv5.keep k6 (by simp) fun b hb => by rw [List.mem_singleton.mp hb]; exact ⟨_, hg5⟩
          have k06 : Kp [] H (upd H5 ga (.lst ((G.eraseIdx j).map V.int))) := k05.own hga
          generalize upd H5 ga (.lst ((G.eraseIdx j).map V.int)) = H6 at k6 hg6 h6 mv6 k06 ⊢
          have rg6 : ∀ y ∈ G.eraseIdx j, 0 ≤ y ∧ y < c := fun y hy => rg.rg y (e2 y hy)
          refine ⟨_, rfl, _, rfl, _, rfl, x, sa, ga, rows, steps, ws, st, _, bs, w', c, rfl, mk ga _ H6 k06 hg6 rg6, fun v H7 k7 hv => ?_⟩
          have hv := hvf h6 hg6 hv
          refine ⟨⟨ts ++ [t], gs ++ [g], G.eraseIdx j, v, rfl, k7 _ _ h6 (by simp), k7 _ _ hg6 (by simp), mv6.keep k7 (by simp) (by simp), by simp; omega, ⟨e1, rg6⟩, up.out hs hst e3, fun y y0 y1 => ?_, hv, k06.trans k7⟩, ?_⟩
          · rw [List.mem_append, List.mem_singleton]
            have := hm y y0 y1
            constructor
            · intro hy z
              rcases z with z | z
              · exact (this.mp (e2 y hy)) z
              · rw [z] at hy
                exact e4 hy
            · intro z
              exact e3 y (this.mpr fun u => z (.inl u)) fun u => z (.inr u)
          · show lenAt H7 ga < lenAt H4 ga
            unfold lenAt
            rw [k7 _ _ hg6 (by simp), hg4]
            simp only [List.length_map]
            omega
      · rintro σ H4 Q1 Q2 hQ h
        obtain ⟨v, h1, h2, h3⟩ := h
        exact ⟨v, h1, h2, by
          obtain ⟨b, hb, h4⟩ := h3
          exact ⟨b, hb, hQ _ _ h4⟩⟩

end
end Sw

set_option maxHeartbeats 2000000
namespace Sw
open PySem PySem.Spec PyProof.Rows L2
section
variable {P : Program} {w : World} {K : PySem.W.Frag} {mg : Str → Option Value} {base : Heap}
def sp_firmof (K : PySem.W.Frag) : Sp := fun vs H Q _ => ∃ (x sa : Addr) (rows steps : List (List Int)) (ws st : List Int) (bs : List Addr) (w c : Nat), vs = [.ref x, .ref sa] ∧ (∀ (ga : Addr) (G : List Int) (H' : Hp), Kp [] H H' → H' ga = some (.lst (G.map V.int)) → (∀ g ∈ G, 0 ≤ g ∧ g < c) → Grp K bs H' w x sa ga true rows steps ws st G c) ∧ (∀ j, j < c → 0 ≤ st.getD j 0 ∧ st.getD j 0 ≤ (topsOf steps).getD j 0) ∧ HallAt K bs H w x rows steps ws ∧ rows.length = c ∧ c ≤ 900 ∧
  ∀ (fo : Addr) (G : List Int) (H' : Hp), H fo = none → Kp [] H H' → H' fo = some (.lst (G.map V.int)) → Grt rows steps ws st c G → Q (.ref fo) H'
theorem ok_firmof (T : Tx K mg) : FnOk P w K mg base CX0 7 (He.fAd K ("firm_of", none)) T.fd_firm_of p_firm_of (sp_firmof K) := by
  have G_movers := ok_movers (P := P) (w := w) (base := base) T
  have G_len := ok_len (P := P) (w := w) (base := base) T
  refine T.F_firm_of.ok sc_firm_of (fun vs H Q E h => ?_) (fun cdv A outer s H vs Q E hr h => ?_)
  · obtain ⟨_, _, _, _, _, _, _, _, _, rfl, _⟩ := h
    rfl
  · obtain ⟨x, sa, rows, steps, ws, st, bs, w', c, rfl, mk, hs, hA, hlr, c9, q⟩ := h
    refine ⟨_, PSs.nox (pss_cons (ps_set (i := 2) sc_firm_of.nd rfl (by first | exact Or.inl rfl | exact Or.inr rfl) (pe_lc (own := [("person", 3), ("past", 4)]) (g := (gTup K 2 (gCons (gName 3) (gCons (gName 4) gNil)))) (tt := tYes) rfl sc_firm_of.nd (pi_list (pe_call G_movers (hr.mono (by first | decide | omega)) rfl T.g_movers T.F_movers.kp T.bd_movers .nil pass0 (pa_cons (pv 0) (pa_cons (pv 1) pa_nil)))) (blkOk_by (own := [("person", 3), ("past", 4)]) (N := n_firm_of) (sc := defScope s_firm_of) (by decide +kernel)) (fun _ _ _ _ _ => (pg_tup rfl (pgs_cons (pg_name (i := 3) sc_firm_of.nd rfl (by first | exact Or.inl rfl | exact Or.inr rfl)) (pgs_cons (pg_name (i := 4) sc_firm_of.nd rfl (by first | exact Or.inl rfl | exact Or.inr rfl)) pgs_nil)))) (fun _ _ _ _ _ => pts_nil) (fun _ _ _ _ _ => (pv 3))))
      (pss_one (ps_ret (pe_lc (own := [("person", 3)]) (g := (gName 3)) rfl sc_firm_of.nd (pi_range1 (by rfl) T.b_range (pa_cons (pe_callB (call_lenO T.m_Hall___len__ G_len (hr.mono (by first | decide | omega)) T.bd_Hall___len__) (by rfl) T.b_len (by decide +kernel) (pa_cons (pv 0) pa_nil)) pa_nil)) (blkOk_by (own := [("person", 3)]) (N := n_firm_of) (sc := defScope s_firm_of) (by decide +kernel)) (fun _ _ _ _ _ => (pg_name (i := 3) sc_firm_of.nd rfl (by first | exact Or.inl rfl | exact Or.inr rfl))) (fun _ _ _ _ _ => pts_one (pt_cmpR (kNotIn (K := K) rfl) (pv 3) (pv 2) rfl)) (fun _ _ _ _ _ => (pv 3)))))), ?_⟩
    refine ⟨_, rfl, _, rfl, x, sa, rows, steps, ws, st, bs, w', c, rfl, mk, hs, hA, hlr, c9, fun mo ts gs G H1 fmo k1 hmo mv l9 gr hm => ?_⟩
    refine ⟨mo, rfl, ⟨_, SqL.of hmo⟩, fun d hd => lc_list (K := K) (a := mo) (xs := ts.map V.ref) (fun j H2 => H2 d = some (.lst ((gs.take j).map V.int)) ∧ Kp [] H1 H2) ?_ ?_ ?_ ?_⟩
    · exact ⟨by rw [upd_same]; rfl, Kp.rfl'.new hd⟩
    · rintro j H2 _ ⟨_, k2⟩
      exact SqL.of (k2 _ _ hmo (by simp))
    · rintro j y H2 hj ⟨h2, k2⟩
      rw [List.getElem?_map] at hj
      obtain ⟨t, ht, rfl⟩ := Option.map_eq_some_iff.mp hj
      have lj := (List.getElem?_eq_some_iff.mp ht).1
      have lm := mv.len
      obtain ⟨g, hg⟩ : ∃ g, gs[j]? = some g := ⟨gs[j]'(by omega), by simp⟩
      obtain ⟨p, _, _, hp, _⟩ := mv.at' j t g ht hg
      refine ⟨t, _, rfl, SqT.of (k2 _ _ hp (by simp)), rfl, _, _, rfl, _, _, rfl, rfl, ?_⟩
      refine ⟨rfl, yesT ⟨_, rfl, _, h2, ?_, ?_, k2.own hd⟩⟩
      · rw [List.length_map, List.length_take]
        exact small1000 (by omega)
      · rw [upd_same, List.take_add_one, hg, ints_snoc]
        rfl
    · rintro H2 ⟨h2, k2⟩
      have etk : (ts.map V.ref).length = gs.length := by rw [List.length_map, mv.len]
      rw [etk, List.take_length] at h2
      have k02 := k1.trans k2
      refine gn ?_
      have hA2 := hA.keep (k02.sub (by simp))
      obtain ⟨dx, a1, a2, a3, hx, _⟩ := id hA2.ex
      refine ⟨_, rfl, x, dx, _, rfl, hx, x, rows, steps, ws, bs, w', rfl, hA2, _, rfl, ?_⟩
      refine ⟨by omega, by omega, _, rfl, by omega, by omega, fun f hf => lc_range (n := ((rows.length : Nat) : Int).toNat) (fun j H3 => H3 f = some (.lst ((((List.range j).map fun (i : Nat) => (i : Int)).filter fun g => !decide (g ∈ gs)).map V.int)) ∧ Kp [] H2 H3) ?_ ?_ ?_⟩
      · exact ⟨upd_same, Kp.rfl'.new hf⟩
      · rintro j H3 hj ⟨h3, k3⟩
        have ej : (0 : Int) + (j : Int) = ((j : Nat) : Int) := Int.zero_add _
        have e : ((List.range (j + 1)).map fun (i : Nat) => (i : Int)) = ((List.range j).map fun (i : Nat) => (i : Int)) ++ [(j : Int)] := by rw [List.range_succ, List.map_append]; rfl
        refine ⟨rfl, _, rfl, _, rfl, d, _, rfl, .inl (SqL.of (k3 _ _ h2 (by simp))), rfl, flat_ints _, _, rfl, ?_⟩
        rw [inV_ints, ej]
        by_cases cc : (j : Int) ∈ gs
        · refine iteN (by simp [cc]) ⟨?_, k3⟩
          rw [h3, e, List.filter_append]
          simp [cc]
        · refine iteC (by simp [cc]) ⟨_, rfl, _, h3, ?_, ?_, k3.own hf⟩
          · rw [List.length_map]
            exact small1000 (Nat.le_trans (List.length_filter_le ..) (by rw [List.length_map, List.length_range]; omega))
          · rw [upd_same, e, List.filter_append]
            simp [cc]
      · rintro H3 ⟨h3, k3⟩
        have e0 : ((rows.length : Nat) : Int).toNat = c := by omega
        rw [e0] at h3
        have eG : (((List.range c).map fun (i : Nat) => (i : Int)).filter fun g => !decide (g ∈ gs)) = G := sorted_ext ((rng_rg c).filter _).pw gr.rg.pw fun y => by
          rw [List.mem_filter]
          constructor
          · rintro ⟨y1, y2⟩
            obtain ⟨y3, y4⟩ := (rng_rg c).rg y y1
            exact (hm y y3 y4).mpr (by simpa using y2)
          · intro hy
            obtain ⟨y3, y4⟩ := gr.rg.rg y hy
            exact ⟨List.mem_map.mpr ⟨y.toNat, List.mem_range.mpr (by omega), by omega⟩, by simpa using (hm y y3 y4).mp hy⟩
        rw [eG] at h3
        exact q f G H3 (k02.free hf (by simp)) (k02.trans k3) h3 gr

end
end Sw

set_option maxHeartbeats 2000000
namespace Sw
open PySem PySem.Spec PyProof.Rows L2
section
variable {P : Program} {w : World} {K : PySem.W.Frag} {mg : Str → Option Value} {base : Heap}
/-! ### a sway -/
theorem kFld {X : Cx} {K : PySem.W.Frag} {e : Expr} {f : Str} {pos : Pos} {ta : TE} (h : X.K = K) (he : PE X e ta) (hb : attributeBase e f X.env (eval e X.env) = eval e X.env) : PE X (.Attribute e f pos) (tFld K ta f) := by
  subst h
  exact pe_fld he hb
abbrev CS (K : PySem.W.Frag) : Addr := He.ga K "Sway"
theorem hg' : ¬ (("home" : Str) = "grips") := by decide +kernel
theorem hs' : ¬ (("home" : Str) = "standings") := by decide +kernel
theorem hn' : ¬ (("home" : Str) = "gone") := by decide +kernel
theorem gs' : ¬ (("grips" : Str) = "standings") := by decide +kernel
theorem gn' : ¬ (("grips" : Str) = "gone") := by decide +kernel
theorem sn' : ¬ (("standings" : Str) = "gone") := by decide +kernel
def fldW (x g d : Addr) (n : Int) : List (Str × V) := putF "gone" (.int n) (putF "standings" (.ref d) (putF "grips" (.ref g) (putF "home" (.ref x) [])))
theorem fldW_eq (x g d : Addr) (n : Int) : fldW x g d n = [(("home" : Str), V.ref x), (("grips" : Str), V.ref g), (("standings" : Str), V.ref d), (("gone" : Str), V.int n)] := by
  simp only [fldW, putF, hg', hs', hn', gs', gn', sn', if_false]
theorem fldW_h (x g d : Addr) (n : Int) : (fldW x g d n).lookup ("home" : Str) = some (.ref x) := by
  unfold fldW
  rw [lookup_putF, if_neg hn', lookup_putF, if_neg hs', lookup_putF, if_neg hg', lookup_putF, if_pos rfl]
theorem fldW_g (x g d : Addr) (n : Int) : (fldW x g d n).lookup ("grips" : Str) = some (.ref g) := by
  unfold fldW
  rw [lookup_putF, if_neg gn', lookup_putF, if_neg gs', lookup_putF, if_pos rfl]
theorem fldW_s (x g d : Addr) (n : Int) : (fldW x g d n).lookup ("standings" : Str) = some (.ref d) := by
  unfold fldW
  rw [lookup_putF, if_neg sn', lookup_putF, if_pos rfl]
theorem fldW_n (x g d : Addr) (n : Int) : (fldW x g d n).lookup ("gone" : Str) = some (.int n) := by
  unfold fldW
  rw [lookup_putF, if_pos rfl]
theorem fldW_no (x g d : Addr) (n : Int) {m : Str} (h1 : ¬ m = "gone") (h2 : ¬ m = "standings") (h3 : ¬ m = "grips") (h4 : ¬ m = "home") : (fldW x g d n).lookup m = none := by
  unfold fldW
  rw [lookup_putF, if_neg h1, lookup_putF, if_neg h2, lookup_putF, if_neg h3, lookup_putF, if_neg h4]
  rfl
theorem fldW_putS (x g d d' : Addr) (n : Int) : putF "standings" (.ref d') (fldW x g d n) = fldW x g d' n := by
  simp only [fldW_eq, putF, hs', gs', if_false, if_true]
theorem fldW_putN (x g d : Addr) (n m : Int) : putF "gone" (.int m) (fldW x g d n) = fldW x g d m := by
  simp only [fldW_eq, putF, hn', gn', sn', if_false, if_true]
theorem fldW_len (x g d : Addr) (n : Int) : (fldW x g d n).length < 1000 := by
  rw [fldW_eq]
  show 4 < 1000
  decide
theorem AsAt.keepI {H H' : Hp} {as : List Addr} {past : List (List Int)} {y C dx : Addr} {fs : List (Str × V)} (h : AsAt H as past) (hy : H y = some (.ins C dx fs)) (k : Kp [y] H H') : AsAt H' as past :=
  ⟨h.len, fun m t st e1 e2 => k _ _ (h.row m t st e1 e2) fun z => by
    have g := h.row m t st e1 e2
    rw [List.mem_singleton.mp z, hy] at g
    cases g⟩
/-- a sway with its hall, its held ones and its rows -/
structure SwAt (K : PySem.W.Frag) (H : Hp) (y x g d : Addr) (n : Int) (fx : List (Int × Int)) (past : List (List Int)) : Prop where
  ex : ∃ dx, H y = some (.ins (CS K) dx (fldW x g d n))
  hg : H g = some (.dK (kvI fx))
  hd : ∃ qs : List Addr, H d = some (.lst (qs.map V.ref)) ∧ AsAt H qs past
theorem SwAt.keep {H H' : Hp} {y x g d : Addr} {n : Int} {fx : List (Int × Int)} {past : List (List Int)} (h : SwAt K H y x g d n fx past) (k : Kp [] H H') : SwAt K H' y x g d n fx past := by
  obtain ⟨dx, e⟩ := h.ex
  obtain ⟨qs, e1, e2⟩ := h.hd
  exact ⟨⟨dx, k _ _ e (by simp)⟩, k _ _ h.hg (by simp), qs, k _ _ e1 (by simp), e2.keep0 k⟩
def sp_winit (K : PySem.W.Frag) : Sp := fun vs H Q _ => ∃ (y dx x a h : Addr) (kh : Bool) (past : List (List Int)) (fx : List (Int × Int)), vs = [.ref y, .ref x, .ref a, .ref h] ∧ H y = some (.ins (CS K) dx []) ∧ (∀ H', Kp [y] H H' → PastAt H' a past) ∧ (∀ H', Kp [y] H H' → PairsAt K H' h kh fx) ∧ (fx.map (·.1)).Nodup ∧ fx.length ≤ 900 ∧ past.length ≤ 900 ∧ (∀ st ∈ past, st.length ≤ 900) ∧
  ∀ (g d : Addr) (H' : Hp), H g = none → H d = none → Kp [y] H H' → SwAt K H' y x g d 0 fx (past.map (hold fx)) → Q .non H'
theorem ok_winit (T : Tx K mg) : FnOk P w K mg base CX0 2 (He.fAd K ("Sway", some "__init__")) T.fd_Sway___init__ p_Sway___init__ (sp_winit K) := by
  have G_grips_of := ok_grips (P := P) (w := w) (base := base) T
  have G_as_held := ok_as_held (P := P) (w := w) (base := base) T
  refine T.F_Sway___init__.ok sc_Sway___init__ (fun vs H Q E h => ?_) (fun cdv A outer s H vs Q E hr h => ?_)
  · obtain ⟨_, _, _, _, _, _, _, _, rfl, _⟩ := h
    rfl
  · obtain ⟨y, dx, x, a, h, kh, past, fx, rfl, hy, hP, hF, nd, l9, p9, lst, q⟩ := h
    refine ⟨_, PSs.nox (pss_cons (ps_fld (pv 0) (pv 1) rfl)
      (pss_cons (ps_fld (pv 0) (pe_call G_grips_of (hr.mono (by first | decide | omega)) rfl T.g_grips_of T.F_grips_of.kp T.bd_grips_of .nil pass0 (pa_cons (pv 3) pa_nil)) rfl)
      (pss_cons (ps_fld (pv 0) (pe_lc (own := [("standing", 4)]) (g := (gName 4)) (tt := tYes) rfl sc_Sway___init__.nd (pi_sq (pv 2)) (blkOk_by (own := [("standing", 4)]) (N := n_Sway___init__) (sc := defScope s_Sway___init__) (by decide +kernel)) (fun _ _ _ _ _ => (pg_name (i := 4) sc_Sway___init__.nd rfl (by first | exact Or.inl rfl | exact Or.inr rfl))) (fun _ _ _ _ _ => pts_nil) (fun _ _ _ _ _ => (pe_call G_as_held (hr.mono (by first | decide | omega)) rfl T.g_as_held T.F_as_held.kp T.bd_as_held .nil pass0 (pa_cons (pv 4) (pa_cons (kFld (K := K) rfl (pv 0) (by rfl)) pa_nil))))) rfl)
      (pss_one (ps_fld (pv 0) pe_int rfl))))), ?_⟩
    refine ⟨_, rfl, _, rfl, y, CS K, dx, [], rfl, hy, T.cl_Sway, T.na_Sway_home, (by show 0 < 1000; decide), ?_⟩
    have k1 : Kp [y] H (upd H y (.ins (CS K) dx (putF "home" (.ref x) []))) := Kp.rfl'.put (by simp)
    have hy1 : (upd H y (.ins (CS K) dx (putF "home" (.ref x) []))) y = some (.ins (CS K) dx (putF "home" (.ref x) [])) := upd_same
    generalize upd H y (.ins (CS K) dx (putF "home" (.ref x) [])) = H1 at k1 hy1 ⊢
    refine ⟨_, rfl, h, kh, fx, rfl, hF H1 k1, nd, l9, fun g H2 fg k2 hg => ?_⟩
    have hy2 := k2 _ _ hy1 (by simp)
    have ngy : g ≠ y := (ne_of_none hy1 fg).symm
    refine ⟨_, rfl, y, CS K, dx, _, rfl, hy2, T.cl_Sway, T.na_Sway_grips, (by show 1 < 1000; decide), ?_⟩
    have k3 : Kp [y] H2 (upd H2 y (.ins (CS K) dx (putF "grips" (.ref g) (putF "home" (.ref x) [])))) := Kp.rfl'.put (by simp)
    have hy3 : (upd H2 y (.ins (CS K) dx (putF "grips" (.ref g) (putF "home" (.ref x) [])))) y = some (.ins (CS K) dx (putF "grips" (.ref g) (putF "home" (.ref x) []))) := upd_same
    generalize upd H2 y (.ins (CS K) dx (putF "grips" (.ref g) (putF "home" (.ref x) []))) = H3 at k3 hy3 ⊢
    have k03 : Kp [y] H H3 := (k1.trans (k2.sub (by simp))).trans k3
    have hg3 := k3 _ _ hg (by simpa using ngy)
    have lg3 : (putF "grips" (.ref g) (putF "home" (.ref x) [])).lookup ("grips" : Str) = some (.ref g) := by rw [lookup_putF, if_pos rfl]
    have fg0 : H g = none := k1.free fg (by simpa using ngy)
    obtain ⟨kd, as, ha, la, al⟩ := (hP H3 k03).ex
    refine ⟨_, rfl, a, kd, _, rfl, sqo_k ha, fun d hd => lc_it (walk_sq (K := K) (a := a) (kd := kd) (xs := as.map V.ref)) (fun j H4 => ∃ qs : List Addr, H4 d = some (.lst (qs.map V.ref)) ∧ AsAt H4 qs ((past.take j).map (hold fx)) ∧ Kp [] H3 H4) ?_ ?_ ?_ ?_⟩
    · exact ⟨[], upd_same, ⟨by simp, fun i t st e => by simp at e⟩, Kp.rfl'.new hd⟩
    · rintro j H4 _ ⟨_, _, _, k4⟩
      exact sqo_k (k4 _ _ ha (by simp))
    · rintro j v H4 H4' hj ⟨qs, h4, aq, k4⟩ ⟨rfl, hv⟩
      rw [List.getElem?_map] at hv
      obtain ⟨t, ht, rfl⟩ := Option.map_eq_some_iff.mp hv
      have lj : j < past.length := by
        rw [List.length_map] at hj
        omega
      have es : past[j]? = some past[j] := by simp
      have ndy : d ≠ y := (ne_of_none hy3 hd).symm
      refine ⟨rfl, yesT ⟨_, rfl, _, rfl, y, CS K, dx, _, _, rfl, k4 _ _ hy3 (by simp), T.cl_Sway, T.na_Sway_grips, lg3, t, g, false, past[j], fx, rfl, k4 _ _ (al j t _ ht es) (by simp), k4 _ _ hg3 (by simp), lst _ (List.getElem_mem lj), fun p H5 fp k5 hp => ?_⟩⟩
      have h5 := k5 _ _ h4 (by simp)
      have lq := aq.len
      rw [List.length_map, List.length_take] at lq
      have aq5 := (aq.keep0 k5).push hp
      have kf : Kp [d] H5 (upd H5 d (.lst (qs.map V.ref ++ [V.ref p]))) := Kp.rfl'.put (by simp)
      refine ⟨_, h5, ?_, qs ++ [p], by rw [upd_same]; simp, ?_, (k4.trans k5).own hd⟩
      · rw [List.length_map]
        exact small1000 (by omega)
      · have e : (past.take (j + 1)).map (hold fx) = (past.take j).map (hold fx) ++ [hold fx past[j]] := by
          rw [List.take_add_one, es, List.map_append]
          rfl
        rw [e]
        exact aq5.keep h5 kf
    · rintro H4 ⟨qs, h4, aq, k4⟩
      rw [List.length_map, la, List.take_length] at aq
      have hy4 := k4 _ _ hy3 (by simp)
      have ndy : d ≠ y := (ne_of_none hy3 hd).symm
      refine ⟨_, rfl, y, CS K, dx, _, rfl, hy4, T.cl_Sway, T.na_Sway_standings, (by show 2 < 1000; decide), ?_⟩
      have k5 : ∀ v, Kp [y] H4 (upd H4 y v) := fun v => Kp.rfl'.put (by simp)
      refine ⟨_, rfl, y, CS K, dx, _, rfl, upd_same, T.cl_Sway, T.na_Sway_gone, (by show 3 < 1000; decide), ?_⟩
      have k6 : Kp [y] H4 (upd (upd H4 y (.ins (CS K) dx (putF "standings" (.ref d) (putF "grips" (.ref g) (putF "home" (.ref x) []))))) y (.ins (CS K) dx (fldW x g d 0))) := (k5 _).trans (Kp.rfl'.put (by simp))
      refine q g d _ fg0 (k03.free hd (by simpa using ndy)) (k03.trans ((k4.sub (by simp)).trans k6)) ⟨⟨dx, upd_same⟩, k6 _ _ (k4 _ _ hg3 (by simp)) (by simpa using ngy), qs, k6 _ _ h4 (by simpa using ndy), aq.keepI hy4 k6⟩

end
end Sw

set_option maxHeartbeats 2000000
namespace Sw
open PySem PySem.Spec PyProof.Rows L2
section
variable {P : Program} {w : World} {K : PySem.W.Frag} {mg : Str → Option Value} {base : Heap}
def sp_person (K : PySem.W.Frag) : Sp := fun vs H Q _ => ∃ (x : Addr) (j : Nat) (rows steps : List (List Int)) (ws : List Int) (bs : List Addr) (w : Nat), vs = [.ref x, .int j] ∧ HallAt K bs H w x rows steps ws ∧ j < rows.length ∧ rows.length ≤ 900 ∧ ∀ H', Kp [] H H' → Q (.bl true) H'
theorem ok_person (T : Tx K mg) : FnOk P w K mg base CX0 3 (He.fAd K ("is_person", none)) T.fd_is_person p_is_person (sp_person K) := by
  have G_is_number := ok_is_number (P := P) (w := w) (base := base) T
  have G_len := ok_len (P := P) (w := w) (base := base) T
  refine T.F_is_person.ok sc_is_person (fun vs H Q E h => ?_) (fun cdv A outer s H vs Q E hr h => ?_)
  · obtain ⟨_, _, _, _, _, _, _, rfl, _⟩ := h
    rfl
  · obtain ⟨x, j, rows, steps, ws, bs, w', rfl, hA, hj, l9, q⟩ := h
    refine ⟨_, PSs.nox (pss_one (ps_ret (pe_and (pe_call G_is_number (hr.mono (by first | decide | omega)) rfl T.g_is_number T.F_is_number.kp T.bd_is_number .nil pass0 (pa_cons (pv 1) pa_nil)) (pe_one (pe_chain op_le op_lt pe_int (pv 1) (pe_callB (call_lenO T.m_Hall___len__ G_len (hr.mono (by first | decide | omega)) T.bd_Hall___len__) (by rfl) T.b_len (by decide +kernel) (pa_cons (pv 0) pa_nil))))))), ?_⟩
    refine ⟨_, rfl, .int j, .int j, [], 0, 0, rfl, .int _ (by omega), by decide, fun H1 k1 => ⟨_, rfl, ?_⟩⟩
    have hA1 := hA.keep (k1.sub (by simp))
    obtain ⟨dx, a1, a2, a3, hx, _⟩ := id hA1.ex
    refine iteT ⟨_, rfl, _, _, rfl, rfl, _, rfl, ?_⟩
    refine iteC (by simp) ⟨_, rfl, x, dx, _, rfl, hx, x, rows, steps, ws, bs, w', rfl, hA1, _, rfl, by omega, by omega, _, _, rfl, rfl, ?_⟩
    have := q H1 k1
    simpa [hj] using this
def sp_post (K : PySem.W.Frag) : Sp := fun vs H Q _ => ∃ (x : Addr) (j : Nat) (v : Int) (z : Int) (rows steps : List (List Int)) (ws : List Int) (bs : List Addr) (w : Nat), vs = [.ref x, .int j, .int v] ∧ HallAt K bs H w x rows steps ws ∧ w ≤ 1000 ∧ (topsOf steps)[j]? = some z ∧ 0 ≤ v ∧ v ≤ z ∧ v ≤ 1000 ∧
  ∀ H', Kp [] H H' → Q (.bl true) H'
theorem ok_post (T : Tx K mg) : FnOk P w K mg base CX0 3 (He.fAd K ("is_posture", none)) T.fd_is_posture p_is_posture (sp_post K) := by
  have G_is_number := ok_is_number (P := P) (w := w) (base := base) T
  have G_Hall_tops := ok_tops (P := P) (w := w) (base := base) T
  refine T.F_is_posture.ok sc_is_posture (fun vs H Q E h => ?_) (fun cdv A outer s H vs Q E hr h => ?_)
  · obtain ⟨_, _, _, _, _, _, _, _, _, rfl, _⟩ := h
    rfl
  · obtain ⟨x, j, v, z, rows, steps, ws, bs, w', rfl, hA, lw, ez, v0, vz, v9, q⟩ := h
    refine ⟨_, PSs.nox (pss_one (ps_ret (pe_and (pe_call G_is_number (hr.mono (by first | decide | omega)) rfl T.g_is_number T.F_is_number.kp T.bd_is_number .nil pass0 (pa_cons (pv 2) pa_nil)) (pe_one (pe_chain op_le op_le pe_int (pv 2) (pe_ix ix_tup (pe_meth0 (pv 0) T.cl_Hall T.m_Hall_tops G_Hall_tops (hr.mono (by first | decide | omega)) T.bd_Hall_tops .nil pass0) (pv 1) (fun _ _ => rfl))))))), ?_⟩
    refine ⟨_, rfl, .int v, .int v, [], 0, 0, rfl, .int _ (by omega), by decide, fun H1 k1 => ⟨_, rfl, ?_⟩⟩
    have hA1 := hA.keep (k1.sub (by simp))
    obtain ⟨dx, a1, a2, a3, hx, _⟩ := id hA1.ex
    refine iteT ⟨_, rfl, _, _, rfl, rfl, _, rfl, ?_⟩
    refine iteC (by simp [v0]) ⟨_, rfl, x, dx, _, rfl, hx, flds_no _ _ _ (by decide +kernel) (by decide +kernel) (by decide +kernel), x, rows, steps, ws, bs, w', rfl, hA1, lw, fun p H2 f2 k2 h2 => ?_⟩
    have at1 : atI ((topsOf steps).map V.int) (j : Int) = some (.int z) := atI_nat (by rw [List.getElem?_map, ez]; rfl)
    have f := q H2 (k1.trans k2)
    exact ⟨_, rfl, p, _, _, _, rfl, rfl, SqT.of h2, at1, _, _, rfl, rfl, by simpa [vz] using f⟩
theorem atI_lastR {qs : List Addr} (h : qs ≠ []) : atI (qs.map V.ref) (-1) = some (V.ref (qs.getLast h)) := by
  have e : qs.map V.ref = (qs.dropLast).map V.ref ++ [V.ref (qs.getLast h)] := by
    rw [← List.map_singleton, ← List.map_append, List.dropLast_concat_getLast h]
  rw [e]
  exact atI_last _ _
theorem AsAt.drop {H : Hp} {as : List Addr} {past : List (List Int)} (h : AsAt H as past) (k : Nat) : AsAt H (as.drop k) (past.drop k) :=
  ⟨by rw [List.length_drop, List.length_drop, h.len], fun m t st e1 e2 => h.row (k + m) t st (by rwa [List.getElem?_drop] at e1) (by rwa [List.getElem?_drop] at e2)⟩
/-- so many beats on, the rows that a sway keeps -/
def swR (rows steps : List (List Int)) (ws : List Int) (fx : List (Int × Int)) : Nat → List (List Int) → List (List Int)
  | 0, F => F
  | n + 1, F => (swR rows steps ws fx n F).drop 1 ++ [nxt rows steps ws fx (swR rows steps ws fx n F)]
theorem swR_len {rows steps : List (List Int)} {ws : List Int} {fx : List (Int × Int)} {F : List (List Int)} (h : 1 ≤ F.length) : ∀ n, (swR rows steps ws fx n F).length = F.length
  | 0 => rfl
  | n + 1 => by
    rw [swR, List.length_append, List.length_drop, swR_len h n]
    show F.length - 1 + 1 = _
    omega
theorem swR_all {rows steps : List (List Int)} {ws : List Int} {fx : List (Int × Int)} {F : List (List Int)} {c : Nat} (hl : steps.length = rows.length) (hc : rows.length = c) (h : ∀ st ∈ F, st.length = c) : ∀ n, ∀ st ∈ swR rows steps ws fx n F, st.length = c
  | 0 => h
  | n + 1 => fun st hs => by
    rcases List.mem_append.mp hs with z | z
    · exact swR_all hl hc h n st (List.mem_of_mem_drop z)
    · rw [List.mem_singleton.mp z, nxt_len hl, hc]
def sp_wpast (K : PySem.W.Frag) : Sp := fun vs H Q _ => ∃ (y x g d : Addr) (n : Int) (fx : List (Int × Int)) (past : List (List Int)), vs = [.ref y] ∧ SwAt K H y x g d n fx past ∧ ∀ (a : Addr) (H' : Hp) (qs : List Addr), H a = none → Kp [] H H' → H' a = some (.lst (qs.map V.ref)) → AsAt H' qs past → Q (.ref a) H'
theorem ok_wpast (T : Tx K mg) : FnOk P w K mg base CX0 1 (He.fAd K ("Sway", some "past")) T.fd_Sway_past p_Sway_past (sp_wpast K) := by
  refine T.F_Sway_past.ok sc_Sway_past (fun vs H Q E h => ?_) (fun cdv A outer s H vs Q E hr h => ?_)
  · obtain ⟨_, _, _, _, _, _, _, rfl, _⟩ := h
    rfl
  · obtain ⟨y, x, g, d, n, fx, past, rfl, S, q⟩ := h
    refine ⟨_, PSs.nox (pss_one (ps_ret (pe_callTy call_list_of (by rfl) T.b_list (by decide +kernel) (pa_cons (pe_fld (pv 0) rfl) pa_nil)))), ?_⟩
    obtain ⟨dx, hy⟩ := S.ex
    obtain ⟨qs, hd, aq⟩ := S.hd
    refine ⟨_, rfl, y, CS K, dx, _, _, rfl, hy, T.cl_Sway, T.na_Sway_standings, fldW_s _ _ _ _, d, _, rfl, .inl (SqL.of hd), fun l hl => ?_⟩
    exact q l _ qs hl (Kp.rfl'.new hl) upd_same (aq.keep0 (Kp.rfl'.new hl))
def sp_wbeat (K : PySem.W.Frag) : Sp := fun vs H Q _ => ∃ (y x g d : Addr) (n : Int) (m : Nat) (fx : List (Int × Int)) (past rows steps : List (List Int)) (ws : List Int) (bs : List Addr) (w c : Nat), vs = [.ref y, .int m] ∧ m ≤ 900 ∧ SwAt K H y x g d n fx past ∧ HallAt K bs H w x rows steps ws ∧ y ∈ bs ∧ 1 ≤ past.length ∧ past.length ≤ 5 ∧ (∀ st ∈ past, st.length = c) ∧ rows.length = c ∧ steps.length = c ∧ c ≤ 900 ∧ w ≤ 900 ∧ Bd 1000 ws ∧ (∀ r ∈ rows, Bd 1000 r) ∧
  ∀ (d' u : Addr) (R : List Int) (H' : Hp), Kp [y] H H' → SwAt K H' y x g d' (n + m) fx (swR rows steps ws fx m past) → R ∈ swR rows steps ws fx m past → H' u = some (.tup (R.map V.int)) → (d' = d ∨ H d' = none) → Q (.ref u) H'
theorem ok_wbeat (T : Tx K mg) : FnOk P w K mg base CX0 5 (He.fAd K ("Sway", some "beat")) T.fd_Sway_beat p_Sway_beat (sp_wbeat K) := by
  have G_leant := ok_leant (P := P) (w := w) (base := base) T
  refine T.F_Sway_beat.ok sc_Sway_beat (fun vs H Q E h => ?_) (fun cdv A outer s H vs Q E hr h => ?_)
  · obtain ⟨_, _, _, _, _, _, _, _, _, _, _, _, _, _, rfl, _⟩ := h
    rfl
  · obtain ⟨y, x, g, d, n, m, fx, past, rows, steps, ws, bs, w', c, rfl, m9, S, hA, hyb, p1, p5, lst, lr, ls, c9, lw, bw, br, q⟩ := h
    refine ⟨_, PSs.nox (pss_cons (ps_for PassesOwn.never rfl (pi_range1 (by rfl) T.b_range (pa_cons (pv 1) pa_nil)) (pg_name (i := 2) sc_Sway_beat.nd rfl (by first | exact Or.inl rfl | exact Or.inr rfl))
      (pss_one (ps_fld (pv 0) (pe_op op_cat (pe_slice sl_list (pe_fld (pv 0) rfl) (po_some pe_int) po_none) (pe_lst (pa_cons (pe_call G_leant (hr.mono (by first | decide | omega)) rfl T.g_leant T.F_leant.kp T.bd_leant .nil pass0 (pa_cons (pe_fld (pv 0) rfl) (pa_cons (pe_fld (pv 0) rfl) (pa_cons (pe_fld (pv 0) rfl) pa_nil)))) pa_nil))) rfl)))
      (pss_cons (ps_fldaug (pv 0) (pv 1) in_add)
      (pss_one (ps_ret (pe_ix ix_list (pe_fld (pv 0) rfl) (pe_un un_neg pe_int) (fun _ _ => rfl)))))), ?_⟩
    refine ⟨_, rfl, _, rfl, by omega, by omega, for_range (n := ((m : Nat) : Int).toNat) (fun i σ H2 => ∃ (o2 : Option V) (d2 : Addr), σ = [some (.ref y), some (.int (m : Nat)), o2] ∧ SwAt K H2 y x g d2 n fx (swR rows steps ws fx i past) ∧ Kp [y] H H2 ∧ (d2 = d ∨ H d2 = none)) ?_ ?_ ?_⟩
    · exact ⟨_, d, rfl, S, Kp.rfl', .inl rfl⟩
    · rintro i σ H2 hi ⟨o2, d2, rfl, S2, k2, fd2⟩
      obtain ⟨dx, hy⟩ := S2.ex
      obtain ⟨qs, hd, aq⟩ := S2.hd
      have lF := swR_len (rows := rows) (steps := steps) (ws := ws) (fx := fx) p1 i
      have aF := swR_all (rows := rows) (steps := steps) (ws := ws) (fx := fx) (by omega) lr lst i
      have eN : swR rows steps ws fx (i + 1) past = (swR rows steps ws fx i past).drop 1 ++ [nxt rows steps ws fx (swR rows steps ws fx i past)] := rfl
      rw [eN]
      generalize swR rows steps ws fx i past = F at S2 aq lF aF eN ⊢
      refine gn ?_
      refine ⟨_, rfl, y, CS K, dx, _, _, rfl, hy, T.cl_Sway, T.na_Sway_standings, fldW_s _ _ _ _, _, rfl, d2, _, rfl, SqL.of hd, fun p1' hp1 => ?_⟩
      rw [cut_one]
      have k3 : Kp [] H2 (upd H2 p1' (.lst ((qs.map V.ref).drop 1))) := Kp.rfl'.new hp1
      have hp1' : (upd H2 p1' (.lst ((qs.map V.ref).drop 1))) p1' = some (.lst ((qs.drop 1).map V.ref)) := by rw [upd_same, List.map_drop]
      generalize upd H2 p1' (.lst ((qs.map V.ref).drop 1)) = H3 at k3 hp1' ⊢
      have S3 := S2.keep k3
      have hy3 := k3 _ _ hy (by simp)
      have k03 := k2.trans (k3.sub (by simp))
      refine ⟨_, rfl, y, CS K, dx, _, _, rfl, hy3, T.cl_Sway, T.na_Sway_home, fldW_h _ _ _ _, _, rfl, y, CS K, dx, _, _, rfl, hy3, T.cl_Sway, T.na_Sway_standings, fldW_s _ _ _ _, _, rfl, y, CS K, dx, _, _, rfl, hy3, T.cl_Sway, T.na_Sway_grips, fldW_g _ _ _ _, x, d2, g, rows, steps, ws, F, fx, bs, w', c, rfl, (hA.keep (k03.sub (by simpa using hyb))).s, (aq.keep0 k3).past (k3 _ _ hd (by simp)), S3.hg, by omega, by omega, aF, lr, ls, c9, lw, bw, br, fun p H4 fp k4 hp => ?_⟩
      have hp4 := k4 _ _ hp1' (by simp)
      have aq4 := (((aq.drop 1).keep0 k3).keep0 k4).push hp
      refine ⟨by show 1 ≤ sizeLine; decide, fun l hl => ?_⟩
      have k5 : Kp [] H4 (upd H4 l (.lst [V.ref p])) := Kp.rfl'.new hl
      have hl5 : (upd H4 l (.lst [V.ref p])) l = some (.lst [V.ref p]) := upd_same
      generalize upd H4 l (.lst [V.ref p]) = H5 at k5 hl5 ⊢
      have lq := aq.len
      refine ⟨p1', l, _, _, rfl, rfl, k5 _ _ hp4 (by simp), hl5, small1000 (by simp; omega), fun d3 hd3 => ?_⟩
      have k6 : Kp [] H5 (upd H5 d3 (.lst ((qs.drop 1).map V.ref ++ [V.ref p]))) := Kp.rfl'.new hd3
      have hd6 : (upd H5 d3 (.lst ((qs.drop 1).map V.ref ++ [V.ref p]))) d3 = some (.lst ((qs.drop 1 ++ [p]).map V.ref)) := by rw [upd_same]; simp
      generalize upd H5 d3 (.lst ((qs.drop 1).map V.ref ++ [V.ref p])) = H6 at k6 hd6 ⊢
      have k26 := k3.trans (k4.trans (k5.trans k6))
      have aq6 := (aq4.keep0 k5).keep0 k6
      have hy6 := k26 _ _ hy (by simp)
      have S6 := S2.keep k26
      refine ⟨_, rfl, y, CS K, dx, _, rfl, hy6, T.cl_Sway, T.na_Sway_standings, fldW_len _ _ _ _, ?_⟩
      rw [fldW_putS]
      have k7 : Kp [y] H6 (upd H6 y (.ins (CS K) dx (fldW x g d3 n))) := Kp.rfl'.put (by simp)
      have nd3 : d3 ≠ y := fun z => by
        rw [z, hy6] at hd6
        cases hd6
      have ngy : g ≠ y := fun z => by
        have := S6.hg
        rw [z, hy6] at this
        cases this
      have f3 : H d3 = none := k2.free ((k3.trans (k4.trans k5)).free hd3 (by simp)) (by simpa using nd3)
      exact ⟨_, d3, rfl, ⟨⟨dx, upd_same⟩, k7 _ _ S6.hg (by simpa using ngy), qs.drop 1 ++ [p], k7 _ _ hd6 (by simpa using nd3), aq6.keepI hy6 k7⟩, k2.trans ((k26.sub (by simp)).trans k7), .inr f3⟩
    · rintro σ H2 ⟨o2, d2, rfl, S2, k2, fd2⟩
      have em : ((m : Nat) : Int).toNat = m := by omega
      rw [em] at S2
      obtain ⟨dx, hy⟩ := S2.ex
      obtain ⟨qs, hd, aq⟩ := S2.hd
      have lF := swR_len (rows := rows) (steps := steps) (ws := ws) (fx := fx) p1 m
      refine ⟨_, rfl, y, CS K, dx, _, _, rfl, hy, T.cl_Sway, T.na_Sway_gone, fldW_n _ _ _ _, _, rfl, _, _, rfl, rfl, dx, _, hy, fldW_len _ _ _ _, ?_⟩
      rw [fldW_putN]
      have k3 : Kp [y] H2 (upd H2 y (.ins (CS K) dx (fldW x g d2 (n + m)))) := Kp.rfl'.put (by simp)
      have nd2 : d2 ≠ y := fun z => by
        rw [z, hy] at hd
        cases hd
      have ngy : g ≠ y := fun z => by
        have := S2.hg
        rw [z, hy] at this
        cases this
      have S3 : SwAt K (upd H2 y (.ins (CS K) dx (fldW x g d2 (n + m)))) y x g d2 (n + m) fx (swR rows steps ws fx m past) := ⟨⟨dx, upd_same⟩, k3 _ _ S2.hg (by simpa using ngy), qs, k3 _ _ hd (by simpa using nd2), aq.keepI hy k3⟩
      have aq3 := aq.keepI hy k3
      have hd3 := k3 _ _ hd (by simpa using nd2)
      have hy3 : (upd H2 y (.ins (CS K) dx (fldW x g d2 (n + m)))) y = some (.ins (CS K) dx (fldW x g d2 (n + m))) := upd_same
      generalize upd H2 y (.ins (CS K) dx (fldW x g d2 (n + m))) = H3 at k3 S3 aq3 hd3 hy3 ⊢
      have lq := aq3.len
      have nq : qs ≠ [] := fun z => by
        rw [z] at lq
        simp at lq
        omega
      obtain ⟨R, eR⟩ : ∃ R, (swR rows steps ws fx m past)[qs.length - 1]? = some R := ⟨_, List.getElem?_eq_getElem (by omega)⟩
      have hu := aq3.row (qs.length - 1) (qs.getLast nq) R (by rw [← List.getLast?_eq_getElem?, List.getLast?_eq_getLast nq]) eR
      refine ⟨_, rfl, y, CS K, dx, _, _, rfl, hy3, T.cl_Sway, T.na_Sway_standings, fldW_s _ _ _ _, 1, rfl, d2, _, -1, .ref (qs.getLast nq), rfl, rfl, SqL.of hd3, atI_lastR nq, ?_⟩
      exact q d2 _ R H3 (k2.trans k3) S3 (List.mem_of_getElem? eR) hu fd2

end
end Sw

set_option maxHeartbeats 2000000
namespace Sw
open PySem PySem.Spec PyProof.Rows L2
section
variable {P : Program} {w : World} {K : PySem.W.Frag} {mg : Str → Option Value} {base : Heap}
def putI (fx : List (Int × Int)) (p v : Int) : List (Int × Int) := if (fx.any fun q => decide (q.1 = p)) = true then fx.map (fun q => if q.1 = p then (q.1, v) else q) else fx ++ [(p, v)]
def dropI (fx : List (Int × Int)) (p : Int) : List (Int × Int) := fx.filter fun q => decide (q.1 ≠ p)
theorem putK_putI (fx : List (Int × Int)) (p v : Int) : putK (kvI fx) (.inl p) (.int v) = kvI (putI fx p v) := by
  have e : ((kvI fx).any fun kv => decide (kv.1 = .inl p)) = (fx.any fun q => decide (q.1 = p)) := by
    unfold kvI
    rw [List.any_map]
    congr 1
    funext q
    simp
  unfold putK putI
  rw [e]
  split
  · unfold kvI
    rw [List.map_map, List.map_map]
    refine List.map_congr_left fun q _ => ?_
    by_cases h : q.1 = p
    · simp [h]
    · simp [h]
  · simp [kvI]
theorem dropK_dropI (fx : List (Int × Int)) (p : Int) : dropK (kvI fx) (.inl p) = kvI (dropI fx p) := by
  unfold dropK dropI kvI
  rw [List.filter_map]
  congr 1
  refine List.filter_congr fun q _ => ?_
  simp
theorem putI_mem {fx : List (Int × Int)} {p v : Int} {q : Int × Int} (h : q ∈ putI fx p v) : q = (p, v) ∨ q ∈ fx := by
  unfold putI at h
  split at h
  · obtain ⟨r, hr, e⟩ := List.mem_map.mp h
    by_cases c : r.1 = p
    · rw [if_pos c] at e
      rw [← e, c]
      exact .inl rfl
    · rw [if_neg c] at e
      rw [← e]
      exact .inr hr
  · rcases List.mem_append.mp h with z | z
    · exact .inr z
    · exact .inl (List.mem_singleton.mp z)
theorem putI_len (fx : List (Int × Int)) (p v : Int) : (putI fx p v).length ≤ fx.length + 1 := by
  unfold putI
  split
  · rw [List.length_map]
    omega
  · simp
theorem putI_has (fx : List (Int × Int)) (p v i : Int) : i ∈ (putI fx p v).map (·.1) ↔ i = p ∨ i ∈ fx.map (·.1) := by
  unfold putI
  split
  · rename_i h
    obtain ⟨q, hq, eq⟩ := List.any_eq_true.mp h
    have eq := of_decide_eq_true eq
    have e : (fx.map fun q => if q.1 = p then (q.1, v) else q).map (·.1) = fx.map (·.1) := by
      rw [List.map_map]
      refine List.map_congr_left fun r _ => ?_
      show (if r.1 = p then (r.1, v) else r).1 = r.1
      split <;> rfl
    rw [e]
    refine ⟨.inr, fun z => ?_⟩
    rcases z with z | z
    · rw [z, ← eq]
      exact List.mem_map.mpr ⟨q, hq, rfl⟩
    · exact z
  · rw [List.map_append, List.mem_append]
    constructor
    · rintro (z | z)
      · exact .inr z
      · exact .inl (by simpa using z)
    · rintro (z | z)
      · exact .inr (by simp [z])
      · exact .inl z
theorem dropI_has (fx : List (Int × Int)) (p i : Int) : i ∈ (dropI fx p).map (·.1) ↔ i ≠ p ∧ i ∈ fx.map (·.1) := by
  unfold dropI
  constructor
  · intro h
    obtain ⟨q, hq, rfl⟩ := List.mem_map.mp h
    obtain ⟨h1, h2⟩ := List.mem_filter.mp hq
    exact ⟨of_decide_eq_true h2, List.mem_map.mpr ⟨q, h1, rfl⟩⟩
  · rintro ⟨h1, h2⟩
    obtain ⟨q, hq, rfl⟩ := List.mem_map.mp h2
    exact List.mem_map.mpr ⟨q, List.mem_filter.mpr ⟨hq, decide_eq_true h1⟩, rfl⟩
theorem lk_some {i : Int} : ∀ {fx : List (Int × Int)}, i ∈ fx.map (·.1) → (lk fx i).isSome = true
  | [], h => by simp at h
  | q :: fx, h => by
    unfold lk
    rw [List.find?_cons]
    by_cases c : q.1 = i
    · simp [c]
    · rw [decide_eq_false c]
      have := lk_some (fx := fx) (i := i) (by
        rcases List.mem_cons.mp h with z | z
        · exact absurd z.symm c
        · exact z)
      unfold lk at this
      exact this
theorem AsAt.keepD {H H' : Hp} {as : List Addr} {past : List (List Int)} {g : Addr} {o : HO} (h : AsAt H as past) (hg : H g = some o) (n : ∀ xs, o ≠ .tup xs) (k : Kp [g] H H') : AsAt H' as past :=
  ⟨h.len, fun m t st e1 e2 => k _ _ (h.row m t st e1 e2) fun z => by
    have e := h.row m t st e1 e2
    rw [List.mem_singleton.mp z, hg] at e
    exact n _ (Option.some.inj e)⟩
theorem SwAt.held {H H' : Hp} {y x g d : Addr} {n : Int} {fx fx' : List (Int × Int)} {past : List (List Int)} (h : SwAt K H y x g d n fx past) (k : Kp [g] H H') (e : H' g = some (.dK (kvI fx'))) : SwAt K H' y x g d n fx' past := by
  obtain ⟨dx, hy⟩ := h.ex
  obtain ⟨qs, hd, aq⟩ := h.hd
  refine ⟨⟨dx, k _ _ hy fun z => ?_⟩, e, qs, k _ _ hd fun z => ?_, aq.keepD h.hg (fun _ z => by cases z) k⟩
  · rw [List.mem_singleton.mp z, h.hg] at hy
    cases hy
  · rw [List.mem_singleton.mp z, h.hg] at hd
    cases hd
def sp_whold (K : PySem.W.Frag) : Sp := fun vs H Q _ => ∃ (y x g d : Addr) (n : Int) (p : Nat) (v z : Int) (fx : List (Int × Int)) (past rows steps : List (List Int)) (ws : List Int) (bs : List Addr) (w : Nat), vs = [.ref y, .int p, .int v] ∧ SwAt K H y x g d n fx past ∧ HallAt K bs H w x rows steps ws ∧ p < rows.length ∧ rows.length ≤ 900 ∧ w ≤ 1000 ∧ (topsOf steps)[p]? = some z ∧ 0 ≤ v ∧ v ≤ z ∧ v ≤ 1000 ∧ fx.length ≤ 900 ∧
  ∀ H', Kp [g] H H' → SwAt K H' y x g d n (putI fx p v) past → Q .non H'
theorem ok_whold (T : Tx K mg) : FnOk P w K mg base CX0 4 (He.fAd K ("Sway", some "hold")) T.fd_Sway_hold p_Sway_hold (sp_whold K) := by
  have G_is_person := ok_person (P := P) (w := w) (base := base) T
  have G_is_posture := ok_post (P := P) (w := w) (base := base) T
  refine T.F_Sway_hold.ok sc_Sway_hold (fun vs H Q E h => ?_) (fun cdv A outer s H vs Q E hr h => ?_)
  · obtain ⟨_, _, _, _, _, _, _, _, _, _, _, _, _, _, _, rfl, _⟩ := h
    rfl
  · obtain ⟨y, x, g, d, n, p, v, z, fx, past, rows, steps, ws, bs, w', rfl, S, hA, hp, l9, lw, ez, v0, vz, v9, f9, q⟩ := h
    refine ⟨_, PSs.nox (pss_cons (ps_if (pt_not (pt_val (pe_call G_is_person (hr.mono (by first | decide | omega)) rfl T.g_is_person T.F_is_person.kp T.bd_is_person .nil pass0 (pa_cons (pe_fld (pv 0) rfl) (pa_cons (pv 1) pa_nil)))))
      (pss_one ps_never)
      pss_nil)
      (pss_cons (ps_if (pt_not (pt_val (pe_call G_is_posture (hr.mono (by first | decide | omega)) rfl T.g_is_posture T.F_is_posture.kp T.bd_is_posture .nil pass0 (pa_cons (pe_fld (pv 0) rfl) (pa_cons (pv 1) (pa_cons (pv 2) pa_nil))))))
      (pss_one ps_never)
      pss_nil)
      (pss_one (ps_dput (hu_of hr) (pe_fld (pv 0) rfl) (pv 1) (pv 2) rfl)))), ?_⟩
    obtain ⟨dx, hy⟩ := S.ex
    refine ⟨_, rfl, y, CS K, dx, _, _, rfl, hy, T.cl_Sway, T.na_Sway_home, fldW_h _ _ _ _, _, rfl, x, p, rows, steps, ws, bs, w', rfl, hA, hp, l9, fun H1 k1 => ⟨_, rfl, iteN (by rfl) ?_⟩⟩
    have hy1 := k1 _ _ hy (by simp)
    refine ⟨_, rfl, y, CS K, dx, _, _, rfl, hy1, T.cl_Sway, T.na_Sway_home, fldW_h _ _ _ _, _, rfl, _, rfl, x, p, v, z, rows, steps, ws, bs, w', rfl, hA.keep (k1.sub (by simp)), lw, ez, v0, vz, v9, fun H2 k2 => ⟨_, rfl, iteN (by rfl) ?_⟩⟩
    have hy2 := k2 _ _ hy1 (by simp)
    have S2 := (S.keep k1).keep k2
    refine ⟨_, rfl, _, rfl, y, CS K, dx, _, _, rfl, hy2, T.cl_Sway, T.na_Sway_grips, fldW_g _ _ _ _, _, rfl, g, _, rfl, DPut.k (k := .inl (p : Int)) S2.hg (small1000 (by simp [kvI]; omega)), ?_⟩
    rw [putK_putI]
    have k3 : Kp [g] H2 (upd H2 g (.dK (kvI (putI fx p v)))) := Kp.rfl'.put (by simp)
    exact q _ (((k1.trans k2).sub (by simp)).trans k3) (S2.held k3 upd_same)
def sp_wloose (K : PySem.W.Frag) : Sp := fun vs H Q _ => ∃ (y x g d : Addr) (n : Int) (p : Nat) (fx : List (Int × Int)) (past rows steps : List (List Int)) (ws : List Int) (bs : List Addr) (w : Nat), vs = [.ref y, .int p] ∧ SwAt K H y x g d n fx past ∧ HallAt K bs H w x rows steps ws ∧ p < rows.length ∧ rows.length ≤ 900 ∧ (p : Int) ∈ fx.map (·.1) ∧
  ∀ H', Kp [g] H H' → SwAt K H' y x g d n (dropI fx p) past → Q .non H'
theorem ok_wloose (T : Tx K mg) : FnOk P w K mg base CX0 4 (He.fAd K ("Sway", some "loose")) T.fd_Sway_loose p_Sway_loose (sp_wloose K) := by
  have G_is_person := ok_person (P := P) (w := w) (base := base) T
  refine T.F_Sway_loose.ok sc_Sway_loose (fun vs H Q E h => ?_) (fun cdv A outer s H vs Q E hr h => ?_)
  · obtain ⟨_, _, _, _, _, _, _, _, _, _, _, _, _, rfl, _⟩ := h
    rfl
  · obtain ⟨y, x, g, d, n, p, fx, past, rows, steps, ws, bs, w', rfl, S, hA, hp, l9, pm, q⟩ := h
    refine ⟨_, PSs.nox (pss_cons (ps_if (pt_not (pt_val (pe_call G_is_person (hr.mono (by first | decide | omega)) rfl T.g_is_person T.F_is_person.kp T.bd_is_person .nil pass0 (pa_cons (pe_fld (pv 0) rfl) (pa_cons (pv 1) pa_nil)))))
      (pss_one ps_never)
      pss_nil)
      (pss_cons (ps_if (pt_cmp (pc_dnotin (hu_of hr) (pv 1) (pe_fld (pv 0) rfl)) rfl)
      (pss_one ps_never)
      pss_nil)
      (pss_one (ps_ddel (pe_fld (pv 0) rfl) (pv 1))))), ?_⟩
    obtain ⟨dx, hy⟩ := S.ex
    refine ⟨_, rfl, y, CS K, dx, _, _, rfl, hy, T.cl_Sway, T.na_Sway_home, fldW_h _ _ _ _, _, rfl, x, p, rows, steps, ws, bs, w', rfl, hA, hp, l9, fun H1 k1 => ⟨_, rfl, iteN (by rfl) ?_⟩⟩
    have hy1 := k1 _ _ hy (by simp)
    have S1 := S.keep k1
    have so : (valV (kvI fx) (.inl (p : Int))).isSome = true := by
      rw [valV_kvI, Option.isSome_map]
      exact lk_some pm
    refine ⟨_, rfl, _, rfl, y, CS K, dx, _, _, rfl, hy1, T.cl_Sway, T.na_Sway_grips, fldW_g _ _ _ _, g, _, rfl, DGet.k (k := .inl (p : Int)) S1.hg, _, rfl, iteN (by rw [so]; rfl) ?_⟩
    refine ⟨_, rfl, y, CS K, dx, _, _, rfl, hy1, T.cl_Sway, T.na_Sway_grips, fldW_g _ _ _ _, _, rfl, g, _, .inl (p : Int), rfl, S1.hg, rfl, so, ?_⟩
    rw [dropK_dropI]
    have k3 : Kp [g] H1 (upd H1 g (.dK (kvI (dropI fx p)))) := Kp.rfl'.put (by simp)
    exact q _ ((k1.sub (by simp)).trans k3) (S1.held k3 upd_same)

end
end Sw

set_option maxHeartbeats 2000000
namespace Sw
open PySem PySem.Spec PyProof.Rows L2
section
variable {P : Program} {w : World} {K : PySem.W.Frag} {mg : Str → Option Value} {base : Heap}
theorem dot_take : ∀ {r p : List Int} {k : Nat} {x y : Int}, r[k]? = some x → p[k]? = some y → dot (r.take (k + 1)) p = dot (r.take k) p + x * y
  | [], _, _, _, _, h, _ => by simp at h
  | _ :: _, [], _, _, _, _, h => by simp at h
  | a :: r, b :: p, 0, x, y, h1, h2 => by
    cases (show some a = some x from h1)
    cases (show some b = some y from h2)
    show dot [a] (b :: p) = dot [] (b :: p) + a * b
    rw [dot_cons, dot_nil, dot_nil]
    omega
  | a :: r, b :: p, k + 1, x, y, h1, h2 => by
    have ih := dot_take (r := r) (p := p) (k := k) (x := x) (y := y) h1 h2
    rw [List.take_succ_cons, List.take_succ_cons, dot_cons, dot_cons, ih]
    omega
theorem lawP_take : ∀ {ws : List Int} {ps : List (List Int)} {r : List Int} {k : Nat} {w : Int} {p : List Int}, ws[k]? = some w → ps[k]? = some p → lawP (ws.take (k + 1)) ps r = lawP (ws.take k) ps r + w * dot r p
  | [], _, _, _, _, _, h, _ => by simp at h
  | _ :: _, [], _, _, _, _, _, h => by simp at h
  | a :: ws, b :: ps, r, 0, w, p, h1, h2 => by
    cases (show some a = some w from h1)
    cases (show some b = some p from h2)
    show lawP [a] (b :: ps) r = lawP [] (b :: ps) r + a * dot r b
    simp [lawP]
  | a :: ws, b :: ps, r, k + 1, w, p, h1, h2 => by
    have ih := lawP_take (ws := ws) (ps := ps) (r := r) (k := k) (w := w) (p := p) h1 h2
    rw [List.take_succ_cons, List.take_succ_cons]
    unfold lawP at ih ⊢
    rw [List.zipWith_cons_cons, List.zipWith_cons_cons, List.sum_cons, List.sum_cons, ih]
    omega
theorem AsAt.get {H : Hp} {as : List Addr} {past : List (List Int)} {k : Nat} {p : List Int} (h : AsAt H as past) (e : past[k]? = some p) : ∃ t, as[k]? = some t ∧ H t = some (.tup (p.map V.int)) := by
  have l := h.len
  have hk := (List.getElem?_eq_some_iff.mp e).1
  exact ⟨as[k]'(by omega), by simp, h.row k _ p (by simp) e⟩
def sp_lpull : Sp := fun vs H Q _ => ∃ (ra wa pa : Addr) (r ws : List Int) (as : List Addr) (past : List (List Int)), vs = [.ref ra, .ref wa, .ref pa] ∧ H ra = some (.lst (r.map V.int)) ∧ H wa = some (.lst (ws.map V.int)) ∧ H pa = some (.lst (as.map V.ref)) ∧ AsAt H as past ∧ ws.length ≤ past.length ∧ past.length ≤ 900 ∧ (∀ p ∈ past, p.length = r.length) ∧ Bd 1000 r ∧ Bd 1000 ws ∧ ∀ H', Kp [] H H' → Q (.int (lawP ws past.reverse r)) H'
theorem ok_lpull (T : Tx K mg) : FnOk P w K mg base CX0 1 (He.fAd K ("_law_pull", none)) T.fd__law_pull p__law_pull sp_lpull := by
  refine T.F__law_pull.ok sc__law_pull (fun vs H Q E h => ?_) (fun cdv A outer s H vs Q E hr h => ?_)
  · obtain ⟨_, _, _, _, _, _, _, rfl, _⟩ := h
    rfl
  · obtain ⟨ra, wa, pa, r, ws, as, past, rfl, hra, hwa, hpa, aq, lw, l9, lr, br, bw, q⟩ := h
    refine ⟨_, PSs.nox (pss_cons (ps_set (i := 3) sc__law_pull.nd rfl (by first | exact Or.inl rfl | exact Or.inr rfl) pe_int)
      (pss_cons (ps_for PassesOwn.never rfl (pi_enum (by rfl) T.b_enumerate (pa_cons (pv 1) pa_nil)) (pg_tup rfl (pgs_cons (pg_name (i := 4) sc__law_pull.nd rfl (by first | exact Or.inl rfl | exact Or.inr rfl)) (pgs_cons (pg_name (i := 5) sc__law_pull.nd rfl (by first | exact Or.inl rfl | exact Or.inr rfl)) pgs_nil)))
      (pss_one (ps_for PassesOwn.never rfl (pi_zipS (by rfl) T.b_zip (pa_cons (pv 0) (pa_cons (pe_ix ix_list (pv 2) (pe_op op_sub (pe_op op_sub (pe_callB call_len (by rfl) T.b_len (by decide +kernel) (pa_cons (pv 2) pa_nil)) pe_int) (pv 4)) (fun _ _ => rfl)) pa_nil))) (pg_tup rfl (pgs_cons (pg_name (i := 6) sc__law_pull.nd rfl (by first | exact Or.inl rfl | exact Or.inr rfl)) (pgs_cons (pg_name (i := 7) sc__law_pull.nd rfl (by first | exact Or.inl rfl | exact Or.inr rfl)) pgs_nil)))
      (pss_one (ps_set (i := 3) sc__law_pull.nd rfl (by first | exact Or.inl rfl | exact Or.inr rfl) (pe_op op_add (pv 3) (pe_op op_mul (pe_op op_mul (pv 5) (pv 6)) (pv 7))))))))
      (pss_one (ps_ret (pv 3))))), ?_⟩
    refine gn ?_
    refine ⟨_, rfl, wa, _, rfl, SqL.of hwa, for_it (walk_enum (K := K) (a := wa) (xs := ws.map V.int)) (fun i σ H1 => ∃ o4 o5 o6 o7 : Option V, σ = [some (.ref ra), some (.ref wa), some (.ref pa), some (.int (lawP (ws.take i) past.reverse r)), o4, o5, o6, o7] ∧ Kp [] H H1) ?_ ?_ ?_ ?_⟩
    · exact ⟨_, _, _, _, rfl, Kp.rfl'⟩
    · rintro i σ H1 _ ⟨_, _, _, _, _, k1⟩
      exact SqL.of (k1 _ _ hwa (by simp))
    · rintro i y σ H1 H2 hi ⟨o4, o5, o6, o7, rfl, k1⟩ ⟨t, u, v, rfl, ft, rfl, hu, hv⟩
      cases hu
      simp only [List.getElem?_map] at hv
      obtain ⟨wt, hwt, rfl⟩ := Option.map_eq_some_iff.mp hv
      have li := (List.getElem?_eq_some_iff.mp hwt).1
      have k2 : Kp [] H (upd H1 t (.tup [.int (i : Nat), .int wt])) := k1.new ft
      refine ⟨t, _, rfl, SqT.of upd_same, rfl, _, _, rfl, _, _, rfl, rfl, ?_⟩
      generalize upd H1 t (.tup [.int (i : Nat), .int wt]) = H2 at k2 ⊢
      obtain ⟨p, ep0⟩ : ∃ p, past[past.length - 1 - i]? = some p := ⟨past[past.length - 1 - i]'(by omega), by simp⟩
      obtain ⟨c, gx, hc⟩ := aq.get ep0
      have lp := lr p (List.mem_of_getElem? ep0)
      have ep : past.reverse[i]? = some p := by
        rw [List.getElem?_reverse (by omega)]
        exact ep0
      have hc2 := k2 _ _ hc (by simp)
      have hra2 := k2 _ _ hra (by simp)
      have hpa2 := k2 _ _ hpa (by simp)
      have bwt := bw _ (List.mem_of_getElem? hwt)
      have lq := aq.len
      refine ⟨_, rfl, _, rfl, _, rfl, _, past.length, rfl, .inl ⟨_, SqL.of hpa2, by rw [List.length_map, lq]⟩, _, _, rfl, rfl, _, rfl, _, _, rfl, rfl, pa, _, _, .ref c, rfl, rfl, SqL.of hpa2, at_of (j := past.length - 1 - i) (by omega) (by rw [List.getElem?_map, gx]; rfl), ra, c, true, false, _, _, rfl, SqL.of hra2, SqT.of hc2, for_it (walkZ (K := K) (a := ra) (b := c) (ka := true) (kb := false) (xs := r.map V.int) (ys := p.map V.int) rfl) (fun j σ H3 => ∃ o6 o7 : Option V, σ = [some (.ref ra), some (.ref wa), some (.ref pa), some (.int (lawP (ws.take i) past.reverse r + wt * dot (r.take j) p)), some (.int (i : Nat)), some (.int wt), o6, o7] ∧ Kp [] H2 H3) ?_ ?_ ?_ ?_⟩
      · refine ⟨o6, o7, ?_, Kp.rfl'⟩
        rw [List.take_zero, dot_nil, Int.mul_zero, Int.add_zero]
        rfl
      · rintro j σ H3 _ ⟨_, _, _, k3⟩
        exact ⟨SqL.of (k3 _ _ hra2 (by simp)), SqT.of (k3 _ _ hc2 (by simp))⟩
      · rintro j y σ H3 H4 hj ⟨o6, o7, rfl, k3⟩ ⟨t2, u2, v2, rfl, ft2, rfl, hu2, hv2⟩
        simp only [List.getElem?_map] at hu2 hv2
        obtain ⟨x, hx, rfl⟩ := Option.map_eq_some_iff.mp hu2
        obtain ⟨z, hz, rfl⟩ := Option.map_eq_some_iff.mp hv2
        have k4 : Kp [] H2 (upd H3 t2 (.tup [.int x, .int z])) := k3.new ft2
        have bx := br _ (List.mem_of_getElem? hx)
        have bm := mul_bd (a := 1000) (c := 1000) bwt bx
        refine ⟨t2, _, rfl, SqT.of upd_same, rfl, _, _, rfl, _, _, rfl, rfl, ?_⟩
        refine ⟨_, rfl, _, rfl, _, rfl, _, _, rfl, rfl, .inl ⟨by omega, by omega⟩, _, rfl, _, _, rfl, rfl, .inl ⟨by omega, by omega⟩, _, _, rfl, rfl, ?_⟩
        refine gn ⟨some (.int x), some (.int z), ?_, k4⟩
        rw [dot_take hx hz, Int.mul_add, ← Int.add_assoc, Int.mul_assoc]
        rfl
      · rintro σ H3 ⟨o6, o7, rfl, k3⟩
        have el : min (r.map V.int).length (p.map V.int).length = r.length := by
          rw [List.length_map, List.length_map, lp]
          omega
        rw [el, List.take_length, ← lawP_take hwt ep]
        exact ⟨_, _, _, _, rfl, k2.trans k3⟩
    · rintro σ H1 ⟨o4, o5, o6, o7, rfl, k1⟩
      rw [List.length_map, List.take_length]
      exact ⟨_, rfl, q _ k1⟩

end
end Sw

set_option maxHeartbeats 2000000
namespace Sw
open PySem PySem.Spec PyProof.Rows L2
section
variable {P : Program} {w : World} {K : PySem.W.Frag} {mg : Str → Option Value} {base : Heap}
theorem hold_nil (st : List Int) : hold [] st = st := by
  apply List.ext_getElem?
  intro i
  unfold hold
  rw [List.getElem?_mapIdx]
  cases st[i]? <;> rfl
def sp_leaned : Sp := fun vs H Q _ => ∃ (b ra sa ma pa : Addr) (rows steps : List (List Int)) (ws : List Int) (as : List Addr) (past : List (List Int)) (c : Nat), vs = [.ref ra, .ref sa, .ref ma, .ref pa] ∧ D [b] H 12 2 (.ref ra) (dII rows) ∧ D [b] H 12 2 (.ref sa) (dII steps) ∧ H ma = some (.lst (ws.map V.int)) ∧ H pa = some (.lst (as.map V.ref)) ∧ AsAt H as past ∧ ws.length ≤ past.length ∧ past.length ≤ 900 ∧ (∀ p ∈ past, p.length = c) ∧ rows.length = c ∧ steps.length = c ∧ (∀ r ∈ rows, r.length = c ∧ Bd 1000 r) ∧ Bd 1000 ws ∧
  ∀ (u : Addr) (H' : Hp), H u = none → Kp [] H H' → H' u = some (.tup ((nxt rows steps ws [] past).map V.int)) → Q (.ref u) H'
theorem ok_leaned (T : Tx K mg) : FnOk P w K mg base CX0 2 (He.fAd K ("_law_leaned", none)) T.fd__law_leaned p__law_leaned sp_leaned := by
  have G__law_pull := ok_lpull (P := P) (w := w) (base := base) T
  refine T.F__law_leaned.ok sc__law_leaned (fun vs H Q E h => ?_) (fun cdv A outer s H vs Q E hr h => ?_)
  · obtain ⟨_, _, _, _, _, _, _, _, _, _, _, rfl, _⟩ := h
    rfl
  · obtain ⟨b, ra, sa, ma, pa, rows, steps, ws, as, past, c, rfl, dr, ds, hma, hpa, aq, lw, l9, lp, lr, ls, lrow, bw, q⟩ := h
    refine ⟨_, PSs.nox (pss_cons (ps_set (i := 4) sc__law_leaned.nd rfl (by first | exact Or.inl rfl | exact Or.inr rfl) (pe_lst pa_nil))
      (pss_cons (ps_for PassesOwn.never rfl (pi_zipS (by rfl) T.b_zip (pa_cons (pv 0) (pa_cons (pv 1) pa_nil))) (pg_tup rfl (pgs_cons (pg_name (i := 5) sc__law_leaned.nd rfl (by first | exact Or.inl rfl | exact Or.inr rfl)) (pgs_cons (pg_name (i := 6) sc__law_leaned.nd rfl (by first | exact Or.inl rfl | exact Or.inr rfl)) pgs_nil)))
      (pss_cons (ps_set (i := 7) sc__law_leaned.nd rfl (by first | exact Or.inl rfl | exact Or.inr rfl) (pe_call G__law_pull (hr.mono (by first | decide | omega)) rfl T.g__law_pull T.F__law_pull.kp T.bd__law_pull .nil pass0 (pa_cons (pv 5) (pa_cons (pv 2) (pa_cons (pv 3) pa_nil)))))
      (pss_one (ps_expr (pe_bm PySem.F.plainAttrs_list PySem.F.slot_list_append PySem.F.type_list_append mt_append (pv 4) (pa_cons (pe_callB call_len (by rfl) T.b_len (by decide +kernel) (pa_cons (pe_lc (own := [("_law_step", 8)]) (g := (gName 8)) rfl sc__law_leaned.nd (pi_list (pv 6)) (blkOk_by (own := [("_law_step", 8)]) (N := n__law_leaned) (sc := defScope s__law_leaned) (by decide +kernel)) (fun _ _ _ _ _ => (pg_name (i := 8) sc__law_leaned.nd rfl (by first | exact Or.inl rfl | exact Or.inr rfl))) (fun _ _ _ _ _ => pts_one (pt_cmpR op_le (pv 8) (pv 7) (nomark _))) (fun _ _ _ _ _ => (pv 8))) pa_nil)) pa_nil))))))
      (pss_one (ps_ret (pe_callTy call_tuple_of (by rfl) T.b_tuple (by decide +kernel) (pa_cons (pv 4) pa_nil)))))), ?_⟩
    obtain ⟨xr, hra, _, lxr, _, alr⟩ := dr.rowII
    obtain ⟨xs, hsa, _, lxs, _, als⟩ := ds.rowII
    refine ⟨Nat.zero_le _, fun f hf => gn ?_⟩
    have k1 : Kp [] H (upd H f (.lst [])) := Kp.rfl'.new hf
    have hf1 : (upd H f (.lst [])) f = some (.lst []) := upd_same
    generalize upd H f (.lst []) = H1 at k1 hf1 ⊢
    refine ⟨_, rfl, _, rfl, ra, sa, true, true, _, _, rfl, SqL.of (k1 _ _ hra (by simp)), SqL.of (k1 _ _ hsa (by simp)), for_it (walkZ (K := K) (a := ra) (b := sa) (ka := true) (kb := true) (n := c) (xs := xr) (ys := xs) (by omega)) (fun j σ H2 => ∃ o5 o6 o7 : Option V, σ = [some (.ref ra), some (.ref sa), some (.ref ma), some (.ref pa), some (.ref f), o5, o6, o7, none] ∧ H2 f = some (.lst (((List.zipWith cnt steps (rows.map (lawP ws past.reverse))).take j).map V.int)) ∧ Kp [] H H2) ?_ ?_ ?_ ?_⟩
    · exact ⟨_, _, _, rfl, by rw [hf1]; rfl, k1⟩
    · rintro j σ H2 _ ⟨_, _, _, _, _, k2⟩
      exact ⟨SqL.of (k2 _ _ hra (by simp)), SqL.of (k2 _ _ hsa (by simp))⟩
    · rintro j y σ H2 H3 hj ⟨o5, o6, o7, rfl, h2, k2⟩ ⟨t, u, v, rfl, ft, rfl, hu, hv⟩
      obtain ⟨r, er⟩ : ∃ r, rows[j]? = some r := ⟨rows[j]'(by omega), by simp⟩
      obtain ⟨sr, es⟩ : ∃ sr, steps[j]? = some sr := ⟨steps[j]'(by omega), by simp⟩
      obtain ⟨a, ga, ha, _, _⟩ := alr j r er
      obtain ⟨o, go, ho, _, lsr⟩ := als j sr es
      have hu : xr[j]? = some u := hu
      have hv : xs[j]? = some v := hv
      rw [ga] at hu
      rw [go] at hv
      cases hu
      cases hv
      have k3 : Kp [] H (upd H2 t (.tup [.ref a, .ref o])) := k2.new ft
      have h3 : (upd H2 t (.tup [.ref a, .ref o])) f = some (.lst (((List.zipWith cnt steps (rows.map (lawP ws past.reverse))).take j).map V.int)) := by
        rw [upd_ne (ne_of_none h2 ft)]
        exact h2
      refine ⟨t, _, rfl, SqT.of upd_same, rfl, _, _, rfl, _, _, rfl, rfl, ?_⟩
      generalize upd H2 t (.tup [.ref a, .ref o]) = H3 at k3 h3 ⊢
      obtain ⟨lr1, br⟩ := lrow r (List.mem_of_getElem? er)
      refine ⟨_, rfl, _, rfl, _, rfl, a, ma, pa, r, ws, as, past, rfl, k3 _ _ ha (by simp), k3 _ _ hma (by simp), k3 _ _ hpa (by simp), aq.keep0 k3, lw, l9, fun p hp => by rw [lp p hp, lr1], br, bw, fun H4 k4 => gn ?_⟩
      have e : (List.zipWith cnt steps (rows.map (lawP ws past.reverse)))[j]? = some (cnt sr (lawP ws past.reverse r)) := by
        rw [List.getElem?_zipWith, es, List.getElem?_map, er]
        rfl
      generalize lawP ws past.reverse r = P1 at e ⊢
      have ho4 := (k3.trans k4) _ _ ho (by simp)
      have h4 := k4 _ _ h3 (by simp)
      refine ⟨_, rfl, .inl ⟨rfl, _, SqL.of h4⟩, _, rfl, o, rfl, ⟨_, SqL.of ho4⟩, fun d hd => lc_list (K := K) (a := o) (xs := sr.map V.int) (fun i H5 => H5 d = some (.lst (((sr.take i).filter fun x => decide (x ≤ P1)).map V.int)) ∧ Kp [] H4 H5) ?_ ?_ ?_ ?_⟩
      · exact ⟨by rw [upd_same]; rfl, Kp.rfl'.new hd⟩
      · rintro i H5 _ ⟨_, k5⟩
        exact SqL.of (k5 _ _ ho4 (by simp))
      · rintro i y H5 hi ⟨h5, k5⟩
        rw [List.getElem?_map] at hi
        obtain ⟨z, hz, rfl⟩ := Option.map_eq_some_iff.mp hi
        have ez : sr.take (i + 1) = sr.take i ++ [z] := by rw [List.take_add_one, hz]; rfl
        refine ⟨rfl, _, rfl, _, rfl, _, _, rfl, rfl, _, rfl, ?_⟩
        by_cases cc : z ≤ P1
        · refine iteC (by simp [cc]) ⟨_, rfl, _, h5, ?_, ?_, k5.own hd⟩
          · rw [List.length_map]
            exact small1000 (Nat.le_trans (List.length_filter_le ..) (by rw [List.length_take]; omega))
          · rw [upd_same, ez, List.filter_append]
            simp [cc]
        · refine iteN (by simp [cc]) ⟨?_, k5⟩
          rw [h5, ez, List.filter_append]
          simp [cc]
      · rintro H5 ⟨h5, k5⟩
        rw [List.length_map, List.take_length] at h5
        refine ⟨_, _, rfl, .inl ⟨_, SqL.of h5, (List.length_map ..).symm⟩, f, _, _, rfl, rfl, k5 _ _ h4 (by simp), ?_, ?_⟩
        · rw [List.length_map, List.length_take, List.length_zipWith]
          have := dr.rowII
          exact small1000 (by omega)
        · refine ⟨_, _, _, rfl, ?_, (k3.trans (k4.trans k5)).own hf⟩
          rw [upd_same, List.take_add_one, e]
          simp [cnt]
    · rintro σ H2 ⟨o5, o6, o7, rfl, h2, k2⟩
      have e : (List.zipWith cnt steps (rows.map (lawP ws past.reverse))).take c = List.zipWith cnt steps (rows.map (lawP ws past.reverse)) := by
        apply List.take_of_length_le
        rw [List.length_zipWith]
        omega
      rw [e] at h2
      refine ⟨_, rfl, f, _, rfl, .inl ⟨SqL.of h2, fun l hl => ?_⟩⟩
      refine q l _ (k2.free hl (by simp)) (k2.new hl) ?_
      rw [upd_same]
      unfold nxt
      rw [hold_nil]
def sp_lgone : Sp := fun vs H Q _ => ∃ (b ra sa ma pa : Addr) (n : Nat) (rows steps : List (List Int)) (ws : List Int) (as : List Addr) (past : List (List Int)) (c : Nat), vs = [.ref ra, .ref sa, .ref ma, .ref pa, .int n] ∧ D [b] H 12 2 (.ref ra) (dII rows) ∧ D [b] H 12 2 (.ref sa) (dII steps) ∧ H ma = some (.lst (ws.map V.int)) ∧ H pa = some (.lst (as.map V.ref)) ∧ AsAt H as past ∧ ws.length ≤ past.length ∧ past.length ≤ 12 ∧ n ≤ 20 ∧ (∀ p ∈ past, p.length = c) ∧ rows.length = c ∧ steps.length = c ∧ (∀ r ∈ rows, r.length = c ∧ Bd 1000 r) ∧ Bd 1000 ws ∧
  ∀ (u : Addr) (qs : List Addr) (H' : Hp), H u = none → Kp [] H H' → H' u = some (.lst (qs.map V.ref)) → AsAt H' qs (goR rows steps ws [] n past) → Q (.ref u) H'
theorem ok_lgone (T : Tx K mg) : FnOk P w K mg base CX0 3 (He.fAd K ("_law_gone", none)) T.fd__law_gone p__law_gone sp_lgone := by
  have G__law_leaned := ok_leaned (P := P) (w := w) (base := base) T
  refine T.F__law_gone.ok sc__law_gone (fun vs H Q E h => ?_) (fun cdv A outer s H vs Q E hr h => ?_)
  · obtain ⟨_, _, _, _, _, _, _, _, _, _, _, _, rfl, _⟩ := h
    rfl
  · obtain ⟨b, ra, sa, ma, pa, n, rows, steps, ws, as, past, c, rfl, dr, ds, hma, hpa, aq, lw, l9, n20, lp, lr, ls, lrow, bw, q⟩ := h
    refine ⟨_, PSs.nox (pss_cons (ps_set (i := 5) sc__law_gone.nd rfl (by first | exact Or.inl rfl | exact Or.inr rfl) (pe_callTy call_list_of (by rfl) T.b_list (by decide +kernel) (pa_cons (pv 3) pa_nil)))
      (pss_cons (ps_for PassesOwn.never rfl (pi_range1 (by rfl) T.b_range (pa_cons (pv 4) pa_nil)) (pg_name (i := 6) sc__law_gone.nd rfl (by first | exact Or.inl rfl | exact Or.inr rfl))
      (pss_one (ps_expr (pe_bm PySem.F.plainAttrs_list PySem.F.slot_list_append PySem.F.type_list_append mt_append (pv 5) (pa_cons (pe_call G__law_leaned (hr.mono (by first | decide | omega)) rfl T.g__law_leaned T.F__law_leaned.kp T.bd__law_leaned .nil pass0 (pa_cons (pv 0) (pa_cons (pv 1) (pa_cons (pv 2) (pa_cons (pe_slice sl_list (pv 5) (po_some (pe_op op_sub (pe_callB call_len (by rfl) T.b_len (by decide +kernel) (pa_cons (pv 5) pa_nil)) (pe_callB call_len (by rfl) T.b_len (by decide +kernel) (pa_cons (pv 2) pa_nil)))) po_none) pa_nil))))) pa_nil)))))
      (pss_one (ps_ret (pv 5))))), ?_⟩
    refine ⟨_, rfl, pa, _, rfl, .inl (SqL.of hpa), fun f hf => gn ?_⟩
    have k1 : Kp [] H (upd H f (.lst (as.map V.ref))) := Kp.rfl'.new hf
    have hf1 : (upd H f (.lst (as.map V.ref))) f = some (.lst (as.map V.ref)) := upd_same
    generalize upd H f (.lst (as.map V.ref)) = H1 at k1 hf1 ⊢
    refine ⟨_, rfl, _, rfl, by omega, by omega, for_range (n := ((n : Nat) : Int).toNat) (fun i σ H2 => ∃ (o6 : Option V) (qs : List Addr), σ = [some (.ref ra), some (.ref sa), some (.ref ma), some (.ref pa), some (.int (n : Nat)), some (.ref f), o6] ∧ H2 f = some (.lst (qs.map V.ref)) ∧ AsAt H2 qs (goR rows steps ws [] i past) ∧ Kp [] H H2) ?_ ?_ ?_⟩
    · exact ⟨_, as, rfl, hf1, aq.keep0 k1, k1⟩
    · rintro i σ H2 hi ⟨o6, qs, rfl, h2, a2, k2⟩
      have lF := goR_len (rows := rows) (steps := steps) (ws := ws) (fx := []) (f := past) i
      have aF := goR_all (rows := rows) (steps := steps) (ws := ws) (fx := []) (f := past) (by omega) (fun st hs => by rw [lp st hs, lr]) i
      have eN : goR rows steps ws [] (i + 1) past = goR rows steps ws [] i past ++ [nxt rows steps ws [] (goR rows steps ws [] i past)] := rfl
      rw [eN]
      generalize goR rows steps ws [] i past = F at a2 lF aF eN ⊢
      have lq := a2.len
      refine gn ?_
      obtain ⟨kk, ekk⟩ : ∃ k : Nat, F.length - ws.length = k := ⟨_, rfl⟩
      refine ⟨_, rfl, .inl ⟨rfl, _, SqL.of h2⟩, _, rfl, _, rfl, _, rfl, _, rfl, _, rfl, _, qs.length, rfl, .inl ⟨_, SqL.of h2, (List.length_map ..).symm⟩, _, rfl, _, ws.length, rfl, .inl ⟨_, SqL.of (k2 _ _ hma (by simp)), (List.length_map ..).symm⟩, _, _, rfl, rfl, (kk : Int), congrArg V.int (show (qs.length : Int) - (ws.length : Int) = (kk : Int) by omega), f, _, rfl, SqL.of h2, fun p1 hp1 => ?_⟩
      rw [cut_from, ← List.map_drop]
      have k3 : Kp [] H2 (upd H2 p1 (.lst ((qs.drop kk).map V.ref))) := Kp.rfl'.new hp1
      have hp3 : (upd H2 p1 (.lst ((qs.drop kk).map V.ref))) p1 = some (.lst ((qs.drop kk).map V.ref)) := upd_same
      generalize upd H2 p1 (.lst ((qs.drop kk).map V.ref)) = H3 at k3 hp3 ⊢
      have k03 := k2.trans k3
      refine ⟨b, ra, sa, ma, p1, rows, steps, ws, qs.drop kk, F.drop kk, c, rfl, dr.keep (k03.sub (by simp)), ds.keep (k03.sub (by simp)), k03 _ _ hma (by simp), hp3, (a2.drop kk).keep0 k3, by rw [List.length_drop]; omega, by rw [List.length_drop]; omega, fun p hp => by rw [aF p (List.mem_of_mem_drop hp), lr], lr, ls, lrow, bw, fun u H4 fu k4 hu => ?_⟩
      rw [nxt_drop (by omega)] at hu
      have h4 := (k3.trans k4) _ _ h2 (by simp)
      have a4 := ((a2.keep0 k3).keep0 k4).push hu
      have kf : Kp [f] H4 (upd H4 f (.lst (qs.map V.ref ++ [V.ref u]))) := Kp.rfl'.put (by simp)
      refine ⟨f, _, _, rfl, rfl, h4, by rw [List.length_map]; exact small1000 (by omega), ?_⟩
      exact ⟨_, qs ++ [u], rfl, by rw [upd_same]; simp, a4.keep h4 kf, (k03.trans k4).own hf⟩
    · rintro σ H2 ⟨o6, qs, rfl, h2, a2, k2⟩
      have en : ((n : Nat) : Int).toNat = n := by omega
      rw [en] at a2
      exact ⟨_, rfl, q f qs H2 hf k2 h2 a2⟩

end
end Sw

set_option maxHeartbeats 2000000
namespace Sw
open PySem PySem.Spec PyProof.Rows L2
section
variable {P : Program} {w : World} {K : PySem.W.Frag} {mg : Str → Option Value} {base : Heap}
def sp_lso (K : PySem.W.Frag) : Sp := fun vs H Q _ => ∃ (a pa ca : Addr) (as : List Addr) (past : List (List Int)) (ts st G : List Int) (c : Nat), vs = [.ref a, .ref pa, .ref ca] ∧ H a = some (.lst (as.map V.ref)) ∧ AsAt H as past ∧ H pa = some (.tup (st.map V.int)) ∧ H ca = some (.lst (G.map V.int)) ∧ st.length = c ∧ c ≤ 12 ∧ past.length ≤ 100 ∧ G.length ≤ 100 ∧ (∀ g ∈ G, 0 ≤ g ∧ g < c) ∧ (∀ p ∈ past, RowIn ts st G c p) ∧
  ∀ H', Kp [] H H' → Q (.bl true) H'
theorem ok_lso (T : Tx K mg) : FnOk P w K mg base CX0 1 (He.fAd K ("_law_stand_so", none)) T.fd__law_stand_so p__law_stand_so (sp_lso K) := by
  refine T.F__law_stand_so.ok sc__law_stand_so (fun vs H Q E h => ?_) (fun cdv A outer s H vs Q E hr h => ?_)
  · obtain ⟨_, _, _, _, _, _, _, _, _, rfl, _⟩ := h
    rfl
  · obtain ⟨a, pa, ca, as, past, ts, st, G, c, rfl, ha, aq, hpa, hca, lst, c12, l1, lG, rg, rin, q⟩ := h
    refine ⟨_, PSs.nox (pss_one (ps_ret (pe_callB (cr_all rfl) (by rfl) T.b_all (by decide +kernel) (pa_cons (pe_lc (own := [("_law_row", 3)]) (g := (gName 3)) (tt := tYes) rfl sc__law_stand_so.nd (pi_list (pv 0)) (blkOk_by (own := [("_law_row", 3)]) (N := n__law_stand_so) (sc := defScope s__law_stand_so) (by decide +kernel)) (fun _ _ _ _ _ => (pg_name (i := 3) sc__law_stand_so.nd rfl (by first | exact Or.inl rfl | exact Or.inr rfl))) (fun _ _ _ _ _ => pts_nil) (fun _ _ _ _ _ => (pe_callB (kAll (K := K) rfl rfl) (by rfl) T.b_all (by decide +kernel) (pa_cons (pe_lc (own := [("_law_one", 4)]) (g := (gName 4)) (tt := tYes) rfl sc__law_stand_so.nd (kPiL (K := K) rfl (pv 2)) (blkOk_by (own := [("_law_one", 4)]) (N := n__law_stand_so) (sc := relabel (lcScope (argOf (retAt 0 s__law_stand_so))) (envOfC "" (defScope s__law_stand_so) 0 0 .none)) (by decide +kernel)) (fun _ _ _ _ _ => (pg_name (i := 4) sc__law_stand_so.nd rfl (by first | exact Or.inl rfl | exact Or.inr rfl))) (fun _ _ _ _ _ => pts_nil) (fun _ _ _ _ _ => (pe_cmpR op_eq (pe_ix (kIxT (K := K) rfl) (pv 3) (pv 4) (fun _ _ => rfl)) (pe_ix (kIxT (K := K) rfl) (pv 1) (pv 4) (fun _ _ => rfl)) (nomark _)))) pa_nil)))) pa_nil)))), ?_⟩
    have eR : ∀ n, (List.replicate n true).all id = true := fun n => by simp
    have lq := aq.len
    refine ⟨_, rfl, a, rfl, ⟨_, SqL.of ha⟩, fun d hd => lc_list (K := K) (a := a) (xs := as.map V.ref) (fun j H4 => H4 d = some (.lst ((List.replicate j true).map V.bl)) ∧ Kp [] H H4) ?_ ?_ ?_ ?_⟩
    · exact ⟨upd_same, Kp.rfl'.new hd⟩
    · rintro j H4 _ ⟨_, k4⟩
      exact SqL.of (k4 _ _ ha (by simp))
    · rintro j y H4 hj ⟨h4, k4⟩
      rw [List.getElem?_map] at hj
      obtain ⟨t, ht, rfl⟩ := Option.map_eq_some_iff.mp hj
      have hjl := (List.getElem?_eq_some_iff.mp ht).1
      obtain ⟨p, ep⟩ : ∃ p, past[j]? = some p := ⟨past[j]'(by omega), by simp⟩
      have hu := aq.row j t p ht ep
      have RI := rin p (List.mem_of_getElem? ep)
      have lR := RI.len
      refine gn ⟨rfl, yesT ⟨_, rfl, ca, rfl, ⟨_, SqL.of (k4 _ _ hca (by simp))⟩, fun d2 hd2 => lc_list (K := K) (a := ca) (xs := G.map V.int) (fun m H5 => H5 d2 = some (.lst ((List.replicate m true).map V.bl)) ∧ Kp [] H4 H5) ?_ ?_ ?_ ?_⟩⟩
      · exact ⟨upd_same, Kp.rfl'.new hd2⟩
      · rintro m H5 _ ⟨_, k5⟩
        exact SqL.of ((k4.trans k5) _ _ hca (by simp))
      · rintro m u H5 hm ⟨h5, k5⟩
        rw [List.getElem?_map] at hm
        obtain ⟨z, hz, rfl⟩ := Option.map_eq_some_iff.mp hm
        have hml := (List.getElem?_eq_some_iff.mp hz).1
        have zG := List.mem_of_getElem? hz
        obtain ⟨z0, z1⟩ := rg z zG
        obtain ⟨zn, rfl⟩ : ∃ k : Nat, z = (k : Int) := ⟨z.toNat, by omega⟩
        have ev := RI.ok zn (by omega)
        rw [if_pos zG] at ev
        have k45 := k4.trans k5
        refine gn ⟨rfl, yesT ⟨_, rfl, _, rfl, t, _, _, V.int (st.getD zn 0), rfl, rfl, SqT.of (k45 _ _ hu (by simp)), atI_nat (by rw [List.getElem?_map, get_getD (show zn < p.length by omega), ev]; rfl), _, rfl, _, rfl, pa, _, _, V.int (st.getD zn 0), rfl, rfl, SqT.of (k45 _ _ hpa (by simp)), atI_nat (by rw [List.getElem?_map, get_getD (show zn < st.length by omega)]; rfl), rfl, ?_⟩⟩
        rw [show decide (V.int (st.getD zn 0) = V.int (st.getD zn 0)) = true from decide_eq_true rfl]
        refine ⟨_, h5, by rw [List.length_map, List.length_replicate]; exact small1000 (by omega), ?_, k5.own hd2⟩
        rw [upd_same, List.replicate_succ', List.map_append]
        rfl
      · rintro H5 ⟨h5, k5⟩
        refine ⟨d2, _, rfl, SqL.of h5, ?_⟩
        rw [eR]
        refine ⟨_, k5 _ _ h4 (by simp), by rw [List.length_map, List.length_replicate]; exact small1000 (by omega), ?_, (k4.trans k5).own hd⟩
        rw [upd_same, List.replicate_succ', List.map_append]
        rfl
    · rintro H4 ⟨h4, k4⟩
      refine ⟨d, _, rfl, SqL.of h4, ?_⟩
      rw [eR]
      exact q H4 k4

end
end Sw

set_option maxHeartbeats 2000000
namespace Sw
open PySem PySem.Spec PyProof.Rows L2
section
variable {P : Program} {w : World} {K : PySem.W.Frag} {mg : Str → Option Value} {base : Heap}
/-- rows laid anew in a list of lists -/
theorem D.setI {bs : List Addr} {H : Hp} {w : Nat} {p o : Addr} {rows : List (List Int)} {xs : List V} {os : List Int} {g : Nat} (h : D bs H w 2 (.ref p) (dII rows)) (e : H p = some (.lst xs)) (ho : H o = some (.lst (os.map V.int))) (nb : o ∉ bs) (np : o ≠ p) (hg : g < rows.length) (lw : os.length ≤ w) (bd : ∀ x ∈ os, x.natAbs < 2 ^ 39 + w) :
    D bs (upd H p (.lst (xs.set g (.ref o)))) w 2 (.ref p) (dII (rows.set g os)) := by
  have k : Kp [p] H (upd H p (.lst (xs.set g (.ref o)))) := Kp.rfl'.put (by simp)
  obtain ⟨xs', h1, n1, lx, lw', al⟩ := h.rowII
  rw [e] at h1
  cases h1
  have lj : ∀ (j : Nat) (r : List Int), rows[j]? = some r → ∀ x ∈ r, x.natAbs < 2 ^ 39 + w := fun j r ej => by
    cases h with
    | lst h2 _ _ t =>
      rw [e] at h2
      cases h2
      obtain ⟨a, ga, ha, _, _⟩ := al j r ej
      obtain ⟨d, ed, dd⟩ := t.get ga
      rw [List.getElem?_map, ej] at ed
      cases ed
      cases dd with
      | lst h3 _ _ t3 =>
        rw [ha] at h3
        cases h3
        exact t3.small
  refine .lst (k := 1) upd_same n1 (by simpa using lw') (DA.of_get (by simp [lx]) fun i v d h2 h3 => ?_)
  rw [List.getElem?_map, List.getElem?_set] at h3
  rw [List.getElem?_set] at h2
  by_cases z : g = i
  · rw [if_pos z, if_pos (by omega)] at h2
    rw [if_pos z, if_pos hg] at h3
    cases h2
    cases h3
    exact .lst (k := 0) (k _ _ ho (by simpa using np)) nb (by simpa using lw) (DA.ofInts bd)
  · rw [if_neg z] at h2 h3
    obtain ⟨r, er, rfl⟩ := Option.map_eq_some_iff.mp h3
    obtain ⟨a, ga, ha, na, la⟩ := al i r er
    rw [ga] at h2
    cases h2
    have nap : a ≠ p := fun z => by
      rw [z, e] at ha
      have e2 : xs = r.map V.int := by
        cases ha
        rfl
      rw [e2, List.getElem?_map] at ga
      obtain ⟨y, _, hy⟩ := Option.map_eq_some_iff.mp ga
      cases hy
    exact .lst (k := 0) (k _ _ ha (by simpa using nap)) na (by simpa using la) (DA.ofInts (lj i r er))
/-- halls whose others have new strings and new steps -/
structure Oth (rows steps rows' steps' : List (List Int)) (O : List Int) (c : Nat) : Prop where
  lr : rows'.length = c
  row : ∀ r ∈ rows', r.length = c ∧ Bd 20 r
  ls : steps'.length = c
  step : ∀ r ∈ steps', Rung0 r ∧ Bd 200000 r
  same : ∀ i : Nat, (i : Int) ∉ O → rows'[i]? = rows[i]? ∧ steps'[i]? = steps[i]?
  tops : topsOf steps' = topsOf steps
theorem topsOf_set {steps : List (List Int)} {g : Nat} {os r : List Int} (e : steps[g]? = some r) (l : os.length = r.length) : topsOf (steps.set g os) = topsOf steps := by
  apply List.ext_getElem?
  intro i
  unfold topsOf
  rw [List.getElem?_map, List.getElem?_map, List.getElem?_set]
  by_cases z : g = i
  · have hg := (List.getElem?_eq_some_iff.mp e).1
    rw [if_pos z, if_pos hg, ← z, e]
    show some (os.length : Int) = some (r.length : Int)
    rw [l]
  · rw [if_neg z]
theorem Oth.setR {rows steps rows' steps' : List (List Int)} {O os : List Int} {c g : Nat} (h : Oth rows steps rows' steps' O c) (hg : (g : Int) ∈ O) (l : os.length = c) (b : Bd 20 os) : Oth rows steps (rows'.set g os) steps' O c := by
  refine ⟨by rw [List.length_set]; exact h.lr, fun r hr => ?_, h.ls, h.step, fun i hi => ⟨?_, (h.same i hi).2⟩, h.tops⟩
  · rcases List.mem_or_eq_of_mem_set hr with z | z
    · exact h.row r z
    · rw [z]
      exact ⟨l, b⟩
  · rw [List.getElem?_set, if_neg fun z => hi (by rw [← z]; exact hg)]
    exact (h.same i hi).1
theorem Oth.setS {rows steps rows' steps' : List (List Int)} {O os r : List Int} {c g : Nat} (h : Oth rows steps rows' steps' O c) (hg : (g : Int) ∈ O) (e : steps'[g]? = some r) (l : os.length = r.length) (b : Rung0 os ∧ Bd 200000 os) : Oth rows steps rows' (steps'.set g os) O c := by
  refine ⟨h.lr, h.row, by rw [List.length_set]; exact h.ls, fun r hr => ?_, fun i hi => ⟨(h.same i hi).1, ?_⟩, by rw [topsOf_set e l]; exact h.tops⟩
  · rcases List.mem_or_eq_of_mem_set hr with z | z
    · exact h.step r z
    · rw [z]
      exact b
  · rw [List.getElem?_set, if_neg fun z => hi (by rw [← z]; exact hg)]
    exact (h.same i hi).2
def sp_lother : Sp := fun vs H Q _ => ∃ (b ra sa oa : Addr) (rows steps : List (List Int)) (O : List Int) (c n : Nat), vs = [.ref b, .ref ra, .ref sa, .ref oa] ∧ Bx H b n ∧ n ≤ 700000 ∧ D [b] H 12 2 (.ref ra) (dII rows) ∧ D [b] H 12 2 (.ref sa) (dII steps) ∧ H oa = some (.lst (O.map V.int)) ∧ oa ≠ b ∧ (∀ g ∈ O, 0 ≤ g ∧ g < c) ∧ O.length ≤ 12 ∧ c ≤ 12 ∧ Oth rows steps rows steps O c ∧
  ∀ (t m u : Addr) (rows' steps' : List (List Int)) (H' : Hp), H t = none → Kp [b] H H' → H' t = some (.tup [.ref m, .ref u]) → D [b] H' 12 2 (.ref m) (dII rows') → D [b] H' 12 2 (.ref u) (dII steps') → Oth rows steps rows' steps' O c → Bx H' b (n + 240) → Q (.ref t) H'
theorem ok_lother (T : Tx K mg) : FnOk P w K mg base CX0 3 (He.fAd K ("_law_otherwise", none)) T.fd__law_otherwise p__law_otherwise sp_lother := by
  have G__law_take := ok_take (P := P) (w := w) (base := base) T
  have G__law_steps := ok_lsteps (P := P) (w := w) (base := base) T
  refine T.F__law_otherwise.ok sc__law_otherwise (fun vs H Q E h => ?_) (fun cdv A outer s H vs Q E hr h => ?_)
  · obtain ⟨_, _, _, _, _, _, _, _, _, rfl, _⟩ := h
    rfl
  · obtain ⟨b, ra, sa, oa, rows, steps, O, c, n, rfl, hB, hn, dr, ds, hoa, nob, og, lO, c12, ot, q⟩ := h
    refine ⟨_, PSs.nox (pss_cons (ps_par (i := 5) (j := 6) (by rfl) sc__law_otherwise.nd rfl rfl (by decide) rfl rfl (pa_cons (pe_lc (own := [("_law_row", 7)]) (g := (gName 7)) (tt := tYes) rfl sc__law_otherwise.nd (pi_list (pv 1)) (blkOk_by (own := [("_law_row", 7)]) (N := n__law_otherwise) (sc := defScope s__law_otherwise) (by decide +kernel)) (fun _ _ _ _ _ => (pg_name (i := 7) sc__law_otherwise.nd rfl (by first | exact Or.inl rfl | exact Or.inr rfl))) (fun _ _ _ _ _ => pts_nil) (fun _ _ _ _ _ => (pe_callTy (kLst (K := K) rfl) (by rfl) T.b_list (by decide +kernel) (pa_cons (pv 7) pa_nil)))) (pa_cons (pe_lc (own := [("_law_row", 7)]) (g := (gName 7)) (tt := tYes) rfl sc__law_otherwise.nd (pi_list (pv 2)) (blkOk_by (own := [("_law_row", 7)]) (N := n__law_otherwise) (sc := defScope s__law_otherwise) (by decide +kernel)) (fun _ _ _ _ _ => (pg_name (i := 7) sc__law_otherwise.nd rfl (by first | exact Or.inl rfl | exact Or.inr rfl))) (fun _ _ _ _ _ => pts_nil) (fun _ _ _ _ _ => (pe_callTy (kLst (K := K) rfl) (by rfl) T.b_list (by decide +kernel) (pa_cons (pv 7) pa_nil)))) pa_nil)) (by rfl))
      (pss_cons (ps_for PassesOwn.never rfl (pi_list (pv 3)) (pg_name (i := 4) sc__law_otherwise.nd rfl (by first | exact Or.inl rfl | exact Or.inr rfl))
      (pss_cons (ps_asg (pe_lc (own := [("_law_string", 8)]) (g := (gName 8)) (tt := tYes) rfl sc__law_otherwise.nd (pi_list (pe_ix ix_list (pv 5) (pv 4) (fun _ _ => rfl))) (blkOk_by (own := [("_law_string", 8)]) (N := n__law_otherwise) (sc := defScope s__law_otherwise) (by decide +kernel)) (fun _ _ _ _ _ => (pg_name (i := 8) sc__law_otherwise.nd rfl (by first | exact Or.inl rfl | exact Or.inr rfl))) (fun _ _ _ _ _ => pts_nil) (fun _ _ _ _ _ => (pe_op op_sub (pe_call G__law_take (hr.mono (by first | decide | omega)) rfl T.g__law_take T.F__law_take.kp T.bd__law_take .nil pass0 (pa_cons (pv 0) (pa_cons pe_int pa_nil))) pe_int))) (pg_sub (pv 5) (pv 4) set_list))
      (pss_one (ps_asg (pe_call G__law_steps (hr.mono (by first | decide | omega)) rfl T.g__law_steps T.F__law_steps.kp T.bd__law_steps .nil pass0 (pa_cons (pv 0) (pa_cons (pe_callB call_len (by rfl) T.b_len (by decide +kernel) (pa_cons (pe_ix ix_list (pv 6) (pv 4) (fun _ _ => rfl)) pa_nil)) (pa_cons pe_int pa_nil)))) (pg_sub (pv 6) (pv 4) set_list)))))
      (pss_one (ps_ret (pe_tup (pa_cons (pv 5) (pa_cons (pv 6) pa_nil))))))), ?_⟩
    obtain ⟨xr, hra, _, lxr, lr12, alr⟩ := dr.rowII
    obtain ⟨xs, hsa, _, lxs, ls12, als⟩ := ds.rowII
    have hlr := ot.lr
    have hls := ot.ls
    refine ⟨_, rfl, ra, rfl, ⟨_, SqL.of hra⟩, fun m hm => lc_list (K := K) (a := ra) (xs := xr) (fun j H1 => ∃ ys : List V, H1 m = some (.lst ys) ∧ DA [m, b] H1 12 1 ys ((rows.take j).map dI) ∧ Kp [] H H1) ?_ ?_ ?_ ?_⟩
    · exact ⟨[], upd_same, .nil, Kp.rfl'.new hm⟩
    · rintro j H1 _ ⟨_, _, _, k1⟩
      exact SqL.of (k1 _ _ hra (by simp))
    · rintro j y H1 hj ⟨ys, h1, d1, k1⟩
      have hjl := (List.getElem?_eq_some_iff.mp hj).1
      obtain ⟨r, er⟩ : ∃ r, rows[j]? = some r := ⟨rows[j]'(by omega), by simp⟩
      obtain ⟨a, ga, ha, _, la⟩ := alr j r er
      rw [hj] at ga
      cases ga
      have br := (ot.row r (List.mem_of_getElem? er)).2
      have ly := DA.len d1
      rw [List.length_map, List.length_take] at ly
      refine gn ⟨rfl, yesT ⟨_, rfl, a, _, rfl, .inl (SqL.of (k1 _ _ ha (by simp))), fun l hl => ?_⟩⟩
      have nlm : l ≠ m := (ne_of_none h1 hl).symm
      have nlb := (hB.keep k1 (by simp)).off hl
      have kl : ∀ cs, Kp cs H1 (upd H1 l (.lst (r.map V.int))) := fun cs => Kp.rfl'.new hl
      have kf : Kp [m, b] (upd H1 l (.lst (r.map V.int))) (upd (upd H1 l (.lst (r.map V.int))) m (.lst (ys ++ [.ref l]))) := Kp.rfl'.put (by simp)
      refine ⟨ys, kl [] _ _ h1 (by simp), small1000 (by omega), ys ++ [.ref l], upd_same, ?_, (k1.trans (kl _)).own hm⟩
      rw [List.take_add_one, er, List.map_append]
      refine ((d1.keep (kl _)).keep kf).app (DA.one ((D.lst (k := 0) upd_same (by simp [nlm, nlb]) (by rw [List.length_map]; exact la) (DA.ofInts fun x hx => ?_)).keep kf))
      have := br x hx
      omega
    rintro H1 ⟨ys, hm1, dm1, k1⟩
    rw [lxr, List.take_length] at dm1
    have lys := DA.len dm1
    rw [List.length_map] at lys
    have DM1 : D [b] H1 12 2 (.ref m) (dII rows) := .lst hm1 (by simpa using hB.off hm) (by omega) (dm1.less (by simp))
    refine ⟨_, rfl, sa, rfl, ⟨_, SqL.of (k1 _ _ hsa (by simp))⟩, fun u hu => lc_list (K := K) (a := sa) (xs := xs) (fun j H2 => ∃ zs : List V, H2 u = some (.lst zs) ∧ DA [u, m, b] H2 12 1 zs ((steps.take j).map dI) ∧ Kp [] H1 H2) ?_ ?_ ?_ ?_⟩
    · exact ⟨[], upd_same, .nil, Kp.rfl'.new hu⟩
    · rintro j H2 _ ⟨_, _, _, k2⟩
      exact SqL.of ((k1.trans k2) _ _ hsa (by simp))
    · rintro j y H2 hj ⟨zs, h2, d2, k2⟩
      have hjl := (List.getElem?_eq_some_iff.mp hj).1
      obtain ⟨r, er⟩ : ∃ r, steps[j]? = some r := ⟨steps[j]'(by omega), by simp⟩
      obtain ⟨a, ga, ha, _, la⟩ := als j r er
      rw [hj] at ga
      cases ga
      have br := (ot.step r (List.mem_of_getElem? er)).2
      have lz := DA.len d2
      rw [List.length_map, List.length_take] at lz
      have k02 := k1.trans k2
      refine gn ⟨rfl, yesT ⟨_, rfl, a, _, rfl, .inl (SqL.of (k02 _ _ ha (by simp))), fun l hl => ?_⟩⟩
      have nlu : l ≠ u := (ne_of_none h2 hl).symm
      have nlm : l ≠ m := (ne_of_none (k2 _ _ hm1 (by simp)) hl).symm
      have nlb := (hB.keep k02 (by simp)).off hl
      have kl : ∀ cs, Kp cs H2 (upd H2 l (.lst (r.map V.int))) := fun cs => Kp.rfl'.new hl
      have kf : Kp [u, m, b] (upd H2 l (.lst (r.map V.int))) (upd (upd H2 l (.lst (r.map V.int))) u (.lst (zs ++ [.ref l]))) := Kp.rfl'.put (by simp)
      refine ⟨zs, kl [] _ _ h2 (by simp), small1000 (by omega), zs ++ [.ref l], upd_same, ?_, (k2.trans (kl _)).own hu⟩
      rw [List.take_add_one, er, List.map_append]
      refine ((d2.keep (kl _)).keep kf).app (DA.one ((D.lst (k := 0) upd_same (by simp [nlu, nlm, nlb]) (by rw [List.length_map]; exact la) (DA.ofInts fun x hx => ?_)).keep kf))
      have := br x hx
      omega
    rintro H2 ⟨zs, hu2, du2, k2⟩
    rw [lxs, List.take_length] at du2
    have lzs := DA.len du2
    rw [List.length_map] at lzs
    have k02 := k1.trans k2
    have hB2 := hB.keep k02 (by simp)
    have num : u ≠ m := (ne_of_none hm1 hu).symm
    have nub := (hB.keep k1 (by simp)).off hu
    have nmb := hB.off hm
    have DU2 : D [m, b] H2 12 2 (.ref u) (dII steps) := .lst hu2 (by simp [num, nub]) (by omega) (du2.less (by simp))
    have DM2 : D [u, b] H2 12 2 (.ref m) (dII rows) := (DM1.fresh hu).keep (k2.sub (by simp))
    clear du2 dm1 DM1 lys lzs hm1 hu2
    refine ⟨_, _, rfl, ?_⟩
    have hoa2 := k02 _ _ hoa (by simp)
    refine nx_of ⟨_, rfl, oa, rfl, ⟨_, SqL.of hoa2⟩, for_list (K := K) (a := oa) (xs := O.map V.int) (fun i σ H3 => ∃ (o4 : Option V) (rows' steps' : List (List Int)), σ = [some (.ref b), some (.ref ra), some (.ref sa), some (.ref oa), o4, some (.ref m), some (.ref u), none, none] ∧ D [u, b] H3 12 2 (.ref m) (dII rows') ∧ D [m, b] H3 12 2 (.ref u) (dII steps') ∧ Oth rows steps rows' steps' O c ∧ Bx H3 b (n + 20 * i) ∧ Kp [m, u, b] H2 H3) ?_ ?_ ?_ ?_⟩
    · exact ⟨_, rows, steps, rfl, DM2, DU2, ot, hB2, Kp.rfl'⟩
    · rintro i σ H3 _ ⟨_, _, _, _, _, _, _, _, k3⟩
      exact SqL.of (k3 _ _ hoa2 (by simp [nob, ne_of_none hoa hm, ne_of_none (k1 _ _ hoa (by simp)) hu]))
    · rintro i y σ H3 hi ⟨o4, rows', steps', rfl, DM, DU, ot3, hB3, k3⟩
      rw [List.getElem?_map] at hi
      obtain ⟨z, hz, rfl⟩ := Option.map_eq_some_iff.mp hi
      have hil := (List.getElem?_eq_some_iff.mp hz).1
      have zO := List.mem_of_getElem? hz
      obtain ⟨z0, z1⟩ := og z zO
      obtain ⟨zn, rfl⟩ : ∃ k : Nat, z = (k : Int) := ⟨z.toNat, by omega⟩
      refine gn ?_
      obtain ⟨xm, hm3, _, lxm, lm12, alm⟩ := DM.rowII
      have lr3 := ot3.lr
      have ls3 := ot3.ls
      obtain ⟨r, er⟩ : ∃ r, rows'[zn]? = some r := ⟨rows'[zn]'(by omega), by simp⟩
      obtain ⟨a, ga, ha, na, la⟩ := alm zn r er
      have nab : a ≠ b := by
        simp at na
        exact na.2
      obtain ⟨lrc, _⟩ := ot3.row r (List.mem_of_getElem? er)
      refine ⟨_, rfl, _, rfl, m, _, _, .ref a, rfl, rfl, SqL.of hm3, atI_nat ga, a, rfl, ⟨_, SqL.of ha⟩, fun d hd => lc_list (K := K) (a := a) (xs := r.map V.int) (fun j H4 => ∃ ns : List Int, H4 d = some (.lst (ns.map V.int)) ∧ ns.length = j ∧ Bd 20 ns ∧ Bx H4 b (n + 20 * i + j) ∧ Kp [b] H3 H4) ?_ ?_ ?_ ?_⟩
      · exact ⟨[], upd_same, rfl, fun x hx => by simp at hx, hB3.keep (Kp.rfl'.new (bs := []) hd) (by simp), Kp.rfl'.new hd⟩
      · rintro j H4 _ ⟨_, _, _, _, _, k4⟩
        exact SqL.of (k4 _ _ ha (by simpa using nab))
      · rintro j y H4 hj ⟨ns, h4, ln, bn, hB4, k4⟩
        rw [List.getElem?_map] at hj
        obtain ⟨zz, hzz, rfl⟩ := Option.map_eq_some_iff.mp hj
        have hjl := (List.getElem?_eq_some_iff.mp hzz).1
        have ndb := hB3.off hd
        refine gn ⟨rfl, yesT ⟨_, rfl, b, 19, _, rfl, hB4, by omega, by omega, by omega, fun v H5 v0 v1 hB5 k5 => ⟨_, _, rfl, rfl, ?_⟩⟩⟩
        have h5 := k5 _ _ h4 (by simpa using ndb)
        refine ⟨_, h5, by rw [List.length_map]; exact small1000 (by omega), ns ++ [v - 9], by rw [upd_same, ints_snoc], by simp [ln], fun x hx => ?_, (hB5.keep (Kp.rfl'.put (bs := [d]) (by simp)) (by simpa using ndb.symm)).up (by omega), (k4.trans k5).own hd⟩
        rcases List.mem_append.mp hx with z | z
        · exact bn x z
        · rw [List.mem_singleton.mp z]
          omega
      rintro H4 ⟨ns, h4, ln, bn, hB4, k4⟩
      rw [List.length_map] at ln hB4
      have DM4 := DM.keep (k4.sub (by simp))
      have DU4 := DU.keep (k4.sub (by simp))
      obtain ⟨xm4, hm4, nm4, lxm4, _, _⟩ := DM4.rowII
      have ndm : d ≠ m := (ne_of_none hm3 hd).symm
      have ndb := hB3.off hd
      obtain ⟨xu3, hu3, _, _, _, _⟩ := DU.rowII
      have ndu : d ≠ u := (ne_of_none hu3 hd).symm
      refine ⟨_, rfl, _, rfl, m, _, _, zn, rfl, rfl, hm4, ixN_nat (by omega), ?_⟩
      have kM : Kp [m, b] H4 (upd H4 m (.lst (xm4.set zn (.ref d)))) := Kp.rfl'.put (by simp)
      have kM' : Kp [m] H4 (upd H4 m (.lst (xm4.set zn (.ref d)))) := Kp.rfl'.put (by simp)
      have DM5 := DM4.setI (g := zn) hm4 h4 (by simp [ndu, ndb]) ndm (by omega) (by omega) (fun x hx => by have := bn x hx; omega)
      have DU5 := DU4.keep kM
      have hB5 := hB4.keep kM' (by simpa using nmb.symm)
      generalize upd H4 m (.lst (xm4.set zn (.ref d))) = H5 at kM kM' DM5 DU5 hB5 ⊢
      have ot5 := ot3.setR zO (by omega) bn
      obtain ⟨xu, hu5, _, lxu, lu12, alu⟩ := DU5.rowII
      obtain ⟨sr, es⟩ : ∃ sr, steps'[zn]? = some sr := ⟨steps'[zn]'(by omega), by simp⟩
      obtain ⟨e, ge, he, _, le⟩ := alu zn sr es
      have rgs := (ot3.step sr (List.mem_of_getElem? es)).1
      have rg1 := rgs.l1
      have rg4 := rgs.l4
      refine nx_of ⟨_, rfl, _, rfl, _, rfl, u, _, _, .ref e, rfl, rfl, SqL.of hu5, atI_nat ge, _, sr.length, rfl, .inl ⟨_, SqL.of he, (List.length_map ..).symm⟩, b, _, 0, _, rfl, hB5, by omega, by omega, by omega, by decide, by decide, fun v os H6 fv k6 hv rv lv bv hB6 => ?_⟩
      have DM6 := DM5.keep (k6.sub (by simp))
      have DU6 := DU5.keep (k6.sub (by simp))
      obtain ⟨xu6, hu6, _, lxu6, _, _⟩ := DU6.rowII
      obtain ⟨xm5, hm5, _, _, _, _⟩ := DM5.rowII
      have nvu : v ≠ u := (ne_of_none hu5 fv).symm
      have nvm : v ≠ m := (ne_of_none hm5 fv).symm
      have nvb := hB5.off fv
      refine ⟨_, rfl, _, rfl, u, _, _, zn, rfl, rfl, hu6, ixN_nat (by omega), ?_⟩
      have kU : Kp [u, b] H6 (upd H6 u (.lst (xu6.set zn (.ref v)))) := Kp.rfl'.put (by simp)
      have kU' : Kp [u] H6 (upd H6 u (.lst (xu6.set zn (.ref v)))) := Kp.rfl'.put (by simp)
      have DU7 := DU6.setI (g := zn) hu6 hv (by simp [nvm, nvb]) nvu (by omega) (by omega) (fun x hx => by have := bv x hx; omega)
      have DM7 := DM6.keep kU
      refine ⟨_, _, _, rfl, DM7, DU7, ot5.setS zO es (by omega) ⟨rv, fun x hx => by have := bv x hx; omega⟩, (hB6.keep kU' (by simpa using nub.symm)).up (by omega), ?_⟩
      exact k3.trans ((k4.sub (by simp)).trans ((kM'.sub (by simp)).trans ((k6.sub (by simp)).trans (kU'.sub (by simp)))))
    · rintro σ H3 ⟨o4, rows', steps', rfl, DM, DU, ot3, hB3, k3⟩
      rw [List.length_map] at hB3
      have k03 : Kp [b] H H3 := fun p o e n => k3 p o (k02 p o e (by simp)) (by
        have := ne_of_none e hm
        have := ne_of_none (k1 p o e (by simp)) hu
        simp at n ⊢
        exact ⟨‹p ≠ m›, ‹p ≠ u›, n⟩)
      refine nx_of ⟨_, rfl, _, rfl, by show 2 ≤ sizeLine; decide, fun t ht => ?_⟩
      have kt : ∀ cs, Kp cs H3 (upd H3 t (.tup [.ref m, .ref u])) := fun cs => Kp.rfl'.new ht
      exact q t m u rows' steps' _ (k03.free ht (by simpa using hB3.off ht)) (k03.trans (kt _)) upd_same ((DM.less (by simp)).keep (kt _)) ((DU.less (by simp)).keep (kt _)) ot3 ((hB3.keep (kt []) (by simp)).up (by omega))

end
end Sw

set_option maxHeartbeats 2000000
namespace Sw
open PySem PySem.Spec PyProof.Rows L2
section
variable {P : Program} {w : World} {K : PySem.W.Frag} {mg : Str → Option Value} {base : Heap}
theorem eqvI : ∀ a b : List Int, PyData.eqvAll (a.map PyData.int) (b.map PyData.int) = decide (a = b)
  | [], [] => by simp [PyData.eqvAll]
  | [], _ :: _ => by simp [PyData.eqvAll]
  | _ :: _, [] => by simp [PyData.eqvAll]
  | x :: a, y :: b => by
    simp only [List.map_cons, PyData.eqvAll, PyData.eqv, eqvI a b]
    by_cases h : x = y <;> by_cases g : a = b <;> simp [h, g]
theorem eqvT (a b : List Int) : PyData.eqv (dT a) (dT b) = decide (a = b) := by
  simp only [PyData.eqv]
  exact eqvI a b
theorem layI : ∀ a : List Int, PyData.canLayAll0 (a.map PyData.int) = true ∧ PyData.depthAll (a.map PyData.int) = 0
  | [] => by simp [PyData.canLayAll0, PyData.depthAll]
  | x :: a => by
    obtain ⟨h1, h2⟩ := layI a
    simp [PyData.canLayAll0, PyData.canLay0, PyData.depthAll, PyData.depth, h1, h2]
theorem layT (a : List Int) : PyData.canLay0 (dT a) = true ∧ PyData.depth (dT a) ≤ 1 := by
  obtain ⟨h1, h2⟩ := layI a
  simp [PyData.canLay0, PyData.depth, h1, h2]
theorem shT (a : List Int) : SeqAt.shaped (dT a) = true := by
  obtain ⟨h1, h2⟩ := layT a
  unfold SeqAt.shaped
  rw [h1, decide_eq_true (by omega)]
  rfl
theorem eqvL (a b : List Int) : PyData.eqv (dI a) (dI b) = decide (a = b) := by
  simp only [PyData.eqv]
  exact eqvI a b
theorem shL (a : List Int) : SeqAt.shaped (dI a) = true := by
  obtain ⟨h1, h2⟩ := layI a
  unfold SeqAt.shaped
  have h3 : PyData.depth (dI a) = 1 := by
    show PyData.depth (.list (a.map PyData.int)) = 1
    rw [PyData.depth, h2]
  rw [decide_eq_true (show PyData.depth (dI a) ≤ 64 by omega)]
  show (PyData.canLay0 (.list (a.map PyData.int)) && true) = true
  rw [PyData.canLay0, h1]
  rfl
theorem rowsII (rows : List (List Int)) : RowsD (dII rows) rows := ⟨true, rows.map dI, rfl, by simp, fun i e r h1 h2 => by
  rw [List.getElem?_map, h2] at h1
  cases h1
  exact ⟨true, rfl⟩⟩
theorem init_of {b x dx : Addr} {H : Hp} {v1 v2 v3 : V} {rows steps : List (List Int)} {ws : List Int} {n : Nat} {Q : VK} {E : XK} (fx : H x = none) (fdx : H dx = none) (nxd : dx ≠ x) (hB : Bx H b n) (d1 : D [b] H 12 2 v1 (dII rows)) (d2 : D [b] H 12 2 v2 (dII steps)) (d3 : D [b] H 12 2 v3 (dI ws)) (ok : HallOk rows steps ws)
    (q : ∀ H', HallAt K [b] H' 12 x rows steps ws → (∀ cs, Kp cs H H') → Q .non H') : sp_init K [.ref x, v1, v2, v3] (upd (upd H dx (.own x)) x (.ins (C0 K) dx [])) Q E := by
  obtain ⟨ob, eb⟩ := hB.at'
  have fx2 : (upd H dx (.own x)) x = none := by
    rw [upd_ne nxd.symm]
    exact fx
  have km : ∀ cs, Kp cs H (upd (upd H dx (.own x)) x (.ins (C0 K) dx [])) := fun cs => (Kp.rfl'.new fdx).new fx2
  have nxb : x ≠ b := (ne_of_none eb fx).symm
  exact ⟨x, dx, v1, v2, v3, _, _, _, rows, steps, ws, [b], [b], 12, 2, rfl, upd_same, d1.keep (km _), d2.keep (km _), d3.keep (km _), rowsII _, rowsII _, ⟨true, rfl⟩, by decide, ok, (fun c hc => by obtain rfl := List.mem_singleton.mp hc; exact ⟨_, km [] _ _ eb (by simp)⟩), (fun c hc => hc), by simpa using nxb, fun H' hA kx => q H' hA fun cs a o e n => kx a o (km [] a o e (by simp)) (by simpa using ne_of_none e fx)⟩
theorem lean_val {rows steps past : List (List Int)} {ws r sr : List Int} {c g : Nat} (er : rows[g]? = some r) (es : steps[g]? = some sr) (lp : ∀ p ∈ past, p.length = c) : (nxt rows steps ws [] (past.map (hold [])))[g]? = some (cnt sr (pullR ws past c r)) := by
  have e1 : past.map (hold []) = past := by
    rw [List.map_congr_left (g := id) fun p _ => hold_nil p, List.map_id]
  unfold nxt
  rw [e1, hold_nil, List.getElem?_zipWith, es, List.getElem?_map, er, pullR_law lp]
  rfl
theorem Wd.grp {H : Hp} {b ra sa ma pa x ca : Addr} {kd : Bool} {rows steps : List (List Int)} {ws st G : List Int} {c : Nat} (W : Wd H b ra sa ma pa rows steps ws st c) (hA : HallAt K [b] H 12 x rows steps ws) (hc : H ca = some (sqo kd (G.map V.int))) (gb : ∀ g ∈ G, 0 ≤ g ∧ g < c) : Grp K [b] H 12 x pa ca kd rows steps ws st G c :=
  have c12 := W.c12
  ⟨hA, W.hp, hc, gb, W.lr, fun r hr => ⟨(W.row r hr).1, Bd.up (a := 20) (c := 1000) (W.row r hr).2 (by decide)⟩, W.ls, fun r hr => (W.step r hr).1.l4, W.lst, by omega, by decide, Bd.up (a := 9) (c := 1000) W.wt.bd (by decide), W.wt.l5, W.wt.l1⟩
theorem lay2 : ∀ rows : List (List Int), PyData.canLayAll0 (rows.map dI) = true ∧ PyData.depthAll (rows.map dI) ≤ 1
  | [] => by simp [PyData.canLayAll0, PyData.depthAll]
  | r :: rows => by
    obtain ⟨h1, h2⟩ := lay2 rows
    obtain ⟨h3, h4⟩ := layI r
    have e1 : PyData.canLay0 (dI r) = true := by
      show PyData.canLay0 (.list (r.map PyData.int)) = true
      rw [PyData.canLay0, h3]
    have e2 : PyData.depth (dI r) = 1 := by
      show PyData.depth (.list (r.map PyData.int)) = 1
      rw [PyData.depth, h4]
    rw [List.map_cons, PyData.canLayAll0, PyData.depthAll, e1, e2, h1]
    exact ⟨rfl, by omega⟩
theorem shII (rows : List (List Int)) : SeqAt.shaped (.list (rows.map dI)) = true := by
  obtain ⟨h1, h2⟩ := lay2 rows
  have h3 : PyData.depth (.list (rows.map dI)) ≤ 64 := by
    rw [PyData.depth]
    omega
  unfold SeqAt.shaped
  rw [decide_eq_true h3, PyData.canLay0, h1]
  rfl
theorem anyI {Gs : List (List Int)} {G : List Int} (h : G ∈ Gs) : ((Gs.map dI).any fun z => PyData.eqv z (dI G)) = true :=
  List.any_eq_true.mpr ⟨dI G, List.mem_map.mpr ⟨G, h, rfl⟩, by rw [eqvL]; simp⟩
theorem D.da2 {bs : List Addr} {H : Hp} {w k : Nat} {p : Addr} {rows : List (List Int)} (h : D bs H w (k + 1) (.ref p) (dII rows)) : ∃ xs : List V, H p = some (.lst xs) ∧ p ∉ bs ∧ xs.length ≤ w ∧ xs.length = rows.length ∧ DA bs H w k xs (rows.map dI) := by
  cases h with
  | lst h n l t => exact ⟨_, h, n, l, by rw [DA.len t, List.length_map], t⟩
theorem dI1 {H : Hp} {w : Nat} {a : Addr} {r : List Int} (h : H a = some (.lst (r.map V.int))) (l : r.length ≤ w) (b : ∀ x ∈ r, x.natAbs < 2 ^ 39 + w) : D [] H w 1 (.ref a) (dI r) :=
  .lst h (by simp) (by rw [List.length_map]; exact l) (DA.ofInts b)
theorem nxt_in {rows steps past : List (List Int)} {ws st G : List Int} {c : Nat} (lr : ∀ r ∈ rows, r.length = c) (l1 : rows.length = c) (l2 : steps.length = c) (rg : ∀ g ∈ G, 0 ≤ g ∧ g < c) (fm : Fm rows steps ws st c G) (lp : past.length = ws.length) (rp : ∀ p ∈ past, RowIn (topsOf steps) st G c p) : RowIn (topsOf steps) st G c (nxt rows steps ws [] past) := by
  have e1 : past.map (hold []) = past := by
    rw [List.map_congr_left (g := id) fun p _ => hold_nil p, List.map_id]
  refine ⟨by rw [nxt_len (by omega)]; exact l1, fun j hj => ?_⟩
  obtain ⟨r, er⟩ : ∃ r, rows[j]? = some r := ⟨rows[j]'(by omega), by simp⟩
  obtain ⟨sr, es⟩ : ∃ sr, steps[j]? = some sr := ⟨steps[j]'(by omega), by simp⟩
  have pl := pull_le (ts := topsOf steps) (st := st) (G := G) (ws := ws) (lr r (List.mem_of_getElem? er)) lp rp
  have v := lean_val (ws := ws) er es fun p hp => (rp p hp).len
  rw [e1] at v
  have v' : (nxt rows steps ws [] past).getD j 0 = cnt sr (pullR ws past c r) := by
    rw [List.getD_eq_getElem?_getD, v]
    rfl
  rw [v']
  by_cases cc : (j : Int) ∈ G
  · rw [if_pos cc]
    have az := fm _ cc
    unfold stB endB at az
    rw [Int.toNat_natCast, rowD er, rowD es, Bool.and_eq_true] at az
    have a1 := of_decide_eq_true az.1
    have a2 := of_decide_eq_true az.2
    have m1 := cnt_mono (r := sr) pl.1
    have m2 := cnt_mono (r := sr) pl.2
    omega
  · rw [if_neg cc, tops_get es]
    unfold cnt
    have := List.length_filter_le (fun x => decide (x ≤ pullR ws past c r)) sr
    omega
theorem goR_in {rows steps past : List (List Int)} {ws st G : List Int} {c : Nat} (lr : ∀ r ∈ rows, r.length = c) (l1 : rows.length = c) (l2 : steps.length = c) (rg : ∀ g ∈ G, 0 ≤ g ∧ g < c) (fm : Fm rows steps ws st c G) (lp : past.length = ws.length) (rp : ∀ p ∈ past, RowIn (topsOf steps) st G c p) : ∀ n, ∀ p ∈ goR rows steps ws [] n past, RowIn (topsOf steps) st G c p
  | 0 => rp
  | n + 1 => fun p hp => by
    have ih := goR_in lr l1 l2 rg fm lp rp n
    rcases List.mem_append.mp hp with z | z
    · exact ih p z
    · rw [List.mem_singleton.mp z]
      have ln := goR_len (rows := rows) (steps := steps) (ws := ws) (fx := []) (f := past) n
      rw [← nxt_drop (i := n) (by omega)]
      exact nxt_in lr l1 l2 rg fm (by rw [List.length_drop]; omega) fun q hq => ih q (List.mem_of_mem_drop hq)
/-- who is held, outside a group -/
def FxOk (ts G : List Int) (c : Nat) (fx : List (Int × Int)) : Prop := ∀ q ∈ fx, q.1 ∉ G ∧ 0 ≤ q.1 ∧ q.1 < c ∧ 0 ≤ q.2 ∧ q.2 ≤ ts.getD q.1.toNat 0
theorem hold_in {ts st G p : List Int} {c : Nat} {fx : List (Int × Int)} (h : RowIn ts st G c p) (hf : FxOk ts G c fx) : RowIn ts st G c (hold fx p) := by
  refine ⟨by rw [hold_len]; exact h.len, fun j hj => ?_⟩
  have l := h.len
  have o := h.ok j hj
  have e : (hold fx p).getD j 0 = (lk fx (j : Int)).getD (p.getD j 0) := by
    unfold hold
    rw [List.getD_eq_getElem?_getD, List.getElem?_mapIdx, get_getD (show j < p.length by omega)]
    rfl
  rw [e]
  cases el : lk fx (j : Int) with
  | none => exact o
  | some v =>
    obtain ⟨f1, f2, f3, f4, f5⟩ := hf _ (lk_mem el)
    rw [if_neg f1]
    have : ((j : Int)).toNat = j := by omega
    rw [this] at f5
    exact ⟨f4, f5⟩
theorem nxt_hold {rows steps past : List (List Int)} {ws : List Int} {fx : List (Int × Int)} : nxt rows steps ws fx past = hold fx (nxt rows steps ws [] past) := by
  unfold nxt
  rw [hold_nil]
theorem swR_in {rows steps past : List (List Int)} {ws st G : List Int} {c : Nat} {fx : List (Int × Int)} (lr : ∀ r ∈ rows, r.length = c) (l1 : rows.length = c) (l2 : steps.length = c) (rg : ∀ g ∈ G, 0 ≤ g ∧ g < c) (fm : Fm rows steps ws st c G) (w1 : 1 ≤ ws.length) (lp : past.length = ws.length) (rp : ∀ p ∈ past, RowIn (topsOf steps) st G c p) (hf : FxOk (topsOf steps) G c fx) : ∀ n, ∀ p ∈ swR rows steps ws fx n past, RowIn (topsOf steps) st G c p
  | 0 => rp
  | n + 1 => fun p hp => by
    have ih := swR_in lr l1 l2 rg fm w1 lp rp hf n
    rcases List.mem_append.mp hp with z | z
    · exact ih p (List.mem_of_mem_drop z)
    · rw [List.mem_singleton.mp z, nxt_hold]
      exact hold_in (nxt_in lr l1 l2 rg fm (by rw [swR_len (by omega)]; exact lp) ih) hf
theorem Kp.hide {bs : List Addr} {H H1 H2 : Hp} {y : Addr} (k : Kp bs H H1) (k' : Kp (y :: bs) H1 H2) (f : H y = none) : Kp bs H H2 := fun p o e n => k' p o (k p o e n) (by
  have := ne_of_none e f
  simp only [List.mem_cons, not_or]
  exact ⟨this, n⟩)
theorem HallAt.fresh {bs : List Addr} {H : Hp} {w' : Nat} {x y : Addr} {rows steps : List (List Int)} {ws : List Int} (h : HallAt K bs H w' x rows steps ws) (f : H y = none) : HallAt K (y :: bs) H w' x rows steps ws := by
  obtain ⟨dx, a1, a2, a3, e, n, d1, d2, d3⟩ := h.ex
  refine ⟨dx, a1, a2, a3, e, ?_, d1.fresh f, d2.fresh f, d3.fresh f⟩
  simp only [List.mem_cons, not_or]
  exact ⟨ne_of_none e f, n⟩

end
end Sw

set_option maxHeartbeats 2000000
namespace Sw
open PySem PySem.Spec PyProof.Rows L2
section
variable {P : Program} {w : World} {K : PySem.W.Frag} {mg : Str → Option Value} {base : Heap}
theorem rg_len : ∀ {G : List Int} {lo c : Int}, G.Pairwise (· < ·) → (∀ g ∈ G, lo ≤ g ∧ g < c) → lo ≤ c → (G.length : Int) ≤ c - lo
  | [], lo, c, _, _, h => by simp; omega
  | x :: G, lo, c, pw, rg, h => by
    obtain ⟨h1, h2⟩ := List.pairwise_cons.mp pw
    have h3 := rg x (by simp)
    have := rg_len (lo := x + 1) (c := c) h2 (fun g hg => ⟨by have := h1 g hg; omega, (rg g (List.mem_cons_of_mem _ hg)).2⟩) (by omega)
    simp only [List.length_cons]
    omega
theorem Rg.len {c : Nat} {G : List Int} (h : Rg c G) : G.length ≤ c := by
  have := rg_len (lo := 0) (c := (c : Int)) h.pw h.rg (by omega)
  omega
theorem nd_inj {ks : List Int} (nd : ks.Nodup) {m j : Nat} (hm : m < ks.length) (hj : j < ks.length) (e : ks[m] = ks[j]) : m = j := by
  have pw := List.pairwise_iff_getElem.mp nd
  rcases Nat.lt_trichotomy m j with h | h | h
  · exact absurd e (pw m j hm hj h)
  · exact h
  · exact absurd e.symm (pw j m hj hm h)
theorem if_cut {c : TT} {A B : TS} {D : Ends} {σ : L2.St} {H : Hp} (Iv : Hp → Prop) (hB : ∀ H', Iv H' → B D σ H') (h : ∀ B' : TS, (∀ H', Iv H' → B' D σ H') → tIfS c A B' D σ H) : tIfS c A B D σ H := h B hB
theorem ints_refs {ks : List Int} {qs : List Addr} (h : ks.map V.int = qs.map V.ref) : qs = [] := by
  cases qs with
  | nil => rfl
  | cons q qs =>
    cases ks with
    | nil => cases h
    | cons k ks => injection h with h1 h2; cases h1
theorem SwAt.keepL {H H' : Hp} {y x g d ka : Addr} {n : Int} {fx : List (Int × Int)} {past : List (List Int)} {ks : List Int} (h : SwAt K H y x g d n fx past) (hk : H ka = some (.lst (ks.map V.int))) (l : 1 ≤ past.length) (k : Kp [ka] H H') : SwAt K H' y x g d n fx past := by
  obtain ⟨dx, hy⟩ := h.ex
  obtain ⟨qs, hd, aq⟩ := h.hd
  refine ⟨⟨dx, k _ _ hy fun z => ?_⟩, k _ _ h.hg fun z => ?_, qs, k _ _ hd fun z => ?_, aq.keep hk k⟩
  · rw [List.mem_singleton.mp z, hk] at hy
    cases hy
  · have := h.hg
    rw [List.mem_singleton.mp z, hk] at this
    cases this
  · rw [List.mem_singleton.mp z, hk] at hd
    have e : ks.map V.int = qs.map V.ref := by
      injection hd with h1
      injection h1
    have := ints_refs e
    have l2 := aq.len
    rw [this] at l2
    simp at l2
    omega
theorem erase_nd {ks : List Int} {j : Nat} {z : Int} (nd : ks.Nodup) (hj : ks[j]? = some z) : (ks.eraseIdx j).Nodup ∧ (∀ i, i ∈ ks.eraseIdx j ↔ i ≠ z ∧ i ∈ ks) := by
  obtain ⟨hl, e⟩ := List.getElem?_eq_some_iff.mp hj
  refine ⟨nd.sublist (List.eraseIdx_sublist ..), fun i => ?_⟩
  rw [List.mem_eraseIdx_iff_getElem]
  constructor
  · rintro ⟨m, hm, ne, em⟩
    refine ⟨fun c => ne ?_, by rw [← em]; exact List.getElem_mem hm⟩
    exact nd_inj nd hm hl (by rw [em, e, c])
  · rintro ⟨ne, hi⟩
    obtain ⟨m, hm, em⟩ := List.getElem_of_mem hi
    exact ⟨m, hm, fun c => ne (by subst c; rw [← em, e]), em⟩
def sp_lplayed (K : PySem.W.Frag) : Sp := fun vs H Q _ => ∃ (b x ra sa ma pa ca oa : Addr) (rows steps : List (List Int)) (ws st G O : List Int) (c n : Nat), vs = [.ref b, .ref x, .ref sa, .ref ma, .ref pa, .ref ca, .ref oa] ∧ Wd H b ra sa ma pa rows steps ws st c ∧ HallAt K [b] H 12 x rows steps ws ∧ H ca = some (.lst (G.map V.int)) ∧ ca ≠ b ∧ Rg c G ∧ Fm rows steps ws st c G ∧ H oa = some (.lst (O.map V.int)) ∧ oa ≠ b ∧ (∀ g ∈ O, 0 ≤ g ∧ g < c ∧ g ∉ G) ∧ O.length ≤ 12 ∧ Bx H b n ∧ n ≤ 600000 ∧
  ∀ (H' : Hp), Kp [b] H H' → Bx H' b (n + 100) → Q (.bl true) H'
theorem ok_lplayed (T : Tx K mg) (dfl : DfE K (kwAt ("Sway", some "__init__") "held" K)) : FnOk P w K mg base CX0 6 (He.fAd K ("_law_played_right", none)) T.fd__law_played_right p__law_played_right (sp_lplayed K) := by
  have G__law_some_past := ok_lsome (P := P) (w := w) (base := base) T
  have G__law_take := ok_take (P := P) (w := w) (base := base) T
  have G__law_stand_so := ok_lso (P := P) (w := w) (base := base) T
  have G_Sway___init__ := ok_winit (P := P) (w := w) (base := base) T
  have G_Sway_past := ok_wpast (P := P) (w := w) (base := base) T
  have G_Sway_beat := ok_wbeat (P := P) (w := w) (base := base) T
  have G_Sway_hold := ok_whold (P := P) (w := w) (base := base) T
  have G_Sway_loose := ok_wloose (P := P) (w := w) (base := base) T
  obtain ⟨dsS, rdS, bqS⟩ := bq_sway T.F_Sway___init__
  obtain ⟨dsB, rdB, bqB⟩ := bq_beat T.F_Sway_beat
  refine T.F__law_played_right.ok sc__law_played_right (fun vs H Q E h => ?_) (fun cdv A outer s H vs Q E hr h => ?_)
  · obtain ⟨_, _, _, _, _, _, _, _, _, _, _, _, _, _, _, _, rfl, _⟩ := h
    rfl
  · obtain ⟨b, x, ra, sa, ma, pa, ca, oa, rows, steps, ws, st, G, O, c, n, rfl, W, hA, hca, ncb, rg, fm, hoa, nob, og, lO, hB, hn, q⟩ := h
    refine ⟨_, PSs.nox (pss_cons (ps_par (i := 8) (j := 9) (by rfl) sc__law_played_right.nd rfl rfl (by decide) rfl rfl (pa_cons (pe_make T.mk_Sway G_Sway___init__ (hr.mono (by first | decide | omega)) rfl T.g_Sway bqS rdS pass0 (pa_cons (pv 1) (pa_cons (pe_call G__law_some_past (hr.mono (by first | decide | omega)) rfl T.g__law_some_past T.F__law_some_past.kp T.bd__law_some_past .nil pass0 (pa_cons (pv 0) (pa_cons (pv 2) (pa_cons (pv 3) (pa_cons (pv 4) (pa_cons (pv 5) pa_nil)))))) pa_nil))) (pa_cons (pe_lst pa_nil) pa_nil)) (by rfl))
      (pss_cons (ps_for PassesOwn.never rfl (pi_range1 (by rfl) T.b_range (pa_cons pe_int pa_nil)) (pg_name (i := 7) sc__law_played_right.nd rfl (by first | exact Or.inl rfl | exact Or.inr rfl))
      (pss_cons (ps_if (pt_cmpR (op_neD hr.units) (pv 6) (pe_lst pa_nil) (nomark _))
      (pss_cons (ps_set (i := 10) sc__law_played_right.nd rfl (by first | exact Or.inl rfl | exact Or.inr rfl) (pe_ix ix_list (pv 6) (pe_call G__law_take (hr.mono (by first | decide | omega)) rfl T.g__law_take T.F__law_take.kp T.bd__law_take .nil pass0 (pa_cons (pv 0) (pa_cons (pe_callB call_len (by rfl) T.b_len (by decide +kernel) (pa_cons (pv 6) pa_nil)) pa_nil))) (fun _ _ => rfl)))
      (pss_one (ps_if (PW.pt (pw_and (pt_cmpR (kIn (K := K) rfl) (pv 10) (pv 9) rfl) (pw_and1 (pt_cmpR op_eq (pe_call G__law_take (hr.mono (by first | decide | omega)) rfl T.g__law_take T.F__law_take.kp T.bd__law_take .nil pass0 (pa_cons (pv 0) (pa_cons pe_int pa_nil))) pe_int (nomark _)))))
      (pss_cons (ps_expr (pe_bm PySem.F.plainAttrs_list PySem.F.slot_list_remove PySem.F.type_list_remove mt_remove (pv 9) (pa_cons (pv 10) pa_nil)))
      (pss_one (ps_expr (pe_meth (pv 8) T.cl_Sway T.m_Sway_loose G_Sway_loose (hr.mono (by first | decide | omega)) T.bd_Sway_loose .nil pass0 (pa_cons (pv 10) pa_nil)))))
      (pss_cons (ps_set (i := 9) sc__law_played_right.nd rfl (by first | exact Or.inl rfl | exact Or.inr rfl) (pe_op op_cat (pe_lc (own := [("_law_other", 11)]) (g := (gName 11)) rfl sc__law_played_right.nd (pi_list (pv 9)) (blkOk_by (own := [("_law_other", 11)]) (N := n__law_played_right) (sc := defScope s__law_played_right) (by decide +kernel)) (fun _ _ _ _ _ => (pg_name (i := 11) sc__law_played_right.nd rfl (by first | exact Or.inl rfl | exact Or.inr rfl))) (fun _ _ _ _ _ => pts_one (pt_cmpR op_ne (pv 11) (pv 10) (nomark _))) (fun _ _ _ _ _ => (pv 11))) (pe_lst (pa_cons (pv 10) pa_nil))))
      (pss_one (ps_expr (pe_meth (pv 8) T.cl_Sway T.m_Sway_hold G_Sway_hold (hr.mono (by first | decide | omega)) T.bd_Sway_hold .nil pass0 (pa_cons (pv 10) (pa_cons (pe_call G__law_take (hr.mono (by first | decide | omega)) rfl T.g__law_take T.F__law_take.kp T.bd__law_take .nil pass0 (pa_cons (pv 0) (pa_cons (pe_op op_add (pe_callB call_len (by rfl) T.b_len (by decide +kernel) (pa_cons (pe_ix ix_list (pv 2) (pv 10) (fun _ _ => rfl)) pa_nil)) pe_int) pa_nil))) pa_nil)))))))))
      pss_nil)
      (pss_one (ps_if (pt_not (pt_val (pe_call G__law_stand_so (hr.mono (by first | decide | omega)) rfl T.g__law_stand_so T.F__law_stand_so.kp T.bd__law_stand_so .nil pass0 (pa_cons (pe_lst (pa_cons (pe_meth0 (pv 8) T.cl_Sway T.m_Sway_beat G_Sway_beat (hr.mono (by first | decide | omega)) bqB rdB pass0) pa_nil)) (pa_cons (pv 4) (pa_cons (pv 5) pa_nil))))))
      (pss_one (ps_ret pe_bl))
      pss_nil))))
      (pss_one (ps_ret (pe_call G__law_stand_so (hr.mono (by first | decide | omega)) rfl T.g__law_stand_so T.F__law_stand_so.kp T.bd__law_stand_so .nil pass0 (pa_cons (pe_meth0 (pv 8) T.cl_Sway T.m_Sway_past G_Sway_past (hr.mono (by first | decide | omega)) T.bd_Sway_past .nil pass0) (pa_cons (pv 4) (pa_cons (pv 5) pa_nil)))))))), ?_⟩
    have c12 := W.c12
    have hls := W.ls
    have hlr := W.lr
    have hlt := W.lst
    have w1 := W.wt.l1
    have w5 := W.wt.l5
    have lG := rg.len
    have BW : Bd 1000 ws := Bd.up (a := 9) (c := 1000) W.wt.bd (by decide)
    have BR : ∀ r ∈ rows, Bd 1000 r := fun r hr => Bd.up (a := 20) (c := 1000) (W.row r hr).2 (by decide)
    refine ⟨_, rfl, _, rfl, _, rfl, _, rfl, _, rfl, _, rfl, b, ra, sa, ma, pa, ca, rows, steps, ws, st, G, c, n, rfl, W, hca, ncb, hB, by omega, fun p past H1 fp k1 hP lp rp hB1 => fun y dx0 fy fdx nyd => ?_⟩
    have fy2 : (upd H1 dx0 (.own y)) y = none := by
      rw [upd_ne nyd.symm]
      exact fy
    have km : Kp [] H1 (upd (upd H1 dx0 (.own y)) y (.ins (CS K) dx0 [])) := (Kp.rfl'.new fdx).new fy2
    have kY : ∀ H', Kp [y] (upd (upd H1 dx0 (.own y)) y (.ins (CS K) dx0 [])) H' → Kp [] H1 H' := fun H' k a o e _ => k a o (km a o e (by simp)) (by simpa using ne_of_none e fy)
    have e1 : past.map (hold []) = past := by
      rw [List.map_congr_left (g := id) fun p _ => hold_nil p, List.map_id]
    refine ⟨y, dx0, x, p, _, false, past, [], rfl, upd_same, fun H' k => (hP.keep (kY H' k)).past, fun H' k => dfl.pairs H', by simp, by decide, by omega, fun r hr => by have := (rp r hr).len; omega, fun g d H2 fg fd k2 S2 => ⟨rfl, ?_⟩⟩
    rw [e1] at S2
    have k12 := kY H2 k2
    have k02 : Kp [b] H H2 := k1.trans (k12.sub (by simp))
    have fg1 : H1 g = none := km.free fg (by simp)
    have fgH : H g = none := k1.free fg1 (by simpa using hB1.off fg1)
    have fyH : H y = none := k1.free fy (by simpa using hB1.off fy)
    have hB2 := hB1.keep k12 (by simp)
    clear fp hP km kY k2 k12 fg fd fdx nyd fy2
    refine ⟨Nat.zero_le _, fun ka0 hka0 => ⟨_, _, rfl, ?_⟩⟩
    have k3 : Kp [] H2 (upd H2 ka0 (.lst [])) := Kp.rfl'.new hka0
    have hka3 : (upd H2 ka0 (.lst [])) ka0 = some (.lst (([] : List Int).map V.int)) := upd_same
    have S3 := S2.keep k3
    have hB3 := hB2.keep k3 (by simp)
    have k03 := k02.trans (k3.sub (by simp))
    have fka0 : H ka0 = none := k02.free hka0 (by simpa using hB2.off hka0)
    generalize upd H2 ka0 (.lst []) = H3 at hka3 S3 hB3 k03 ⊢
    clear k3 S2 hB2 k02 hka0 k1 hB1
    have hall : ∀ H', Kp [b] H H' → HallAt K [g, y, b] H' 12 x rows steps ws := fun H' k => ((hA.fresh fyH).fresh fgH).keep (k.sub (by simp))
    refine nx_of ⟨8, rfl, by decide, by decide, for_range (n := 8) (fun i σ H4 => ∃ (o7 o10 : Option V) (d ka : Addr) (m : Int) (ks : List Int) (fx : List (Int × Int)) (F : List (List Int)), σ = [some (.ref b), some (.ref x), some (.ref sa), some (.ref ma), some (.ref pa), some (.ref ca), some (.ref oa), o7, some (.ref y), some (.ref ka), o10, none] ∧ H4 ka = some (.lst (ks.map V.int)) ∧ H ka = none ∧ ks.Nodup ∧ (∀ i, i ∈ ks ↔ i ∈ fx.map (·.1)) ∧ FxOk (topsOf steps) G c fx ∧ fx.length ≤ i ∧ ks.length ≤ i ∧ SwAt K H4 y x g d m fx F ∧ F.length = ws.length ∧ (∀ p ∈ F, RowIn (topsOf steps) st G c p) ∧ Bx H4 b (n + 60 + 3 * i) ∧ Kp [b] H H4) ?_ ?_ ?_⟩
    · exact ⟨_, _, d, ka0, 0, [], [], past, rfl, hka3, fka0, by simp, by simp, fun q hq => by simp at hq, by simp, by simp, S3, lp, rp, hB3, k03⟩
    · rintro i σ H4 hi ⟨o7, o10, d, ka, m, ks, fx, F, rfl, hka, fka, nd, kf, fxo, lfx, lks, S4, lF, rF, hB4, k4⟩
      refine gn ?_
      refine seq_cut (fun σ H5 => ∃ (o10 : Option V) (ka : Addr) (ks : List Int) (fx : List (Int × Int)), σ = [some (.ref b), some (.ref x), some (.ref sa), some (.ref ma), some (.ref pa), some (.ref ca), some (.ref oa), some (.int (0 + (i : Int))), some (.ref y), some (.ref ka), o10, none] ∧ H5 ka = some (.lst (ks.map V.int)) ∧ H ka = none ∧ ks.Nodup ∧ (∀ i, i ∈ ks ↔ i ∈ fx.map (·.1)) ∧ FxOk (topsOf steps) G c fx ∧ fx.length ≤ i + 1 ∧ ks.length ≤ i + 1 ∧ SwAt K H5 y x g d m fx F ∧ Bx H5 b (n + 60 + 3 * i + 3) ∧ Kp [b] H H5) ?_ fun nx hnx => ?_
      · rintro σ H5 ⟨o10, ka, ks, fx, rfl, hka, fka, nd, kf, fxo, lfx, lks, S5, hB5, k5⟩
        obtain ⟨dx, hy⟩ := S5.ex
        refine ⟨_, rfl, y, dx, _, rfl, hy, fldW_no _ _ _ _ (by decide +kernel) (by decide +kernel) (by decide +kernel) (by decide +kernel), y, x, g, d, m, 1, fx, F, rows, steps, ws, [g, y, b], 12, c, rfl, by decide, S5, hall H5 k5, by simp, by omega, by omega, fun r hr => (rF r hr).len, hlr, hls, by omega, by decide, BW, BR, fun d' u R H6 k6 S6 RF hu _ => ?_⟩
        have rS := swR_in (fun r hr => (W.row r hr).1) hlr hls rg.rg fm w1 lF rF fxo 1
        have lS := swR_len (rows := rows) (steps := steps) (ws := ws) (fx := fx) (F := F) (by omega) 1
        have k06 : Kp [b] H H6 := k5.hide (k6.sub (by simp)) fyH
        have hka6 := k6 _ _ hka (by
          have : ka ≠ y := fun z => by
            rw [z, hy] at hka
            cases hka
          simpa using this)
        have nyb : b ≠ y := by
          obtain ⟨_, eb⟩ := hB.at'
          exact ne_of_none eb fyH
        have hB6 := hB5.keep k6 (by simpa using nyb)
        refine ⟨by show 1 ≤ sizeLine; decide, fun l hl => ?_⟩
        have k7 : Kp [] H6 (upd H6 l (.lst [V.ref u])) := Kp.rfl'.new hl
        have hl7 : (upd H6 l (.lst [V.ref u])) l = some (.lst (([u] : List Addr).map V.ref)) := upd_same
        generalize upd H6 l (.lst [V.ref u]) = H7 at k7 hl7 ⊢
        have k07 := k06.trans (k7.sub (by simp))
        have a7 : AsAt H7 [u] [R] := ⟨rfl, fun k t s e1 e2 => by
          cases k with
          | zero =>
            cases (show some u = some t from e1)
            cases (show some R = some s from e2)
            exact k7 _ _ hu (by simp)
          | succ k => simp at e1⟩
        refine ⟨_, rfl, _, rfl, l, pa, ca, [u], [R], topsOf steps, st, G, c, rfl, hl7, a7, (W.keep k07).hp, k07 _ _ hca (by simpa using ncb), hlt, c12, by simp, by omega, rg.rg, fun p hp => ?_, fun H8 k8 => ⟨_, rfl, iteN (by rfl) ?_⟩⟩
        · rw [List.mem_singleton.mp hp]
          exact rS R RF
        · have k78 := k7.trans k8
          exact ⟨_, _, d', ka, _, ks, fx, _, rfl, k78 _ _ hka6 (by simp), fka, nd, kf, fxo, lfx, lks, S6.keep k78, by rw [lS]; exact lF, rS, (hB6.keep k78 (by simp)).up (by omega), k06.trans (k78.sub (by simp))⟩
      · have hoa4 := k4 _ _ hoa (by simpa using nob)
        have dO : D [] H4 40 1 (.ref oa) (dI O) := dI1 hoa4 (by omega) fun z hz => by have := og z hz; omega
        refine ⟨_, rfl, Nat.zero_le _, fun e he => ?_⟩
        have k5 : Kp [] H4 (upd H4 e (.lst [])) := Kp.rfl'.new he
        have dE : D [] (upd H4 e (.lst [])) 40 1 (.ref e) (dI []) := .lst upd_same (by simp) (by simp) .nil
        generalize upd H4 e (.lst []) = H5 at k5 dE ⊢
        refine ⟨_, _, (dO.keep k5).dp, dE.dp, shL O, shL [], _, rfl, ?_⟩
        rw [eqvL]
        have S5 := S4.keep k5
        have hka5 := k5 _ _ hka (by simp)
        have hB5 := hB4.keep k5 (by simp)
        have k05 := k4.trans (k5.sub (by simp))
        by_cases cO : O = []
        · refine iteN (by simp [cO]) ?_
          exact hnx _ _ ⟨_, ka, ks, fx, rfl, hka5, fka, nd, kf, fxo, by omega, by omega, S5, hB5.up (by omega), k05⟩
        · refine iteC (by simp [cO]) ?_
          have lO1 : 0 < O.length := List.length_pos_iff.mpr cO
          have hoa5 := k5 _ _ hoa4 (by simp)
          refine ⟨_, rfl, _, rfl, _, rfl, _, O.length, rfl, .inl ⟨_, SqL.of hoa5, (List.length_map ..).symm⟩, b, _, _, rfl, hB5, by omega, by omega, by omega, fun r H6 r0 r1 hB6 k6 => ?_⟩
          obtain ⟨rn, rfl⟩ : ∃ k : Nat, r = (k : Int) := ⟨r.toNat, by omega⟩
          obtain ⟨z, hz⟩ : ∃ z, O[rn]? = some z := ⟨O[rn]'(by omega), by simp⟩
          obtain ⟨z0, z1, zG⟩ := og z (List.mem_of_getElem? hz)
          obtain ⟨zn, rfl⟩ : ∃ k : Nat, z = (k : Int) := ⟨z.toNat, by omega⟩
          refine ⟨oa, _, _, .int (zn : Nat), rfl, rfl, SqL.of (k6 _ _ hoa5 (by simpa using nob)), atI_nat (by rw [List.getElem?_map, hz]; rfl), gn ?_⟩
          have k06 := k05.trans k6
          have nbk : ka ≠ b := fun w => by
            obtain ⟨_, eb⟩ := hB.at'
            rw [← w, fka] at eb
            cases eb
          have nbg : b ≠ g := by
            obtain ⟨_, eb⟩ := hB.at'
            exact ne_of_none eb fgH
          have hka6 := k6 _ _ hka5 (by simpa using nbk)
          have SB : ∀ {Ha Hb : Hp}, SwAt K Ha y x g d m fx F → Bx Ha b (n + 1000) → Kp [b] Ha Hb → SwAt K Hb y x g d m fx F := fun {Ha Hb} S hb k => by
            obtain ⟨_, _, _, eb, _⟩ := hb.ex
            exact S.keepL (ks := [_, _, _]) eb (by omega) k
          have S6 := SB S5 (hB5.up (by omega)) k6
          have hW : ∀ {H'}, Kp [b] H H' → Wd H' b ra sa ma pa rows steps ws st c := fun k => W.keep k
          obtain ⟨sr, es⟩ : ∃ sr, steps[zn]? = some sr := ⟨steps[zn]'(by omega), by simp⟩
          refine nx_of ?_
          refine if_cut (fun H7 => H7 ka = some (.lst (ks.map V.int)) ∧ SwAt K H7 y x g d m fx F ∧ Bx H7 b (n + 60 + 3 * i + 2) ∧ Kp [b] H H7) ?_ fun B' hB' => ?_
          · rintro H7 ⟨hka7, S7, hB7, k07⟩
            refine ⟨_, rfl, ka, rfl, ⟨_, SqL.of hka7⟩, fun d1 hd1 => lc_list (K := K) (a := ka) (xs := ks.map V.int) (fun j H8 => H8 d1 = some (.lst (((ks.take j).filter fun x => !decide (x = (zn : Int))).map V.int)) ∧ Kp [] H7 H8) ?_ ?_ ?_ ?_⟩
            · exact ⟨by rw [upd_same]; rfl, Kp.rfl'.new hd1⟩
            · rintro j H8 _ ⟨_, k8⟩
              exact SqL.of (k8 _ _ hka7 (by simp))
            · rintro j v H8 hj ⟨h8, k8⟩
              rw [List.getElem?_map] at hj
              obtain ⟨v, hv, rfl⟩ := Option.map_eq_some_iff.mp hj
              have e2 : ks.take (j + 1) = ks.take j ++ [v] := by rw [List.take_add_one, hv]; rfl
              refine ⟨rfl, _, rfl, _, rfl, rfl, _, rfl, ?_⟩
              by_cases cc : v = (zn : Int)
              · refine iteN (by simp [cc]) ⟨?_, k8⟩
                rw [h8, e2, List.filter_append]
                simp [cc]
              · refine iteC (by simp [cc]) ⟨_, rfl, _, h8, ?_, ?_, k8.own hd1⟩
                · rw [List.length_map]
                  exact small1000 (Nat.le_trans (List.length_filter_le ..) (by rw [List.length_take]; omega))
                · rw [upd_same, e2, List.filter_append]
                  simp [cc]
            rintro H8 ⟨h8, k8⟩
            rw [List.length_map, List.take_length] at h8
            have lf := List.length_filter_le (fun x => !decide (x = (zn : Int))) ks
            refine ⟨_, rfl, by show 1 ≤ sizeLine; decide, fun l hl => ⟨d1, l, _, _, rfl, rfl, by rw [upd_ne (ne_of_none h8 hl)]; exact h8, upd_same, small1000 (by rw [List.length_map]; omega), fun k2 hk2 => gn ?_⟩⟩
            have k9 : Kp [] H8 (upd (upd H8 l (.lst [.int (zn : Nat)])) k2 (.lst ((ks.filter fun x => !decide (x = (zn : Int))).map V.int ++ [.int (zn : Nat)]))) := (Kp.rfl'.new hl).new hk2
            have hk9 : (upd (upd H8 l (.lst [.int (zn : Nat)])) k2 (.lst ((ks.filter fun x => !decide (x = (zn : Int))).map V.int ++ [.int (zn : Nat)]))) k2 = some (.lst ((ks.filter (fun x => !decide (x = (zn : Int))) ++ [(zn : Int)]).map V.int)) := by rw [upd_same, ints_snoc]
            have fk2 : H8 k2 = none := (Kp.rfl'.new hl : Kp [] H8 (upd H8 l (.lst [.int (zn : Nat)]))).free hk2 (by simp)
            generalize upd (upd H8 l (.lst [.int (zn : Nat)])) k2 (.lst ((ks.filter fun x => !decide (x = (zn : Int))).map V.int ++ [.int (zn : Nat)])) = H9 at k9 hk9 ⊢
            have k79 := k8.trans k9
            have k09 := k07.trans (k79.sub (by simp))
            have S9 := S7.keep k79
            have hB9 := hB7.keep k79 (by simp)
            obtain ⟨dx, hy9⟩ := S9.ex
            obtain ⟨xs9, hsa9, _, _, _, als9⟩ := (hW k09).ds.rowII
            obtain ⟨o, go, ho, _, _⟩ := als9 zn sr es
            have sr4 := (W.step sr (List.mem_of_getElem? es)).1.l4
            have fk2H : H k2 = none := (k07.trans (k8.sub (by simp))).free fk2 (by simpa using (hB7.keep k8 (by simp)).off fk2)
            have nk2b : k2 ≠ b := (hB7.keep k8 (by simp)).off fk2
            refine nx_of ⟨_, rfl, y, dx, _, rfl, hy9, fldW_no _ _ _ _ (by decide +kernel) (by decide +kernel) (by decide +kernel) (by decide +kernel), _, rfl, _, rfl, _, rfl, _, rfl, sa, _, _, .ref o, rfl, rfl, SqL.of hsa9, atI_nat go, _, sr.length, rfl, .inl ⟨_, SqL.of ho, (List.length_map ..).symm⟩, _, _, rfl, rfl, b, _, _, rfl, hB9, by omega, by omega, by omega, fun v HA v0 v1 hBA kA => ?_⟩
            have SA := SB S9 (hB9.up (by omega)) kA
            have k0A := k09.trans kA
            refine ⟨y, x, g, d, m, zn, v, sr.length, fx, F, rows, steps, ws, [g, y, b], 12, rfl, SA, hall HA k0A, by omega, by omega, by decide, by unfold topsOf; rw [List.getElem?_map, es]; rfl, v0, by omega, by omega, by omega, fun HB kB SB' => ?_⟩
            have hkA := kA _ _ hk9 (by simpa using nk2b)
            refine hnx _ _ ⟨_, k2, _, _, rfl, kB _ _ hkA ?_, fk2H, ?_, fun j => ?_, fun q hq => ?_, by have := putI_len fx zn v; omega, by rw [List.length_append]; simp; omega, SB', (hBA.keep kB (by simpa using nbg)).up (by omega), k0A.hide (kB.sub (by simp)) fgH⟩
            · have : k2 ≠ g := fun w => by
                have e := SA.hg
                rw [← w, hkA] at e
                cases e
              simpa using this
            · refine List.nodup_append.mpr ⟨nd.sublist List.filter_sublist, by simp, fun a ha b hb => ?_⟩
              rw [List.mem_singleton.mp hb]
              have := (List.mem_filter.mp ha).2
              simpa using this
            · rw [putI_has, List.mem_append, List.mem_filter, List.mem_singleton, kf]
              constructor
              · rintro (h | h)
                · exact .inr h.1
                · exact .inl h
              · rintro (h | h)
                · exact .inr h
                · by_cases cz : j = (zn : Int)
                  · exact .inr cz
                  · exact .inl ⟨h, by simpa using cz⟩
            · rcases putI_mem hq with h | h
              · rw [h]
                refine ⟨zG, z0, z1, v0, ?_⟩
                show v ≤ (topsOf steps).getD ((zn : Int)).toNat 0
                rw [show ((zn : Int)).toNat = zn by omega, tops_get es]
                omega
              · exact fxo q h
          · refine ⟨_, rfl, _, rfl, ka, _, rfl, .inl (SqL.of hka6), rfl, flat_ints _, _, rfl, ?_⟩
            rw [inV_ints]
            refine ite2 (fun cc => ?_) (fun cc => ?_)
            · have zk : (zn : Int) ∈ ks := by simpa using cc
              refine ⟨_, rfl, b, 2, _, rfl, hB6, by omega, by omega, by omega, fun r2 H7 r20 r21 hB7 k7 => ⟨rfl, _, rfl, ?_⟩⟩
              have hka7 := k7 _ _ hka6 (by simpa using nbk)
              have S7 := SB S6 (hB6.up (by omega)) k7
              have k07 := k06.trans k7
              by_cases cr : r2 = 0
              · refine iteC (by simp [cr]) ?_
                obtain ⟨j, hj, ej⟩ := List.getElem_of_mem zk
                have hj? : ks[j]? = some (zn : Int) := by rw [List.getElem?_eq_getElem hj, ej]
                obtain ⟨ed1, ed2⟩ := erase_nd nd hj?
                refine ⟨_, rfl, .inl ⟨rfl, _, SqL.of hka7⟩, _, rfl, ka, ks, (zn : Int), j, rfl, rfl, hka7, hj?, fun mm hm' e => ?_, ?_⟩
                · obtain ⟨ml, em⟩ := List.getElem?_eq_some_iff.mp e
                  have := nd_inj nd ml hj (by rw [em, ej])
                  omega
                have k8 : Kp [ka] H7 (upd H7 ka (.lst ((ks.eraseIdx j).map V.int))) := Kp.rfl'.put (by simp)
                have hk8 : (upd H7 ka (.lst ((ks.eraseIdx j).map V.int))) ka = some (.lst ((ks.eraseIdx j).map V.int)) := upd_same
                generalize upd H7 ka (.lst ((ks.eraseIdx j).map V.int)) = H8 at k8 hk8 ⊢
                have S8 := S7.keepL hka7 (by omega) k8
                have k08 : Kp [b] H H8 := k07.hide (k8.sub (by simp)) fka
                have hB8 := hB7.keep k8 (by simpa using nbk.symm)
                obtain ⟨dx, hy8⟩ := S8.ex
                refine nx_of ⟨_, rfl, y, dx, _, rfl, hy8, fldW_no _ _ _ _ (by decide +kernel) (by decide +kernel) (by decide +kernel) (by decide +kernel), _, rfl, y, x, g, d, m, zn, fx, F, rows, steps, ws, [g, y, b], 12, rfl, S8, hall H8 k08, by omega, by omega, (kf _).mp zk, fun HB kB SB' => ?_⟩
                have le := List.length_eraseIdx_le ks j
                have ld : (dropI fx zn).length ≤ fx.length := List.length_filter_le ..
                refine hnx _ _ ⟨_, ka, ks.eraseIdx j, dropI fx (zn : Int), rfl, kB _ _ hk8 ?_, fka, ed1, fun jj => ?_, fun q hq => fxo q (List.mem_filter.mp hq).1, by omega, by omega, SB', (hB8.keep kB (by simpa using nbg)).up (by omega), k08.hide (kB.sub (by simp)) fgH⟩
                · have : ka ≠ g := fun w => by
                    have e := S8.hg
                    rw [← w, hk8] at e
                    cases e
                  simpa using this
                · rw [ed2, dropI_has, kf]
              · refine iteN (by simp [cr]) ?_
                exact hB' H7 ⟨hka7, S7, hB7.up (by omega), k07⟩
            · refine iteN (by rfl) ?_
              exact hB' H6 ⟨hka6, S6, hB6.up (by omega), k06⟩
    · rintro σ H4 ⟨o7, o10, d, ka, m, ks, fx, F, rfl, hka, fka, nd, kf, fxo, lfx, lks, S4, lF, rF, hB4, k4⟩
      obtain ⟨dx, hy⟩ := S4.ex
      refine ⟨_, rfl, y, dx, _, rfl, hy, fldW_no _ _ _ _ (by decide +kernel) (by decide +kernel) (by decide +kernel) (by decide +kernel), y, x, g, d, m, fx, F, rfl, S4, fun l H5 qs fl k5 hl aq => ?_⟩
      have k05 := k4.trans (k5.sub (by simp))
      exact ⟨_, rfl, _, rfl, l, pa, ca, qs, F, topsOf steps, st, G, c, rfl, hl, aq, (W.keep k05).hp, k05 _ _ hca (by simpa using ncb), hlt, c12, by omega, by omega, rg.rg, rF, fun H6 k6 => q H6 (k05.trans (k6.sub (by simp))) ((hB4.keep (k5.trans k6) (by simp)).up (by omega))⟩

end
end Sw

set_option maxHeartbeats 2000000
namespace Sw
open PySem PySem.Spec PyProof.Rows L2
section
variable {P : Program} {w : World} {K : PySem.W.Frag} {mg : Str → Option Value} {base : Heap}
/-- each but once -/
theorem nd_of {gs : List Int} (h : ∀ (k : Nat) (g : Int), gs[k]? = some g → g ∉ gs.take k) : ∀ k, (gs.take k).Nodup
  | 0 => by simp
  | k + 1 => by
    have ih := nd_of h k
    rw [List.take_add_one]
    cases e : gs[k]? with
    | none => simpa using ih
    | some g =>
      refine List.nodup_append.mpr ⟨ih, by simp, fun a ha b hb => ?_⟩
      have hb : b = g := by simpa using hb
      rw [hb]
      intro z
      exact h k g e (by rw [← z]; exact ha)
theorem lk_map {ks : List Int} {f : Int → Int} {i : Int} (h : i ∈ ks) : lk (ks.map fun o => (o, f o)) i = some (f i) := by
  induction ks with
  | nil => simp at h
  | cons k ks ih =>
    unfold lk
    rw [List.map_cons, List.find?_cons]
    by_cases c : k = i
    · simp [c]
    · rw [decide_eq_false c]
      have := ih (by
        rcases List.mem_cons.mp h with z | z
        · exact absurd z.symm c
        · exact z)
      unfold lk at this
      exact this
theorem RowIn.bd {steps : List (List Int)} {st G p : List Int} {c : Nat} (h : RowIn (topsOf steps) st G c p) (hs : ∀ j, j < c → 0 ≤ st.getD j 0 ∧ st.getD j 0 ≤ (topsOf steps).getD j 0) (ls : steps.length = c) (l4 : ∀ r ∈ steps, r.length ≤ 4) : ∀ j, j < c → 0 ≤ p.getD j 0 ∧ p.getD j 0 ≤ 4 := fun j hj => by
  have o := h.ok j hj
  have s := hs j hj
  obtain ⟨sr, es⟩ : ∃ sr, steps[j]? = some sr := ⟨steps[j]'(by omega), by simp⟩
  have := l4 sr (List.mem_of_getElem? es)
  rw [tops_get es] at o s
  split at o <;> omega
def sp_lmoved (K : PySem.W.Frag) : Sp := fun vs H Q _ => ∃ (b x ra sa ma pa fo : Addr) (rows steps : List (List Int)) (ws st : List Int) (c : Nat) (ts : List Addr) (gs : List Int), vs = [.ref x, .ref ra, .ref sa, .ref ma, .ref pa, .ref fo] ∧ Wd H b ra sa ma pa rows steps ws st c ∧ HallAt K [b] H 12 x rows steps ws ∧ H fo = some (.lst (ts.map V.ref)) ∧ Mv rows steps ws st c [] H ts gs ∧ gs.length ≤ 900 ∧ (∀ j, j < c → 0 ≤ st.getD j 0 ∧ st.getD j 0 ≤ (topsOf steps).getD j 0) ∧
  ∀ (H' : Hp), Kp [] H H' → Q (.bl true) H'
theorem ok_lmoved (T : Tx K mg) (dfl : DfE K (kwAt ("lean", none) "held" K)) : FnOk P w K mg base CX0 6 (He.fAd K ("_law_moved_right", none)) T.fd__law_moved_right p__law_moved_right (sp_lmoved K) := by
  have G_lean := ok_lean (P := P) (w := w) (base := base) T
  have G__law_leaned := ok_leaned (P := P) (w := w) (base := base) T
  obtain ⟨dsN, rdN, bqN⟩ := bq_lean T.F_lean
  refine T.F__law_moved_right.ok sc__law_moved_right (fun vs H Q E h => ?_) (fun cdv A outer s H vs Q E hr h => ?_)
  · obtain ⟨_, _, _, _, _, _, _, _, _, _, _, _, _, _, rfl, _⟩ := h
    rfl
  · obtain ⟨b, x, ra, sa, ma, pa, fo, rows, steps, ws, st, c, ts, gs, rfl, W, hA, hfo, mv, l9, hs, q⟩ := h
    refine ⟨_, PSs.nox (pss_cons (ps_set (i := 6) sc__law_moved_right.nd rfl (by first | exact Or.inl rfl | exact Or.inr rfl) (pe_lst pa_nil))
      (pss_cons (ps_for PassesOwn.never rfl (pi_list (pv 5)) (pg_tup rfl (pgs_cons (pg_name (i := 7) sc__law_moved_right.nd rfl (by first | exact Or.inl rfl | exact Or.inr rfl)) (pgs_cons (pg_name (i := 8) sc__law_moved_right.nd rfl (by first | exact Or.inl rfl | exact Or.inr rfl)) pgs_nil)))
      (pss_cons (ps_set (i := 9) sc__law_moved_right.nd rfl (by first | exact Or.inl rfl | exact Or.inr rfl) (pe_call G_lean (hr.mono (by first | decide | omega)) rfl T.g_lean T.F_lean.kp bqN rdN pass0 (pa_cons (pv 0) (pa_cons (pv 8) pa_nil))))
      (pss_cons (ps_if (PW.pt (pw_or (pt_cmpR op_eq (pe_ix ix_tup (pv 9) (pv 7) (fun _ _ => rfl)) (pe_ix ix_tup (pv 4) (pv 7) (fun _ _ => rfl)) (nomark _)) (pw_or1 (pt_cmpR (op_neD hr.units) (pe_call G__law_leaned (hr.mono (by first | decide | omega)) rfl T.g__law_leaned T.F__law_leaned.kp T.bd__law_leaned .nil pass0 (pa_cons (pv 1) (pa_cons (pv 2) (pa_cons (pv 3) (pa_cons (pv 8) pa_nil))))) (pv 9) (nomark _)))))
      (pss_one (ps_ret pe_bl))
      pss_nil)
      (pss_cons (ps_setLc (i := 10) (own := [("_law_other", 11)]) (g := (gName 11)) (tt := tYes) rfl sc__law_moved_right.nd rfl rfl (sw_true rfl rfl rfl (by decide +kernel)) (pi_list (pv 6)) (blkOk_by (own := [("_law_other", 11)]) (N := n__law_moved_right) (sc := defScope s__law_moved_right) (by decide +kernel)) (fun _ _ _ _ _ => (pg_name (i := 11) sc__law_moved_right.nd rfl (by first | exact Or.inl rfl | exact Or.inr rfl))) (fun _ _ _ _ _ => pts_nil) (fun _ _ _ _ _ => (pe_tup (pa_cons (pv 11) (pa_cons (pe_ix (kIxT (K := K) rfl) (pe_ix (kIx (K := K) rfl) (pv 8) (pe_un un_neg pe_int) (fun _ _ => rfl)) (pv 11) (fun _ _ => rfl)) pa_nil)))))
      (pss_cons (ps_if (PW.pt (pw_and (pt_cmpR op_eq (pe_callB call_len (by rfl) T.b_len (by decide +kernel) (pa_cons (pv 3) pa_nil)) pe_int (nomark _)) (pw_and1 (pt_cmpR op_eq (pe_ix ix_tup (pe_callN G_lean (hr.mono (by first | decide | omega)) rfl T.g_lean T.F_lean.kp (kb_lean2 T.F_lean) pass0 (pa_cons (pv 0) (pa_cons (pe_lst (pa_cons (pv 4) pa_nil)) pa_nil)) (pk_cons (pv 10) pk_nil)) (pv 7) (fun _ _ => rfl)) (pe_ix ix_tup (pv 4) (pv 7) (fun _ _ => rfl)) (nomark _)))))
      (pss_one (ps_ret pe_bl))
      pss_nil)
      (pss_one (ps_expr (pe_bm PySem.F.plainAttrs_list PySem.F.slot_list_append PySem.F.type_list_append mt_append (pv 6) (pa_cons (pv 7) pa_nil)))))))))
      (pss_one (ps_ret pe_bl)))), ?_⟩
    have c12 := W.c12
    have hls := W.ls
    have hlr := W.lr
    have hlt := W.lst
    have w1 := W.wt.l1
    have w5 := W.wt.l5
    have L4 : ∀ r ∈ steps, r.length ≤ 4 := fun r hr => (W.step r hr).1.l4
    have BW : Bd 1000 ws := Bd.up (a := 9) (c := 1000) W.wt.bd (by decide)
    have BR : ∀ r ∈ rows, Bd 1000 r := fun r hr => Bd.up (a := 20) (c := 1000) (W.row r hr).2 (by decide)
    have lt := mv.len
    have ndk := nd_of (gs := gs) fun k g e => by
      have hk := (List.getElem?_eq_some_iff.mp e).1
      obtain ⟨_, _, _, _, _, _, _, _, _, _, _, z⟩ := mv.at' k (ts[k]'(by omega)) g (by simp) e
      exact z
    have gb : ∀ (k : Nat) (g : Int), gs[k]? = some g → 0 ≤ g ∧ g < c := fun k g e => by
      have hk := (List.getElem?_eq_some_iff.mp e).1
      obtain ⟨_, _, _, _, _, _, _, _, _, z0, z1, _⟩ := mv.at' k (ts[k]'(by omega)) g (by simp) e
      exact ⟨z0, z1⟩
    refine ⟨Nat.zero_le _, fun f0 hf0 => gn ?_⟩
    have k1 : Kp [] H (upd H f0 (.lst [])) := Kp.rfl'.new hf0
    have hf1 : (upd H f0 (.lst [])) f0 = some (.lst []) := upd_same
    generalize upd H f0 (.lst []) = H1 at k1 hf1 ⊢
    refine ⟨_, rfl, fo, rfl, ⟨_, SqL.of (k1 _ _ hfo (by simp))⟩, for_list (K := K) (a := fo) (xs := ts.map V.ref) (fun k σ H2 => ∃ (o7 o8 o9 o10 : Option V), σ = [some (.ref x), some (.ref ra), some (.ref sa), some (.ref ma), some (.ref pa), some (.ref fo), some (.ref f0), o7, o8, o9, o10, none] ∧ H2 f0 = some (.lst ((gs.take k).map V.int)) ∧ Kp [] H H2) ?_ ?_ ?_ ?_⟩
    · exact ⟨_, _, _, _, rfl, by rw [hf1]; rfl, k1⟩
    · rintro k σ H2 _ ⟨_, _, _, _, _, _, k2⟩
      exact SqL.of (k2 _ _ hfo (by simp))
    · rintro k y σ H2 hk ⟨o7, o8, o9, o10, rfl, h2, k2⟩
      rw [List.getElem?_map] at hk
      obtain ⟨t, ht, rfl⟩ := Option.map_eq_some_iff.mp hk
      have hkl := (List.getElem?_eq_some_iff.mp ht).1
      obtain ⟨g, eg⟩ : ∃ g, gs[k]? = some g := ⟨gs[k]'(by omega), by simp⟩
      obtain ⟨p, sg, Gk, htt, _, hsg, heb, ⟨as, hp, aq⟩, hG, g0, g1, gnk⟩ := mv.at' k t g ht eg
      obtain ⟨gn', rfl⟩ : ∃ k : Nat, g = (k : Int) := ⟨g.toNat, by omega⟩
      rw [show ((gn' : Int)).toNat = gn' by omega] at heb aq
      obtain ⟨r, er⟩ : ∃ r, rows[gn']? = some r := ⟨rows[gn']'(by omega), by simp⟩
      obtain ⟨sr, es⟩ : ∃ sr, steps[gn']? = some sr := ⟨steps[gn']'(by omega), by simp⟩
      have lrr := (W.row r (List.mem_of_getElem? er)).1
      rw [rowD er] at aq
      have tops0 : ∀ j, j < c → 0 ≤ (topsOf steps).getD j 0 := fun j hj => by have := hs j hj; omega
      have FR : ∀ q ∈ farP sg (topsOf steps) st Gk r c ws, RowIn (topsOf steps) st Gk c q := fun q hq => by
        obtain ⟨w, _, rfl⟩ := far_row q hq
        exact post_in tops0
      have lF := far_len (sg := sg) (ts := topsOf steps) (st := st) (G := Gk) (r := r) (ws := ws) (c := c)
      have ev : cnt sr (pullR ws (farP sg (topsOf steps) st Gk r c ws) c r) ≠ st.getD gn' 0 := by
        rw [span_eq lrr]
        unfold endB at heb
        rw [rowD er, rowD es] at heb
        exact of_decide_eq_false heb
      generalize farP sg (topsOf steps) st Gk r c ws = F at aq FR lF ev
      have lFc : ∀ q ∈ F, q.length = c := fun q hq => (FR q hq).len
      have e1 : F.map (hold []) = F := by
        rw [List.map_congr_left (g := id) fun p _ => hold_nil p, List.map_id]
      have lv := lean_val (ws := ws) er es lFc
      rw [e1] at lv
      refine ⟨t, _, rfl, SqT.of (k2 _ _ htt (by simp)), rfl, _, _, rfl, _, _, rfl, rfl, ?_⟩
      have hp2 := k2 _ _ hp (by simp)
      refine ⟨_, rfl, _, rfl, x, p, _, false, rows, steps, ws, F, [], [b], 12, c, rfl, hA.keep (k2.sub (by simp)), (aq.keep0 k2).past hp2, dfl.pairs H2, by simp, by decide, by omega, by omega, lFc, hlr, hls, by omega, by decide, BW, BR, fun u H3 fu k3 hu => gn ?_⟩
      rw [e1] at hu
      have k03 := k2.trans k3
      have W3 := W.keep (k03.sub (by simp))
      refine nx_of ⟨_, rfl, _, rfl, u, _, _, V.int (cnt sr (pullR ws F c r)), rfl, rfl, SqT.of hu, atI_nat (by rw [List.getElem?_map, lv]; rfl), _, rfl, _, rfl, pa, _, _, V.int (st.getD gn' 0), rfl, rfl, SqT.of W3.hp, atI_nat (by rw [List.getElem?_map, get_getD (show gn' < st.length by omega)]; rfl), rfl, _, rfl, ?_⟩
      refine iteN (decide_eq_false fun z => ev (by injection z)) ?_
      refine ⟨_, rfl, _, rfl, _, rfl, _, rfl, b, ra, sa, ma, p, rows, steps, ws, as, F, c, rfl, W3.dr, W3.ds, W3.hm, k3 _ _ hp2 (by simp), aq.keep0 k03, by omega, by omega, lFc, hlr, hls, fun r hr => ⟨(W.row r hr).1, BR r hr⟩, BW, fun u2 H4 fu2 k4 hu2 => ?_⟩
      have hu4 := k4 _ _ hu (by simp)
      have bN : ∀ z ∈ nxt rows steps ws [] F, z.natAbs < 2 ^ 39 + 40 := fun z hz => by
        have := nxt_bd (rows := rows) (steps := steps) (ws := ws) (fx := []) (f := F) (m := 4) (fun p hp => by simp at hp) (fun r hr => by have := L4 r hr; omega) (by decide) z hz
        omega
      have lN : (nxt rows steps ws [] F).length ≤ 40 := by
        rw [nxt_len (by omega)]
        omega
      have dU : D [] H4 40 1 (.ref u2) (dT (nxt rows steps ws [] F)) := .tup hu2 (by simp) (by rw [List.length_map]; exact lN) (DA.ofInts bN)
      have dV : D [] H4 40 1 (.ref u) (dT (nxt rows steps ws [] F)) := .tup hu4 (by simp) (by rw [List.length_map]; exact lN) (DA.ofInts bN)
      refine ⟨_, rfl, _, _, dU.dp, dV.dp, shT _, shT _, _, rfl, iteN (by rw [eqvT]; simp) ?_⟩
      have k04 := k03.trans k4
      have h4 := (k3.trans k4) _ _ h2 (by simp)
      have hp4 := (k3.trans k4) _ _ hp2 (by simp)
      have aq4 := aq.keep0 k04
      have nas : as ≠ [] := fun z => by
        have := aq.len
        rw [z] at this
        simp at this
        omega
      have las := aq.len
      obtain ⟨R, eR⟩ : ∃ R, F[as.length - 1]? = some R := ⟨_, List.getElem?_eq_getElem (by omega)⟩
      have RI := FR R (List.mem_of_getElem? eR)
      have lR := RI.len
      have Rb := RI.bd hs hls L4
      have hq := aq4.row (as.length - 1) (as.getLast nas) R (by rw [← List.getLast?_eq_getElem?, List.getLast?_eq_getLast nas]) eR
      have lgk : (gs.take k).length ≤ 900 := by
        rw [List.length_take]
        omega
      have gkb : ∀ o ∈ gs.take k, 0 ≤ o ∧ o < c := fun o ho => by
        obtain ⟨m, hm⟩ := List.mem_iff_getElem?.mp (List.mem_of_mem_take ho)
        exact gb m o hm
      refine nx_of ⟨_, rfl, f0, rfl, ⟨_, SqL.of h4⟩, fun d hd => lc_list (K := K) (a := f0) (xs := (gs.take k).map V.int) (fun j H5 => ∃ us : List Addr, H5 d = some (.lst (us.map V.ref)) ∧ us.length = j ∧ (∀ (i : Nat) (t : Addr) (q : Int × Int), us[i]? = some t → ((gs.take k).map fun o => (o, R.getD o.toNat 0))[i]? = some q → H5 t = some (.tup [.int q.1, .int q.2])) ∧ Kp [] H4 H5) ?_ ?_ ?_ ?_⟩
      · exact ⟨[], by rw [upd_same]; rfl, rfl, fun i t q e => by simp at e, Kp.rfl'.new hd⟩
      · rintro j H5 _ ⟨_, _, _, _, k5⟩
        exact SqL.of (k5 _ _ h4 (by simp))
      · rintro j y H5 hj ⟨us, h5, lu, au, k5⟩
        rw [List.getElem?_map] at hj
        obtain ⟨o, ho, rfl⟩ := Option.map_eq_some_iff.mp hj
        have hjl := (List.getElem?_eq_some_iff.mp ho).1
        obtain ⟨o0, o1⟩ := gkb o (List.mem_of_getElem? ho)
        obtain ⟨on, rfl⟩ : ∃ k : Nat, o = (k : Int) := ⟨o.toNat, by omega⟩
        refine gn ⟨rfl, yesT ⟨_, rfl, _, rfl, 1, rfl, p, _, -1, .ref (as.getLast nas), rfl, rfl, SqL.of (k5 _ _ hp4 (by simp)), atI_lastR nas, _, rfl, as.getLast nas, _, _, V.int (R.getD on 0), rfl, rfl, SqT.of (k5 _ _ hq (by simp)), atI_nat (by rw [List.getElem?_map, get_getD (show on < R.length by omega)]; rfl), by show 2 ≤ sizeLine; decide, fun l hl => ?_⟩⟩
        have k6 : Kp [] H5 (upd H5 l (.tup [.int (on : Nat), .int (R.getD on 0)])) := Kp.rfl'.new hl
        have hl6 : (upd H5 l (.tup [.int (on : Nat), .int (R.getD on 0)])) l = some (.tup [.int (on : Nat), .int (R.getD on 0)]) := upd_same
        generalize upd H5 l (.tup [.int (on : Nat), .int (R.getD on 0)]) = H6 at k6 hl6 ⊢
        have h6 := k6 _ _ h5 (by simp)
        refine ⟨_, h6, by rw [List.length_map]; exact small1000 (by omega), us ++ [l], by rw [upd_same]; simp, by simp [lu], fun i t q e2 e3 => ?_, (k5.trans k6).own hd⟩
        have z : H6 t = some (.tup [.int q.1, .int q.2]) := by
          by_cases ci : i < us.length
          · rw [List.getElem?_append_left ci] at e2
            exact k6 _ _ (au i t q e2 e3) (by simp)
          · rw [List.getElem?_append_right (by omega)] at e2
            have li := (List.getElem?_eq_some_iff.mp e2).1
            rw [List.length_singleton] at li
            have ei : i = j := by omega
            subst ei
            rw [lu, Nat.sub_self] at e2
            cases e2
            rw [List.getElem?_map, ho] at e3
            cases e3
            exact hl6
        rw [upd_ne fun e => by rw [e, h6] at z; cases z]
        exact z
      rintro H5 ⟨us, h5, lu, au, k5⟩
      rw [List.length_map] at lu
      refine gn ?_
      have k05 := k04.trans k5
      have W5 := W.keep (k05.sub (by simp))
      have h5f := k5 _ _ h4 (by simp)
      refine nx_of ?_
      refine seq_cut (fun σ H6 => σ = [some (.ref x), some (.ref ra), some (.ref sa), some (.ref ma), some (.ref pa), some (.ref fo), some (.ref f0), some (.int (gn' : Nat)), some (.ref p), some (.ref u), some (.ref d), none] ∧ Kp [] H5 H6) ?_ fun nx hnx => ?_
      · rintro σ H6 ⟨rfl, k6⟩
        have h6f := k6 _ _ h5f (by simp)
        have kf : Kp [f0] H6 (upd H6 f0 (.lst ((gs.take k).map V.int ++ [.int (gn' : Nat)]))) := Kp.rfl'.put (by simp)
        refine ⟨_, rfl, .inl ⟨rfl, _, SqL.of h6f⟩, _, rfl, f0, _, _, rfl, rfl, h6f, by rw [List.length_map]; exact small1000 (by omega), ?_⟩
        refine ⟨_, _, _, _, rfl, ?_, (k05.trans k6).own hf0⟩
        rw [upd_same, List.take_add_one, eg, List.map_append]
        rfl
      · have PA : PairsAt K H5 d true ((gs.take k).map fun o => (o, R.getD o.toNat 0)) := ⟨us, SqL.of h5, by rw [List.length_map]; exact lu, au⟩
        refine ⟨_, rfl, _, ws.length, rfl, .inl ⟨_, SqL.of W5.hm, (List.length_map ..).symm⟩, rfl, _, rfl, ?_⟩
        by_cases cw : ws.length = 1
        · refine iteC (decide_eq_true (by rw [cw]; rfl)) ?_
          refine ⟨_, rfl, _, rfl, by show 1 ≤ sizeLine; decide, fun l hl => ?_⟩
          have k6 : Kp [] H5 (upd H5 l (.lst [.ref pa])) := Kp.rfl'.new hl
          have hl6 : (upd H5 l (.lst [.ref pa])) l = some (.lst (([pa] : List Addr).map V.ref)) := upd_same
          generalize upd H5 l (.lst [.ref pa]) = H6 at k6 hl6 ⊢
          have W6 := W5.keep (k6.sub (by simp))
          have a6 : AsAt H6 [pa] [st] := ⟨rfl, fun k t s e1 e2 => by
            cases k with
            | zero =>
              cases (show some pa = some t from e1)
              cases (show some st = some s from e2)
              exact W6.hp
            | succ k => simp at e1⟩
          have FX1 : F = [R] := by
            have l1 : F.length = 1 := by omega
            match F, l1, eR with
            | [a], _, e =>
              rw [show as.length - 1 = 0 by simp at las; omega] at e
              cases (show some a = some R from e)
              rfl
          refine ⟨_, rfl, rfl, rfl, x, l, d, true, rows, steps, ws, [st], _, [b], 12, c, rfl, hA.keep ((k05.trans k6).sub (by simp)), a6.past hl6, PA.keep k6, ?_, by rw [List.length_map]; exact lgk, by simp, by simp, fun s hs => by rw [List.mem_singleton.mp hs]; omega, hlr, hls, by omega, by decide, BW, BR, fun v H7 fv k7 hv => ?_⟩
          · rw [List.map_map]
            have : ((fun p : Int × Int => p.1) ∘ fun o : Int => (o, R.getD o.toNat 0)) = id := rfl
            rw [this, List.map_id]
            exact ndk k
          · have eH : [st].map (hold ((gs.take k).map fun o => (o, R.getD o.toNat 0))) = [R] := by
              rw [List.map_singleton]
              congr 1
              apply List.ext_getElem?
              intro j
              by_cases hj : j < c
              · rw [hold_at (get_getD (show j < st.length by omega)), get_getD (show j < R.length by omega)]
                by_cases jk : (j : Int) ∈ gs.take k
                · rw [lk_map (f := fun o => R.getD o.toNat 0) jk]
                  show some (R.getD ((j : Int)).toNat 0) = some (R.getD j 0)
                  rw [show ((j : Int)).toNat = j by omega]
                · rw [lk_none (by rw [List.map_map]; have : ((fun p : Int × Int => p.1) ∘ fun o : Int => (o, R.getD o.toNat 0)) = id := rfl; rw [this, List.map_id]; exact jk)]
                  have o := RI.ok j hj
                  rw [if_pos ((hG j (by omega) (by omega)).mpr jk)] at o
                  rw [o]
                  rfl
              · rw [List.getElem?_eq_none (by rw [hold_len]; omega), List.getElem?_eq_none (by omega)]
            rw [eH, nxt_hold, ← FX1] at hv
            have hv2 : (hold ((gs.take k).map fun o => (o, R.getD o.toNat 0)) (nxt rows steps ws [] F))[gn']? = some (cnt sr (pullR ws F c r)) := by
              rw [hold_at lv, lk_none (by rw [List.map_map]; have : ((fun p : Int × Int => p.1) ∘ fun o : Int => (o, R.getD o.toNat 0)) = id := rfl; rw [this, List.map_id]; exact gnk)]
              rfl
            have W7 := W6.keep (k7.sub (by simp))
            refine ⟨_, rfl, v, _, _, V.int (cnt sr (pullR ws F c r)), rfl, rfl, SqT.of hv, atI_nat (by rw [List.getElem?_map, hv2]; rfl), _, rfl, _, rfl, pa, _, _, V.int (st.getD gn' 0), rfl, rfl, SqT.of W7.hp, atI_nat (by rw [List.getElem?_map, get_getD (show gn' < st.length by omega)]; rfl), rfl, _, rfl, ?_⟩
            refine iteN (decide_eq_false fun z => ev (by injection z)) ?_
            exact hnx _ _ ⟨rfl, k6.trans k7⟩
        · refine iteN (decide_eq_false fun z => cw (by injection z; omega)) ?_
          refine iteN (by rfl) ?_
          exact hnx _ _ ⟨rfl, Kp.rfl'⟩
    · rintro σ H2 ⟨o7, o8, o9, o10, rfl, h2, k2⟩
      exact q H2 k2

end
end Sw

set_option maxHeartbeats 2000000
namespace Sw
open PySem PySem.Spec PyProof.Rows L2
section
variable {P : Program} {w : World} {K : PySem.W.Frag} {mg : Str → Option Value} {base : Heap}
theorem goR_inH {rows steps past : List (List Int)} {ws st G : List Int} {c : Nat} {fx : List (Int × Int)} (lr : ∀ r ∈ rows, r.length = c) (l1 : rows.length = c) (l2 : steps.length = c) (rg : ∀ g ∈ G, 0 ≤ g ∧ g < c) (fm : Fm rows steps ws st c G) (lp : past.length = ws.length) (rp : ∀ p ∈ past, RowIn (topsOf steps) st G c p) (hf : FxOk (topsOf steps) G c fx) : ∀ n, ∀ p ∈ goR rows steps ws fx n past, RowIn (topsOf steps) st G c p
  | 0 => rp
  | n + 1 => fun p hp => by
    have ih := goR_inH lr l1 l2 rg fm lp rp hf n
    rcases List.mem_append.mp hp with z | z
    · exact ih p z
    · rw [List.mem_singleton.mp z]
      have ln := goR_len (rows := rows) (steps := steps) (ws := ws) (fx := fx) (f := past) n
      rw [← nxt_drop (i := n) (by omega), nxt_hold]
      exact hold_in (nxt_in lr l1 l2 rg fm (by rw [List.length_drop]; omega) fun q hq => ih q (List.mem_of_mem_drop hq)) hf
theorem D.pastL {bs : List Addr} {H : Hp} {w k : Nat} {q : Addr} {F : List (List Int)} (h : D bs H w k (.ref q) (dLT F)) : PastL H q F := by
  cases h with
  | @lst _ _ xs _ hq _ _ t =>
    have lx := DA.len t
    rw [List.length_map] at lx
    obtain ⟨as, rfl⟩ := refs_of (xs := xs) fun y hy => by
      obtain ⟨i, hi⟩ := List.mem_iff_getElem?.mp hy
      obtain ⟨r, a, _, e, _⟩ := t.trowAt hi
      exact ⟨a, e⟩
    refine ⟨as, hq, by simpa using lx, fun m u st e1 e2 => ?_⟩
    obtain ⟨r, a, er, ea, ha, _⟩ := t.trowAt (i := m) (x := .ref u) (by rw [List.getElem?_map, e1]; rfl)
    rw [e2] at er
    cases er
    cases ea
    exact ha
theorem AsAt.da {H : Hp} {as : List Addr} {F : List (List Int)} {w : Nat} (h : AsAt H as F) (b : ∀ p ∈ F, p.length ≤ w ∧ ∀ x ∈ p, x.natAbs < 2 ^ 39 + w) : DA [] H w 1 (as.map V.ref) (F.map dT) := by
  have l := h.len
  refine DA.of_get (by simp [l]) fun i v d h1 h2 => ?_
  rw [List.getElem?_map] at h1 h2
  obtain ⟨t, ht, rfl⟩ := Option.map_eq_some_iff.mp h1
  obtain ⟨p, hp, rfl⟩ := Option.map_eq_some_iff.mp h2
  obtain ⟨b1, b2⟩ := b p (List.mem_of_getElem? hp)
  exact .tup (h.row i t p ht hp) (by simp) (by rw [List.length_map]; exact b1) (DA.ofInts b2)
theorem Oth.fm {rows steps rows' steps' : List (List Int)} {O ws st G : List Int} {c : Nat} (h : Oth rows steps rows' steps' O c) (fm : Fm rows steps ws st c G) (rg : ∀ g ∈ G, 0 ≤ g ∧ g < c) (ap : ∀ g ∈ G, g ∉ O) : Fm rows' steps' ws st c G := fun g hg => by
  have e := fm g hg
  obtain ⟨g0, _⟩ := rg g hg
  obtain ⟨e1, e2⟩ := h.same g.toNat (by rw [show ((g.toNat : Nat) : Int) = g by omega]; exact ap g hg)
  have e3 : ∀ {a a' : List (List Int)} {i : Nat}, a'[i]? = a[i]? → a'.getD i [] = a.getD i [] := fun e => by
    rw [List.getD_eq_getElem?_getD, List.getD_eq_getElem?_getD, e]
  unfold stB endB at e ⊢
  rw [e3 e1, e3 e2, h.tops]
  exact e
def sp_right : Sp := fun vs H Q _ => ∃ (b : Addr) (n : Nat), vs = [.ref b] ∧ Bx H b n ∧ n ≤ 100000 ∧ ∀ H', Kp [b] H H' → Bx H' b (n + 5000) → Q (.bl true) H'
theorem ok_right (T : Tx K mg) (dflH : DfE K (kwAt ("history", none) "held" K)) (dflL : DfE K (kwAt ("lean", none) "held" K)) (dflS : DfE K (kwAt ("Sway", some "__init__") "held" K)) : FnOk P w K mg base CX0 9 (He.fAd K ("_law_right", none)) T.fd__law_right p__law_right sp_right := by
  have G__law_planned := ok_planned (P := P) (w := w) (base := base) T
  have G__law_take := ok_take (P := P) (w := w) (base := base) T
  have G_Hall___init__ := ok_init (P := P) (w := w) (base := base) T
  have G_history := ok_history (P := P) (w := w) (base := base) T
  have G_firm_of := ok_firmof (P := P) (w := w) (base := base) T
  have G_movers := ok_movers (P := P) (w := w) (base := base) T
  have G__law_same := ok_same (P := P) (w := w) (base := base) T 3
  have G_is_firm := ok_firm (P := P) (w := w) (base := base) T
  have G__law_some_past := ok_lsome (P := P) (w := w) (base := base) T
  have G__law_stand_so := ok_lso (P := P) (w := w) (base := base) T
  have G__law_gone := ok_lgone (P := P) (w := w) (base := base) T
  have G__law_played_right := ok_lplayed (P := P) (w := w) (base := base) T dflS
  have G__law_otherwise := ok_lother (P := P) (w := w) (base := base) T
  have G__law_moved_right := ok_lmoved (P := P) (w := w) (base := base) T dflL
  obtain ⟨dsL, rdL, bqL⟩ := bq_history T.F_history
  refine T.F__law_right.ok sc__law_right (fun vs H Q E h => ?_) (fun cdv A outer s H vs Q E hr h => ?_)
  · obtain ⟨_, _, rfl, _⟩ := h
    rfl
  · obtain ⟨b, n, rfl, hB, hn, q⟩ := h
    refine ⟨_, PSs.nox (pss_cons (ps_set (i := 1) sc__law_right.nd rfl (by first | exact Or.inl rfl | exact Or.inr rfl) (pe_call G__law_planned (hr.mono (by first | decide | omega)) rfl T.g__law_planned T.F__law_planned.kp T.bd__law_planned .nil pass0 (pa_cons (pv 0) (pa_cons pe_int (pa_cons pe_int pa_nil)))))
      (pss_cons (ps_asg (pe_slice sl_tup (pv 1) po_none (po_some pe_int)) (pg_tup rfl (pgs_cons (pg_name (i := 7) sc__law_right.nd rfl (by first | exact Or.inl rfl | exact Or.inr rfl)) (pgs_cons (pg_name (i := 8) sc__law_right.nd rfl (by first | exact Or.inl rfl | exact Or.inr rfl)) (pgs_cons (pg_name (i := 9) sc__law_right.nd rfl (by first | exact Or.inl rfl | exact Or.inr rfl)) (pgs_cons (pg_name (i := 10) sc__law_right.nd rfl (by first | exact Or.inl rfl | exact Or.inr rfl)) pgs_nil))))))
      (pss_cons (ps_set (i := 2) sc__law_right.nd rfl (by first | exact Or.inl rfl | exact Or.inr rfl) (pe_make T.mk_Hall G_Hall___init__ (hr.mono (by first | decide | omega)) rfl T.g_Hall T.bd_Hall___init__ .nil pass0 (pa_cons (pv 7) (pa_cons (pv 8) (pa_cons (pv 9) pa_nil)))))
      (pss_cons (ps_set (i := 3) sc__law_right.nd rfl (by first | exact Or.inl rfl | exact Or.inr rfl) (pe_call G_firm_of (hr.mono (by first | decide | omega)) rfl T.g_firm_of T.F_firm_of.kp T.bd_firm_of .nil pass0 (pa_cons (pv 2) (pa_cons (pv 10) pa_nil))))
      (pss_cons (ps_setLc (i := 4) (own := [("_law_one", 16)]) (g := (gName 16)) rfl sc__law_right.nd rfl rfl (sw_true rfl rfl rfl (by decide +kernel)) (pi_range1 (by rfl) T.b_range (pa_cons (pe_callB call_len (by rfl) T.b_len (by decide +kernel) (pa_cons (pv 8) pa_nil)) pa_nil)) (blkOk_by (own := [("_law_one", 16)]) (N := n__law_right) (sc := defScope s__law_right) (by decide +kernel)) (fun _ _ _ _ _ => (pg_name (i := 16) sc__law_right.nd rfl (by first | exact Or.inl rfl | exact Or.inr rfl))) (fun _ _ _ _ _ => pts_one (pt_cmpR (kNotIn (K := K) rfl) (pv 16) (pv 3) rfl)) (fun _ _ _ _ _ => (pv 16)))
      (pss_cons (ps_for PassesOwn.never rfl (pi_range1 (by rfl) T.b_range (pa_cons pe_int pa_nil)) (pg_name (i := 5) sc__law_right.nd rfl (by first | exact Or.inl rfl | exact Or.inr rfl))
      (pss_cons (ps_set (i := 11) sc__law_right.nd rfl (by first | exact Or.inl rfl | exact Or.inr rfl) (pe_call G__law_some_past (hr.mono (by first | decide | omega)) rfl T.g__law_some_past T.F__law_some_past.kp T.bd__law_some_past .nil pass0 (pa_cons (pv 0) (pa_cons (pv 8) (pa_cons (pv 9) (pa_cons (pv 10) (pa_cons (pv 3) pa_nil)))))))
      (pss_cons (ps_setLc (i := 12) (own := [("_law_one", 16)]) (g := (gName 16)) rfl sc__law_right.nd rfl rfl (sw_true rfl rfl rfl (by decide +kernel)) (pi_list (pv 4)) (blkOk_by (own := [("_law_one", 16)]) (N := n__law_right) (sc := defScope s__law_right) (by decide +kernel)) (fun _ _ _ _ _ => (pg_name (i := 16) sc__law_right.nd rfl (by first | exact Or.inl rfl | exact Or.inr rfl))) (fun _ _ _ _ _ => pts_one (pt_cmpR op_eq (pe_call G__law_take (hr.mono (by first | decide | omega)) rfl T.g__law_take T.F__law_take.kp T.bd__law_take .nil pass0 (pa_cons (pv 0) (pa_cons pe_int pa_nil))) pe_int (nomark _))) (fun _ _ _ _ _ => (pe_tup (pa_cons (pv 16) (pa_cons (pe_call G__law_take (hr.mono (by first | decide | omega)) rfl T.g__law_take T.F__law_take.kp T.bd__law_take .nil pass0 (pa_cons (pv 0) (pa_cons (pe_op op_add (pe_callB (kLen (K := K) rfl) (by rfl) T.b_len (by decide +kernel) (pa_cons (pe_ix (kIx (K := K) rfl) (pv 8) (pv 16) (fun _ _ => rfl)) pa_nil)) pe_int) pa_nil))) pa_nil)))))
      (pss_cons (ps_set (i := 13) sc__law_right.nd rfl (by first | exact Or.inl rfl | exact Or.inr rfl) (pe_callN G_history (hr.mono (by first | decide | omega)) rfl T.g_history T.F_history.kp (kb_hist3 T.F_history) pass0 (pa_cons (pv 2) (pa_cons (pv 11) (pa_cons pe_int pa_nil))) (pk_cons (pv 12) pk_nil)))
      (pss_cons (ps_if (pt_not (pt_val (pe_call G__law_stand_so (hr.mono (by first | decide | omega)) rfl T.g__law_stand_so T.F__law_stand_so.kp T.bd__law_stand_so .nil pass0 (pa_cons (pv 13) (pa_cons (pv 10) (pa_cons (pv 3) pa_nil))))))
      (pss_one (ps_ret pe_bl))
      pss_nil)
      (pss_cons (ps_if (pt_not (pt_val (pe_call G__law_same (hr.mono (by first | decide | omega)) rfl T.g__law_same T.F__law_same.kp T.bd__law_same .nil pass0 (pa_cons (pe_call G_history (hr.mono (by first | decide | omega)) rfl T.g_history T.F_history.kp bqL rdL pass0 (pa_cons (pv 2) (pa_cons (pv 11) (pa_cons pe_int pa_nil)))) (pa_cons (pe_call G__law_gone (hr.mono (by first | decide | omega)) rfl T.g__law_gone T.F__law_gone.kp T.bd__law_gone .nil pass0 (pa_cons (pv 7) (pa_cons (pv 8) (pa_cons (pv 9) (pa_cons (pv 11) (pa_cons pe_int pa_nil)))))) pa_nil)))))
      (pss_one (ps_ret pe_bl))
      pss_nil)
      (pss_one (ps_if (pt_not (pt_val (pe_call G__law_played_right (hr.mono (by first | decide | omega)) rfl T.g__law_played_right T.F__law_played_right.kp T.bd__law_played_right .nil pass0 (pa_cons (pv 0) (pa_cons (pv 2) (pa_cons (pv 8) (pa_cons (pv 9) (pa_cons (pv 10) (pa_cons (pv 3) (pa_cons (pv 4) pa_nil))))))))))
      (pss_one (ps_ret pe_bl))
      pss_nil))))))))
      (pss_cons (ps_asg (pe_call G__law_otherwise (hr.mono (by first | decide | omega)) rfl T.g__law_otherwise T.F__law_otherwise.kp T.bd__law_otherwise .nil pass0 (pa_cons (pv 0) (pa_cons (pv 7) (pa_cons (pv 8) (pa_cons (pv 4) pa_nil))))) (pg_tup rfl (pgs_cons (pg_name (i := 14) sc__law_right.nd rfl (by first | exact Or.inl rfl | exact Or.inr rfl)) (pgs_cons (pg_name (i := 15) sc__law_right.nd rfl (by first | exact Or.inl rfl | exact Or.inr rfl)) pgs_nil))))
      (pss_cons (ps_set (i := 6) sc__law_right.nd rfl (by first | exact Or.inl rfl | exact Or.inr rfl) (pe_make T.mk_Hall G_Hall___init__ (hr.mono (by first | decide | omega)) rfl T.g_Hall T.bd_Hall___init__ .nil pass0 (pa_cons (pv 14) (pa_cons (pv 15) (pa_cons (pv 9) pa_nil)))))
      (pss_cons (ps_if (pt_cmpR op_notBl (pe_call G_is_firm (hr.mono (by first | decide | omega)) rfl T.g_is_firm T.F_is_firm.kp T.bd_is_firm .nil pass0 (pa_cons (pv 6) (pa_cons (pv 10) (pa_cons (pv 3) pa_nil)))) pe_bl (nomark _))
      (pss_one (ps_ret pe_bl))
      pss_nil)
      (pss_cons (ps_if (pt_not (pt_val (pe_call G__law_played_right (hr.mono (by first | decide | omega)) rfl T.g__law_played_right T.F__law_played_right.kp T.bd__law_played_right .nil pass0 (pa_cons (pv 0) (pa_cons (pv 6) (pa_cons (pv 15) (pa_cons (pv 9) (pa_cons (pv 10) (pa_cons (pv 3) (pa_cons (pv 4) pa_nil))))))))))
      (pss_one (ps_ret pe_bl))
      pss_nil)
      (pss_one (ps_ret (pe_call G__law_moved_right (hr.mono (by first | decide | omega)) rfl T.g__law_moved_right T.F__law_moved_right.kp T.bd__law_moved_right .nil pass0 (pa_cons (pv 2) (pa_cons (pv 7) (pa_cons (pv 8) (pa_cons (pv 9) (pa_cons (pv 10) (pa_cons (pe_call G_movers (hr.mono (by first | decide | omega)) rfl T.g_movers T.F_movers.kp T.bd_movers .nil pass0 (pa_cons (pv 2) (pa_cons (pv 10) pa_nil))) pa_nil))))))))))))))))))), ?_⟩
    refine ⟨_, rfl, b, 12, 5, n, rfl, hB, by omega, by decide, by decide, by decide, by decide, fun t ra sa ma pa ca0 rows steps ws st G0 c H1 ft k1 ht W so hca0 ncb0 gb0 lG0 hB1 => gn ?_⟩
    have c12 := W.c12
    have hlr := W.lr
    have hls := W.ls
    have hlt := W.lst
    have w1 := W.wt.l1
    have w5 := W.wt.l5
    have L4 : ∀ r ∈ steps, r.length ≤ 4 := fun r hr => (W.step r hr).1.l4
    have BW : Bd 1000 ws := Bd.up (a := 9) (c := 1000) W.wt.bd (by decide)
    have BR : ∀ r ∈ rows, Bd 1000 r := fun r hr => Bd.up (a := 20) (c := 1000) (W.row r hr).2 (by decide)
    refine ⟨_, rfl, _, rfl, t, _, rfl, SqT.of ht, ?_⟩
    have e4 : cutV [V.ref ra, .ref sa, .ref ma, .ref pa, .ref ca0] none (some 4) = [V.ref ra, .ref sa, .ref ma, .ref pa] := cut_to _ 4
    refine ⟨by show ¬ (HT.sIx 5 0 none = 0 ∧ HT.sIx 5 5 (some 4) = 5); decide, fun t2 ht2 => ?_⟩
    rw [e4]
    have k2 : ∀ cs, Kp cs H1 (upd H1 t2 (.tup [.ref ra, .ref sa, .ref ma, .ref pa])) := fun cs => Kp.rfl'.new ht2
    refine ⟨t2, _, rfl, SqT.of upd_same, rfl, _, _, rfl, _, _, rfl, _, _, rfl, _, _, rfl, rfl, ?_⟩
    have W2 := W.keep (k2 _)
    have hB2 := hB1.keep (k2 []) (by simp)
    have k02 : Kp [b] H (upd H1 t2 (.tup [.ref ra, .ref sa, .ref ma, .ref pa])) := k1.trans (k2 _)
    generalize upd H1 t2 (.tup [.ref ra, .ref sa, .ref ma, .ref pa]) = H2 at W2 hB2 k02 ⊢
    refine ⟨_, rfl, _, rfl, _, rfl, fun x dx fx fdx nxd => ?_⟩
    refine init_of fx fdx nxd hB2 W2.dr W2.ds (D.ofInts W2.hm (by simpa using W2.nm) (by omega) fun y hy => by have := W2.wt.bd y hy; omega) ⟨by have := W2.c1; omega, fun r hr => by rw [(W2.row r hr).1, hlr], by omega, fun r hr => (W2.step r hr).1, W2.wt.l1, W2.wt.l5, W2.wt.nz⟩ fun H3 hA k3 => ⟨rfl, ?_⟩
    have W3 := W2.keep (k3 _)
    have hB3 := hB2.keep (k3 []) (by simp)
    have k03 : Kp [b] H H3 := k02.trans (k3 _)
    have hs : ∀ j, j < c → 0 ≤ st.getD j 0 ∧ st.getD j 0 ≤ (topsOf steps).getD j 0 := fun j hj => by
      obtain ⟨sr, es⟩ : ∃ sr, steps[j]? = some sr := ⟨steps[j]'(by omega), by simp⟩
      have e := get_getD (a := st) (show j < st.length by omega)
      rw [tops_get es]
      exact ⟨(so.bd _ (List.mem_of_getElem? e)).1, so.top j _ sr e es⟩
    have mk : ∀ (Hm : Hp), Kp [b] H3 Hm → ∀ (ga : Addr) (G : List Int) (H' : Hp), Kp [] Hm H' → H' ga = some (.lst (G.map V.int)) → (∀ g ∈ G, 0 ≤ g ∧ g < c) → Grp K [b] H' 12 x pa ga true rows steps ws st G c := fun Hm km ga G H' k hg gb =>
      (W3.keep (km.trans (k.sub (by simp)))).grp (hA.keep (km.trans (k.sub (by simp)))) hg gb
    clear W W2 hB1 hB2 k1 k2 k3 k02 ht ft hca0 fx fdx nxd ht2
    refine ⟨_, rfl, _, rfl, x, pa, rows, steps, ws, st, [b], 12, c, rfl, mk H3 Kp.rfl', hs, hA, hlr, by omega, fun ca G H4 fca k4 hca gr => gn ?_⟩
    have ncb := hB3.off fca
    have hB4 := hB3.keep k4 (by simp)
    have k34 : Kp [b] H3 H4 := k4.sub (by simp)
    obtain ⟨xs4, hsa4, _, lx4, _, _⟩ := (W3.keep k34).ds.rowII
    have lG := gr.rg.len
    refine ⟨_, rfl, _, steps.length, rfl, .inl ⟨_, SqL.of hsa4, lx4.symm⟩, _, rfl, by omega, by omega, fun oa hoa => lc_range (n := ((steps.length : Nat) : Int).toNat) (fun j H5 => H5 oa = some (.lst ((((List.range j).map fun (i : Nat) => (i : Int)).filter fun g => !decide (g ∈ G)).map V.int)) ∧ Kp [] H4 H5) ?_ ?_ ?_⟩
    · exact ⟨upd_same, Kp.rfl'.new hoa⟩
    · rintro j H5 hj ⟨h5, k5⟩
      have ej : (0 : Int) + (j : Int) = ((j : Nat) : Int) := Int.zero_add _
      have e : ((List.range (j + 1)).map fun (i : Nat) => (i : Int)) = ((List.range j).map fun (i : Nat) => (i : Int)) ++ [(j : Int)] := by rw [List.range_succ, List.map_append]; rfl
      refine ⟨rfl, _, rfl, _, rfl, ca, _, rfl, .inl (SqL.of (k5 _ _ hca (by simp))), rfl, flat_ints _, _, rfl, ?_⟩
      rw [inV_ints, ej]
      by_cases cc : (j : Int) ∈ G
      · refine iteN (by simp [cc]) ⟨?_, k5⟩
        rw [h5, e, List.filter_append]
        simp [cc]
      · refine iteC (by simp [cc]) ⟨_, rfl, _, h5, ?_, ?_, k5.own hoa⟩
        · rw [List.length_map]
          exact small1000 (Nat.le_trans (List.length_filter_le ..) (by rw [List.length_map, List.length_range]; omega))
        · rw [upd_same, e, List.filter_append]
          simp [cc]
    rintro H5 ⟨hO, k5⟩
    have e0 : ((steps.length : Nat) : Int).toNat = c := by omega
    rw [e0] at hO
    have O1 : ∀ g ∈ (((List.range c).map fun (i : Nat) => (i : Int)).filter fun g => !decide (g ∈ G)), 0 ≤ g ∧ g < c ∧ g ∉ G := fun g hg => by
      obtain ⟨h1, h2⟩ := List.mem_filter.mp hg
      obtain ⟨h3, h4⟩ := (rng_rg c).rg g h1
      exact ⟨h3, h4, by simpa using h2⟩
    have lO := List.length_filter_le (fun g => !decide (g ∈ G)) ((List.range c).map fun (i : Nat) => (i : Int))
    rw [List.length_map, List.length_range] at lO
    have ndO : (((List.range c).map fun (i : Nat) => (i : Int)).filter fun g => !decide (g ∈ G)).Nodup := ((rng_rg c).filter _).pw.imp fun h => by omega
    generalize (((List.range c).map fun (i : Nat) => (i : Int)).filter fun g => !decide (g ∈ G)) = O at hO O1 lO ndO
    have noab : oa ≠ b := hB4.off hoa
    have hB5 := hB4.keep k5 (by simp)
    have hca5 := k5 _ _ hca (by simp)
    have k35 : Kp [b] H3 H5 := k34.trans (k5.sub (by simp))
    refine gn ?_
    clear hoa hsa4 lx4 k4 k5 k34 hB4 fca hca hB3
    refine nx_of ⟨2, rfl, by decide, by decide, for_range (n := 2) (fun i σ H6 => ∃ (o5 o11 o12 o13 : Option V), σ = [some (.ref b), some (.ref t), some (.ref x), some (.ref ca), some (.ref oa), o5, none, some (.ref ra), some (.ref sa), some (.ref ma), some (.ref pa), o11, o12, o13, none, none, none] ∧ Bx H6 b (n + 1100 + 300 * i) ∧ Kp [b] H5 H6) ?_ ?_ ?_⟩
    · exact ⟨_, _, _, _, rfl, hB5.up (by omega), Kp.rfl'⟩
    · rintro i σ H6 hi ⟨o5, o11, o12, o13, rfl, hB6, k6⟩
      refine gn ?_
      have k36 := k35.trans k6
      have W6 := W3.keep k36
      have hO6 := k6 _ _ hO (by simpa using noab)
      have hca6 := k6 _ _ hca5 (by simpa using ncb)
      refine ⟨_, rfl, _, rfl, _, rfl, _, rfl, _, rfl, b, ra, sa, ma, pa, ca, rows, steps, ws, st, G, c, _, rfl, W6, hca6, ncb, hB6, by omega, fun p past H7 fp k7 hP lp rp hB7 => gn ?_⟩
      obtain ⟨as, hp7, aq7⟩ := hP
      have k37 := k36.trans k7
      have hO7 := k7 _ _ hO6 (by simpa using noab)
      have tb : ∀ q ∈ past, q.length = c ∧ ∀ x ∈ q, 0 ≤ x ∧ x ≤ 4 := fun q hq => by
        have R := rp q hq
        refine ⟨R.len, fun y hy => ?_⟩
        obtain ⟨j, hj, ej⟩ := List.getElem_of_mem hy
        have lR := R.len
        have g := R.bd hs hls L4 j (by omega)
        have eg : q.getD j 0 = y := by
          have e1 := get_getD (a := q) hj
          rw [List.getElem?_eq_getElem hj, ej] at e1
          exact (Option.some.inj e1).symm
        rw [eg] at g
        exact g
      refine nx_of ⟨_, rfl, oa, rfl, ⟨_, SqL.of hO7⟩, fun d hd => lc_list (K := K) (a := oa) (xs := O.map V.int) (fun j H8 => ∃ (us : List Addr) (fx : List (Int × Int)), H8 d = some (.lst (us.map V.ref)) ∧ us.length = fx.length ∧ fx.length ≤ j ∧ (∀ (i : Nat) (t : Addr) (q : Int × Int), us[i]? = some t → fx[i]? = some q → H8 t = some (.tup [.int q.1, .int q.2])) ∧ FxOk (topsOf steps) G c fx ∧ (fx.map (·.1)).Nodup ∧ (∀ q ∈ fx, q.1 ∈ O.take j) ∧ Bx H8 b (n + 1100 + 300 * i + 60 + 2 * j) ∧ Kp [b] H7 H8) ?_ ?_ ?_ ?_⟩
      · exact ⟨[], [], upd_same, rfl, by simp, fun i t q e => by simp at e, fun q hq => by simp at hq, by simp, fun q hq => by simp at hq, (hB7.keep (Kp.rfl'.new (bs := []) hd) (by simp)).up (by omega), Kp.rfl'.new hd⟩
      · rintro j H8 _ ⟨_, _, _, _, _, _, _, _, _, _, k8⟩
        exact SqL.of (k8 _ _ hO7 (by simpa using noab))
      · rintro j y H8 hj ⟨us, fx, h8, lu, lfx, au, fxo, nd, fm, hB8, k8⟩
        rw [List.getElem?_map] at hj
        obtain ⟨z, hz, rfl⟩ := Option.map_eq_some_iff.mp hj
        have hjl := (List.getElem?_eq_some_iff.mp hz).1
        obtain ⟨z0, z1, zG⟩ := O1 z (List.mem_of_getElem? hz)
        obtain ⟨zn, rfl⟩ : ∃ k : Nat, z = (k : Int) := ⟨z.toNat, by omega⟩
        have ndb := hB7.off hd
        refine gn ⟨rfl, _, rfl, b, 2, _, rfl, hB8, by omega, by omega, by omega, fun r H9 r0 r1 hB9 k9 => ⟨rfl, _, rfl, ?_⟩⟩
        have h9 := k9 _ _ h8 (by simpa using ndb)
        have au9 : ∀ (i : Nat) (t : Addr) (q : Int × Int), us[i]? = some t → fx[i]? = some q → H9 t = some (.tup [.int q.1, .int q.2]) := fun i t q e1 e2 => k9 _ _ (au i t q e1 e2) fun w => by
          obtain ⟨_, _, _, eb, _⟩ := hB8.ex
          have := au i t q e1 e2
          rw [List.mem_singleton.mp w, eb] at this
          cases this
        have fm' : ∀ q ∈ fx, q.1 ∈ O.take (j + 1) := fun q hq => by
          rw [List.take_add_one]
          exact List.mem_append_left _ (fm q hq)
        by_cases cr : r = 0
        · refine iteC (by simp [cr]) ?_
          obtain ⟨sr, es⟩ : ∃ sr, steps[zn]? = some sr := ⟨steps[zn]'(by omega), by simp⟩
          obtain ⟨xs9, hsa9, _, _, _, als9⟩ := (W3.keep (k37.trans (k8.trans k9))).ds.rowII
          obtain ⟨o, go, ho, _, _⟩ := als9 zn sr es
          have s4 := L4 sr (List.mem_of_getElem? es)
          refine ⟨_, rfl, _, rfl, _, rfl, _, rfl, sa, _, _, .ref o, rfl, rfl, SqL.of hsa9, atI_nat go, _, sr.length, rfl, .inl ⟨_, SqL.of ho, (List.length_map ..).symm⟩, _, _, rfl, rfl, b, _, _, rfl, hB9, by omega, by omega, by omega, fun v HA v0 v1 hBA kA => ⟨by show 2 ≤ sizeLine; decide, fun l hl => ?_⟩⟩
          have hA' := kA _ _ h9 (by simpa using ndb)
          have auA : ∀ (i : Nat) (t : Addr) (q : Int × Int), us[i]? = some t → fx[i]? = some q → HA t = some (.tup [.int q.1, .int q.2]) := fun i t q e1 e2 => kA _ _ (au9 i t q e1 e2) fun w => by
            obtain ⟨_, _, _, eb, _⟩ := hB9.ex
            have := au9 i t q e1 e2
            rw [List.mem_singleton.mp w, eb] at this
            cases this
          have kl : Kp [] HA (upd HA l (.tup [.int (zn : Nat), .int v])) := Kp.rfl'.new hl
          have hlB : (upd HA l (.tup [.int (zn : Nat), .int v])) l = some (.tup [.int (zn : Nat), .int v]) := upd_same
          generalize upd HA l (.tup [.int (zn : Nat), .int v]) = HB at kl hlB ⊢
          have hB' := kl _ _ hA' (by simp)
          refine ⟨_, hB', by rw [List.length_map]; exact small1000 (by omega), us ++ [l], fx ++ [((zn : Int), v)], by rw [upd_same]; simp, by simp [lu], by simp; omega, fun i t q e1 e2 => ?_, fun q hq => ?_, ?_, fun q hq => ?_, ((hBA.keep kl (by simp)).keep (Kp.rfl'.put (bs := [d]) (by simp)) (by simpa using ndb.symm)).up (by omega), (k8.trans (k9.trans (kA.trans (kl.sub (by simp))))).own hd⟩
          · have w : HB t = some (.tup [.int q.1, .int q.2]) := by
              by_cases ci : i < us.length
              · rw [List.getElem?_append_left ci] at e1
                rw [List.getElem?_append_left (by omega)] at e2
                exact kl _ _ (auA i t q e1 e2) (by simp)
              · rw [List.getElem?_append_right (by omega)] at e1
                rw [List.getElem?_append_right (by omega)] at e2
                have li := (List.getElem?_eq_some_iff.mp e1).1
                rw [List.length_singleton] at li
                have ei : i - us.length = 0 := by omega
                rw [ei] at e1
                rw [← lu, ei] at e2
                cases e1
                cases e2
                exact hlB
            rw [upd_ne fun e => by rw [e, hB'] at w; cases w]
            exact w
          · rcases List.mem_append.mp hq with h | h
            · exact fxo q h
            · rw [List.mem_singleton.mp h]
              refine ⟨zG, z0, z1, v0, ?_⟩
              show v ≤ (topsOf steps).getD ((zn : Int)).toNat 0
              rw [show ((zn : Int)).toNat = zn by omega, tops_get es]
              omega
          · rw [List.map_append]
            refine List.nodup_append.mpr ⟨nd, by simp, fun a ha b' hb => ?_⟩
            have hb : b' = (zn : Int) := by simpa using hb
            obtain ⟨q, hq, rfl⟩ := List.mem_map.mp ha
            rw [hb]
            intro w
            exact nd_take ndO hz (by rw [← w]; exact fm q hq)
          · rcases List.mem_append.mp hq with h | h
            · exact fm' q h
            · rw [List.mem_singleton.mp h, List.take_add_one, hz]
              simp
        · refine iteN (by simp [cr]) ?_
          exact ⟨us, fx, h9, lu, by omega, au9, fxo, nd, fm', hB9.up (by omega), k8.trans k9⟩
      rintro H8 ⟨us, fx, h8, lu, lfx, au, fxo, nd, _, hB8, k8⟩
      rw [List.length_map] at lfx hB8
      refine gn ?_
      have k38 := k37.trans k8
      have aqk : ∀ {H'}, Kp [b] H7 H' → PastL H' p past := fun {H'} k => ⟨as, k _ _ hp7 (by simpa using hB6.off fp), ⟨aq7.len, fun m t st e1 e2 => k _ _ (aq7.row m t st e1 e2) fun w => by
        obtain ⟨_, _, _, eb, _⟩ := hB7.ex
        have := aq7.row m t st e1 e2
        rw [List.mem_singleton.mp w, eb] at this
        cases this⟩⟩
      have PA : PairsAt K H8 d true fx := ⟨us, SqL.of h8, lu, au⟩
      have fb : ∀ q ∈ fx, -900 ≤ q.2 ∧ q.2 ≤ 900 := fun q hq => by
        obtain ⟨_, f1, f2, f3, f4⟩ := fxo q hq
        obtain ⟨sr, es⟩ : ∃ sr, steps[q.1.toNat]? = some sr := ⟨steps[q.1.toNat]'(by omega), by simp⟩
        rw [tops_get es] at f4
        have := L4 sr (List.mem_of_getElem? es)
        omega
      have pb : ∀ q ∈ past, q.length = c ∧ Bd 900 q := fun q hq => ⟨(tb q hq).1, fun y hy => by have := (tb q hq).2 y hy; omega⟩
      refine nx_of ⟨_, rfl, _, rfl, _, rfl, rfl, rfl, x, p, d, 8, true, rows, steps, ws, past, fx, [b], [], 12, c, rfl, (hA.keep k38).s, (aqk k8).past, PA, nd, by omega, by omega, by omega, by omega, pb, hlr, hls, c12, by decide, by decide, BW, BR, fun r hr => Nat.le_trans (L4 r hr) (by decide), fb, fun b hb => by simp at hb, fun qa H9 fq k9 dq => gn ?_⟩
      have rin := goR_inH (n := 8) (past := past.map (hold fx)) (fun r hr => (W3.row r hr).1) hlr hls gr.rg.rg gr.fm (by rw [List.length_map]; exact lp) (fun q hq => by
        obtain ⟨q', hq', rfl⟩ := List.mem_map.mp hq
        exact hold_in (rp q' hq') fxo) fxo
      have lgo := goR_len (rows := rows) (steps := steps) (ws := ws) (fx := fx) (f := past.map (hold fx)) 8
      rw [List.length_map] at lgo
      obtain ⟨ls9, hls9, als9⟩ := dq.pastL
      have k39 := k38.trans (k9.sub (by simp))
      have k79 : Kp [b] H7 H9 := k8.trans (k9.sub (by simp))
      refine nx_of ⟨_, rfl, _, rfl, _, rfl, qa, pa, ca, ls9, _, topsOf steps, st, G, c, rfl, hls9, als9, (W3.keep k39).hp, (k7.trans k79) _ _ hca6 (by simpa using ncb), hlt, c12, by omega, by omega, gr.rg.rg, rin, fun H10 k10 => ⟨_, rfl, iteN (by rfl) ?_⟩⟩
      have k3A := k39.trans (k10.sub (by simp))
      have k7A := k79.trans (k10.sub (by simp))
      refine nx_of ⟨_, rfl, _, rfl, x, p, _, 5, false, rows, steps, ws, past, [], [b], [], 12, c, rfl, (hA.keep k3A).s, (aqk k7A).past, dflH.pairs H10, by simp, by decide, by omega, by omega, by omega, pb, hlr, hls, c12, by decide, by decide, BW, BR, fun r hr => Nat.le_trans (L4 r hr) (by decide), fun q hq => by simp at hq, fun b hb => by simp at hb, fun qb H11 fqb k11 db => ?_⟩
      have e1 : past.map (hold []) = past := by
        rw [List.map_congr_left (g := id) fun p _ => hold_nil p, List.map_id]
      rw [e1] at db
      have k3B := k3A.trans (k11.sub (by simp))
      have k7B := k7A.trans (k11.sub (by simp))
      have WB := W3.keep k3B
      obtain ⟨asB, hpB, aqB⟩ := aqk k7B
      refine ⟨_, rfl, _, rfl, _, rfl, _, rfl, b, ra, sa, ma, p, 5, rows, steps, ws, asB, past, c, rfl, WB.dr, WB.ds, WB.hm, hpB, aqB, by omega, by omega, by decide, fun q hq => (tb q hq).1, hlr, hls, fun r hr => ⟨(W3.row r hr).1, BR r hr⟩, BW, fun v qs H12 fv k12 hv aqv => ?_⟩
      have rin5 := goR_in (n := 5) (fun r hr => (W3.row r hr).1) hlr hls gr.rg.rg gr.fm lp rp
      have lg5 := goR_len (rows := rows) (steps := steps) (ws := ws) (fx := []) (f := past) 5
      have dv : D [] H12 17 2 (.ref v) (dLT (goR rows steps ws [] 5 past)) := .lst hv (by simp) (by rw [List.length_map, aqv.len]; omega) (aqv.da fun q hq => by
        have RI := rin5 q hq
        refine ⟨by rw [RI.len]; omega, fun y hy => ?_⟩
        obtain ⟨j, hj, ej⟩ := List.getElem_of_mem hy
        have lR := RI.len
        have g := RI.bd hs hls L4 j (by omega)
        have eg : q.getD j 0 = y := by
          have e1 := get_getD (a := q) hj
          rw [List.getElem?_eq_getElem hj, ej] at e1
          exact (Option.some.inj e1).symm
        rw [eg] at g
        omega)
      refine ⟨.ref qb, .ref v, _, [], [], 17, 2, rfl, db.keep k12, dv, by decide, by decide, fun H13 k13 => ⟨_, rfl, iteN (by rfl) ?_⟩⟩
      have k3C := k3B.trans ((k12.trans k13).sub (by simp))
      have k7C := k7B.trans ((k12.trans k13).sub (by simp))
      refine nx_of ⟨_, rfl, _, rfl, _, rfl, _, rfl, _, rfl, _, rfl, _, rfl, b, x, ra, sa, ma, pa, ca, oa, rows, steps, ws, st, G, O, c, _, rfl, W3.keep k3C, hA.keep k3C, (k7.trans k7C) _ _ hca6 (by simpa using ncb), ncb, gr.rg, gr.fm, k7C _ _ hO7 (by simpa using noab), noab, O1, by omega, (((hB8.keep k9 (by simp)).keep k10 (by simp)).keep k11 (by simp)).keep (k12.trans k13) (by simp), by omega, fun H14 k14 hB14 => ⟨_, rfl, iteN (by rfl) ?_⟩⟩
      exact ⟨_, _, _, _, rfl, hB14.up (by omega), k6.trans (k7.trans (k7C.trans k14))⟩
    · rintro σ H6 ⟨o5, o11, o12, o13, rfl, hB6, k6⟩
      have k36 := k35.trans k6
      have W6 := W3.keep k36
      have hO6 := k6 _ _ hO (by simpa using noab)
      refine nx_of ⟨_, rfl, _, rfl, _, rfl, _, rfl, b, ra, sa, oa, rows, steps, O, c, _, rfl, hB6, by omega, W6.dr, W6.ds, hO6, noab, fun g hg => ⟨(O1 g hg).1, (O1 g hg).2.1⟩, by omega, c12, ⟨hlr, W6.row, hls, W6.step, fun i _ => ⟨rfl, rfl⟩, rfl⟩, fun t3 m u rows' steps' H7 ft3 k7 ht3 DM DU ot hB7 => ?_⟩
      refine ⟨t3, _, rfl, SqT.of ht3, rfl, _, _, rfl, _, _, rfl, rfl, ?_⟩
      have W7 := W6.keep k7
      have olr := ot.lr
      have ols := ot.ls
      have oc1 := W7.c1
      refine ⟨_, rfl, _, rfl, _, rfl, fun x2 dx2 fx2 fdx2 nxd2 => ?_⟩
      refine init_of fx2 fdx2 nxd2 hB7 DM DU (D.ofInts W7.hm (by simpa using W7.nm) (by omega) fun y hy => by have := W7.wt.bd y hy; omega) ⟨by omega, fun r hr => by rw [(ot.row r hr).1, olr], by omega, fun r hr => (ot.step r hr).1, W7.wt.l1, W7.wt.l5, W7.wt.nz⟩ fun H8 hA2 k8 => ⟨rfl, ?_⟩
      have W8' := W7.keep (k8 _)
      have W8 : Wd H8 b m u ma pa rows' steps' ws st c := ⟨DM.keep (k8 _), DU.keep (k8 _), W8'.hm, W8'.nm, W8'.hp, W8'.np, W8'.c1, W8'.c12, olr, ot.row, ols, ot.step, W8'.wt, W8'.lst, W8'.sb⟩
      have k68 : Kp [b] H6 H8 := k7.trans (k8 _)
      have k38 := k36.trans k68
      have hca8 := (k6.trans k68) _ _ hca5 (by simpa using ncb)
      have hO8 := k68 _ _ hO6 (by simpa using noab)
      have fm' : Fm rows' steps' ws st c G := ot.fm gr.fm gr.rg.rg fun g hg hgO => (O1 g hgO).2.2 hg
      have hB8 := hB7.keep (k8 []) (by simp)
      refine nx_of ⟨_, rfl, _, rfl, _, rfl, x2, pa, ca, rows', steps', ws, st, G, [b], 12, c, true, rfl, W8.grp hA2 hca8 gr.rg.rg, by omega, fun H9 k9 => ?_⟩
      rw [show ((G.map fun g => stB rows' steps' ws st G c g.toNat).all id) = true by rw [List.all_map, List.all_eq_true]; exact fm']
      refine ⟨_, _, rfl, rfl, _, rfl, iteN (by rfl) ?_⟩
      have W9 := W8.keep (k9.sub (by simp))
      have hB9 := hB8.keep k9 (by simp)
      refine nx_of ⟨_, rfl, _, rfl, _, rfl, _, rfl, _, rfl, _, rfl, _, rfl, b, x2, m, u, ma, pa, ca, oa, rows', steps', ws, st, G, O, c, _, rfl, W9, hA2.keep (k9.sub (by simp)), k9 _ _ hca8 (by simp), ncb, gr.rg, fm', k9 _ _ hO8 (by simp), noab, O1, by omega, hB9, by omega, fun H10 k10 hB10 => ⟨_, rfl, iteN (by rfl) ?_⟩⟩
      have k3A := k38.trans ((k9.sub (by simp)).trans k10)
      refine nx_of ⟨_, rfl, _, rfl, _, rfl, _, rfl, _, rfl, _, rfl, _, rfl, x, pa, rows, steps, ws, st, [b], 12, c, rfl, mk H10 k3A, hs, hA.keep k3A, hlr, by omega, fun mo ts gs G' H11 fmo k11 hmo mv lgs gr' hm => ?_⟩
      have k3B := k3A.trans (k11.sub (by simp))
      exact ⟨b, x, ra, sa, ma, pa, mo, rows, steps, ws, st, c, ts, gs, rfl, W3.keep k3B, hA.keep k3B, hmo, mv, lgs, hs, fun H12 k12 => q H12 (k03.trans (k3B.trans (k12.sub (by simp)))) ((hB10.keep (k11.trans k12) (by simp)).up (by omega))⟩

end
end Sw

set_option maxHeartbeats 2000000
namespace Sw
open PySem PySem.Spec PyProof.Rows L2
section
variable {P : Program} {w : World} {K : PySem.W.Frag} {mg : Str → Option Value} {base : Heap}
def sp_law (K : PySem.W.Frag) : Sp := fun vs H Q _ => ∃ (a : Addr) (ns : List Int), vs = [.ref a] ∧ SqL K H a (ns.map V.int) ∧ ns.length ≤ 63 ∧ ∀ H', Q (.bl true) H'
theorem ok_law (T : Tx K mg) (dflH : DfE K (kwAt ("history", none) "held" K)) (dflL : DfE K (kwAt ("lean", none) "held" K)) (dflS : DfE K (kwAt ("Sway", some "__init__") "held" K)) : FnG P w K mg base 17 (He.fAd K ("law", none)) T.fd_law p_law (sp_law K) := by
  have G__law_right := ok_right (P := P) (w := w) (base := base) T dflH dflL dflS
  have G__law_box := ok_box (P := P) (w := w) (base := base) T
  refine okG T.F_law sc_law (fun vs H Q E h => ?_) (fun cdv A outer s H vs Q E hG hr h => ?_)
  · obtain ⟨_, _, rfl, _⟩ := h
    rfl
  · obtain ⟨a, ns, rfl, hS, hl, q⟩ := h
    refine ⟨_, PSs.nox (pss_cons (ps_for PassesOwn.never rfl (pi_range1 (by rfl) T.b_range (pa_cons (pe_callB (call_max2 rfl) (by rfl) T.b_max (by decide +kernel) (pa_cons pe_int (pa_cons (pe_callB (call_min2 rfl) (by rfl) T.b_min (by decide +kernel) (pa_cons pe_int (pa_cons (pe_callB call_len (by rfl) T.b_len (by decide +kernel) (pa_cons (pv 0) pa_nil)) pa_nil))) pa_nil))) pa_nil)) (pg_name (i := 1) sc_law.nd rfl (by first | exact Or.inl rfl | exact Or.inr rfl))
      (pss_cons (ps_set (i := 2) sc_law.nd rfl (by first | exact Or.inl rfl | exact Or.inr rfl) (pe_call G__law_box (hr.mono (by first | decide | omega)) rfl T.g__law_box T.F__law_box.kp T.bd__law_box .nil pass0 (pa_cons (pv 0) (pa_cons (pv 1) pa_nil))))
      (pss_one (ps_if (pt_not (pt_val (pe_callB (cr_all rfl) (by rfl) T.b_all (by decide +kernel) (pa_cons (pe_lc (own := [("_law_turn", 3)]) (g := (gName 3)) (tt := tYes) rfl sc_law.nd (pi_range1 (by rfl) T.b_range (pa_cons pe_int pa_nil)) (blkOk_by (own := [("_law_turn", 3)]) (N := n_law) (sc := defScope s_law) (by decide +kernel)) (fun _ _ _ _ _ => (pg_name (i := 3) sc_law.nd rfl (by first | exact Or.inl rfl | exact Or.inr rfl))) (fun _ _ _ _ _ => pts_nil) (fun _ _ _ _ _ => (pe_call G__law_right (hr.mono (by first | decide | omega)) rfl T.g__law_right T.F__law_right.kp T.bd__law_right .nil pass0 (pa_cons (pv 2) pa_nil)))) pa_nil))))
      (pss_one (ps_ret pe_bl))
      pss_nil))))
      (pss_one (ps_ret pe_bl))), ?_⟩
    refine ⟨_, rfl, _, ns.length, rfl, .inl ⟨_, hS, (List.length_map ..).symm⟩, _, _, rfl, _, _, rfl, ?_⟩
    obtain ⟨cn, ecn, cb⟩ : ∃ cn : Int, (if (if (ns.length : Int) < 3 then (ns.length : Int) else 3) > 1 then (if (ns.length : Int) < 3 then (ns.length : Int) else 3) else 1) = cn ∧ 1 ≤ cn ∧ cn ≤ 4 := ⟨_, rfl, by split <;> split at * <;> omega, by split <;> split at * <;> omega⟩
    refine ⟨cn, by rw [← ecn], by omega, by omega, for_range (n := cn.toNat) (fun j σ H3 => ∃ (o1 o2 : Option V), σ = [some (.ref a), o1, o2, none] ∧ Kp [] H H3) ?_ ?_ ?_⟩
    · exact ⟨_, _, rfl, Kp.rfl'⟩
    · rintro j σ H3 hj ⟨o1, o2, rfl, k3⟩
      refine gn ?_
      refine ⟨_, rfl, _, rfl, a, ns, _, rfl, k3.same.seq hS, by omega, by omega, fun bx H4 fbx hB4 k4 => ?_⟩
      refine ⟨2, rfl, by decide, by decide, fun d hd => lc_range (n := 2) (fun i H5 => H5 d = some (.lst ((List.replicate i true).map V.bl)) ∧ Bx H5 bx (5000 * i) ∧ Kp [bx] H4 H5) ?_ ?_ ?_⟩
      · exact ⟨by rw [upd_same]; rfl, hB4.keep (Kp.rfl'.new (bs := []) hd) (by simp), Kp.rfl'.new hd⟩
      · rintro i H5 hi ⟨h5, hB5, k5⟩
        have nd := hB4.off hd
        refine ⟨rfl, yesT ⟨_, rfl, bx, _, rfl, hB5, by omega, fun H6 k6 hB6 => ?_⟩⟩
        refine ⟨_, k6 _ _ h5 (by simpa using nd), by simp only [List.length_map, List.length_replicate]; exact small1000 (by omega), by rw [upd_same, rep_snoc], (hB6.keep (Kp.rfl'.put (bs := [d]) (by simp)) (by simpa using nd.symm)).up (by omega), (k5.trans k6).own hd⟩
      rintro H5 ⟨h5, hB5, k5⟩
      refine ⟨d, _, rfl, SqL.of h5, _, rfl, ?_⟩
      rw [rep_all]
      refine iteF ?_
      exact ⟨_, _, rfl, fun c o e _ => k5 c o (k4 c o (k3 c o e (by simp)) (by simp)) (by simpa using ne_of_none (k3 c o e (by simp)) fbx)⟩
    · rintro σ H3 ⟨o1, o2, rfl, k3⟩
      exact q _
theorem bd_Hall___init__ {f : Addr} {fd : FuncData} (F : FunD K "__init__" "Hall.__init__" (defArgs s_Hall___init__) (defBody s_Hall___init__) (defScope s_Hall___init__) [V.ref (He.dflAt ("Hall", some "__init__") 0 K)] [] f fd) : Binds K fd p_Hall___init__ [] := by
  obtain ⟨ds, r, bd⟩ := F.binds1 (ps := p_Hall___init__) 4 1 (by simp) rfl (fun T kV doc pm an cdv ct us its h1 h2 => match us, its, h1, h2 with | [_, _, _, _], [_], _, _ => ⟨_, rfl, rfl⟩)
  cases r
  exact bd
theorem bd_Sway_beat {f : Addr} {fd : FuncData} (F : FunD K "beat" "Sway.beat" (defArgs s_Sway_beat) (defBody s_Sway_beat) (defScope s_Sway_beat) [V.int 1] [] f fd) : Binds K fd p_Sway_beat [] := by
  obtain ⟨ds, r, bd⟩ := F.binds1 (ps := p_Sway_beat) 2 1 (by simp) rfl (fun T kV doc pm an cdv ct us its h1 h2 => match us, its, h1, h2 with | [_, _], [_], _, _ => ⟨_, rfl, rfl⟩)
  cases r
  exact bd
def dd_is_number : He.DefD := ⟨("is_number", none), "is_number", "is_number", defArgs s_is_number, defBody s_is_number, defScope s_is_number, [], []⟩
def dd_are_numbers : He.DefD := ⟨("are_numbers", none), "are_numbers", "are_numbers", defArgs s_are_numbers, defBody s_are_numbers, defScope s_are_numbers, [], []⟩
def dd_are_rows : He.DefD := ⟨("are_rows", none), "are_rows", "are_rows", defArgs s_are_rows, defBody s_are_rows, defScope s_are_rows, [], []⟩
def dd_does_rise : He.DefD := ⟨("does_rise", none), "does_rise", "does_rise", defArgs s_does_rise, defBody s_does_rise, defScope s_does_rise, [], []⟩
def dd_are_strings : He.DefD := ⟨("are_strings", none), "are_strings", "are_strings", defArgs s_are_strings, defBody s_are_strings, defScope s_are_strings, [], []⟩
def dd_is_ladder : He.DefD := ⟨("is_ladder", none), "is_ladder", "is_ladder", defArgs s_is_ladder, defBody s_is_ladder, defScope s_is_ladder, [], []⟩
def dd_are_steps : He.DefD := ⟨("are_steps", none), "are_steps", "are_steps", defArgs s_are_steps, defBody s_are_steps, defScope s_are_steps, [], []⟩
def dd_is_memory : He.DefD := ⟨("is_memory", none), "is_memory", "is_memory", defArgs s_is_memory, defBody s_is_memory, defScope s_is_memory, [], []⟩
def dd_as_tuples : He.DefD := ⟨("as_tuples", none), "as_tuples", "as_tuples", defArgs s_as_tuples, defBody s_as_tuples, defScope s_as_tuples, [], []⟩
def dd_Hall___init__ : He.DefD := ⟨("Hall", some "__init__"), "__init__", "Hall.__init__", defArgs s_Hall___init__, defBody s_Hall___init__, defScope s_Hall___init__, [.adr (He.dflAt ("Hall", some "__init__") 0)], []⟩
def dd_Hall_strings : He.DefD := ⟨("Hall", some "strings"), "strings", "Hall.strings", defArgs s_Hall_strings, defBody s_Hall_strings, defScope s_Hall_strings, [], []⟩
def dd_Hall_steps : He.DefD := ⟨("Hall", some "steps"), "steps", "Hall.steps", defArgs s_Hall_steps, defBody s_Hall_steps, defScope s_Hall_steps, [], []⟩
def dd_Hall_memory : He.DefD := ⟨("Hall", some "memory"), "memory", "Hall.memory", defArgs s_Hall_memory, defBody s_Hall_memory, defScope s_Hall_memory, [], []⟩
def dd_Hall_tops : He.DefD := ⟨("Hall", some "tops"), "tops", "Hall.tops", defArgs s_Hall_tops, defBody s_Hall_tops, defScope s_Hall_tops, [], []⟩
def dd_Hall___len__ : He.DefD := ⟨("Hall", some "__len__"), "__len__", "Hall.__len__", defArgs s_Hall___len__, defBody s_Hall___len__, defScope s_Hall___len__, [], []⟩
def dd_is_person : He.DefD := ⟨("is_person", none), "is_person", "is_person", defArgs s_is_person, defBody s_is_person, defScope s_is_person, [], []⟩
def dd_is_posture : He.DefD := ⟨("is_posture", none), "is_posture", "is_posture", defArgs s_is_posture, defBody s_is_posture, defScope s_is_posture, [], []⟩
def dd_weighed : He.DefD := ⟨("weighed", none), "weighed", "weighed", defArgs s_weighed, defBody s_weighed, defScope s_weighed, [], []⟩
def dd_pulled_by : He.DefD := ⟨("pulled_by", none), "pulled_by", "pulled_by", defArgs s_pulled_by, defBody s_pulled_by, defScope s_pulled_by, [], []⟩
def dd_pulls : He.DefD := ⟨("pulls", none), "pulls", "pulls", defArgs s_pulls, defBody s_pulls, defScope s_pulls, [], []⟩
def dd_reached : He.DefD := ⟨("reached", none), "reached", "reached", defArgs s_reached, defBody s_reached, defScope s_reached, [], []⟩
def dd_as_held : He.DefD := ⟨("as_held", none), "as_held", "as_held", defArgs s_as_held, defBody s_as_held, defScope s_as_held, [], []⟩
def dd_grips_of : He.DefD := ⟨("grips_of", none), "grips_of", "grips_of", defArgs s_grips_of, defBody s_grips_of, defScope s_grips_of, [], []⟩
def dd_leant : He.DefD := ⟨("leant", none), "leant", "leant", defArgs s_leant, defBody s_leant, defScope s_leant, [], []⟩
def dd_leant_to : He.DefD := ⟨("leant_to", none), "leant_to", "leant_to", defArgs s_leant_to, defBody s_leant_to, defScope s_leant_to, [], []⟩
def dd_lean : He.DefD := ⟨("lean", none), "lean", "lean", defArgs s_lean, defBody s_lean, defScope s_lean, [], [("held", .adr (kwAt ("lean", none) "held"))]⟩
def dd_history : He.DefD := ⟨("history", none), "history", "history", defArgs s_history, defBody s_history, defScope s_history, [], [("held", .adr (kwAt ("history", none) "held"))]⟩
def dd_Sway___init__ : He.DefD := ⟨("Sway", some "__init__"), "__init__", "Sway.__init__", defArgs s_Sway___init__, defBody s_Sway___init__, defScope s_Sway___init__, [], [("held", .adr (kwAt ("Sway", some "__init__") "held"))]⟩
def dd_Sway_beat : He.DefD := ⟨("Sway", some "beat"), "beat", "Sway.beat", defArgs s_Sway_beat, defBody s_Sway_beat, defScope s_Sway_beat, [.int 1], []⟩
def dd_Sway_past : He.DefD := ⟨("Sway", some "past"), "past", "Sway.past", defArgs s_Sway_past, defBody s_Sway_past, defScope s_Sway_past, [], []⟩
def dd_Sway_hold : He.DefD := ⟨("Sway", some "hold"), "hold", "Sway.hold", defArgs s_Sway_hold, defBody s_Sway_hold, defScope s_Sway_hold, [], []⟩
def dd_Sway_loose : He.DefD := ⟨("Sway", some "loose"), "loose", "Sway.loose", defArgs s_Sway_loose, defBody s_Sway_loose, defScope s_Sway_loose, [], []⟩
def dd_far_past : He.DefD := ⟨("far_past", none), "far_past", "far_past", defArgs s_far_past, defBody s_far_past, defScope s_far_past, [], []⟩
def dd_moving_past : He.DefD := ⟨("moving_past", none), "moving_past", "moving_past", defArgs s_moving_past, defBody s_moving_past, defScope s_moving_past, [], []⟩
def dd_is_firm : He.DefD := ⟨("is_firm", none), "is_firm", "is_firm", defArgs s_is_firm, defBody s_is_firm, defScope s_is_firm, [], []⟩
def dd_mover_in : He.DefD := ⟨("mover_in", none), "mover_in", "mover_in", defArgs s_mover_in, defBody s_mover_in, defScope s_mover_in, [], []⟩
def dd_movers : He.DefD := ⟨("movers", none), "movers", "movers", defArgs s_movers, defBody s_movers, defScope s_movers, [], []⟩
def dd_firm_of : He.DefD := ⟨("firm_of", none), "firm_of", "firm_of", defArgs s_firm_of, defBody s_firm_of, defScope s_firm_of, [], []⟩
def dd__law_box : He.DefD := ⟨("_law_box", none), "_law_box", "_law_box", defArgs s__law_box, defBody s__law_box, defScope s__law_box, [], []⟩
def dd__law_take : He.DefD := ⟨("_law_take", none), "_law_take", "_law_take", defArgs s__law_take, defBody s__law_take, defScope s__law_take, [], []⟩
def dd__law_same : He.DefD := ⟨("_law_same", none), "_law_same", "_law_same", defArgs s__law_same, defBody s__law_same, defScope s__law_same, [], []⟩
def dd__law_steps : He.DefD := ⟨("_law_steps", none), "_law_steps", "_law_steps", defArgs s__law_steps, defBody s__law_steps, defScope s__law_steps, [], []⟩
def dd__law_memory : He.DefD := ⟨("_law_memory", none), "_law_memory", "_law_memory", defArgs s__law_memory, defBody s__law_memory, defScope s__law_memory, [], []⟩
def dd__law_standing : He.DefD := ⟨("_law_standing", none), "_law_standing", "_law_standing", defArgs s__law_standing, defBody s__law_standing, defScope s__law_standing, [], []⟩
def dd__law_span : He.DefD := ⟨("_law_span", none), "_law_span", "_law_span", defArgs s__law_span, defBody s__law_span, defScope s__law_span, [], []⟩
def dd__law_planned : He.DefD := ⟨("_law_planned", none), "_law_planned", "_law_planned", defArgs s__law_planned, defBody s__law_planned, defScope s__law_planned, [], []⟩
def dd__law_pull : He.DefD := ⟨("_law_pull", none), "_law_pull", "_law_pull", defArgs s__law_pull, defBody s__law_pull, defScope s__law_pull, [], []⟩
def dd__law_leaned : He.DefD := ⟨("_law_leaned", none), "_law_leaned", "_law_leaned", defArgs s__law_leaned, defBody s__law_leaned, defScope s__law_leaned, [], []⟩
def dd__law_gone : He.DefD := ⟨("_law_gone", none), "_law_gone", "_law_gone", defArgs s__law_gone, defBody s__law_gone, defScope s__law_gone, [], []⟩
def dd__law_some_past : He.DefD := ⟨("_law_some_past", none), "_law_some_past", "_law_some_past", defArgs s__law_some_past, defBody s__law_some_past, defScope s__law_some_past, [], []⟩
def dd__law_stand_so : He.DefD := ⟨("_law_stand_so", none), "_law_stand_so", "_law_stand_so", defArgs s__law_stand_so, defBody s__law_stand_so, defScope s__law_stand_so, [], []⟩
def dd__law_played_right : He.DefD := ⟨("_law_played_right", none), "_law_played_right", "_law_played_right", defArgs s__law_played_right, defBody s__law_played_right, defScope s__law_played_right, [], []⟩
def dd__law_otherwise : He.DefD := ⟨("_law_otherwise", none), "_law_otherwise", "_law_otherwise", defArgs s__law_otherwise, defBody s__law_otherwise, defScope s__law_otherwise, [], []⟩
def dd__law_moved_right : He.DefD := ⟨("_law_moved_right", none), "_law_moved_right", "_law_moved_right", defArgs s__law_moved_right, defBody s__law_moved_right, defScope s__law_moved_right, [], []⟩
def dd__law_right : He.DefD := ⟨("_law_right", none), "_law_right", "_law_right", defArgs s__law_right, defBody s__law_right, defScope s__law_right, [], []⟩
def dd_law : He.DefD := ⟨("law", none), "law", "law", defArgs s_law, defBody s_law, defScope s_law, [], []⟩
def fn : List He.DefD := [dd_is_number, dd_are_numbers, dd_are_rows, dd_does_rise, dd_are_strings, dd_is_ladder, dd_are_steps, dd_is_memory, dd_as_tuples, dd_Hall___init__, dd_Hall_strings, dd_Hall_steps, dd_Hall_memory, dd_Hall_tops, dd_Hall___len__, dd_is_person, dd_is_posture, dd_weighed, dd_pulled_by, dd_pulls, dd_reached, dd_as_held, dd_grips_of, dd_leant, dd_leant_to, dd_lean, dd_history, dd_Sway___init__, dd_Sway_beat, dd_Sway_past, dd_Sway_hold, dd_Sway_loose, dd_far_past, dd_moving_past, dd_is_firm, dd_mover_in, dd_movers, dd_firm_of, dd__law_box, dd__law_take, dd__law_same, dd__law_steps, dd__law_memory, dd__law_standing, dd__law_span, dd__law_planned, dd__law_pull, dd__law_leaned, dd__law_gone, dd__law_some_past, dd__law_stand_so, dd__law_played_right, dd__law_otherwise, dd__law_moved_right, dd__law_right, dd_law]
def fa : List He.Fa := [.free "abs", .free "all", .free "bool", .free "enumerate", .free "int", .free "isinstance", .free "len", .free "list", .free "max", .free "min", .free "range", .free "str", .free "sum", .free "tuple", .free "zip", .int "MOST_STEPS" 4, .int "MOST_WEIGHTS" 5, .glo "Hall", .cls "Hall", .mkr "Hall", .noat "Hall" "string_rows", .noat "Hall" "step_rows", .noat "Hall" "weights", .glo "Sway", .cls "Sway", .mkr "Sway", .noat "Sway" "home", .noat "Sway" "grips", .noat "Sway" "standings", .noat "Sway" "gone", .glo "is_number", .glo "are_numbers", .glo "are_rows", .glo "does_rise", .glo "are_strings", .glo "is_ladder", .glo "are_steps", .glo "is_memory", .glo "as_tuples", .meth "Hall" "strings", .meth "Hall" "steps", .meth "Hall" "memory", .meth "Hall" "tops", .meth "Hall" "__len__", .glo "is_person", .glo "is_posture", .glo "weighed", .glo "pulled_by", .glo "pulls", .glo "reached", .glo "as_held", .glo "grips_of", .glo "leant", .glo "leant_to", .glo "lean", .glo "history", .meth "Sway" "beat", .meth "Sway" "past", .meth "Sway" "hold", .meth "Sway" "loose", .glo "far_past", .glo "moving_past", .glo "is_firm", .glo "mover_in", .glo "movers", .glo "firm_of", .glo "_law_box", .glo "_law_take", .glo "_law_same", .glo "_law_steps", .glo "_law_memory", .glo "_law_standing", .glo "_law_span", .glo "_law_planned", .glo "_law_pull", .glo "_law_leaned", .glo "_law_gone", .glo "_law_some_past", .glo "_law_stand_so", .glo "_law_played_right", .glo "_law_otherwise", .glo "_law_moved_right", .glo "_law_right", .glo "law"]
theorem tx_of {K : PySem.W.Frag} {h : Heap} {mg : Str → Option Value} (X : K.In h) (G : h.Ns mainGlobals mg) (c : He.SaysD fa fn K) : Nonempty (Tx K mg) := by
  obtain ⟨t_MOST_STEPS, h_MOST_STEPS⟩ := He.int_ok X G (c.fact 15 (f := .int "MOST_STEPS" 4) rfl)
  obtain ⟨t_MOST_WEIGHTS, h_MOST_WEIGHTS⟩ := He.int_ok X G (c.fact 16 (f := .int "MOST_WEIGHTS" 5) rfl)
  obtain ⟨fd_is_number, F_is_number⟩ := c.def_ 0 (d := dd_is_number) rfl
  obtain ⟨fd_are_numbers, F_are_numbers⟩ := c.def_ 1 (d := dd_are_numbers) rfl
  obtain ⟨fd_are_rows, F_are_rows⟩ := c.def_ 2 (d := dd_are_rows) rfl
  obtain ⟨fd_does_rise, F_does_rise⟩ := c.def_ 3 (d := dd_does_rise) rfl
  obtain ⟨fd_are_strings, F_are_strings⟩ := c.def_ 4 (d := dd_are_strings) rfl
  obtain ⟨fd_is_ladder, F_is_ladder⟩ := c.def_ 5 (d := dd_is_ladder) rfl
  obtain ⟨fd_are_steps, F_are_steps⟩ := c.def_ 6 (d := dd_are_steps) rfl
  obtain ⟨fd_is_memory, F_is_memory⟩ := c.def_ 7 (d := dd_is_memory) rfl
  obtain ⟨fd_as_tuples, F_as_tuples⟩ := c.def_ 8 (d := dd_as_tuples) rfl
  obtain ⟨fd_Hall___init__, F_Hall___init__⟩ := c.def_ 9 (d := dd_Hall___init__) rfl
  obtain ⟨fd_Hall_strings, F_Hall_strings⟩ := c.def_ 10 (d := dd_Hall_strings) rfl
  obtain ⟨fd_Hall_steps, F_Hall_steps⟩ := c.def_ 11 (d := dd_Hall_steps) rfl
  obtain ⟨fd_Hall_memory, F_Hall_memory⟩ := c.def_ 12 (d := dd_Hall_memory) rfl
  obtain ⟨fd_Hall_tops, F_Hall_tops⟩ := c.def_ 13 (d := dd_Hall_tops) rfl
  obtain ⟨fd_Hall___len__, F_Hall___len__⟩ := c.def_ 14 (d := dd_Hall___len__) rfl
  obtain ⟨fd_is_person, F_is_person⟩ := c.def_ 15 (d := dd_is_person) rfl
  obtain ⟨fd_is_posture, F_is_posture⟩ := c.def_ 16 (d := dd_is_posture) rfl
  obtain ⟨fd_weighed, F_weighed⟩ := c.def_ 17 (d := dd_weighed) rfl
  obtain ⟨fd_pulled_by, F_pulled_by⟩ := c.def_ 18 (d := dd_pulled_by) rfl
  obtain ⟨fd_pulls, F_pulls⟩ := c.def_ 19 (d := dd_pulls) rfl
  obtain ⟨fd_reached, F_reached⟩ := c.def_ 20 (d := dd_reached) rfl
  obtain ⟨fd_as_held, F_as_held⟩ := c.def_ 21 (d := dd_as_held) rfl
  obtain ⟨fd_grips_of, F_grips_of⟩ := c.def_ 22 (d := dd_grips_of) rfl
  obtain ⟨fd_leant, F_leant⟩ := c.def_ 23 (d := dd_leant) rfl
  obtain ⟨fd_leant_to, F_leant_to⟩ := c.def_ 24 (d := dd_leant_to) rfl
  obtain ⟨fd_lean, F_lean⟩ := c.def_ 25 (d := dd_lean) rfl
  obtain ⟨fd_history, F_history⟩ := c.def_ 26 (d := dd_history) rfl
  obtain ⟨fd_Sway___init__, F_Sway___init__⟩ := c.def_ 27 (d := dd_Sway___init__) rfl
  obtain ⟨fd_Sway_beat, F_Sway_beat⟩ := c.def_ 28 (d := dd_Sway_beat) rfl
  obtain ⟨fd_Sway_past, F_Sway_past⟩ := c.def_ 29 (d := dd_Sway_past) rfl
  obtain ⟨fd_Sway_hold, F_Sway_hold⟩ := c.def_ 30 (d := dd_Sway_hold) rfl
  obtain ⟨fd_Sway_loose, F_Sway_loose⟩ := c.def_ 31 (d := dd_Sway_loose) rfl
  obtain ⟨fd_far_past, F_far_past⟩ := c.def_ 32 (d := dd_far_past) rfl
  obtain ⟨fd_moving_past, F_moving_past⟩ := c.def_ 33 (d := dd_moving_past) rfl
  obtain ⟨fd_is_firm, F_is_firm⟩ := c.def_ 34 (d := dd_is_firm) rfl
  obtain ⟨fd_mover_in, F_mover_in⟩ := c.def_ 35 (d := dd_mover_in) rfl
  obtain ⟨fd_movers, F_movers⟩ := c.def_ 36 (d := dd_movers) rfl
  obtain ⟨fd_firm_of, F_firm_of⟩ := c.def_ 37 (d := dd_firm_of) rfl
  obtain ⟨fd__law_box, F__law_box⟩ := c.def_ 38 (d := dd__law_box) rfl
  obtain ⟨fd__law_take, F__law_take⟩ := c.def_ 39 (d := dd__law_take) rfl
  obtain ⟨fd__law_same, F__law_same⟩ := c.def_ 40 (d := dd__law_same) rfl
  obtain ⟨fd__law_steps, F__law_steps⟩ := c.def_ 41 (d := dd__law_steps) rfl
  obtain ⟨fd__law_memory, F__law_memory⟩ := c.def_ 42 (d := dd__law_memory) rfl
  obtain ⟨fd__law_standing, F__law_standing⟩ := c.def_ 43 (d := dd__law_standing) rfl
  obtain ⟨fd__law_span, F__law_span⟩ := c.def_ 44 (d := dd__law_span) rfl
  obtain ⟨fd__law_planned, F__law_planned⟩ := c.def_ 45 (d := dd__law_planned) rfl
  obtain ⟨fd__law_pull, F__law_pull⟩ := c.def_ 46 (d := dd__law_pull) rfl
  obtain ⟨fd__law_leaned, F__law_leaned⟩ := c.def_ 47 (d := dd__law_leaned) rfl
  obtain ⟨fd__law_gone, F__law_gone⟩ := c.def_ 48 (d := dd__law_gone) rfl
  obtain ⟨fd__law_some_past, F__law_some_past⟩ := c.def_ 49 (d := dd__law_some_past) rfl
  obtain ⟨fd__law_stand_so, F__law_stand_so⟩ := c.def_ 50 (d := dd__law_stand_so) rfl
  obtain ⟨fd__law_played_right, F__law_played_right⟩ := c.def_ 51 (d := dd__law_played_right) rfl
  obtain ⟨fd__law_otherwise, F__law_otherwise⟩ := c.def_ 52 (d := dd__law_otherwise) rfl
  obtain ⟨fd__law_moved_right, F__law_moved_right⟩ := c.def_ 53 (d := dd__law_moved_right) rfl
  obtain ⟨fd__law_right, F__law_right⟩ := c.def_ 54 (d := dd__law_right) rfl
  obtain ⟨fd_law, F_law⟩ := c.def_ 55 (d := dd_law) rfl
  exact ⟨{ b_abs := He.free_ok X G (c.fact 0 (f := .free "abs") rfl), b_all := He.free_ok X G (c.fact 1 (f := .free "all") rfl), b_bool := He.free_ok X G (c.fact 2 (f := .free "bool") rfl), b_enumerate := He.free_ok X G (c.fact 3 (f := .free "enumerate") rfl), b_int := He.free_ok X G (c.fact 4 (f := .free "int") rfl), b_isinstance := He.free_ok X G (c.fact 5 (f := .free "isinstance") rfl), b_len := He.free_ok X G (c.fact 6 (f := .free "len") rfl), b_list := He.free_ok X G (c.fact 7 (f := .free "list") rfl), b_max := He.free_ok X G (c.fact 8 (f := .free "max") rfl), b_min := He.free_ok X G (c.fact 9 (f := .free "min") rfl), b_range := He.free_ok X G (c.fact 10 (f := .free "range") rfl), b_str := He.free_ok X G (c.fact 11 (f := .free "str") rfl), b_sum := He.free_ok X G (c.fact 12 (f := .free "sum") rfl), b_tuple := He.free_ok X G (c.fact 13 (f := .free "tuple") rfl), b_zip := He.free_ok X G (c.fact 14 (f := .free "zip") rfl), t_MOST_STEPS := t_MOST_STEPS, c_MOST_STEPS := h_MOST_STEPS, t_MOST_WEIGHTS := t_MOST_WEIGHTS, c_MOST_WEIGHTS := h_MOST_WEIGHTS, g_Hall := He.glo_ok X G (c.fact 17 (f := .glo "Hall") rfl), cl_Hall := He.cls_ok (c.fact 18 (f := .cls "Hall") rfl), mk_Hall := He.mkr_ok (c.fact 19 (f := .mkr "Hall") rfl), na_Hall_string_rows := He.noat_ok (c.fact 20 (f := .noat "Hall" "string_rows") rfl), na_Hall_step_rows := He.noat_ok (c.fact 21 (f := .noat "Hall" "step_rows") rfl), na_Hall_weights := He.noat_ok (c.fact 22 (f := .noat "Hall" "weights") rfl), g_Sway := He.glo_ok X G (c.fact 23 (f := .glo "Sway") rfl), cl_Sway := He.cls_ok (c.fact 24 (f := .cls "Sway") rfl), mk_Sway := He.mkr_ok (c.fact 25 (f := .mkr "Sway") rfl), na_Sway_home := He.noat_ok (c.fact 26 (f := .noat "Sway" "home") rfl), na_Sway_grips := He.noat_ok (c.fact 27 (f := .noat "Sway" "grips") rfl), na_Sway_standings := He.noat_ok (c.fact 28 (f := .noat "Sway" "standings") rfl), na_Sway_gone := He.noat_ok (c.fact 29 (f := .noat "Sway" "gone") rfl), fd_is_number := fd_is_number, F_is_number := F_is_number, g_is_number := He.glo_ok X G (c.fact 30 (f := .glo "is_number") rfl), bd_is_number := FunD.bindsN (ps := p_is_number) F_is_number fun _ _ _ _ _ _ us hl => match us, hl with | [_], _ => rfl, fd_are_numbers := fd_are_numbers, F_are_numbers := F_are_numbers, g_are_numbers := He.glo_ok X G (c.fact 31 (f := .glo "are_numbers") rfl), bd_are_numbers := FunD.bindsN (ps := p_are_numbers) F_are_numbers fun _ _ _ _ _ _ us hl => match us, hl with | [_], _ => rfl, fd_are_rows := fd_are_rows, F_are_rows := F_are_rows, g_are_rows := He.glo_ok X G (c.fact 32 (f := .glo "are_rows") rfl), bd_are_rows := FunD.bindsN (ps := p_are_rows) F_are_rows fun _ _ _ _ _ _ us hl => match us, hl with | [_], _ => rfl, fd_does_rise := fd_does_rise, F_does_rise := F_does_rise, g_does_rise := He.glo_ok X G (c.fact 33 (f := .glo "does_rise") rfl), bd_does_rise := FunD.bindsN (ps := p_does_rise) F_does_rise fun _ _ _ _ _ _ us hl => match us, hl with | [_], _ => rfl, fd_are_strings := fd_are_strings, F_are_strings := F_are_strings, g_are_strings := He.glo_ok X G (c.fact 34 (f := .glo "are_strings") rfl), bd_are_strings := FunD.bindsN (ps := p_are_strings) F_are_strings fun _ _ _ _ _ _ us hl => match us, hl with | [_], _ => rfl, fd_is_ladder := fd_is_ladder, F_is_ladder := F_is_ladder, g_is_ladder := He.glo_ok X G (c.fact 35 (f := .glo "is_ladder") rfl), bd_is_ladder := FunD.bindsN (ps := p_is_ladder) F_is_ladder fun _ _ _ _ _ _ us hl => match us, hl with | [_], _ => rfl, fd_are_steps := fd_are_steps, F_are_steps := F_are_steps, g_are_steps := He.glo_ok X G (c.fact 36 (f := .glo "are_steps") rfl), bd_are_steps := FunD.bindsN (ps := p_are_steps) F_are_steps fun _ _ _ _ _ _ us hl => match us, hl with | [_, _], _ => rfl, fd_is_memory := fd_is_memory, F_is_memory := F_is_memory, g_is_memory := He.glo_ok X G (c.fact 37 (f := .glo "is_memory") rfl), bd_is_memory := FunD.bindsN (ps := p_is_memory) F_is_memory fun _ _ _ _ _ _ us hl => match us, hl with | [_], _ => rfl, fd_as_tuples := fd_as_tuples, F_as_tuples := F_as_tuples, g_as_tuples := He.glo_ok X G (c.fact 38 (f := .glo "as_tuples") rfl), bd_as_tuples := FunD.bindsN (ps := p_as_tuples) F_as_tuples fun _ _ _ _ _ _ us hl => match us, hl with | [_], _ => rfl, fd_Hall___init__ := fd_Hall___init__, F_Hall___init__ := F_Hall___init__, bd_Hall___init__ := bd_Hall___init__ F_Hall___init__, fd_Hall_strings := fd_Hall_strings, F_Hall_strings := F_Hall_strings, m_Hall_strings := He.meth_ok (c.fact 39 (f := .meth "Hall" "strings") rfl), bd_Hall_strings := FunD.bindsN (ps := p_Hall_strings) F_Hall_strings fun _ _ _ _ _ _ us hl => match us, hl with | [_], _ => rfl, fd_Hall_steps := fd_Hall_steps, F_Hall_steps := F_Hall_steps, m_Hall_steps := He.meth_ok (c.fact 40 (f := .meth "Hall" "steps") rfl), bd_Hall_steps := FunD.bindsN (ps := p_Hall_steps) F_Hall_steps fun _ _ _ _ _ _ us hl => match us, hl with | [_], _ => rfl, fd_Hall_memory := fd_Hall_memory, F_Hall_memory := F_Hall_memory, m_Hall_memory := He.meth_ok (c.fact 41 (f := .meth "Hall" "memory") rfl), bd_Hall_memory := FunD.bindsN (ps := p_Hall_memory) F_Hall_memory fun _ _ _ _ _ _ us hl => match us, hl with | [_], _ => rfl, fd_Hall_tops := fd_Hall_tops, F_Hall_tops := F_Hall_tops, m_Hall_tops := He.meth_ok (c.fact 42 (f := .meth "Hall" "tops") rfl), bd_Hall_tops := FunD.bindsN (ps := p_Hall_tops) F_Hall_tops fun _ _ _ _ _ _ us hl => match us, hl with | [_], _ => rfl, fd_Hall___len__ := fd_Hall___len__, F_Hall___len__ := F_Hall___len__, m_Hall___len__ := He.meth_ok (c.fact 43 (f := .meth "Hall" "__len__") rfl), bd_Hall___len__ := FunD.bindsN (ps := p_Hall___len__) F_Hall___len__ fun _ _ _ _ _ _ us hl => match us, hl with | [_], _ => rfl, fd_is_person := fd_is_person, F_is_person := F_is_person, g_is_person := He.glo_ok X G (c.fact 44 (f := .glo "is_person") rfl), bd_is_person := FunD.bindsN (ps := p_is_person) F_is_person fun _ _ _ _ _ _ us hl => match us, hl with | [_, _], _ => rfl, fd_is_posture := fd_is_posture, F_is_posture := F_is_posture, g_is_posture := He.glo_ok X G (c.fact 45 (f := .glo "is_posture") rfl), bd_is_posture := FunD.bindsN (ps := p_is_posture) F_is_posture fun _ _ _ _ _ _ us hl => match us, hl with | [_, _, _], _ => rfl, fd_weighed := fd_weighed, F_weighed := F_weighed, g_weighed := He.glo_ok X G (c.fact 46 (f := .glo "weighed") rfl), bd_weighed := FunD.bindsN (ps := p_weighed) F_weighed fun _ _ _ _ _ _ us hl => match us, hl with | [_, _], _ => rfl, fd_pulled_by := fd_pulled_by, F_pulled_by := F_pulled_by, g_pulled_by := He.glo_ok X G (c.fact 47 (f := .glo "pulled_by") rfl), bd_pulled_by := FunD.bindsN (ps := p_pulled_by) F_pulled_by fun _ _ _ _ _ _ us hl => match us, hl with | [_, _], _ => rfl, fd_pulls := fd_pulls, F_pulls := F_pulls, g_pulls := He.glo_ok X G (c.fact 48 (f := .glo "pulls") rfl), bd_pulls := FunD.bindsN (ps := p_pulls) F_pulls fun _ _ _ _ _ _ us hl => match us, hl with | [_, _], _ => rfl, fd_reached := fd_reached, F_reached := F_reached, g_reached := He.glo_ok X G (c.fact 49 (f := .glo "reached") rfl), bd_reached := FunD.bindsN (ps := p_reached) F_reached fun _ _ _ _ _ _ us hl => match us, hl with | [_, _], _ => rfl, fd_as_held := fd_as_held, F_as_held := F_as_held, g_as_held := He.glo_ok X G (c.fact 50 (f := .glo "as_held") rfl), bd_as_held := FunD.bindsN (ps := p_as_held) F_as_held fun _ _ _ _ _ _ us hl => match us, hl with | [_, _], _ => rfl, fd_grips_of := fd_grips_of, F_grips_of := F_grips_of, g_grips_of := He.glo_ok X G (c.fact 51 (f := .glo "grips_of") rfl), bd_grips_of := FunD.bindsN (ps := p_grips_of) F_grips_of fun _ _ _ _ _ _ us hl => match us, hl with | [_], _ => rfl, fd_leant := fd_leant, F_leant := F_leant, g_leant := He.glo_ok X G (c.fact 52 (f := .glo "leant") rfl), bd_leant := FunD.bindsN (ps := p_leant) F_leant fun _ _ _ _ _ _ us hl => match us, hl with | [_, _, _], _ => rfl, fd_leant_to := fd_leant_to, F_leant_to := F_leant_to, g_leant_to := He.glo_ok X G (c.fact 53 (f := .glo "leant_to") rfl), bd_leant_to := FunD.bindsN (ps := p_leant_to) F_leant_to fun _ _ _ _ _ _ us hl => match us, hl with | [_, _, _], _ => rfl, fd_lean := fd_lean, F_lean := F_lean, g_lean := He.glo_ok X G (c.fact 54 (f := .glo "lean") rfl), fd_history := fd_history, F_history := F_history, g_history := He.glo_ok X G (c.fact 55 (f := .glo "history") rfl), fd_Sway___init__ := fd_Sway___init__, F_Sway___init__ := F_Sway___init__, fd_Sway_beat := fd_Sway_beat, F_Sway_beat := F_Sway_beat, m_Sway_beat := He.meth_ok (c.fact 56 (f := .meth "Sway" "beat") rfl), bd_Sway_beat := bd_Sway_beat F_Sway_beat, fd_Sway_past := fd_Sway_past, F_Sway_past := F_Sway_past, m_Sway_past := He.meth_ok (c.fact 57 (f := .meth "Sway" "past") rfl), bd_Sway_past := FunD.bindsN (ps := p_Sway_past) F_Sway_past fun _ _ _ _ _ _ us hl => match us, hl with | [_], _ => rfl, fd_Sway_hold := fd_Sway_hold, F_Sway_hold := F_Sway_hold, m_Sway_hold := He.meth_ok (c.fact 58 (f := .meth "Sway" "hold") rfl), bd_Sway_hold := FunD.bindsN (ps := p_Sway_hold) F_Sway_hold fun _ _ _ _ _ _ us hl => match us, hl with | [_, _, _], _ => rfl, fd_Sway_loose := fd_Sway_loose, F_Sway_loose := F_Sway_loose, m_Sway_loose := He.meth_ok (c.fact 59 (f := .meth "Sway" "loose") rfl), bd_Sway_loose := FunD.bindsN (ps := p_Sway_loose) F_Sway_loose fun _ _ _ _ _ _ us hl => match us, hl with | [_, _], _ => rfl, fd_far_past := fd_far_past, F_far_past := F_far_past, g_far_past := He.glo_ok X G (c.fact 60 (f := .glo "far_past") rfl), bd_far_past := FunD.bindsN (ps := p_far_past) F_far_past fun _ _ _ _ _ _ us hl => match us, hl with | [_, _, _, _, _], _ => rfl, fd_moving_past := fd_moving_past, F_moving_past := F_moving_past, g_moving_past := He.glo_ok X G (c.fact 61 (f := .glo "moving_past") rfl), bd_moving_past := FunD.bindsN (ps := p_moving_past) F_moving_past fun _ _ _ _ _ _ us hl => match us, hl with | [_, _, _, _], _ => rfl, fd_is_firm := fd_is_firm, F_is_firm := F_is_firm, g_is_firm := He.glo_ok X G (c.fact 62 (f := .glo "is_firm") rfl), bd_is_firm := FunD.bindsN (ps := p_is_firm) F_is_firm fun _ _ _ _ _ _ us hl => match us, hl with | [_, _, _], _ => rfl, fd_mover_in := fd_mover_in, F_mover_in := F_mover_in, g_mover_in := He.glo_ok X G (c.fact 63 (f := .glo "mover_in") rfl), bd_mover_in := FunD.bindsN (ps := p_mover_in) F_mover_in fun _ _ _ _ _ _ us hl => match us, hl with | [_, _, _], _ => rfl, fd_movers := fd_movers, F_movers := F_movers, g_movers := He.glo_ok X G (c.fact 64 (f := .glo "movers") rfl), bd_movers := FunD.bindsN (ps := p_movers) F_movers fun _ _ _ _ _ _ us hl => match us, hl with | [_, _], _ => rfl, fd_firm_of := fd_firm_of, F_firm_of := F_firm_of, g_firm_of := He.glo_ok X G (c.fact 65 (f := .glo "firm_of") rfl), bd_firm_of := FunD.bindsN (ps := p_firm_of) F_firm_of fun _ _ _ _ _ _ us hl => match us, hl with | [_, _], _ => rfl, fd__law_box := fd__law_box, F__law_box := F__law_box, g__law_box := He.glo_ok X G (c.fact 66 (f := .glo "_law_box") rfl), bd__law_box := FunD.bindsN (ps := p__law_box) F__law_box fun _ _ _ _ _ _ us hl => match us, hl with | [_, _], _ => rfl, fd__law_take := fd__law_take, F__law_take := F__law_take, g__law_take := He.glo_ok X G (c.fact 67 (f := .glo "_law_take") rfl), bd__law_take := FunD.bindsN (ps := p__law_take) F__law_take fun _ _ _ _ _ _ us hl => match us, hl with | [_, _], _ => rfl, fd__law_same := fd__law_same, F__law_same := F__law_same, g__law_same := He.glo_ok X G (c.fact 68 (f := .glo "_law_same") rfl), bd__law_same := FunD.bindsN (ps := p__law_same) F__law_same fun _ _ _ _ _ _ us hl => match us, hl with | [_, _], _ => rfl, fd__law_steps := fd__law_steps, F__law_steps := F__law_steps, g__law_steps := He.glo_ok X G (c.fact 69 (f := .glo "_law_steps") rfl), bd__law_steps := FunD.bindsN (ps := p__law_steps) F__law_steps fun _ _ _ _ _ _ us hl => match us, hl with | [_, _, _], _ => rfl, fd__law_memory := fd__law_memory, F__law_memory := F__law_memory, g__law_memory := He.glo_ok X G (c.fact 70 (f := .glo "_law_memory") rfl), bd__law_memory := FunD.bindsN (ps := p__law_memory) F__law_memory fun _ _ _ _ _ _ us hl => match us, hl with | [_, _], _ => rfl, fd__law_standing := fd__law_standing, F__law_standing := F__law_standing, g__law_standing := He.glo_ok X G (c.fact 71 (f := .glo "_law_standing") rfl), bd__law_standing := FunD.bindsN (ps := p__law_standing) F__law_standing fun _ _ _ _ _ _ us hl => match us, hl with | [_, _], _ => rfl, fd__law_span := fd__law_span, F__law_span := F__law_span, g__law_span := He.glo_ok X G (c.fact 72 (f := .glo "_law_span") rfl), bd__law_span := FunD.bindsN (ps := p__law_span) F__law_span fun _ _ _ _ _ _ us hl => match us, hl with | [_, _, _, _, _], _ => rfl, fd__law_planned := fd__law_planned, F__law_planned := F__law_planned, g__law_planned := He.glo_ok X G (c.fact 73 (f := .glo "_law_planned") rfl), bd__law_planned := FunD.bindsN (ps := p__law_planned) F__law_planned fun _ _ _ _ _ _ us hl => match us, hl with | [_, _, _], _ => rfl, fd__law_pull := fd__law_pull, F__law_pull := F__law_pull, g__law_pull := He.glo_ok X G (c.fact 74 (f := .glo "_law_pull") rfl), bd__law_pull := FunD.bindsN (ps := p__law_pull) F__law_pull fun _ _ _ _ _ _ us hl => match us, hl with | [_, _, _], _ => rfl, fd__law_leaned := fd__law_leaned, F__law_leaned := F__law_leaned, g__law_leaned := He.glo_ok X G (c.fact 75 (f := .glo "_law_leaned") rfl), bd__law_leaned := FunD.bindsN (ps := p__law_leaned) F__law_leaned fun _ _ _ _ _ _ us hl => match us, hl with | [_, _, _, _], _ => rfl, fd__law_gone := fd__law_gone, F__law_gone := F__law_gone, g__law_gone := He.glo_ok X G (c.fact 76 (f := .glo "_law_gone") rfl), bd__law_gone := FunD.bindsN (ps := p__law_gone) F__law_gone fun _ _ _ _ _ _ us hl => match us, hl with | [_, _, _, _, _], _ => rfl, fd__law_some_past := fd__law_some_past, F__law_some_past := F__law_some_past, g__law_some_past := He.glo_ok X G (c.fact 77 (f := .glo "_law_some_past") rfl), bd__law_some_past := FunD.bindsN (ps := p__law_some_past) F__law_some_past fun _ _ _ _ _ _ us hl => match us, hl with | [_, _, _, _, _], _ => rfl, fd__law_stand_so := fd__law_stand_so, F__law_stand_so := F__law_stand_so, g__law_stand_so := He.glo_ok X G (c.fact 78 (f := .glo "_law_stand_so") rfl), bd__law_stand_so := FunD.bindsN (ps := p__law_stand_so) F__law_stand_so fun _ _ _ _ _ _ us hl => match us, hl with | [_, _, _], _ => rfl, fd__law_played_right := fd__law_played_right, F__law_played_right := F__law_played_right, g__law_played_right := He.glo_ok X G (c.fact 79 (f := .glo "_law_played_right") rfl), bd__law_played_right := FunD.bindsN (ps := p__law_played_right) F__law_played_right fun _ _ _ _ _ _ us hl => match us, hl with | [_, _, _, _, _, _, _], _ => rfl, fd__law_otherwise := fd__law_otherwise, F__law_otherwise := F__law_otherwise, g__law_otherwise := He.glo_ok X G (c.fact 80 (f := .glo "_law_otherwise") rfl), bd__law_otherwise := FunD.bindsN (ps := p__law_otherwise) F__law_otherwise fun _ _ _ _ _ _ us hl => match us, hl with | [_, _, _, _], _ => rfl, fd__law_moved_right := fd__law_moved_right, F__law_moved_right := F__law_moved_right, g__law_moved_right := He.glo_ok X G (c.fact 81 (f := .glo "_law_moved_right") rfl), bd__law_moved_right := FunD.bindsN (ps := p__law_moved_right) F__law_moved_right fun _ _ _ _ _ _ us hl => match us, hl with | [_, _, _, _, _, _], _ => rfl, fd__law_right := fd__law_right, F__law_right := F__law_right, g__law_right := He.glo_ok X G (c.fact 82 (f := .glo "_law_right") rfl), bd__law_right := FunD.bindsN (ps := p__law_right) F__law_right fun _ _ _ _ _ _ us hl => match us, hl with | [_], _ => rfl, fd_law := fd_law, F_law := F_law, g_law := He.glo_ok X G (c.fact 83 (f := .glo "law") rfl) }⟩
theorem glo_law {K : PySem.W.Frag} {h : Heap} {mg : Str → Option Value} (X : K.In h) (G : h.Ns mainGlobals mg) (c : He.SaysD fa fn K) : mg "law" = some (.ref (He.fAd K ("law", none))) := He.glo_ok X G (c.fact 83 (f := .glo "law") rfl)
/-! ### what else is asked of the defaults -/
def dfB (K : PySem.W.Frag) (a : Addr) : Bool := match K.lookup a with
  | some ⟨.type c, _, .seq its _, _⟩ => decide (c = "tuple") && (decide (its.size ≤ sizeLine) && He.relAll [] its.toList)
  | _ => false
theorem dfB_ok {K : PySem.W.Frag} {a : Addr} (h : dfB K a = true) : DfE K a := by
  unfold dfB at h
  split at h
  · rename_i c dd its n sl e
    obtain ⟨h1, h2⟩ := He.ba h
    obtain ⟨h3, h4⟩ := He.ba h2
    exact ⟨_, its, n, e, congrArg Value.type (of_decide_eq_true h1), rfl, of_decide_eq_true h3, He.relAll_ok h4⟩
  · cases h
abbrev mfB (K : PySem.W.Frag) : Bool := dfB K (kwAt ("history", none) "held" K) && (dfB K (kwAt ("lean", none) "held" K) && dfB K (kwAt ("Sway", some "__init__") "held" K))
theorem facts {h : Heap} {f : Addr} (X : K.In h) (G : h.Ns mainGlobals mg) (hfa : mg ("law" : Str) = some (.ref f)) (c : mfB K = true ∧ He.SaysD fa fn K) :
    ∃ fd : FuncData, (∀ (s : Shared) (v : Value), BindsTo s fd ⟨[v], []⟩ [("_law_script", v)]) ∧ ∀ base : Heap, K.In base → base.Ns mainGlobals mg → FnG P w K mg base 17 f fd ["_law_script"] (sp_law K) := by
  obtain ⟨T⟩ := tx_of X G c.2
  obtain ⟨m1, m2⟩ := He.ba c.1
  obtain ⟨m2, m3⟩ := He.ba m2
  have e := hfa.symm.trans (glo_law X G c.2)
  cases e
  have bd := FunD.bindsA (ps := p_law) T.F_law fun _ _ _ _ _ _ us hl => match us, hl with | [_], _ => rfl
  exact ⟨T.fd_law, fun s v => bd s [v] rfl, fun base _ _ => ok_law T (dfB_ok m1) (dfB_ok m2) (dfB_ok m3)⟩
abbrev R : PySem.W.OpenRow := PySem.W.OpenLaw.row PySem.Challenge.rw_swayhalls_k65_whole_they_stay_whatever_o
def obX (g : Addr → Option Obj) : Bool × He.AlD := (mfB (He.frG g (He.asD g 6)), He.obsDG 6 fa fn g)
def hkX (fa : List He.Fa) (fn : List He.DefD) (ob : (Addr → Option Obj) → Bool × He.AlD) (h : ∀ g, ob g = (mfB (He.frG g (He.asD g 6)), He.obsDG 6 fa fn g)) : PySem.W.Hook where
  α := Bool × He.AlD
  obs := fun s => ob s.heap.get?
  val := fun _ => (true, He.valD fn)
  says := fun _ h => ∃ K : PySem.W.Frag, K.In h ∧ (mfB K = true ∧ He.SaysD fa fn K)
  of := fun _ _ e => ⟨_, He.frG_in, congrArg Prod.fst ((h _).symm.trans e), congrArg Prod.snd ((h _).symm.trans e)⟩
  keeps := fun _ _ _ ⟨K, hK, c⟩ k => ⟨K, PySem.W.Frag.In.keeps hK k, c⟩
abbrev hk : PySem.W.Hook := hkX fa fn obX fun _ => rfl
def ob (s : PySem.W.SharedT) : Bool × He.AlD := obX (HandSHeadRun.getT s)
theorem ob_eq (s : PySem.W.SharedT) : ob s = hk.obs s.abs := by
  have e : HandSHeadRun.getT s = s.abs.heap.get? := funext (HandSHeadRun.getT_eq s)
  show obX (HandSHeadRun.getT s) = obX s.abs.heap.get?
  rw [e]
def names : List Str := (["_wall", "BadHall", "BadPosture", "NotHeld", "NoPerson", "MOST_STEPS", "MOST_WEIGHTS", "is_number", "are_numbers", "are_rows", "does_rise", "are_strings", "is_ladder", "are_steps", "is_memory", "as_tuples", "Hall", "is_person", "is_posture", "weighed", "pulled_by", "pulls", "leant_to", "reached"] : List Str) ++ (["as_held", "grips_of", "leant", "lean", "history", "Sway", "far_past", "moving_past", "is_firm", "mover_in", "movers", "firm_of", "_law_box", "_law_take", "_law_same", "_law_steps", "_law_memory", "_law_standing", "_law_pull", "_law_leaned", "_law_gone", "_law_span", "_law_planned", "_law_some_past"] : List Str) ++ (["_law_stand_so", "_law_played_right", "_law_otherwise", "_law_moved_right", "_law_right"] : List Str)

end
end Sw

set_option maxHeartbeats 0
namespace Sw
open PySem PySem.Spec PyProof.Rows L2
theorem run (w : World) : HandSHeadRun.RunEq R (PySem.W.view R.prog [59]) hk ob 20000 names w := by
  intro os
  kernel_rfl
end Sw
open PySem PySem.W PySem.Calls PyProof.Rows
theorem PySem.Challenge.cw_swayhalls_k65_whole_they_stay_whatever_o_holds : PySem.Challenge.rw_swayhalls_k65_whole_they_stay_whatever_o.Holds := by
  w_on; o_law
  refine HandSHeadRun.head_any (r := OpenLaw.row PySem.Challenge.rw_swayhalls_k65_whole_they_stay_whatever_o) (q := view (OpenLaw.row PySem.Challenge.rw_swayhalls_k65_whole_they_stay_whatever_o).prog [59]) (H := Sw.hk) (ob := Sw.ob) (M := 20000) (loose := Sw.names) (d := HandSHeadRun.topDef (OpenLaw.row PySem.Challenge.rw_swayhalls_k65_whole_they_stay_whatever_o).prog 59) (kwd := []) Sw.ob_eq
    (by kernel_rfl) (fun s => by kernel_rfl) Sw.run (by kernel_rfl) (by kernel_rfl) (by kernel_rfl) (by rfl) (by first | assumption | decide +kernel) (by decide +kernel) ⟨rfl, rfl, rfl, rfl, rfl, by decide +kernel⟩ ?hw ?hc
  case hw => w_witness2
  case hc =>
    refine Sw.walkG (l := PySem.Challenge.rw_swayhalls_k65_whole_they_stay_whatever_o) (n := 63) (k := 17) (x := "_law_script") rfl (by decide) (by kernel_rfl) ⟨rfl, by decide, by decide⟩ ?F
    intro w mg fa h Y G hmg0
    obtain ⟨K, KX, c⟩ := Y
    have hmg : mg ("law" : PySem.Str) = some (.ref fa) := by
      have e : (HandSHeadRun.topDef (OpenLaw.row PySem.Challenge.rw_swayhalls_k65_whole_they_stay_whatever_o).prog 59).name = ("law" : PySem.Str) := by kernel_rfl
      rw [← e]
      exact hmg0
    obtain ⟨fd, hb, hF⟩ := Sw.facts (P := (PySem.Challenge.rw_swayhalls_k65_whole_they_stay_whatever_o).prog) (w := w) KX G hmg c
    exact ⟨K, fd, Sw.sp_law K, KX, hb, fun H a ns hl hS => ⟨a, ns, rfl, hS, hl, fun _ => rfl⟩, hF⟩
#print axioms PySem.Challenge.cw_swayhalls_k65_whole_they_stay_whatever_o_holds
