import PyProof.Rows.All
import Wide.All
import OpenK.AllK
import Wide.FinOn
import KE.KExcInit
import KE.KExcMake
import KE.KIsAll
import HandS.ForMost
import HandS.Exc
import HandS.ExcOwn
import HandS.ExcInit
import HandS.ExcIs
import HandS.ExcField
import HandS.IsInst
import HandS.Defaults
import KE.KExcIs
import HandS.Walk
import HandS.Zip
import HandS.Wide
import HandS.WideBits
import HandS.DeepEq
import HandS.EndBits
import HandS.Head2
import HandS.HeadHook2
import PyProof.ReprRoads
import PySem.Challenge.RW_thirdback_k01_limits_and_errors
set_option Elab.async false
set_option linter.all false
set_option maxRecDepth 100000
set_option maxHeartbeats 4000000
/-! an own error class over ValueError, LookupError, ArithmeticError alike: it is called (by place or by name), its object gets its first attribute -/
namespace L2.Tb
open PySem PySem.W PySem.Calls PyProof.Rows PySem.HandSPX
/-- a built-in base: its name, its makers, its mro -/
structure Bs where
  B : String
  newId : String
  initId : String
  bm : List Value
structure Bs.Ok (b : Bs) : Prop where
  F : ExcBaseFacts b.B b.newId b.initId b.bm
  S : StoreFacts b.B b.bm "object.__setattr__" "object"
section
variable {prog : Program} {w : World} {A : Around} {R : Result → Shared → Prop} {h : Heap} {g : Array GenState} {dr : Drawn} {tk : Nat} {os : OsState} {b : Bs} {C fI : Addr} {us : List Value} {kw : List (Str × Value)}
/-- C's class object is that of an own class over b -/
def OwnC (h : Heap) (b : Bs) (C : Addr) (bm : List Value) : Prop := ∃ nm q N bs hdct sn sub ab col dd k0 k1 k2 k3 k5, h.get? C = some (excClassObj nm q C N bs bm hdct sn sub ab col dd k0 k1 k2 k3 k5 b.newId)
/-- what the two makers leave behind: the args, the object -/
abbrev laidH (h : Heap) (C : Addr) (us : List Value) : Heap := (h.push (kdv_tup us)).push (excO C h.objs.size)
theorem own_new {bm : List Value} (o : OwnC h b C bm) (F : ExcBaseFacts b.B b.newId b.initId b.bm) (is : ∀ T : String, (Value.ref C :: bm).contains (.type T) = b.bm.contains (.type T)) (hz : us.length ≤ sizeLine) :
    (∀ {M : Model} {A' : Around} {E : Value → Shared → Prop} {Q : Unit → Shared → Prop}, Q () ⟨h, g, dr, tk, os⟩ → wpAny M A' (checkBuiltinCall b.newId ⟨.ref C :: us, kw⟩) Q E ⟨h, g, dr, tk, os⟩) ∧
    ∀ {R' : Result → Shared → Prop}, R' (.ok (.ret (.ref (h.objs.size + 1)))) ⟨laidH h C us, g, dr, tk, os⟩ → codeAny (model prog w) A (.builtin b.newId ⟨.ref C :: us, kw⟩) R' ⟨h, g, dr, tk, os⟩ := by
  obtain ⟨nm, q, N, bs, hdct, sn, sub, ab, col, dd, k0, k1, k2, k3, k5, hC⟩ := o
  have yes := (is b.B).trans F.hasB
  have no1 := (is "AttributeError").trans F.noAttr
  have no2 := (is "NameError").trans F.noName
  constructor
  · intro M A' E Q hq
    have star := F.noStar
    simp only [checkBuiltinCall, F.newKind, F.newSplit, F.newRow]
    repeat (first | (refine wpAny_isSubtype_exc hC ?_; rw [yes]) | refine wpAny_staticBase_exc hC ?_ | refine wpAny_madeBy_exc hC ?_ | refine wpAny_loadPart_at hC ?_ | simp only [bne_self_eq_false, Bool.false_eq_true, if_false] | wp_step)
    exact hq
  · intro R' hq
    have ends := F.ends
    refine codeAny_builtinAt F.entry ?_
    unfold Builtin.«BaseException.__new__»
    refine PySem.wpAt_bind ?_
    show PySem.wpAt _ _ _ (stack >>= _) _ _ _
    refine PySem.wpAt_bind (PySem.wpAt_stack fun _ _ => PySem.wpAt_of_wpAny ?_)
    wp_walk
    refine PySem.wpAt_of_wpAny ?_
    rw [F.owner]
    repeat (first | with_reducible refine wpAny_madeHere_exc F.canon hC ?_ | (with_reducible refine wpAny_isSubtype_exc hC ?_; first | rw [no1] | rw [no2] | rw [yes]) | with_reducible refine wpAny_loadPart_at hC ?_ | wp_step)
    show R' _ _
    rw [Heap.size_push]
    exact hq
/-- C(us, kw), C's own __init__ at fI -/
theorem own_call {bm : List Value} (o : OwnC h b C bm) (ok : b.Ok) (hT : ∀ T : String, bm.contains (.type T) = b.bm.contains (.type T)) (hi : Looks (model prog w) h (typeLookup (.ref C) "__init__") (some (.ref fI)))
    (hb : ∀ self, Looks (model prog w) h (bindSpecial (.ref fI) self) (.ref fI, [self])) (hz : us.length ≤ sizeLine)
    (hq : codeAny (model prog w) (A.under (.builtin "type.__call__" ⟨.ref C :: us, kw⟩)) (.call (.ref fI) ⟨.ref (h.objs.size + 1) :: us, kw⟩) (InitBack (h.objs.size + 1) R) ⟨laidH h C us, g, dr, tk, os⟩) :
    codeAny (model prog w) A (.call (.ref C) ⟨us, kw⟩) R ⟨h, g, dr, tk, os⟩ := by
  have keep : ∀ a x, h.get? a = some x → (laidH h C us).get? a = some x := fun a x e => Heap.get?_push_of_some _ (Heap.get?_push_of_some _ e)
  have there : (laidH h C us).get? (h.objs.size + 1) = some (excO C h.objs.size) := by heap_get
  have self : (Value.ref C :: bm).contains (.ref C) = true := by simp
  have new := @own_new prog w ((A.under (.builtin "type.__call__" ⟨.ref C :: us, kw⟩))) h g dr tk os b C us kw bm o ok.F (fun T => by rw [List.contains_cons, hT]; rfl) hz
  obtain ⟨nm, q, N, bs, hdct, sn, sub, ab, col, dd, k0, k1, k2, k3, k5, hC⟩ := o
  have hC2 := keep _ _ hC
  have ty : (⟨h, g, dr, tk, os⟩ : Shared).TypeIs (.ref C) "type" := ⟨_, hC, rfl⟩
  have l1 := tc_lookup
  have l2 := tc_bind (.ref C)
  have l3 := tc_sub
  refine codeAny_of_tree ?_
  show wpAny _ _ (callAny (.ref C) _) _ _ _
  repeat (any_goals (first | assumption | with_reducible refine wpAny_loadPart_at hC ?_ | wp_step))
  refine ⟨rfl, codeAny_call_builtin_at (Code.quiet_builtin _ (by decide +kernel)) entry_typeCall ?_⟩
  simp only [checkBuiltinCall, tc_kind, tc_split]
  repeat (any_goals (first | assumption | with_reducible refine wpAny_loadPart_at hC ?_ | with_reducible refine wpAny_onRaise ?_ | with_reducible refine wpAny_map ?_ | wp_step))
  repeat (first | with_reducible refine wpAny_madeBy_exc hC ?_ | with_reducible refine wpAny_loadPart_at hC ?_ | wp_step)
  refine codeAny_call_builtin_code (Code.quiet_builtin _ ok.F.quiet) (new.1 (new.2 ?_))
  show wpAny _ _ _ _ _ _
  unfold isInstance
  repeat (first | with_reducible refine wpAny_loadPart_at there ?_ | (with_reducible refine wpAny_isSubtype_exc hC2 ?_; rw [self]) | wp_step)
  show wpAny _ _ (typeLookup (.ref C) _) _ _ _
  refine (hi.keeps keep).at (wpAny_holding (wpAny_bind (((hb _).keeps keep).at (wpAny_bind (wpAny_call (codeAny_mono hq fun r s' z => ?_))))))
  match r, z with
  | .error e, z => exact z
  | .ok (.ret v), ⟨e, z⟩ =>
    subst e
    first
      | exact wpAny_pure (wpAny_pure z)
      | (wp_walk; exact z)
end
/-! ### self.name = v on an own error that has no dict yet -/
section
variable {prog : Program} {w : World} {A : Around} {R : Result → Shared → Prop} {hp : Heap} {g : Array GenState} {dr : Drawn} {tk : Nat} {os : OsState}
theorem own_store {K : Frag} {name : Str} {t1 : Tok} {v : Value} {x C t0 : Addr} {b : Bs} (ok : b.Ok) (X : K.In hp) (hx : hp.get? x = some (excObj C t0 none .none)) (ov : excOver K C b.bm = true) (hd : hasDictIn K C = true) (no : findIn K (.ref C) name = some none)
    (hq : ∀ h' tk' dx, (∀ b o, b ≠ x → hp.get? b = some o → h'.get? b = some o) → hp.objs.size ≤ dx → dx ≠ x → h'.get? x = some (excObj C t0 (some dx) .none) → h'.Ns1 dx (fun y => if y = name then some v else none) → R (.ok (.ret .none)) ⟨h', g, dr, tk', os⟩) :
    codeAny (model prog w) A (.call (.builtin "object.__setattr__") ⟨[.ref x, .str name t1, v], []⟩) R ⟨hp, g, dr, tk, os⟩ := by
  have far : x ≠ hp.objs.size := Nat.ne_of_lt (Heap.lt_size hx)
  obtain ⟨cd, hc, hd'⟩ := any_some hd
  refine osa_openX (s := ⟨hp, g, dr, tk, os⟩) (od := none) (r := none) ok.S X ⟨hx, rfl, rfl, trivial⟩ ov (by unfold takerIn; rw [no]; rfl) fun bb => ?_
  refine wpAny_bind (wpAny_pure (wpAny_bind (instanceDict_exc (s := ⟨hp, g, dr, tk, os⟩) hx (looks_clsIn X hc) hd' ?_)))
  have hx1 := (hp.get?_push_of_some (dictOf [] 0) hx)
  refine store_in_new ⟨_, #[], _, (Heap.get?_update_ne _ _ _ _ far.symm).trans (Heap.get?_push_at rfl rfl), rfl, fun e he => absurd he (by simp), fun _ => rfl⟩ fun h' tk' hn hs => ?_
  refine hq h' tk' hp.objs.size (fun a o ne ho => (hs.2 a (Nat.ne_of_lt (Heap.lt_size ho))).trans ((Heap.get?_update_ne _ _ _ _ ne).trans (Heap.get?_push_of_some _ ho))) (Nat.le_refl _) far.symm ?_ hn
  exact (hs.2 x far).trans (Heap.get?_update_self _ hx1 rfl)
end
end L2.Tb
set_option Elab.async false
set_option linter.all false
set_option maxRecDepth 100000
set_option maxHeartbeats 4000000
namespace L2.Tb
open PySem PySem.Spec PyProof.Rows L2
def bVE : Bs := ⟨"ValueError", "ValueError.__new__", "ValueError.__init__", [.type "ValueError", .type "Exception", .type "BaseException", .type "object"]⟩
def bLE : Bs := ⟨"LookupError", "LookupError.__new__", "LookupError.__init__", [.type "LookupError", .type "Exception", .type "BaseException", .type "object"]⟩
def bAE : Bs := ⟨"ArithmeticError", "ArithmeticError.__new__", "ArithmeticError.__init__", [.type "ArithmeticError", .type "Exception", .type "BaseException", .type "object"]⟩
theorem bVE_ok : bVE.Ok := ⟨PySem.F.excBase_ValueError, PySem.F.store_ValueError⟩
theorem bLE_ok : bLE.Ok := ⟨PySem.F.excBase_LookupError, PySem.F.store_LookupError⟩
theorem bAE_ok : bAE.Ok := ⟨PySem.F.excBase_ArithmeticError, PySem.F.store_ArithmeticError⟩
/-- an own exception class over the base b -/
structure EC (K : PySem.W.Frag) (b : Bs) (C : Addr) : Prop where
  ok : b.Ok
  own : PySem.W.excInitIn K C b.bm b.newId = true
  sa : PySem.W.findIn K (.ref C) "__setattr__" = some (some (.builtin "object.__setattr__"))
  kC : PySem.W.keepIn K (.ref C) = true
  ex : ExcC K C
  ov : PySem.W.excOver K C b.bm = true
def ecB (K : PySem.W.Frag) (b : Bs) (C : Addr) : Bool := PySem.W.excOver K C b.bm && (
  PySem.W.excInitIn K C b.bm b.newId && (decide (PySem.W.findIn K (.ref C) "__setattr__" = some (some (.builtin "object.__setattr__"))) && (PySem.W.keepIn K (.ref C) &&
  (decide (PySem.W.findIn K (.ref C) "__getattribute__" = some (some (.builtin "BaseException.__getattribute__"))) && (decide (PySem.W.findIn K (.ref C) "__getattr__" = some none) &&
  (decide (PySem.W.subIn K (.ref C) (.type "BaseException") = some true) && (PySem.W.hasDictIn K C && (decide (PySem.W.findIn K (.ref C) "__class__" = some (some (.builtin "object.__class__"))) &&
  (decide (PySem.W.specialIn K (.builtin "object.__class__") "__get__" = some (some (.builtin "getset_descriptor.__get__"))) && (decide (PySem.W.takesIn K (.builtin "object.__class__") = some true) &&
  decide (PySem.W.mroIn K C (.type "object") = some true)))))))))))
theorem ecB_ok {K : PySem.W.Frag} {b : Bs} {C : Addr} (ok : b.Ok) (h : ecB K b C = true) : EC K b C := by
  unfold ecB at h
  simp only [Bool.and_eq_true, decide_eq_true_eq] at h
  obtain ⟨h0, h1, h2, h3, h4, h5, h6, h7, h8, h9, h10, h11⟩ := h
  exact ⟨ok, h1, h2, h3, ⟨h4, h5, h6, h7, h8, h9, h10, h11⟩, h0⟩
section
variable {K : PySem.W.Frag} {b : Bs} {C : Addr}
theorem EC.cd (T : EC K b C) : ∃ cd, PySem.W.clsIn K C = some cd ∧ PySem.W.excTail b.bm cd.mro = true ∧ cd.mro.isEmpty = false ∧ cd.hasDict = true := by
  have q := T.own
  unfold PySem.W.excInitIn at q
  obtain ⟨cd2, hc2, hd2⟩ := PySem.W.any_some (show (PySem.W.clsIn K C).any (·.hasDict) = true from T.ex.hd)
  split at q
  · rename_i dd cd sl ho
    split at q
    · rename_i C' bm k0 k1 k2 k3 n k5 hm hs
      simp only [Bool.and_eq_true, beq_iff_eq, Bool.not_eq_true'] at q
      obtain ⟨⟨⟨rfl, rfl⟩, hdel⟩, ht⟩ := q
      have e : PySem.W.clsIn K C' = some cd := by unfold PySem.W.clsIn; rw [ho] <;> rfl
      have e3 := Option.some.inj (e.symm.trans hc2)
      subst e3
      refine ⟨_, e, ?_, ?_, hd2⟩
      · rw [hm]
        exact ht
      · rw [hm]
        rfl
    · cases q
  · cases q
end
section
variable {X : Cx} {pins : List (Addr × Obj)} {σ : St} {H : Hp} {s : Shared} {b : Bs} {a C dx : Addr} {f : Str} {y : V} {u : Value} {Q : Unit → Shared → Prop} {E : Value → Shared → Prop} {A : Around}
/-- self.f = y, the first one -/
theorem osv_new (T : EC X.K b C) (I : Inv X pins σ H s) (e : H a = some (exo a C none)) (hno : PySem.W.findIn X.K (.ref C) f = some none) (ry : RelV y u)
    (h : ∀ dx s', H dx = none → dx ≠ a → Inv X pins σ (upd (upd H dx (exd dx [(f, y)])) a (exo a C (some dx))) s' → Q () s') : wpAny (model X.prog X.w) A (setAttr (.ref a) f u) Q E s := by
  obtain ⟨t1, ho⟩ := exo_at I.hok e
  refine PySem.W.set_plain I.kIn (od := none) ⟨ho, rfl, rfl, trivial⟩ T.sa (own_store T.ok I.kIn ho T.ov T.ex.hd hno fun h' tk' dx k dn dne hx hn => ?_)
  have fresh : H dx = none := I.hok.fresh dn
  -- the heap behind the store, seen from what was there
  have other : ∀ {c : Addr} {o : HO}, H c = some o → c ≠ a → upd (upd H dx (exd dx [(f, y)])) a (exo a C (some dx)) c = some o := fun q n => by rw [upd_ne n, upd_ne (ne_of_none q fresh)]; exact q
  have ne : ∀ {c : Addr}, H c = none → c ≠ a := fun n z => by rw [z, e] at n; cases n
  have lt : ∀ {c : Addr} {o : Obj}, s.heap.get? c = some o → c ≠ dx := fun q => Nat.ne_of_lt (Nat.lt_of_lt_of_le (Heap.lt_size q) dn)
  refine h dx _ fresh dne (I.un (t' := tk') { keep := fun c o q n _ _ => k c o (ne n) q, slot := fun c o q n _ _ => ⟨o.slots, k c o (ne n) q⟩, free := fun c o q n _ => ?_, there := fun c o q _ => ?_, tups := fun c xs q => other q (at_ne e q exo_tup), frzs := fun c o v q => other q (at_ne e q exo_frz), tbls := fun c ps q => ⟨#[], ?_⟩ } fun c o q => ?_)
  · rw [upd_ne (ne n), upd_ne (lt q)]
    exact n
  · by_cases z : c = a
    · exact ⟨_, by rw [z]; exact hx⟩
    · exact ⟨o, k c o z q⟩
  · rw [other q (at_ne e q exo_tbl)]
    simp
  · by_cases z : c = a
    · subst z
      rw [upd_same] at q
      cases q
      exact exo_ok hx
    · rw [upd_ne z] at q
      by_cases z2 : c = dx
      · subst z2
        rw [upd_same] at q
        cases q
        exact exd_ok hn (relO_put (fs := []) ry fun _ => True.intro)
      · rw [upd_ne z2] at q
        refine (I.hok c o q).stay (fun d v hc z' => k d v ?_ z') (fun d hc => other hc (at_ne e hc exo_own)) fun d xs hc => other hc (at_ne e hc exo_tup)
        rcases hc with rfl | hc
        · exact z
        · exact at_ne e hc exo_own
end
/-- self.f = e -/
def tOsv (K : PySem.W.Frag) (f : Str) (to te : TE) : TS := fun D σ H => te σ H fun y H1 => to σ H1 fun x H2 => ∃ (a C : Addr) (b : Bs), x = .ref a ∧ EC K b C ∧ PySem.W.findIn K (.ref C) f = some none ∧
  H2 a = some (exo a C none) ∧ ∀ dx, H2 dx = none → dx ≠ a → D.nx σ (upd (upd H2 dx (exd dx [(f, y)])) a (exo a C (some dx)))
/-- C(e, ..), C's own __init__ keeping sp: the exception as a value -/
def tMkV (C : Addr) (sp : Sp) (ta : TA) : TE := fun σ H Q => ta σ H fun vs H1 => vs.length ≤ 1000 ∧ ∀ a, H1 a = none → sp (.ref a :: vs) (upd H1 a (exo a C none)) (fun v H2 => v = .non ∧ Q (.ref a) H2) E0
/-- e.f of an exception -/
def tXv (K : PySem.W.Frag) (f : Str) (te : TE) : TE := fun σ H Q => te σ H fun x H1 => ∃ (a C dx : Addr) (b : Bs) (fs : List (Str × V)) (v : V), x = .ref a ∧ EC K b C ∧ PySem.W.findIn K (.ref C) f = some none ∧
  H1 a = some (exo a C (some dx)) ∧ H1 dx = some (exd dx fs) ∧ fs.lookup f = some v ∧ Q v H1
/-- isinstance(e, c) -/
def rIsX (K : PySem.W.Frag) : List V → Hp → VK → Prop := fun xs H Q => ∃ (a C : Addr) (od : Option Addr) (c : V) (u : Value) (b : Bs) (r : Bool), xs = [.ref a, c] ∧ ClsV c u ∧ H a = some (exo a C od) ∧ (∀ d, od = some d → ∃ fs, H d = some (exd d fs)) ∧ EC K b C ∧
  PySem.W.kitOne K (.ref C) u = some r ∧ Q (.bl r) H
section
variable {X : Cx} {o e : Expr} {es : List Expr} {to te : TE} {ta : TA} {f : Str} {p p' p1 p2 pos : Pos}
theorem ps_osv (ho : PE X o to) (he : PE X e te) (hs : swapsWith e (some (.Attribute o f p')) pos.line X.env = pure false := by rfl) : PS X (.Assign [.Attribute o f p'] e pos) (tOsv X.K f to te) := by
  refine ⟨fun pins s σ H D I h => ?_⟩
  refine plainObj_wpAny_Assign_Attribute (thn (he.run pins s σ H _ I h) fun v s1 ⟨y, H1, I1, r1, q1⟩ => thn (ho.run pins s1 σ H1 _ I1 q1) fun u s2 ⟨x, H2, I2, r2, a, C, b, ex, T, hno, ea, q⟩ => ?_) hs
  subst ex
  obtain rfl : u = Value.ref a := r2
  exact osv_new T I2 ea hno r1 fun dx s' n ne J => ⟨σ, _, J, q dx n ne⟩
/-- the exception that is made: its object lies, not yet its dict -/
theorem made_inv {pins : List (Addr × Obj)} {σ : St} {H1 : Hp} {hp : Heap} {g : Array GenState} {dr : Drawn} {tk : Nat} {os : OsState} {C : Addr} (us : List Value) (I1 : Inv X pins σ H1 ⟨hp, g, dr, tk, os⟩) :
    Inv X pins σ (upd H1 (hp.objs.size + 1) (exo (hp.objs.size + 1) C none)) ⟨(hp.push (PySem.W.kdv_tup us)).push (PySem.HandSPX.excO C hp.objs.size), g, dr, tk, os⟩ := by
  have kk : ∀ b o, hp.get? b = some o → ((hp.push (PySem.W.kdv_tup us)).push (PySem.HandSPX.excO C hp.objs.size)).get? b = some o := fun b o e => Heap.get?_push_of_some _ (Heap.get?_push_of_some _ e)
  have hget : ((hp.push (PySem.W.kdv_tup us)).push (PySem.HandSPX.excO C hp.objs.size)).get? (hp.objs.size + 1) = some (PySem.HandSPX.excO C hp.objs.size) := by heap_get
  exact I1.laid (t' := tk) (a := hp.objs.size + 1) (o := exo (hp.objs.size + 1) C none) (h' := (hp.push (PySem.W.kdv_tup us)).push (PySem.HandSPX.excO C hp.objs.size)) kk (Nat.le_succ _) (exo_ok hget)
theorem run_mkV {CX : CXT} {C fI : Addr} {b : Bs} {k : Nat} {fd : FuncData} {ps : List Str} {sp : Sp} {pins : List (Addr × Obj)} {σ : St} {H1 : Hp} {s1 : Shared} {Q : VK} {us zs : List Value} {ws : List V} {kw : List (Str × Value)} (T : EC X.K b C)
    (iC : PySem.W.findIn X.K (.ref C) "__init__" = some (some (.ref fI))) (tI : PySem.W.typeIn X.K (.ref fI) = some (.type "function"))
    (F1 : FnOk X.prog X.w X.K X.mg X.base CX k fI fd ps sp) (hr : Room (k + 1) X.A) (hx : Passes CX X E0) (I1 : Inv X pins σ H1 s1) (hus : us.length ≤ sizeLine)
    (hz : ∀ (sh : Shared) (a : Addr), X.K.In sh.heap → BindsTo sh fd ⟨Value.ref a :: us, kw⟩ (ps.zip (Value.ref a :: zs))) (r2 : Vals ws zs)
    (h : ∀ a, H1 a = none → sp (.ref a :: ws) (upd H1 a (exo a C none)) (fun v H2 => v = .non ∧ Q (.ref a) H2) E0) :
    wpAny (model X.prog X.w) X.A (call (.ref C) us kw) (EP X pins σ Q) X.xe s1 := by
  obtain ⟨nm, N, qn, bs, bm, hdct, sn, sub, ab, col, dd, k0, k1, k2, k3, k5, hC, hT⟩ := PySem.W.excInit_of I1.kIn T.own
  obtain ⟨hp, g, dr, tk, os⟩ := s1
  have hn : H1 (hp.objs.size + 1) = none := I1.hok.fresh (Nat.le_succ _)
  have hq := h (hp.objs.size + 1) hn
  have I2 := made_inv (C := C) us I1
  have r3 : Vals (V.ref (hp.objs.size + 1) :: ws) (Value.ref (hp.objs.size + 1) :: zs) := .cons rfl r2
  refine wpAny_call (own_call ⟨nm, qn, N, bs, hdct, sn, sub, ab, col, dd, k0, k1, k2, k3, k5, hC⟩ T.ok hT (PySem.W.looks_findIn I1.kIn iC) (fun self => PySem.W.bind_fn I1.kIn self tI) hus
    (codeAny_mono (F1.run _ X.stack _ _ ⟨Value.ref (hp.objs.size + 1) :: us, kw⟩ (Value.ref (hp.objs.size + 1) :: zs) _ _ E0 (hr.make C us kw) (I2.env0.make C us kw) (hz _ _ I2.kIn) r3 hq) fun r s' hq' => ?_))
  cases r with
  | error er => exact hx pins σ _ _ er s' I2 hq'
  | ok fl =>
    cases fl with
    | ret u =>
      obtain ⟨v, H', I3, rv, ev, q3⟩ := I2.after hq'
      subst ev
      exact ⟨rv, ⟨V.ref (hp.objs.size + 1), H', I3, rfl, q3⟩⟩
    | next => exact False.elim hq'
    | brk => exact False.elim hq'
    | cont => exact False.elim hq'
/-- C(e, ..) -/
theorem pe_mkV {CX : CXT} {x : Str} {C fI : Addr} {b : Bs} {k : Nat} {fd : FuncData} {ps : List Str} {sp : Sp} (T : EC X.K b C) (iC : PySem.W.findIn X.K (.ref C) "__init__" = some (some (.ref fI))) (tI : PySem.W.typeIn X.K (.ref fI) = some (.type "function"))
    (F1 : FnOk X.prog X.w X.K X.mg X.base CX k fI fd ps sp) (hr : Room (k + 1) X.A) (hb : Binds X.K fd ps []) (hx : Passes CX X E0) (hg : Gl X x) (hm : X.mg x = some (.ref C)) (ha : PA X (e :: es) ta)
    (hdb : (x == ("__debug__" : Str)) = false := by decide) (he : starEach (e :: es) X.env = (false, eval e X.env) :: starEach es X.env := by rfl) (hpl : (backTo pos (starEach es X.env)).any (·.1) = false := by rfl) :
    PE X (.Call (.Name x p) (e :: es) [] pos) (tMkV C sp ta) := by
  refine ⟨fun pins s σ H Q I h => ?_⟩
  refine wpAny_Call_Name_kw (ld_glob I hg hm ?_ hdb)
  refine PySem.W.callWith_K (h₀ := X.base) I.ok.mod.kin T.kC (thn (ha.run pos pins s σ H _ I h) fun us s1 ⟨vs, H1, I1, r1, hz, q1⟩ => ⟨I1.kIn, ?_⟩) he hpl
  have hus : us.length ≤ sizeLine := by
    rw [← Paired.length r1, sizeLine_eq]
    omega
  have hl : (Value.ref 0 :: us).length = ps.length := by
    have z := F1.len _ _ _ _ (q1 s1.heap.objs.size (I1.hok.fresh (Nat.le_refl _)))
    rw [← z, List.length_cons, List.length_cons, Paired.length r1]
  refine run_mkV (us := us) (kw := []) (zs := us) T iC tI F1 hr hx I1 hus (fun sh a X' => ?_) r1 q1
  have z := hb sh (Value.ref a :: us) X' (by rw [List.append_nil]; exact hl)
  rw [List.append_nil] at z
  exact z
/-- C(f = e) -/
theorem pe_mkVK {CX : CXT} {x : Str} {C fI : Addr} {b : Bs} {k : Nat} {fd : FuncData} {ps ks : List Str} {sp : Sp} {kws : List Keyword} {tk : TA} (T : EC X.K b C) (iC : PySem.W.findIn X.K (.ref C) "__init__" = some (some (.ref fI))) (tI : PySem.W.typeIn X.K (.ref fI) = some (.type "function"))
    (F1 : FnOk X.prog X.w X.K X.mg X.base CX k fI fd ps sp) (hr : Room (k + 1) X.A) (hb : ∀ (sh : Shared) (a : Addr) (zs : List Value), zs.length = ks.length → BindsTo sh fd ⟨[Value.ref a], ks.zip zs⟩ (ps.zip (Value.ref a :: zs))) (hx : Passes CX X E0) (hg : Gl X x) (hm : X.mg x = some (.ref C)) (hkw : PK X kws tk)
    (hps : ps.length = ks.length + 1) (hall : (backToKw pos (keywordEach kws X.env)).all (·.1.isSome) = true := by rfl) (hks : (backToKw pos (keywordEach kws X.env)).filterMap (·.1) = ks := by rfl) (hdb : (x == ("__debug__" : Str)) = false := by decide)
    (hpl : ((backTo pos (starEach [] X.env)).any (·.1) || (backToKw pos (keywordEach kws X.env)).any (·.1.isNone)) = false := by rfl) :
    PE X (.Call (.Name x p) [] kws pos) (tMkV C sp tk) := by
  refine ⟨fun pins s σ H Q I h => ?_⟩
  refine wpAny_Call_Name_kw (ld_glob I hg hm ?_ hdb)
  refine PySem.W.callWith_KW0 (h₀ := X.base) I.ok.mod.kin T.kC hall ?_ hpl
  refine thn (hkw.run pos pins s σ H _ I h) fun ws s2 ⟨zs, H2, I2, rz, hz, q2⟩ => ⟨I2.kIn, ?_⟩
  rw [hks]
  have hl : ws.length = ks.length := by
    have z := F1.len _ _ _ _ (q2 s2.heap.objs.size (I2.hok.fresh (Nat.le_refl _)))
    rw [List.length_cons, hps] at z
    rw [← Paired.length rz]
    omega
  exact run_mkV (us := []) (kw := ks.zip ws) (zs := ws) T iC tI F1 hr hx I2 (Nat.zero_le _) (fun sh a _ => hb sh a ws hl) rz q2
/-- C(), no __init__ of its own -/
theorem pe_mkV0 {x : Str} {C : Addr} {b : Bs} (T : EC X.K b C) (iC : PySem.W.findIn X.K (.ref C) "__init__" = some (some (.builtin b.initId))) (hg : Gl X x) (hm : X.mg x = some (.ref C))
    (hdb : (x == ("__debug__" : Str)) = false := by decide) :
    PE X (.Call (.Name x p) [] [] pos) (fun _ H Q => ∀ a, H a = none → Q (.ref a) (upd H a (exo a C none))) := by
  refine ⟨fun pins s σ H Q I h => ?_⟩
  refine wpAny_Call_Name_kw (ld_glob I hg hm ?_ hdb)
  refine PySem.W.callWith_K0 I.kIn T.kC ?_
  show wpAny _ _ (call (.ref C) []) _ _ _
  obtain ⟨nm, N, qn, bs, bm, hdct, sn, sub, ab, col, dd, k0, k1, k2, k3, k5, hC, hT⟩ := PySem.W.excInit_of I.kIn T.own
  obtain ⟨hp, g, dr, tk, os⟩ := s
  refine PySem.W.call_B T.ok.F hT hC (PySem.W.looks_findIn I.kIn iC) (Nat.zero_le _) fun h' k e1 e2 => ?_
  have hn : H (hp.objs.size + 1) = none := I.hok.fresh (Nat.le_succ _)
  exact ⟨.ref (hp.objs.size + 1), _, I.laid (t' := tk) (a := hp.objs.size + 1) k (Nat.le_succ _) (exo_ok e1), rfl, h _ hn⟩
theorem pe_xv {n : Str} (he : PE X e te) (hb : attributeBase e n X.env (eval e X.env) = eval e X.env := by rfl) : PE X (.Attribute e n pos) (tXv X.K n te) := by
  refine ⟨fun pins s σ H Q I h => ?_⟩
  refine attr_of hb (thn (he.run pins s σ H _ I h) fun u s1 hh => ?_)
  obtain ⟨x, H1, I1, rx, a, C, dx, b, fs, v, ex, T, hno, ea, ed, l, q⟩ := hh
  subst ex
  obtain rfl : u = Value.ref a := rx
  obtain ⟨t1, ho⟩ := exo_at I1.hok ea
  obtain ⟨mA, hns, hr⟩ := exd_at I1.hok ed
  obtain ⟨od, hod, hl⟩ := lookIn_ns hns
  obtain ⟨u, hu, ru⟩ := RelO.some_of (v := v) (o := mA n) (by rw [← l]; exact hr n)
  have J : PySem.W.InstAt s1.heap a { cls := .ref C, dict := some dx, data := .fields #[.ref t1, .none, .none, .none, .bool false, .none] } C (some od) := ⟨ho, rfl, rfl, hod⟩
  exact HandSPX.exc_get I1.kIn J T.ex.hg T.ex.hk T.ex.hs (PySem.W.findObj_own T.ex.hd hno rfl (by rw [hl, hu])) (handed_of ru) ⟨v, H1, I1.tok _, ru, q⟩
theorem call_isX : CallR X (.builtin "isinstance") (rIsX X.K) := by
  intro pins s σ H xs us Q I r h
  obtain ⟨a, C, od, c, u, b, rr, rfl, k, ea, hd, T, e, q⟩ := h
  obtain ⟨u1, u2, rfl, r1, r2⟩ := vals2 r
  have e2 := k.eq r2
  subst e2
  obtain rfl : u1 = Value.ref a := r1
  obtain ⟨t1, ho⟩ := exo_at I.hok ea
  have hcl : (PySem.W.clsIn X.K C).isSome = true := by
    obtain ⟨cd, hc, _⟩ := T.cd
    rw [hc]
    rfl
  have fin : ∀ tk, EP X pins σ Q (.bool rr) { s with toks := tk } := fun tk => ⟨.bl rr, H, I.tok tk, rfl, q⟩
  cases od with
  | none =>
    have J : PySem.W.InstAt s.heap a { cls := .ref C, dict := none, data := .fields #[.ref t1, .none, .none, .none, .bool false, .none] } C none := ⟨ho, rfl, rfl, trivial⟩
    exact PySem.W.kia_one (PySem.W.kitx_exc hcl T.ex.hg T.ex.hk T.ex.hs T.ex.ha T.ex.hn T.ex.ht T.ex.hm) I.kIn J e (fun z => nomatch z) fin
  | some dd =>
    obtain ⟨fs, ed⟩ := hd dd rfl
    obtain ⟨mA, hns, hr⟩ := exd_at I.hok ed
    obtain ⟨od, es, ep, hod, _⟩ := hns
    have J : PySem.W.InstAt s.heap a { cls := .ref C, dict := some dd, data := .fields #[.ref t1, .none, .none, .none, .bool false, .none] } C (some od) := ⟨ho, rfl, rfl, hod⟩
    exact PySem.W.kia_one (PySem.W.kitx_exc hcl T.ex.hg T.ex.hk T.ex.hs T.ex.ha T.ex.hn T.ex.ht T.ex.hm) I.kIn J e (fun z => nomatch z) fin
end
end L2.Tb
set_option Elab.async false
set_option linter.all false
set_option maxRecDepth 100000
set_option maxHeartbeats 4000000
namespace L2.Tb
open PySem PySem.Spec PyProof.Rows
/-! ### a def of the module that is called by its name -/
structure Cal (P : Program) (w : World) (K : PySem.W.Frag) (mg : Str → Option Value) (base : Heap) (k : Nat) (x : Str) (sp : Sp) : Prop where
  ex : ∃ (f : Addr) (fd : FuncData) (ps : List Str), FnOk P w K mg base L2.CX0 k f fd ps sp ∧ mg x = some (.ref f) ∧ PySem.W.keepIn K (.ref f) = true ∧ Binds K fd ps []
abbrev FnP (K : PySem.W.Frag) (x : Str) (st : Stmt) (f : Addr) (fd : FuncData) : Prop := FunD K x x (defArgs st) (defBody st) (defScope st) [] [] f fd
section
variable {P : Program} {w : World} {K : PySem.W.Frag} {mg : Str → Option Value} {base : Heap} {x : Str} {st : Stmt} {f : Addr} {fd : FuncData} {N ps : List Str} {k : Nat} {sp : Sp}
theorem cal_mk (F : FnP K x st f fd) (hm : mg x = some (.ref f)) (S : FnScope N ps (defScope st))
    (hb : ∀ (kV doc pm : Value) (an : Option Addr) (cdv ct : Value) (us : List Value), us.length = ps.length → bindArgs (PySem.W.fnOf x x (defArgs st) (defBody st) (defScope st) .none kV doc pm an cdv ct) ⟨us, []⟩ = pure (ps.zip us))
    (len : ∀ vs H Q E, sp vs H Q E → vs.length = ps.length)
    (hbody : ∀ (cdv : Value) (A : Around) (outer : List Env) (s : Shared) (H : Hp) (vs : List V) (Q : VK) (E : XK), Room k (A.deeper (envOfC x (defScope st) s.heap.objs.size f cdv)) → sp vs H Q E →
      ∃ t, PSs (cxOf L2.CX0 P w K mg base N x (defScope st) f cdv A outer s H E).nox (defBody st) t ∧ t { nx := fun _ H' => Q .non H', rt := Q } (start N vs) H) : Cal P w K mg base (k + 1) x sp :=
  ⟨f, fd, ps, F.ok S len fun cdv A outer s H vs Q E hr h => let ⟨t, a, b⟩ := hbody cdv A outer s H vs Q E hr h; ⟨t, a.nox, b⟩, hm, F.kp, F.bindsN hb⟩
theorem Cal.imp {sp' : Sp} (c : Cal P w K mg base k x sp) (h : ∀ vs H Q E, sp' vs H Q E → sp vs H Q E) : Cal P w K mg base k x sp' := by
  obtain ⟨f, fd, ps, F, a, b, d⟩ := c.ex
  exact ⟨f, fd, ps, F.imp h, a, b, d⟩
end
section
variable {X : Cx} {k j : Nat} {x : Str} {sp : Sp} {p pos : Pos} {e : Expr} {es : List Expr} {t : TA}
theorem pe_cal (c : Cal X.prog X.w X.K X.mg X.base k x sp) (hr : Room j X.A) (hk : k ≤ j) (hg : Gl X x) (ha : PA X (e :: es) t)
    (hdb : (x == ("__debug__" : Str)) = false := by decide) (he : starEach (e :: es) X.env = (false, eval e X.env) :: starEach es X.env := by rfl) (hpl : (backTo pos (starEach es X.env)).any (·.1) = false := by rfl) :
    PE X (.Call (.Name x p) (e :: es) [] pos) (tCall sp [] E0 t) := by
  obtain ⟨f, fd, ps, F, hm, kp, b⟩ := c.ex
  exact pe_call F (hr.mono hk) hg hm kp b .nil pass0 ha hdb he hpl
theorem pe_cal0 (c : Cal X.prog X.w X.K X.mg X.base k x sp) (hr : Room j X.A) (hk : k ≤ j) (hg : Gl X x)
    (hdb : (x == ("__debug__" : Str)) = false := by decide) : PE X (.Call (.Name x p) [] [] pos) (tCall sp [] E0 tNil) := by
  obtain ⟨f, fd, ps, F, hm, kp, b⟩ := c.ex
  exact pe_call0 F (hr.mono hk) hg hm kp b .nil pass0 hdb
end
/-! ### heaps: all but p stands -/
def SameB (p : Addr) (H H' : Hp) : Prop := ∀ b o, b ≠ p → H b = some o → H' b = some o
theorem SameB.refl (p : Addr) (H : Hp) : SameB p H H := fun _ _ _ h => h
theorem SameB.trans {p : Addr} {H H1 H2 : Hp} (a : SameB p H H1) (b : SameB p H1 H2) : SameB p H H2 := fun c o n h => b c o n (a c o n h)
theorem SameB.of {p : Addr} {H H' : Hp} (a : Same H H') : SameB p H H' := fun c o _ h => a c o h
theorem SameB.set {p : Addr} {H : Hp} {o : HO} : SameB p H (upd H p o) := fun c u n h => by rw [upd_ne n]; exact h
theorem same_new {H : Hp} {p : Addr} {o : HO} (h : H p = none) : Same H (upd H p o) := fun b u e => by rw [upd_ne (ne_of_none e h)]; exact e
theorem SameB.put {p : Addr} {H H' : Hp} {o : HO} (a : SameB p H H') : SameB p H (upd H' p o) := fun c u n h => by rw [upd_ne n]; exact a c u n h
/-! ### the purse -/
structure Purse (H : Hp) (p : Addr) : Prop where
  ex : ∃ st dg c : Int, H p = some (.lst [.int st, .int dg, .int c]) ∧ 0 ≤ st ∧ st < 2147483563 ∧ 0 ≤ dg
theorem Purse.same {H H' : Hp} {p : Addr} (h : Purse H p) (s : Same H H') : Purse H' p := by
  obtain ⟨st, dg, c, e, r⟩ := h.ex
  exact ⟨st, dg, c, s _ _ e, r⟩
theorem Purse.sameB {H H' : Hp} {p q : Addr} (h : Purse H p) (n : p ≠ q) (s : SameB q H H') : Purse H' p := by
  obtain ⟨st, dg, c, e, r⟩ := h.ex
  exact ⟨st, dg, c, s _ _ n e, r⟩
theorem divp_small {i j : Int} (h0 : 0 < j) (h1 : j < 2 ^ 200) : CDivP i j := by
  refine ⟨h0, ?_⟩
  unfold Builtin.divisionGoesByPylong
  have hb : j.natAbs.log2 < 200 := PySem.Flt.log2_lt_of (by decide) (by omega)
  have hj : ¬ (j == 0) = true := by simpa using (show j ≠ 0 by omega)
  show (decide ((if j == 0 then 0 else j.natAbs.log2 / 30 + 1) > 300) && _) = false
  rw [if_neg hj, decide_eq_false (by omega), Bool.false_and]
/-! ### odd values, alike values -/
def flatS : V → Bool
  | .non => true | .bl _ => true | .int _ => true | .str _ => true
  | _ => false
theorem flatS_B {x : V} (h : flatS x = true) : flatB x = true := by
  cases x <;> first | rfl | cases h
def Al (H : Hp) : Nat → V → V → Prop
  | 0, x, y => x = y ∧ flatS x = true
  | n + 1, x, y => (x = y ∧ flatS x = true) ∨
    (∃ a b xs ys, x = .ref a ∧ y = .ref b ∧ H a = some (.lst xs) ∧ H b = some (.lst ys) ∧ xs.length ≤ 1000 ∧ Paired (Al H n) xs ys) ∨
    (∃ a b xs ys, x = .ref a ∧ y = .ref b ∧ H a = some (.tup xs) ∧ H b = some (.tup ys) ∧ xs.length ≤ 1000 ∧ Paired (Al H n) xs ys) ∨
    (∃ (a : Addr) (kvs : List (Key × V)), x = .ref a ∧ y = .ref a ∧ H a = some (.dK kvs) ∧ ∀ kv ∈ kvs, valV kvs kv.1 = some kv.2 ∧ (flatS kv.2 = true ∨ ∃ b, kv.2 = .ref b))
theorem Al.mono {H H' : Hp} : ∀ {n : Nat} {x y : V}, (∀ b o, H b = some o → (∀ l, o = .lst l → l.length ≠ 3) → H' b = some o) → (∀ b l, H b = some (.lst l) → l.length = 3 → ∃ l', H' b = some (.lst l')) → Same H H' → Al H n x y → Al H' n x y
  | 0, _, _, _, _, _, h => h
  | n + 1, x, y, k1, k2, s, h => by
    have ih : ∀ {xs ys : List V}, Paired (Al H n) xs ys → Paired (Al H' n) xs ys := fun p => Paired.mapP p fun a b q => Al.mono k1 k2 s q
    rcases h with h | ⟨a, b, xs, ys, h1, h2, h3, h4, h5, h6⟩ | ⟨a, b, xs, ys, h1, h2, h3, h4, h5, h6⟩ | ⟨a, kvs, h1, h2, h3, h4⟩
    · exact .inl h
    · exact .inr (.inl ⟨a, b, xs, ys, h1, h2, s _ _ h3, s _ _ h4, h5, ih h6⟩)
    · exact .inr (.inr (.inl ⟨a, b, xs, ys, h1, h2, s _ _ h3, s _ _ h4, h5, ih h6⟩))
    · exact .inr (.inr (.inr ⟨a, kvs, h1, h2, s _ _ h3, h4⟩))
theorem Al.same {H H' : Hp} {n : Nat} {x y : V} (h : Al H n x y) (s : Same H H') : Al H' n x y := Al.mono (fun b o e _ => s b o e) (fun b l e _ => ⟨l, s _ _ e⟩) s h
def Od (H : Hp) : Nat → V → Prop
  | 0, v => flatS v = true
  | n + 1, v => flatS v = true ∨ (∃ a xs, v = .ref a ∧ H a = some (.lst xs) ∧ xs.length ≤ 1 ∧ ∀ x ∈ xs, Od H n x) ∨ (∃ a xs, v = .ref a ∧ H a = some (.tup xs) ∧ xs.length ≤ 3 ∧ ∀ x ∈ xs, Od H n x) ∨
    (∃ (a : Addr) (kvs : List (Key × V)), v = .ref a ∧ H a = some (.dK kvs) ∧ kvs.length ≤ 1 ∧ ∀ kv ∈ kvs, flatS kv.2 = true ∨ ∃ b, kv.2 = .ref b)
theorem Od.keep {H H' : Hp} {p : Addr} {st dg c : V} (hp : H p = some (.lst [st, dg, c])) (s : SameB p H H') : ∀ {n : Nat} {v : V}, Od H n v → Od H' n v
  | 0, _, h => h
  | n + 1, v, h => by
    rcases h with h | ⟨a, xs, h1, h2, h3, h4⟩ | ⟨a, xs, h1, h2, h3, h4⟩ | ⟨a, kvs, h1, h2, h3, h4⟩
    · exact .inl h
    · refine .inr (.inl ⟨a, xs, h1, s _ _ (fun e => ?_) h2, h3, fun x hx => (h4 x hx).keep hp s⟩)
      rw [e, hp] at h2
      cases h2
      simp at h3
    · refine .inr (.inr (.inl ⟨a, xs, h1, s _ _ (fun e => ?_) h2, h3, fun x hx => (h4 x hx).keep hp s⟩))
      rw [e, hp] at h2
      cases h2
    · refine .inr (.inr (.inr ⟨a, kvs, h1, s _ _ (fun e => ?_) h2, h3, h4⟩))
      rw [e, hp] at h2
      cases h2
theorem Od.same {H H' : Hp} (s : Same H H') : ∀ {n : Nat} {v : V}, Od H n v → Od H' n v
  | 0, _, h => h
  | n + 1, v, h => by
    rcases h with h | ⟨a, xs, h1, h2, h3, h4⟩ | ⟨a, xs, h1, h2, h3, h4⟩ | ⟨a, kvs, h1, h2, h3, h4⟩
    · exact .inl h
    · exact .inr (.inl ⟨a, xs, h1, s _ _ h2, h3, fun x hx => (h4 x hx).same s⟩)
    · exact .inr (.inr (.inl ⟨a, xs, h1, s _ _ h2, h3, fun x hx => (h4 x hx).same s⟩))
    · exact .inr (.inr (.inr ⟨a, kvs, h1, s _ _ h2, h3, h4⟩))
theorem paired_self {α : Type} {R : α → α → Prop} : ∀ {xs : List α}, (∀ x ∈ xs, R x x) → Paired R xs xs
  | [], _ => .nil
  | x :: xs, h => .cons (h x (List.mem_cons_self ..)) (paired_self fun y hy => h y (List.mem_cons_of_mem _ hy))
theorem Od.al {H : Hp} : ∀ {n : Nat} {v : V}, Od H n v → Al H n v v
  | 0, _, h => ⟨rfl, h⟩
  | n + 1, v, h => by
    rcases h with h | ⟨a, xs, h1, h2, h3, h4⟩ | ⟨a, xs, h1, h2, h3, h4⟩ | ⟨a, kvs, h1, h2, h3, h4⟩
    · exact .inl ⟨rfl, h⟩
    · exact .inr (.inl ⟨a, a, xs, xs, h1, h1, h2, h2, by omega, paired_self fun x hx => (h4 x hx).al⟩)
    · exact .inr (.inr (.inl ⟨a, a, xs, xs, h1, h1, h2, h2, by omega, paired_self fun x hx => (h4 x hx).al⟩))
    · refine .inr (.inr (.inr ⟨a, kvs, h1, h1, h2, fun kv hk => ⟨?_, h4 kv hk⟩⟩))
      match kvs, h3, hk with
      | [q], _, hk =>
        obtain rfl : kv = q := by simpa using hk
        simp [valV]
/-- x == y where both are one scalar or one dict -/
def rSelf : R2 := fun x y H Q => x = y ∧ (flatS x = true ∨ ∃ (a : Addr) (kvs : List (Key × V)), x = .ref a ∧ H a = some (.dK kvs) ∧ ∀ kv ∈ kvs, valV kvs kv.1 = some kv.2 ∧ (flatS kv.2 = true ∨ ∃ b, kv.2 = .ref b)) ∧ Q (.bl true) H
theorem op_self {X : Cx} (hu : X.A.units + 64 < cLine) : OpR X (compareOp .Eq) rSelf := by
  intro pins s σ H x y v u Q I rx ry h
  obtain ⟨rfl, h, q⟩ := h
  rcases h with h | ⟨a, kvs, rfl, ha, hk⟩
  · refine op_eq pins s σ H x x v u Q I rx ry ⟨?_, by rw [decide_eq_true rfl]; exact q⟩
    cases x <;> first | rfl | cases h
  · refine op_eqV hu pins s σ H _ _ v u Q I rx ry ⟨1, by decide, .inr ⟨a, a, kvs, kvs, rfl, rfl, ha, ha, rfl, fun p hp => ⟨p.2, (hk p hp).1, ?_⟩⟩, q⟩
    rcases (hk p hp).2 with z | ⟨b, z⟩
    · exact .inl ⟨rfl, flatS_B z⟩
    · exact .inr (.inl ⟨b, z, z⟩)
end L2.Tb
set_option Elab.async false
set_option linter.all false
set_option maxRecDepth 100000
set_option maxHeartbeats 4000000
namespace L2.Tb
open PySem PySem.Spec PyProof.Rows
/-! ### an error class with one attribute, as the law meets it -/
def spInit (K : PySem.W.Frag) (f : Str) : Sp := fun vs H Q _ => ∃ (a C : Addr) (b : Bs) (v : V), vs = [.ref a, v] ∧ EC K b C ∧ PySem.W.findIn K (.ref C) f = some none ∧ H a = some (exo a C none) ∧
  ∀ dx, H dx = none → dx ≠ a → Q .non (upd (upd H dx (exd dx [(f, v)])) a (exo a C (some dx)))
/-- at a: an error of the class at C whose attribute f is v -/
def ErAt (H : Hp) (a C : Addr) (f : Str) (v : V) : Prop := ∃ dx, H a = some (exo a C (some dx)) ∧ H dx = some (exd dx [(f, v)])
theorem ErAt.same {H H' : Hp} {a C : Addr} {f : Str} {v : V} (h : ErAt H a C f v) (s : Same H H') : ErAt H' a C f v := by
  obtain ⟨dx, h1, h2⟩ := h
  exact ⟨dx, s _ _ h1, s _ _ h2⟩
structure ErC (P : Program) (w : World) (K : PySem.W.Frag) (mg : Str → Option Value) (base : Heap) (x f : Str) (b : Bs) (C : Addr) : Prop where
  mgC : mg x = some (.ref C)
  ec : EC K b C
  no : PySem.W.findIn K (.ref C) f = some none
  init : ∃ (fI : Addr) (fd : FuncData), PySem.W.findIn K (.ref C) "__init__" = some (some (.ref fI)) ∧ PySem.W.typeIn K (.ref fI) = some (.type "function") ∧ FnOk P w K mg base L2.CX0 1 fI fd ["self", f] (spInit K f) ∧ Binds K fd ["self", f] [] ∧
    ∀ (sh : Shared) (a : Addr) (zs : List Value), zs.length = [f].length → BindsTo sh fd ⟨[Value.ref a], [f].zip zs⟩ (("self" :: [f] : List Str).zip (Value.ref a :: zs))
section
variable {P : Program} {w : World} {K : PySem.W.Frag} {mg : Str → Option Value} {base : Heap} {f : Str} {fI : Addr} {fd : FuncData} {qual : Str} {params : Arguments} {scope : Scope} {p1 p2 p3 p4 : Pos}
theorem init_ok (F : FunD K "__init__" qual params [.Assign [.Attribute (.Name "self" p1) f p2] (.Name f p3) p4] scope [] [] fI fd) (S : FnScope ["self", f] ["self", f] scope)
    (h0 : scope.names.lookup ("self" : Str) = some .local) (h1 : scope.names.lookup f = some .local) (hd : (f == ("__debug__" : Str)) = false) (hcd : (f == ("__classdict__" : Str)) = false) : FnOk P w K mg base L2.CX0 1 fI fd ["self", f] (spInit K f) := by
  refine F.ok S (fun vs H Q E h => ?_) (fun cdv A outer s H vs Q E hr h => ?_)
  · obtain ⟨a, C, b, v, rfl, _⟩ := h
    rfl
  · obtain ⟨a, C, b, v, rfl, T, hno, ha, k⟩ := h
    refine ⟨_, pss_one (ps_osv (pe_var (i := 0) rfl (.inl h0)) (pe_var (i := 1) rfl (.inl h1) hd hcd)), ?_⟩
    exact ⟨_, rfl, _, rfl, a, C, b, rfl, T, hno, ha, fun dx n ne => k dx n ne⟩
end
/-- a reading, weakened behind -/
def tUp (te : TE) : TE := fun σ H Q => ∃ Q' : VK, te σ H Q' ∧ ∀ v H1, Q' v H1 → Q v H1
theorem pe_up {X : Cx} {e : Expr} {te : TE} (he : PE X e te) : PE X e (tUp te) :=
  ⟨fun pins s σ H Q I h => let ⟨Q', h1, h2⟩ := h; thn (he.run pins s σ H Q' I h1) fun u s1 ⟨v, H1, I1, r, q⟩ => ⟨v, H1, I1, r, h2 v H1 q⟩⟩
/-- the reading of an error made by place or by name -/
def tEr (C : Addr) (f : Str) (te : TE) : TE := fun σ H Q => te σ H fun v H1 => ∀ a H2, Same H1 H2 → H1 a = none → ErAt H2 a C f v → Q (.ref a) H2
section
variable {X : Cx} {x f : Str} {b : Bs} {C : Addr} {p pos : Pos} {e : Expr} {te : TE}
theorem er_run {v : V} {H1 : Hp} {Q : VK} (T : EC X.K b C) (hno : PySem.W.findIn X.K (.ref C) f = some none) (q : ∀ a H2, Same H1 H2 → H1 a = none → ErAt H2 a C f v → Q (.ref a) H2) (a : Addr) (n : H1 a = none) :
    spInit X.K f [.ref a, v] (upd H1 a (exo a C none)) (fun u H2 => u = .non ∧ Q (.ref a) H2) E0 := by
  refine ⟨a, C, b, v, rfl, T, hno, upd_same, fun dx nd ne => ⟨rfl, q a _ (fun c o h => ?_) n ⟨dx, upd_same, by rw [upd_ne ne, upd_same]⟩⟩⟩
  have hca : c ≠ a := ne_of_none h n
  have hcd : c ≠ dx := fun z => by
    rw [z] at h
    rw [upd_ne ne] at nd
    rw [nd] at h
    cases h
  rw [upd_ne hca, upd_ne hcd, upd_ne hca]
  exact h
theorem pe_er (E : ErC X.prog X.w X.K X.mg X.base x f b C) {j : Nat} (hr : Room j X.A) (hj : 2 ≤ j) (hg : Gl X x) (he : PE X e te) (hdb : (x == ("__debug__" : Str)) = false := by decide) (hs : starEach [e] X.env = (false, eval e X.env) :: starEach [] X.env := by rfl) :
    PE X (.Call (.Name x p) [e] [] pos) (tEr C f te) := by
  obtain ⟨fI, fd, h1, h2, h3, h4, _⟩ := E.init
  exact ⟨fun pins s σ H Q I h => (pe_mkV E.ec h1 h2 h3 (hr.mono hj) h4 pass0 hg E.mgC (pa_cons (pe_up he) pa_nil hs) hdb hs (by rfl)).run pins s σ H Q I ⟨_, h, fun v H1 q => ⟨Nat.le_of_ble_eq_true rfl, fun a n => er_run E.ec E.no q a n⟩⟩⟩
theorem pe_erK (E : ErC X.prog X.w X.K X.mg X.base x f b C) {j : Nat} {kpos : Pos} (hr : Room j X.A) (hj : 2 ≤ j) (hg : Gl X x) (he : PE X e te) (hdb : (x == ("__debug__" : Str)) = false := by decide)
    (hall : (backToKw pos (keywordEach [⟨some f, e, kpos⟩] X.env)).all (·.1.isSome) = true := by rfl) (hks : (backToKw pos (keywordEach [⟨some f, e, kpos⟩] X.env)).filterMap (·.1) = [f] := by rfl)
    (hpl : ((backTo pos (starEach [] X.env)).any (·.1) || (backToKw pos (keywordEach [⟨some f, e, kpos⟩] X.env)).any (·.1.isNone)) = false := by rfl) :
    PE X (.Call (.Name x p) [] [⟨some f, e, kpos⟩] pos) (tEr C f te) := by
  obtain ⟨fI, fd, h1, h2, h3, h4, h5⟩ := E.init
  exact ⟨fun pins s σ H Q I h => (pe_mkVK (ks := [f]) E.ec h1 h2 h3 (hr.mono hj) h5 pass0 hg E.mgC (pk_cons (pe_up he) pk_nil) rfl hall hks hdb hpl).run pins s σ H Q I ⟨_, h, fun v H1 q => ⟨Nat.le_of_ble_eq_true rfl, fun a n => er_run E.ec E.no q a n⟩⟩⟩
end
end L2.Tb
set_option Elab.async false
set_option linter.all false
set_option maxRecDepth 100000
set_option maxHeartbeats 4000000
namespace L2.Tb
open PySem PySem.Spec PyProof.Rows
/-! ### a def's promise at one place of the stack (for what hangs on the stack: repr) -/
section
variable {P : Program} {w : World} {K : PySem.W.Frag} {mg : Str → Option Value} {base : Heap} {f : Addr} {fd : FuncData} {ps : List Str} {sp : Sp} {A : Around}
def RunsAt (P : Program) (w : World) (K : PySem.W.Frag) (mg : Str → Option Value) (base : Heap) (f : Addr) (fd : FuncData) (ps : List Str) (sp : Sp) (A : Around) : Prop :=
  ∀ (outer : List Env) (s : Shared) (H : Hp) (args : Args) (us : List Value) (vs : List V) (Q : VK) (E : XK), Env0 P w K mg base A outer s H → BindsTo s fd args (ps.zip us) → Vals vs us → vs.length = ps.length → sp vs H Q E →
    codeAny (model P w) A (.call (.ref f) args) (CR L2.CX0 outer P w H s Q E) s
/-- how a body's end becomes the call's end -/
theorem end_call {s s' : Shared} {H : Hp} {Q : VK} {E : XK} {fl : Flow} {N : List Str} {x : Str} {sc : Scope} {cdv : Value} {outer : List Env}
    (h : SP (cxOf L2.CX0 P w K mg base N x sc f cdv A outer s H E) [] { nx := fun _ H' => Q .non H', rt := Q } fl s') : CR L2.CX0 outer P w H s Q E (.ok (.ret (match (generalizing := false) fl with | .ret v => v | _ => .none))) s' := by
  match fl, h with
  | .ret u, ⟨v, σ', H', J, rv, q⟩ => exact ⟨v, H', J.os, J.bare, J.base, J.hok, rv, q⟩
  | .next, ⟨σ', H', J, q⟩ => exact ⟨.non, H', J.os, J.bare, J.base, J.hok, rfl, q⟩
  | .brk, ⟨_, _, _, q⟩ => exact q.elim
  | .cont, ⟨_, _, _, q⟩ => exact q.elim
theorem runs_body {x : Str} {st : Stmt} {N : List Str} {k : Nat} (F : FnP K x st f fd) (S : FnScope N ps (defScope st)) (hr : Room (k + 1) A)
    (hbody : ∀ (cdv : Value) (outer : List Env) (s : Shared) (H : Hp) (vs : List V) (Q : VK) (E : XK), Room k (A.deeper (envOfC x (defScope st) s.heap.objs.size f cdv)) → sp vs H Q E →
      ∃ t, PSs (cxOf L2.CX0 P w K mg base N x (defScope st) f cdv A outer s H E) (defBody st) t ∧ t { nx := fun _ H' => Q .non H', rt := Q } (start N vs) H) : RunsAt P w K mg base f fd ps sp A := by
  obtain ⟨oc, od, dV, kV, doc, pm, an, cdv, ct, osl, rfl, lk, hcd, _, _⟩ := F.ex
  intro outer s H args us vs Q E e0 hb r hl hsp
  have here : ∀ {b o}, base.get? b = some o → s.heap.get? b = some o := fun e => (e0.bs _ _ e).1
  have KX : K.In s.heap := e0.mod.kin.keeps fun _ _ e => here e
  obtain ⟨t, ht, hq⟩ := hbody cdv outer s H vs Q E (hr.deeper _) hsp
  refine codeAny_call_function hr.depth (KX _ _ lk) rfl S.co S.gen rfl (PySem.W.codeRec_of KX hcd) (hb _ _ _ _ (wpAny_newFunctionEnv_cells S.kind (fun y hy => ?_) fun env he s1 i => ?_))
  · exact (S.par y.1 (List.of_mem_zip hy).1).imp_right fun q => ⟨q, PySem.W.cellsFrom_some _ _ _ (.inl q)⟩
  · rw [he]
    rw [he] at i
    exact ⟨(e0.mod.nolimit.keeps fun _ _ e => here e).keeps i.toInCall.keep, codeAny_func (wpAny_mono (ht.run [] s1 _ H _ (inv_start S hr.hd e0 hl r i) hq) (fun fl s' h => end_call h) fun _ _ h => h)⟩
end
section
variable {X : Cx} {f : Addr} {fd : FuncData} {ps : List Str} {sp : Sp} {x : Str} {p pos : Pos}
/-- x(), x a def without parameters that runs here -/
theorem pe_at0 (R : RunsAt X.prog X.w X.K X.mg X.base f fd [] sp X.A) (hg : Gl X x) (hm : X.mg x = some (.ref f)) (hk : PySem.W.keepIn X.K (.ref f) = true) (hb : ∀ s : Shared, X.K.In s.heap → BindsTo s fd ⟨[], []⟩ []) (hdb : (x == ("__debug__" : Str)) = false := by decide) :
    PE X (.Call (.Name x p) [] [] pos) (fun _ H Q => sp [] H Q E0) := by
  refine ⟨fun pins s σ H Q I h => wpAny_Call_Name_kw (ld_glob I hg hm (PySem.W.callWith_K0 I.kIn hk (wpAny_call (codeAny_mono (R X.stack s H ⟨[], []⟩ [] [] Q E0 I.env0 (hb s I.kIn) .nil rfl h) fun r s' hq => ?_))) hdb)⟩
  match r, hq with
  | .error e, hq => exact pass0 pins σ H s e s' I hq
  | .ok (.ret u), hq => exact I.after hq
end
section
variable {X : Cx}
def rReprD (K : PySem.W.Frag) : List V → Hp → VK → Prop := fun vs H Q => ∃ (a : Addr) (d : PyData), vs = [.ref a] ∧ Dp K H (.ref a) d ∧ d.showable = true ∧ d.hasDict = false ∧ d.depth ≤ 60 ∧ d.shown.length ≤ sizeLine ∧ Q (.str d.shown) H
theorem call_reprD (hg : X.A.guards = some []) (hu : X.A.units + 64 < cLine) : CallR X (.builtin "repr") (rReprD X.K) := by
  intro pins s σ H vs us Q I r h
  obtain ⟨a, d, rfl, hd, h1, h2, h3, h4, q⟩ := h
  rw [Vals.ref1 r]
  obtain ⟨as, rr⟩ := Dp.reads I d (.ref a) (.ref a) hd rfl
  exact repr_of_reads' rr h1 (fun z => by rw [h2] at z; cases z) hg (by omega) (fun _ _ e => e) (fun h' u tk hk => ⟨.str d.shown, H, I.kept hk, ⟨u, rfl⟩, q⟩) h4
end
/-! ### the end, at the place of the law's call -/
theorem law_at {P : Program} {w : World} {K : PySem.W.Frag} {mg mb : Str → Option Value} {fa a : Addr} {fd : FuncData} {x : Str} {sp : Sp} {s1 : Shared} {vs : List Value} {ns : List Int} (KX : K.In s1.heap) (hns : s1.heap.Ns mainGlobals mg) (hb : s1.heap.Ns builtinsNs mb)
    (hbb : ∀ x : Str, x ≠ "__name__" → mb x = bootBuiltins x) (hlim : s1.heap.NoLimit) (hg : s1.gens = #[]) (ha : s1.heap.get? a = some { cls := .type "list", data := .seq vs.toArray }) (hi : IntsAre vs ns) (hl : ns.length ≤ sizeLine)
    (R : ∀ base : Heap, K.In base → base.Ns mainGlobals mg → RunsAt P w K mg base fa fd [x] sp callerA) (hbind : ∀ (s : Shared) (u : Value), BindsTo s fd ⟨[u], []⟩ [(x, u)])
    (hsp : ∀ H : Hp, SqL K H a (ns.map V.int) → (∀ b o, H b = some o → ∃ u xs, o = .frz u (.lst xs)) → sp [.ref a] H (fun v _ => v = .bl true) fun _ _ _ => False) :
    codeAny (model P w) callerA (.call (.ref fa) ⟨[.ref a], []⟩) (fun r s' => r = .ok (.ret (.bool true)) ∧ OldK s1.heap s'.heap ∧ s'.os = s1.os ∧ AllBare s'.gens) s1 := by
  let ob : Obj := { cls := .type "list", data := .seq vs.toArray }
  let H : Hp := fun b => if b = a ∧ K.lookup a = none then some (.frz ob (.lst (ns.map V.int))) else none
  have hH : ∀ b o, H b = some o → b = a ∧ K.lookup a = none ∧ o = .frz ob (.lst (ns.map V.int)) := fun b o e => by
    by_cases c : b = a ∧ K.lookup a = none
    · have e' := (if_pos c).symm.trans e
      cases e'
      exact ⟨c.1, c.2, rfl⟩
    · have e' := (if_neg c).symm.trans e
      cases e'
  have free : ∀ b o, s1.heap.get? b = some o → (b = a → (K.lookup a).isSome = true ∨ ∃ es ep, o.data = .dict es ep) → H b = none := fun b o e c => by
    cases q : H b with
    | none => rfl
    | some u =>
      obtain ⟨rfl, hk, _⟩ := hH b u q
      rcases c rfl with z | ⟨es, ep, z⟩
      · rw [hk] at z
        cases z
      · rw [ha] at e
        cases e
        cases z
  have ns1 : ∀ {b : Addr} {m : Str → Option Value}, s1.heap.Ns b m → (hidT s1.heap H).Ns b m := fun {b m} ⟨o, es, ep, e, d, r⟩ => ⟨o, es, ep, hidT_get e (free b o e fun _ => .inr ⟨es, ep, d⟩), d, r⟩
  have kin : K.In (hidT s1.heap H) := fun b o e => hidT_get (KX b o e) (free b o (KX b o e) fun z => .inl (by rw [← z, e]; rfl))
  have rv := vals_ints hi
  have sq : SqL K H a (ns.map V.int) := by
    cases hk : K.lookup a with
    | none => exact .inl (.inr ⟨ob, if_pos ⟨rfl, hk⟩⟩)
    | some o =>
      have e := KX a o hk
      rw [ha] at e
      cases e
      exact .inr ⟨_, vs.toArray, _, hk, rfl, rfl, rfl, by rw [List.size_toArray, hi.length]; exact hl, by simpa using rv⟩
  have hok : HOk P w H s1.heap := fun b u z => by
    obtain ⟨rfl, _, rfl⟩ := hH b u z
    exact ⟨ha, by rw [List.length_map]; exact hl, vs, _, rv, ha⟩
  obtain ⟨mc, l1, l2⟩ := hlim
  have e0 : Env0 P w K mg (hidT s1.heap H) callerA [] s1 H := ⟨rfl, ⟨kin, ns1 hns, ⟨mb, ns1 hb, hbb⟩, ⟨mc, ns1 l1, l2⟩⟩, fun _ _ e => of_hidT e, Nat.le_of_eq (hidT_size _ _), trivial, fun b hb => (nomatch hb), hok, .of_eq hg⟩
  refine codeAny_mono (R _ kin (ns1 hns) [] s1 H _ [.ref a] [.ref a] (fun v _ => v = .bl true) (fun _ _ _ => False) e0 (hbind s1 (.ref a)) (.cons rfl .nil) rfl (hsp H sq fun b o e => ⟨_, _, (hH b o e).2.2⟩)) fun r s' h => ?_
  match r, h with
  | .error e, h => exact h.elim
  | .ok (.ret u), ⟨v, H', os, bare, un, hok', r', q⟩ =>
    subst q
    obtain rfl : u = Value.bool true := r'
    refine ⟨rfl, OldK.of_keep fun b o e => ?_, os, bare⟩
    cases z : H b with
    | none => exact un.keep b o e z (fun z => nomatch z) (fun z => nomatch z)
    | some o2 =>
      obtain ⟨rfl, _, rfl⟩ := hH b o2 z
      rw [ha] at e
      cases e
      exact (hok' b _ (un.frzs b ob _ z)).1
theorem walk_at {l : PySem.W.OpenLaw} {n : Nat} {q : Program} {loose : List Str} {XP : (Str → Option Value) → Heap → Prop} {YP : World → Heap → Prop} {d : DefRec} {x : Str} (hn : l.most = some n) (hn2 : n ≤ sizeLine) (hdf : d.params.defaults = [])
    (F : ∀ (w : World) (mg : Str → Option Value) (fa : Addr) (h : Heap), YP w h → h.Ns mainGlobals mg → mg d.name = some (.ref fa) → ∃ (K : PySem.W.Frag) (fd : FuncData) (sp : Sp), K.In h ∧ (∀ (s : Shared) (u : Value), BindsTo s fd ⟨[u], []⟩ [(x, u)]) ∧
      (∀ (H : Hp) (a : Addr) (ns : List Int), ns.length ≤ n → (∀ z ∈ ns, Builtin.Int.intBits z ≤ 1048576) → SqL K H a (ns.map V.int) → sp [.ref a] H (fun v _ => v = .bl true) fun _ _ _ => False) ∧
      ∀ base : Heap, K.In base → base.Ns mainGlobals mg → RunsAt l.prog w K mg base fa fd [x] sp callerA) :
    PySem.W.WalkO q loose XP YP l.row.toRowW d [] (fun f vs => PySem.call f vs) := by
  refine Att.attach_callB hn hdf fun w s0 s1 mg mb fa o pm cd doc a vs ns G Y ho hd hcd hmg hobj hints hlen hbits hg => ?_
  obtain ⟨K, fd, sp, KX, hb, hsp, R⟩ := F w mg fa _ Y G.T.g hmg
  exact law_at KX G.T.g G.T.b G.T.builtins G.T.nolimit hg hobj hints (Nat.le_trans hlen hn2) R hb fun H sq _ => hsp H a ns hlen hbits sq
end L2.Tb
set_option Elab.async false
set_option linter.all false
set_option maxRecDepth 100000
set_option maxHeartbeats 8000000
namespace L2.K1
open PySem PySem.Spec PyProof.Rows L2.Tb
/-! ### the text by places -/
def top (i : Nat) : Stmt := PySem.Challenge.pw_thirdback_k01_limits_and_errors.main.body.getD i (.Pass ⟨0, 0, 0, 0⟩)
/-- the built-ins' names -/
structure Bt (mg : Str → Option Value) : Prop where
  m_len : mg "len" = none
  m_int : mg "int" = none
  m_abs : mg "abs" = none
  m_divmod : mg "divmod" = none
  m_isinstance : mg "isinstance" = none
  m_tuple : mg "tuple" = none
  m_list : mg "list" = none
  m_bool : mg "bool" = none
  m_all : mg "all" = none
  m_zip : mg "zip" = none
  m_range : mg "range" = none
  m_max : mg "max" = none
  m_min : mg "min" = none
  m_enumerate : mg "enumerate" = none
  m_repr : mg "repr" = none
  m_sorted : mg "sorted" = none
  m_ValueError : mg "ValueError" = none
  m_LookupError : mg "LookupError" = none
  m_ArithmeticError : mg "ArithmeticError" = none
abbrev s_cell : Stmt := top 54
abbrev N_cell : List Str := ["_law_cells", "_law_k", "_law_seed", "_law_cell_here"]
theorem sc_cell : FnScope N_cell ["_law_cells", "_law_k"] (defScope s_cell) := ⟨rfl, rfl, rfl, by decide +kernel, rfl, by decide +kernel, by decide +kernel⟩
abbrev s_purse : Stmt := top 55
abbrev N_purse : List Str := ["_law_cell_here", "_law_digits"]
theorem sc_purse : FnScope N_purse ["_law_cell_here"] (defScope s_purse) := ⟨rfl, rfl, rfl, by decide +kernel, rfl, by decide +kernel, by decide +kernel⟩
abbrev s_draw : Stmt := top 56
abbrev N_draw : List Str := ["_law_purse_here", "_law_many", "_law_state", "_law_digit"]
theorem sc_draw : FnScope N_draw ["_law_purse_here", "_law_many"] (defScope s_draw) := ⟨rfl, rfl, rfl, by decide +kernel, rfl, by decide +kernel, by decide +kernel⟩
abbrev s_alike : Stmt := top 57
abbrev N_alike : List Str := ["_law_thing", "_law_twin", "_law_a", "_law_b"]
theorem sc_alike : FnScope N_alike ["_law_thing", "_law_twin"] (defScope s_alike) := ⟨rfl, rfl, rfl, by decide +kernel, rfl, by decide +kernel, by decide +kernel⟩
abbrev s_odd : Stmt := top 58
abbrev N_odd : List Str := ["_law_purse_here", "_law_way"]
theorem sc_odd : FnScope N_odd ["_law_purse_here"] (defScope s_odd) := ⟨rfl, rfl, rfl, by decide +kernel, rfl, by decide +kernel, by decide +kernel⟩
/-! ### promises -/
abbrev iBits := Builtin.Int.intBits
def spCell (K : PySem.W.Frag) : Sp := fun vs H Q _ => ∃ (a : Addr) (ns : List Int) (k : Nat), vs = [.ref a, .int (k : Int)] ∧ SqL K H a (ns.map V.int) ∧ (∀ n ∈ ns, iBits n ≤ 1048576) ∧ k ≤ 64 ∧
  ∀ (z : Int) (H' : Hp), Same H H' → iBits z ≤ 1048576 → Q (.int z) H'
def spPurse : Sp := fun vs H Q _ => ∃ z : Int, vs = [.int z] ∧ iBits z ≤ 1048576 ∧ ∀ (p : Addr) (H' : Hp), Same H H' → H p = none → Purse H' p → Q (.ref p) H'
def spDraw : Sp := fun vs H Q _ => ∃ (p : Addr) (m : Int), vs = [.ref p, .int m] ∧ Purse H p ∧ 0 < m ∧ m < 2 ^ 200 ∧ ∀ (d : Int) (H' : Hp), 0 ≤ d → d < m → SameB p H H' → Purse H' p → Q (.int d) H'
def spOdd : Sp := fun vs H Q _ => ∃ p : Addr, vs = [.ref p] ∧ Purse H p ∧ ∀ (v : V) (H' : Hp), SameB p H H' → Purse H' p → Od H' 3 v → Q v H'
def spAlike (n : Nat) : Sp := fun vs H Q _ => ∃ x y : V, vs = [x, y] ∧ Al H n x y ∧ ∀ H' : Hp, Same H H' → Q (.bl true) H'
section
variable {P : Program} {w : World} {K : PySem.W.Frag} {mg : Str → Option Value} {base : Heap} {f : Addr} {fd : FuncData}
theorem bits31 {z : Int} (h0 : 0 ≤ z) (h1 : z < 2147483648) : iBits z ≤ 1048576 := Nat.le_trans (PyProof.Rows.intBits_le (k := 31) (by omega)) (by decide)
theorem mem_map_int {ns : List Int} {i : Nat} {y : V} (h : (ns.map V.int)[i]? = some y) : ∃ u, y = V.int u ∧ u ∈ ns := by
  rw [List.getElem?_map] at h
  cases e : ns[i]? with
  | none =>
    rw [e] at h
    cases h
  | some u =>
    rw [e] at h
    exact ⟨u, (Option.some.inj h).symm, List.mem_of_getElem? e⟩
theorem c_cell (T : Bt mg) (F : FnP K "_law_cell" s_cell f fd) (hm : mg "_law_cell" = some (.ref f)) : Cal P w K mg base 1 "_law_cell" (spCell K) := by
  have hnd := sc_cell.nd
  refine cal_mk F hm sc_cell (fun _ _ _ _ _ _ us hl => match us, hl with | [_, _], _ => rfl) (fun vs H Q E h => ?_) (fun cdv A outer s H vs Q E hr h => ?_)
  · obtain ⟨a, ns, k, rfl, _⟩ := h
    rfl
  · obtain ⟨a, ns, k, rfl, hS, hb, hk, q⟩ := h
    refine ⟨_, (pss_cons (ps_if (pt_cmpR op_lt (pv 1) (pe_callB call_len_seq (by rfl) T.m_len (by decide +kernel) (pa_cons (pv 0) pa_nil)) (nomark _))
      (pss_one (ps_ret (pe_ix ix_list (pv 0) (pv 1) (fun _ _ => rfl))))
      pss_nil)
      (pss_cons (ps_set (i := 2) hnd rfl (by first | exact Or.inl rfl | exact Or.inr rfl) (pe_op op_add pe_int (pe_op op_mul (pe_op op_mul pe_int (pv 1)) (pv 1))))
      (pss_cons (ps_for PassesOwn.never (by rfl) (pi_list (pe_slice sl_list (pv 0) po_none (po_some pe_int))) (pg_name (i := 3) hnd rfl (by first | exact Or.inl rfl | exact Or.inr rfl))
      (pss_one (ps_set (i := 2) hnd rfl (by first | exact Or.inl rfl | exact Or.inr rfl) (pe_op op_mod (pe_callTy call_int1 (by rfl) T.m_int (by decide +kernel) (pa_cons (pe_op op_add (pe_op op_mul (pv 2) pe_int) (pv 3)) pa_nil)) pe_int))))
      (pss_one (ps_ret (pv 2)))))), ?_⟩
    refine ⟨_, rfl, _, rfl, a, _, rfl, .inl hS, _, _, rfl, rfl, _, rfl, ite2 (fun hlt => ?_) (fun hge => ?_)⟩
    · have hl : k < ns.length := by
        have z := of_decide_eq_true hlt
        rw [List.length_map] at z
        omega
      refine ⟨_, rfl, _, rfl, a, _, _, .int (ns[k]), rfl, rfl, hS, atI_nat (by simp [hl]), ?_⟩
      exact q _ _ (Same.refl _) (hb _ (List.getElem_mem ..))
    · refine ⟨_, rfl, _, _, rfl, rfl, .inl ⟨by decide, by decide⟩, _, rfl, _, _, rfl, rfl, .inr ⟨by omega, by omega⟩, _, _, rfl, rfl, ?_⟩
      refine ⟨_, rfl, _, rfl, a, _, rfl, hS, fun p np => ?_⟩
      refine ⟨p, rfl, ⟨_, SqL.of upd_same⟩, for_list (K := K) (a := p) (xs := cutV (ns.map V.int) none (some 3)) (fun i σ H' => ∃ (z : Int) (v : Option V), σ = [some (.ref a), some (.int k), some (.int z), v] ∧ H' = upd H p (.lst (cutV (ns.map V.int) none (some 3))) ∧ 0 ≤ z ∧ z < 2147483648)
        ⟨_, none, rfl, rfl, ?_, ?_⟩ (fun i σ H' _ ⟨_, _, _, e, _⟩ => by rw [e]; exact SqL.of upd_same) ?_ ?_⟩
      · have : (0 : Int) ≤ 617 * k * k := Int.mul_nonneg (Int.mul_nonneg (by omega) (by omega)) (by omega)
        omega
      · have h1 : (k : Int) * k ≤ 64 * 64 := Int.mul_le_mul (by omega) (by omega) (by omega) (by omega)
        rw [Int.mul_assoc]
        omega
      · rintro i y σ H' hi ⟨z, v, rfl, rfl, h0, h1⟩
        obtain ⟨u, rfl, hu⟩ : ∃ u, y = V.int u ∧ u ∈ ns := by
          have hm : y ∈ ns.map V.int := List.mem_of_mem_drop (List.mem_of_mem_take (List.mem_of_getElem? hi))
          obtain ⟨u, hu, rfl⟩ := List.mem_map.mp hm
          exact ⟨u, rfl, hu⟩
        refine ⟨_, rfl, _, _, rfl, rfl, .inl ⟨by omega, by omega⟩, _, rfl, _, _, rfl, rfl, .inl ⟨_, rfl, _, _, rfl, rfl, by show (0 : Int) < 2147483563; decide, ?_⟩⟩
        exact ⟨_, _, rfl, rfl, Int.emod_nonneg _ (by decide), Int.lt_trans (Int.emod_lt_of_pos _ (by decide)) (by decide)⟩
      · rintro σ H' ⟨z, v, rfl, rfl, h0, h1⟩
        exact ⟨_, rfl, q _ _ (same_new np) (bits31 h0 h1)⟩
theorem c_purse (T : Bt mg) (F : FnP K "_law_purse" s_purse f fd) (hm : mg "_law_purse" = some (.ref f)) : Cal P w K mg base 1 "_law_purse" spPurse := by
  have hnd := sc_purse.nd
  refine cal_mk F hm sc_purse (fun _ _ _ _ _ _ us hl => match us, hl with | [_], _ => rfl) (fun vs H Q E h => ?_) (fun cdv A outer s H vs Q E hr h => ?_)
  · obtain ⟨z, rfl, _⟩ := h
    rfl
  · obtain ⟨z, rfl, hb, q⟩ := h
    have fin : ∀ dg : Int, 0 ≤ dg → ∀ (σ : St), σ = [some (.int z), some (.int dg)] → tRet (tLst (tCons (tOp (rI (fun _ j => 0 < j) fun i j => .int (i % j)) (tCB (fun xs H Q => (∃ i, xs = [.int i] ∧ Q (.int i) H) ∨ ∃ k, xs = [.bl k] ∧ Q (.int (if k then 1 else 0)) H) (tCons (tOp (rI0 fun i j => .int (i + j)) (tOp (rI CMulX fun i j => .int (i * j)) (tVar 0) (tC (.int 950706376))) (tC (.int 918273))) tNil)) (tC (.int 2147483563))) (tCons (tVar 1) (tCons (tC (.int 0)) tNil)))) { nx := fun _ H' => Q .non H', rt := Q } σ H := fun dg hd σ e => by
      subst e
      refine ⟨_, rfl, _, _, rfl, rfl, ?_, _, _, rfl, rfl, .inl ⟨_, rfl, _, _, rfl, rfl, by show (0 : Int) < 2147483563; decide, ?_⟩⟩
      · have h2 : iBits 950706376 ≤ 30 := PyProof.Rows.intBits_le (k := 30) (by decide)
        show (iBits z : Int) + (iBits 950706376 : Int) ≤ 134217728
        omega
      · refine ⟨_, rfl, by show 3 ≤ sizeLine; decide, fun p np => ?_⟩
        exact q _ _ (same_new np) np ⟨_, _, _, upd_same, Int.emod_nonneg _ (by decide), Int.emod_lt_of_pos _ (by decide), hd⟩
    refine ⟨_, (pss_cons (ps_set (i := 1) hnd rfl (by first | exact Or.inl rfl | exact Or.inr rfl) (pe_ifExp (PW.pt (pw_or (pt_cmpR op_lt (pv 0) pe_int (nomark _)) (pw_or1 (pt_cmpR op_ge (pv 0) (pe_op op_pow pe_int pe_int) (nomark _))))) (pe_callB call_abs (by rfl) T.m_abs (by decide +kernel) (pa_cons (pv 0) pa_nil)) pe_int))
      (pss_one (ps_ret (pe_lst (pa_cons (pe_op op_mod (pe_callTy call_int1 (by rfl) T.m_int (by decide +kernel) (pa_cons (pe_op op_add (pe_op op_mulX (pv 0) pe_int) pe_int) pa_nil)) pe_int) (pa_cons (pv 1) (pa_cons pe_int pa_nil))))))), ?_⟩
    refine ⟨_, rfl, _, _, rfl, rfl, _, rfl, ite2 (fun hlt => ?_) (fun hge => ?_)⟩
    · refine ⟨_, rfl, _, rfl, fin _ ?_ _ rfl⟩
      split <;> omega
    · refine ⟨_, rfl, _, _, rfl, rfl, ⟨by decide, by decide, by decide⟩, _, _, rfl, rfl, _, rfl, ite2 (fun hlt => ?_) (fun hge => ?_)⟩
      · refine ⟨_, rfl, _, rfl, fin _ ?_ _ rfl⟩
        split <;> omega
      · exact fin 0 (by decide) _ rfl
theorem c_draw (T : Bt mg) (F : FnP K "_law_draw" s_draw f fd) (hm : mg "_law_draw" = some (.ref f)) : Cal P w K mg base 1 "_law_draw" spDraw := by
  have hnd := sc_draw.nd
  refine cal_mk F hm sc_draw (fun _ _ _ _ _ _ us hl => match us, hl with | [_, _], _ => rfl) (fun vs H Q E h => ?_) (fun cdv A outer s H vs Q E hr h => ?_)
  · obtain ⟨p, m, rfl, _⟩ := h
    rfl
  · obtain ⟨p, m, rfl, hp, m0, m1, q⟩ := h
    obtain ⟨st, dg, c, e, h0, h1, hd⟩ := hp.ex
    have ix : ∀ {σ : St} {o : Hp} {a b d : Int} (i : Nat) (v : Int), o p = some (.lst [.int a, .int b, .int d]) → [V.int a, .int b, .int d][i]? = some (.int v) → ∀ Q : VK, Q (.int v) o → rIxL K (.ref p) (.int (i : Int)) o Q := fun i v ho hv Q hq => ⟨p, _, _, _, rfl, rfl, SqL.of ho, atI_nat hv, hq⟩
    refine ⟨_, (pss_cons (ps_asg (pe_op op_add (pe_ix ix_list (pv 0) pe_int (fun _ _ => rfl)) pe_int) (pg_sub (pv 0) pe_int set_list))
      (pss_cons (ps_set (i := 2) hnd rfl (by first | exact Or.inl rfl | exact Or.inr rfl) (pe_callTy call_int1 (by rfl) T.m_int (by decide +kernel) (pa_cons (pe_ix ix_list (pv 0) pe_int (fun _ _ => rfl)) pa_nil)))
      (pss_cons (ps_asg (pe_op op_mod (pe_callTy call_int1 (by rfl) T.m_int (by decide +kernel) (pa_cons (pe_op op_add (pe_op op_add (pe_op op_mul (pv 2) (pv 2)) (pe_op op_fdiv (pv 2) pe_int)) (pe_op op_mul pe_int (pe_ix ix_list (pv 0) pe_int (fun _ _ => rfl)))) pa_nil)) pe_int) (pg_sub (pv 0) pe_int set_list))
      (pss_cons (ps_if (pt_cmpR op_gt (pe_ix ix_list (pv 0) pe_int (fun _ _ => rfl)) pe_int (nomark _))
      (pss_cons (ps_asg (pe_callB call_divmodW (by rfl) T.m_divmod (by decide +kernel) (pa_cons (pe_ix ix_list (pv 0) pe_int (fun _ _ => rfl)) (pa_cons (pv 1) pa_nil))) (pg_tup (by rfl) (pgs_cons (pg_sub (pv 0) pe_int set_list) (pgs_cons (pg_name (i := 3) hnd rfl (by first | exact Or.inl rfl | exact Or.inr rfl)) pgs_nil))))
      (pss_one (ps_ret (pv 3))))
      pss_nil)
      (pss_one (ps_ret (pe_op op_mod (pe_callTy call_int1 (by rfl) T.m_int (by decide +kernel) (pa_cons (pe_op op_fdiv (pe_ix ix_list (pv 0) pe_int (fun _ _ => rfl)) pe_int) pa_nil)) (pv 1)))))))), ?_⟩
    refine ⟨_, rfl, p, _, _, _, rfl, rfl, SqL.of e, rfl, _, _, rfl, rfl, _, rfl, p, _, _, 2, rfl, rfl, e, rfl, ?_⟩
    have e1 : (upd H p (.lst ([V.int st, .int dg, .int c].set 2 (.int (c + 1))))) p = some (.lst [.int st, .int dg, .int (c + 1)]) := upd_same
    refine ⟨_, rfl, p, _, _, _, rfl, rfl, SqL.of e1, rfl, .inl ⟨_, rfl, ?_⟩⟩
    refine ⟨_, rfl, _, rfl, _, _, rfl, rfl, .inl ⟨by omega, by omega⟩, _, rfl, _, _, rfl, rfl, ⟨by decide, by decide⟩, _, _, rfl, rfl, _, rfl, p, _, _, _, rfl, rfl, SqL.of e1, rfl, _, _, rfl, rfl, .inl ⟨by decide, by decide⟩, _, _, rfl, rfl, .inl ⟨_, rfl, _, _, rfl, rfl, by show (0 : Int) < 2147483563; decide, _, rfl, p, _, _, 0, rfl, rfl, e1, rfl, ?_⟩⟩
    have z0 : 0 ≤ (st * st + st / 7 + 48611 * (c + 1)) % 2147483563 := Int.emod_nonneg _ (by decide)
    have z1 : (st * st + st / 7 + 48611 * (c + 1)) % 2147483563 < 2147483563 := Int.emod_lt_of_pos _ (by decide)
    have e2 : (upd (upd H p (.lst ([V.int st, .int dg, .int c].set 2 (.int (c + 1))))) p (.lst ([V.int st, .int dg, .int (c + 1)].set 0 (.int ((st * st + st / 7 + 48611 * (c + 1)) % 2147483563))))) p = some (.lst [.int ((st * st + st / 7 + 48611 * (c + 1)) % 2147483563), .int dg, .int (c + 1)]) := upd_same
    have s2 : SameB p H (upd (upd H p (.lst ([V.int st, .int dg, .int c].set 2 (.int (c + 1))))) p (.lst ([V.int st, .int dg, .int (c + 1)].set 0 (.int ((st * st + st / 7 + 48611 * (c + 1)) % 2147483563))))) := SameB.set.put
    refine ⟨_, rfl, p, _, _, _, rfl, rfl, SqL.of e2, rfl, _, _, rfl, rfl, _, rfl, ite2 (fun hgt => ?_) (fun hle => ?_)⟩
    · refine ⟨_, rfl, p, _, _, _, rfl, rfl, SqL.of e2, rfl, _, rfl, _, _, rfl, divp_small m0 m1, fun t nt => ?_⟩
      have npt : p ≠ t := ne_of_none e2 nt
      have e3 := Eq.trans (upd_ne (o := .tup [.int (dg / m), .int (dg % m)]) npt) e2
      refine ⟨t, _, rfl, SqT.of upd_same, rfl, _, _, rfl, ⟨_, rfl, p, _, _, 1, rfl, rfl, e3, rfl, _, _, rfl, rfl, _, rfl, ?_⟩⟩
      refine q _ _ (Int.emod_nonneg _ (by omega)) (Int.emod_lt_of_pos _ m0) (SameB.put fun b o n h => ?_) ⟨_, _, _, upd_same, z0, z1, Int.ediv_nonneg hd (by omega)⟩
      exact same_new nt _ _ (s2 b o n h)
    · refine ⟨_, rfl, p, _, _, _, rfl, rfl, SqL.of e2, rfl, _, _, rfl, rfl, ⟨by decide, by decide⟩, .inl ⟨_, rfl, _, rfl, _, _, rfl, rfl, m0, ?_⟩⟩
      exact q _ _ (Int.emod_nonneg _ (by omega)) (Int.emod_lt_of_pos _ m0) s2 ⟨_, _, _, e2, z0, z1, hd⟩
end
end L2.K1
set_option Elab.async false
set_option linter.all false
set_option maxRecDepth 100000
set_option maxHeartbeats 8000000
namespace L2.K1
open PySem PySem.Spec PyProof.Rows L2.Tb
section
variable {P : Program} {w : World} {K : PySem.W.Frag} {mg : Str → Option Value} {base : Heap} {f : Addr} {fd : FuncData}
theorem nat_of {d : Int} (h : 0 ≤ d) : ∃ n : Nat, d = (n : Int) := Int.eq_ofNat_of_zero_le h
theorem same_new2 {H : Hp} {p : Addr} {o u : HO} (h : H p = none) : Same H (upd (upd H p o) p u) := fun b v e => by rw [upd_ne (ne_of_none e h), upd_ne (ne_of_none e h)]; exact e
theorem c_odd (T : Bt mg) (F : FnP K "_law_odd" s_odd f fd) (hm : mg "_law_odd" = some (.ref f)) (k_draw : Cal P w K mg base 1 "_law_draw" spDraw) : Cal P w K mg base 2 "_law_odd" spOdd := by
  have hnd := sc_odd.nd
  refine cal_mk F hm sc_odd (fun _ _ _ _ _ _ us hl => match us, hl with | [_], _ => rfl) (fun vs H Q E h => ?_) (fun cdv A outer s H vs Q E hr h => ?_)
  · obtain ⟨p, rfl, _⟩ := h
    rfl
  · obtain ⟨p, rfl, hp, q⟩ := h
    refine ⟨_, (pss_cons (ps_set (i := 1) hnd rfl (by first | exact Or.inl rfl | exact Or.inr rfl) (pe_cal k_draw hr (by omega) (by rfl) (pa_cons (pv 0) (pa_cons pe_int pa_nil))))
      (pss_cons (ps_if (pt_cmpR op_lt (pv 1) pe_int (nomark _))
      (pss_one (ps_ret (pe_ix ix_list (pe_lst (pa_cons pe_non (pa_cons pe_bl (pa_cons pe_bl (pa_cons pe_int (pa_cons pe_int (pa_cons (pe_un un_neg pe_int) (pa_cons pe_int (pa_cons pe_int (pa_cons (pe_op op_pow pe_int pe_int) (pa_cons (pe_un un_neg (pe_op op_pow pe_int pe_int)) pa_nil))))))))))) (pv 1) (fun _ _ => rfl))))
      pss_nil)
      (pss_cons (ps_if (pt_cmpR op_lt (pv 1) pe_int (nomark _))
      (pss_one (ps_ret (pe_ix ix_list (pe_lst (pa_cons pe_str (pa_cons pe_str (pa_cons pe_str (pa_cons pe_str (pa_cons pe_str (pa_cons pe_str pa_nil))))))) (pe_op op_sub (pv 1) pe_int) (fun _ _ => rfl))))
      pss_nil)
      (pss_cons (ps_if (pt_cmpR op_lt (pv 1) pe_int (nomark _))
      (pss_one (ps_ret (pe_ix ix_list (pe_lst (pa_cons (pe_lst pa_nil) (pa_cons (pe_lst (pa_cons pe_str pa_nil)) (pa_cons pe_dnewK (pa_cons (pe_disp (pps_cons pe_str pe_int pps_nil) (by rfl) (by rfl) (fun z => by cases z) (by decide)) pa_nil))))) (pe_op op_sub (pv 1) pe_int) (fun _ _ => rfl))))
      pss_nil)
      (pss_one (ps_ret (pe_ix ix_list (pe_lst (pa_cons (pe_tup pa_nil) (pa_cons (pe_tup (pa_cons pe_str pa_nil)) (pa_cons (pe_tup (pa_cons (pe_lst pa_nil) pa_nil)) (pa_cons (pe_tup (pa_cons pe_int (pa_cons (pe_disp (pps_cons pe_str (pe_lst (pa_cons pe_int pa_nil)) pps_nil) (by rfl) (by rfl) (fun z => by cases z) (by decide)) (pa_cons pe_int pa_nil)))) pa_nil))))) (pe_op op_sub (pv 1) pe_int) (fun _ _ => rfl)))))))), ?_⟩
    refine ⟨_, rfl, p, 24, rfl, hp, by decide, by decide, fun d H1 d0 d1 s1 p1 => ?_⟩
    obtain ⟨n, rfl⟩ := nat_of d0
    have fin : ∀ (H2 : Hp) (v : V), Same H1 H2 → Od H2 3 v → Q v H2 := fun H2 v s ov => q v H2 (s1.trans (SameB.of s)) (p1.same s) ov
    refine ⟨_, rfl, _, _, rfl, rfl, _, rfl, ite2 (fun h1 => ?_) (fun h1 => ?_)⟩
    · have hn : n < 10 := by have := of_decide_eq_true h1; omega
      refine ⟨_, rfl, ⟨_, _, rfl, rfl, ⟨by decide, by decide, by decide⟩, _, _, rfl, rfl, ⟨by decide, by decide, by decide⟩, _, rfl, by show 10 ≤ sizeLine; decide, fun l nl => ⟨_, rfl, l, _, _, _, rfl, rfl, SqL.of upd_same, atI_nat (List.getElem?_eq_getElem (by show n < 10; exact hn)), fin _ _ (same_new nl) (.inl ?_)⟩⟩⟩
      exact List.all_eq_true.mp (show ([V.non, .bl true, .bl false, .int 0, .int 1, .int (-1), .int 2, .int 12, .int (10 ^ 38), .int (-(10 ^ 38))].all flatS) = true from rfl) _ (List.getElem_mem ..)
    · have hn : 10 ≤ n := by
        have z : ¬ ((n : Int) < 10) := fun z => h1 (decide_eq_true z)
        omega
      refine ⟨_, rfl, _, _, rfl, rfl, _, rfl, ite2 (fun h2 => ?_) (fun h2 => ?_)⟩
      · have hn2 : n < 16 := by have := of_decide_eq_true h2; omega
        have ei : (n : Int) - 10 = ((n - 10 : Nat) : Int) := by omega
        refine ⟨by show 6 ≤ sizeLine; decide, fun l nl => ⟨_, rfl, _, _, rfl, rfl, l, _, _, _, rfl, rfl, SqL.of upd_same, (by rw [ei]; exact atI_nat (List.getElem?_eq_getElem (by show n - 10 < 6; omega))), fin _ _ (same_new nl) (.inl ?_)⟩⟩
        exact List.all_eq_true.mp (show (([("" : Str), "a", "plain", "calm sides", "(a * b)", "same a b 2"].map V.str).all flatS) = true from rfl) _ (List.getElem_mem ..)
      · have hn2 : 16 ≤ n := by
          have z : ¬ ((n : Int) < 16) := fun z => h2 (decide_eq_true z)
          omega
        refine ⟨_, rfl, _, _, rfl, rfl, _, rfl, ite2 (fun h3 => ?_) (fun h3 => ?_)⟩
        · have hn3 : n < 20 := by have := of_decide_eq_true h3; omega
          have ei : (n : Int) - 16 = ((n - 16 : Nat) : Int) := by omega
          refine ⟨Nat.le_of_ble_eq_true rfl, fun l1 n1 => ⟨Nat.le_of_ble_eq_true rfl, fun l2 n2 => fun d3 n3 => fun d4 n4 => ⟨upd_same, [(Sum.inr "a", .int 1)], rfl, Nat.le_of_ble_eq_true rfl, Nat.le_of_ble_eq_true rfl, fun l nl => ⟨_, rfl, _, _, rfl, rfl, l, _, _, _, rfl, rfl, SqL.of upd_same, (by rw [ei]; exact atI_nat (List.getElem?_eq_getElem (by show n - 16 < 4; omega))), ?_⟩⟩⟩⟩
          have a1 := same_new (o := .lst []) n1
          have a2 := same_new (o := .lst [.str "a"]) n2
          have a3 := same_new (o := .dK []) n3
          have a4 := same_new2 (o := .dK []) (u := .dK (mergeK [] [(Sum.inr "a", .int 1)])) n4
          have a5 := same_new (o := .lst [.ref l1, .ref l2, .ref d3, .ref d4]) nl
          refine fin _ _ (a1.trans (a2.trans (a3.trans (a4.trans a5)))) ?_
          have hc : n - 16 = 0 ∨ n - 16 = 1 ∨ n - 16 = 2 ∨ n - 16 = 3 := by omega
          rcases hc with e | e | e | e <;> simp only [e]
          · exact .inr (.inl ⟨l1, [], rfl, a5 _ _ (a4 _ _ (a3 _ _ (a2 _ _ upd_same))), Nat.le_of_ble_eq_true rfl, fun x hx => by cases hx⟩)
          · exact .inr (.inl ⟨l2, [.str "a"], rfl, a5 _ _ (a4 _ _ (a3 _ _ upd_same)), Nat.le_of_ble_eq_true rfl, fun x hx => by rw [List.mem_singleton.mp hx]; exact .inl rfl⟩)
          · exact .inr (.inr (.inr ⟨d3, [], rfl, a5 _ _ (a4 _ _ upd_same), Nat.le_of_ble_eq_true rfl, fun x hx => by cases hx⟩))
          · exact .inr (.inr (.inr ⟨d4, _, rfl, a5 _ _ upd_same, Nat.le_of_ble_eq_true rfl, fun x hx => by rw [List.mem_singleton.mp hx]; exact .inl rfl⟩))
        · have hn3 : 20 ≤ n := by
            have z : ¬ ((n : Int) < 20) := fun z => h3 (decide_eq_true z)
            omega
          have ei : (n : Int) - 20 = ((n - 20 : Nat) : Int) := by omega
          refine ⟨Nat.le_of_ble_eq_true rfl, fun t1 n1 => ⟨Nat.le_of_ble_eq_true rfl, fun t2 n2 => ⟨Nat.le_of_ble_eq_true rfl, fun l3 n3 => ⟨Nat.le_of_ble_eq_true rfl, fun t3 n4 => ?_⟩⟩⟩⟩
          refine fun d4 n5 => ⟨Nat.le_of_ble_eq_true rfl, fun l4 n6 => ⟨?_, [(Sum.inr "a", .ref l4)], rfl, Nat.le_of_ble_eq_true rfl, Nat.le_of_ble_eq_true rfl, fun t4 n7 => ⟨Nat.le_of_ble_eq_true rfl, fun l nl => ⟨_, rfl, _, _, rfl, rfl, l, _, _, _, rfl, rfl, SqL.of upd_same, (by rw [ei]; exact atI_nat (List.getElem?_eq_getElem (by show n - 20 < 4; omega))), ?_⟩⟩⟩⟩
          · rw [upd_ne (ne_of_none upd_same n6)]
            exact upd_same
          have a1 := same_new (o := .tup []) n1
          have a2 := same_new (o := .tup [.str "a"]) n2
          have a3 := same_new (o := .lst []) n3
          have a4 := same_new (o := .tup [.ref l3]) n4
          have nd4 : d4 ≠ l4 := ne_of_none upd_same n6
          have a6 : Same (upd (upd (upd (upd H1 t1 (.tup [])) t2 (.tup [.str "a"])) l3 (.lst [])) t3 (.tup [.ref l3])) (upd (upd (upd (upd (upd (upd (upd H1 t1 (.tup [])) t2 (.tup [.str "a"])) l3 (.lst [])) t3 (.tup [.ref l3])) d4 (.dK [])) l4 (.lst [.int 1])) d4 (.dK (mergeK [] [(Sum.inr "a", .ref l4)]))) := fun b o e => by
            rw [upd_ne (ne_of_none e n5)]
            exact same_new n6 _ _ (same_new n5 _ _ e)
          have a7 := same_new (o := .tup [.int 0, .ref d4, .int 2]) n7
          have a8 := same_new (o := .lst [.ref t1, .ref t2, .ref t3, .ref t4]) nl
          refine fin _ _ (a1.trans (a2.trans (a3.trans (a4.trans (a6.trans (a7.trans a8)))))) ?_
          have hc : n - 20 = 0 ∨ n - 20 = 1 ∨ n - 20 = 2 ∨ n - 20 = 3 := by omega
          rcases hc with e | e | e | e <;> simp only [e]
          · exact .inr (.inr (.inl ⟨t1, [], rfl, a8 _ _ (a7 _ _ (a6 _ _ (a4 _ _ (a3 _ _ (a2 _ _ upd_same))))), Nat.le_of_ble_eq_true rfl, fun x hx => by cases hx⟩))
          · exact .inr (.inr (.inl ⟨t2, [.str "a"], rfl, a8 _ _ (a7 _ _ (a6 _ _ (a4 _ _ (a3 _ _ upd_same)))), Nat.le_of_ble_eq_true rfl, fun x hx => by rw [List.mem_singleton.mp hx]; exact .inl rfl⟩))
          · refine .inr (.inr (.inl ⟨t3, [.ref l3], rfl, a8 _ _ (a7 _ _ (a6 _ _ upd_same)), Nat.le_of_ble_eq_true rfl, fun x hx => ?_⟩))
            rw [List.mem_singleton.mp hx]
            exact .inr (.inl ⟨l3, [], rfl, a8 _ _ (a7 _ _ (a6 _ _ (a4 _ _ upd_same))), Nat.le_of_ble_eq_true rfl, fun x hx => by cases hx⟩)
          · refine .inr (.inr (.inl ⟨t4, [.int 0, .ref d4, .int 2], rfl, a8 _ _ upd_same, Nat.le_of_ble_eq_true rfl, fun x hx => ?_⟩))
            rcases List.mem_cons.mp hx with e | hx
            · rw [e]; exact .inl rfl
            rcases List.mem_cons.mp hx with e | hx
            · rw [e]
              exact .inr (.inr (.inr ⟨d4, _, rfl, a8 _ _ (a7 _ _ upd_same), Nat.le_of_ble_eq_true rfl, fun x hx => by rw [List.mem_singleton.mp hx]; exact .inr ⟨_, rfl⟩⟩))
            · rw [List.mem_singleton.mp hx]; exact .inl rfl
end
end L2.K1
set_option Elab.async false
set_option linter.all false
set_option maxRecDepth 100000
set_option maxHeartbeats 8000000
namespace L2.K1
open PySem PySem.Spec PyProof.Rows L2.Tb
open RZ
section
variable {K : PySem.W.Frag} {a b : Addr} {xs ys : List V}
theorem walk_zipT {n : Nat} (hn : n = min xs.length ys.length) : Walk (ItzT K a b) n (fun H => SqT K H a xs ∧ SqT K H b ys) (YPair (fun i => xs[i]?) (fun i => ys[i]?)) := by
  subst hn
  refine ⟨fun i _ hi q => ?_, fun _ q => ⟨xs, ys, q.1, q.2, by omega⟩, fun i H v H' _ q y => ?_⟩
  · have h1 : i < xs.length := by omega
    have h2 : i < ys.length := by omega
    exact ⟨xs, ys, xs[i], ys[i], q.1, q.2, by simp [h1], by simp [h2]⟩
  · obtain ⟨T, x, z, h1, h2, h3, h4, h5⟩ := y
    exact ⟨T, x, z, h1, h2, h3, h4 xs q.1, h5 ys q.2⟩
end
section
variable {P : Program} {w : World} {K : PySem.W.Frag} {mg : Str → Option Value} {base : Heap} {f : Addr} {fd : FuncData}
/-- a value's built-in type and what isinstance says of it -/
structure TyK (K : PySem.W.Frag) (H : Hp) (x : V) (a1 a2 a3 : Bool) : Prop where
  ex : ∃ T : String, TyX K H x (.type T) ∧ kitB T "tuple" = some a1 ∧ kitB T "list" = some a2 ∧ kitB T "bool" = some a3
theorem ty_flat {x : V} (h : flatS x = true) : ∃ a3, ∀ (H : Hp), TyK K H x false false a3 := by
  cases x with
  | non => exact ⟨false, fun H => ⟨"NoneType", .base .non, by decide +kernel, by decide +kernel, by decide +kernel⟩⟩
  | bl b => exact ⟨true, fun H => ⟨"bool", .base (.bl b), by decide +kernel, by decide +kernel, by decide +kernel⟩⟩
  | int i => exact ⟨false, fun H => ⟨"int", .base (.int i), by decide +kernel, by decide +kernel, by decide +kernel⟩⟩
  | str z => exact ⟨false, fun H => ⟨"str", .base (.str z), by decide +kernel, by decide +kernel, by decide +kernel⟩⟩
  | _ => cases h
theorem ty_lst {H : Hp} {a : Addr} {xs : List V} (e : H a = some (.lst xs)) : TyK K H (.ref a) false true false := ⟨"list", .base (.lst e), by decide +kernel, by decide +kernel, by decide +kernel⟩
theorem ty_tup {H : Hp} {a : Addr} {xs : List V} (e : H a = some (.tup xs)) : TyK K H (.ref a) true false false := ⟨"tuple", .base (.tup e), by decide +kernel, by decide +kernel, by decide +kernel⟩
theorem ty_dct {H : Hp} {a : Addr} {kvs : List (Key × V)} (e : H a = some (.dK kvs)) : TyK K H (.ref a) false false false := ⟨"dict", .base (.dK e), by decide +kernel, by decide +kernel, by decide +kernel⟩
theorem lT : kitB "list" "tuple" = some false := by decide +kernel
theorem lL : kitB "list" "list" = some true := by decide +kernel
theorem tT : kitB "tuple" "tuple" = some true := by decide +kernel
theorem tL : kitB "tuple" "list" = some false := by decide +kernel
theorem kit2 {T : String} {a1 a2 : Bool} (h1 : kitB T "tuple" = some a1) (h2 : kitB T "list" = some a2) : PySem.W.kitAny K (.type T) [.type "tuple", .type "list"] = some (a1 || a2) := by
  refine kitAny_cons (kit_ty h1) (fun e1 => kitAny_cons (kit_ty h2) (fun e2 => ?_) (fun e2 => ?_)) (fun e1 => ?_)
  · rw [e1, e2]; rfl
  · rw [e1, e2]; rfl
  · rw [e1]; rfl
theorem paired_get {R : V → V → Prop} : ∀ {xs ys : List V} {i : Nat} {u v : V}, Paired R xs ys → xs[i]? = some u → ys[i]? = some v → R u v
  | _, _, 0, _, _, .cons r _, h1, h2 => by
    cases h1
    cases h2
    exact r
  | _, _, i + 1, _, _, .cons _ t, h1, h2 => paired_get (i := i) t (by simpa using h1) (by simpa using h2)
  | _, _, _, _, _, .nil, h1, _ => by simp at h1
def spA : Nat → Sp
  | 0 => fun _ _ _ _ => False
  | n + 1 => spAlike n
theorem cal_false (F : FnP K "_law_alike" s_alike f fd) (hm : mg "_law_alike" = some (.ref f)) : Cal P w K mg base 0 "_law_alike" (spA 0) :=
  ⟨f, fd, ["_law_thing", "_law_twin"], ⟨fun _ _ _ _ h => h.elim, fun _ _ _ _ _ _ _ _ _ _ _ _ _ h => h.elim⟩, hm, F.kp, F.bindsN fun _ _ _ _ _ _ us hl => match us, hl with | [_, _], _ => rfl⟩
theorem rep_succ {i : Nat} {b : V} : List.replicate i b ++ [b] = List.replicate (i + 1) b := by rw [List.replicate_succ']
theorem c_alike_step (T : Bt mg) (F : FnP K "_law_alike" s_alike f fd) (hm : mg "_law_alike" = some (.ref f)) (n : Nat) (k_alike : Cal P w K mg base n "_law_alike" (spA n)) : Cal P w K mg base (n + 1) "_law_alike" (spAlike n) := by
  have hnd := sc_alike.nd
  refine cal_mk F hm sc_alike (fun _ _ _ _ _ _ us hl => match us, hl with | [_, _], _ => rfl) (fun vs H Q E h => ?_) (fun cdv A outer s H vs Q E hr h => ?_)
  · obtain ⟨x, y, rfl, _⟩ := h
    rfl
  · obtain ⟨x, y, rfl, hal, q⟩ := h
    refine ⟨_, (pss_cons (ps_if (pt_val (pe_callB call_isiT (by rfl) T.m_isinstance (by decide +kernel) (pa_cons (pv 0) (pa_cons (pe_tup (pa_cons (pe_bltn (v := .ty "tuple") (by rfl) T.m_tuple (by decide +kernel) rfl) (pa_cons (pe_bltn (v := .ty "list") (by rfl) T.m_list (by decide +kernel) rfl) pa_nil))) pa_nil))))
      (pss_cons (ps_if (pt_cmpR (op_neD hr.units) (pe_lst (pa_cons (pe_callB call_isi (by rfl) T.m_isinstance (by decide +kernel) (pa_cons (pv 0) (pa_cons (pe_bltn (v := .ty "tuple") (by rfl) T.m_tuple (by decide +kernel) rfl) pa_nil))) (pa_cons (pe_callB call_isi (by rfl) T.m_isinstance (by decide +kernel) (pa_cons (pv 0) (pa_cons (pe_bltn (v := .ty "list") (by rfl) T.m_list (by decide +kernel) rfl) pa_nil))) pa_nil))) (pe_lst (pa_cons (pe_callB call_isi (by rfl) T.m_isinstance (by decide +kernel) (pa_cons (pv 1) (pa_cons (pe_bltn (v := .ty "tuple") (by rfl) T.m_tuple (by decide +kernel) rfl) pa_nil))) (pa_cons (pe_callB call_isi (by rfl) T.m_isinstance (by decide +kernel) (pa_cons (pv 1) (pa_cons (pe_bltn (v := .ty "list") (by rfl) T.m_list (by decide +kernel) rfl) pa_nil))) pa_nil))) (nomark _))
      (pss_one (ps_ret pe_bl))
      pss_nil)
      (pss_one (ps_ret (pe_and (pe_cmpR op_eq (pe_callB call_len_seq (by rfl) T.m_len (by decide +kernel) (pa_cons (pv 0) pa_nil)) (pe_callB call_len_seq (by rfl) T.m_len (by decide +kernel) (pa_cons (pv 1) pa_nil)) (nomark _)) (pe_one (pe_callB (cr_all (by rfl)) (by rfl) T.m_all (by decide +kernel) (pa_cons (pe_lc (own := [("_law_a", 2), ("_law_b", 3)]) (tt := tYes) (g := (gTup K 2 (gCons (gName 2) (gCons (gName 3) gNil)))) (by rfl) hnd (pi_zipA (by rfl) T.m_zip (pa_cons (pv 0) (pa_cons (pv 1) pa_nil))) (blkOk_by (own := [("_law_a", 2), ("_law_b", 3)]) (N := N_alike) (sc := defScope s_alike) (by decide +kernel)) (fun _ _ _ _ _ => (pg_tup (by rfl) (pgs_cons (pg_name (i := 2) hnd rfl (by first | exact Or.inl rfl | exact Or.inr rfl)) (pgs_cons (pg_name (i := 3) hnd rfl (by first | exact Or.inl rfl | exact Or.inr rfl)) pgs_nil)))) (fun _ _ _ _ _ => pts_nil) (fun _ _ _ _ _ => (pe_cal k_alike hr (by omega) (by rfl) (pa_cons (pv 2) (pa_cons (pv 3) pa_nil))))) pa_nil)))))))
      pss_nil)
      (pss_one (ps_ret (pe_and (pe_cmpR op_eq (pe_callB call_isi (by rfl) T.m_isinstance (by decide +kernel) (pa_cons (pv 0) (pa_cons (pe_bltn (v := .ty "bool") (by rfl) T.m_bool (by decide +kernel) rfl) pa_nil))) (pe_callB call_isi (by rfl) T.m_isinstance (by decide +kernel) (pa_cons (pv 1) (pa_cons (pe_bltn (v := .ty "bool") (by rfl) T.m_bool (by decide +kernel) rfl) pa_nil))) (nomark _)) (pe_one (pe_cmpR (op_self hr.units) (pv 0) (pv 1) (nomark _))))))), ?_⟩
    have hc : (∃ a3, (∀ H', Same H H' → TyK K H' x false false a3) ∧ x = y ∧ (∀ H', Same H H' → flatS x = true ∨ ∃ (a : Addr) (kvs : List (Key × V)), x = .ref a ∧ H' a = some (.dK kvs) ∧ ∀ kv ∈ kvs, valV kvs kv.1 = some kv.2 ∧ (flatS kv.2 = true ∨ ∃ b, kv.2 = .ref b))) ∨
        ∃ m, n = m + 1 ∧ ((∃ a b xs ys, x = .ref a ∧ y = .ref b ∧ H a = some (.lst xs) ∧ H b = some (.lst ys) ∧ xs.length ≤ 1000 ∧ Paired (Al H m) xs ys) ∨ (∃ a b xs ys, x = .ref a ∧ y = .ref b ∧ H a = some (.tup xs) ∧ H b = some (.tup ys) ∧ xs.length ≤ 1000 ∧ Paired (Al H m) xs ys)) := by
      cases n with
      | zero =>
        obtain ⟨e, fl⟩ := hal
        obtain ⟨a3, t⟩ := ty_flat (K := K) fl
        exact .inl ⟨a3, fun H' _ => t H', e, fun _ _ => .inl fl⟩
      | succ m =>
        rcases hal with ⟨e, fl⟩ | hl | ht | ⟨a, kvs, h1, h2, h3, h4⟩
        · obtain ⟨a3, t⟩ := ty_flat (K := K) fl
          exact .inl ⟨a3, fun H' _ => t H', e, fun _ _ => .inl fl⟩
        · exact .inr ⟨m, rfl, .inl hl⟩
        · exact .inr ⟨m, rfl, .inr ht⟩
        · exact .inl ⟨false, fun H' s' => by rw [h1]; exact ty_dct (s' _ _ h3), h1.trans h2.symm, fun H' s' => .inr ⟨a, kvs, h1, s' _ _ h3, h4⟩⟩
    rcases hc with ⟨a3, ht, rfl, hd⟩ | ⟨m, rfl, ⟨a, b, xs, ys, rfl, rfl, ha, hb, hl, hp⟩ | ⟨a, b, xs, ys, rfl, rfl, ha, hb, hl, hp⟩⟩
    · refine ⟨_, rfl, by decide, fun tp np => ?_⟩
      have S1 := same_new (o := .tup [.ty "tuple", .ty "list"]) np
      obtain ⟨T1, t1, k1, k2, k3⟩ := (ht _ S1).ex
      refine ⟨_, tp, _, .type T1, [.type "tuple", .type "list"], _, rfl, upd_same, .cons (.ty _) (.cons (.ty _) .nil), t1, kit2 k1 k2, _, rfl, iteF ?_⟩
      refine ⟨_, rfl, _, _, _, _, _, rfl, .ty _, t1, kit_ty k3, _, rfl, _, _, _, _, _, rfl, .ty _, t1, kit_ty k3, ?_, _, rfl, ?_⟩
      · cases a3 <;> rfl
      · refine ite2 (fun _ => ?_) (fun h => absurd (decide_eq_true rfl) h)
        exact ⟨_, rfl, _, rfl, rfl, hd _ S1, q _ S1⟩
    · refine ⟨_, rfl, by decide, fun tp np => ?_⟩
      have S1 := same_new (o := .tup [.ty "tuple", .ty "list"]) np
      obtain ⟨T1, t1, k1, k2, k3⟩ := (ty_lst (S1 _ _ ha)).ex
      refine ⟨_, tp, _, .type T1, [.type "tuple", .type "list"], _, rfl, upd_same, .cons (.ty _) (.cons (.ty _) .nil), t1, kit2 k1 k2, _, rfl, iteT ?_⟩
      refine ⟨_, rfl, _, _, _, _, _, rfl, .ty _, .base (.lst (S1 _ _ ha)), kit_ty lT, _, rfl, _, _, _, _, _, rfl, .ty _, .base (.lst (S1 _ _ ha)), kit_ty lL, by decide, fun l nl => ?_⟩
      have S2 := S1.trans (same_new (o := .lst [.bl false, .bl true]) nl)
      refine ⟨_, rfl, _, _, _, _, _, rfl, .ty _, .base (.lst (S2 _ _ hb)), kit_ty lT, _, rfl, _, _, _, _, _, rfl, .ty _, .base (.lst (S2 _ _ hb)), kit_ty lL, by decide, fun l2 nl2 => ?_⟩
      have S3 := S2.trans (same_new (o := .lst [.bl false, .bl true]) nl2)
      refine ⟨.list [.bool false, .bool true], .list [.bool false, .bool true], .lst (SqL.of (same_new nl2 _ _ upd_same)) (.cons (.bl _) (.cons (.bl _) .nil)), .lst (SqL.of upd_same) (.cons (.bl _) (.cons (.bl _) .nil)), by decide +kernel, by decide +kernel, ?_⟩
      rw [show PyData.eqv (.list [.bool false, .bool true]) (.list [.bool false, .bool true]) = true by decide +kernel]
      refine ⟨_, rfl, iteF ?_⟩
      refine ⟨_, rfl, a, _, rfl, .inl (SqL.of (S3 _ _ ha)), _, rfl, b, _, rfl, .inl (SqL.of (S3 _ _ hb)), rfl, _, rfl, ite2 (fun _ => ?_) (fun h => absurd (decide_eq_true (by rw [Paired.length hp])) h)⟩
      refine ⟨_, rfl, _, rfl, a, b, xs, ys, rfl, .inl ⟨SqL.of (S3 _ _ ha), SqL.of (S3 _ _ hb), fun D nD => ?_⟩⟩
      have S4 := S3.trans (same_new (o := .lst []) nD)
      refine lc_it (walk_zip (K := K) (a := a) (b := b) (xs := xs) (ys := ys) rfl) (fun i H' => Same H H' ∧ H' D = some (.lst (List.replicate i (.bl true)))) ⟨S4, upd_same⟩ (fun i H' _ h => ⟨SqL.of (h.1 _ _ ha), SqL.of (h.1 _ _ hb)⟩) ?_ ?_
      · rintro i z H1 H2 hi ⟨s1, e1⟩ ⟨T', u, v, rfl, nT, rfl, hu, hv⟩
        have s2 := s1.trans (same_new (o := .tup [u, v]) nT)
        refine ⟨T', [u, v], rfl, SqT.of upd_same, rfl, u, _, rfl, v, _, rfl, rfl, rfl, ?_⟩
        unfold tYes
        dsimp only
        rw [if_pos rfl]
        refine ⟨_, rfl, _, rfl, u, v, rfl, (paired_get hp hu hv).same s2, fun H3 s3 => ?_⟩
        refine ⟨_, s3 _ _ (same_new nT _ _ e1), by rw [List.length_replicate, sizeLine_eq]; omega, fun b' o' e' => ?_, by rw [upd_same, rep_succ]⟩
        rw [upd_ne (fun z => ?_)]
        · exact s3 _ _ (s2 _ _ e')
        · rw [z] at e'
          have z2 := S3 _ _ e'
          rw [nD] at z2
          cases z2
      · rintro H1 ⟨s1, e1⟩
        refine ⟨D, List.replicate _ true, rfl, SqL.of (by rw [e1, List.map_replicate]), ?_⟩
        rw [show (List.replicate (min xs.length ys.length) true).all id = true from List.all_eq_true.mpr fun b' hb' => by rw [List.eq_of_mem_replicate hb']; rfl]
        exact q _ s1
    · refine ⟨_, rfl, by decide, fun tp np => ?_⟩
      have S1 := same_new (o := .tup [.ty "tuple", .ty "list"]) np
      obtain ⟨T1, t1, k1, k2, k3⟩ := (ty_tup (S1 _ _ ha)).ex
      refine ⟨_, tp, _, .type T1, [.type "tuple", .type "list"], _, rfl, upd_same, .cons (.ty _) (.cons (.ty _) .nil), t1, kit2 k1 k2, _, rfl, iteT ?_⟩
      refine ⟨_, rfl, _, _, _, _, _, rfl, .ty _, .base (.tup (S1 _ _ ha)), kit_ty tT, _, rfl, _, _, _, _, _, rfl, .ty _, .base (.tup (S1 _ _ ha)), kit_ty tL, by decide, fun l nl => ?_⟩
      have S2 := S1.trans (same_new (o := .lst [.bl true, .bl false]) nl)
      refine ⟨_, rfl, _, _, _, _, _, rfl, .ty _, .base (.tup (S2 _ _ hb)), kit_ty tT, _, rfl, _, _, _, _, _, rfl, .ty _, .base (.tup (S2 _ _ hb)), kit_ty tL, by decide, fun l2 nl2 => ?_⟩
      have S3 := S2.trans (same_new (o := .lst [.bl true, .bl false]) nl2)
      refine ⟨.list [.bool true, .bool false], .list [.bool true, .bool false], .lst (SqL.of (same_new nl2 _ _ upd_same)) (.cons (.bl _) (.cons (.bl _) .nil)), .lst (SqL.of upd_same) (.cons (.bl _) (.cons (.bl _) .nil)), by decide +kernel, by decide +kernel, ?_⟩
      rw [show PyData.eqv (.list [.bool true, .bool false]) (.list [.bool true, .bool false]) = true by decide +kernel]
      refine ⟨_, rfl, iteF ?_⟩
      refine ⟨_, rfl, a, _, rfl, .inr (SqT.of (S3 _ _ ha)), _, rfl, b, _, rfl, .inr (SqT.of (S3 _ _ hb)), rfl, _, rfl, ite2 (fun _ => ?_) (fun h => absurd (decide_eq_true (by rw [Paired.length hp])) h)⟩
      refine ⟨_, rfl, _, rfl, a, b, xs, ys, rfl, .inr ⟨SqT.of (S3 _ _ ha), SqT.of (S3 _ _ hb), fun D nD => ?_⟩⟩
      have S4 := S3.trans (same_new (o := .lst []) nD)
      refine lc_it (walk_zipT (K := K) (a := a) (b := b) (xs := xs) (ys := ys) rfl) (fun i H' => Same H H' ∧ H' D = some (.lst (List.replicate i (.bl true)))) ⟨S4, upd_same⟩ (fun i H' _ h => ⟨SqT.of (h.1 _ _ ha), SqT.of (h.1 _ _ hb)⟩) ?_ ?_
      · rintro i z H1 H2 hi ⟨s1, e1⟩ ⟨T', u, v, rfl, nT, rfl, hu, hv⟩
        have s2 := s1.trans (same_new (o := .tup [u, v]) nT)
        refine ⟨T', [u, v], rfl, SqT.of upd_same, rfl, u, _, rfl, v, _, rfl, rfl, rfl, ?_⟩
        unfold tYes
        dsimp only
        rw [if_pos rfl]
        refine ⟨_, rfl, _, rfl, u, v, rfl, (paired_get hp hu hv).same s2, fun H3 s3 => ?_⟩
        refine ⟨_, s3 _ _ (same_new nT _ _ e1), by rw [List.length_replicate, sizeLine_eq]; omega, fun b' o' e' => ?_, by rw [upd_same, rep_succ]⟩
        rw [upd_ne (fun z => ?_)]
        · exact s3 _ _ (s2 _ _ e')
        · rw [z] at e'
          have z2 := S3 _ _ e'
          rw [nD] at z2
          cases z2
      · rintro H1 ⟨s1, e1⟩
        refine ⟨D, List.replicate _ true, rfl, SqL.of (by rw [e1, List.map_replicate]), ?_⟩
        rw [show (List.replicate (min xs.length ys.length) true).all id = true from List.all_eq_true.mpr fun b' hb' => by rw [List.eq_of_mem_replicate hb']; rfl]
        exact q _ s1
theorem c_alike (T : Bt mg) (F : FnP K "_law_alike" s_alike f fd) (hm : mg "_law_alike" = some (.ref f)) : ∀ n, Cal P w K mg base (n + 1) "_law_alike" (spAlike n)
  | 0 => c_alike_step T F hm 0 (cal_false F hm)
  | n + 1 => c_alike_step T F hm (n + 1) (c_alike T F hm n)
end
end L2.K1
set_option Elab.async false
set_option linter.all false
set_option maxRecDepth 100000
set_option maxHeartbeats 8000000
namespace L2.K1
open PySem PySem.Spec PyProof.Rows L2.Tb
/-! ### the thirty-three errors, in the law's order -/
def fls : List Str := [("given" : Str), ("given" : Str), ("given" : Str), ("given" : Str), ("given" : Str), ("given" : Str), ("given" : Str), ("given" : Str), ("given" : Str), ("given" : Str), ("given" : Str), ("given" : Str), ("given" : Str), ("given" : Str), ("given" : Str), ("given" : Str), ("index" : Str), ("index" : Str), ("index" : Str), ("index" : Str), ("index" : Str), ("index" : Str), ("index" : Str), ("index" : Str), ("index" : Str), ("index" : Str), ("given" : Str), ("index" : Str), ("limit" : Str), ("index" : Str), ("given" : Str), ("" : Str), ("index" : Str)]
def bss (i : Nat) : Bs := if i < 26 then bVE else if i < 28 then bLE else bAE
def ordA : List Bool := [true, false, true, false, true, false, true, false, true, false, true, false, true, false, true, false, true, false, true, false, true, false, true, false, true, false, true, false, true, false, true, true, true]
/-- what the head says of the classes: C i is the i-th one's address -/
structure Ers (P : Program) (w : World) (K : PySem.W.Frag) (mg : Str → Option Value) (base : Heap) (C : Nat → Addr) : Prop where
  r0 : ErC P w K mg base "InvalidName" "given" bVE (C 0)
  r1 : ErC P w K mg base "InvalidText" "given" bVE (C 1)
  r2 : ErC P w K mg base "InvalidFlag" "given" bVE (C 2)
  r3 : ErC P w K mg base "InvalidNumber" "given" bVE (C 3)
  r4 : ErC P w K mg base "InvalidTurns" "given" bVE (C 4)
  r5 : ErC P w K mg base "InvalidTriple" "given" bVE (C 5)
  r6 : ErC P w K mg base "InvalidIndex" "given" bVE (C 6)
  r7 : ErC P w K mg base "InvalidWish" "given" bVE (C 7)
  r8 : ErC P w K mg base "NotAKind" "given" bVE (C 8)
  r9 : ErC P w K mg base "NotAFormula" "given" bVE (C 9)
  r10 : ErC P w K mg base "NotABeginning" "given" bVE (C 10)
  r11 : ErC P w K mg base "NotAScript" "given" bVE (C 11)
  r12 : ErC P w K mg base "NotAStore" "given" bVE (C 12)
  r13 : ErC P w K mg base "NotACell" "given" bVE (C 13)
  r14 : ErC P w K mg base "NotLengths" "given" bVE (C 14)
  r15 : ErC P w K mg base "OtherKind" "given" bVE (C 15)
  r16 : ErC P w K mg base "InvalidFacts" "index" bVE (C 16)
  r17 : ErC P w K mg base "InvalidFormulas" "index" bVE (C 17)
  r18 : ErC P w K mg base "InvalidTriples" "index" bVE (C 18)
  r19 : ErC P w K mg base "InvalidContents" "index" bVE (C 19)
  r20 : ErC P w K mg base "InvalidNames" "index" bVE (C 20)
  r21 : ErC P w K mg base "InvalidRows" "index" bVE (C 21)
  r22 : ErC P w K mg base "InvalidBoxes" "index" bVE (C 22)
  r23 : ErC P w K mg base "InvalidLost" "index" bVE (C 23)
  r24 : ErC P w K mg base "InvalidChanges" "index" bVE (C 24)
  r25 : ErC P w K mg base "Clash" "index" bVE (C 25)
  r26 : ErC P w K mg base "UnknownName" "given" bLE (C 26)
  r27 : ErC P w K mg base "InUse" "index" bLE (C 27)
  r28 : ErC P w K mg base "TooMany" "limit" bAE (C 28)
  r29 : ErC P w K mg base "Lacking" "index" bAE (C 29)
  r30 : ErC P w K mg base "NotWhole" "given" bAE (C 30)
  r32 : ErC P w K mg base "Broken" "index" bAE (C 32)
  un : mg "NothingToUndo" = some (.ref (C 31)) ∧ EC K bAE (C 31) ∧ PySem.W.findIn K (.ref (C 31)) "__init__" = some (some (.builtin "ArithmeticError.__init__"))
  kit : ∀ i j, i < 33 → j < 33 → PySem.W.kitOne K (.ref (C i)) (.ref (C j)) = some (decide (j = i))
  own : ∃ C1 C2 C3, mg "WrongValue" = some (.ref C1) ∧ mg "WrongName" = some (.ref C2) ∧ mg "NoAnswer" = some (.ref C3) ∧
    ∀ i, i < 33 → PySem.W.kitOne K (.ref (C i)) (.ref C1) = some (decide (i < 26)) ∧ PySem.W.kitOne K (.ref (C i)) (.ref C2) = some (decide (25 < i) && decide (i < 28)) ∧ PySem.W.kitOne K (.ref (C i)) (.ref C3) = some (decide (27 < i))
  blt : ∀ i, i < 33 → PySem.W.kitOne K (.ref (C i)) (.type "ValueError") = some (decide (i < 26)) ∧ PySem.W.kitOne K (.ref (C i)) (.type "LookupError") = some (decide (25 < i) && decide (i < 28)) ∧ PySem.W.kitOne K (.ref (C i)) (.type "ArithmeticError") = some (decide (27 < i))
  ec : ∀ i, i < 33 → ∃ b, EC K b (C i)
  no : ∀ i, i < 33 → i ≠ 31 → PySem.W.findIn K (.ref (C i)) (fls.getD i "") = some none
/-- x is the i-th error, made of va or vb -/
def Ei (C : Nat → Addr) (H : Hp) (va vb : V) (i : Nat) (x : V) : Prop := ∃ a, x = .ref a ∧ cond (Nat.beq i 31) (H a = some (exo a (C 31) none)) (ErAt H a (C i) (fls.getD i "") (cond (ordA.getD i false) va vb))
def EiL (C : Nat → Addr) (H : Hp) (va vb : V) : Nat → List V → Prop
  | _, [] => True
  | k, x :: r => Ei C H va vb k x ∧ EiL C H va vb (k + 1) r
section
variable {C : Nat → Addr} {H H' : Hp} {va vb : V}
theorem Ei.same {i : Nat} {x : V} (h : Ei C H va vb i x) (s : Same H H') : Ei C H' va vb i x := by
  obtain ⟨a, e, h⟩ := h
  refine ⟨a, e, ?_⟩
  cases z : Nat.beq i 31 with
  | true =>
    rw [z] at h
    exact s _ _ h
  | false =>
    rw [z] at h
    exact ErAt.same h s
theorem EiL.same : ∀ {xs : List V} {k : Nat}, EiL C H va vb k xs → Same H H' → EiL C H' va vb k xs
  | [], _, _, _ => True.intro
  | _ :: _, _, ⟨h, t⟩, s => ⟨h.same s, t.same s⟩
theorem EiL.app : ∀ {xs ys : List V} {k : Nat}, EiL C H va vb k xs → EiL C H va vb (k + xs.length) ys → EiL C H va vb k (xs ++ ys)
  | [], _, _, _, h => h
  | x :: xs, ys, k, ⟨h, t⟩, h2 => ⟨h, EiL.app t (by rw [List.length_cons] at h2; rw [Nat.add_assoc, Nat.add_comm 1]; exact h2)⟩
theorem EiL.get : ∀ {xs : List V} {k i : Nat} {x : V}, EiL C H va vb k xs → xs[i]? = some x → Ei C H va vb (k + i) x
  | [], _, _, _, _, h => by simp at h
  | y :: xs, k, 0, x, ⟨h, _⟩, e => by
    cases e
    exact h
  | y :: xs, k, i + 1, x, ⟨_, t⟩, e => by
    have z := EiL.get (i := i) t (by simpa using e)
    rw [Nat.add_assoc, Nat.add_comm 1] at z
    exact z
theorem ei_mk {i : Nat} {a : Addr} {v : V} (hi : Nat.beq i 31 = false) (hv : cond (ordA.getD i false) va vb = v) (h : ErAt H a (C i) (fls.getD i "") v) : Ei C H va vb i (.ref a) := by
  refine ⟨a, rfl, ?_⟩
  rw [hi, hv]
  exact h
theorem ei_un {a : Addr} (h : H a = some (exo a (C 31) none)) : Ei C H va vb 31 (.ref a) := ⟨a, rfl, h⟩
end
def spBy (C : Nat → Addr) : Sp := fun vs H Q _ => ∃ va vb : V, vs = [va, vb] ∧ ∀ (l : Addr) (H' : Hp) (xs : List V), Same H H' → H' l = some (.lst xs) → xs.length = 33 → EiL C H' va vb 0 xs → Q (.ref l) H'
abbrev s_by_place : Stmt := top 59
abbrev N_by_place : List Str := ["_law_a", "_law_b", "_law_found"]
theorem sc_by_place : FnScope N_by_place ["_law_a", "_law_b"] (defScope s_by_place) := ⟨rfl, rfl, rfl, by decide +kernel, rfl, by decide +kernel, by decide +kernel⟩
abbrev s_by_name : Stmt := top 60
abbrev N_by_name : List Str := ["_law_a", "_law_b", "_law_found"]
theorem sc_by_name : FnScope N_by_name ["_law_a", "_law_b"] (defScope s_by_name) := ⟨rfl, rfl, rfl, by decide +kernel, rfl, by decide +kernel, by decide +kernel⟩
section
variable {P : Program} {w : World} {K : PySem.W.Frag} {mg : Str → Option Value} {base : Heap} {f : Addr} {fd : FuncData} {C : Nat → Addr}
theorem c_by_place (E0 : Ers P w K mg base C) (F : FnP K "_law_by_place" s_by_place f fd) (hm : mg "_law_by_place" = some (.ref f)) : Cal P w K mg base 3 "_law_by_place" (spBy C) := by
  have hnd := sc_by_place.nd
  refine cal_mk F hm sc_by_place (fun _ _ _ _ _ _ us hl => match us, hl with | [_, _], _ => rfl) (fun vs H Q E h => ?_) (fun cdv A outer s H vs Q E hr h => ?_)
  · obtain ⟨va, vb, rfl, _⟩ := h
    rfl
  · obtain ⟨va, vb, rfl, q⟩ := h
    refine ⟨_, (pss_cons (ps_set (i := 2) hnd rfl (by first | exact Or.inl rfl | exact Or.inr rfl) (pe_lst (pa_cons (pe_er E0.r0 hr (by omega) (by rfl) (pv 0)) (pa_cons (pe_er E0.r1 hr (by omega) (by rfl) (pv 1)) (pa_cons (pe_er E0.r2 hr (by omega) (by rfl) (pv 0)) (pa_cons (pe_er E0.r3 hr (by omega) (by rfl) (pv 1)) (pa_cons (pe_er E0.r4 hr (by omega) (by rfl) (pv 0)) (pa_cons (pe_er E0.r5 hr (by omega) (by rfl) (pv 1)) pa_nil))))))))
      (pss_cons (ps_set (i := 2) hnd rfl (by first | exact Or.inl rfl | exact Or.inr rfl) (pe_op op_cat (pv 2) (pe_lst (pa_cons (pe_er E0.r6 hr (by omega) (by rfl) (pv 0)) (pa_cons (pe_er E0.r7 hr (by omega) (by rfl) (pv 1)) (pa_cons (pe_er E0.r8 hr (by omega) (by rfl) (pv 0)) (pa_cons (pe_er E0.r9 hr (by omega) (by rfl) (pv 1)) (pa_cons (pe_er E0.r10 hr (by omega) (by rfl) (pv 0)) (pa_cons (pe_er E0.r11 hr (by omega) (by rfl) (pv 1)) pa_nil)))))))))
      (pss_cons (ps_set (i := 2) hnd rfl (by first | exact Or.inl rfl | exact Or.inr rfl) (pe_op op_cat (pv 2) (pe_lst (pa_cons (pe_er E0.r12 hr (by omega) (by rfl) (pv 0)) (pa_cons (pe_er E0.r13 hr (by omega) (by rfl) (pv 1)) (pa_cons (pe_er E0.r14 hr (by omega) (by rfl) (pv 0)) (pa_cons (pe_er E0.r15 hr (by omega) (by rfl) (pv 1)) (pa_cons (pe_er E0.r16 hr (by omega) (by rfl) (pv 0)) (pa_cons (pe_er E0.r17 hr (by omega) (by rfl) (pv 1)) pa_nil)))))))))
      (pss_cons (ps_set (i := 2) hnd rfl (by first | exact Or.inl rfl | exact Or.inr rfl) (pe_op op_cat (pv 2) (pe_lst (pa_cons (pe_er E0.r18 hr (by omega) (by rfl) (pv 0)) (pa_cons (pe_er E0.r19 hr (by omega) (by rfl) (pv 1)) (pa_cons (pe_er E0.r20 hr (by omega) (by rfl) (pv 0)) (pa_cons (pe_er E0.r21 hr (by omega) (by rfl) (pv 1)) (pa_cons (pe_er E0.r22 hr (by omega) (by rfl) (pv 0)) pa_nil))))))))
      (pss_cons (ps_set (i := 2) hnd rfl (by first | exact Or.inl rfl | exact Or.inr rfl) (pe_op op_cat (pv 2) (pe_lst (pa_cons (pe_er E0.r23 hr (by omega) (by rfl) (pv 1)) (pa_cons (pe_er E0.r24 hr (by omega) (by rfl) (pv 0)) (pa_cons (pe_er E0.r25 hr (by omega) (by rfl) (pv 1)) (pa_cons (pe_er E0.r26 hr (by omega) (by rfl) (pv 0)) (pa_cons (pe_er E0.r27 hr (by omega) (by rfl) (pv 1)) (pa_cons (pe_er E0.r28 hr (by omega) (by rfl) (pv 0)) (pa_cons (pe_er E0.r29 hr (by omega) (by rfl) (pv 1)) pa_nil))))))))))
      (pss_one (ps_ret (pe_op op_cat (pv 2) (pe_lst (pa_cons (pe_er E0.r30 hr (by omega) (by rfl) (pv 0)) (pa_cons (pe_mkV0 E0.un.2.1 E0.un.2.2 (by rfl) E0.un.1) (pa_cons (pe_er E0.r32 hr (by omega) (by rfl) (pv 0)) pa_nil)))))))))))), ?_⟩
    refine ⟨_, rfl, fun a0 H0 s0 n0 e0 => ⟨_, rfl, fun a1 H1 s1 n1 e1 => ⟨_, rfl, fun a2 H2 s2 n2 e2 => ⟨_, rfl, fun a3 H3 s3 n3 e3 => ⟨_, rfl, fun a4 H4 s4 n4 e4 => ⟨_, rfl, fun a5 H5 s5 n5 e5 => ⟨Nat.le_of_ble_eq_true rfl, fun l0 m0 => ?_⟩⟩⟩⟩⟩⟩⟩
    have x0 := same_new (H := H5) (o := .lst [.ref a0, .ref a1, .ref a2, .ref a3, .ref a4, .ref a5]) m0
    have f0 := upd_same (H := H5) (a := l0) (o := .lst [.ref a0, .ref a1, .ref a2, .ref a3, .ref a4, .ref a5])
    generalize upd H5 l0 (.lst [.ref a0, .ref a1, .ref a2, .ref a3, .ref a4, .ref a5]) = G0 at x0 f0 ⊢
    have t5 := Same.trans s5 x0
    have t4 := Same.trans s4 t5
    have t3 := Same.trans s3 t4
    have t2 := Same.trans s2 t3
    have t1 := Same.trans s1 t2
    have t0 := Same.trans s0 t1
    have g0 : EiL C _ va vb 0 [.ref a0, .ref a1, .ref a2, .ref a3, .ref a4, .ref a5] := ⟨ei_mk rfl rfl (e0.same t1), ei_mk rfl rfl (e1.same t2), ei_mk rfl rfl (e2.same t3), ei_mk rfl rfl (e3.same t4), ei_mk rfl rfl (e4.same t5), ei_mk rfl rfl (e5.same x0), True.intro⟩
    have y0 := t0
    have z0 : ([.ref a0, .ref a1, .ref a2, .ref a3, .ref a4, .ref a5] : List V).length = 6 := rfl
    generalize ([.ref a0, .ref a1, .ref a2, .ref a3, .ref a4, .ref a5] : List V) = X0 at f0 g0 z0
    clear t0 t1 t2 t3 t4 t5
    refine ⟨_, rfl, ⟨_, rfl, fun a6 H6 s6 n6 e6 => ⟨_, rfl, fun a7 H7 s7 n7 e7 => ⟨_, rfl, fun a8 H8 s8 n8 e8 => ⟨_, rfl, fun a9 H9 s9 n9 e9 => ⟨_, rfl, fun a10 H10 s10 n10 e10 => ⟨_, rfl, fun a11 H11 s11 n11 e11 => ⟨Nat.le_of_ble_eq_true rfl, fun l1 m1 => ⟨l0, l1, X0, _, rfl, rfl, ?_, upd_same, ?_, fun p1 q1 => ?_⟩⟩⟩⟩⟩⟩⟩⟩⟩
    · exact (Same.trans s6 (Same.trans s7 (Same.trans s8 (Same.trans s9 (Same.trans s10 (Same.trans s11 (same_new m1))))))) _ _ f0
    · rw [z0]; exact Nat.le_of_ble_eq_true rfl
    have x1 := Same.trans (same_new (H := H11) (o := .lst [.ref a6, .ref a7, .ref a8, .ref a9, .ref a10, .ref a11]) m1) (same_new (o := .lst (X0 ++ [.ref a6, .ref a7, .ref a8, .ref a9, .ref a10, .ref a11])) q1)
    have f1 := upd_same (H := upd H11 l1 (.lst [.ref a6, .ref a7, .ref a8, .ref a9, .ref a10, .ref a11])) (a := p1) (o := .lst (X0 ++ [.ref a6, .ref a7, .ref a8, .ref a9, .ref a10, .ref a11]))
    generalize upd (upd H11 l1 (.lst [.ref a6, .ref a7, .ref a8, .ref a9, .ref a10, .ref a11])) p1 (.lst (X0 ++ [.ref a6, .ref a7, .ref a8, .ref a9, .ref a10, .ref a11])) = G1 at x1 f1 ⊢
    have t11 := Same.trans s11 x1
    have t10 := Same.trans s10 t11
    have t9 := Same.trans s9 t10
    have t8 := Same.trans s8 t9
    have t7 := Same.trans s7 t8
    have t6 := Same.trans s6 t7
    have g1 : EiL C _ va vb 0 (X0 ++ [.ref a6, .ref a7, .ref a8, .ref a9, .ref a10, .ref a11]) := EiL.app (g0.same t6) (by rw [z0]; exact ⟨ei_mk rfl rfl (e6.same t7), ei_mk rfl rfl (e7.same t8), ei_mk rfl rfl (e8.same t9), ei_mk rfl rfl (e9.same t10), ei_mk rfl rfl (e10.same t11), ei_mk rfl rfl (e11.same x1), True.intro⟩)
    have y1 := y0.trans t6
    have z1 : (X0 ++ [.ref a6, .ref a7, .ref a8, .ref a9, .ref a10, .ref a11] : List V).length = 12 := by rw [List.length_append, z0]; rfl
    generalize (X0 ++ [.ref a6, .ref a7, .ref a8, .ref a9, .ref a10, .ref a11] : List V) = X1 at f1 g1 z1
    clear t6 t7 t8 t9 t10 t11
    refine ⟨_, rfl, ⟨_, rfl, fun a12 H12 s12 n12 e12 => ⟨_, rfl, fun a13 H13 s13 n13 e13 => ⟨_, rfl, fun a14 H14 s14 n14 e14 => ⟨_, rfl, fun a15 H15 s15 n15 e15 => ⟨_, rfl, fun a16 H16 s16 n16 e16 => ⟨_, rfl, fun a17 H17 s17 n17 e17 => ⟨Nat.le_of_ble_eq_true rfl, fun l2 m2 => ⟨p1, l2, X1, _, rfl, rfl, ?_, upd_same, ?_, fun p2 q2 => ?_⟩⟩⟩⟩⟩⟩⟩⟩⟩
    · exact (Same.trans s12 (Same.trans s13 (Same.trans s14 (Same.trans s15 (Same.trans s16 (Same.trans s17 (same_new m2))))))) _ _ f1
    · rw [z1]; exact Nat.le_of_ble_eq_true rfl
    have x2 := Same.trans (same_new (H := H17) (o := .lst [.ref a12, .ref a13, .ref a14, .ref a15, .ref a16, .ref a17]) m2) (same_new (o := .lst (X1 ++ [.ref a12, .ref a13, .ref a14, .ref a15, .ref a16, .ref a17])) q2)
    have f2 := upd_same (H := upd H17 l2 (.lst [.ref a12, .ref a13, .ref a14, .ref a15, .ref a16, .ref a17])) (a := p2) (o := .lst (X1 ++ [.ref a12, .ref a13, .ref a14, .ref a15, .ref a16, .ref a17]))
    generalize upd (upd H17 l2 (.lst [.ref a12, .ref a13, .ref a14, .ref a15, .ref a16, .ref a17])) p2 (.lst (X1 ++ [.ref a12, .ref a13, .ref a14, .ref a15, .ref a16, .ref a17])) = G2 at x2 f2 ⊢
    have t17 := Same.trans s17 x2
    have t16 := Same.trans s16 t17
    have t15 := Same.trans s15 t16
    have t14 := Same.trans s14 t15
    have t13 := Same.trans s13 t14
    have t12 := Same.trans s12 t13
    have g2 : EiL C _ va vb 0 (X1 ++ [.ref a12, .ref a13, .ref a14, .ref a15, .ref a16, .ref a17]) := EiL.app (g1.same t12) (by rw [z1]; exact ⟨ei_mk rfl rfl (e12.same t13), ei_mk rfl rfl (e13.same t14), ei_mk rfl rfl (e14.same t15), ei_mk rfl rfl (e15.same t16), ei_mk rfl rfl (e16.same t17), ei_mk rfl rfl (e17.same x2), True.intro⟩)
    have y2 := y1.trans t12
    have z2 : (X1 ++ [.ref a12, .ref a13, .ref a14, .ref a15, .ref a16, .ref a17] : List V).length = 18 := by rw [List.length_append, z1]; rfl
    generalize (X1 ++ [.ref a12, .ref a13, .ref a14, .ref a15, .ref a16, .ref a17] : List V) = X2 at f2 g2 z2
    clear t12 t13 t14 t15 t16 t17
    refine ⟨_, rfl, ⟨_, rfl, fun a18 H18 s18 n18 e18 => ⟨_, rfl, fun a19 H19 s19 n19 e19 => ⟨_, rfl, fun a20 H20 s20 n20 e20 => ⟨_, rfl, fun a21 H21 s21 n21 e21 => ⟨_, rfl, fun a22 H22 s22 n22 e22 => ⟨Nat.le_of_ble_eq_true rfl, fun l3 m3 => ⟨p2, l3, X2, _, rfl, rfl, ?_, upd_same, ?_, fun p3 q3 => ?_⟩⟩⟩⟩⟩⟩⟩⟩
    · exact (Same.trans s18 (Same.trans s19 (Same.trans s20 (Same.trans s21 (Same.trans s22 (same_new m3)))))) _ _ f2
    · rw [z2]; exact Nat.le_of_ble_eq_true rfl
    have x3 := Same.trans (same_new (H := H22) (o := .lst [.ref a18, .ref a19, .ref a20, .ref a21, .ref a22]) m3) (same_new (o := .lst (X2 ++ [.ref a18, .ref a19, .ref a20, .ref a21, .ref a22])) q3)
    have f3 := upd_same (H := upd H22 l3 (.lst [.ref a18, .ref a19, .ref a20, .ref a21, .ref a22])) (a := p3) (o := .lst (X2 ++ [.ref a18, .ref a19, .ref a20, .ref a21, .ref a22]))
    generalize upd (upd H22 l3 (.lst [.ref a18, .ref a19, .ref a20, .ref a21, .ref a22])) p3 (.lst (X2 ++ [.ref a18, .ref a19, .ref a20, .ref a21, .ref a22])) = G3 at x3 f3 ⊢
    have t22 := Same.trans s22 x3
    have t21 := Same.trans s21 t22
    have t20 := Same.trans s20 t21
    have t19 := Same.trans s19 t20
    have t18 := Same.trans s18 t19
    have g3 : EiL C _ va vb 0 (X2 ++ [.ref a18, .ref a19, .ref a20, .ref a21, .ref a22]) := EiL.app (g2.same t18) (by rw [z2]; exact ⟨ei_mk rfl rfl (e18.same t19), ei_mk rfl rfl (e19.same t20), ei_mk rfl rfl (e20.same t21), ei_mk rfl rfl (e21.same t22), ei_mk rfl rfl (e22.same x3), True.intro⟩)
    have y3 := y2.trans t18
    have z3 : (X2 ++ [.ref a18, .ref a19, .ref a20, .ref a21, .ref a22] : List V).length = 23 := by rw [List.length_append, z2]; rfl
    generalize (X2 ++ [.ref a18, .ref a19, .ref a20, .ref a21, .ref a22] : List V) = X3 at f3 g3 z3
    clear t18 t19 t20 t21 t22
    refine ⟨_, rfl, ⟨_, rfl, fun a23 H23 s23 n23 e23 => ⟨_, rfl, fun a24 H24 s24 n24 e24 => ⟨_, rfl, fun a25 H25 s25 n25 e25 => ⟨_, rfl, fun a26 H26 s26 n26 e26 => ⟨_, rfl, fun a27 H27 s27 n27 e27 => ⟨_, rfl, fun a28 H28 s28 n28 e28 => ⟨_, rfl, fun a29 H29 s29 n29 e29 => ⟨Nat.le_of_ble_eq_true rfl, fun l4 m4 => ⟨p3, l4, X3, _, rfl, rfl, ?_, upd_same, ?_, fun p4 q4 => ?_⟩⟩⟩⟩⟩⟩⟩⟩⟩⟩
    · exact (Same.trans s23 (Same.trans s24 (Same.trans s25 (Same.trans s26 (Same.trans s27 (Same.trans s28 (Same.trans s29 (same_new m4)))))))) _ _ f3
    · rw [z3]; exact Nat.le_of_ble_eq_true rfl
    have x4 := Same.trans (same_new (H := H29) (o := .lst [.ref a23, .ref a24, .ref a25, .ref a26, .ref a27, .ref a28, .ref a29]) m4) (same_new (o := .lst (X3 ++ [.ref a23, .ref a24, .ref a25, .ref a26, .ref a27, .ref a28, .ref a29])) q4)
    have f4 := upd_same (H := upd H29 l4 (.lst [.ref a23, .ref a24, .ref a25, .ref a26, .ref a27, .ref a28, .ref a29])) (a := p4) (o := .lst (X3 ++ [.ref a23, .ref a24, .ref a25, .ref a26, .ref a27, .ref a28, .ref a29]))
    generalize upd (upd H29 l4 (.lst [.ref a23, .ref a24, .ref a25, .ref a26, .ref a27, .ref a28, .ref a29])) p4 (.lst (X3 ++ [.ref a23, .ref a24, .ref a25, .ref a26, .ref a27, .ref a28, .ref a29])) = G4 at x4 f4 ⊢
    have t29 := Same.trans s29 x4
    have t28 := Same.trans s28 t29
    have t27 := Same.trans s27 t28
    have t26 := Same.trans s26 t27
    have t25 := Same.trans s25 t26
    have t24 := Same.trans s24 t25
    have t23 := Same.trans s23 t24
    have g4 : EiL C _ va vb 0 (X3 ++ [.ref a23, .ref a24, .ref a25, .ref a26, .ref a27, .ref a28, .ref a29]) := EiL.app (g3.same t23) (by rw [z3]; exact ⟨ei_mk rfl rfl (e23.same t24), ei_mk rfl rfl (e24.same t25), ei_mk rfl rfl (e25.same t26), ei_mk rfl rfl (e26.same t27), ei_mk rfl rfl (e27.same t28), ei_mk rfl rfl (e28.same t29), ei_mk rfl rfl (e29.same x4), True.intro⟩)
    have y4 := y3.trans t23
    have z4 : (X3 ++ [.ref a23, .ref a24, .ref a25, .ref a26, .ref a27, .ref a28, .ref a29] : List V).length = 30 := by rw [List.length_append, z3]; rfl
    generalize (X3 ++ [.ref a23, .ref a24, .ref a25, .ref a26, .ref a27, .ref a28, .ref a29] : List V) = X4 at f4 g4 z4
    clear t23 t24 t25 t26 t27 t28 t29
    refine ⟨_, rfl, ⟨_, rfl, fun a30 H30 s30 n30 e30 => fun a31 n31 => ⟨_, rfl, fun a32 H32 s32 n32 e32 => ⟨Nat.le_of_ble_eq_true rfl, fun l5 m5 => ⟨p4, l5, X4, _, rfl, rfl, ?_, upd_same, ?_, fun p5 q5 => ?_⟩⟩⟩⟩⟩
    · exact (Same.trans s30 (Same.trans (same_new n31) (Same.trans s32 (same_new m5)))) _ _ f4
    · rw [z4]; exact Nat.le_of_ble_eq_true rfl
    have x5 := Same.trans (same_new (H := H32) (o := .lst [.ref a30, .ref a31, .ref a32]) m5) (same_new (o := .lst (X4 ++ [.ref a30, .ref a31, .ref a32])) q5)
    have f5 := upd_same (H := upd H32 l5 (.lst [.ref a30, .ref a31, .ref a32])) (a := p5) (o := .lst (X4 ++ [.ref a30, .ref a31, .ref a32]))
    generalize upd (upd H32 l5 (.lst [.ref a30, .ref a31, .ref a32])) p5 (.lst (X4 ++ [.ref a30, .ref a31, .ref a32])) = G5 at x5 f5 ⊢
    have t32 := Same.trans s32 x5
    have t31 := Same.trans (same_new n31) t32
    have t30 := Same.trans s30 t31
    have g5 : EiL C _ va vb 0 (X4 ++ [.ref a30, .ref a31, .ref a32]) := EiL.app (g4.same t30) (by rw [z4]; exact ⟨ei_mk rfl rfl (e30.same t31), ei_un (t32 _ _ upd_same), ei_mk rfl rfl (e32.same x5), True.intro⟩)
    have y5 := y4.trans t30
    have z5 : (X4 ++ [.ref a30, .ref a31, .ref a32] : List V).length = 33 := by rw [List.length_append, z4]; rfl
    generalize (X4 ++ [.ref a30, .ref a31, .ref a32] : List V) = X5 at f5 g5 z5
    clear t30 t31 t32
    exact q _ _ _ y5 f5 z5 g5
theorem c_by_name (E0 : Ers P w K mg base C) (F : FnP K "_law_by_name" s_by_name f fd) (hm : mg "_law_by_name" = some (.ref f)) : Cal P w K mg base 3 "_law_by_name" (spBy C) := by
  have hnd := sc_by_name.nd
  refine cal_mk F hm sc_by_name (fun _ _ _ _ _ _ us hl => match us, hl with | [_, _], _ => rfl) (fun vs H Q E h => ?_) (fun cdv A outer s H vs Q E hr h => ?_)
  · obtain ⟨va, vb, rfl, _⟩ := h
    rfl
  · obtain ⟨va, vb, rfl, q⟩ := h
    refine ⟨_, (pss_cons (ps_set (i := 2) hnd rfl (by first | exact Or.inl rfl | exact Or.inr rfl) (pe_lst (pa_cons (pe_erK E0.r0 hr (by omega) (by rfl) (pv 0)) (pa_cons (pe_erK E0.r1 hr (by omega) (by rfl) (pv 1)) (pa_cons (pe_erK E0.r2 hr (by omega) (by rfl) (pv 0)) (pa_cons (pe_erK E0.r3 hr (by omega) (by rfl) (pv 1)) pa_nil))))))
      (pss_cons (ps_set (i := 2) hnd rfl (by first | exact Or.inl rfl | exact Or.inr rfl) (pe_op op_cat (pv 2) (pe_lst (pa_cons (pe_erK E0.r4 hr (by omega) (by rfl) (pv 0)) (pa_cons (pe_erK E0.r5 hr (by omega) (by rfl) (pv 1)) (pa_cons (pe_erK E0.r6 hr (by omega) (by rfl) (pv 0)) (pa_cons (pe_erK E0.r7 hr (by omega) (by rfl) (pv 1)) pa_nil)))))))
      (pss_cons (ps_set (i := 2) hnd rfl (by first | exact Or.inl rfl | exact Or.inr rfl) (pe_op op_cat (pv 2) (pe_lst (pa_cons (pe_erK E0.r8 hr (by omega) (by rfl) (pv 0)) (pa_cons (pe_erK E0.r9 hr (by omega) (by rfl) (pv 1)) (pa_cons (pe_erK E0.r10 hr (by omega) (by rfl) (pv 0)) (pa_cons (pe_erK E0.r11 hr (by omega) (by rfl) (pv 1)) pa_nil)))))))
      (pss_cons (ps_set (i := 2) hnd rfl (by first | exact Or.inl rfl | exact Or.inr rfl) (pe_op op_cat (pv 2) (pe_lst (pa_cons (pe_erK E0.r12 hr (by omega) (by rfl) (pv 0)) (pa_cons (pe_erK E0.r13 hr (by omega) (by rfl) (pv 1)) (pa_cons (pe_erK E0.r14 hr (by omega) (by rfl) (pv 0)) (pa_cons (pe_erK E0.r15 hr (by omega) (by rfl) (pv 1)) pa_nil)))))))
      (pss_cons (ps_set (i := 2) hnd rfl (by first | exact Or.inl rfl | exact Or.inr rfl) (pe_op op_cat (pv 2) (pe_lst (pa_cons (pe_erK E0.r16 hr (by omega) (by rfl) (pv 0)) (pa_cons (pe_erK E0.r17 hr (by omega) (by rfl) (pv 1)) (pa_cons (pe_erK E0.r18 hr (by omega) (by rfl) (pv 0)) pa_nil))))))
      (pss_cons (ps_set (i := 2) hnd rfl (by first | exact Or.inl rfl | exact Or.inr rfl) (pe_op op_cat (pv 2) (pe_lst (pa_cons (pe_erK E0.r19 hr (by omega) (by rfl) (pv 1)) (pa_cons (pe_erK E0.r20 hr (by omega) (by rfl) (pv 0)) (pa_cons (pe_erK E0.r21 hr (by omega) (by rfl) (pv 1)) (pa_cons (pe_erK E0.r22 hr (by omega) (by rfl) (pv 0)) pa_nil)))))))
      (pss_cons (ps_set (i := 2) hnd rfl (by first | exact Or.inl rfl | exact Or.inr rfl) (pe_op op_cat (pv 2) (pe_lst (pa_cons (pe_erK E0.r23 hr (by omega) (by rfl) (pv 1)) (pa_cons (pe_erK E0.r24 hr (by omega) (by rfl) (pv 0)) (pa_cons (pe_erK E0.r25 hr (by omega) (by rfl) (pv 1)) (pa_cons (pe_erK E0.r26 hr (by omega) (by rfl) (pv 0)) pa_nil)))))))
      (pss_cons (ps_set (i := 2) hnd rfl (by first | exact Or.inl rfl | exact Or.inr rfl) (pe_op op_cat (pv 2) (pe_lst (pa_cons (pe_erK E0.r27 hr (by omega) (by rfl) (pv 1)) (pa_cons (pe_erK E0.r28 hr (by omega) (by rfl) (pv 0)) (pa_cons (pe_erK E0.r29 hr (by omega) (by rfl) (pv 1)) (pa_cons (pe_erK E0.r30 hr (by omega) (by rfl) (pv 0)) (pa_cons (pe_mkV0 E0.un.2.1 E0.un.2.2 (by rfl) E0.un.1) pa_nil))))))))
      (pss_one (ps_ret (pe_op op_cat (pv 2) (pe_lst (pa_cons (pe_erK E0.r32 hr (by omega) (by rfl) (pv 0)) pa_nil))))))))))))), ?_⟩
    refine ⟨_, rfl, fun a0 H0 s0 n0 e0 => ⟨_, rfl, fun a1 H1 s1 n1 e1 => ⟨_, rfl, fun a2 H2 s2 n2 e2 => ⟨_, rfl, fun a3 H3 s3 n3 e3 => ⟨Nat.le_of_ble_eq_true rfl, fun l0 m0 => ?_⟩⟩⟩⟩⟩
    have x0 := same_new (H := H3) (o := .lst [.ref a0, .ref a1, .ref a2, .ref a3]) m0
    have f0 := upd_same (H := H3) (a := l0) (o := .lst [.ref a0, .ref a1, .ref a2, .ref a3])
    generalize upd H3 l0 (.lst [.ref a0, .ref a1, .ref a2, .ref a3]) = G0 at x0 f0 ⊢
    have t3 := Same.trans s3 x0
    have t2 := Same.trans s2 t3
    have t1 := Same.trans s1 t2
    have t0 := Same.trans s0 t1
    have g0 : EiL C _ va vb 0 [.ref a0, .ref a1, .ref a2, .ref a3] := ⟨ei_mk rfl rfl (e0.same t1), ei_mk rfl rfl (e1.same t2), ei_mk rfl rfl (e2.same t3), ei_mk rfl rfl (e3.same x0), True.intro⟩
    have y0 := t0
    have z0 : ([.ref a0, .ref a1, .ref a2, .ref a3] : List V).length = 4 := rfl
    generalize ([.ref a0, .ref a1, .ref a2, .ref a3] : List V) = X0 at f0 g0 z0
    clear t0 t1 t2 t3
    refine ⟨_, rfl, ⟨_, rfl, fun a4 H4 s4 n4 e4 => ⟨_, rfl, fun a5 H5 s5 n5 e5 => ⟨_, rfl, fun a6 H6 s6 n6 e6 => ⟨_, rfl, fun a7 H7 s7 n7 e7 => ⟨Nat.le_of_ble_eq_true rfl, fun l1 m1 => ⟨l0, l1, X0, _, rfl, rfl, ?_, upd_same, ?_, fun p1 q1 => ?_⟩⟩⟩⟩⟩⟩⟩
    · exact (Same.trans s4 (Same.trans s5 (Same.trans s6 (Same.trans s7 (same_new m1))))) _ _ f0
    · rw [z0]; exact Nat.le_of_ble_eq_true rfl
    have x1 := Same.trans (same_new (H := H7) (o := .lst [.ref a4, .ref a5, .ref a6, .ref a7]) m1) (same_new (o := .lst (X0 ++ [.ref a4, .ref a5, .ref a6, .ref a7])) q1)
    have f1 := upd_same (H := upd H7 l1 (.lst [.ref a4, .ref a5, .ref a6, .ref a7])) (a := p1) (o := .lst (X0 ++ [.ref a4, .ref a5, .ref a6, .ref a7]))
    generalize upd (upd H7 l1 (.lst [.ref a4, .ref a5, .ref a6, .ref a7])) p1 (.lst (X0 ++ [.ref a4, .ref a5, .ref a6, .ref a7])) = G1 at x1 f1 ⊢
    have t7 := Same.trans s7 x1
    have t6 := Same.trans s6 t7
    have t5 := Same.trans s5 t6
    have t4 := Same.trans s4 t5
    have g1 : EiL C _ va vb 0 (X0 ++ [.ref a4, .ref a5, .ref a6, .ref a7]) := EiL.app (g0.same t4) (by rw [z0]; exact ⟨ei_mk rfl rfl (e4.same t5), ei_mk rfl rfl (e5.same t6), ei_mk rfl rfl (e6.same t7), ei_mk rfl rfl (e7.same x1), True.intro⟩)
    have y1 := y0.trans t4
    have z1 : (X0 ++ [.ref a4, .ref a5, .ref a6, .ref a7] : List V).length = 8 := by rw [List.length_append, z0]; rfl
    generalize (X0 ++ [.ref a4, .ref a5, .ref a6, .ref a7] : List V) = X1 at f1 g1 z1
    clear t4 t5 t6 t7
    refine ⟨_, rfl, ⟨_, rfl, fun a8 H8 s8 n8 e8 => ⟨_, rfl, fun a9 H9 s9 n9 e9 => ⟨_, rfl, fun a10 H10 s10 n10 e10 => ⟨_, rfl, fun a11 H11 s11 n11 e11 => ⟨Nat.le_of_ble_eq_true rfl, fun l2 m2 => ⟨p1, l2, X1, _, rfl, rfl, ?_, upd_same, ?_, fun p2 q2 => ?_⟩⟩⟩⟩⟩⟩⟩
    · exact (Same.trans s8 (Same.trans s9 (Same.trans s10 (Same.trans s11 (same_new m2))))) _ _ f1
    · rw [z1]; exact Nat.le_of_ble_eq_true rfl
    have x2 := Same.trans (same_new (H := H11) (o := .lst [.ref a8, .ref a9, .ref a10, .ref a11]) m2) (same_new (o := .lst (X1 ++ [.ref a8, .ref a9, .ref a10, .ref a11])) q2)
    have f2 := upd_same (H := upd H11 l2 (.lst [.ref a8, .ref a9, .ref a10, .ref a11])) (a := p2) (o := .lst (X1 ++ [.ref a8, .ref a9, .ref a10, .ref a11]))
    generalize upd (upd H11 l2 (.lst [.ref a8, .ref a9, .ref a10, .ref a11])) p2 (.lst (X1 ++ [.ref a8, .ref a9, .ref a10, .ref a11])) = G2 at x2 f2 ⊢
    have t11 := Same.trans s11 x2
    have t10 := Same.trans s10 t11
    have t9 := Same.trans s9 t10
    have t8 := Same.trans s8 t9
    have g2 : EiL C _ va vb 0 (X1 ++ [.ref a8, .ref a9, .ref a10, .ref a11]) := EiL.app (g1.same t8) (by rw [z1]; exact ⟨ei_mk rfl rfl (e8.same t9), ei_mk rfl rfl (e9.same t10), ei_mk rfl rfl (e10.same t11), ei_mk rfl rfl (e11.same x2), True.intro⟩)
    have y2 := y1.trans t8
    have z2 : (X1 ++ [.ref a8, .ref a9, .ref a10, .ref a11] : List V).length = 12 := by rw [List.length_append, z1]; rfl
    generalize (X1 ++ [.ref a8, .ref a9, .ref a10, .ref a11] : List V) = X2 at f2 g2 z2
    clear t8 t9 t10 t11
    refine ⟨_, rfl, ⟨_, rfl, fun a12 H12 s12 n12 e12 => ⟨_, rfl, fun a13 H13 s13 n13 e13 => ⟨_, rfl, fun a14 H14 s14 n14 e14 => ⟨_, rfl, fun a15 H15 s15 n15 e15 => ⟨Nat.le_of_ble_eq_true rfl, fun l3 m3 => ⟨p2, l3, X2, _, rfl, rfl, ?_, upd_same, ?_, fun p3 q3 => ?_⟩⟩⟩⟩⟩⟩⟩
    · exact (Same.trans s12 (Same.trans s13 (Same.trans s14 (Same.trans s15 (same_new m3))))) _ _ f2
    · rw [z2]; exact Nat.le_of_ble_eq_true rfl
    have x3 := Same.trans (same_new (H := H15) (o := .lst [.ref a12, .ref a13, .ref a14, .ref a15]) m3) (same_new (o := .lst (X2 ++ [.ref a12, .ref a13, .ref a14, .ref a15])) q3)
    have f3 := upd_same (H := upd H15 l3 (.lst [.ref a12, .ref a13, .ref a14, .ref a15])) (a := p3) (o := .lst (X2 ++ [.ref a12, .ref a13, .ref a14, .ref a15]))
    generalize upd (upd H15 l3 (.lst [.ref a12, .ref a13, .ref a14, .ref a15])) p3 (.lst (X2 ++ [.ref a12, .ref a13, .ref a14, .ref a15])) = G3 at x3 f3 ⊢
    have t15 := Same.trans s15 x3
    have t14 := Same.trans s14 t15
    have t13 := Same.trans s13 t14
    have t12 := Same.trans s12 t13
    have g3 : EiL C _ va vb 0 (X2 ++ [.ref a12, .ref a13, .ref a14, .ref a15]) := EiL.app (g2.same t12) (by rw [z2]; exact ⟨ei_mk rfl rfl (e12.same t13), ei_mk rfl rfl (e13.same t14), ei_mk rfl rfl (e14.same t15), ei_mk rfl rfl (e15.same x3), True.intro⟩)
    have y3 := y2.trans t12
    have z3 : (X2 ++ [.ref a12, .ref a13, .ref a14, .ref a15] : List V).length = 16 := by rw [List.length_append, z2]; rfl
    generalize (X2 ++ [.ref a12, .ref a13, .ref a14, .ref a15] : List V) = X3 at f3 g3 z3
    clear t12 t13 t14 t15
    refine ⟨_, rfl, ⟨_, rfl, fun a16 H16 s16 n16 e16 => ⟨_, rfl, fun a17 H17 s17 n17 e17 => ⟨_, rfl, fun a18 H18 s18 n18 e18 => ⟨Nat.le_of_ble_eq_true rfl, fun l4 m4 => ⟨p3, l4, X3, _, rfl, rfl, ?_, upd_same, ?_, fun p4 q4 => ?_⟩⟩⟩⟩⟩⟩
    · exact (Same.trans s16 (Same.trans s17 (Same.trans s18 (same_new m4)))) _ _ f3
    · rw [z3]; exact Nat.le_of_ble_eq_true rfl
    have x4 := Same.trans (same_new (H := H18) (o := .lst [.ref a16, .ref a17, .ref a18]) m4) (same_new (o := .lst (X3 ++ [.ref a16, .ref a17, .ref a18])) q4)
    have f4 := upd_same (H := upd H18 l4 (.lst [.ref a16, .ref a17, .ref a18])) (a := p4) (o := .lst (X3 ++ [.ref a16, .ref a17, .ref a18]))
    generalize upd (upd H18 l4 (.lst [.ref a16, .ref a17, .ref a18])) p4 (.lst (X3 ++ [.ref a16, .ref a17, .ref a18])) = G4 at x4 f4 ⊢
    have t18 := Same.trans s18 x4
    have t17 := Same.trans s17 t18
    have t16 := Same.trans s16 t17
    have g4 : EiL C _ va vb 0 (X3 ++ [.ref a16, .ref a17, .ref a18]) := EiL.app (g3.same t16) (by rw [z3]; exact ⟨ei_mk rfl rfl (e16.same t17), ei_mk rfl rfl (e17.same t18), ei_mk rfl rfl (e18.same x4), True.intro⟩)
    have y4 := y3.trans t16
    have z4 : (X3 ++ [.ref a16, .ref a17, .ref a18] : List V).length = 19 := by rw [List.length_append, z3]; rfl
    generalize (X3 ++ [.ref a16, .ref a17, .ref a18] : List V) = X4 at f4 g4 z4
    clear t16 t17 t18
    refine ⟨_, rfl, ⟨_, rfl, fun a19 H19 s19 n19 e19 => ⟨_, rfl, fun a20 H20 s20 n20 e20 => ⟨_, rfl, fun a21 H21 s21 n21 e21 => ⟨_, rfl, fun a22 H22 s22 n22 e22 => ⟨Nat.le_of_ble_eq_true rfl, fun l5 m5 => ⟨p4, l5, X4, _, rfl, rfl, ?_, upd_same, ?_, fun p5 q5 => ?_⟩⟩⟩⟩⟩⟩⟩
    · exact (Same.trans s19 (Same.trans s20 (Same.trans s21 (Same.trans s22 (same_new m5))))) _ _ f4
    · rw [z4]; exact Nat.le_of_ble_eq_true rfl
    have x5 := Same.trans (same_new (H := H22) (o := .lst [.ref a19, .ref a20, .ref a21, .ref a22]) m5) (same_new (o := .lst (X4 ++ [.ref a19, .ref a20, .ref a21, .ref a22])) q5)
    have f5 := upd_same (H := upd H22 l5 (.lst [.ref a19, .ref a20, .ref a21, .ref a22])) (a := p5) (o := .lst (X4 ++ [.ref a19, .ref a20, .ref a21, .ref a22]))
    generalize upd (upd H22 l5 (.lst [.ref a19, .ref a20, .ref a21, .ref a22])) p5 (.lst (X4 ++ [.ref a19, .ref a20, .ref a21, .ref a22])) = G5 at x5 f5 ⊢
    have t22 := Same.trans s22 x5
    have t21 := Same.trans s21 t22
    have t20 := Same.trans s20 t21
    have t19 := Same.trans s19 t20
    have g5 : EiL C _ va vb 0 (X4 ++ [.ref a19, .ref a20, .ref a21, .ref a22]) := EiL.app (g4.same t19) (by rw [z4]; exact ⟨ei_mk rfl rfl (e19.same t20), ei_mk rfl rfl (e20.same t21), ei_mk rfl rfl (e21.same t22), ei_mk rfl rfl (e22.same x5), True.intro⟩)
    have y5 := y4.trans t19
    have z5 : (X4 ++ [.ref a19, .ref a20, .ref a21, .ref a22] : List V).length = 23 := by rw [List.length_append, z4]; rfl
    generalize (X4 ++ [.ref a19, .ref a20, .ref a21, .ref a22] : List V) = X5 at f5 g5 z5
    clear t19 t20 t21 t22
    refine ⟨_, rfl, ⟨_, rfl, fun a23 H23 s23 n23 e23 => ⟨_, rfl, fun a24 H24 s24 n24 e24 => ⟨_, rfl, fun a25 H25 s25 n25 e25 => ⟨_, rfl, fun a26 H26 s26 n26 e26 => ⟨Nat.le_of_ble_eq_true rfl, fun l6 m6 => ⟨p5, l6, X5, _, rfl, rfl, ?_, upd_same, ?_, fun p6 q6 => ?_⟩⟩⟩⟩⟩⟩⟩
    · exact (Same.trans s23 (Same.trans s24 (Same.trans s25 (Same.trans s26 (same_new m6))))) _ _ f5
    · rw [z5]; exact Nat.le_of_ble_eq_true rfl
    have x6 := Same.trans (same_new (H := H26) (o := .lst [.ref a23, .ref a24, .ref a25, .ref a26]) m6) (same_new (o := .lst (X5 ++ [.ref a23, .ref a24, .ref a25, .ref a26])) q6)
    have f6 := upd_same (H := upd H26 l6 (.lst [.ref a23, .ref a24, .ref a25, .ref a26])) (a := p6) (o := .lst (X5 ++ [.ref a23, .ref a24, .ref a25, .ref a26]))
    generalize upd (upd H26 l6 (.lst [.ref a23, .ref a24, .ref a25, .ref a26])) p6 (.lst (X5 ++ [.ref a23, .ref a24, .ref a25, .ref a26])) = G6 at x6 f6 ⊢
    have t26 := Same.trans s26 x6
    have t25 := Same.trans s25 t26
    have t24 := Same.trans s24 t25
    have t23 := Same.trans s23 t24
    have g6 : EiL C _ va vb 0 (X5 ++ [.ref a23, .ref a24, .ref a25, .ref a26]) := EiL.app (g5.same t23) (by rw [z5]; exact ⟨ei_mk rfl rfl (e23.same t24), ei_mk rfl rfl (e24.same t25), ei_mk rfl rfl (e25.same t26), ei_mk rfl rfl (e26.same x6), True.intro⟩)
    have y6 := y5.trans t23
    have z6 : (X5 ++ [.ref a23, .ref a24, .ref a25, .ref a26] : List V).length = 27 := by rw [List.length_append, z5]; rfl
    generalize (X5 ++ [.ref a23, .ref a24, .ref a25, .ref a26] : List V) = X6 at f6 g6 z6
    clear t23 t24 t25 t26
    refine ⟨_, rfl, ⟨_, rfl, fun a27 H27 s27 n27 e27 => ⟨_, rfl, fun a28 H28 s28 n28 e28 => ⟨_, rfl, fun a29 H29 s29 n29 e29 => ⟨_, rfl, fun a30 H30 s30 n30 e30 => fun a31 n31 => ⟨Nat.le_of_ble_eq_true rfl, fun l7 m7 => ⟨p6, l7, X6, _, rfl, rfl, ?_, upd_same, ?_, fun p7 q7 => ?_⟩⟩⟩⟩⟩⟩⟩
    · exact (Same.trans s27 (Same.trans s28 (Same.trans s29 (Same.trans s30 (Same.trans (same_new n31) (same_new m7)))))) _ _ f6
    · rw [z6]; exact Nat.le_of_ble_eq_true rfl
    have x7 := Same.trans (same_new (H := (upd H30 a31 (exo a31 (C 31) none))) (o := .lst [.ref a27, .ref a28, .ref a29, .ref a30, .ref a31]) m7) (same_new (o := .lst (X6 ++ [.ref a27, .ref a28, .ref a29, .ref a30, .ref a31])) q7)
    have f7 := upd_same (H := upd (upd H30 a31 (exo a31 (C 31) none)) l7 (.lst [.ref a27, .ref a28, .ref a29, .ref a30, .ref a31])) (a := p7) (o := .lst (X6 ++ [.ref a27, .ref a28, .ref a29, .ref a30, .ref a31]))
    generalize upd (upd (upd H30 a31 (exo a31 (C 31) none)) l7 (.lst [.ref a27, .ref a28, .ref a29, .ref a30, .ref a31])) p7 (.lst (X6 ++ [.ref a27, .ref a28, .ref a29, .ref a30, .ref a31])) = G7 at x7 f7 ⊢
    have t31 := Same.trans (same_new n31) x7
    have t30 := Same.trans s30 t31
    have t29 := Same.trans s29 t30
    have t28 := Same.trans s28 t29
    have t27 := Same.trans s27 t28
    have g7 : EiL C _ va vb 0 (X6 ++ [.ref a27, .ref a28, .ref a29, .ref a30, .ref a31]) := EiL.app (g6.same t27) (by rw [z6]; exact ⟨ei_mk rfl rfl (e27.same t28), ei_mk rfl rfl (e28.same t29), ei_mk rfl rfl (e29.same t30), ei_mk rfl rfl (e30.same t31), ei_un (x7 _ _ upd_same), True.intro⟩)
    have y7 := y6.trans t27
    have z7 : (X6 ++ [.ref a27, .ref a28, .ref a29, .ref a30, .ref a31] : List V).length = 32 := by rw [List.length_append, z6]; rfl
    generalize (X6 ++ [.ref a27, .ref a28, .ref a29, .ref a30, .ref a31] : List V) = X7 at f7 g7 z7
    clear t27 t28 t29 t30 t31
    refine ⟨_, rfl, ⟨_, rfl, fun a32 H32 s32 n32 e32 => ⟨Nat.le_of_ble_eq_true rfl, fun l8 m8 => ⟨p7, l8, X7, _, rfl, rfl, ?_, upd_same, ?_, fun p8 q8 => ?_⟩⟩⟩⟩
    · exact (Same.trans s32 (same_new m8)) _ _ f7
    · rw [z7]; exact Nat.le_of_ble_eq_true rfl
    have x8 := Same.trans (same_new (H := H32) (o := .lst [.ref a32]) m8) (same_new (o := .lst (X7 ++ [.ref a32])) q8)
    have f8 := upd_same (H := upd H32 l8 (.lst [.ref a32])) (a := p8) (o := .lst (X7 ++ [.ref a32]))
    generalize upd (upd H32 l8 (.lst [.ref a32])) p8 (.lst (X7 ++ [.ref a32])) = G8 at x8 f8 ⊢
    have t32 := Same.trans s32 x8
    have g8 : EiL C _ va vb 0 (X7 ++ [.ref a32]) := EiL.app (g7.same t32) (by rw [z7]; exact ⟨ei_mk rfl rfl (e32.same x8), True.intro⟩)
    have y8 := y7.trans t32
    have z8 : (X7 ++ [.ref a32] : List V).length = 33 := by rw [List.length_append, z7]; rfl
    generalize (X7 ++ [.ref a32] : List V) = X8 at f8 g8 z8
    clear t32
    exact q _ _ _ y8 f8 z8 g8
end
end L2.K1
set_option Elab.async false
set_option linter.all false
set_option maxRecDepth 100000
set_option maxHeartbeats 8000000
namespace L2.K1
open PySem PySem.Spec PyProof.Rows L2.Tb
abbrev s_sorts : Stmt := top 61
abbrev N_sorts : List Str := ["_law_e", "_law_found"]
theorem sc_sorts : FnScope N_sorts ["_law_e"] (defScope s_sorts) := ⟨rfl, rfl, rfl, by decide +kernel, rfl, by decide +kernel, by decide +kernel⟩
abbrev s_kept : Stmt := top 62
abbrev N_kept : List Str := ["_law_e", "_law_k"]
theorem sc_kept : FnScope N_kept ["_law_e", "_law_k"] (defScope s_kept) := ⟨rfl, rfl, rfl, by decide +kernel, rfl, by decide +kernel, by decide +kernel⟩
/-- at a: the i-th error's object, with or without a dict -/
structure ErO (C : Nat → Addr) (H : Hp) (i : Nat) (a : Addr) : Prop where
  ex : ∃ od, H a = some (exo a (C i) od) ∧ ∀ d, od = some d → ∃ fs, H d = some (exd d fs)
section
variable {C : Nat → Addr} {H H' : Hp} {va vb : V} {i : Nat} {a : Addr}
theorem ErO.same (h : ErO C H i a) (s : Same H H') : ErO C H' i a := by
  obtain ⟨od, h1, h2⟩ := h.ex
  exact ⟨od, s _ _ h1, fun d e => let ⟨fs, q⟩ := h2 d e; ⟨fs, s _ _ q⟩⟩
theorem Ei.ob {x : V} (h : Ei C H va vb i x) : ∃ a, x = .ref a ∧ ErO C H i a := by
  obtain ⟨a, e, h⟩ := h
  refine ⟨a, e, ?_⟩
  cases z : Nat.beq i 31 with
  | true =>
    rw [z] at h
    rw [Nat.eq_of_beq_eq_true z]
    exact ⟨none, h, fun d e => by cases e⟩
  | false =>
    rw [z] at h
    obtain ⟨dx, h1, h2⟩ := h
    exact ⟨some dx, h1, fun d e => by cases e; exact ⟨_, h2⟩⟩
end
def sortsV (i : Nat) : List V := (List.range 33).map fun j => .bl (decide (j = i))
def spSorts (C : Nat → Addr) : Sp := fun vs H Q _ => ∃ (a : Addr) (i : Nat), vs = [.ref a] ∧ i < 33 ∧ ErO C H i a ∧ ∀ (l : Addr) (H' : Hp), Same H H' → H' l = some (.lst (sortsV i)) → Q (.ref l) H'
def spKept (C : Nat → Addr) : Sp := fun vs H Q _ => ∃ (a : Addr) (i : Nat) (v : V), vs = [.ref a, .int (i : Int)] ∧ i < 33 ∧ i ≠ 31 ∧ ErAt H a (C i) (fls.getD i "") v ∧ Q v H
theorem fls_g : ∀ i, i < 33 → (i < 16 ∨ i = 26 ∨ i = 30) → fls.getD i "" = "given" := by decide +kernel
theorem fls_l : fls.getD 28 "" = "limit" := by decide +kernel
theorem fls_i : ∀ i, i < 33 → ¬ (i < 16 ∨ i = 26 ∨ i = 30) → i ≠ 28 → i ≠ 31 → fls.getD i "" = "index" := by decide +kernel
theorem one_look (f : Str) (v : V) : ([(f, v)] : List (Str × V)).lookup f = some v := by simp [List.lookup]
section
variable {P : Program} {w : World} {K : PySem.W.Frag} {mg : Str → Option Value} {base : Heap} {f : Addr} {fd : FuncData} {C : Nat → Addr}
theorem c_sorts (B : Bt mg) (E0 : Ers P w K mg base C) (F : FnP K "_law_sorts" s_sorts f fd) (hm : mg "_law_sorts" = some (.ref f)) : Cal P w K mg base 1 "_law_sorts" (spSorts C) := by
  have hnd := sc_sorts.nd
  refine cal_mk F hm sc_sorts (fun _ _ _ _ _ _ us hl => match us, hl with | [_], _ => rfl) (fun vs H Q E h => ?_) (fun cdv A outer s H vs Q E hr h => ?_)
  · obtain ⟨a, i, rfl, _⟩ := h
    rfl
  · obtain ⟨a, i, rfl, hi, ho, q⟩ := h
    obtain ⟨b, ec⟩ := E0.ec i hi
    refine ⟨_, (pss_cons (ps_set (i := 1) hnd rfl (by first | exact Or.inl rfl | exact Or.inr rfl) (pe_lst (pa_cons (pe_callB call_isX (by rfl) B.m_isinstance (by decide +kernel) (pa_cons (pv 0) (pa_cons (pe_glob (v := .ref (C 0)) (by rfl) E0.r0.mgC rfl) pa_nil))) (pa_cons (pe_callB call_isX (by rfl) B.m_isinstance (by decide +kernel) (pa_cons (pv 0) (pa_cons (pe_glob (v := .ref (C 1)) (by rfl) E0.r1.mgC rfl) pa_nil))) (pa_cons (pe_callB call_isX (by rfl) B.m_isinstance (by decide +kernel) (pa_cons (pv 0) (pa_cons (pe_glob (v := .ref (C 2)) (by rfl) E0.r2.mgC rfl) pa_nil))) pa_nil)))))
      (pss_cons (ps_set (i := 1) hnd rfl (by first | exact Or.inl rfl | exact Or.inr rfl) (pe_op op_cat (pv 1) (pe_lst (pa_cons (pe_callB call_isX (by rfl) B.m_isinstance (by decide +kernel) (pa_cons (pv 0) (pa_cons (pe_glob (v := .ref (C 3)) (by rfl) E0.r3.mgC rfl) pa_nil))) (pa_cons (pe_callB call_isX (by rfl) B.m_isinstance (by decide +kernel) (pa_cons (pv 0) (pa_cons (pe_glob (v := .ref (C 4)) (by rfl) E0.r4.mgC rfl) pa_nil))) (pa_cons (pe_callB call_isX (by rfl) B.m_isinstance (by decide +kernel) (pa_cons (pv 0) (pa_cons (pe_glob (v := .ref (C 5)) (by rfl) E0.r5.mgC rfl) pa_nil))) pa_nil))))))
      (pss_cons (ps_set (i := 1) hnd rfl (by first | exact Or.inl rfl | exact Or.inr rfl) (pe_op op_cat (pv 1) (pe_lst (pa_cons (pe_callB call_isX (by rfl) B.m_isinstance (by decide +kernel) (pa_cons (pv 0) (pa_cons (pe_glob (v := .ref (C 6)) (by rfl) E0.r6.mgC rfl) pa_nil))) (pa_cons (pe_callB call_isX (by rfl) B.m_isinstance (by decide +kernel) (pa_cons (pv 0) (pa_cons (pe_glob (v := .ref (C 7)) (by rfl) E0.r7.mgC rfl) pa_nil))) (pa_cons (pe_callB call_isX (by rfl) B.m_isinstance (by decide +kernel) (pa_cons (pv 0) (pa_cons (pe_glob (v := .ref (C 8)) (by rfl) E0.r8.mgC rfl) pa_nil))) pa_nil))))))
      (pss_cons (ps_set (i := 1) hnd rfl (by first | exact Or.inl rfl | exact Or.inr rfl) (pe_op op_cat (pv 1) (pe_lst (pa_cons (pe_callB call_isX (by rfl) B.m_isinstance (by decide +kernel) (pa_cons (pv 0) (pa_cons (pe_glob (v := .ref (C 9)) (by rfl) E0.r9.mgC rfl) pa_nil))) (pa_cons (pe_callB call_isX (by rfl) B.m_isinstance (by decide +kernel) (pa_cons (pv 0) (pa_cons (pe_glob (v := .ref (C 10)) (by rfl) E0.r10.mgC rfl) pa_nil))) (pa_cons (pe_callB call_isX (by rfl) B.m_isinstance (by decide +kernel) (pa_cons (pv 0) (pa_cons (pe_glob (v := .ref (C 11)) (by rfl) E0.r11.mgC rfl) pa_nil))) pa_nil))))))
      (pss_cons (ps_set (i := 1) hnd rfl (by first | exact Or.inl rfl | exact Or.inr rfl) (pe_op op_cat (pv 1) (pe_lst (pa_cons (pe_callB call_isX (by rfl) B.m_isinstance (by decide +kernel) (pa_cons (pv 0) (pa_cons (pe_glob (v := .ref (C 12)) (by rfl) E0.r12.mgC rfl) pa_nil))) (pa_cons (pe_callB call_isX (by rfl) B.m_isinstance (by decide +kernel) (pa_cons (pv 0) (pa_cons (pe_glob (v := .ref (C 13)) (by rfl) E0.r13.mgC rfl) pa_nil))) (pa_cons (pe_callB call_isX (by rfl) B.m_isinstance (by decide +kernel) (pa_cons (pv 0) (pa_cons (pe_glob (v := .ref (C 14)) (by rfl) E0.r14.mgC rfl) pa_nil))) pa_nil))))))
      (pss_cons (ps_set (i := 1) hnd rfl (by first | exact Or.inl rfl | exact Or.inr rfl) (pe_op op_cat (pv 1) (pe_lst (pa_cons (pe_callB call_isX (by rfl) B.m_isinstance (by decide +kernel) (pa_cons (pv 0) (pa_cons (pe_glob (v := .ref (C 15)) (by rfl) E0.r15.mgC rfl) pa_nil))) (pa_cons (pe_callB call_isX (by rfl) B.m_isinstance (by decide +kernel) (pa_cons (pv 0) (pa_cons (pe_glob (v := .ref (C 16)) (by rfl) E0.r16.mgC rfl) pa_nil))) (pa_cons (pe_callB call_isX (by rfl) B.m_isinstance (by decide +kernel) (pa_cons (pv 0) (pa_cons (pe_glob (v := .ref (C 17)) (by rfl) E0.r17.mgC rfl) pa_nil))) pa_nil))))))
      (pss_cons (ps_set (i := 1) hnd rfl (by first | exact Or.inl rfl | exact Or.inr rfl) (pe_op op_cat (pv 1) (pe_lst (pa_cons (pe_callB call_isX (by rfl) B.m_isinstance (by decide +kernel) (pa_cons (pv 0) (pa_cons (pe_glob (v := .ref (C 18)) (by rfl) E0.r18.mgC rfl) pa_nil))) (pa_cons (pe_callB call_isX (by rfl) B.m_isinstance (by decide +kernel) (pa_cons (pv 0) (pa_cons (pe_glob (v := .ref (C 19)) (by rfl) E0.r19.mgC rfl) pa_nil))) (pa_cons (pe_callB call_isX (by rfl) B.m_isinstance (by decide +kernel) (pa_cons (pv 0) (pa_cons (pe_glob (v := .ref (C 20)) (by rfl) E0.r20.mgC rfl) pa_nil))) pa_nil))))))
      (pss_cons (ps_set (i := 1) hnd rfl (by first | exact Or.inl rfl | exact Or.inr rfl) (pe_op op_cat (pv 1) (pe_lst (pa_cons (pe_callB call_isX (by rfl) B.m_isinstance (by decide +kernel) (pa_cons (pv 0) (pa_cons (pe_glob (v := .ref (C 21)) (by rfl) E0.r21.mgC rfl) pa_nil))) (pa_cons (pe_callB call_isX (by rfl) B.m_isinstance (by decide +kernel) (pa_cons (pv 0) (pa_cons (pe_glob (v := .ref (C 22)) (by rfl) E0.r22.mgC rfl) pa_nil))) (pa_cons (pe_callB call_isX (by rfl) B.m_isinstance (by decide +kernel) (pa_cons (pv 0) (pa_cons (pe_glob (v := .ref (C 23)) (by rfl) E0.r23.mgC rfl) pa_nil))) pa_nil))))))
      (pss_cons (ps_set (i := 1) hnd rfl (by first | exact Or.inl rfl | exact Or.inr rfl) (pe_op op_cat (pv 1) (pe_lst (pa_cons (pe_callB call_isX (by rfl) B.m_isinstance (by decide +kernel) (pa_cons (pv 0) (pa_cons (pe_glob (v := .ref (C 24)) (by rfl) E0.r24.mgC rfl) pa_nil))) (pa_cons (pe_callB call_isX (by rfl) B.m_isinstance (by decide +kernel) (pa_cons (pv 0) (pa_cons (pe_glob (v := .ref (C 25)) (by rfl) E0.r25.mgC rfl) pa_nil))) (pa_cons (pe_callB call_isX (by rfl) B.m_isinstance (by decide +kernel) (pa_cons (pv 0) (pa_cons (pe_glob (v := .ref (C 26)) (by rfl) E0.r26.mgC rfl) pa_nil))) pa_nil))))))
      (pss_cons (ps_set (i := 1) hnd rfl (by first | exact Or.inl rfl | exact Or.inr rfl) (pe_op op_cat (pv 1) (pe_lst (pa_cons (pe_callB call_isX (by rfl) B.m_isinstance (by decide +kernel) (pa_cons (pv 0) (pa_cons (pe_glob (v := .ref (C 27)) (by rfl) E0.r27.mgC rfl) pa_nil))) (pa_cons (pe_callB call_isX (by rfl) B.m_isinstance (by decide +kernel) (pa_cons (pv 0) (pa_cons (pe_glob (v := .ref (C 28)) (by rfl) E0.r28.mgC rfl) pa_nil))) (pa_cons (pe_callB call_isX (by rfl) B.m_isinstance (by decide +kernel) (pa_cons (pv 0) (pa_cons (pe_glob (v := .ref (C 29)) (by rfl) E0.r29.mgC rfl) pa_nil))) (pa_cons (pe_callB call_isX (by rfl) B.m_isinstance (by decide +kernel) (pa_cons (pv 0) (pa_cons (pe_glob (v := .ref (C 30)) (by rfl) E0.r30.mgC rfl) pa_nil))) pa_nil)))))))
      (pss_one (ps_ret (pe_op op_cat (pv 1) (pe_lst (pa_cons (pe_callB call_isX (by rfl) B.m_isinstance (by decide +kernel) (pa_cons (pv 0) (pa_cons (pe_glob (v := .ref (C 31)) (by rfl) E0.un.1 rfl) pa_nil))) (pa_cons (pe_callB call_isX (by rfl) B.m_isinstance (by decide +kernel) (pa_cons (pv 0) (pa_cons (pe_glob (v := .ref (C 32)) (by rfl) E0.r32.mgC rfl) pa_nil))) pa_nil)))))))))))))))), ?_⟩
    obtain ⟨od0, o0, d0⟩ := ho.ex
    refine ⟨_, rfl, a, C i, od0, _, _, b, _, rfl, .own _, o0, d0, ec, E0.kit i 0 hi (by decide), ⟨_, rfl, a, C i, od0, _, _, b, _, rfl, .own _, o0, d0, ec, E0.kit i 1 hi (by decide), ⟨_, rfl, a, C i, od0, _, _, b, _, rfl, .own _, o0, d0, ec, E0.kit i 2 hi (by decide), ⟨Nat.le_of_ble_eq_true rfl, fun l0 m0 => ?_⟩⟩⟩⟩
    have y0 := same_new (H := H) (o := .lst [.bl (decide (0 = i)), .bl (decide (1 = i)), .bl (decide (2 = i))]) m0
    have f0 := upd_same (H := H) (a := l0) (o := .lst [.bl (decide (0 = i)), .bl (decide (1 = i)), .bl (decide (2 = i))])
    generalize upd H l0 (.lst [.bl (decide (0 = i)), .bl (decide (1 = i)), .bl (decide (2 = i))]) = G0 at y0 f0 ⊢
    generalize hX0 : ([.bl (decide (0 = i)), .bl (decide (1 = i)), .bl (decide (2 = i))] : List V) = X0 at f0
    obtain ⟨od1, o1, d1⟩ := (ho.same y0).ex
    refine ⟨_, rfl, ⟨_, rfl, a, C i, od1, _, _, b, _, rfl, .own _, o1, d1, ec, E0.kit i 3 hi (by decide), ⟨_, rfl, a, C i, od1, _, _, b, _, rfl, .own _, o1, d1, ec, E0.kit i 4 hi (by decide), ⟨_, rfl, a, C i, od1, _, _, b, _, rfl, .own _, o1, d1, ec, E0.kit i 5 hi (by decide), ⟨Nat.le_of_ble_eq_true rfl, fun l1 m1 => ⟨l0, l1, X0, _, rfl, rfl, same_new m1 _ _ f0, upd_same, ?_, fun p1 q1 => ?_⟩⟩⟩⟩⟩⟩
    · rw [← hX0]; exact Nat.le_of_ble_eq_true rfl
    have y1 := y0.trans ((same_new (o := .lst [.bl (decide (3 = i)), .bl (decide (4 = i)), .bl (decide (5 = i))]) m1).trans (same_new (o := .lst (X0 ++ [.bl (decide (3 = i)), .bl (decide (4 = i)), .bl (decide (5 = i))])) q1))
    have f1 := upd_same (H := upd G0 l1 (.lst [.bl (decide (3 = i)), .bl (decide (4 = i)), .bl (decide (5 = i))])) (a := p1) (o := .lst (X0 ++ [.bl (decide (3 = i)), .bl (decide (4 = i)), .bl (decide (5 = i))]))
    generalize upd (upd G0 l1 (.lst [.bl (decide (3 = i)), .bl (decide (4 = i)), .bl (decide (5 = i))])) p1 (.lst (X0 ++ [.bl (decide (3 = i)), .bl (decide (4 = i)), .bl (decide (5 = i))])) = G1 at y1 f1 ⊢
    generalize hX1 : X0 ++ [.bl (decide (3 = i)), .bl (decide (4 = i)), .bl (decide (5 = i))] = X1 at f1
    obtain ⟨od2, o2, d2⟩ := (ho.same y1).ex
    refine ⟨_, rfl, ⟨_, rfl, a, C i, od2, _, _, b, _, rfl, .own _, o2, d2, ec, E0.kit i 6 hi (by decide), ⟨_, rfl, a, C i, od2, _, _, b, _, rfl, .own _, o2, d2, ec, E0.kit i 7 hi (by decide), ⟨_, rfl, a, C i, od2, _, _, b, _, rfl, .own _, o2, d2, ec, E0.kit i 8 hi (by decide), ⟨Nat.le_of_ble_eq_true rfl, fun l2 m2 => ⟨p1, l2, X1, _, rfl, rfl, same_new m2 _ _ f1, upd_same, ?_, fun p2 q2 => ?_⟩⟩⟩⟩⟩⟩
    · rw [← hX1];  rw [← hX0]; exact Nat.le_of_ble_eq_true rfl
    have y2 := y1.trans ((same_new (o := .lst [.bl (decide (6 = i)), .bl (decide (7 = i)), .bl (decide (8 = i))]) m2).trans (same_new (o := .lst (X1 ++ [.bl (decide (6 = i)), .bl (decide (7 = i)), .bl (decide (8 = i))])) q2))
    have f2 := upd_same (H := upd G1 l2 (.lst [.bl (decide (6 = i)), .bl (decide (7 = i)), .bl (decide (8 = i))])) (a := p2) (o := .lst (X1 ++ [.bl (decide (6 = i)), .bl (decide (7 = i)), .bl (decide (8 = i))]))
    generalize upd (upd G1 l2 (.lst [.bl (decide (6 = i)), .bl (decide (7 = i)), .bl (decide (8 = i))])) p2 (.lst (X1 ++ [.bl (decide (6 = i)), .bl (decide (7 = i)), .bl (decide (8 = i))])) = G2 at y2 f2 ⊢
    generalize hX2 : X1 ++ [.bl (decide (6 = i)), .bl (decide (7 = i)), .bl (decide (8 = i))] = X2 at f2
    obtain ⟨od3, o3, d3⟩ := (ho.same y2).ex
    refine ⟨_, rfl, ⟨_, rfl, a, C i, od3, _, _, b, _, rfl, .own _, o3, d3, ec, E0.kit i 9 hi (by decide), ⟨_, rfl, a, C i, od3, _, _, b, _, rfl, .own _, o3, d3, ec, E0.kit i 10 hi (by decide), ⟨_, rfl, a, C i, od3, _, _, b, _, rfl, .own _, o3, d3, ec, E0.kit i 11 hi (by decide), ⟨Nat.le_of_ble_eq_true rfl, fun l3 m3 => ⟨p2, l3, X2, _, rfl, rfl, same_new m3 _ _ f2, upd_same, ?_, fun p3 q3 => ?_⟩⟩⟩⟩⟩⟩
    · rw [← hX2];  rw [← hX1];  rw [← hX0]; exact Nat.le_of_ble_eq_true rfl
    have y3 := y2.trans ((same_new (o := .lst [.bl (decide (9 = i)), .bl (decide (10 = i)), .bl (decide (11 = i))]) m3).trans (same_new (o := .lst (X2 ++ [.bl (decide (9 = i)), .bl (decide (10 = i)), .bl (decide (11 = i))])) q3))
    have f3 := upd_same (H := upd G2 l3 (.lst [.bl (decide (9 = i)), .bl (decide (10 = i)), .bl (decide (11 = i))])) (a := p3) (o := .lst (X2 ++ [.bl (decide (9 = i)), .bl (decide (10 = i)), .bl (decide (11 = i))]))
    generalize upd (upd G2 l3 (.lst [.bl (decide (9 = i)), .bl (decide (10 = i)), .bl (decide (11 = i))])) p3 (.lst (X2 ++ [.bl (decide (9 = i)), .bl (decide (10 = i)), .bl (decide (11 = i))])) = G3 at y3 f3 ⊢
    generalize hX3 : X2 ++ [.bl (decide (9 = i)), .bl (decide (10 = i)), .bl (decide (11 = i))] = X3 at f3
    obtain ⟨od4, o4, d4⟩ := (ho.same y3).ex
    refine ⟨_, rfl, ⟨_, rfl, a, C i, od4, _, _, b, _, rfl, .own _, o4, d4, ec, E0.kit i 12 hi (by decide), ⟨_, rfl, a, C i, od4, _, _, b, _, rfl, .own _, o4, d4, ec, E0.kit i 13 hi (by decide), ⟨_, rfl, a, C i, od4, _, _, b, _, rfl, .own _, o4, d4, ec, E0.kit i 14 hi (by decide), ⟨Nat.le_of_ble_eq_true rfl, fun l4 m4 => ⟨p3, l4, X3, _, rfl, rfl, same_new m4 _ _ f3, upd_same, ?_, fun p4 q4 => ?_⟩⟩⟩⟩⟩⟩
    · rw [← hX3];  rw [← hX2];  rw [← hX1];  rw [← hX0]; exact Nat.le_of_ble_eq_true rfl
    have y4 := y3.trans ((same_new (o := .lst [.bl (decide (12 = i)), .bl (decide (13 = i)), .bl (decide (14 = i))]) m4).trans (same_new (o := .lst (X3 ++ [.bl (decide (12 = i)), .bl (decide (13 = i)), .bl (decide (14 = i))])) q4))
    have f4 := upd_same (H := upd G3 l4 (.lst [.bl (decide (12 = i)), .bl (decide (13 = i)), .bl (decide (14 = i))])) (a := p4) (o := .lst (X3 ++ [.bl (decide (12 = i)), .bl (decide (13 = i)), .bl (decide (14 = i))]))
    generalize upd (upd G3 l4 (.lst [.bl (decide (12 = i)), .bl (decide (13 = i)), .bl (decide (14 = i))])) p4 (.lst (X3 ++ [.bl (decide (12 = i)), .bl (decide (13 = i)), .bl (decide (14 = i))])) = G4 at y4 f4 ⊢
    generalize hX4 : X3 ++ [.bl (decide (12 = i)), .bl (decide (13 = i)), .bl (decide (14 = i))] = X4 at f4
    obtain ⟨od5, o5, d5⟩ := (ho.same y4).ex
    refine ⟨_, rfl, ⟨_, rfl, a, C i, od5, _, _, b, _, rfl, .own _, o5, d5, ec, E0.kit i 15 hi (by decide), ⟨_, rfl, a, C i, od5, _, _, b, _, rfl, .own _, o5, d5, ec, E0.kit i 16 hi (by decide), ⟨_, rfl, a, C i, od5, _, _, b, _, rfl, .own _, o5, d5, ec, E0.kit i 17 hi (by decide), ⟨Nat.le_of_ble_eq_true rfl, fun l5 m5 => ⟨p4, l5, X4, _, rfl, rfl, same_new m5 _ _ f4, upd_same, ?_, fun p5 q5 => ?_⟩⟩⟩⟩⟩⟩
    · rw [← hX4];  rw [← hX3];  rw [← hX2];  rw [← hX1];  rw [← hX0]; exact Nat.le_of_ble_eq_true rfl
    have y5 := y4.trans ((same_new (o := .lst [.bl (decide (15 = i)), .bl (decide (16 = i)), .bl (decide (17 = i))]) m5).trans (same_new (o := .lst (X4 ++ [.bl (decide (15 = i)), .bl (decide (16 = i)), .bl (decide (17 = i))])) q5))
    have f5 := upd_same (H := upd G4 l5 (.lst [.bl (decide (15 = i)), .bl (decide (16 = i)), .bl (decide (17 = i))])) (a := p5) (o := .lst (X4 ++ [.bl (decide (15 = i)), .bl (decide (16 = i)), .bl (decide (17 = i))]))
    generalize upd (upd G4 l5 (.lst [.bl (decide (15 = i)), .bl (decide (16 = i)), .bl (decide (17 = i))])) p5 (.lst (X4 ++ [.bl (decide (15 = i)), .bl (decide (16 = i)), .bl (decide (17 = i))])) = G5 at y5 f5 ⊢
    generalize hX5 : X4 ++ [.bl (decide (15 = i)), .bl (decide (16 = i)), .bl (decide (17 = i))] = X5 at f5
    obtain ⟨od6, o6, d6⟩ := (ho.same y5).ex
    refine ⟨_, rfl, ⟨_, rfl, a, C i, od6, _, _, b, _, rfl, .own _, o6, d6, ec, E0.kit i 18 hi (by decide), ⟨_, rfl, a, C i, od6, _, _, b, _, rfl, .own _, o6, d6, ec, E0.kit i 19 hi (by decide), ⟨_, rfl, a, C i, od6, _, _, b, _, rfl, .own _, o6, d6, ec, E0.kit i 20 hi (by decide), ⟨Nat.le_of_ble_eq_true rfl, fun l6 m6 => ⟨p5, l6, X5, _, rfl, rfl, same_new m6 _ _ f5, upd_same, ?_, fun p6 q6 => ?_⟩⟩⟩⟩⟩⟩
    · rw [← hX5];  rw [← hX4];  rw [← hX3];  rw [← hX2];  rw [← hX1];  rw [← hX0]; exact Nat.le_of_ble_eq_true rfl
    have y6 := y5.trans ((same_new (o := .lst [.bl (decide (18 = i)), .bl (decide (19 = i)), .bl (decide (20 = i))]) m6).trans (same_new (o := .lst (X5 ++ [.bl (decide (18 = i)), .bl (decide (19 = i)), .bl (decide (20 = i))])) q6))
    have f6 := upd_same (H := upd G5 l6 (.lst [.bl (decide (18 = i)), .bl (decide (19 = i)), .bl (decide (20 = i))])) (a := p6) (o := .lst (X5 ++ [.bl (decide (18 = i)), .bl (decide (19 = i)), .bl (decide (20 = i))]))
    generalize upd (upd G5 l6 (.lst [.bl (decide (18 = i)), .bl (decide (19 = i)), .bl (decide (20 = i))])) p6 (.lst (X5 ++ [.bl (decide (18 = i)), .bl (decide (19 = i)), .bl (decide (20 = i))])) = G6 at y6 f6 ⊢
    generalize hX6 : X5 ++ [.bl (decide (18 = i)), .bl (decide (19 = i)), .bl (decide (20 = i))] = X6 at f6
    obtain ⟨od7, o7, d7⟩ := (ho.same y6).ex
    refine ⟨_, rfl, ⟨_, rfl, a, C i, od7, _, _, b, _, rfl, .own _, o7, d7, ec, E0.kit i 21 hi (by decide), ⟨_, rfl, a, C i, od7, _, _, b, _, rfl, .own _, o7, d7, ec, E0.kit i 22 hi (by decide), ⟨_, rfl, a, C i, od7, _, _, b, _, rfl, .own _, o7, d7, ec, E0.kit i 23 hi (by decide), ⟨Nat.le_of_ble_eq_true rfl, fun l7 m7 => ⟨p6, l7, X6, _, rfl, rfl, same_new m7 _ _ f6, upd_same, ?_, fun p7 q7 => ?_⟩⟩⟩⟩⟩⟩
    · rw [← hX6];  rw [← hX5];  rw [← hX4];  rw [← hX3];  rw [← hX2];  rw [← hX1];  rw [← hX0]; exact Nat.le_of_ble_eq_true rfl
    have y7 := y6.trans ((same_new (o := .lst [.bl (decide (21 = i)), .bl (decide (22 = i)), .bl (decide (23 = i))]) m7).trans (same_new (o := .lst (X6 ++ [.bl (decide (21 = i)), .bl (decide (22 = i)), .bl (decide (23 = i))])) q7))
    have f7 := upd_same (H := upd G6 l7 (.lst [.bl (decide (21 = i)), .bl (decide (22 = i)), .bl (decide (23 = i))])) (a := p7) (o := .lst (X6 ++ [.bl (decide (21 = i)), .bl (decide (22 = i)), .bl (decide (23 = i))]))
    generalize upd (upd G6 l7 (.lst [.bl (decide (21 = i)), .bl (decide (22 = i)), .bl (decide (23 = i))])) p7 (.lst (X6 ++ [.bl (decide (21 = i)), .bl (decide (22 = i)), .bl (decide (23 = i))])) = G7 at y7 f7 ⊢
    generalize hX7 : X6 ++ [.bl (decide (21 = i)), .bl (decide (22 = i)), .bl (decide (23 = i))] = X7 at f7
    obtain ⟨od8, o8, d8⟩ := (ho.same y7).ex
    refine ⟨_, rfl, ⟨_, rfl, a, C i, od8, _, _, b, _, rfl, .own _, o8, d8, ec, E0.kit i 24 hi (by decide), ⟨_, rfl, a, C i, od8, _, _, b, _, rfl, .own _, o8, d8, ec, E0.kit i 25 hi (by decide), ⟨_, rfl, a, C i, od8, _, _, b, _, rfl, .own _, o8, d8, ec, E0.kit i 26 hi (by decide), ⟨Nat.le_of_ble_eq_true rfl, fun l8 m8 => ⟨p7, l8, X7, _, rfl, rfl, same_new m8 _ _ f7, upd_same, ?_, fun p8 q8 => ?_⟩⟩⟩⟩⟩⟩
    · rw [← hX7];  rw [← hX6];  rw [← hX5];  rw [← hX4];  rw [← hX3];  rw [← hX2];  rw [← hX1];  rw [← hX0]; exact Nat.le_of_ble_eq_true rfl
    have y8 := y7.trans ((same_new (o := .lst [.bl (decide (24 = i)), .bl (decide (25 = i)), .bl (decide (26 = i))]) m8).trans (same_new (o := .lst (X7 ++ [.bl (decide (24 = i)), .bl (decide (25 = i)), .bl (decide (26 = i))])) q8))
    have f8 := upd_same (H := upd G7 l8 (.lst [.bl (decide (24 = i)), .bl (decide (25 = i)), .bl (decide (26 = i))])) (a := p8) (o := .lst (X7 ++ [.bl (decide (24 = i)), .bl (decide (25 = i)), .bl (decide (26 = i))]))
    generalize upd (upd G7 l8 (.lst [.bl (decide (24 = i)), .bl (decide (25 = i)), .bl (decide (26 = i))])) p8 (.lst (X7 ++ [.bl (decide (24 = i)), .bl (decide (25 = i)), .bl (decide (26 = i))])) = G8 at y8 f8 ⊢
    generalize hX8 : X7 ++ [.bl (decide (24 = i)), .bl (decide (25 = i)), .bl (decide (26 = i))] = X8 at f8
    obtain ⟨od9, o9, d9⟩ := (ho.same y8).ex
    refine ⟨_, rfl, ⟨_, rfl, a, C i, od9, _, _, b, _, rfl, .own _, o9, d9, ec, E0.kit i 27 hi (by decide), ⟨_, rfl, a, C i, od9, _, _, b, _, rfl, .own _, o9, d9, ec, E0.kit i 28 hi (by decide), ⟨_, rfl, a, C i, od9, _, _, b, _, rfl, .own _, o9, d9, ec, E0.kit i 29 hi (by decide), ⟨_, rfl, a, C i, od9, _, _, b, _, rfl, .own _, o9, d9, ec, E0.kit i 30 hi (by decide), ⟨Nat.le_of_ble_eq_true rfl, fun l9 m9 => ⟨p8, l9, X8, _, rfl, rfl, same_new m9 _ _ f8, upd_same, ?_, fun p9 q9 => ?_⟩⟩⟩⟩⟩⟩⟩
    · rw [← hX8];  rw [← hX7];  rw [← hX6];  rw [← hX5];  rw [← hX4];  rw [← hX3];  rw [← hX2];  rw [← hX1];  rw [← hX0]; exact Nat.le_of_ble_eq_true rfl
    have y9 := y8.trans ((same_new (o := .lst [.bl (decide (27 = i)), .bl (decide (28 = i)), .bl (decide (29 = i)), .bl (decide (30 = i))]) m9).trans (same_new (o := .lst (X8 ++ [.bl (decide (27 = i)), .bl (decide (28 = i)), .bl (decide (29 = i)), .bl (decide (30 = i))])) q9))
    have f9 := upd_same (H := upd G8 l9 (.lst [.bl (decide (27 = i)), .bl (decide (28 = i)), .bl (decide (29 = i)), .bl (decide (30 = i))])) (a := p9) (o := .lst (X8 ++ [.bl (decide (27 = i)), .bl (decide (28 = i)), .bl (decide (29 = i)), .bl (decide (30 = i))]))
    generalize upd (upd G8 l9 (.lst [.bl (decide (27 = i)), .bl (decide (28 = i)), .bl (decide (29 = i)), .bl (decide (30 = i))])) p9 (.lst (X8 ++ [.bl (decide (27 = i)), .bl (decide (28 = i)), .bl (decide (29 = i)), .bl (decide (30 = i))])) = G9 at y9 f9 ⊢
    generalize hX9 : X8 ++ [.bl (decide (27 = i)), .bl (decide (28 = i)), .bl (decide (29 = i)), .bl (decide (30 = i))] = X9 at f9
    obtain ⟨od10, o10, d10⟩ := (ho.same y9).ex
    refine ⟨_, rfl, ⟨_, rfl, a, C i, od10, _, _, b, _, rfl, .own _, o10, d10, ec, E0.kit i 31 hi (by decide), ⟨_, rfl, a, C i, od10, _, _, b, _, rfl, .own _, o10, d10, ec, E0.kit i 32 hi (by decide), ⟨Nat.le_of_ble_eq_true rfl, fun l10 m10 => ⟨p9, l10, X9, _, rfl, rfl, same_new m10 _ _ f9, upd_same, ?_, fun p10 q10 => ?_⟩⟩⟩⟩⟩
    · rw [← hX9];  rw [← hX8];  rw [← hX7];  rw [← hX6];  rw [← hX5];  rw [← hX4];  rw [← hX3];  rw [← hX2];  rw [← hX1];  rw [← hX0]; exact Nat.le_of_ble_eq_true rfl
    have y10 := y9.trans ((same_new (o := .lst [.bl (decide (31 = i)), .bl (decide (32 = i))]) m10).trans (same_new (o := .lst (X9 ++ [.bl (decide (31 = i)), .bl (decide (32 = i))])) q10))
    have f10 := upd_same (H := upd G9 l10 (.lst [.bl (decide (31 = i)), .bl (decide (32 = i))])) (a := p10) (o := .lst (X9 ++ [.bl (decide (31 = i)), .bl (decide (32 = i))]))
    generalize upd (upd G9 l10 (.lst [.bl (decide (31 = i)), .bl (decide (32 = i))])) p10 (.lst (X9 ++ [.bl (decide (31 = i)), .bl (decide (32 = i))])) = G10 at y10 f10 ⊢
    generalize hX10 : X9 ++ [.bl (decide (31 = i)), .bl (decide (32 = i))] = X10 at f10
    have hz : X10 = sortsV i := by
      rw [← hX10, ← hX9, ← hX8, ← hX7, ← hX6, ← hX5, ← hX4, ← hX3, ← hX2, ← hX1, ← hX0]; rfl
    rw [hz] at f10
    exact q _ _ y10 f10
theorem c_kept (E0 : Ers P w K mg base C) (F : FnP K "_law_kept" s_kept f fd) (hm : mg "_law_kept" = some (.ref f)) : Cal P w K mg base 1 "_law_kept" (spKept C) := by
  have hnd := sc_kept.nd
  refine cal_mk F hm sc_kept (fun _ _ _ _ _ _ us hl => match us, hl with | [_, _], _ => rfl) (fun vs H Q E h => ?_) (fun cdv A outer s H vs Q E hr h => ?_)
  · obtain ⟨a, i, v, rfl, _⟩ := h
    rfl
  · obtain ⟨a, i, v, rfl, hi, hne, ⟨dx, h1, h2⟩, q⟩ := h
    obtain ⟨b, ec⟩ := E0.ec i hi
    have hno := E0.no i hi hne
    refine ⟨_, (pss_cons (ps_if (PW.pt (pw_or (pt_cmpR op_lt (pv 1) pe_int (nomark _)) (pw_or (pt_cmpR op_eq (pv 1) pe_int (nomark _)) (pw_or1 (pt_cmpR op_eq (pv 1) pe_int (nomark _))))))
      (pss_one (ps_ret (pe_xv (pv 0))))
      pss_nil)
      (pss_one (ps_ret (pe_ifExp (pt_cmpR op_eq (pv 1) pe_int (nomark _)) (pe_xv (pv 0)) (pe_xv (pv 0)))))), ?_⟩
    have g1 : (i < 16 ∨ i = 26 ∨ i = 30) → tRet (tXv K "given" (tVar 0)) { nx := fun _ H' => Q .non H', rt := Q } (start N_kept [.ref a, .int (i : Int)]) H := fun hg => by
      have e := fls_g i hi hg
      rw [e] at h2 hno
      exact ⟨_, rfl, a, C i, dx, b, _, v, rfl, ec, hno, h1, h2, one_look _ _, q⟩
    refine ⟨_, rfl, _, _, rfl, rfl, _, rfl, ite2 (fun c1 => iteT (g1 (.inl ?_))) (fun c1 => ?_)⟩
    · have := of_decide_eq_true c1
      omega
    have n1 : ¬ i < 16 := fun z => c1 (decide_eq_true (by omega))
    refine ⟨_, rfl, rfl, _, rfl, ite2 (fun c2 => iteT (g1 (.inr (.inl ?_)))) (fun c2 => ?_)⟩
    · have z := of_decide_eq_true c2
      injection z with z
      omega
    have n2 : i ≠ 26 := fun z => c2 (decide_eq_true (by rw [z]; rfl))
    refine ⟨_, rfl, rfl, _, rfl, ite2 (fun c3 => g1 (.inr (.inr ?_))) (fun c3 => ?_)⟩
    · have z := of_decide_eq_true c3
      injection z with z
      omega
    have n3 : i ≠ 30 := fun z => c3 (decide_eq_true (by rw [z]; rfl))
    refine ⟨_, rfl, rfl, _, rfl, ite2 (fun c4 => ?_) (fun c4 => ?_)⟩
    · have z := of_decide_eq_true c4
      injection z with z
      have z2 : i = 28 := by omega
      subst z2
      rw [fls_l] at h2 hno
      exact ⟨_, rfl, a, C 28, dx, b, _, v, rfl, ec, hno, h1, h2, one_look _ _, q⟩
    · have n4 : i ≠ 28 := fun z => c4 (decide_eq_true (by rw [z]; rfl))
      have e := fls_i i hi (by omega) n4 hne
      rw [e] at h2 hno
      exact ⟨_, rfl, a, C i, dx, b, _, v, rfl, ec, hno, h1, h2, one_look _ _, q⟩
end
end L2.K1
set_option Elab.async false
set_option linter.all false
set_option maxRecDepth 100000
set_option maxHeartbeats 8000000
namespace L2.K1
open PySem PySem.Spec PyProof.Rows L2.Tb
abbrev s_error_right : Stmt := top 63
abbrev N_error_right : List Str := ["_law_e", "_law_k", "_law_a", "_law_b", "_law_j", "_law_bases", "_law_above", "_law_due", "_law_order"]
theorem sc_error_right : FnScope N_error_right ["_law_e", "_law_k", "_law_a", "_law_b"] (defScope s_error_right) := ⟨rfl, rfl, rfl, by decide +kernel, rfl, by decide +kernel, by decide +kernel⟩
def spErrR (C : Nat → Addr) : Sp := fun vs H Q _ => ∃ (x va vb : V) (i : Nat), vs = [x, .int (i : Int), va, vb] ∧ i < 33 ∧ Ei C H va vb i x ∧ Al H 3 va va ∧ Al H 3 vb vb ∧ ∀ H' : Hp, Same H H' → Q (.bl true) H'
theorem dp_map {K : PySem.W.Frag} {H : Hp} (g : Nat → Bool) : ∀ xs : List Nat, DpAll K H (xs.map fun j => V.bl (g j)) (xs.map fun j => PyData.bool (g j))
  | [] => .nil
  | x :: xs => .cons (.bl _) (dp_map g xs)
def sortsD (i : Nat) : PyData := .list ((List.range 33).map fun j => .bool (decide (j = i)))
theorem sorts_ok : ∀ i, i < 33 → SeqAt.shaped (sortsD i) = true ∧ PyData.eqv (sortsD i) (sortsD i) = true := by decide +kernel
def d3 (b1 b2 b3 : Bool) : PyData := .list [.bool b1, .bool b2, .bool b3]
theorem d3_ok : ∀ b1 b2 b3, SeqAt.shaped (d3 b1 b2 b3) = true ∧ PyData.eqv (d3 b1 b2 b3) (d3 b1 b2 b3) = true := by decide +kernel
theorem dp3 {K : PySem.W.Frag} {H : Hp} {a : Addr} {b1 b2 b3 : Bool} (h : H a = some (.lst [.bl b1, .bl b2, .bl b3])) : Dp K H (.ref a) (d3 b1 b2 b3) := .lst (SqL.of h) (.cons (.bl _) (.cons (.bl _) (.cons (.bl _) .nil)))
def ordL : List V := (List.replicate 13 [V.int 0, V.int 1]).flatten ++ [.int 0, .int 1, .int 0, .int 1, .int 0, .int 0, .int 0]
theorem ord_at {i : Nat} (hi : i < 33) : atI ordL (i : Int) = some (.int (cond (ordA.getD i false) 0 1)) := by
  refine atI_nat ?_
  have e : ordL = ordA.map fun b => V.int (cond b 0 1) := rfl
  rw [e, List.getElem?_map, List.getD_eq_getElem?_getD]
  have hl : i < ordA.length := hi
  rw [List.getElem?_eq_getElem hl]
  rfl
theorem same_put {H0 H : Hp} {D : Addr} {o : HO} (n : H0 D = none) (s : Same H0 H) : Same H0 (upd H D o) := fun b u e => by rw [upd_ne (ne_of_none e n)]; exact s _ _ e
theorem iteD {A B : Prop} (h : A) : if decide (V.int (cond true 0 1) = V.int 0) = true then A else B := by
  show if decide (V.int 0 = V.int 0) = true then A else B
  rw [if_pos (decide_eq_true rfl)]; exact h
theorem iteN {A B : Prop} (h : B) : if decide (V.int (cond false 0 1) = V.int 0) = true then A else B := by
  rw [if_neg (by decide +kernel)]; exact h
section
variable {P : Program} {w : World} {K : PySem.W.Frag} {mg : Str → Option Value} {base : Heap} {f : Addr} {fd : FuncData} {C : Nat → Addr}
theorem c_error_right (T : Bt mg) (E0 : Ers P w K mg base C) (F : FnP K "_law_error_right" s_error_right f fd) (hm : mg "_law_error_right" = some (.ref f)) (k_sorts : Cal P w K mg base 1 "_law_sorts" (spSorts C)) (k_kept : Cal P w K mg base 1 "_law_kept" (spKept C)) (k_alike : Cal P w K mg base 4 "_law_alike" (spAlike 3)) : Cal P w K mg base 5 "_law_error_right" (spErrR C) := by
  have hnd := sc_error_right.nd
  obtain ⟨C1, C2, C3, w1, w2, w3, kb⟩ := E0.own
  have B := T
  refine cal_mk F hm sc_error_right (fun _ _ _ _ _ _ us hl => match us, hl with | [_, _, _, _], _ => rfl) (fun vs H Q E h => ?_) (fun cdv A outer s H vs Q E hr h => ?_)
  · obtain ⟨x, va, vb, i, rfl, _⟩ := h
    rfl
  · obtain ⟨x, va, vb, i, rfl, hi, he, ala, alb, q⟩ := h
    obtain ⟨a, rfl, ho⟩ := he.ob
    obtain ⟨b, ec⟩ := E0.ec i hi
    obtain ⟨b1, b2, b3, p1, p2, p3, r1, r2, r3, g1, g2, g3, g4⟩ : ∃ b1 b2 b3 : Bool, PySem.W.kitOne K (.ref (C i)) (.ref C1) = some b1 ∧ PySem.W.kitOne K (.ref (C i)) (.ref C2) = some b2 ∧ PySem.W.kitOne K (.ref (C i)) (.ref C3) = some b3 ∧
        PySem.W.kitOne K (.ref (C i)) (.type "ValueError") = some b1 ∧ PySem.W.kitOne K (.ref (C i)) (.type "LookupError") = some b2 ∧ PySem.W.kitOne K (.ref (C i)) (.type "ArithmeticError") = some b3 ∧
        decide ((i : Int) < 26) = b1 ∧ (decide (25 < (i : Int)) = true → decide ((i : Int) < 28) = b2) ∧ (¬ decide (25 < (i : Int)) = true → b2 = false) ∧ decide (27 < (i : Int)) = b3 := by
      obtain ⟨h1, h2, h3⟩ := kb i hi
      obtain ⟨h4, h5, h6⟩ := E0.blt i hi
      refine ⟨_, _, _, h1, h2, h3, h4, h5, h6, ?_, fun c => ?_, fun c => ?_, ?_⟩
      · exact decide_eq_decide.mpr (by omega)
      · have := of_decide_eq_true c
        rw [decide_eq_true (show 25 < i by omega), Bool.true_and]
        exact decide_eq_decide.mpr (by omega)
      · rw [decide_eq_false (show ¬ 25 < i from fun z => c (decide_eq_true (by omega))), Bool.false_and]
      · exact decide_eq_decide.mpr (by omega)
    refine ⟨_, (pss_cons (ps_if (pt_cmpR (op_neD hr.units) (pe_cal k_sorts hr (by omega) (by rfl) (pa_cons (pv 0) pa_nil)) (pe_lc (own := [("_law_j", 4)]) (tt := tYes) (by rfl) hnd (pi_range1 (by rfl) T.m_range (pa_cons pe_int pa_nil)) (blkOk_by (own := [("_law_j", 4)]) (N := N_error_right) (sc := defScope s_error_right) (by decide +kernel)) (fun _ _ _ _ _ => (pg_name (i := 4) hnd rfl (by first | exact Or.inl rfl | exact Or.inr rfl))) (fun _ _ _ _ _ => pts_nil) (fun _ _ _ _ _ => (pe_cmpR op_eq (pv 4) (pv 1) (nomark _)))) (nomark _))
      (pss_one (ps_ret pe_bl))
      pss_nil)
      (pss_cons (ps_set (i := 5) hnd rfl (by first | exact Or.inl rfl | exact Or.inr rfl) (pe_lst (pa_cons (pe_callB call_isX (by rfl) B.m_isinstance (by decide +kernel) (pa_cons (pv 0) (pa_cons (pe_glob (v := .ref C1) (by rfl) w1 rfl) pa_nil))) (pa_cons (pe_callB call_isX (by rfl) B.m_isinstance (by decide +kernel) (pa_cons (pv 0) (pa_cons (pe_glob (v := .ref C2) (by rfl) w2 rfl) pa_nil))) (pa_cons (pe_callB call_isX (by rfl) B.m_isinstance (by decide +kernel) (pa_cons (pv 0) (pa_cons (pe_glob (v := .ref C3) (by rfl) w3 rfl) pa_nil))) pa_nil)))))
      (pss_cons (ps_set (i := 6) hnd rfl (by first | exact Or.inl rfl | exact Or.inr rfl) (pe_lst (pa_cons (pe_callB call_isX (by rfl) B.m_isinstance (by decide +kernel) (pa_cons (pv 0) (pa_cons (pe_bltn (v := .ty "ValueError") (by rfl) B.m_ValueError (by decide +kernel) rfl) pa_nil))) (pa_cons (pe_callB call_isX (by rfl) B.m_isinstance (by decide +kernel) (pa_cons (pv 0) (pa_cons (pe_bltn (v := .ty "LookupError") (by rfl) B.m_LookupError (by decide +kernel) rfl) pa_nil))) (pa_cons (pe_callB call_isX (by rfl) B.m_isinstance (by decide +kernel) (pa_cons (pv 0) (pa_cons (pe_bltn (v := .ty "ArithmeticError") (by rfl) B.m_ArithmeticError (by decide +kernel) rfl) pa_nil))) pa_nil)))))
      (pss_cons (ps_set (i := 7) hnd rfl (by first | exact Or.inl rfl | exact Or.inr rfl) (pe_lst (pa_cons (pe_cmpR op_lt (pv 1) pe_int (nomark _)) (pa_cons (pe_chain op_lt op_lt pe_int (pv 1) pe_int) (pa_cons (pe_cmpR op_gt (pv 1) pe_int (nomark _)) pa_nil)))))
      (pss_cons (ps_if (PW.pt (pw_or (pt_cmpR (op_neD hr.units) (pv 5) (pv 7) (nomark _)) (pw_or1 (pt_cmpR (op_neD hr.units) (pv 6) (pv 7) (nomark _)))))
      (pss_one (ps_ret pe_bl))
      pss_nil)
      (pss_cons (ps_set (i := 8) hnd rfl (by first | exact Or.inl rfl | exact Or.inr rfl) (pe_op op_cat (pe_op op_rep (pe_lst (pa_cons pe_int (pa_cons pe_int pa_nil))) pe_int) (pe_lst (pa_cons pe_int (pa_cons pe_int (pa_cons pe_int (pa_cons pe_int (pa_cons pe_int (pa_cons pe_int (pa_cons pe_int pa_nil))))))))))
      (pss_one (ps_ret (pe_or (pe_cmpR op_eq (pv 1) pe_int (nomark _)) (pe_one (pe_cal k_alike hr (by omega) (by rfl) (pa_cons (pe_cal k_kept hr (by omega) (by rfl) (pa_cons (pv 0) (pa_cons (pv 1) pa_nil))) (pa_cons (pe_ifExp (pt_cmpR op_eq (pe_ix ix_list (pv 8) (pv 1) (fun _ _ => rfl)) pe_int (nomark _)) (pv 2) (pv 3)) pa_nil))))))))))))), ?_⟩
    refine ⟨_, rfl, a, i, rfl, hi, ho, fun l1 H1 s1 f1 => ?_⟩
    refine ⟨33, rfl, by decide, by decide, fun D nD => ?_⟩
    refine lc_range (fun n H' => Same H1 H' ∧ H' D = some (.lst ((List.range n).map fun j => .bl (decide (j = i))))) ⟨same_new nD, upd_same⟩ ?_ ?_
    · rintro j H2 hj ⟨s2, e2⟩
      refine ⟨rfl, ?_⟩
      unfold tYes
      dsimp only
      rw [if_pos rfl]
      refine ⟨_, rfl, _, rfl, rfl, _, e2, ?_, same_put nD s2, ?_⟩
      · rw [List.length_map, List.length_range, sizeLine_eq]
        have : j < 33 := hj
        omega
      · rw [upd_same, List.range_succ, List.map_append]
        have z : decide (V.int (0 + (j : Int)) = V.int (i : Int)) = decide (j = i) := decide_eq_decide.mpr ⟨fun h => by
          injection h with h
          omega, fun h => by rw [h, Int.zero_add]⟩
        rw [z]
        rfl
    rintro H2 ⟨s2, e2⟩
    have y2 := s1.trans s2
    refine ⟨sortsD i, sortsD i, .lst (SqL.of (s2 _ _ f1)) (dp_map _ _), .lst (SqL.of e2) (dp_map _ _), (sorts_ok i hi).1, (sorts_ok i hi).1, ?_⟩
    rw [(sorts_ok i hi).2]
    refine ⟨_, rfl, iteF ?_⟩
    obtain ⟨od2, o2, d2⟩ := (ho.same y2).ex
    refine ⟨_, rfl, a, C i, od2, _, _, b, _, rfl, .own _, o2, d2, ec, p1, _, rfl, a, C i, od2, _, _, b, _, rfl, .own _, o2, d2, ec, p2, _, rfl, a, C i, od2, _, _, b, _, rfl, .own _, o2, d2, ec, p3, Nat.le_of_ble_eq_true rfl, fun l3 n3 => ?_⟩
    have y3 := y2.trans (same_new (o := .lst [.bl b1, .bl b2, .bl b3]) n3)
    have f3 := upd_same (H := H2) (a := l3) (o := .lst [.bl b1, .bl b2, .bl b3])
    generalize upd H2 l3 (.lst [.bl b1, .bl b2, .bl b3]) = H3 at y3 f3 ⊢
    obtain ⟨od3, o3, d3'⟩ := (ho.same y3).ex
    refine ⟨_, rfl, a, C i, od3, _, _, b, _, rfl, .ty _, o3, d3', ec, r1, _, rfl, a, C i, od3, _, _, b, _, rfl, .ty _, o3, d3', ec, r2, _, rfl, a, C i, od3, _, _, b, _, rfl, .ty _, o3, d3', ec, r3, Nat.le_of_ble_eq_true rfl, fun l4 n4 => ?_⟩
    have x4 := same_new (o := .lst [.bl b1, .bl b2, .bl b3]) n4
    have f4 := upd_same (H := H3) (a := l4) (o := .lst [.bl b1, .bl b2, .bl b3])
    generalize upd H3 l4 (.lst [.bl b1, .bl b2, .bl b3]) = H4 at x4 f4 ⊢
    have y4 := y3.trans x4
    have f34 := x4 _ _ f3
    refine ⟨_, rfl, _, _, rfl, rfl, _, rfl, _, _, rfl, rfl, _, rfl, ite2 (fun c => ⟨_, _, rfl, rfl, ?_⟩) (fun c => ?_)⟩
    · have z := g2 c
      clear g2 g3
      refine ⟨_, rfl, _, _, rfl, rfl, Nat.le_of_ble_eq_true rfl, fun l5 n5 => ?_⟩
      have x5 := same_new (o := .lst [.bl (decide ((i : Int) < 26)), .bl (decide ((i : Int) < 28)), .bl (decide (27 < (i : Int)))]) n5
      have f5 := upd_same (H := H4) (a := l5) (o := .lst [.bl (decide ((i : Int) < 26)), .bl (decide ((i : Int) < 28)), .bl (decide (27 < (i : Int)))])
      generalize upd H4 l5 (.lst [.bl (decide ((i : Int) < 26)), .bl (decide ((i : Int) < 28)), .bl (decide (27 < (i : Int)))]) = H5 at x5 f5 ⊢
      rw [g1, z, g4] at f5
      refine ⟨_, rfl, _, rfl, d3 _ _ _, d3 _ _ _, dp3 (x5 _ _ f34), dp3 f5, (d3_ok _ _ _).1, (d3_ok _ _ _).1, ?_⟩
      rw [(d3_ok _ _ _).2]
      refine ⟨_, rfl, iteF ⟨_, rfl, _, rfl, d3 _ _ _, d3 _ _ _, dp3 (x5 _ _ f4), dp3 f5, (d3_ok _ _ _).1, (d3_ok _ _ _).1, ?_⟩⟩
      rw [(d3_ok _ _ _).2]
      refine ⟨_, rfl, iteF ?_⟩
      refine ⟨Nat.le_of_ble_eq_true rfl, fun l6 n6 => ⟨l6, 13, _, rfl, rfl, upd_same, by decide, by decide, Nat.le_of_ble_eq_true rfl, fun l7 n7 => ⟨Nat.le_of_ble_eq_true rfl, fun l8 n8 => ⟨l7, l8, _, _, rfl, rfl, same_new n8 _ _ upd_same, upd_same, Nat.le_of_ble_eq_true rfl, fun l9 n9 => ?_⟩⟩⟩⟩
      have y9 := ((((y4.trans x5).trans (same_new (o := .lst [.int 0, .int 1]) n6)).trans (same_new (o := .lst (List.replicate (Int.toNat 13) [V.int 0, V.int 1]).flatten) n7)).trans (same_new (o := .lst [.int 0, .int 1, .int 0, .int 1, .int 0, .int 0, .int 0]) n8)).trans (same_new (o := .lst ordL) n9)
      refine ⟨_, rfl, rfl, _, rfl, ite2 (fun c => q _ y9) (fun c => ?_)⟩
      have hne : i ≠ 31 := fun z => c (decide_eq_true (by rw [z]; rfl))
      obtain ⟨a', ea, he'⟩ := he.same y9
      injection ea with ea
      obtain rfl := ea
      rw [show Nat.beq i 31 = false from Bool.eq_false_iff.mpr fun z => hne (Nat.eq_of_beq_eq_true z)] at he'
      have at1 := ord_at hi
      refine ⟨_, rfl, _, rfl, a, i, _, rfl, hi, hne, he', ?_⟩
      refine ⟨_, rfl, _, rfl, l9, ordL, i, _, rfl, rfl, SqL.of upd_same, at1, rfl, _, rfl, ?_⟩
      cases hz : ordA.getD i false with
      | true => exact iteD ⟨_, rfl, va, va, rfl, ala.same y9, fun H' s' => q _ (y9.trans s')⟩
      | false => exact iteN ⟨_, rfl, vb, vb, rfl, alb.same y9, fun H' s' => q _ (y9.trans s')⟩
    · obtain rfl := g3 c
      clear g2 g3
      refine ⟨_, rfl, _, _, rfl, rfl, Nat.le_of_ble_eq_true rfl, fun l5 n5 => ?_⟩
      have x5 := same_new (o := .lst [.bl (decide ((i : Int) < 26)), .bl false, .bl (decide (27 < (i : Int)))]) n5
      have f5 := upd_same (H := H4) (a := l5) (o := .lst [.bl (decide ((i : Int) < 26)), .bl false, .bl (decide (27 < (i : Int)))])
      generalize upd H4 l5 (.lst [.bl (decide ((i : Int) < 26)), .bl false, .bl (decide (27 < (i : Int)))]) = H5 at x5 f5 ⊢
      rw [g1, g4] at f5
      refine ⟨_, rfl, _, rfl, d3 _ _ _, d3 _ _ _, dp3 (x5 _ _ f34), dp3 f5, (d3_ok _ _ _).1, (d3_ok _ _ _).1, ?_⟩
      rw [(d3_ok _ _ _).2]
      refine ⟨_, rfl, iteF ⟨_, rfl, _, rfl, d3 _ _ _, d3 _ _ _, dp3 (x5 _ _ f4), dp3 f5, (d3_ok _ _ _).1, (d3_ok _ _ _).1, ?_⟩⟩
      rw [(d3_ok _ _ _).2]
      refine ⟨_, rfl, iteF ?_⟩
      refine ⟨Nat.le_of_ble_eq_true rfl, fun l6 n6 => ⟨l6, 13, _, rfl, rfl, upd_same, by decide, by decide, Nat.le_of_ble_eq_true rfl, fun l7 n7 => ⟨Nat.le_of_ble_eq_true rfl, fun l8 n8 => ⟨l7, l8, _, _, rfl, rfl, same_new n8 _ _ upd_same, upd_same, Nat.le_of_ble_eq_true rfl, fun l9 n9 => ?_⟩⟩⟩⟩
      have y9 := ((((y4.trans x5).trans (same_new (o := .lst [.int 0, .int 1]) n6)).trans (same_new (o := .lst (List.replicate (Int.toNat 13) [V.int 0, V.int 1]).flatten) n7)).trans (same_new (o := .lst [.int 0, .int 1, .int 0, .int 1, .int 0, .int 0, .int 0]) n8)).trans (same_new (o := .lst ordL) n9)
      refine ⟨_, rfl, rfl, _, rfl, ite2 (fun c => q _ y9) (fun c => ?_)⟩
      have hne : i ≠ 31 := fun z => c (decide_eq_true (by rw [z]; rfl))
      obtain ⟨a', ea, he'⟩ := he.same y9
      injection ea with ea
      obtain rfl := ea
      rw [show Nat.beq i 31 = false from Bool.eq_false_iff.mpr fun z => hne (Nat.eq_of_beq_eq_true z)] at he'
      have at1 := ord_at hi
      refine ⟨_, rfl, _, rfl, a, i, _, rfl, hi, hne, he', ?_⟩
      refine ⟨_, rfl, _, rfl, l9, ordL, i, _, rfl, rfl, SqL.of upd_same, at1, rfl, _, rfl, ?_⟩
      cases hz : ordA.getD i false with
      | true => exact iteD ⟨_, rfl, va, va, rfl, ala.same y9, fun H' s' => q _ (y9.trans s')⟩
      | false => exact iteN ⟨_, rfl, vb, vb, rfl, alb.same y9, fun H' s' => q _ (y9.trans s')⟩
end
end L2.K1
set_option Elab.async false
set_option linter.all false
set_option maxRecDepth 100000
set_option maxHeartbeats 8000000
namespace L2.K1
open PySem PySem.Spec PyProof.Rows L2.Tb
abbrev s_right : Stmt := top 65
abbrev N_right : List Str := ["_law_purse_here", "_law_a", "_law_b", "_law_made", "_law_k", "_law_e"]
theorem sc_right : FnScope N_right ["_law_purse_here"] (defScope s_right) := ⟨rfl, rfl, rfl, by decide +kernel, rfl, by decide +kernel, by decide +kernel⟩
def spRight : Sp := fun vs H Q _ => ∃ p : Addr, vs = [.ref p] ∧ Purse H p ∧ ∀ H' : Hp, SameB p H H' → Q (.bl true) H'
section
variable {P : Program} {w : World} {K : PySem.W.Frag} {mg : Str → Option Value} {base : Heap} {f : Addr} {fd : FuncData} {C : Nat → Addr}
theorem c_right (T : Bt mg) (F : FnP K "_law_right" s_right f fd) (hm : mg "_law_right" = some (.ref f)) (k_odd : Cal P w K mg base 2 "_law_odd" spOdd) (k_draw : Cal P w K mg base 1 "_law_draw" spDraw)
    (k_by_place : Cal P w K mg base 3 "_law_by_place" (spBy C)) (k_by_name : Cal P w K mg base 3 "_law_by_name" (spBy C)) (k_error_right : Cal P w K mg base 5 "_law_error_right" (spErrR C)) : Cal P w K mg base 6 "_law_right" spRight := by
  have hnd := sc_right.nd
  refine cal_mk F hm sc_right (fun _ _ _ _ _ _ us hl => match us, hl with | [_], _ => rfl) (fun vs H Q E h => ?_) (fun cdv A outer s H vs Q E hr h => ?_)
  · obtain ⟨p, rfl, _⟩ := h
    rfl
  · obtain ⟨p, rfl, hp, q⟩ := h
    refine ⟨_, (pss_cons (ps_par (i := 1) (j := 2) (by rfl) hnd rfl rfl (by decide) (by rfl) (by rfl) (pa_cons (pe_cal k_odd hr (by omega) (by rfl) (pa_cons (pv 0) pa_nil)) (pa_cons (pe_cal k_odd hr (by omega) (by rfl) (pa_cons (pv 0) pa_nil)) pa_nil)) (by rfl))
      (pss_cons (ps_if (pt_cmpR op_eq (pe_cal k_draw hr (by omega) (by rfl) (pa_cons (pv 0) (pa_cons pe_int pa_nil))) pe_int (nomark _))
      (pss_one (ps_set (i := 1) hnd rfl (by first | exact Or.inl rfl | exact Or.inr rfl) (pe_op op_sub (pe_cal k_draw hr (by omega) (by rfl) (pa_cons (pv 0) (pa_cons (pe_op op_pow pe_int pe_int) pa_nil))) (pe_cal k_draw hr (by omega) (by rfl) (pa_cons (pv 0) (pa_cons (pe_op op_pow pe_int pe_int) pa_nil))))))
      pss_nil)
      (pss_cons (ps_for PassesOwn.never (by rfl) (pi_list (pe_lst (pa_cons (pe_cal k_by_place hr (by omega) (by rfl) (pa_cons (pv 1) (pa_cons (pv 2) pa_nil))) (pa_cons (pe_cal k_by_name hr (by omega) (by rfl) (pa_cons (pv 1) (pa_cons (pv 2) pa_nil))) pa_nil)))) (pg_name (i := 3) hnd rfl (by first | exact Or.inl rfl | exact Or.inr rfl))
      (pss_one (ps_for PassesOwn.never (by rfl) (pi_enum (by rfl) T.m_enumerate (pa_cons (pv 3) pa_nil)) (pg_tup (by rfl) (pgs_cons (pg_name (i := 4) hnd rfl (by first | exact Or.inl rfl | exact Or.inr rfl)) (pgs_cons (pg_name (i := 5) hnd rfl (by first | exact Or.inl rfl | exact Or.inr rfl)) pgs_nil)))
      (pss_one (ps_if (pt_not (pt_val (pe_cal k_error_right hr (by omega) (by rfl) (pa_cons (pv 5) (pa_cons (pv 4) (pa_cons (pv 1) (pa_cons (pv 2) pa_nil)))))))
      (pss_one (ps_ret pe_bl))
      pss_nil)))))
      (pss_one (ps_ret pe_bl))))), ?_⟩
    refine ⟨_, rfl, p, rfl, hp, fun va H1 s1 u1 o1 => ⟨_, rfl, p, rfl, u1, fun vb H2 s2 u2 o2 => ⟨_, _, rfl, ?_⟩⟩⟩
    have o1' : Od H2 3 va := by
      obtain ⟨st, dg, c, e, _⟩ := u1.ex
      exact o1.keep e s2
    refine ⟨_, rfl, p, 3, rfl, u2, by decide, by decide, fun d3 H3 h0 h3 s3 u3 => ?_⟩
    have oa : Od H3 3 va := by
      obtain ⟨st, dg, c, e, _⟩ := u2.ex
      exact o1'.keep e s3
    have ob : Od H3 3 vb := by
      obtain ⟨st, dg, c, e, _⟩ := u2.ex
      exact o2.keep e s3
    have sB := (s1.trans s2).trans s3
    refine ⟨rfl, _, rfl, ite2 (fun c => ?_) (fun c => ?_)⟩
    · clear oa
      refine ⟨_, rfl, 10, 38, rfl, rfl, ⟨by decide, by decide, by decide⟩, p, _, rfl, u3, by decide, by decide, fun da H4 a0 a1 s4 u4 => ⟨_, rfl, 10, 38, rfl, rfl, ⟨by decide, by decide, by decide⟩, p, _, rfl, u4, by decide, by decide, fun db H5 b0 b1 s5 u5 => ⟨_, _, rfl, rfl, ?_⟩⟩⟩
      have ob' : Od H5 3 vb := by
        obtain ⟨st, dg, c', e, _⟩ := u3.ex
        obtain ⟨st', dg', c'', e', _⟩ := u4.ex
        exact (ob.keep e s4).keep e' s5
      have oa : Od H5 3 (.int (da - db)) := .inl rfl
      have hS := (sB.trans s4).trans s5
      clear ob o1 o1' o2
      refine ⟨_, rfl, _, rfl, .int (da - db), vb, rfl, fun l1 G1 xs1 t1 f1 z1 g1 => ⟨_, rfl, _, rfl, .int (da - db), vb, rfl, fun l2 G2 xs2 t2 f2 z2 g2 => ⟨Nat.le_of_ble_eq_true rfl, fun L nL => ?_⟩⟩⟩
      have t3 := same_new (o := .lst [.ref l1, .ref l2]) nL
      have f3 := upd_same (H := G2) (a := L) (o := .lst [.ref l1, .ref l2])
      generalize upd G2 L (.lst [.ref l1, .ref l2]) = G3 at t3 f3 ⊢
      have hT := (t1.trans t2).trans t3
      have la : Al G3 3 (.int (da - db)) (.int (da - db)) := (oa.same hT).al
      have lb : Al G3 3 vb vb := (ob'.same hT).al
      refine ⟨L, rfl, ⟨_, SqL.of f3⟩, ?_⟩
      refine for_list (xs := [.ref l1, .ref l2]) (fun _ σ' H' => Same G3 H' ∧ ∃ m k e, σ' = [some (.ref p), some (.int (da - db)), some vb, m, k, e]) ⟨Same.refl _, _, _, _, rfl⟩ (fun i σ' H' _ h => SqL.of (h.1 _ _ f3)) ?_ ?_
      · rintro i x σ' H' hx ⟨s', m, k, e, rfl⟩
        obtain ⟨l, xs, rfl, fl, zl, gl⟩ : ∃ l xs, x = .ref l ∧ H' l = some (.lst xs) ∧ xs.length = 33 ∧ EiL C H' (.int (da - db)) vb 0 xs := by
          match i, hx with
          | 0, hx =>
            injection hx with hx
            exact ⟨l1, xs1, hx.symm, s' _ _ (t3 _ _ (t2 _ _ f1)), z1, g1.same ((t2.trans t3).trans s')⟩
          | 1, hx =>
            injection hx with hx
            exact ⟨l2, xs2, hx.symm, s' _ _ (t3 _ _ f2), z2, g2.same (t3.trans s')⟩
          | i + 2, hx => simp at hx
        refine ⟨_, rfl, l, xs, rfl, SqL.of fl, ?_⟩
        refine for_it (walk_enum (xs := xs)) (fun _ σ2 H2 => Same H' H2 ∧ ∃ k e, σ2 = [some (.ref p), some (.int (da - db)), some vb, some (.ref l), k, e]) ⟨Same.refl _, _, _, rfl⟩ (fun i σ2 H2 _ h => SqL.of (h.1 _ _ fl)) ?_ ?_
        · rintro i2 z σ2 H2 H3 hi ⟨s2, k, e, rfl⟩ ⟨T', u, v, rfl, nT, rfl, hu, hv⟩
          injection hu with hu
          subst hu
          have sT := same_new (o := .tup [.int (i2 : Nat), v]) nT
          have s3 := s2.trans sT
          have ei := EiL.get (gl.same s3) hv
          rw [Nat.zero_add] at ei
          refine ⟨T', [.int (i2 : Nat), v], rfl, SqT.of upd_same, rfl, _, _, rfl, _, _, rfl, rfl, ?_⟩
          refine ⟨_, rfl, _, rfl, _, rfl, _, rfl, v, .int (da - db), vb, i2, rfl, by omega, ei, la.same (s'.trans s3), lb.same (s'.trans s3), fun H4 s4 => ⟨_, rfl, iteF ?_⟩⟩
          exact ⟨s3.trans s4, _, _, rfl⟩
        · rintro σ2 H2 ⟨s2, k, e, rfl⟩
          exact ⟨s'.trans s2, _, _, _, rfl⟩
      · rintro σ' H' ⟨s', m, k, e, rfl⟩
        exact q _ (hS.trans (SameB.of (hT.trans s')))
    · have hS := sB
      clear o1 o1' o2
      refine ⟨_, rfl, _, rfl, va, vb, rfl, fun l1 G1 xs1 t1 f1 z1 g1 => ⟨_, rfl, _, rfl, va, vb, rfl, fun l2 G2 xs2 t2 f2 z2 g2 => ⟨Nat.le_of_ble_eq_true rfl, fun L nL => ?_⟩⟩⟩
      have t3 := same_new (o := .lst [.ref l1, .ref l2]) nL
      have f3 := upd_same (H := G2) (a := L) (o := .lst [.ref l1, .ref l2])
      generalize upd G2 L (.lst [.ref l1, .ref l2]) = G3 at t3 f3 ⊢
      have hT := (t1.trans t2).trans t3
      have la : Al G3 3 (va) (va) := (oa.same hT).al
      have lb : Al G3 3 vb vb := (ob.same hT).al
      refine ⟨L, rfl, ⟨_, SqL.of f3⟩, ?_⟩
      refine for_list (xs := [.ref l1, .ref l2]) (fun _ σ' H' => Same G3 H' ∧ ∃ m k e, σ' = [some (.ref p), some (va), some vb, m, k, e]) ⟨Same.refl _, _, _, _, rfl⟩ (fun i σ' H' _ h => SqL.of (h.1 _ _ f3)) ?_ ?_
      · rintro i x σ' H' hx ⟨s', m, k, e, rfl⟩
        obtain ⟨l, xs, rfl, fl, zl, gl⟩ : ∃ l xs, x = .ref l ∧ H' l = some (.lst xs) ∧ xs.length = 33 ∧ EiL C H' (va) vb 0 xs := by
          match i, hx with
          | 0, hx =>
            injection hx with hx
            exact ⟨l1, xs1, hx.symm, s' _ _ (t3 _ _ (t2 _ _ f1)), z1, g1.same ((t2.trans t3).trans s')⟩
          | 1, hx =>
            injection hx with hx
            exact ⟨l2, xs2, hx.symm, s' _ _ (t3 _ _ f2), z2, g2.same (t3.trans s')⟩
          | i + 2, hx => simp at hx
        refine ⟨_, rfl, l, xs, rfl, SqL.of fl, ?_⟩
        refine for_it (walk_enum (xs := xs)) (fun _ σ2 H2 => Same H' H2 ∧ ∃ k e, σ2 = [some (.ref p), some (va), some vb, some (.ref l), k, e]) ⟨Same.refl _, _, _, rfl⟩ (fun i σ2 H2 _ h => SqL.of (h.1 _ _ fl)) ?_ ?_
        · rintro i2 z σ2 H2 H3 hi ⟨s2, k, e, rfl⟩ ⟨T', u, v, rfl, nT, rfl, hu, hv⟩
          injection hu with hu
          subst hu
          have sT := same_new (o := .tup [.int (i2 : Nat), v]) nT
          have s3 := s2.trans sT
          have ei := EiL.get (gl.same s3) hv
          rw [Nat.zero_add] at ei
          refine ⟨T', [.int (i2 : Nat), v], rfl, SqT.of upd_same, rfl, _, _, rfl, _, _, rfl, rfl, ?_⟩
          refine ⟨_, rfl, _, rfl, _, rfl, _, rfl, v, va, vb, i2, rfl, by omega, ei, la.same (s'.trans s3), lb.same (s'.trans s3), fun H4 s4 => ⟨_, rfl, iteF ?_⟩⟩
          exact ⟨s3.trans s4, _, _, rfl⟩
        · rintro σ2 H2 ⟨s2, k, e, rfl⟩
          exact ⟨s'.trans s2, _, _, _, rfl⟩
      · rintro σ' H' ⟨s', m, k, e, rfl⟩
        exact q _ (hS.trans (SameB.of (hT.trans s')))
end
end L2.K1
set_option Elab.async false
set_option linter.all false
set_option maxRecDepth 100000
set_option maxHeartbeats 8000000
namespace L2.K1
open PySem PySem.Spec PyProof.Rows L2.Tb
abbrev s_constants_right : Stmt := top 64
abbrev N_constants_right : List Str := ["_law_heard", "_law_due"]
theorem sc_constants_right : FnScope N_constants_right [] (defScope s_constants_right) := ⟨rfl, rfl, rfl, by decide +kernel, rfl, by decide +kernel, by decide +kernel⟩
abbrev s_law : Stmt := top 66
abbrev N_law : List Str := ["_law_cells", "_law_k"]
theorem sc_law : FnScope N_law ["_law_cells"] (defScope s_law) := ⟨rfl, rfl, rfl, by decide +kernel, rfl, by decide +kernel, by decide +kernel⟩
structure Ks (mg : Str → Option Value) : Prop where
  m_MOST_OPERATIONS : ∃ t, mg "MOST_OPERATIONS" = some (.int 8 t)
  m_MOST_FACTS : ∃ t, mg "MOST_FACTS" = some (.int 4 t)
  m_MOST_FORMULAS : ∃ t, mg "MOST_FORMULAS" = some (.int 6 t)
  m_MOST_THINGS : ∃ t, mg "MOST_THINGS" = some (.int 600 t)
  m_MOST_ROWS : ∃ t, mg "MOST_ROWS" = some (.int 12 t)
  m_MOST_TESTS : ∃ t, mg "MOST_TESTS" = some (.int 4 t)
  m_MOST_BOXES : ∃ t, mg "MOST_BOXES" = some (.int 8 t)
  m_MOST_SIDE : ∃ t, mg "MOST_SIDE" = some (.int 3 t)
  m_MOST_INNER : ∃ t, mg "MOST_INNER" = some (.int 6 t)
  m_MOST_TRIPLES : ∃ t, mg "MOST_TRIPLES" = some (.int 8 t)
  m_MOST_STORED : ∃ t, mg "MOST_STORED" = some (.int 6 t)
  m_MOST_CELLS : ∃ t, mg "MOST_CELLS" = some (.int 200 t)
  m_MOST_LOST : ∃ t, mg "MOST_LOST" = some (.int 9 t)
  m_MOST_CHANGES : ∃ t, mg "MOST_CHANGES" = some (.int 6 t)
  m_MOST_TRIALS : ∃ t, mg "MOST_TRIALS" = some (.int 4096 t)
  m_MOST_GROWN : ∃ t, mg "MOST_GROWN" = some (.int 40 t)
theorem dp_ints {K : PySem.W.Frag} {H : Hp} : ∀ ns : List Int, DpAll K H (ns.map V.int) (ns.map PyData.int)
  | [] => .nil
  | _ :: ns => .cons (.int _) (dp_ints ns)
def ksL : List Int := [8, 4, 6, 600, 12, 4, 8, 3, 6, 8, 6, 200, 9, 6, 4096, 40]
def ksD : PyData := .list (ksL.map PyData.int)
theorem ksD_ok : ksD.showable = true ∧ ksD.hasDict = false ∧ ksD.depth ≤ 60 ∧ ksD.shown.length ≤ sizeLine := ⟨by decide +kernel, by decide +kernel, by decide +kernel, Nat.le_trans (show _ ≤ 100 by decide +kernel) (by rw [sizeLine_eq]; decide)⟩
theorem dp_ks {K : PySem.W.Frag} {H : Hp} {a : Addr} (h : H a = some (.lst (ksL.map V.int))) : Dp K H (.ref a) ksD := .lst (SqL.of h) (dp_ints ksL)
theorem sq_same {K : PySem.W.Frag} {H H' : Hp} {a : Addr} {xs : List V} (h : SqL K H a xs) (s : Same H H') : SqL K H' a xs := by
  rcases h with (h | ⟨o, h⟩) | h
  · exact .inl (.inl (s _ _ h))
  · exact .inl (.inr ⟨o, s _ _ h⟩)
  · exact .inr h
def spConst : Sp := fun vs H Q _ => vs = [] ∧ ∀ H' : Hp, Same H H' → Q (.bl true) H'
def spLaw (K : PySem.W.Frag) : Sp := fun vs H Q _ => ∃ (a : Addr) (ns : List Int), vs = [.ref a] ∧ SqL K H a (ns.map V.int) ∧ (∀ z ∈ ns, iBits z ≤ 1048576) ∧ ns.length ≤ 63 ∧ ∀ H' : Hp, Q (.bl true) H'
section
variable {P : Program} {w : World} {K : PySem.W.Frag} {mg : Str → Option Value} {base : Heap} {f : Addr} {fd : FuncData} {C : Nat → Addr} {A : Around}
theorem r_constants (T : Bt mg) (k : Ks mg) (F : FnP K "_law_constants_right" s_constants_right f fd) (hroom : Room 1 A) (hg : A.guards = some []) : RunsAt P w K mg base f fd [] spConst A := by
  have hnd := sc_constants_right.nd
  obtain ⟨t_MOST_OPERATIONS, m_MOST_OPERATIONS⟩ := k.m_MOST_OPERATIONS
  obtain ⟨t_MOST_FACTS, m_MOST_FACTS⟩ := k.m_MOST_FACTS
  obtain ⟨t_MOST_FORMULAS, m_MOST_FORMULAS⟩ := k.m_MOST_FORMULAS
  obtain ⟨t_MOST_THINGS, m_MOST_THINGS⟩ := k.m_MOST_THINGS
  obtain ⟨t_MOST_ROWS, m_MOST_ROWS⟩ := k.m_MOST_ROWS
  obtain ⟨t_MOST_TESTS, m_MOST_TESTS⟩ := k.m_MOST_TESTS
  obtain ⟨t_MOST_BOXES, m_MOST_BOXES⟩ := k.m_MOST_BOXES
  obtain ⟨t_MOST_SIDE, m_MOST_SIDE⟩ := k.m_MOST_SIDE
  obtain ⟨t_MOST_INNER, m_MOST_INNER⟩ := k.m_MOST_INNER
  obtain ⟨t_MOST_TRIPLES, m_MOST_TRIPLES⟩ := k.m_MOST_TRIPLES
  obtain ⟨t_MOST_STORED, m_MOST_STORED⟩ := k.m_MOST_STORED
  obtain ⟨t_MOST_CELLS, m_MOST_CELLS⟩ := k.m_MOST_CELLS
  obtain ⟨t_MOST_LOST, m_MOST_LOST⟩ := k.m_MOST_LOST
  obtain ⟨t_MOST_CHANGES, m_MOST_CHANGES⟩ := k.m_MOST_CHANGES
  obtain ⟨t_MOST_TRIALS, m_MOST_TRIALS⟩ := k.m_MOST_TRIALS
  obtain ⟨t_MOST_GROWN, m_MOST_GROWN⟩ := k.m_MOST_GROWN
  refine runs_body F sc_constants_right hroom fun cdv outer s H vs Q E hr q => ?_
  obtain ⟨rfl, q⟩ := q
  refine ⟨_, (pss_cons (ps_set (i := 0) hnd rfl (by first | exact Or.inl rfl | exact Or.inr rfl) (pe_lst (pa_cons (pe_glob (v := .int 8) (by rfl) m_MOST_OPERATIONS ⟨_, rfl⟩) (pa_cons (pe_glob (v := .int 4) (by rfl) m_MOST_FACTS ⟨_, rfl⟩) (pa_cons (pe_glob (v := .int 6) (by rfl) m_MOST_FORMULAS ⟨_, rfl⟩) (pa_cons (pe_glob (v := .int 600) (by rfl) m_MOST_THINGS ⟨_, rfl⟩) (pa_cons (pe_glob (v := .int 12) (by rfl) m_MOST_ROWS ⟨_, rfl⟩) (pa_cons (pe_glob (v := .int 4) (by rfl) m_MOST_TESTS ⟨_, rfl⟩) (pa_cons (pe_glob (v := .int 8) (by rfl) m_MOST_BOXES ⟨_, rfl⟩) (pa_cons (pe_glob (v := .int 3) (by rfl) m_MOST_SIDE ⟨_, rfl⟩) pa_nil))))))))))
      (pss_cons (ps_set (i := 0) hnd rfl (by first | exact Or.inl rfl | exact Or.inr rfl) (pe_op op_cat (pv 0) (pe_lst (pa_cons (pe_glob (v := .int 6) (by rfl) m_MOST_INNER ⟨_, rfl⟩) (pa_cons (pe_glob (v := .int 8) (by rfl) m_MOST_TRIPLES ⟨_, rfl⟩) (pa_cons (pe_glob (v := .int 6) (by rfl) m_MOST_STORED ⟨_, rfl⟩) (pa_cons (pe_glob (v := .int 200) (by rfl) m_MOST_CELLS ⟨_, rfl⟩) (pa_cons (pe_glob (v := .int 9) (by rfl) m_MOST_LOST ⟨_, rfl⟩) (pa_cons (pe_glob (v := .int 6) (by rfl) m_MOST_CHANGES ⟨_, rfl⟩) (pa_cons (pe_glob (v := .int 4096) (by rfl) m_MOST_TRIALS ⟨_, rfl⟩) pa_nil))))))))))
      (pss_cons (ps_set (i := 1) hnd rfl (by first | exact Or.inl rfl | exact Or.inr rfl) (pe_lst (pa_cons pe_int (pa_cons pe_int (pa_cons pe_int (pa_cons pe_int (pa_cons pe_int (pa_cons pe_int (pa_cons pe_int (pa_cons pe_int (pa_cons pe_int (pa_cons pe_int (pa_cons pe_int (pa_cons pe_int (pa_cons pe_int (pa_cons pe_int (pa_cons pe_int (pa_cons pe_int pa_nil))))))))))))))))))
      (pss_one (ps_ret (pe_cmpR op_eq (pe_callB (call_reprD hg hr.units) (by rfl) T.m_repr (by decide +kernel) (pa_cons (pe_op op_cat (pv 0) (pe_lst (pa_cons (pe_glob (v := .int 40) (by rfl) m_MOST_GROWN ⟨_, rfl⟩) pa_nil))) pa_nil)) (pe_callB (call_reprD hg hr.units) (by rfl) T.m_repr (by decide +kernel) (pa_cons (pv 1) pa_nil)) (nomark _))))))), ?_⟩
  refine ⟨Nat.le_of_ble_eq_true rfl, fun l1 n1 => ⟨_, rfl, Nat.le_of_ble_eq_true rfl, fun l2 n2 => ⟨l1, l2, _, _, rfl, rfl, same_new n2 _ _ upd_same, upd_same, Nat.le_of_ble_eq_true rfl, fun l3 n3 => ⟨Nat.le_of_ble_eq_true rfl, fun l4 n4 => ?_⟩⟩⟩⟩
  have e1 := same_new (o := .lst ([8, 4, 6, 600, 12, 4, 8, 3].map V.int)) n1
  have e2 := same_new (o := .lst ([6, 8, 6, 200, 9, 6, 4096].map V.int)) n2
  have e3 := same_new (o := .lst ([8, 4, 6, 600, 12, 4, 8, 3, 6, 8, 6, 200, 9, 6, 4096].map V.int)) n3
  have e4 := same_new (o := .lst (ksL.map V.int)) n4
  refine ⟨_, rfl, Nat.le_of_ble_eq_true rfl, fun l5 n5 => ⟨l3, l5, _, _, rfl, rfl, same_new n5 _ _ (e4 _ _ upd_same), upd_same, Nat.le_of_ble_eq_true rfl, fun l6 n6 => ?_⟩⟩
  have e5 := same_new (o := .lst ([40].map V.int)) n5
  have e6 := same_new (o := .lst (ksL.map V.int)) n6
  refine ⟨l6, ksD, rfl, dp_ks upd_same, ksD_ok.1, ksD_ok.2.1, ksD_ok.2.2.1, ksD_ok.2.2.2, _, rfl, l4, ksD, rfl, dp_ks (e6 _ _ (e5 _ _ upd_same)), ksD_ok.1, ksD_ok.2.1, ksD_ok.2.2.1, ksD_ok.2.2.2, rfl, ?_⟩
  rw [decide_eq_true rfl]
  exact q _ (((((e1.trans e2).trans e3).trans e4).trans e5).trans e6)
theorem r_law {fc : Addr} {fdc : FuncData} (T : Bt mg) (F : FnP K "law" s_law f fd) (hroom : Room 7 A) (rc : ∀ env, RunsAt P w K mg base fc fdc [] spConst (A.deeper env)) (mc : mg "_law_constants_right" = some (.ref fc)) (kc : PySem.W.keepIn K (.ref fc) = true)
    (bc : ∀ s : Shared, K.In s.heap → BindsTo s fdc ⟨[], []⟩ []) (k_cell : Cal P w K mg base 1 "_law_cell" (spCell K)) (k_purse : Cal P w K mg base 1 "_law_purse" spPurse) (k_right : Cal P w K mg base 6 "_law_right" spRight) : RunsAt P w K mg base f fd ["_law_cells"] (spLaw K) A := by
  have hnd := sc_law.nd
  refine runs_body F sc_law hroom fun cdv outer s H vs Q E hr h => ?_
  obtain ⟨a, ns, rfl, hs, hb, hl, q⟩ := h
  refine ⟨_, (pss_cons (ps_if (pt_not (pt_val (pe_at0 (rc _) (by rfl) mc kc bc)))
      (pss_one (ps_ret pe_bl))
      pss_nil)
      (pss_one (ps_ret (pe_callB (cr_all (by rfl)) (by rfl) T.m_all (by decide +kernel) (pa_cons (pe_lc (own := [("_law_k", 1)]) (tt := tYes) (by rfl) hnd (pi_range1 (by rfl) T.m_range (pa_cons (pe_callB (call_max2 (by rfl)) (by rfl) T.m_max (by decide +kernel) (pa_cons pe_int (pa_cons (pe_callB (call_min2 (by rfl)) (by rfl) T.m_min (by decide +kernel) (pa_cons (pe_callB call_len_seq (by rfl) T.m_len (by decide +kernel) (pa_cons (pv 0) pa_nil)) (pa_cons pe_int pa_nil))) pa_nil))) pa_nil)) (blkOk_by (own := [("_law_k", 1)]) (N := N_law) (sc := defScope s_law) (by decide +kernel)) (fun _ _ _ _ _ => (pg_name (i := 1) hnd rfl (by first | exact Or.inl rfl | exact Or.inr rfl))) (fun _ _ _ _ _ => pts_nil) (fun _ _ _ _ _ => (pe_cal k_right hr (by omega) (by rfl) (pa_cons (pe_cal k_purse hr (by omega) (by rfl) (pa_cons (pe_cal k_cell hr (by omega) (by rfl) (pa_cons (pv 0) (pa_cons (pv 1) pa_nil))) pa_nil)) pa_nil)))) pa_nil))))), ?_⟩
  refine ⟨rfl, fun H0 s0 => ⟨_, rfl, iteF ?_⟩⟩
  refine ⟨_, rfl, a, _, rfl, .inl (sq_same hs s0), _, _, rfl, _, _, rfl, _, rfl, ?_⟩
  have hb0 : ∀ z : Int, 0 ≤ (if (if 3 < z then 3 else z) > 1 then if 3 < z then 3 else z else 1) ∧ (if (if 3 < z then 3 else z) > 1 then if 3 < z then 3 else z else 1) ≤ 3 := fun z => by
    by_cases h1 : 3 < z
    · rw [if_pos h1, if_pos (by decide)]
      decide
    · rw [if_neg h1]
      by_cases h2 : z > 1
      · rw [if_pos h2]
        omega
      · rw [if_neg h2]
        decide
  have hm := hb0 ((ns.map V.int).length : Nat)
  generalize (if (if 3 < (((ns.map V.int).length : Nat) : Int) then 3 else (((ns.map V.int).length : Nat) : Int)) > 1 then if 3 < (((ns.map V.int).length : Nat) : Int) then 3 else (((ns.map V.int).length : Nat) : Int) else 1) = m at hm ⊢
  refine ⟨by omega, by omega, fun D nD => ?_⟩
  refine lc_range (fun n H' => Same H0 H' ∧ H' D = some (.lst (List.replicate n (.bl true)))) ⟨same_new nD, upd_same⟩ ?_ ?_
  · rintro j H1 hj ⟨s1, e1⟩
    refine ⟨rfl, ?_⟩
    unfold tYes
    dsimp only
    rw [if_pos rfl]
    refine ⟨_, rfl, _, rfl, a, ns, j, by rw [Int.zero_add]; rfl, sq_same hs (s0.trans s1), hb, by omega, fun z H2 s2 hz => ⟨z, rfl, hz, fun p H3 s3 np hp => ⟨p, rfl, hp, fun H4 s4 => ?_⟩⟩⟩
    have s24 : Same H2 H4 := fun b o e => s4 b o (ne_of_none e np) (s3 b o e)
    refine ⟨_, (s2.trans s24) _ _ e1, by rw [List.length_replicate, sizeLine_eq]; omega, same_put nD ((s1.trans s2).trans s24), by rw [upd_same, rep_succ]⟩
  · rintro H1 ⟨s1, e1⟩
    refine ⟨D, List.replicate _ true, rfl, SqL.of (by rw [e1, List.map_replicate]), ?_⟩
    rw [show (List.replicate m.toNat true).all id = true from List.all_eq_true.mpr fun b' hb' => by rw [List.eq_of_mem_replicate hb']; rfl]
    exact q _
end
end L2.K1
set_option Elab.async false
set_option linter.all false
set_option maxRecDepth 100000
set_option maxHeartbeats 0
namespace L2.K1
open PySem PySem.Spec PyProof.Rows L2.Tb
/-! ### the head -/
def cnL : List Str := [("InvalidName" : Str), ("InvalidText" : Str), ("InvalidFlag" : Str), ("InvalidNumber" : Str), ("InvalidTurns" : Str), ("InvalidTriple" : Str), ("InvalidIndex" : Str), ("InvalidWish" : Str), ("NotAKind" : Str), ("NotAFormula" : Str), ("NotABeginning" : Str), ("NotAScript" : Str), ("NotAStore" : Str), ("NotACell" : Str), ("NotLengths" : Str), ("OtherKind" : Str), ("InvalidFacts" : Str), ("InvalidFormulas" : Str), ("InvalidTriples" : Str), ("InvalidContents" : Str), ("InvalidNames" : Str), ("InvalidRows" : Str), ("InvalidBoxes" : Str), ("InvalidLost" : Str), ("InvalidChanges" : Str), ("Clash" : Str), ("UnknownName" : Str), ("InUse" : Str), ("TooMany" : Str), ("Lacking" : Str), ("NotWhole" : Str), ("NothingToUndo" : Str), ("Broken" : Str)]
def cnm (i : Nat) : Str := cnL.getD i ""
abbrev Ca (K : PySem.W.Frag) (i : Nat) : Addr := He.ga K (cnm i)
def refsAll (g : Addr → Option Obj) (as : List Addr) : List Addr := as.flatMap fun a => match g a with
  | some o => He.refsD o
  | none => []
def seenAt (g : Addr → Option Obj) : Nat → List Addr → List Addr
  | 0, as => as
  | n + 1, as => as ++ seenAt g n (refsAll g as)
def kA (g : Addr → Option Obj) : PySem.W.Frag := He.frG g (seenAt g 4 [mainGlobals])
def frees : List Str := [("len" : Str), ("int" : Str), ("abs" : Str), ("divmod" : Str), ("isinstance" : Str), ("tuple" : Str), ("list" : Str), ("bool" : Str), ("all" : Str), ("zip" : Str), ("range" : Str), ("max" : Str), ("min" : Str), ("enumerate" : Str), ("repr" : Str), ("sorted" : Str), ("ValueError" : Str), ("LookupError" : Str), ("ArithmeticError" : Str)]
def consts : List (Str × Int) := [(("MOST_OPERATIONS" : Str), 8), (("MOST_FACTS" : Str), 4), (("MOST_FORMULAS" : Str), 6), (("MOST_THINGS" : Str), 600), (("MOST_ROWS" : Str), 12), (("MOST_TESTS" : Str), 4), (("MOST_BOXES" : Str), 8), (("MOST_SIDE" : Str), 3), (("MOST_INNER" : Str), 6), (("MOST_TRIPLES" : Str), 8), (("MOST_STORED" : Str), 6), (("MOST_CELLS" : Str), 200), (("MOST_LOST" : Str), 9), (("MOST_CHANGES" : Str), 6), (("MOST_TRIALS" : Str), 4096), (("MOST_GROWN" : Str), 40)]
def initB (K : PySem.W.Frag) (i : Nat) : Bool := (He.Fa.meth (cnm i) "__init__").ok K && (He.Fa.noat (cnm i) (fls.getD i "")).ok K
def exB (K : PySem.W.Frag) (i : Nat) : Bool := (He.Fa.glo (cnm i)).ok K && (ecB K (bss i) (Ca K i) && cond (Nat.beq i 31) (decide (PySem.W.findIn K (.ref (Ca K i)) "__init__" = some (some (.builtin "ArithmeticError.__init__")))) (initB K i))
def kiB (K : PySem.W.Frag) (i : Nat) : Bool := (List.range 33).all fun j => decide (PySem.W.kitOne K (.ref (Ca K i)) (.ref (Ca K j)) = some (decide (j = i)))
def gB (i : Nat) : Bool × Bool × Bool := (decide (i < 26), decide (25 < i) && decide (i < 28), decide (27 < i))
def bwB (K : PySem.W.Frag) (i : Nat) : Bool :=
  decide (PySem.W.kitOne K (.ref (Ca K i)) (.ref (He.ga K "WrongValue")) = some (decide (i < 26))) && (decide (PySem.W.kitOne K (.ref (Ca K i)) (.ref (He.ga K "WrongName")) = some (decide (25 < i) && decide (i < 28))) && (decide (PySem.W.kitOne K (.ref (Ca K i)) (.ref (He.ga K "NoAnswer")) = some (decide (27 < i))) &&
  (decide (PySem.W.kitOne K (.ref (Ca K i)) (.type "ValueError") = some (decide (i < 26))) && (decide (PySem.W.kitOne K (.ref (Ca K i)) (.type "LookupError") = some (decide (25 < i) && decide (i < 28))) && decide (PySem.W.kitOne K (.ref (Ca K i)) (.type "ArithmeticError") = some (decide (27 < i)))))))
def gloL : List Str := ["WrongValue", "WrongName", "NoAnswer", "_law_cell", "_law_purse", "_law_draw", "_law_alike", "_law_odd", "_law_by_place", "_law_by_name", "_law_sorts", "_law_kept", "_law_error_right", "_law_constants_right", "_law_right", "law"]
def factB (K : PySem.W.Frag) : Bool := gloL.all (fun x => (He.Fa.glo x).ok K) && (frees.all (fun x => (He.Fa.free x).ok K) && (consts.all (fun q => (He.Fa.int q.1 q.2).ok K) && ((List.range 33).all (exB K) && ((List.range 33).all (kiB K) && (List.range 33).all (bwB K)))))
def dOf (x : Str) (i : Nat) : He.DefD := ⟨(x, none), x, x, defArgs (top i), defBody (top i), defScope (top i), [], []⟩
def iOf (x q : Str) (i : Nat) : He.DefD := ⟨(x, some "__init__"), "__init__", q, defArgs (inClass (top i) 0), defBody (inClass (top i) 0), defScope (inClass (top i) 0), [], []⟩
def fnD : List He.DefD := [dOf "_law_cell" 54, dOf "_law_purse" 55, dOf "_law_draw" 56, dOf "_law_alike" 57, dOf "_law_odd" 58, dOf "_law_by_place" 59, dOf "_law_by_name" 60, dOf "_law_sorts" 61, dOf "_law_kept" 62, dOf "_law_error_right" 63, dOf "_law_constants_right" 64, dOf "_law_right" 65, dOf "law" 66]
def fnI1 : List He.DefD := [iOf "InvalidName" "InvalidName.__init__" 2, iOf "InvalidText" "InvalidText.__init__" 3, iOf "InvalidFlag" "InvalidFlag.__init__" 4, iOf "InvalidNumber" "InvalidNumber.__init__" 5, iOf "InvalidTurns" "InvalidTurns.__init__" 6, iOf "InvalidTriple" "InvalidTriple.__init__" 7, iOf "InvalidIndex" "InvalidIndex.__init__" 8, iOf "InvalidWish" "InvalidWish.__init__" 9, iOf "NotAKind" "NotAKind.__init__" 10, iOf "NotAFormula" "NotAFormula.__init__" 11, iOf "NotABeginning" "NotABeginning.__init__" 12, iOf "NotAScript" "NotAScript.__init__" 13, iOf "NotAStore" "NotAStore.__init__" 14, iOf "NotACell" "NotACell.__init__" 15, iOf "NotLengths" "NotLengths.__init__" 16, iOf "OtherKind" "OtherKind.__init__" 17]
def fnI2 : List He.DefD := [iOf "InvalidFacts" "InvalidFacts.__init__" 18, iOf "InvalidFormulas" "InvalidFormulas.__init__" 19, iOf "InvalidTriples" "InvalidTriples.__init__" 20, iOf "InvalidContents" "InvalidContents.__init__" 21, iOf "InvalidNames" "InvalidNames.__init__" 22, iOf "InvalidRows" "InvalidRows.__init__" 23, iOf "InvalidBoxes" "InvalidBoxes.__init__" 24, iOf "InvalidLost" "InvalidLost.__init__" 25, iOf "InvalidChanges" "InvalidChanges.__init__" 26, iOf "Clash" "Clash.__init__" 27, iOf "UnknownName" "UnknownName.__init__" 29, iOf "InUse" "InUse.__init__" 30, iOf "TooMany" "TooMany.__init__" 32, iOf "Lacking" "Lacking.__init__" 33, iOf "NotWhole" "NotWhole.__init__" 34, iOf "Broken" "Broken.__init__" 36]
def fnA : List He.DefD := fnD ++ (fnI1 ++ fnI2)
def obsX (K : PySem.W.Frag) : He.AlD := (factB K && fnA.all fun d => d.ok K, fnA.map fun d => He.fnW K d.at_)
def valX : He.AlD := (true, fnA.map He.DefD.val)
def obsXG (g : Addr → Option Obj) : He.AlD := obsX (kA g)
def hookX : PySem.W.Hook where
  α := He.AlD
  obs := fun s => obsXG s.heap.get?
  val := fun _ => valX
  says := fun _ h => ∃ K : PySem.W.Frag, K.In h ∧ obsX K = valX
  of := fun _ _ e => ⟨_, He.frG_in, e⟩
  keeps := fun _ _ _ ⟨K, hK, c⟩ k => ⟨K, PySem.W.Frag.In.keeps hK k, c⟩
abbrev R : PySem.W.OpenRow := PySem.W.OpenLaw.row PySem.Challenge.rw_thirdback_k01_limits_and_errors
def ob (s : PySem.W.SharedT) : He.AlD := obsXG (HandSHeadRun.getT s)
theorem ob_eq (s : PySem.W.SharedT) : ob s = hookX.obs s.abs := by
  have e : HandSHeadRun.getT s = s.abs.heap.get? := funext fun a => HandSHeadRun.getT_eq s a
  unfold ob
  rw [e]
  rfl
def loose1 : List Str := [("WrongValue" : Str), ("InvalidName" : Str), ("InvalidText" : Str), ("InvalidFlag" : Str), ("InvalidNumber" : Str), ("InvalidTurns" : Str), ("InvalidTriple" : Str), ("InvalidIndex" : Str), ("InvalidWish" : Str), ("NotAKind" : Str), ("NotAFormula" : Str), ("NotABeginning" : Str), ("NotAScript" : Str), ("NotAStore" : Str), ("NotACell" : Str), ("NotLengths" : Str), ("OtherKind" : Str), ("InvalidFacts" : Str), ("InvalidFormulas" : Str), ("InvalidTriples" : Str), ("InvalidContents" : Str), ("InvalidNames" : Str), ("InvalidRows" : Str), ("InvalidBoxes" : Str), ("InvalidLost" : Str), ("InvalidChanges" : Str), ("Clash" : Str), ("WrongName" : Str), ("UnknownName" : Str), ("InUse" : Str), ("NoAnswer" : Str), ("TooMany" : Str), ("Lacking" : Str), ("NotWhole" : Str), ("NothingToUndo" : Str), ("Broken" : Str)]
def loose2 : List Str := [("MOST_OPERATIONS" : Str), ("MOST_FACTS" : Str), ("MOST_FORMULAS" : Str), ("MOST_THINGS" : Str), ("MOST_ROWS" : Str), ("MOST_TESTS" : Str), ("MOST_BOXES" : Str), ("MOST_SIDE" : Str), ("MOST_INNER" : Str), ("MOST_TRIPLES" : Str), ("MOST_STORED" : Str), ("MOST_CELLS" : Str), ("MOST_LOST" : Str), ("MOST_CHANGES" : Str), ("MOST_TRIALS" : Str), ("MOST_GROWN" : Str), ("_law_cell" : Str), ("_law_purse" : Str), ("_law_draw" : Str), ("_law_alike" : Str), ("_law_odd" : Str), ("_law_by_place" : Str), ("_law_by_name" : Str), ("_law_sorts" : Str), ("_law_kept" : Str), ("_law_error_right" : Str), ("_law_constants_right" : Str), ("_law_right" : Str)]
def looseN : List Str := loose1 ++ loose2
theorem run (w : World) : HandSHeadRun.RunEq R (PySem.W.view R.prog [66]) hookX ob 20000 looseN w := by
  intro os
  kernel_rfl
end L2.K1
set_option Elab.async false
set_option linter.all false
set_option maxRecDepth 100000
set_option maxHeartbeats 0
namespace L2.K1
open PySem PySem.Spec PyProof.Rows L2.Tb
section
variable {P : Program} {w : World} {K : PySem.W.Frag} {mg : Str → Option Value} {base h : Heap}
theorem facts_all {α : Type} {p : α → Bool} {l : List α} (h : l.all p = true) (i : Nat) {a : α} (e : l[i]? = some a := by rfl) : p a = true := List.all_eq_true.mp h a (List.mem_of_getElem? e)
theorem def_of (c : obsX K = valX) (i : Nat) {d : He.DefD} (h : fnA[i]? = some d := by rfl) : ∃ fd, FunD K d.name d.qual d.params d.body d.scope (d.dvs K) (d.kws K) (He.fAd K d.at_) fd := by
  have c1 : (factB K && fnA.all fun d => d.ok K) = true := congrArg (fun z : He.AlD => z.1) c
  have c2 : fnA.map (fun d => He.fnW K d.at_) = fnA.map He.DefD.val := congrArg (fun z : He.AlD => z.2) c
  have c3 : (fnA.map fun d => He.fnW K d.at_)[i]? = (fnA.map He.DefD.val)[i]? := by rw [c2]
  rw [List.getElem?_map, List.getElem?_map, h] at c3
  exact He.DefD.funD (Option.some.inj c3) (facts_all (He.ba c1).2 i h)
theorem binds_kw {x q fl : Str} {params : Arguments} {body : List Stmt} {scope : Scope} {f : Addr} {fd : FuncData} (F : FunD K x q params body scope [] [] f fd)
    (hk : ∀ (kV doc pm : Value) (an : Option Addr) (cdv ct u v : Value), bindArgs (PySem.W.fnOf x q params body scope .none kV doc pm an cdv ct) ⟨[u], [(fl, v)]⟩ = pure [(("self" : Str), u), (fl, v)]) (sh : Shared) (a : Addr) (zs : List Value)
    (hl : zs.length = [fl].length) : BindsTo sh fd ⟨[Value.ref a], [fl].zip zs⟩ (("self" :: [fl] : List Str).zip (Value.ref a :: zs)) := by
  obtain ⟨oc, od, dV, kV, doc, pm, an, cdv, ct, osl, rfl, lk, hcd, hD, hK⟩ := F.ex
  match zs, hl with
  | [v], _ =>
    rcases hD with ⟨_, rfl⟩ | ⟨e, _⟩
    · exact .of_eq (hk kV doc pm an cdv ct _ v)
    · exact absurd rfl e
theorem erc {i : Nat} {st : Stmt} {x q fl : Str} {b : Bs} {p1 p2 p3 p4 : Pos} (X : K.In h) (G : h.Ns mainGlobals mg) (e : exB K i = true) (hi : Nat.beq i 31 = false) (hx : cnm i = x) (hfl : fls.getD i "" = fl) (hb : bss i = b) (ok : b.Ok)
    (hF : ∃ fd, FunD K "__init__" q (defArgs st) (defBody st) (defScope st) [] [] (He.fAd K (x, some "__init__")) fd) (hbody : defBody st = [.Assign [.Attribute (.Name "self" p1) fl p2] (.Name fl p3) p4])
    (S : FnScope ["self", fl] ["self", fl] (defScope st)) (h0 : (defScope st).names.lookup ("self" : Str) = some .local) (h1 : (defScope st).names.lookup fl = some .local) (hd : (fl == ("__debug__" : Str)) = false) (hcd : (fl == ("__classdict__" : Str)) = false)
    (hp : ∀ (kV doc pm : Value) (an : Option Addr) (cdv ct : Value) (us : List Value), us.length = (["self", fl] : List Str).length → bindArgs (PySem.W.fnOf "__init__" q (defArgs st) (defBody st) (defScope st) .none kV doc pm an cdv ct) ⟨us, []⟩ = pure ((["self", fl] : List Str).zip us))
    (hk : ∀ (kV doc pm : Value) (an : Option Addr) (cdv ct u v : Value), bindArgs (PySem.W.fnOf "__init__" q (defArgs st) (defBody st) (defScope st) .none kV doc pm an cdv ct) ⟨[u], [(fl, v)]⟩ = pure [(("self" : Str), u), (fl, v)]) :
    ErC P w K mg base x fl b (Ca K i) := by
  subst hx hfl hb
  obtain ⟨e1, e2⟩ := He.ba e
  obtain ⟨e2, e3⟩ := He.ba e2
  rw [hi] at e3
  obtain ⟨e3, e4⟩ := He.ba (show ((He.Fa.meth (cnm i) "__init__").ok K && (He.Fa.noat (cnm i) (fls.getD i "")).ok K) = true from e3)
  have m := He.meth_ok e3
  obtain ⟨fd, F⟩ := hF
  refine ⟨He.glo_ok X G e1, ecB_ok ok e2, He.noat_ok e4, _, fd, m.1, beq_iff_eq.mp m.2, ?_, F.bindsN hp, binds_kw F hk⟩
  rw [hbody] at F
  exact init_ok F S h0 h1 hd hcd
theorem ers_of (X : K.In h) (G : h.Ns mainGlobals mg) (c : obsX K = valX) (fb : factB K = true) : Ers P w K mg base (Ca K) := by
  obtain ⟨f1, fb⟩ := He.ba fb
  obtain ⟨f2, fb⟩ := He.ba fb
  obtain ⟨f3, fb⟩ := He.ba fb
  obtain ⟨f4, fb⟩ := He.ba fb
  obtain ⟨f5, f6⟩ := He.ba fb
  have ex : ∀ i, i < 33 → exB K i = true := fun i hi => List.all_eq_true.mp f4 i (List.mem_range.mpr hi)
  have ok : ∀ i, (bss i).Ok := fun i => by
    unfold bss
    split
    · exact bVE_ok
    · split
      · exact bLE_ok
      · exact bAE_ok
  have bw : ∀ i, i < 33 → _ := fun i hi => List.all_eq_true.mp f6 i (List.mem_range.mpr hi)
  refine ⟨erc (i := 0) (st := inClass (top 2) 0) X G (ex 0 (by decide)) rfl rfl rfl rfl bVE_ok (def_of c 13 (d := iOf "InvalidName" "InvalidName.__init__" 2) rfl) rfl ⟨rfl, rfl, rfl, by decide +kernel, rfl, by decide +kernel, by decide +kernel⟩ rfl rfl (by decide) (by decide) (fun _ _ _ _ _ _ us hl => match us, hl with | [_, _], _ => rfl) (fun _ _ _ _ _ _ _ _ => rfl),
    erc (i := 1) (st := inClass (top 3) 0) X G (ex 1 (by decide)) rfl rfl rfl rfl bVE_ok (def_of c 14 (d := iOf "InvalidText" "InvalidText.__init__" 3) rfl) rfl ⟨rfl, rfl, rfl, by decide +kernel, rfl, by decide +kernel, by decide +kernel⟩ rfl rfl (by decide) (by decide) (fun _ _ _ _ _ _ us hl => match us, hl with | [_, _], _ => rfl) (fun _ _ _ _ _ _ _ _ => rfl),
    erc (i := 2) (st := inClass (top 4) 0) X G (ex 2 (by decide)) rfl rfl rfl rfl bVE_ok (def_of c 15 (d := iOf "InvalidFlag" "InvalidFlag.__init__" 4) rfl) rfl ⟨rfl, rfl, rfl, by decide +kernel, rfl, by decide +kernel, by decide +kernel⟩ rfl rfl (by decide) (by decide) (fun _ _ _ _ _ _ us hl => match us, hl with | [_, _], _ => rfl) (fun _ _ _ _ _ _ _ _ => rfl),
    erc (i := 3) (st := inClass (top 5) 0) X G (ex 3 (by decide)) rfl rfl rfl rfl bVE_ok (def_of c 16 (d := iOf "InvalidNumber" "InvalidNumber.__init__" 5) rfl) rfl ⟨rfl, rfl, rfl, by decide +kernel, rfl, by decide +kernel, by decide +kernel⟩ rfl rfl (by decide) (by decide) (fun _ _ _ _ _ _ us hl => match us, hl with | [_, _], _ => rfl) (fun _ _ _ _ _ _ _ _ => rfl),
    erc (i := 4) (st := inClass (top 6) 0) X G (ex 4 (by decide)) rfl rfl rfl rfl bVE_ok (def_of c 17 (d := iOf "InvalidTurns" "InvalidTurns.__init__" 6) rfl) rfl ⟨rfl, rfl, rfl, by decide +kernel, rfl, by decide +kernel, by decide +kernel⟩ rfl rfl (by decide) (by decide) (fun _ _ _ _ _ _ us hl => match us, hl with | [_, _], _ => rfl) (fun _ _ _ _ _ _ _ _ => rfl),
    erc (i := 5) (st := inClass (top 7) 0) X G (ex 5 (by decide)) rfl rfl rfl rfl bVE_ok (def_of c 18 (d := iOf "InvalidTriple" "InvalidTriple.__init__" 7) rfl) rfl ⟨rfl, rfl, rfl, by decide +kernel, rfl, by decide +kernel, by decide +kernel⟩ rfl rfl (by decide) (by decide) (fun _ _ _ _ _ _ us hl => match us, hl with | [_, _], _ => rfl) (fun _ _ _ _ _ _ _ _ => rfl),
    erc (i := 6) (st := inClass (top 8) 0) X G (ex 6 (by decide)) rfl rfl rfl rfl bVE_ok (def_of c 19 (d := iOf "InvalidIndex" "InvalidIndex.__init__" 8) rfl) rfl ⟨rfl, rfl, rfl, by decide +kernel, rfl, by decide +kernel, by decide +kernel⟩ rfl rfl (by decide) (by decide) (fun _ _ _ _ _ _ us hl => match us, hl with | [_, _], _ => rfl) (fun _ _ _ _ _ _ _ _ => rfl),
    erc (i := 7) (st := inClass (top 9) 0) X G (ex 7 (by decide)) rfl rfl rfl rfl bVE_ok (def_of c 20 (d := iOf "InvalidWish" "InvalidWish.__init__" 9) rfl) rfl ⟨rfl, rfl, rfl, by decide +kernel, rfl, by decide +kernel, by decide +kernel⟩ rfl rfl (by decide) (by decide) (fun _ _ _ _ _ _ us hl => match us, hl with | [_, _], _ => rfl) (fun _ _ _ _ _ _ _ _ => rfl),
    erc (i := 8) (st := inClass (top 10) 0) X G (ex 8 (by decide)) rfl rfl rfl rfl bVE_ok (def_of c 21 (d := iOf "NotAKind" "NotAKind.__init__" 10) rfl) rfl ⟨rfl, rfl, rfl, by decide +kernel, rfl, by decide +kernel, by decide +kernel⟩ rfl rfl (by decide) (by decide) (fun _ _ _ _ _ _ us hl => match us, hl with | [_, _], _ => rfl) (fun _ _ _ _ _ _ _ _ => rfl),
    erc (i := 9) (st := inClass (top 11) 0) X G (ex 9 (by decide)) rfl rfl rfl rfl bVE_ok (def_of c 22 (d := iOf "NotAFormula" "NotAFormula.__init__" 11) rfl) rfl ⟨rfl, rfl, rfl, by decide +kernel, rfl, by decide +kernel, by decide +kernel⟩ rfl rfl (by decide) (by decide) (fun _ _ _ _ _ _ us hl => match us, hl with | [_, _], _ => rfl) (fun _ _ _ _ _ _ _ _ => rfl),
    erc (i := 10) (st := inClass (top 12) 0) X G (ex 10 (by decide)) rfl rfl rfl rfl bVE_ok (def_of c 23 (d := iOf "NotABeginning" "NotABeginning.__init__" 12) rfl) rfl ⟨rfl, rfl, rfl, by decide +kernel, rfl, by decide +kernel, by decide +kernel⟩ rfl rfl (by decide) (by decide) (fun _ _ _ _ _ _ us hl => match us, hl with | [_, _], _ => rfl) (fun _ _ _ _ _ _ _ _ => rfl),
    erc (i := 11) (st := inClass (top 13) 0) X G (ex 11 (by decide)) rfl rfl rfl rfl bVE_ok (def_of c 24 (d := iOf "NotAScript" "NotAScript.__init__" 13) rfl) rfl ⟨rfl, rfl, rfl, by decide +kernel, rfl, by decide +kernel, by decide +kernel⟩ rfl rfl (by decide) (by decide) (fun _ _ _ _ _ _ us hl => match us, hl with | [_, _], _ => rfl) (fun _ _ _ _ _ _ _ _ => rfl),
    erc (i := 12) (st := inClass (top 14) 0) X G (ex 12 (by decide)) rfl rfl rfl rfl bVE_ok (def_of c 25 (d := iOf "NotAStore" "NotAStore.__init__" 14) rfl) rfl ⟨rfl, rfl, rfl, by decide +kernel, rfl, by decide +kernel, by decide +kernel⟩ rfl rfl (by decide) (by decide) (fun _ _ _ _ _ _ us hl => match us, hl with | [_, _], _ => rfl) (fun _ _ _ _ _ _ _ _ => rfl),
    erc (i := 13) (st := inClass (top 15) 0) X G (ex 13 (by decide)) rfl rfl rfl rfl bVE_ok (def_of c 26 (d := iOf "NotACell" "NotACell.__init__" 15) rfl) rfl ⟨rfl, rfl, rfl, by decide +kernel, rfl, by decide +kernel, by decide +kernel⟩ rfl rfl (by decide) (by decide) (fun _ _ _ _ _ _ us hl => match us, hl with | [_, _], _ => rfl) (fun _ _ _ _ _ _ _ _ => rfl),
    erc (i := 14) (st := inClass (top 16) 0) X G (ex 14 (by decide)) rfl rfl rfl rfl bVE_ok (def_of c 27 (d := iOf "NotLengths" "NotLengths.__init__" 16) rfl) rfl ⟨rfl, rfl, rfl, by decide +kernel, rfl, by decide +kernel, by decide +kernel⟩ rfl rfl (by decide) (by decide) (fun _ _ _ _ _ _ us hl => match us, hl with | [_, _], _ => rfl) (fun _ _ _ _ _ _ _ _ => rfl),
    erc (i := 15) (st := inClass (top 17) 0) X G (ex 15 (by decide)) rfl rfl rfl rfl bVE_ok (def_of c 28 (d := iOf "OtherKind" "OtherKind.__init__" 17) rfl) rfl ⟨rfl, rfl, rfl, by decide +kernel, rfl, by decide +kernel, by decide +kernel⟩ rfl rfl (by decide) (by decide) (fun _ _ _ _ _ _ us hl => match us, hl with | [_, _], _ => rfl) (fun _ _ _ _ _ _ _ _ => rfl),
    erc (i := 16) (st := inClass (top 18) 0) X G (ex 16 (by decide)) rfl rfl rfl rfl bVE_ok (def_of c 29 (d := iOf "InvalidFacts" "InvalidFacts.__init__" 18) rfl) rfl ⟨rfl, rfl, rfl, by decide +kernel, rfl, by decide +kernel, by decide +kernel⟩ rfl rfl (by decide) (by decide) (fun _ _ _ _ _ _ us hl => match us, hl with | [_, _], _ => rfl) (fun _ _ _ _ _ _ _ _ => rfl),
    erc (i := 17) (st := inClass (top 19) 0) X G (ex 17 (by decide)) rfl rfl rfl rfl bVE_ok (def_of c 30 (d := iOf "InvalidFormulas" "InvalidFormulas.__init__" 19) rfl) rfl ⟨rfl, rfl, rfl, by decide +kernel, rfl, by decide +kernel, by decide +kernel⟩ rfl rfl (by decide) (by decide) (fun _ _ _ _ _ _ us hl => match us, hl with | [_, _], _ => rfl) (fun _ _ _ _ _ _ _ _ => rfl),
    erc (i := 18) (st := inClass (top 20) 0) X G (ex 18 (by decide)) rfl rfl rfl rfl bVE_ok (def_of c 31 (d := iOf "InvalidTriples" "InvalidTriples.__init__" 20) rfl) rfl ⟨rfl, rfl, rfl, by decide +kernel, rfl, by decide +kernel, by decide +kernel⟩ rfl rfl (by decide) (by decide) (fun _ _ _ _ _ _ us hl => match us, hl with | [_, _], _ => rfl) (fun _ _ _ _ _ _ _ _ => rfl),
    erc (i := 19) (st := inClass (top 21) 0) X G (ex 19 (by decide)) rfl rfl rfl rfl bVE_ok (def_of c 32 (d := iOf "InvalidContents" "InvalidContents.__init__" 21) rfl) rfl ⟨rfl, rfl, rfl, by decide +kernel, rfl, by decide +kernel, by decide +kernel⟩ rfl rfl (by decide) (by decide) (fun _ _ _ _ _ _ us hl => match us, hl with | [_, _], _ => rfl) (fun _ _ _ _ _ _ _ _ => rfl),
    erc (i := 20) (st := inClass (top 22) 0) X G (ex 20 (by decide)) rfl rfl rfl rfl bVE_ok (def_of c 33 (d := iOf "InvalidNames" "InvalidNames.__init__" 22) rfl) rfl ⟨rfl, rfl, rfl, by decide +kernel, rfl, by decide +kernel, by decide +kernel⟩ rfl rfl (by decide) (by decide) (fun _ _ _ _ _ _ us hl => match us, hl with | [_, _], _ => rfl) (fun _ _ _ _ _ _ _ _ => rfl),
    erc (i := 21) (st := inClass (top 23) 0) X G (ex 21 (by decide)) rfl rfl rfl rfl bVE_ok (def_of c 34 (d := iOf "InvalidRows" "InvalidRows.__init__" 23) rfl) rfl ⟨rfl, rfl, rfl, by decide +kernel, rfl, by decide +kernel, by decide +kernel⟩ rfl rfl (by decide) (by decide) (fun _ _ _ _ _ _ us hl => match us, hl with | [_, _], _ => rfl) (fun _ _ _ _ _ _ _ _ => rfl),
    erc (i := 22) (st := inClass (top 24) 0) X G (ex 22 (by decide)) rfl rfl rfl rfl bVE_ok (def_of c 35 (d := iOf "InvalidBoxes" "InvalidBoxes.__init__" 24) rfl) rfl ⟨rfl, rfl, rfl, by decide +kernel, rfl, by decide +kernel, by decide +kernel⟩ rfl rfl (by decide) (by decide) (fun _ _ _ _ _ _ us hl => match us, hl with | [_, _], _ => rfl) (fun _ _ _ _ _ _ _ _ => rfl),
    erc (i := 23) (st := inClass (top 25) 0) X G (ex 23 (by decide)) rfl rfl rfl rfl bVE_ok (def_of c 36 (d := iOf "InvalidLost" "InvalidLost.__init__" 25) rfl) rfl ⟨rfl, rfl, rfl, by decide +kernel, rfl, by decide +kernel, by decide +kernel⟩ rfl rfl (by decide) (by decide) (fun _ _ _ _ _ _ us hl => match us, hl with | [_, _], _ => rfl) (fun _ _ _ _ _ _ _ _ => rfl),
    erc (i := 24) (st := inClass (top 26) 0) X G (ex 24 (by decide)) rfl rfl rfl rfl bVE_ok (def_of c 37 (d := iOf "InvalidChanges" "InvalidChanges.__init__" 26) rfl) rfl ⟨rfl, rfl, rfl, by decide +kernel, rfl, by decide +kernel, by decide +kernel⟩ rfl rfl (by decide) (by decide) (fun _ _ _ _ _ _ us hl => match us, hl with | [_, _], _ => rfl) (fun _ _ _ _ _ _ _ _ => rfl),
    erc (i := 25) (st := inClass (top 27) 0) X G (ex 25 (by decide)) rfl rfl rfl rfl bVE_ok (def_of c 38 (d := iOf "Clash" "Clash.__init__" 27) rfl) rfl ⟨rfl, rfl, rfl, by decide +kernel, rfl, by decide +kernel, by decide +kernel⟩ rfl rfl (by decide) (by decide) (fun _ _ _ _ _ _ us hl => match us, hl with | [_, _], _ => rfl) (fun _ _ _ _ _ _ _ _ => rfl),
    erc (i := 26) (st := inClass (top 29) 0) X G (ex 26 (by decide)) rfl rfl rfl rfl bLE_ok (def_of c 39 (d := iOf "UnknownName" "UnknownName.__init__" 29) rfl) rfl ⟨rfl, rfl, rfl, by decide +kernel, rfl, by decide +kernel, by decide +kernel⟩ rfl rfl (by decide) (by decide) (fun _ _ _ _ _ _ us hl => match us, hl with | [_, _], _ => rfl) (fun _ _ _ _ _ _ _ _ => rfl),
    erc (i := 27) (st := inClass (top 30) 0) X G (ex 27 (by decide)) rfl rfl rfl rfl bLE_ok (def_of c 40 (d := iOf "InUse" "InUse.__init__" 30) rfl) rfl ⟨rfl, rfl, rfl, by decide +kernel, rfl, by decide +kernel, by decide +kernel⟩ rfl rfl (by decide) (by decide) (fun _ _ _ _ _ _ us hl => match us, hl with | [_, _], _ => rfl) (fun _ _ _ _ _ _ _ _ => rfl),
    erc (i := 28) (st := inClass (top 32) 0) X G (ex 28 (by decide)) rfl rfl rfl rfl bAE_ok (def_of c 41 (d := iOf "TooMany" "TooMany.__init__" 32) rfl) rfl ⟨rfl, rfl, rfl, by decide +kernel, rfl, by decide +kernel, by decide +kernel⟩ rfl rfl (by decide) (by decide) (fun _ _ _ _ _ _ us hl => match us, hl with | [_, _], _ => rfl) (fun _ _ _ _ _ _ _ _ => rfl),
    erc (i := 29) (st := inClass (top 33) 0) X G (ex 29 (by decide)) rfl rfl rfl rfl bAE_ok (def_of c 42 (d := iOf "Lacking" "Lacking.__init__" 33) rfl) rfl ⟨rfl, rfl, rfl, by decide +kernel, rfl, by decide +kernel, by decide +kernel⟩ rfl rfl (by decide) (by decide) (fun _ _ _ _ _ _ us hl => match us, hl with | [_, _], _ => rfl) (fun _ _ _ _ _ _ _ _ => rfl),
    erc (i := 30) (st := inClass (top 34) 0) X G (ex 30 (by decide)) rfl rfl rfl rfl bAE_ok (def_of c 43 (d := iOf "NotWhole" "NotWhole.__init__" 34) rfl) rfl ⟨rfl, rfl, rfl, by decide +kernel, rfl, by decide +kernel, by decide +kernel⟩ rfl rfl (by decide) (by decide) (fun _ _ _ _ _ _ us hl => match us, hl with | [_, _], _ => rfl) (fun _ _ _ _ _ _ _ _ => rfl),
    erc (i := 32) (st := inClass (top 36) 0) X G (ex 32 (by decide)) rfl rfl rfl rfl bAE_ok (def_of c 44 (d := iOf "Broken" "Broken.__init__" 36) rfl) rfl ⟨rfl, rfl, rfl, by decide +kernel, rfl, by decide +kernel, by decide +kernel⟩ rfl rfl (by decide) (by decide) (fun _ _ _ _ _ _ us hl => match us, hl with | [_, _], _ => rfl) (fun _ _ _ _ _ _ _ _ => rfl), ?_, ?_, ?_, ?_, ?_, ?_⟩
  · obtain ⟨e1, e2⟩ := He.ba (ex 31 (by decide))
    obtain ⟨e2, e3⟩ := He.ba e2
    exact ⟨He.glo_ok X G e1, ecB_ok bAE_ok e2, of_decide_eq_true e3⟩
  · intro i j hi hj
    exact of_decide_eq_true (List.all_eq_true.mp (List.all_eq_true.mp f5 i (List.mem_range.mpr hi)) j (List.mem_range.mpr hj))
  · refine ⟨_, _, _, He.glo_ok X G (facts_all f1 0), He.glo_ok X G (facts_all f1 1), He.glo_ok X G (facts_all f1 2), fun i hi => ?_⟩
    obtain ⟨b1, z⟩ := He.ba (bw i hi)
    obtain ⟨b2, z⟩ := He.ba z
    obtain ⟨b3, z⟩ := He.ba z
    exact ⟨of_decide_eq_true b1, of_decide_eq_true b2, of_decide_eq_true b3⟩
  · intro i hi
    obtain ⟨b1, z⟩ := He.ba (bw i hi)
    obtain ⟨b2, z⟩ := He.ba z
    obtain ⟨b3, z⟩ := He.ba z
    obtain ⟨b4, z⟩ := He.ba z
    obtain ⟨b5, b6⟩ := He.ba z
    exact ⟨of_decide_eq_true b4, of_decide_eq_true b5, of_decide_eq_true b6⟩
  · intro i hi
    exact ⟨bss i, ecB_ok (ok i) (He.ba (He.ba (ex i hi)).2).1⟩
  · intro i hi hne
    have z := (He.ba (He.ba (ex i hi)).2).2
    rw [show Nat.beq i 31 = false from Bool.eq_false_iff.mpr fun q => hne (Nat.eq_of_beq_eq_true q)] at z
    exact He.noat_ok (He.ba (show ((He.Fa.meth (cnm i) "__init__").ok K && (He.Fa.noat (cnm i) (fls.getD i "")).ok K) = true from z)).2
theorem ends {f : Addr} (X : K.In h) (G : h.Ns mainGlobals mg) (hfa : mg ("law" : Str) = some (.ref f)) (c : obsX K = valX) :
    ∃ fd : FuncData, (∀ (s : Shared) (v : Value), BindsTo s fd ⟨[v], []⟩ [("_law_cells", v)]) ∧ ∀ base : Heap, K.In base → base.Ns mainGlobals mg → RunsAt P w K mg base f fd ["_law_cells"] (spLaw K) callerA := by
  have fb : factB K = true := (He.ba (show (factB K && fnA.all fun d => d.ok K) = true from congrArg (fun z : He.AlD => z.1) c)).1
  have f1 := (He.ba fb).1
  have f2 := (He.ba (He.ba fb).2).1
  have f3 := (He.ba (He.ba (He.ba fb).2).2).1
  have T : Bt mg := ⟨He.free_ok X G (facts_all f2 0), He.free_ok X G (facts_all f2 1), He.free_ok X G (facts_all f2 2), He.free_ok X G (facts_all f2 3), He.free_ok X G (facts_all f2 4), He.free_ok X G (facts_all f2 5), He.free_ok X G (facts_all f2 6), He.free_ok X G (facts_all f2 7), He.free_ok X G (facts_all f2 8), He.free_ok X G (facts_all f2 9), He.free_ok X G (facts_all f2 10), He.free_ok X G (facts_all f2 11), He.free_ok X G (facts_all f2 12), He.free_ok X G (facts_all f2 13), He.free_ok X G (facts_all f2 14), He.free_ok X G (facts_all f2 15), He.free_ok X G (facts_all f2 16), He.free_ok X G (facts_all f2 17), He.free_ok X G (facts_all f2 18)⟩
  have k : Ks mg := ⟨He.int_ok X G (facts_all f3 0), He.int_ok X G (facts_all f3 1), He.int_ok X G (facts_all f3 2), He.int_ok X G (facts_all f3 3), He.int_ok X G (facts_all f3 4), He.int_ok X G (facts_all f3 5), He.int_ok X G (facts_all f3 6), He.int_ok X G (facts_all f3 7), He.int_ok X G (facts_all f3 8), He.int_ok X G (facts_all f3 9), He.int_ok X G (facts_all f3 10), He.int_ok X G (facts_all f3 11), He.int_ok X G (facts_all f3 12), He.int_ok X G (facts_all f3 13), He.int_ok X G (facts_all f3 14), He.int_ok X G (facts_all f3 15)⟩
  obtain ⟨fd_cell, F_cell⟩ := def_of c 0 (d := dOf "_law_cell" 54) rfl
  have g_cell := He.glo_ok X G (facts_all f1 3)
  obtain ⟨fd_purse, F_purse⟩ := def_of c 1 (d := dOf "_law_purse" 55) rfl
  have g_purse := He.glo_ok X G (facts_all f1 4)
  obtain ⟨fd_draw, F_draw⟩ := def_of c 2 (d := dOf "_law_draw" 56) rfl
  have g_draw := He.glo_ok X G (facts_all f1 5)
  obtain ⟨fd_alike, F_alike⟩ := def_of c 3 (d := dOf "_law_alike" 57) rfl
  have g_alike := He.glo_ok X G (facts_all f1 6)
  obtain ⟨fd_odd, F_odd⟩ := def_of c 4 (d := dOf "_law_odd" 58) rfl
  have g_odd := He.glo_ok X G (facts_all f1 7)
  obtain ⟨fd_by_place, F_by_place⟩ := def_of c 5 (d := dOf "_law_by_place" 59) rfl
  have g_by_place := He.glo_ok X G (facts_all f1 8)
  obtain ⟨fd_by_name, F_by_name⟩ := def_of c 6 (d := dOf "_law_by_name" 60) rfl
  have g_by_name := He.glo_ok X G (facts_all f1 9)
  obtain ⟨fd_sorts, F_sorts⟩ := def_of c 7 (d := dOf "_law_sorts" 61) rfl
  have g_sorts := He.glo_ok X G (facts_all f1 10)
  obtain ⟨fd_kept, F_kept⟩ := def_of c 8 (d := dOf "_law_kept" 62) rfl
  have g_kept := He.glo_ok X G (facts_all f1 11)
  obtain ⟨fd_error_right, F_error_right⟩ := def_of c 9 (d := dOf "_law_error_right" 63) rfl
  have g_error_right := He.glo_ok X G (facts_all f1 12)
  obtain ⟨fd_constants_right, F_constants_right⟩ := def_of c 10 (d := dOf "_law_constants_right" 64) rfl
  have g_constants_right := He.glo_ok X G (facts_all f1 13)
  obtain ⟨fd_right, F_right⟩ := def_of c 11 (d := dOf "_law_right" 65) rfl
  have g_right := He.glo_ok X G (facts_all f1 14)
  obtain ⟨fd_law, F_law⟩ := def_of c 12 (d := dOf "law" 66) rfl
  have g_law := He.glo_ok X G (facts_all f1 15)
  have e := hfa.symm.trans g_law
  cases e
  have room : Room 7 callerA := ⟨rfl, by decide, by decide⟩
  refine ⟨_, fun s v => FunD.bindsA (ps := ["_law_cells"]) F_law (fun _ _ _ _ _ _ us hl => match us, hl with | [_], _ => rfl) s [v] rfl, fun base _ _ => ?_⟩
  have E0 : Ers P w K mg base (Ca K) := ers_of X G c fb
  have k_cell := c_cell (P := P) (w := w) (base := base) T F_cell g_cell
  have k_purse := c_purse (P := P) (w := w) (base := base) T F_purse g_purse
  have k_draw := c_draw (P := P) (w := w) (base := base) T F_draw g_draw
  have k_odd := c_odd (P := P) (w := w) (base := base) T F_odd g_odd k_draw
  have k_alike := c_alike (P := P) (w := w) (base := base) T F_alike g_alike 3
  have k_place := c_by_place E0 F_by_place g_by_place
  have k_name := c_by_name E0 F_by_name g_by_name
  have k_sorts := c_sorts T E0 F_sorts g_sorts
  have k_kept := c_kept E0 F_kept g_kept
  have k_er := c_error_right T E0 F_error_right g_error_right k_sorts k_kept k_alike
  have k_right := c_right T F_right g_right k_odd k_draw k_place k_name k_er
  exact r_law T F_law room (fun env => r_constants T k F_constants_right ((room.deeper env).mono (by decide)) rfl) g_constants_right F_constants_right.kp
    (fun s _ => FunD.bindsA (ps := []) F_constants_right (fun _ _ _ _ _ _ us hl => match us, hl with | [], _ => rfl) s [] rfl) k_cell k_purse k_right
end
end L2.K1
open PySem PySem.W PySem.Calls PyProof.Rows
theorem PySem.Challenge.cw_thirdback_k01_limits_and_errors_holds : PySem.Challenge.rw_thirdback_k01_limits_and_errors.Holds := by
  w_on; o_law
  refine HandSHeadRun.head_any (r := OpenLaw.row PySem.Challenge.rw_thirdback_k01_limits_and_errors) (q := view (OpenLaw.row PySem.Challenge.rw_thirdback_k01_limits_and_errors).prog [66]) (H := L2.K1.hookX) (ob := L2.K1.ob) (M := 20000) (loose := L2.K1.looseN) (d := HandSHeadRun.topDef (OpenLaw.row PySem.Challenge.rw_thirdback_k01_limits_and_errors).prog 66) (kwd := []) L2.K1.ob_eq
    (by kernel_rfl) (fun s => by kernel_rfl) L2.K1.run (by kernel_rfl) (by kernel_rfl) (by kernel_rfl) (by rfl) (by first | assumption | decide +kernel) (by decide +kernel) ⟨rfl, rfl, rfl, rfl, rfl, by decide +kernel⟩ ?hw ?hc
  case hw => w_witness2
  case hc =>
    refine L2.Tb.walk_at (l := PySem.Challenge.rw_thirdback_k01_limits_and_errors) (n := 63) (x := "_law_cells") rfl (by decide) (by kernel_rfl) ?F
    intro w mg fa h Y G hmg0
    obtain ⟨K, KX, c⟩ := Y
    have hmg : mg ("law" : PySem.Str) = some (.ref fa) := by
      have e : (HandSHeadRun.topDef (OpenLaw.row PySem.Challenge.rw_thirdback_k01_limits_and_errors).prog 66).name = ("law" : PySem.Str) := by kernel_rfl
      rw [← e]
      exact hmg0
    obtain ⟨fd, hb, hF⟩ := L2.K1.ends (P := (PySem.Challenge.rw_thirdback_k01_limits_and_errors).prog) (w := w) KX G hmg c
    exact ⟨K, fd, L2.K1.spLaw K, KX, hb, fun H a ns hl hbits hS => ⟨a, ns, rfl, hS, hbits, hl, fun _ => rfl⟩, hF⟩
