import PyProof.Rows.All
import Wide.All
import OpenK.AllK
import Wide.FinOn
import KE.KExcInit
import KE.KExcMake
import KE.KIsAll
import HandS.ForMost
import HandS.Exc
import HandS.ExcOwn
import HandS.ExcInit
import HandS.ExcIs
import HandS.ExcField
import HandS.IsInst
import HandS.Defaults
import KE.KExcIs
import HandS.Walk
import HandS.Zip
import HandS.Wide
import HandS.WideBits
import HandS.DeepEq
import HandS.EndBits
import HandS.Head2
import HandS.HeadHook2
import PyProof.ReprRoads
import KE.KCallOwn
import HandS.More
import PyProof.InstEq
import HandS.MakeKwOnly
import HandS.Codes
import HandS.ClsMeth
import HandS.TryMany
import HandS.EndTab
import HandS.HeadHook4
import HandS.Property
import HandS.HeadNt
import HandS.HeadHook3
import HandS.Small
import HandS.Conv
import HandS.StrMore
import HandS.TupLe
import HandS.FStr
import HandS.RaiseMore
import HandS.Lambda
import HandS.Dict
import PySem.Challenge.RW_thirdback_k02_kinds_and_their_texts
set_option Elab.async false
set_option linter.all false
set_option maxRecDepth 100000
set_option maxHeartbeats 4000000
/-! an own error class over ValueError, LookupError, ArithmeticError alike: it is called (by place or by name), its object gets its first attribute -/
namespace L2.Tb
open PySem PySem.W PySem.Calls PyProof.Rows PySem.HandSPX
/-- a built-in base: its name, its makers, its mro -/
structure Bs where
  B : String
  newId : String
  initId : String
  bm : List Value
structure Bs.Ok (b : Bs) : Prop where
  F : ExcBaseFacts b.B b.newId b.initId b.bm
  S : StoreFacts b.B b.bm "object.__setattr__" "object"
section
variable {prog : Program} {w : World} {A : Around} {R : Result → Shared → Prop} {h : Heap} {g : Array GenState} {dr : Drawn} {tk : Nat} {os : OsState} {b : Bs} {C fI : Addr} {us : List Value} {kw : List (Str × Value)}
/-- C's class object is that of an own class over b -/
def OwnC (h : Heap) (b : Bs) (C : Addr) (bm : List Value) : Prop := ∃ nm q N bs hdct sn sub ab col dd k0 k1 k2 k3 k5, h.get? C = some (excClassObj nm q C N bs bm hdct sn sub ab col dd k0 k1 k2 k3 k5 b.newId)
/-- what the two makers leave behind: the args, the object -/
abbrev laidH (h : Heap) (C : Addr) (us : List Value) : Heap := (h.push (kdv_tup us)).push (excO C h.objs.size)
theorem own_new {bm : List Value} (o : OwnC h b C bm) (F : ExcBaseFacts b.B b.newId b.initId b.bm) (is : ∀ T : String, (Value.ref C :: bm).contains (.type T) = b.bm.contains (.type T)) (hz : us.length ≤ sizeLine) :
    (∀ {M : Model} {A' : Around} {E : Value → Shared → Prop} {Q : Unit → Shared → Prop}, Q () ⟨h, g, dr, tk, os⟩ → wpAny M A' (checkBuiltinCall b.newId ⟨.ref C :: us, kw⟩) Q E ⟨h, g, dr, tk, os⟩) ∧
    ∀ {R' : Result → Shared → Prop}, R' (.ok (.ret (.ref (h.objs.size + 1)))) ⟨laidH h C us, g, dr, tk, os⟩ → codeAny (model prog w) A (.builtin b.newId ⟨.ref C :: us, kw⟩) R' ⟨h, g, dr, tk, os⟩ := by
  obtain ⟨nm, q, N, bs, hdct, sn, sub, ab, col, dd, k0, k1, k2, k3, k5, hC⟩ := o
  have yes := (is b.B).trans F.hasB
  have no1 := (is "AttributeError").trans F.noAttr
  have no2 := (is "NameError").trans F.noName
  constructor
  · intro M A' E Q hq
    have star := F.noStar
    simp only [checkBuiltinCall, F.newKind, F.newSplit, F.newRow]
    repeat (first | (refine wpAny_isSubtype_exc hC ?_; rw [yes]) | refine wpAny_staticBase_exc hC ?_ | refine wpAny_madeBy_exc hC ?_ | refine wpAny_loadPart_at hC ?_ | simp only [bne_self_eq_false, Bool.false_eq_true, if_false] | wp_step)
    exact hq
  · intro R' hq
    have ends := F.ends
    refine codeAny_builtinAt F.entry ?_
    unfold Builtin.«BaseException.__new__»
    refine PySem.wpAt_bind ?_
    show PySem.wpAt _ _ _ (stack >>= _) _ _ _
    refine PySem.wpAt_bind (PySem.wpAt_stack fun _ _ => PySem.wpAt_of_wpAny ?_)
    wp_walk
    refine PySem.wpAt_of_wpAny ?_
    rw [F.owner]
    repeat (first | with_reducible refine wpAny_madeHere_exc F.canon hC ?_ | (with_reducible refine wpAny_isSubtype_exc hC ?_; first | rw [no1] | rw [no2] | rw [yes]) | with_reducible refine wpAny_loadPart_at hC ?_ | wp_step)
    show R' _ _
    rw [Heap.size_push]
    exact hq
/-- C(us, kw), C's own __init__ at fI -/
theorem own_call {bm : List Value} (o : OwnC h b C bm) (ok : b.Ok) (hT : ∀ T : String, bm.contains (.type T) = b.bm.contains (.type T)) (hi : Looks (model prog w) h (typeLookup (.ref C) "__init__") (some (.ref fI)))
    (hb : ∀ self, Looks (model prog w) h (bindSpecial (.ref fI) self) (.ref fI, [self])) (hz : us.length ≤ sizeLine)
    (hq : codeAny (model prog w) (A.under (.builtin "type.__call__" ⟨.ref C :: us, kw⟩)) (.call (.ref fI) ⟨.ref (h.objs.size + 1) :: us, kw⟩) (InitBack (h.objs.size + 1) R) ⟨laidH h C us, g, dr, tk, os⟩) :
    codeAny (model prog w) A (.call (.ref C) ⟨us, kw⟩) R ⟨h, g, dr, tk, os⟩ := by
  have keep : ∀ a x, h.get? a = some x → (laidH h C us).get? a = some x := fun a x e => Heap.get?_push_of_some _ (Heap.get?_push_of_some _ e)
  have there : (laidH h C us).get? (h.objs.size + 1) = some (excO C h.objs.size) := by heap_get
  have self : (Value.ref C :: bm).contains (.ref C) = true := by simp
  have new := @own_new prog w ((A.under (.builtin "type.__call__" ⟨.ref C :: us, kw⟩))) h g dr tk os b C us kw bm o ok.F (fun T => by rw [List.contains_cons, hT]; rfl) hz
  obtain ⟨nm, q, N, bs, hdct, sn, sub, ab, col, dd, k0, k1, k2, k3, k5, hC⟩ := o
  have hC2 := keep _ _ hC
  have ty : (⟨h, g, dr, tk, os⟩ : Shared).TypeIs (.ref C) "type" := ⟨_, hC, rfl⟩
  have l1 := tc_lookup
  have l2 := tc_bind (.ref C)
  have l3 := tc_sub
  refine codeAny_of_tree ?_
  show wpAny _ _ (callAny (.ref C) _) _ _ _
  repeat (any_goals (first | assumption | with_reducible refine wpAny_loadPart_at hC ?_ | wp_step))
  refine ⟨rfl, codeAny_call_builtin_at (Code.quiet_builtin _ (by decide +kernel)) entry_typeCall ?_⟩
  simp only [checkBuiltinCall, tc_kind, tc_split]
  repeat (any_goals (first | assumption | with_reducible refine wpAny_loadPart_at hC ?_ | with_reducible refine wpAny_onRaise ?_ | with_reducible refine wpAny_map ?_ | wp_step))
  repeat (first | with_reducible refine wpAny_madeBy_exc hC ?_ | with_reducible refine wpAny_loadPart_at hC ?_ | wp_step)
  refine codeAny_call_builtin_code (Code.quiet_builtin _ ok.F.quiet) (new.1 (new.2 ?_))
  show wpAny _ _ _ _ _ _
  unfold isInstance
  repeat (first | with_reducible refine wpAny_loadPart_at there ?_ | (with_reducible refine wpAny_isSubtype_exc hC2 ?_; rw [self]) | wp_step)
  show wpAny _ _ (typeLookup (.ref C) _) _ _ _
  refine (hi.keeps keep).at (wpAny_holding (wpAny_bind (((hb _).keeps keep).at (wpAny_bind (wpAny_call (codeAny_mono hq fun r s' z => ?_))))))
  match r, z with
  | .error e, z => exact z
  | .ok (.ret v), ⟨e, z⟩ =>
    subst e
    first
      | exact wpAny_pure (wpAny_pure z)
      | (wp_walk; exact z)
end
/-! ### self.name = v on an own error that has no dict yet -/
section
variable {prog : Program} {w : World} {A : Around} {R : Result → Shared → Prop} {hp : Heap} {g : Array GenState} {dr : Drawn} {tk : Nat} {os : OsState}
theorem own_store {K : Frag} {name : Str} {t1 : Tok} {v : Value} {x C t0 : Addr} {b : Bs} (ok : b.Ok) (X : K.In hp) (hx : hp.get? x = some (excObj C t0 none .none)) (ov : excOver K C b.bm = true) (hd : hasDictIn K C = true) (no : findIn K (.ref C) name = some none)
    (hq : ∀ h' tk' dx, (∀ b o, b ≠ x → hp.get? b = some o → h'.get? b = some o) → hp.objs.size ≤ dx → dx ≠ x → h'.get? x = some (excObj C t0 (some dx) .none) → h'.Ns1 dx (fun y => if y = name then some v else none) → R (.ok (.ret .none)) ⟨h', g, dr, tk', os⟩) :
    codeAny (model prog w) A (.call (.builtin "object.__setattr__") ⟨[.ref x, .str name t1, v], []⟩) R ⟨hp, g, dr, tk, os⟩ := by
  have far : x ≠ hp.objs.size := Nat.ne_of_lt (Heap.lt_size hx)
  obtain ⟨cd, hc, hd'⟩ := any_some hd
  refine osa_openX (s := ⟨hp, g, dr, tk, os⟩) (od := none) (r := none) ok.S X ⟨hx, rfl, rfl, trivial⟩ ov (by unfold takerIn; rw [no]; rfl) fun bb => ?_
  refine wpAny_bind (wpAny_pure (wpAny_bind (instanceDict_exc (s := ⟨hp, g, dr, tk, os⟩) hx (looks_clsIn X hc) hd' ?_)))
  have hx1 := (hp.get?_push_of_some (dictOf [] 0) hx)
  refine store_in_new ⟨_, #[], _, (Heap.get?_update_ne _ _ _ _ far.symm).trans (Heap.get?_push_at rfl rfl), rfl, fun e he => absurd he (by simp), fun _ => rfl⟩ fun h' tk' hn hs => ?_
  refine hq h' tk' hp.objs.size (fun a o ne ho => (hs.2 a (Nat.ne_of_lt (Heap.lt_size ho))).trans ((Heap.get?_update_ne _ _ _ _ ne).trans (Heap.get?_push_of_some _ ho))) (Nat.le_refl _) far.symm ?_ hn
  exact (hs.2 x far).trans (Heap.get?_update_self _ hx1 rfl)
end
end L2.Tb
set_option Elab.async false
set_option linter.all false
set_option maxRecDepth 100000
set_option maxHeartbeats 4000000
namespace L2.Tb
open PySem PySem.Spec PyProof.Rows L2
def bVE : Bs := ⟨"ValueError", "ValueError.__new__", "ValueError.__init__", [.type "ValueError", .type "Exception", .type "BaseException", .type "object"]⟩
def bLE : Bs := ⟨"LookupError", "LookupError.__new__", "LookupError.__init__", [.type "LookupError", .type "Exception", .type "BaseException", .type "object"]⟩
def bAE : Bs := ⟨"ArithmeticError", "ArithmeticError.__new__", "ArithmeticError.__init__", [.type "ArithmeticError", .type "Exception", .type "BaseException", .type "object"]⟩
theorem bVE_ok : bVE.Ok := ⟨PySem.F.excBase_ValueError, PySem.F.store_ValueError⟩
theorem bLE_ok : bLE.Ok := ⟨PySem.F.excBase_LookupError, PySem.F.store_LookupError⟩
theorem bAE_ok : bAE.Ok := ⟨PySem.F.excBase_ArithmeticError, PySem.F.store_ArithmeticError⟩
/-- an own exception class over the base b -/
structure EC (K : PySem.W.Frag) (b : Bs) (C : Addr) : Prop where
  ok : b.Ok
  own : PySem.W.excInitIn K C b.bm b.newId = true
  sa : PySem.W.findIn K (.ref C) "__setattr__" = some (some (.builtin "object.__setattr__"))
  kC : PySem.W.keepIn K (.ref C) = true
  ex : ExcC K C
  ov : PySem.W.excOver K C b.bm = true
def ecB (K : PySem.W.Frag) (b : Bs) (C : Addr) : Bool := PySem.W.excOver K C b.bm && (
  PySem.W.excInitIn K C b.bm b.newId && (decide (PySem.W.findIn K (.ref C) "__setattr__" = some (some (.builtin "object.__setattr__"))) && (PySem.W.keepIn K (.ref C) &&
  (decide (PySem.W.findIn K (.ref C) "__getattribute__" = some (some (.builtin "BaseException.__getattribute__"))) && (decide (PySem.W.findIn K (.ref C) "__getattr__" = some none) &&
  (decide (PySem.W.subIn K (.ref C) (.type "BaseException") = some true) && (PySem.W.hasDictIn K C && (decide (PySem.W.findIn K (.ref C) "__class__" = some (some (.builtin "object.__class__"))) &&
  (decide (PySem.W.specialIn K (.builtin "object.__class__") "__get__" = some (some (.builtin "getset_descriptor.__get__"))) && (decide (PySem.W.takesIn K (.builtin "object.__class__") = some true) &&
  decide (PySem.W.mroIn K C (.type "object") = some true)))))))))))
theorem ecB_ok {K : PySem.W.Frag} {b : Bs} {C : Addr} (ok : b.Ok) (h : ecB K b C = true) : EC K b C := by
  unfold ecB at h
  simp only [Bool.and_eq_true, decide_eq_true_eq] at h
  obtain ⟨h0, h1, h2, h3, h4, h5, h6, h7, h8, h9, h10, h11⟩ := h
  exact ⟨ok, h1, h2, h3, ⟨h4, h5, h6, h7, h8, h9, h10, h11⟩, h0⟩
section
variable {K : PySem.W.Frag} {b : Bs} {C : Addr}
theorem EC.cd (T : EC K b C) : ∃ cd, PySem.W.clsIn K C = some cd ∧ PySem.W.excTail b.bm cd.mro = true ∧ cd.mro.isEmpty = false ∧ cd.hasDict = true := by
  have q := T.own
  unfold PySem.W.excInitIn at q
  obtain ⟨cd2, hc2, hd2⟩ := PySem.W.any_some (show (PySem.W.clsIn K C).any (·.hasDict) = true from T.ex.hd)
  split at q
  · rename_i dd cd sl ho
    split at q
    · rename_i C' bm k0 k1 k2 k3 n k5 hm hs
      simp only [Bool.and_eq_true, beq_iff_eq, Bool.not_eq_true'] at q
      obtain ⟨⟨⟨rfl, rfl⟩, hdel⟩, ht⟩ := q
      have e : PySem.W.clsIn K C' = some cd := by unfold PySem.W.clsIn; rw [ho] <;> rfl
      have e3 := Option.some.inj (e.symm.trans hc2)
      subst e3
      refine ⟨_, e, ?_, ?_, hd2⟩
      · rw [hm]
        exact ht
      · rw [hm]
        rfl
    · cases q
  · cases q
end
section
variable {X : Cx} {pins : List (Addr × Obj)} {σ : St} {H : Hp} {s : Shared} {b : Bs} {a C dx : Addr} {f : Str} {y : V} {u : Value} {Q : Unit → Shared → Prop} {E : Value → Shared → Prop} {A : Around}
/-- self.f = y, the first one -/
theorem osv_new (T : EC X.K b C) (I : Inv X pins σ H s) (e : H a = some (exo a C none)) (hno : PySem.W.findIn X.K (.ref C) f = some none) (ry : RelV y u)
    (h : ∀ dx s', H dx = none → dx ≠ a → Inv X pins σ (upd (upd H dx (exd dx [(f, y)])) a (exo a C (some dx))) s' → Q () s') : wpAny (model X.prog X.w) A (setAttr (.ref a) f u) Q E s := by
  obtain ⟨t1, ho⟩ := exo_at I.hok e
  refine PySem.W.set_plain I.kIn (od := none) ⟨ho, rfl, rfl, trivial⟩ T.sa (own_store T.ok I.kIn ho T.ov T.ex.hd hno fun h' tk' dx k dn dne hx hn => ?_)
  have fresh : H dx = none := I.hok.fresh dn
  -- the heap behind the store, seen from what was there
  have other : ∀ {c : Addr} {o : HO}, H c = some o → c ≠ a → upd (upd H dx (exd dx [(f, y)])) a (exo a C (some dx)) c = some o := fun q n => by rw [upd_ne n, upd_ne (ne_of_none q fresh)]; exact q
  have ne : ∀ {c : Addr}, H c = none → c ≠ a := fun n z => by rw [z, e] at n; cases n
  have lt : ∀ {c : Addr} {o : Obj}, s.heap.get? c = some o → c ≠ dx := fun q => Nat.ne_of_lt (Nat.lt_of_lt_of_le (Heap.lt_size q) dn)
  refine h dx _ fresh dne (I.un (t' := tk') { keep := fun c o q n _ _ => k c o (ne n) q, slot := fun c o q n _ _ => ⟨o.slots, k c o (ne n) q⟩, free := fun c o q n _ => ?_, there := fun c o q _ => ?_, tups := fun c xs q => other q (at_ne e q exo_tup), frzs := fun c o v q => other q (at_ne e q exo_frz), tbls := fun c ps q => ⟨#[], ?_⟩ } fun c o q => ?_)
  · rw [upd_ne (ne n), upd_ne (lt q)]
    exact n
  · by_cases z : c = a
    · exact ⟨_, by rw [z]; exact hx⟩
    · exact ⟨o, k c o z q⟩
  · rw [other q (at_ne e q exo_tbl)]
    simp
  · by_cases z : c = a
    · subst z
      rw [upd_same] at q
      cases q
      exact exo_ok hx
    · rw [upd_ne z] at q
      by_cases z2 : c = dx
      · subst z2
        rw [upd_same] at q
        cases q
        exact exd_ok hn (relO_put (fs := []) ry fun _ => True.intro)
      · rw [upd_ne z2] at q
        refine (I.hok c o q).stay (fun d v hc z' => k d v ?_ z') (fun d hc => other hc (at_ne e hc exo_own)) fun d xs hc => other hc (at_ne e hc exo_tup)
        rcases hc with rfl | hc
        · exact z
        · exact at_ne e hc exo_own
end
/-- self.f = e -/
def tOsv (K : PySem.W.Frag) (f : Str) (to te : TE) : TS := fun D σ H => te σ H fun y H1 => to σ H1 fun x H2 => ∃ (a C : Addr) (b : Bs), x = .ref a ∧ EC K b C ∧ PySem.W.findIn K (.ref C) f = some none ∧
  H2 a = some (exo a C none) ∧ ∀ dx, H2 dx = none → dx ≠ a → D.nx σ (upd (upd H2 dx (exd dx [(f, y)])) a (exo a C (some dx)))
/-- C(e, ..), C's own __init__ keeping sp: the exception as a value -/
def tMkV (C : Addr) (sp : Sp) (ta : TA) : TE := fun σ H Q => ta σ H fun vs H1 => vs.length ≤ 1000 ∧ ∀ a, H1 a = none → sp (.ref a :: vs) (upd H1 a (exo a C none)) (fun v H2 => v = .non ∧ Q (.ref a) H2) E0
/-- e.f of an exception -/
def tXv (K : PySem.W.Frag) (f : Str) (te : TE) : TE := fun σ H Q => te σ H fun x H1 => ∃ (a C dx : Addr) (b : Bs) (fs : List (Str × V)) (v : V), x = .ref a ∧ EC K b C ∧ PySem.W.findIn K (.ref C) f = some none ∧
  H1 a = some (exo a C (some dx)) ∧ H1 dx = some (exd dx fs) ∧ fs.lookup f = some v ∧ Q v H1
/-- isinstance(e, c) -/
def rIsX (K : PySem.W.Frag) : List V → Hp → VK → Prop := fun xs H Q => ∃ (a C : Addr) (od : Option Addr) (c : V) (u : Value) (b : Bs) (r : Bool), xs = [.ref a, c] ∧ ClsV c u ∧ H a = some (exo a C od) ∧ (∀ d, od = some d → ∃ fs, H d = some (exd d fs)) ∧ EC K b C ∧
  PySem.W.kitOne K (.ref C) u = some r ∧ Q (.bl r) H
section
variable {X : Cx} {o e : Expr} {es : List Expr} {to te : TE} {ta : TA} {f : Str} {p p' p1 p2 pos : Pos}
theorem ps_osv (ho : PE X o to) (he : PE X e te) (hs : swapsWith e (some (.Attribute o f p')) pos.line X.env = pure false := by rfl) : PS X (.Assign [.Attribute o f p'] e pos) (tOsv X.K f to te) := by
  refine ⟨fun pins s σ H D I h => ?_⟩
  refine plainObj_wpAny_Assign_Attribute (thn (he.run pins s σ H _ I h) fun v s1 ⟨y, H1, I1, r1, q1⟩ => thn (ho.run pins s1 σ H1 _ I1 q1) fun u s2 ⟨x, H2, I2, r2, a, C, b, ex, T, hno, ea, q⟩ => ?_) hs
  subst ex
  obtain rfl : u = Value.ref a := r2
  exact osv_new T I2 ea hno r1 fun dx s' n ne J => ⟨σ, _, J, q dx n ne⟩
/-- the exception that is made: its object lies, not yet its dict -/
theorem made_inv {pins : List (Addr × Obj)} {σ : St} {H1 : Hp} {hp : Heap} {g : Array GenState} {dr : Drawn} {tk : Nat} {os : OsState} {C : Addr} (us : List Value) (I1 : Inv X pins σ H1 ⟨hp, g, dr, tk, os⟩) :
    Inv X pins σ (upd H1 (hp.objs.size + 1) (exo (hp.objs.size + 1) C none)) ⟨(hp.push (PySem.W.kdv_tup us)).push (PySem.HandSPX.excO C hp.objs.size), g, dr, tk, os⟩ := by
  have kk : ∀ b o, hp.get? b = some o → ((hp.push (PySem.W.kdv_tup us)).push (PySem.HandSPX.excO C hp.objs.size)).get? b = some o := fun b o e => Heap.get?_push_of_some _ (Heap.get?_push_of_some _ e)
  have hget : ((hp.push (PySem.W.kdv_tup us)).push (PySem.HandSPX.excO C hp.objs.size)).get? (hp.objs.size + 1) = some (PySem.HandSPX.excO C hp.objs.size) := by heap_get
  exact I1.laid (t' := tk) (a := hp.objs.size + 1) (o := exo (hp.objs.size + 1) C none) (h' := (hp.push (PySem.W.kdv_tup us)).push (PySem.HandSPX.excO C hp.objs.size)) kk (Nat.le_succ _) (exo_ok hget)
theorem run_mkV {CX : CXT} {C fI : Addr} {b : Bs} {k : Nat} {fd : FuncData} {ps : List Str} {sp : Sp} {pins : List (Addr × Obj)} {σ : St} {H1 : Hp} {s1 : Shared} {Q : VK} {us zs : List Value} {ws : List V} {kw : List (Str × Value)} (T : EC X.K b C)
    (iC : PySem.W.findIn X.K (.ref C) "__init__" = some (some (.ref fI))) (tI : PySem.W.typeIn X.K (.ref fI) = some (.type "function"))
    (F1 : FnOk X.prog X.w X.K X.mg X.base CX k fI fd ps sp) (hr : Room (k + 1) X.A) (hx : Passes CX X E0) (I1 : Inv X pins σ H1 s1) (hus : us.length ≤ sizeLine)
    (hz : ∀ (sh : Shared) (a : Addr), X.K.In sh.heap → BindsTo sh fd ⟨Value.ref a :: us, kw⟩ (ps.zip (Value.ref a :: zs))) (r2 : Vals ws zs)
    (h : ∀ a, H1 a = none → sp (.ref a :: ws) (upd H1 a (exo a C none)) (fun v H2 => v = .non ∧ Q (.ref a) H2) E0) :
    wpAny (model X.prog X.w) X.A (call (.ref C) us kw) (EP X pins σ Q) X.xe s1 := by
  obtain ⟨nm, N, qn, bs, bm, hdct, sn, sub, ab, col, dd, k0, k1, k2, k3, k5, hC, hT⟩ := PySem.W.excInit_of I1.kIn T.own
  obtain ⟨hp, g, dr, tk, os⟩ := s1
  have hn : H1 (hp.objs.size + 1) = none := I1.hok.fresh (Nat.le_succ _)
  have hq := h (hp.objs.size + 1) hn
  have I2 := made_inv (C := C) us I1
  have r3 : Vals (V.ref (hp.objs.size + 1) :: ws) (Value.ref (hp.objs.size + 1) :: zs) := .cons rfl r2
  refine wpAny_call (own_call ⟨nm, qn, N, bs, hdct, sn, sub, ab, col, dd, k0, k1, k2, k3, k5, hC⟩ T.ok hT (PySem.W.looks_findIn I1.kIn iC) (fun self => PySem.W.bind_fn I1.kIn self tI) hus
    (codeAny_mono (F1.run _ X.stack _ _ ⟨Value.ref (hp.objs.size + 1) :: us, kw⟩ (Value.ref (hp.objs.size + 1) :: zs) _ _ E0 (hr.make C us kw) (I2.env0.make C us kw) (hz _ _ I2.kIn) r3 hq) fun r s' hq' => ?_))
  cases r with
  | error er => exact hx pins σ _ _ er s' I2 hq'
  | ok fl =>
    cases fl with
    | ret u =>
      obtain ⟨v, H', I3, rv, ev, q3⟩ := I2.after hq'
      subst ev
      exact ⟨rv, ⟨V.ref (hp.objs.size + 1), H', I3, rfl, q3⟩⟩
    | next => exact False.elim hq'
    | brk => exact False.elim hq'
    | cont => exact False.elim hq'
/-- C(e, ..) -/
theorem pe_mkV {CX : CXT} {x : Str} {C fI : Addr} {b : Bs} {k : Nat} {fd : FuncData} {ps : List Str} {sp : Sp} (T : EC X.K b C) (iC : PySem.W.findIn X.K (.ref C) "__init__" = some (some (.ref fI))) (tI : PySem.W.typeIn X.K (.ref fI) = some (.type "function"))
    (F1 : FnOk X.prog X.w X.K X.mg X.base CX k fI fd ps sp) (hr : Room (k + 1) X.A) (hb : Binds X.K fd ps []) (hx : Passes CX X E0) (hg : Gl X x) (hm : X.mg x = some (.ref C)) (ha : PA X (e :: es) ta)
    (hdb : (x == ("__debug__" : Str)) = false := by decide) (he : starEach (e :: es) X.env = (false, eval e X.env) :: starEach es X.env := by rfl) (hpl : (backTo pos (starEach es X.env)).any (·.1) = false := by rfl) :
    PE X (.Call (.Name x p) (e :: es) [] pos) (tMkV C sp ta) := by
  refine ⟨fun pins s σ H Q I h => ?_⟩
  refine wpAny_Call_Name_kw (ld_glob I hg hm ?_ hdb)
  refine PySem.W.callWith_K (h₀ := X.base) I.ok.mod.kin T.kC (thn (ha.run pos pins s σ H _ I h) fun us s1 ⟨vs, H1, I1, r1, hz, q1⟩ => ⟨I1.kIn, ?_⟩) he hpl
  have hus : us.length ≤ sizeLine := by
    rw [← Paired.length r1, sizeLine_eq]
    omega
  have hl : (Value.ref 0 :: us).length = ps.length := by
    have z := F1.len _ _ _ _ (q1 s1.heap.objs.size (I1.hok.fresh (Nat.le_refl _)))
    rw [← z, List.length_cons, List.length_cons, Paired.length r1]
  refine run_mkV (us := us) (kw := []) (zs := us) T iC tI F1 hr hx I1 hus (fun sh a X' => ?_) r1 q1
  have z := hb sh (Value.ref a :: us) X' (by rw [List.append_nil]; exact hl)
  rw [List.append_nil] at z
  exact z
/-- C(f = e) -/
theorem pe_mkVK {CX : CXT} {x : Str} {C fI : Addr} {b : Bs} {k : Nat} {fd : FuncData} {ps ks : List Str} {sp : Sp} {kws : List Keyword} {tk : TA} (T : EC X.K b C) (iC : PySem.W.findIn X.K (.ref C) "__init__" = some (some (.ref fI))) (tI : PySem.W.typeIn X.K (.ref fI) = some (.type "function"))
    (F1 : FnOk X.prog X.w X.K X.mg X.base CX k fI fd ps sp) (hr : Room (k + 1) X.A) (hb : ∀ (sh : Shared) (a : Addr) (zs : List Value), zs.length = ks.length → BindsTo sh fd ⟨[Value.ref a], ks.zip zs⟩ (ps.zip (Value.ref a :: zs))) (hx : Passes CX X E0) (hg : Gl X x) (hm : X.mg x = some (.ref C)) (hkw : PK X kws tk)
    (hps : ps.length = ks.length + 1) (hall : (backToKw pos (keywordEach kws X.env)).all (·.1.isSome) = true := by rfl) (hks : (backToKw pos (keywordEach kws X.env)).filterMap (·.1) = ks := by rfl) (hdb : (x == ("__debug__" : Str)) = false := by decide)
    (hpl : ((backTo pos (starEach [] X.env)).any (·.1) || (backToKw pos (keywordEach kws X.env)).any (·.1.isNone)) = false := by rfl) :
    PE X (.Call (.Name x p) [] kws pos) (tMkV C sp tk) := by
  refine ⟨fun pins s σ H Q I h => ?_⟩
  refine wpAny_Call_Name_kw (ld_glob I hg hm ?_ hdb)
  refine PySem.W.callWith_KW0 (h₀ := X.base) I.ok.mod.kin T.kC hall ?_ hpl
  refine thn (hkw.run pos pins s σ H _ I h) fun ws s2 ⟨zs, H2, I2, rz, hz, q2⟩ => ⟨I2.kIn, ?_⟩
  rw [hks]
  have hl : ws.length = ks.length := by
    have z := F1.len _ _ _ _ (q2 s2.heap.objs.size (I2.hok.fresh (Nat.le_refl _)))
    rw [List.length_cons, hps] at z
    rw [← Paired.length rz]
    omega
  exact run_mkV (us := []) (kw := ks.zip ws) (zs := ws) T iC tI F1 hr hx I2 (Nat.zero_le _) (fun sh a _ => hb sh a ws hl) rz q2
/-- C(), no __init__ of its own -/
theorem pe_mkV0 {x : Str} {C : Addr} {b : Bs} (T : EC X.K b C) (iC : PySem.W.findIn X.K (.ref C) "__init__" = some (some (.builtin b.initId))) (hg : Gl X x) (hm : X.mg x = some (.ref C))
    (hdb : (x == ("__debug__" : Str)) = false := by decide) :
    PE X (.Call (.Name x p) [] [] pos) (fun _ H Q => ∀ a, H a = none → Q (.ref a) (upd H a (exo a C none))) := by
  refine ⟨fun pins s σ H Q I h => ?_⟩
  refine wpAny_Call_Name_kw (ld_glob I hg hm ?_ hdb)
  refine PySem.W.callWith_K0 I.kIn T.kC ?_
  show wpAny _ _ (call (.ref C) []) _ _ _
  obtain ⟨nm, N, qn, bs, bm, hdct, sn, sub, ab, col, dd, k0, k1, k2, k3, k5, hC, hT⟩ := PySem.W.excInit_of I.kIn T.own
  obtain ⟨hp, g, dr, tk, os⟩ := s
  refine PySem.W.call_B T.ok.F hT hC (PySem.W.looks_findIn I.kIn iC) (Nat.zero_le _) fun h' k e1 e2 => ?_
  have hn : H (hp.objs.size + 1) = none := I.hok.fresh (Nat.le_succ _)
  exact ⟨.ref (hp.objs.size + 1), _, I.laid (t' := tk) (a := hp.objs.size + 1) k (Nat.le_succ _) (exo_ok e1), rfl, h _ hn⟩
theorem pe_xv {n : Str} (he : PE X e te) (hb : attributeBase e n X.env (eval e X.env) = eval e X.env := by rfl) : PE X (.Attribute e n pos) (tXv X.K n te) := by
  refine ⟨fun pins s σ H Q I h => ?_⟩
  refine attr_of hb (thn (he.run pins s σ H _ I h) fun u s1 hh => ?_)
  obtain ⟨x, H1, I1, rx, a, C, dx, b, fs, v, ex, T, hno, ea, ed, l, q⟩ := hh
  subst ex
  obtain rfl : u = Value.ref a := rx
  obtain ⟨t1, ho⟩ := exo_at I1.hok ea
  obtain ⟨mA, hns, hr⟩ := exd_at I1.hok ed
  obtain ⟨od, hod, hl⟩ := lookIn_ns hns
  obtain ⟨u, hu, ru⟩ := RelO.some_of (v := v) (o := mA n) (by rw [← l]; exact hr n)
  have J : PySem.W.InstAt s1.heap a { cls := .ref C, dict := some dx, data := .fields #[.ref t1, .none, .none, .none, .bool false, .none] } C (some od) := ⟨ho, rfl, rfl, hod⟩
  exact HandSPX.exc_get I1.kIn J T.ex.hg T.ex.hk T.ex.hs (PySem.W.findObj_own T.ex.hd hno rfl (by rw [hl, hu])) (handed_of ru) ⟨v, H1, I1.tok _, ru, q⟩
theorem call_isX : CallR X (.builtin "isinstance") (rIsX X.K) := by
  intro pins s σ H xs us Q I r h
  obtain ⟨a, C, od, c, u, b, rr, rfl, k, ea, hd, T, e, q⟩ := h
  obtain ⟨u1, u2, rfl, r1, r2⟩ := vals2 r
  have e2 := k.eq r2
  subst e2
  obtain rfl : u1 = Value.ref a := r1
  obtain ⟨t1, ho⟩ := exo_at I.hok ea
  have hcl : (PySem.W.clsIn X.K C).isSome = true := by
    obtain ⟨cd, hc, _⟩ := T.cd
    rw [hc]
    rfl
  have fin : ∀ tk, EP X pins σ Q (.bool rr) { s with toks := tk } := fun tk => ⟨.bl rr, H, I.tok tk, rfl, q⟩
  cases od with
  | none =>
    have J : PySem.W.InstAt s.heap a { cls := .ref C, dict := none, data := .fields #[.ref t1, .none, .none, .none, .bool false, .none] } C none := ⟨ho, rfl, rfl, trivial⟩
    exact PySem.W.kia_one (PySem.W.kitx_exc hcl T.ex.hg T.ex.hk T.ex.hs T.ex.ha T.ex.hn T.ex.ht T.ex.hm) I.kIn J e (fun z => nomatch z) fin
  | some dd =>
    obtain ⟨fs, ed⟩ := hd dd rfl
    obtain ⟨mA, hns, hr⟩ := exd_at I.hok ed
    obtain ⟨od, es, ep, hod, _⟩ := hns
    have J : PySem.W.InstAt s.heap a { cls := .ref C, dict := some dd, data := .fields #[.ref t1, .none, .none, .none, .bool false, .none] } C (some od) := ⟨ho, rfl, rfl, hod⟩
    exact PySem.W.kia_one (PySem.W.kitx_exc hcl T.ex.hg T.ex.hk T.ex.hs T.ex.ha T.ex.hn T.ex.ht T.ex.hm) I.kIn J e (fun z => nomatch z) fin
end
end L2.Tb
set_option Elab.async false
set_option linter.all false
set_option maxRecDepth 100000
set_option maxHeartbeats 4000000
namespace L2.Tb
open PySem PySem.Spec PyProof.Rows
/-! ### a def of the module that is called by its name -/
structure Cal (P : Program) (w : World) (K : PySem.W.Frag) (mg : Str → Option Value) (base : Heap) (k : Nat) (x : Str) (sp : Sp) : Prop where
  ex : ∃ (f : Addr) (fd : FuncData) (ps : List Str), FnOk P w K mg base L2.CX0 k f fd ps sp ∧ mg x = some (.ref f) ∧ PySem.W.keepIn K (.ref f) = true ∧ Binds K fd ps []
abbrev FnP (K : PySem.W.Frag) (x : Str) (st : Stmt) (f : Addr) (fd : FuncData) : Prop := FunD K x x (defArgs st) (defBody st) (defScope st) [] [] f fd
section
variable {P : Program} {w : World} {K : PySem.W.Frag} {mg : Str → Option Value} {base : Heap} {x : Str} {st : Stmt} {f : Addr} {fd : FuncData} {N ps : List Str} {k : Nat} {sp : Sp}
theorem cal_mk (F : FnP K x st f fd) (hm : mg x = some (.ref f)) (S : FnScope N ps (defScope st))
    (hb : ∀ (kV doc pm : Value) (an : Option Addr) (cdv ct : Value) (us : List Value), us.length = ps.length → bindArgs (PySem.W.fnOf x x (defArgs st) (defBody st) (defScope st) .none kV doc pm an cdv ct) ⟨us, []⟩ = pure (ps.zip us))
    (len : ∀ vs H Q E, sp vs H Q E → vs.length = ps.length)
    (hbody : ∀ (cdv : Value) (A : Around) (outer : List Env) (s : Shared) (H : Hp) (vs : List V) (Q : VK) (E : XK), Room k (A.deeper (envOfC x (defScope st) s.heap.objs.size f cdv)) → sp vs H Q E →
      ∃ t, PSs (cxOf L2.CX0 P w K mg base N x (defScope st) f cdv A outer s H E).nox (defBody st) t ∧ t { nx := fun _ H' => Q .non H', rt := Q } (start N vs) H) : Cal P w K mg base (k + 1) x sp :=
  ⟨f, fd, ps, F.ok S len fun cdv A outer s H vs Q E hr h => let ⟨t, a, b⟩ := hbody cdv A outer s H vs Q E hr h; ⟨t, a.nox, b⟩, hm, F.kp, F.bindsN hb⟩
theorem Cal.imp {sp' : Sp} (c : Cal P w K mg base k x sp) (h : ∀ vs H Q E, sp' vs H Q E → sp vs H Q E) : Cal P w K mg base k x sp' := by
  obtain ⟨f, fd, ps, F, a, b, d⟩ := c.ex
  exact ⟨f, fd, ps, F.imp h, a, b, d⟩
end
section
variable {X : Cx} {k j : Nat} {x : Str} {sp : Sp} {p pos : Pos} {e : Expr} {es : List Expr} {t : TA}
theorem pe_cal (c : Cal X.prog X.w X.K X.mg X.base k x sp) (hr : Room j X.A) (hk : k ≤ j) (hg : Gl X x) (ha : PA X (e :: es) t)
    (hdb : (x == ("__debug__" : Str)) = false := by decide) (he : starEach (e :: es) X.env = (false, eval e X.env) :: starEach es X.env := by rfl) (hpl : (backTo pos (starEach es X.env)).any (·.1) = false := by rfl) :
    PE X (.Call (.Name x p) (e :: es) [] pos) (tCall sp [] E0 t) := by
  obtain ⟨f, fd, ps, F, hm, kp, b⟩ := c.ex
  exact pe_call F (hr.mono hk) hg hm kp b .nil pass0 ha hdb he hpl
theorem pe_cal0 (c : Cal X.prog X.w X.K X.mg X.base k x sp) (hr : Room j X.A) (hk : k ≤ j) (hg : Gl X x)
    (hdb : (x == ("__debug__" : Str)) = false := by decide) : PE X (.Call (.Name x p) [] [] pos) (tCall sp [] E0 tNil) := by
  obtain ⟨f, fd, ps, F, hm, kp, b⟩ := c.ex
  exact pe_call0 F (hr.mono hk) hg hm kp b .nil pass0 hdb
end
/-! ### heaps: all but p stands -/
def SameB (p : Addr) (H H' : Hp) : Prop := ∀ b o, b ≠ p → H b = some o → H' b = some o
theorem SameB.refl (p : Addr) (H : Hp) : SameB p H H := fun _ _ _ h => h
theorem SameB.trans {p : Addr} {H H1 H2 : Hp} (a : SameB p H H1) (b : SameB p H1 H2) : SameB p H H2 := fun c o n h => b c o n (a c o n h)
theorem SameB.of {p : Addr} {H H' : Hp} (a : Same H H') : SameB p H H' := fun c o _ h => a c o h
theorem SameB.set {p : Addr} {H : Hp} {o : HO} : SameB p H (upd H p o) := fun c u n h => by rw [upd_ne n]; exact h
theorem same_new {H : Hp} {p : Addr} {o : HO} (h : H p = none) : Same H (upd H p o) := fun b u e => by rw [upd_ne (ne_of_none e h)]; exact e
theorem SameB.put {p : Addr} {H H' : Hp} {o : HO} (a : SameB p H H') : SameB p H (upd H' p o) := fun c u n h => by rw [upd_ne n]; exact a c u n h
/-! ### the purse -/
structure Purse (H : Hp) (p : Addr) : Prop where
  ex : ∃ st dg c : Int, H p = some (.lst [.int st, .int dg, .int c]) ∧ 0 ≤ st ∧ st < 2147483563 ∧ 0 ≤ dg
theorem Purse.same {H H' : Hp} {p : Addr} (h : Purse H p) (s : Same H H') : Purse H' p := by
  obtain ⟨st, dg, c, e, r⟩ := h.ex
  exact ⟨st, dg, c, s _ _ e, r⟩
theorem Purse.sameB {H H' : Hp} {p q : Addr} (h : Purse H p) (n : p ≠ q) (s : SameB q H H') : Purse H' p := by
  obtain ⟨st, dg, c, e, r⟩ := h.ex
  exact ⟨st, dg, c, s _ _ n e, r⟩
theorem divp_small {i j : Int} (h0 : 0 < j) (h1 : j < 2 ^ 200) : CDivP i j := by
  refine ⟨h0, ?_⟩
  unfold Builtin.divisionGoesByPylong
  have hb : j.natAbs.log2 < 200 := PySem.Flt.log2_lt_of (by decide) (by omega)
  have hj : ¬ (j == 0) = true := by simpa using (show j ≠ 0 by omega)
  show (decide ((if j == 0 then 0 else j.natAbs.log2 / 30 + 1) > 300) && _) = false
  rw [if_neg hj, decide_eq_false (by omega), Bool.false_and]
/-! ### odd values, alike values -/
def flatS : V → Bool
  | .non => true | .bl _ => true | .int _ => true | .str _ => true
  | _ => false
theorem flatS_B {x : V} (h : flatS x = true) : flatB x = true := by
  cases x <;> first | rfl | cases h
def Al (H : Hp) : Nat → V → V → Prop
  | 0, x, y => x = y ∧ flatS x = true
  | n + 1, x, y => (x = y ∧ flatS x = true) ∨
    (∃ a b xs ys, x = .ref a ∧ y = .ref b ∧ H a = some (.lst xs) ∧ H b = some (.lst ys) ∧ xs.length ≤ 1000 ∧ Paired (Al H n) xs ys) ∨
    (∃ a b xs ys, x = .ref a ∧ y = .ref b ∧ H a = some (.tup xs) ∧ H b = some (.tup ys) ∧ xs.length ≤ 1000 ∧ Paired (Al H n) xs ys) ∨
    (∃ (a : Addr) (kvs : List (Key × V)), x = .ref a ∧ y = .ref a ∧ H a = some (.dK kvs) ∧ ∀ kv ∈ kvs, valV kvs kv.1 = some kv.2 ∧ (flatS kv.2 = true ∨ ∃ b, kv.2 = .ref b))
theorem Al.mono {H H' : Hp} : ∀ {n : Nat} {x y : V}, (∀ b o, H b = some o → (∀ l, o = .lst l → l.length ≠ 3) → H' b = some o) → (∀ b l, H b = some (.lst l) → l.length = 3 → ∃ l', H' b = some (.lst l')) → Same H H' → Al H n x y → Al H' n x y
  | 0, _, _, _, _, _, h => h
  | n + 1, x, y, k1, k2, s, h => by
    have ih : ∀ {xs ys : List V}, Paired (Al H n) xs ys → Paired (Al H' n) xs ys := fun p => Paired.mapP p fun a b q => Al.mono k1 k2 s q
    rcases h with h | ⟨a, b, xs, ys, h1, h2, h3, h4, h5, h6⟩ | ⟨a, b, xs, ys, h1, h2, h3, h4, h5, h6⟩ | ⟨a, kvs, h1, h2, h3, h4⟩
    · exact .inl h
    · exact .inr (.inl ⟨a, b, xs, ys, h1, h2, s _ _ h3, s _ _ h4, h5, ih h6⟩)
    · exact .inr (.inr (.inl ⟨a, b, xs, ys, h1, h2, s _ _ h3, s _ _ h4, h5, ih h6⟩))
    · exact .inr (.inr (.inr ⟨a, kvs, h1, h2, s _ _ h3, h4⟩))
theorem Al.same {H H' : Hp} {n : Nat} {x y : V} (h : Al H n x y) (s : Same H H') : Al H' n x y := Al.mono (fun b o e _ => s b o e) (fun b l e _ => ⟨l, s _ _ e⟩) s h
def Od (H : Hp) : Nat → V → Prop
  | 0, v => flatS v = true
  | n + 1, v => flatS v = true ∨ (∃ a xs, v = .ref a ∧ H a = some (.lst xs) ∧ xs.length ≤ 1 ∧ ∀ x ∈ xs, Od H n x) ∨ (∃ a xs, v = .ref a ∧ H a = some (.tup xs) ∧ xs.length ≤ 3 ∧ ∀ x ∈ xs, Od H n x) ∨
    (∃ (a : Addr) (kvs : List (Key × V)), v = .ref a ∧ H a = some (.dK kvs) ∧ kvs.length ≤ 1 ∧ ∀ kv ∈ kvs, flatS kv.2 = true ∨ ∃ b, kv.2 = .ref b)
theorem Od.keep {H H' : Hp} {p : Addr} {st dg c : V} (hp : H p = some (.lst [st, dg, c])) (s : SameB p H H') : ∀ {n : Nat} {v : V}, Od H n v → Od H' n v
  | 0, _, h => h
  | n + 1, v, h => by
    rcases h with h | ⟨a, xs, h1, h2, h3, h4⟩ | ⟨a, xs, h1, h2, h3, h4⟩ | ⟨a, kvs, h1, h2, h3, h4⟩
    · exact .inl h
    · refine .inr (.inl ⟨a, xs, h1, s _ _ (fun e => ?_) h2, h3, fun x hx => (h4 x hx).keep hp s⟩)
      rw [e, hp] at h2
      cases h2
      simp at h3
    · refine .inr (.inr (.inl ⟨a, xs, h1, s _ _ (fun e => ?_) h2, h3, fun x hx => (h4 x hx).keep hp s⟩))
      rw [e, hp] at h2
      cases h2
    · refine .inr (.inr (.inr ⟨a, kvs, h1, s _ _ (fun e => ?_) h2, h3, h4⟩))
      rw [e, hp] at h2
      cases h2
theorem Od.same {H H' : Hp} (s : Same H H') : ∀ {n : Nat} {v : V}, Od H n v → Od H' n v
  | 0, _, h => h
  | n + 1, v, h => by
    rcases h with h | ⟨a, xs, h1, h2, h3, h4⟩ | ⟨a, xs, h1, h2, h3, h4⟩ | ⟨a, kvs, h1, h2, h3, h4⟩
    · exact .inl h
    · exact .inr (.inl ⟨a, xs, h1, s _ _ h2, h3, fun x hx => (h4 x hx).same s⟩)
    · exact .inr (.inr (.inl ⟨a, xs, h1, s _ _ h2, h3, fun x hx => (h4 x hx).same s⟩))
    · exact .inr (.inr (.inr ⟨a, kvs, h1, s _ _ h2, h3, h4⟩))
theorem paired_self {α : Type} {R : α → α → Prop} : ∀ {xs : List α}, (∀ x ∈ xs, R x x) → Paired R xs xs
  | [], _ => .nil
  | x :: xs, h => .cons (h x (List.mem_cons_self ..)) (paired_self fun y hy => h y (List.mem_cons_of_mem _ hy))
theorem Od.al {H : Hp} : ∀ {n : Nat} {v : V}, Od H n v → Al H n v v
  | 0, _, h => ⟨rfl, h⟩
  | n + 1, v, h => by
    rcases h with h | ⟨a, xs, h1, h2, h3, h4⟩ | ⟨a, xs, h1, h2, h3, h4⟩ | ⟨a, kvs, h1, h2, h3, h4⟩
    · exact .inl ⟨rfl, h⟩
    · exact .inr (.inl ⟨a, a, xs, xs, h1, h1, h2, h2, by omega, paired_self fun x hx => (h4 x hx).al⟩)
    · exact .inr (.inr (.inl ⟨a, a, xs, xs, h1, h1, h2, h2, by omega, paired_self fun x hx => (h4 x hx).al⟩))
    · refine .inr (.inr (.inr ⟨a, kvs, h1, h1, h2, fun kv hk => ⟨?_, h4 kv hk⟩⟩))
      match kvs, h3, hk with
      | [q], _, hk =>
        obtain rfl : kv = q := by simpa using hk
        simp [valV]
/-- x == y where both are one scalar or one dict -/
def rSelf : R2 := fun x y H Q => x = y ∧ (flatS x = true ∨ ∃ (a : Addr) (kvs : List (Key × V)), x = .ref a ∧ H a = some (.dK kvs) ∧ ∀ kv ∈ kvs, valV kvs kv.1 = some kv.2 ∧ (flatS kv.2 = true ∨ ∃ b, kv.2 = .ref b)) ∧ Q (.bl true) H
theorem op_self {X : Cx} (hu : X.A.units + 64 < cLine) : OpR X (compareOp .Eq) rSelf := by
  intro pins s σ H x y v u Q I rx ry h
  obtain ⟨rfl, h, q⟩ := h
  rcases h with h | ⟨a, kvs, rfl, ha, hk⟩
  · refine op_eq pins s σ H x x v u Q I rx ry ⟨?_, by rw [decide_eq_true rfl]; exact q⟩
    cases x <;> first | rfl | cases h
  · refine op_eqV hu pins s σ H _ _ v u Q I rx ry ⟨1, by decide, .inr ⟨a, a, kvs, kvs, rfl, rfl, ha, ha, rfl, fun p hp => ⟨p.2, (hk p hp).1, ?_⟩⟩, q⟩
    rcases (hk p hp).2 with z | ⟨b, z⟩
    · exact .inl ⟨rfl, flatS_B z⟩
    · exact .inr (.inl ⟨b, z, z⟩)
end L2.Tb
set_option Elab.async false
set_option linter.all false
set_option maxRecDepth 100000
set_option maxHeartbeats 4000000
namespace L2.Tb
open PySem PySem.Spec PyProof.Rows
/-! ### an error class with one attribute, as the law meets it -/
def spInit (K : PySem.W.Frag) (f : Str) : Sp := fun vs H Q _ => ∃ (a C : Addr) (b : Bs) (v : V), vs = [.ref a, v] ∧ EC K b C ∧ PySem.W.findIn K (.ref C) f = some none ∧ H a = some (exo a C none) ∧
  ∀ dx, H dx = none → dx ≠ a → Q .non (upd (upd H dx (exd dx [(f, v)])) a (exo a C (some dx)))
/-- at a: an error of the class at C whose attribute f is v -/
def ErAt (H : Hp) (a C : Addr) (f : Str) (v : V) : Prop := ∃ dx, H a = some (exo a C (some dx)) ∧ H dx = some (exd dx [(f, v)])
theorem ErAt.same {H H' : Hp} {a C : Addr} {f : Str} {v : V} (h : ErAt H a C f v) (s : Same H H') : ErAt H' a C f v := by
  obtain ⟨dx, h1, h2⟩ := h
  exact ⟨dx, s _ _ h1, s _ _ h2⟩
structure ErC (P : Program) (w : World) (K : PySem.W.Frag) (mg : Str → Option Value) (base : Heap) (x f : Str) (b : Bs) (C : Addr) : Prop where
  mgC : mg x = some (.ref C)
  ec : EC K b C
  no : PySem.W.findIn K (.ref C) f = some none
  init : ∃ (fI : Addr) (fd : FuncData), PySem.W.findIn K (.ref C) "__init__" = some (some (.ref fI)) ∧ PySem.W.typeIn K (.ref fI) = some (.type "function") ∧ FnOk P w K mg base L2.CX0 1 fI fd ["self", f] (spInit K f) ∧ Binds K fd ["self", f] [] ∧
    ∀ (sh : Shared) (a : Addr) (zs : List Value), zs.length = [f].length → BindsTo sh fd ⟨[Value.ref a], [f].zip zs⟩ (("self" :: [f] : List Str).zip (Value.ref a :: zs))
section
variable {P : Program} {w : World} {K : PySem.W.Frag} {mg : Str → Option Value} {base : Heap} {f : Str} {fI : Addr} {fd : FuncData} {qual : Str} {params : Arguments} {scope : Scope} {p1 p2 p3 p4 : Pos}
theorem init_ok (F : FunD K "__init__" qual params [.Assign [.Attribute (.Name "self" p1) f p2] (.Name f p3) p4] scope [] [] fI fd) (S : FnScope ["self", f] ["self", f] scope)
    (h0 : scope.names.lookup ("self" : Str) = some .local) (h1 : scope.names.lookup f = some .local) (hd : (f == ("__debug__" : Str)) = false) (hcd : (f == ("__classdict__" : Str)) = false) : FnOk P w K mg base L2.CX0 1 fI fd ["self", f] (spInit K f) := by
  refine F.ok S (fun vs H Q E h => ?_) (fun cdv A outer s H vs Q E hr h => ?_)
  · obtain ⟨a, C, b, v, rfl, _⟩ := h
    rfl
  · obtain ⟨a, C, b, v, rfl, T, hno, ha, k⟩ := h
    refine ⟨_, pss_one (ps_osv (pe_var (i := 0) rfl (.inl h0)) (pe_var (i := 1) rfl (.inl h1) hd hcd)), ?_⟩
    exact ⟨_, rfl, _, rfl, a, C, b, rfl, T, hno, ha, fun dx n ne => k dx n ne⟩
end
/-- a reading, weakened behind -/
def tUp (te : TE) : TE := fun σ H Q => ∃ Q' : VK, te σ H Q' ∧ ∀ v H1, Q' v H1 → Q v H1
theorem pe_up {X : Cx} {e : Expr} {te : TE} (he : PE X e te) : PE X e (tUp te) :=
  ⟨fun pins s σ H Q I h => let ⟨Q', h1, h2⟩ := h; thn (he.run pins s σ H Q' I h1) fun u s1 ⟨v, H1, I1, r, q⟩ => ⟨v, H1, I1, r, h2 v H1 q⟩⟩
/-- the reading of an error made by place or by name -/
def tEr (C : Addr) (f : Str) (te : TE) : TE := fun σ H Q => te σ H fun v H1 => ∀ a H2, Same H1 H2 → H1 a = none → ErAt H2 a C f v → Q (.ref a) H2
section
variable {X : Cx} {x f : Str} {b : Bs} {C : Addr} {p pos : Pos} {e : Expr} {te : TE}
theorem er_run {v : V} {H1 : Hp} {Q : VK} (T : EC X.K b C) (hno : PySem.W.findIn X.K (.ref C) f = some none) (q : ∀ a H2, Same H1 H2 → H1 a = none → ErAt H2 a C f v → Q (.ref a) H2) (a : Addr) (n : H1 a = none) :
    spInit X.K f [.ref a, v] (upd H1 a (exo a C none)) (fun u H2 => u = .non ∧ Q (.ref a) H2) E0 := by
  refine ⟨a, C, b, v, rfl, T, hno, upd_same, fun dx nd ne => ⟨rfl, q a _ (fun c o h => ?_) n ⟨dx, upd_same, by rw [upd_ne ne, upd_same]⟩⟩⟩
  have hca : c ≠ a := ne_of_none h n
  have hcd : c ≠ dx := fun z => by
    rw [z] at h
    rw [upd_ne ne] at nd
    rw [nd] at h
    cases h
  rw [upd_ne hca, upd_ne hcd, upd_ne hca]
  exact h
theorem pe_er (E : ErC X.prog X.w X.K X.mg X.base x f b C) {j : Nat} (hr : Room j X.A) (hj : 2 ≤ j) (hg : Gl X x) (he : PE X e te) (hdb : (x == ("__debug__" : Str)) = false := by decide) (hs : starEach [e] X.env = (false, eval e X.env) :: starEach [] X.env := by rfl) :
    PE X (.Call (.Name x p) [e] [] pos) (tEr C f te) := by
  obtain ⟨fI, fd, h1, h2, h3, h4, _⟩ := E.init
  exact ⟨fun pins s σ H Q I h => (pe_mkV E.ec h1 h2 h3 (hr.mono hj) h4 pass0 hg E.mgC (pa_cons (pe_up he) pa_nil hs) hdb hs (by rfl)).run pins s σ H Q I ⟨_, h, fun v H1 q => ⟨Nat.le_of_ble_eq_true rfl, fun a n => er_run E.ec E.no q a n⟩⟩⟩
theorem pe_erK (E : ErC X.prog X.w X.K X.mg X.base x f b C) {j : Nat} {kpos : Pos} (hr : Room j X.A) (hj : 2 ≤ j) (hg : Gl X x) (he : PE X e te) (hdb : (x == ("__debug__" : Str)) = false := by decide)
    (hall : (backToKw pos (keywordEach [⟨some f, e, kpos⟩] X.env)).all (·.1.isSome) = true := by rfl) (hks : (backToKw pos (keywordEach [⟨some f, e, kpos⟩] X.env)).filterMap (·.1) = [f] := by rfl)
    (hpl : ((backTo pos (starEach [] X.env)).any (·.1) || (backToKw pos (keywordEach [⟨some f, e, kpos⟩] X.env)).any (·.1.isNone)) = false := by rfl) :
    PE X (.Call (.Name x p) [] [⟨some f, e, kpos⟩] pos) (tEr C f te) := by
  obtain ⟨fI, fd, h1, h2, h3, h4, h5⟩ := E.init
  exact ⟨fun pins s σ H Q I h => (pe_mkVK (ks := [f]) E.ec h1 h2 h3 (hr.mono hj) h5 pass0 hg E.mgC (pk_cons (pe_up he) pk_nil) rfl hall hks hdb hpl).run pins s σ H Q I ⟨_, h, fun v H1 q => ⟨Nat.le_of_ble_eq_true rfl, fun a n => er_run E.ec E.no q a n⟩⟩⟩
end
end L2.Tb
set_option Elab.async false
set_option linter.all false
set_option maxRecDepth 100000
set_option maxHeartbeats 4000000
namespace L2.Tb
open PySem PySem.Spec PyProof.Rows
/-! ### a def's promise at one place of the stack (for what hangs on the stack: repr) -/
section
variable {P : Program} {w : World} {K : PySem.W.Frag} {mg : Str → Option Value} {base : Heap} {f : Addr} {fd : FuncData} {ps : List Str} {sp : Sp} {A : Around}
def RunsAt (P : Program) (w : World) (K : PySem.W.Frag) (mg : Str → Option Value) (base : Heap) (f : Addr) (fd : FuncData) (ps : List Str) (sp : Sp) (A : Around) : Prop :=
  ∀ (outer : List Env) (s : Shared) (H : Hp) (args : Args) (us : List Value) (vs : List V) (Q : VK) (E : XK), Env0 P w K mg base A outer s H → BindsTo s fd args (ps.zip us) → Vals vs us → vs.length = ps.length → sp vs H Q E →
    codeAny (model P w) A (.call (.ref f) args) (CR L2.CX0 outer P w H s Q E) s
/-- how a body's end becomes the call's end -/
theorem end_call {s s' : Shared} {H : Hp} {Q : VK} {E : XK} {fl : Flow} {N : List Str} {x : Str} {sc : Scope} {cdv : Value} {outer : List Env}
    (h : SP (cxOf L2.CX0 P w K mg base N x sc f cdv A outer s H E) [] { nx := fun _ H' => Q .non H', rt := Q } fl s') : CR L2.CX0 outer P w H s Q E (.ok (.ret (match (generalizing := false) fl with | .ret v => v | _ => .none))) s' := by
  match fl, h with
  | .ret u, ⟨v, σ', H', J, rv, q⟩ => exact ⟨v, H', J.os, J.bare, J.base, J.hok, rv, q⟩
  | .next, ⟨σ', H', J, q⟩ => exact ⟨.non, H', J.os, J.bare, J.base, J.hok, rfl, q⟩
  | .brk, ⟨_, _, _, q⟩ => exact q.elim
  | .cont, ⟨_, _, _, q⟩ => exact q.elim
theorem runs_body {x : Str} {st : Stmt} {N : List Str} {k : Nat} (F : FnP K x st f fd) (S : FnScope N ps (defScope st)) (hr : Room (k + 1) A)
    (hbody : ∀ (cdv : Value) (outer : List Env) (s : Shared) (H : Hp) (vs : List V) (Q : VK) (E : XK), Room k (A.deeper (envOfC x (defScope st) s.heap.objs.size f cdv)) → sp vs H Q E →
      ∃ t, PSs (cxOf L2.CX0 P w K mg base N x (defScope st) f cdv A outer s H E) (defBody st) t ∧ t { nx := fun _ H' => Q .non H', rt := Q } (start N vs) H) : RunsAt P w K mg base f fd ps sp A := by
  obtain ⟨oc, od, dV, kV, doc, pm, an, cdv, ct, osl, rfl, lk, hcd, _, _⟩ := F.ex
  intro outer s H args us vs Q E e0 hb r hl hsp
  have here : ∀ {b o}, base.get? b = some o → s.heap.get? b = some o := fun e => (e0.bs _ _ e).1
  have KX : K.In s.heap := e0.mod.kin.keeps fun _ _ e => here e
  obtain ⟨t, ht, hq⟩ := hbody cdv outer s H vs Q E (hr.deeper _) hsp
  refine codeAny_call_function hr.depth (KX _ _ lk) rfl S.co S.gen rfl (PySem.W.codeRec_of KX hcd) (hb _ _ _ _ (wpAny_newFunctionEnv_cells S.kind (fun y hy => ?_) fun env he s1 i => ?_))
  · exact (S.par y.1 (List.of_mem_zip hy).1).imp_right fun q => ⟨q, PySem.W.cellsFrom_some _ _ _ (.inl q)⟩
  · rw [he]
    rw [he] at i
    exact ⟨(e0.mod.nolimit.keeps fun _ _ e => here e).keeps i.toInCall.keep, codeAny_func (wpAny_mono (ht.run [] s1 _ H _ (inv_start S hr.hd e0 hl r i) hq) (fun fl s' h => end_call h) fun _ _ h => h)⟩
end
section
variable {X : Cx} {f : Addr} {fd : FuncData} {ps : List Str} {sp : Sp} {x : Str} {p pos : Pos}
/-- x(), x a def without parameters that runs here -/
theorem pe_at0 (R : RunsAt X.prog X.w X.K X.mg X.base f fd [] sp X.A) (hg : Gl X x) (hm : X.mg x = some (.ref f)) (hk : PySem.W.keepIn X.K (.ref f) = true) (hb : ∀ s : Shared, X.K.In s.heap → BindsTo s fd ⟨[], []⟩ []) (hdb : (x == ("__debug__" : Str)) = false := by decide) :
    PE X (.Call (.Name x p) [] [] pos) (fun _ H Q => sp [] H Q E0) := by
  refine ⟨fun pins s σ H Q I h => wpAny_Call_Name_kw (ld_glob I hg hm (PySem.W.callWith_K0 I.kIn hk (wpAny_call (codeAny_mono (R X.stack s H ⟨[], []⟩ [] [] Q E0 I.env0 (hb s I.kIn) .nil rfl h) fun r s' hq => ?_))) hdb)⟩
  match r, hq with
  | .error e, hq => exact pass0 pins σ H s e s' I hq
  | .ok (.ret u), hq => exact I.after hq
end
section
variable {X : Cx}
def rReprD (K : PySem.W.Frag) : List V → Hp → VK → Prop := fun vs H Q => ∃ (a : Addr) (d : PyData), vs = [.ref a] ∧ Dp K H (.ref a) d ∧ d.showable = true ∧ d.hasDict = false ∧ d.depth ≤ 60 ∧ d.shown.length ≤ sizeLine ∧ Q (.str d.shown) H
theorem call_reprD (hg : X.A.guards = some []) (hu : X.A.units + 64 < cLine) : CallR X (.builtin "repr") (rReprD X.K) := by
  intro pins s σ H vs us Q I r h
  obtain ⟨a, d, rfl, hd, h1, h2, h3, h4, q⟩ := h
  rw [Vals.ref1 r]
  obtain ⟨as, rr⟩ := Dp.reads I d (.ref a) (.ref a) hd rfl
  exact repr_of_reads' rr h1 (fun z => by rw [h2] at z; cases z) hg (by omega) (fun _ _ e => e) (fun h' u tk hk => ⟨.str d.shown, H, I.kept hk, ⟨u, rfl⟩, q⟩) h4
end
/-! ### the end, at the place of the law's call -/
theorem law_at {P : Program} {w : World} {K : PySem.W.Frag} {mg mb : Str → Option Value} {fa a : Addr} {fd : FuncData} {x : Str} {sp : Sp} {s1 : Shared} {vs : List Value} {ns : List Int} (KX : K.In s1.heap) (hns : s1.heap.Ns mainGlobals mg) (hb : s1.heap.Ns builtinsNs mb)
    (hbb : ∀ x : Str, x ≠ "__name__" → mb x = bootBuiltins x) (hlim : s1.heap.NoLimit) (hg : s1.gens = #[]) (ha : s1.heap.get? a = some { cls := .type "list", data := .seq vs.toArray }) (hi : IntsAre vs ns) (hl : ns.length ≤ sizeLine)
    (R : ∀ base : Heap, K.In base → base.Ns mainGlobals mg → RunsAt P w K mg base fa fd [x] sp callerA) (hbind : ∀ (s : Shared) (u : Value), BindsTo s fd ⟨[u], []⟩ [(x, u)])
    (hsp : ∀ H : Hp, SqL K H a (ns.map V.int) → (∀ b o, H b = some o → ∃ u xs, o = .frz u (.lst xs)) → sp [.ref a] H (fun v _ => v = .bl true) fun _ _ _ => False) :
    codeAny (model P w) callerA (.call (.ref fa) ⟨[.ref a], []⟩) (fun r s' => r = .ok (.ret (.bool true)) ∧ OldK s1.heap s'.heap ∧ s'.os = s1.os ∧ AllBare s'.gens) s1 := by
  let ob : Obj := { cls := .type "list", data := .seq vs.toArray }
  let H : Hp := fun b => if b = a ∧ K.lookup a = none then some (.frz ob (.lst (ns.map V.int))) else none
  have hH : ∀ b o, H b = some o → b = a ∧ K.lookup a = none ∧ o = .frz ob (.lst (ns.map V.int)) := fun b o e => by
    by_cases c : b = a ∧ K.lookup a = none
    · have e' := (if_pos c).symm.trans e
      cases e'
      exact ⟨c.1, c.2, rfl⟩
    · have e' := (if_neg c).symm.trans e
      cases e'
  have free : ∀ b o, s1.heap.get? b = some o → (b = a → (K.lookup a).isSome = true ∨ ∃ es ep, o.data = .dict es ep) → H b = none := fun b o e c => by
    cases q : H b with
    | none => rfl
    | some u =>
      obtain ⟨rfl, hk, _⟩ := hH b u q
      rcases c rfl with z | ⟨es, ep, z⟩
      · rw [hk] at z
        cases z
      · rw [ha] at e
        cases e
        cases z
  have ns1 : ∀ {b : Addr} {m : Str → Option Value}, s1.heap.Ns b m → (hidT s1.heap H).Ns b m := fun {b m} ⟨o, es, ep, e, d, r⟩ => ⟨o, es, ep, hidT_get e (free b o e fun _ => .inr ⟨es, ep, d⟩), d, r⟩
  have kin : K.In (hidT s1.heap H) := fun b o e => hidT_get (KX b o e) (free b o (KX b o e) fun z => .inl (by rw [← z, e]; rfl))
  have rv := vals_ints hi
  have sq : SqL K H a (ns.map V.int) := by
    cases hk : K.lookup a with
    | none => exact .inl (.inr ⟨ob, if_pos ⟨rfl, hk⟩⟩)
    | some o =>
      have e := KX a o hk
      rw [ha] at e
      cases e
      exact .inr ⟨_, vs.toArray, _, hk, rfl, rfl, rfl, by rw [List.size_toArray, hi.length]; exact hl, by simpa using rv⟩
  have hok : HOk P w H s1.heap := fun b u z => by
    obtain ⟨rfl, _, rfl⟩ := hH b u z
    exact ⟨ha, by rw [List.length_map]; exact hl, vs, _, rv, ha⟩
  obtain ⟨mc, l1, l2⟩ := hlim
  have e0 : Env0 P w K mg (hidT s1.heap H) callerA [] s1 H := ⟨rfl, ⟨kin, ns1 hns, ⟨mb, ns1 hb, hbb⟩, ⟨mc, ns1 l1, l2⟩⟩, fun _ _ e => of_hidT e, Nat.le_of_eq (hidT_size _ _), trivial, fun b hb => (nomatch hb), hok, .of_eq hg⟩
  refine codeAny_mono (R _ kin (ns1 hns) [] s1 H _ [.ref a] [.ref a] (fun v _ => v = .bl true) (fun _ _ _ => False) e0 (hbind s1 (.ref a)) (.cons rfl .nil) rfl (hsp H sq fun b o e => ⟨_, _, (hH b o e).2.2⟩)) fun r s' h => ?_
  match r, h with
  | .error e, h => exact h.elim
  | .ok (.ret u), ⟨v, H', os, bare, un, hok', r', q⟩ =>
    subst q
    obtain rfl : u = Value.bool true := r'
    refine ⟨rfl, OldK.of_keep fun b o e => ?_, os, bare⟩
    cases z : H b with
    | none => exact un.keep b o e z (fun z => nomatch z) (fun z => nomatch z)
    | some o2 =>
      obtain ⟨rfl, _, rfl⟩ := hH b o2 z
      rw [ha] at e
      cases e
      exact (hok' b _ (un.frzs b ob _ z)).1
theorem walk_at {l : PySem.W.OpenLaw} {n : Nat} {q : Program} {loose : List Str} {XP : (Str → Option Value) → Heap → Prop} {YP : World → Heap → Prop} {d : DefRec} {x : Str} (hn : l.most = some n) (hn2 : n ≤ sizeLine) (hdf : d.params.defaults = [])
    (F : ∀ (w : World) (mg : Str → Option Value) (fa : Addr) (h : Heap), YP w h → h.Ns mainGlobals mg → mg d.name = some (.ref fa) → ∃ (K : PySem.W.Frag) (fd : FuncData) (sp : Sp), K.In h ∧ (∀ (s : Shared) (u : Value), BindsTo s fd ⟨[u], []⟩ [(x, u)]) ∧
      (∀ (H : Hp) (a : Addr) (ns : List Int), ns.length ≤ n → (∀ z ∈ ns, Builtin.Int.intBits z ≤ 1048576) → SqL K H a (ns.map V.int) → sp [.ref a] H (fun v _ => v = .bl true) fun _ _ _ => False) ∧
      ∀ base : Heap, K.In base → base.Ns mainGlobals mg → RunsAt l.prog w K mg base fa fd [x] sp callerA) :
    PySem.W.WalkO q loose XP YP l.row.toRowW d [] (fun f vs => PySem.call f vs) := by
  refine Att.attach_callB hn hdf fun w s0 s1 mg mb fa o pm cd doc a vs ns G Y ho hd hcd hmg hobj hints hlen hbits hg => ?_
  obtain ⟨K, fd, sp, KX, hb, hsp, R⟩ := F w mg fa _ Y G.T.g hmg
  exact law_at KX G.T.g G.T.b G.T.builtins G.T.nolimit hg hobj hints (Nat.le_trans hlen hn2) R hb fun H sq _ => hsp H a ns hlen hbits sq
end L2.Tb
set_option Elab.async false
set_option linter.all false
set_option maxRecDepth 100000
set_option maxHeartbeats 4000000
namespace L2.Tb
open PySem PySem.Spec PyProof.Rows
section
variable {X : Cx} {x f : Str} {b : Bs} {C : Addr} {p pos : Pos} {e : Expr} {te : TE}
/-- the reading of an error that is made to be raised -/
def tErR (C : Addr) (f : Str) (te : TE) : St → Hp → XK → Prop := fun σ H Q => te σ H fun v H1 => ∀ d H', Same H1 H' → H1 d = none → H' d = some (.xd [(f, v)]) → Q (.ref C) (some d) H'
theorem pmk_er (E : ErC X.prog X.w X.K X.mg X.base x f b C) (ty : PySem.W.typeIn X.K (.ref C) = some (.type "type")) {j : Nat} (hr : Room j X.A) (hj : 2 ≤ j) (hg : Gl X x) (he : PE X e te) (hdb : (x == ("__debug__" : Str)) = false := by decide)
    (hs : starEach [e] X.env = (false, eval e X.env) :: starEach [] X.env := by rfl) (hpl : (backTo pos (starEach [] X.env)).any (·.1) = false := by rfl) : PMk X (.Call (.Name x p) [e] [] pos) (tErR C f te) := by
  intro pins s σ H Q I h
  obtain ⟨fI, fd, h1, h2, F1, hb, _⟩ := E.init
  have ha : PA X [e] (tCons (tUp te) tNil) := pa_cons (pe_up he) pa_nil hs
  refine wpAny_Call_Name_kw (ld_glob I hg E.mgC ?_ hdb)
  refine PySem.W.callWith_K (h₀ := X.base) I.ok.mod.kin E.ec.kC (thn (ha.run pos pins s σ H (fun vs H1 => ∃ v, vs = [v] ∧ ∀ d H', Same H1 H' → H1 d = none → H' d = some (.xd [(f, v)]) → Q (.ref C) (some d) H') I ⟨_, h, fun v H1 q => ⟨v, rfl, q⟩⟩) fun us s1 hh => ?_) hs hpl
  obtain ⟨vs, H1, I1, r1, v, rfl, q1⟩ := hh
  refine ⟨I1.kIn, ?_⟩
  show wpAny _ _ (call (.ref C) us) _ _ _
  obtain ⟨nm, N, qn, bs, bm, hdct, sn, sub, ab, col, dd, k0, k1, k2, k3, k5, hC, hT⟩ := PySem.W.excInit_of I1.kIn E.ec.own
  obtain ⟨hp, g, dr, tk, os⟩ := s1
  have hn : H1 (hp.objs.size + 1) = none := I1.hok.fresh (Nat.le_succ _)
  have keep : ∀ c o, hp.get? c = some o → (laidH hp C us).get? c = some o := fun c o q => Heap.get?_push_of_some _ (Heap.get?_push_of_some _ q)
  have hus : us.length ≤ sizeLine := by
    rw [← Paired.length r1]
    exact Nat.le_of_ble_eq_true rfl
  have hl : (Value.ref (hp.objs.size + 1) :: us).length = (["self", f] : List Str).length := by
    rw [List.length_cons, ← Paired.length r1]
    rfl
  have I2 := made_inv (C := C) us I1
  have bind : BindsTo ⟨(hp.push (PySem.W.kdv_tup us)).push (PySem.HandSPX.excO C hp.objs.size), g, dr, tk, os⟩ fd ⟨Value.ref (hp.objs.size + 1) :: us, []⟩ ((["self", f] : List Str).zip (Value.ref (hp.objs.size + 1) :: us)) := by
    have z := hb _ (Value.ref (hp.objs.size + 1) :: us) I2.kIn (by rw [List.append_nil]; exact hl)
    rw [List.append_nil] at z
    exact z
  refine wpAny_call (own_call ⟨nm, qn, N, bs, hdct, sn, sub, ab, col, dd, k0, k1, k2, k3, k5, hC⟩ E.ec.ok hT (PySem.W.looks_findIn I1.kIn h1) (fun self => PySem.W.bind_fn I1.kIn self h2) hus
    (codeAny_mono (F1.run _ X.stack _ _ ⟨Value.ref (hp.objs.size + 1) :: us, []⟩ (Value.ref (hp.objs.size + 1) :: us) [V.ref (hp.objs.size + 1), v]
      (fun u H2 => u = .non ∧ ∃ d, H2 (hp.objs.size + 1) = some (exo (hp.objs.size + 1) C (some d)) ∧ H2 d = some (exd d [(f, v)]) ∧ H1 d = none ∧ Q (.ref C) (some d) (upd (del H2 (hp.objs.size + 1)) d (.xd [(f, v)]))) E0 ((hr.mono hj).make C us []) (I2.env0.make C us []) bind (.cons rfl r1) ?_) fun r s' hq => ?_))
  · refine ⟨_, C, b, v, rfl, E.ec, E.no, upd_same, fun dx nd ne => ⟨rfl, dx, upd_same, by rw [upd_ne ne, upd_same], ?_, q1 dx _ (fun c o q => ?_) ?_ upd_same⟩⟩
    · rw [upd_ne ne] at nd
      exact nd
    · have hca : c ≠ hp.objs.size + 1 := ne_of_none q hn
      have hcd : c ≠ dx := fun z => by
        rw [z] at q
        rw [upd_ne ne] at nd
        rw [nd] at q
        cases q
      rw [upd_ne hcd, del_ne hca, upd_ne hca, upd_ne hcd, upd_ne hca]
      exact q
    · rw [upd_ne ne] at nd
      exact nd
  · match r, hq with
    | .error er, hq => exact hq.elim
    | .ok (.ret u), ⟨w, H2, os2, bare2, un2, hok2, rv, ev, d, ea, ed, hd1, q2⟩ =>
      subst ev
      obtain ⟨h2, g2, d2, t2, os'⟩ := s'
      exact ⟨rv, mk_end (raises_own E.ec.ex.hs ty) I1 (Nat.le_succ _) keep un2 hok2 os2 bare2 ea ed hd1 q2⟩
end
end L2.Tb
set_option Elab.async false
set_option linter.all false
set_option maxRecDepth 100000
set_option maxHeartbeats 4000000
/-! an object of an own class: str(x) by its __str__, x == y by its __eq__ (any outcome) -/
namespace L2.Tb
open PySem PySem.Spec PyProof.Rows
section
variable {X : Cx} {C f : Addr} {fd : FuncData} {ps : List Str} {sp : Sp} {k : Nat}
theorem relV_str {z : Str} {u : Value} (r : RelV (.str z) u) : ∃ t, u = .str z t := r
def rStrOwn (C : Addr) (sp : Sp) : List V → Hp → VK → Prop := fun xs H Q => ∃ (a dx : Addr) (fs : List (Str × V)), xs = [.ref a] ∧ H a = some (.ins C dx fs) ∧ sp [.ref a] H (fun v H' => ∃ z, v = .str z ∧ Q (.str z) H') E0
theorem call_strOwn (F : FnOk X.prog X.w X.K X.mg X.base L2.CX0 k f fd ps sp) (hr : Room (k + 2) X.A) (hs : PySem.W.findIn X.K (.ref C) "__str__" = some (some (.ref f))) (hf : PySem.W.isFn X.K (.ref f) = true) (hb : Binds X.K fd ps []) : CallR X (.type "str") (rStrOwn C sp) := by
  intro pins s σ H xs us Q I r h
  obtain ⟨a, dx, fs, rfl, ea, h⟩ := h
  rw [Vals.ref1 r]
  obtain ⟨mA, O, _⟩ := ins_get I.hok ea
  obtain ⟨od, J, _⟩ := O.look
  have r2 : Room k X.A.in1.in1 := hr.in1.in1
  have hl := F.len _ _ _ _ h
  refine PySem.W.kso_call (hr.in1.in1.units0) I.kIn J hs hf (wpAny_call (codeAny_mono (F.run X.A.in1.in1 X.stack s H ⟨[.ref a], []⟩ [.ref a] [.ref a] _ E0 r2 I.env0.in1.in1 (by
    have z := hb s [.ref a] I.kIn (by simpa using hl)
    simpa using z) (.cons rfl .nil) h) fun r s' hq => ?_))
  match r, hq with
  | .error e, hq => exact hq.elim
  | .ok (.ret u), hq =>
    obtain ⟨v, H', I', rv, z, ev, q⟩ := I.after hq
    rw [ev] at rv
    obtain ⟨t, rfl⟩ := relV_str rv
    exact ⟨.str z, H', I', ⟨t, rfl⟩, q⟩
def rOwnEq (K : PySem.W.Frag) (C : Addr) (sp : Sp) : R2 := fun x y H Q => ∃ (a dx : Addr) (fs : List (Str × V)) (t : Value), x = .ref a ∧ H a = some (.ins C dx fs) ∧ TyX K H y t ∧ PySem.W.notFirst K C t = true ∧ sp [.ref a, y] H Q E0
theorem cmp_back {Q : Value → Shared → Prop} {u : Value} {s' : Shared} {v : V} (r : RelV v u) (q : Q u s') : PySem.W.CmpBack Q u s' := by
  cases u <;> first | exact q | (cases v <;> first | (obtain ⟨t, e⟩ := r; cases e; done) | (cases r; done))
theorem op_ownEq (F : FnOk X.prog X.w X.K X.mg X.base L2.CX0 k f fd ps sp) (hr : Room k X.A) (hs : PySem.W.findIn X.K (.ref C) "__eq__" = some (some (.ref f))) (hf : PySem.W.isFn X.K (.ref f) = true) (hb : Binds X.K fd ps []) : OpR X (compareOp .Eq) (rOwnEq X.K C sp) := by
  intro pins s σ H x y v u Q I rx ry h
  obtain ⟨a, dx, fs, t, rfl, ea, ty, nf, h⟩ := h
  obtain rfl : v = Value.ref a := rx
  obtain ⟨mA, O, _⟩ := ins_get I.hok ea
  obtain ⟨od, J, _⟩ := O.look
  obtain ⟨m, hF⟩ := I.fr
  obtain ⟨Pt, kt, pt, _⟩ := kit_of I ry ty
  have hl := F.len _ _ _ _ h
  refine PySem.W.cmp_K (op := .Eq) (tb := t) hr.units0 hF I.ok.mod.kin J (kt.ty _ _ I.kIn pt) nf hs hf (wpAny_call (codeAny_mono (F.run X.A X.stack s H ⟨[.ref a, u], []⟩ [.ref a, u] [.ref a, y] _ E0 hr I.env0 (by
    have z := hb s [.ref a, u] I.kIn (by simpa using hl)
    simpa using z) (.cons rfl (.cons ry .nil)) h) fun r s' hq => ?_))
  match r, hq with
  | .error e, hq => exact hq.elim
  | .ok (.ret u2), hq =>
    obtain ⟨v2, H', I', rv, q⟩ := I.after hq
    exact cmp_back rv ⟨v2, H', I', rv, q⟩
end
end L2.Tb
set_option Elab.async false
set_option linter.all false
set_option maxRecDepth 100000
set_option maxHeartbeats 4000000
/-! x != y where x's class has an __eq__ of its own and no __ne__ -/
namespace L2.Tb
open PySem PySem.Spec PyProof.Rows
section
variable {prog : Program} {w : World} {A : Around} {E : Value → Shared → Prop} {s : Shared} {K : PySem.W.Frag} {x C f : Addr} {ox : Obj} {od : Option Obj} {b : Value}
theorem ne_body {Q : Fin → Shared → Prop} (hu : A.units < cLine) (X : K.In s.heap) (I : PySem.W.InstAt s.heap x ox C od) (he : PySem.W.findIn K (.ref C) "__eq__" = some (some (.ref f))) (hf : PySem.W.isFn K (.ref f) = true)
    (h : wpAny (model prog w) A (call (.ref f) [.ref x, b]) (fun v s' => ∃ c, v = .bool c ∧ Q (.done (.ret (.bool (!c)))) s') E s) : wpAny (model prog w) A (Builtin.«object.__ne__» ⟨[.ref x, b], []⟩) Q E s := by
  unfold Builtin.«object.__ne__»
  refine wpAny_bind (wpAny_of_eq (show _ = (pure (Value.ref x, [b]) : Sem (Value × List Value)) from rfl) ?_)
  refine wpAny_bind (wpAny_cRoomFor hu (wpAny_bind (PySem.W.ifBound_K X I he hf (wpAny_mono h (fun v s' hv => ?_) fun _ _ e => e))))
  obtain ⟨c, rfl, q⟩ := hv
  exact wpAny_bind (wpAny_truthy_bool (wpAny_pure q))
theorem ne_call {Q : Value → Shared → Prop} (hu : A.in1.units < cLine) (X : K.In s.heap) (I : PySem.W.InstAt s.heap x ox C od) (hm : PySem.W.mroIn K C (.type "object") = some true) (he : PySem.W.findIn K (.ref C) "__eq__" = some (some (.ref f))) (hf : PySem.W.isFn K (.ref f) = true)
    (h : wpAny (model prog w) A.in1 (call (.ref f) [.ref x, b]) (fun v s' => ∃ c, v = .bool c ∧ Q (.bool (!c)) s') E s) : wpAny (model prog w) A (call (.builtin "object.__ne__") [.ref x, b]) Q E s :=
  wpAny_call (codeAny_call_builtin F.cmp_object.ne.plain F.cmpEntry_ne (PySem.W.check_slot F.cmpKind_ne F.cmpSplit_ne (I.type.andThen (PySem.W.looks_mroIn X hm)) (F.cmpArgs_ne _ _) (ne_body hu X I he hf h)))
theorem bound_ne {args : List Value} {Q : Option Value → Shared → Prop} (X : K.In s.heap) (I : PySem.W.InstAt s.heap x ox C od) (hs : PySem.W.findIn K (.ref C) "__ne__" = some (some (.builtin "object.__ne__")))
    (h : wpAny (model prog w) A (call (.builtin "object.__ne__") (.ref x :: args)) (fun v => Q (some v)) E s) : wpAny (model prog w) A (callSpecialIfBound? (.ref x) "__ne__" args) Q E s := by
  have run : wpAny (model prog w) A (call (.builtin "object.__ne__") ([.ref x] ++ args) >>= fun v => pure (some v)) Q E s := wpAny_bind (wpAny_mono h (fun _ _ q => wpAny_pure q) fun _ _ q => q)
  simp only [callSpecialIfBound?, bindSpecialIfBound?]
  refine wpAny_holding (wpAny_bind (wpAny_bind (wpAny_bind (I.type.here ((PySem.W.looks_findIn X hs).here (wpAny_bind (wpAny_askSetting (wpAny_ite ?_))))))))
  split
  · exact wpAny_bind (wpAny_of_eq (F.cmp_object.ne.bind _) (wpAny_pure (by exact run)))
  · exact wpAny_tryCatch (wpAny_bind (wpAny_of_eq (F.cmp_object.ne.bind _) (wpAny_pure (by exact run))))
theorem rc_ne {Q : Value → Shared → Prop} {tb : Value} (hu : A.units + 2 < cLine) (X : K.In s.heap) (I : PySem.W.InstAt s.heap x ox C od) (hb : PySem.W.Looks (model prog w) s.heap (typeOf b) tb) (hn : PySem.W.notFirst K C tb = true) (hm : PySem.W.mroIn K C (.type "object") = some true)
    (hs : PySem.W.findIn K (.ref C) "__ne__" = some (some (.builtin "object.__ne__"))) (he : PySem.W.findIn K (.ref C) "__eq__" = some (some (.ref f))) (hf : PySem.W.isFn K (.ref f) = true)
    (h : wpAny (model prog w) A.in1 (call (.ref f) [.ref x, b]) (fun v s' => ∃ c, v = .bool c ∧ Q (.bool (!c)) s') E s) : wpAny (model prog w) A (richCompare .NotEq (.ref x) b) Q E s := by
  have one : wpAny (model prog w) A (tryCompare (.ref x) (cmpInfo .NotEq).2.1 b) (fun r s' => ∃ c, r = some (.bool (!c)) ∧ Q (.bool (!c)) s') E s := by
    unfold tryCompare
    refine wpAny_bind (bound_ne X I hs (ne_call (show A.units + 1 < cLine by omega) X I hm he hf (wpAny_mono h (fun v s' hv => ?_) fun _ _ e => e)))
    obtain ⟨c, e, q⟩ := hv
    exact ⟨c, e, wpAny_pure ⟨c, rfl, q⟩⟩
  unfold richCompare
  simp only [oneThing_ref]
  refine wpAny_holding (wpAny_bind (wpAny_cRoomFor (show A.units < cLine by omega) ?_))
  refine wpAny_bind (I.type.here (wpAny_bind (hb.here ?_)))
  split
  · rename_i q
    have e : PySem.W.subIn K tb (.ref C) = some false := (Bool.or_eq_true_iff.mp hn).elim (fun z => absurd q (by rw [beq_iff_eq.mp z]; simp)) fun z => beq_iff_eq.mp z
    refine wpAny_bind ((PySem.W.looks_subIn X e).here ?_)
    simp only [Bool.false_eq_true, if_false]
    refine wpAny_bind (wpAny_mono one (fun r s' z => ?_) fun _ _ e => e)
    obtain ⟨c, rfl, hq⟩ := z
    exact wpAny_pure hq
  · refine wpAny_bind (wpAny_pure ?_)
    simp only [Bool.false_eq_true, if_false]
    refine wpAny_bind (wpAny_mono one (fun r s' z => ?_) fun _ _ e => e)
    obtain ⟨c, rfl, hq⟩ := z
    exact wpAny_pure hq
end
section
variable {X : Cx} {C f : Addr} {fd : FuncData} {ps : List Str} {sp : Sp} {k : Nat}
def rOwnNe (K : PySem.W.Frag) (C : Addr) (sp : Sp) : R2 := fun x y H Q => ∃ (a dx : Addr) (fs : List (Str × V)) (t : Value), x = .ref a ∧ H a = some (.ins C dx fs) ∧ TyX K H y t ∧ PySem.W.notFirst K C t = true ∧ sp [.ref a, y] H (fun v H' => ∃ c, v = .bl c ∧ Q (.bl (!c)) H') E0
theorem op_ownNe (F : FnOk X.prog X.w X.K X.mg X.base L2.CX0 k f fd ps sp) (hr : Room (k + 1) X.A) (hm : PySem.W.mroIn X.K C (.type "object") = some true) (hs : PySem.W.findIn X.K (.ref C) "__ne__" = some (some (.builtin "object.__ne__")))
    (he : PySem.W.findIn X.K (.ref C) "__eq__" = some (some (.ref f))) (hf : PySem.W.isFn X.K (.ref f) = true) (hb : Binds X.K fd ps []) : OpR X (compareOp .NotEq) (rOwnNe X.K C sp) := by
  intro pins s σ H x y v u Q I rx ry h
  obtain ⟨a, dx, fs, t, rfl, ea, ty, nf, h⟩ := h
  obtain rfl : v = Value.ref a := rx
  obtain ⟨mA, O, _⟩ := ins_get I.hok ea
  obtain ⟨od, J, _⟩ := O.look
  obtain ⟨Pt, kt, pt, _⟩ := kit_of I ry ty
  have hl := F.len _ _ _ _ h
  refine rc_ne (tb := t) (by have := hr.un; omega) I.kIn J (kt.ty _ _ I.kIn pt) nf hm hs he hf (wpAny_call (codeAny_mono (F.run X.A.in1 X.stack s H ⟨[.ref a, u], []⟩ [.ref a, u] [.ref a, y] _ E0 hr.in1 I.env0.in1 (by
    have z := hb s [.ref a, u] I.kIn (by simpa using hl)
    simpa using z) (.cons rfl (.cons ry .nil)) h) fun r s' hq => ?_))
  match r, hq with
  | .error e, hq => exact hq.elim
  | .ok (.ret u2), hq =>
    obtain ⟨v2, H', I', rv, c, e, q⟩ := I.after hq
    rw [e] at rv
    obtain rfl : u2 = Value.bool c := rv
    exact ⟨c, rfl, .bl (!c), H', I', rfl, q⟩
end
end L2.Tb
set_option Elab.async false
set_option linter.all false
set_option maxRecDepth 100000
set_option maxHeartbeats 4000000
/-! C(e, .., k = v) where C stands in a local variable -/
namespace L2.Tb
open PySem PySem.Spec PyProof.Rows
theorem pass_none {X : Cx} : Passes (L2.CX X.prog X.w) X (fun _ _ _ => False) := fun _ _ _ _ _ _ _ h => by
  obtain ⟨_, _, _, _, _, _, _, _, _, _, _, _, z⟩ := h
  exact z.elim
section
variable {X : Cx} {CX : CXT} {k n i : Nat} {f C : Addr} {fd : FuncData} {ps ks : List Str} {sp : Sp} {E : XK} {x : Str} {p pos : Pos} {e : Expr} {es : List Expr} {kws : List Keyword} {t tk : TA} {g : List Value → List Value → List Value} {gV : List V → List V → List V}
def tMakeVK (i : Nat) (C : Addr) (n m : Nat) (sp : Sp) (gV : List V → List V → List V) (E : XK) (t tk : TA) : TE := fun σ H Q => σ[i]? = some (some (.ref C)) ∧ tMakeK C n m sp gV E t tk σ H Q
theorem pe_makeVK (M : Mk X.K C f) (F : FnOk X.prog X.w X.K X.mg X.base CX k f fd ps sp) {j : Nat} (hr : Room j X.A) (hj : k + 1 ≤ j) (hN : X.N[i]? = some x) (hv : Vis X.env.scope x) (hb : KBn X.K fd ps (n + 1) ks g gV) (hx : Passes CX X E) (ha : PA X (e :: es) t) (hkw : PK X kws tk)
    (hall : (backToKw pos (keywordEach kws X.env)).all (·.1.isSome) = true := by rfl) (hks : (backToKw pos (keywordEach kws X.env)).filterMap (·.1) = ks := by rfl) (hd : (x == ("__debug__" : Str)) = false := by decide) (hcd : (x == ("__classdict__" : Str)) = false := by decide)
    (he : starEach (e :: es) X.env = (false, eval e X.env) :: starEach es X.env := by rfl) (hpl : ((backTo pos (starEach (e :: es) X.env)).any (·.1) || (backToKw pos (keywordEach kws X.env)).any (·.1.isNone)) = false := by rfl) :
    PE X (.Call (.Name x p) (e :: es) kws pos) (tMakeVK i C n ks.length sp gV E t tk) := by
  refine ⟨fun pins s σ H Q I ⟨hs, h⟩ => wpAny_Call_Name_kw (thn ((pe_var (pos := p) (i := i) hN hv hd hcd).run pins s σ H (fun v H1 => v = .ref C ∧ H1 = H) I ⟨.ref C, hs, rfl, rfl⟩) fun u s1 hh => ?_)⟩
  obtain ⟨v, H1, I1, r1, ev, eH⟩ := hh
  subst ev eH
  cases r1
  refine PySem.W.callWith_KW (h₀ := X.base) I1.ok.mod.kin M.kp hall (thn (ha.run pos pins s1 σ H1 _ I1 h) fun us s2 ⟨vs, H2, I2, r, q⟩ => thn (hkw.run pos pins s2 σ H2 _ I2 q) fun ws s3 ⟨zs, H3, I3, rz, l1, l2, q2⟩ => ⟨I3.kIn, ?_⟩) hpl he
  rw [hks]
  exact run_makeK M F (hr.mono hj) hb hx I3 r rz l1 l2 q2
end
end L2.Tb
set_option Elab.async false
set_option linter.all false
set_option maxRecDepth 100000
set_option maxHeartbeats 4000000
/-! C.m(k = v), m a classmethod; repr of a bool -/
namespace L2.Tb
open PySem PySem.Spec PyProof.Rows
theorem call_repr_bl {X : Cx} : CallR X (.builtin "repr") (fun xs H Q => ∃ b, xs = [.bl b] ∧ Q (.str (if b then "True" else "False")) H) := by
  intro pins s σ H xs us Q I r h
  obtain ⟨b, rfl, q⟩ := h
  obtain ⟨u, rfl, e⟩ := vals1 r
  obtain rfl : u = Value.bool b := e
  exact PySem.P.repr_of_bool ⟨.str _, H, I.tok _, ⟨_, rfl⟩, q⟩
section
variable {X : Cx} {CX : CXT} {k : Nat} {C p g : Addr} {mc : Value} {sp : Sp} {E : XK} {o : Expr} {kws : List Keyword} {m : Str} {pos apos : Pos} {ta : TE} {tk : TA} {pl : Sem Bool} {fd : FuncData} {ps ks : List Str}
theorem pe_cmethK (he : PE X o ta) (r : ClX.CRead X.K C mc) (c : ClX.CMet X.K C mc m p g) (F : FnOk X.prog X.w X.K X.mg X.base CX k g fd ps sp) (hr : Room k X.A) (hx : Passes CX X E) (hkw : PK X kws tk) (hl : ps.length = ks.length + 1)
    (hb : ∀ (sh : Shared) (zs : List Value), zs.length = ks.length → BindsTo sh fd ⟨[.ref C], ks.zip zs⟩ (ps.zip (Value.ref C :: zs)))
    (hall : (backToKw pos (keywordEach kws X.env)).all (·.1.isSome) = true := by rfl) (hks : (backToKw pos (keywordEach kws X.env)).filterMap (·.1) = ks := by rfl)
    (hpl : ((backTo pos (starEach [] X.env)).any (·.1) || (backToKw pos (keywordEach kws X.env)).any (·.1.isNone)) = false := by rfl)
    (ht : eval (.Call (.Attribute o m apos) [] kws pos) X.env = (do
      let ov ← eval o X.env
      standAt apos.atName
      let (f, first) ← holding [ov] (getMethod ov m pl)
      callWith pos f first (backTo pos (starEach [] X.env)) (backToKw pos (keywordEach kws X.env))) := by rfl) :
    PE X (.Call (.Attribute o m apos) [] kws pos) (fun σ H Q => ta σ H fun x H1 => x = .ref C ∧ tk σ H1 fun zs H2 => sp (.ref C :: zs) H2 Q E) := by
  refine ⟨fun pins s σ H Q I h => ?_⟩
  refine PySem.W.methodCall_KW (pl := pl) (thn (he.run pins s σ H _ I h) fun u s1 hh => ?_) ht
  obtain ⟨x, H1, I1, rx, ex, q⟩ := hh
  subst ex
  obtain rfl : u = Value.ref C := rx
  refine ClX.getmethcm_ok I1 r c fun s2 I2 => ?_
  refine PySem.W.callWith_of (P := PySem.W.MethP X.K s1.heap.objs.size g (.ref C)) hpl (PySem.W.keeps_M c.fi) (evalArgs_kw2_nil hall ?_)
  refine thn (hkw.run pos _ s2 σ H1 _ I2 q) fun ws s3 hh => ?_
  obtain ⟨zs, H2, I3, rz, q2⟩ := hh
  refine ⟨⟨ClX.pin_at I3, I3.kIn⟩, ?_⟩
  rw [hks]
  have hw : ws.length = ks.length := by
    have z := F.len _ _ _ _ q2
    rw [List.length_cons, hl] at z
    rw [← rz.length]
    omega
  have run : wpAny (model X.prog X.w) X.A (call (.ref s1.heap.objs.size) [] (ks.zip ws)) (EP X ((s1.heap.objs.size, PySem.W.methodObj (.ref g) (.ref C)) :: pins) σ Q) X.xe s3 := by
    refine wpAny_call (PySem.W.method_call (ClX.pin_at I3) (codeAny_mono (F.run X.A X.stack s3 H2 ⟨[.ref C], ks.zip ws⟩ (.ref C :: ws) (.ref C :: zs) Q E hr I3.env0 (hb s3 ws hw) (.cons rfl rz) q2) fun r s' hq => ?_))
    match r, hq with
    | .error e, hq => exact hx _ σ H2 s3 e s' I3 hq
    | .ok (.ret u2), hq => exact I3.after hq
  exact thn run fun _ _ y => ClX.unpinE y
end
end L2.Tb
set_option Elab.async false
set_option linter.all false
set_option maxRecDepth 100000
set_option maxHeartbeats 4000000
/-! try: .. / except X as e: .. / except Y as e: .. / whatever clause behind, which is never reached -/
namespace L2.Tb
open PySem PySem.Spec PyProof.Rows
abbrev Suite : Type := Addr → Value → Option Addr → TS
/-- the ends of a suite whose name stands in slot i: the name goes -/
def offName (i : Nat) (D : Ends) : Ends := { nx := fun σ H => D.nx (σ.set i none) H, rt := D.rt, bk := fun σ H => D.bk (σ.set i none) H, ct := fun σ H => D.ct (σ.set i none) H }
def wAsMany (K : PySem.W.Frag) (D : Ends) : List (Value × Nat × Suite) → WX
  | [] => fun _ _ _ _ => False
  | (c, i, ts) :: r => fun cls d σ H => ∃ b, PySem.W.exmOne K cls c = some b ∧ (b = true → ∀ a, H a = none → ts a cls d (offName i D) (σ.set i (some (.ref a))) H) ∧ (b = false → wAsMany K D r cls d σ H)
/-- only for slots of the right number -/
def wLen (N : List Str) (W : WX) : WX := fun cls d σ H => σ.length = N.length → W cls d σ H
inductive HdsAs (X : Cx) : List ExceptHandler → List (Value × Nat × Suite) → Prop
  | stop (rest : List ExceptHandler) : HdsAs X rest []
  | cons {x n : Str} {c : Value} {i : Nat} {ts : Suite} {b0 : Stmt} {suite : List Stmt} {np p : Pos} {hds : List ExceptHandler} {l : List (Value × Nat × Suite)} (hi : X.N[i]? = some n) (hln : X.env.kindOf n = some .local) (hc : Names X x c)
      (hsu : ∀ (a : Addr) (oe : Obj) (cls : Value) (d : Option Addr) (pn : List (Addr × Obj)), Zc cls d oe → (∃ vs, oe.data = .fields vs) → PSs (X.suite a ((a, oe) :: pn)) (b0 :: suite) (ts a cls d)) (r : HdsAs X hds l) :
      HdsAs X (.ExceptHandler (some (.Name x np)) (some n) (b0 :: suite) p :: hds) ((c, i, ts) :: l)
section
variable {X : Cx} {body : List Stmt} {h0 : ExceptHandler} {hds : List ExceptHandler} {l : List (Value × Nat × Suite)} {pos : Pos} {tb : WX → TS}
theorem ps_try_asMany (hs : X.stack = X.env :: X.outer) (hf : X.env.frame = some X.env.locals) (hN : X.N.Nodup)
    (hb : ∀ (W : WX) (pn : List (Addr × Obj)) (xe : Value → Shared → Prop), Takes (X.tr pn xe) W → PassesOwn (model X.prog X.w) X.A X.env xe → PSs (X.tr pn xe) body (tb W)) (hh : HdsAs X (h0 :: hds) l) :
    PS X (.Try body (h0 :: hds) [] [] pos) (fun D σ H => tb (wLen X.N (wAsMany X.K D l)) D σ H) := by
  refine ⟨fun pins s σ H D I h => ?_⟩
  have ok := I.ok
  refine wpAny_Try_except (wpAny_mono ((hb (wLen X.N (wAsMany X.K D l)) (X.pn ++ pins) (fun e s1 => wpAny (model X.prog X.w) X.A (noteFrame e X.env) (fun _ s2 => wpAny (model X.prog X.w) X.A (setFlight e none) (fun _ s3 =>
    wpAny (model X.prog X.w) X.A (handleBy e X.env (h0 :: hds)) (SP X pins D) X.xe s3) X.xe s2) X.xe s1) (fun u s' caught => ?_) PassesOwn.looking).run [] s σ H D (I.toTry _) h) (fun f s1 hsp => ?_) fun _ _ he => he)
  · obtain ⟨a, B, sI, pins', σ', H', cls, d, rfl, J', nb, up, sky, na, os, ag, w⟩ := caught
    have J : Inv X pins σ' H' sI := J'.ofTry ok
    replace w := w J.len
    rw [hs] at sky
    show wpAny (model X.prog X.w) X.A (noteFrame (.ref a) X.env) _ _ _
    refine Sky.land Zc.steady (by rw [ok.frames, hs]) hf sky fun h3 fl3 up3 => ?_
    have J3 : Inv X pins σ' H' { s' with heap := h3 } := J.landed nb fl3.1 (up.trans up3) os ag
    obtain ⟨oe3, vs3, he3, hz3, hd3⟩ := fl3.there
    have nfr : a ∉ frs (X.env :: X.outer) := fun hm => by
      obtain ⟨_, o', e', no⟩ := fl3.2.2.1.mem hm
      rw [he3] at e'
      cases e'
      exact no _ hd3
    have nL : a ≠ X.env.locals := fun z => nfr (List.mem_filterMap.mpr ⟨X.env, List.mem_cons_self, by rw [hf, z]⟩)
    have nF : a ∉ X.fs := fun hm => let ⟨e, he, q⟩ := List.mem_filterMap.mp hm; nfr (List.mem_filterMap.mpr ⟨e, List.mem_cons_of_mem _ he, q⟩)
    have S3 := J3.suite he3 hd3 na nL nF
    clear hb h
    generalize h0 :: hds = all at hh ⊢
    induction hh with
    | stop rest => exact w.elim
    | @cons x n c i ts b0 suite np p hds2 l2 hi hln hc hsu r ih =>
      obtain ⟨b, hb1, hyes, hno⟩ := w
      have LT : PySem.W.Looks (model X.prog X.w) h3 (typeOf (.ref a)) cls := fun A Q E s k q => wpAny_typeOf_ref (k _ _ he3) (by rw [hz3.1]; exact q)
      have LM := PySem.W.exm_one (M := model X.prog X.w) J3.kIn LT hb1
      have test : ∀ {Q : Value → Shared → Prop} {E : Value → Shared → Prop}, Q c { s' with heap := h3 } → wpAny (model X.prog X.w) (X.A.mark (some (.ref a))) (eval (.Name x np) X.env) Q E { s' with heap := h3 } := fun q => by
        rcases hc with ⟨hg, hdbg, hm | ⟨hm, hv, hnn⟩⟩
        · exact ld_glob (X := X.suite a ((a, oe3) :: (X.pn ++ pins))) S3 hg hm q hdbg
        · exact ld_blt (X := X.suite a ((a, oe3) :: (X.pn ++ pins))) S3 hg hm hv q hnn hdbg
      refine wpAny_handleBy_cons (codeAny_handlers_test (test (LM.here ?_))) (by intro q; cases q)
      cases b with
      | false => exact ih (hno rfl)
      | true =>
        refine codeAny_handlers_suite_as (HandSPX.lands_againZ fl3 fun h4 fl4 up4 => ?_)
        have J4 : Inv X pins σ' H' { s' with heap := h4 } := J.landed nb fl4.1 ((up.trans up3).trans up4) os ag
        obtain ⟨oe4, vs4, he4, hz4, hd4⟩ := fl4.there
        refine store_ok (X := X.suite a ((a, oe4) :: (X.pn ++ pins))) (v := .ref a) (J4.suite he4 hd4 na nL nF) hN hi (.inl hln) rfl (fun s5 S5 => ?_) (.inr hln)
        refine wpAny_mono ((hsu a oe4 cls d (X.pn ++ pins) hz4 ⟨_, hd4⟩).run [] s5 _ H' _ S5 (hyes rfl a na)) (fun f s6 hsp => ?_) fun _ _ z => z.elim
        have gone : ∀ {σ6 : St} {H6 : Hp} {Q : Shared → Prop}, Inv (X.suite a ((a, oe4) :: (X.pn ++ pins))) [] σ6 H6 s6 → (∀ s7, Inv X pins (σ6.set i none) H6 s7 → Q s7) → wpAny (model X.prog X.w) X.A (do bindName X.env n .none; unbindBehindTheSuite X.env n p) (fun _ s7 => Q s7) X.xe s6 :=
          fun S6 hq => gone_ok (S6.unsuite ok) hN hi hln hq
        match f, hsp with
        | .next, ⟨σ6, H6, S6, q6⟩ => exact gone S6 fun s7 J7 => ⟨_, _, J7, q6⟩
        | .brk, ⟨σ6, H6, S6, q6⟩ => exact gone S6 fun s7 J7 => ⟨_, _, J7, q6⟩
        | .cont, ⟨σ6, H6, S6, q6⟩ => exact gone S6 fun s7 J7 => ⟨_, _, J7, q6⟩
        | .ret u, ⟨v6, σ6, H6, S6, r6, q6⟩ => exact gone S6 fun s7 J7 => ⟨_, _, _, J7, r6, q6⟩
  · match f, hsp with
    | .next, ⟨σ1, H1, J1, q⟩ => exact wpAny_execs_nil ⟨σ1, H1, J1.ofTry ok, q⟩
    | .brk, ⟨σ1, H1, J1, q⟩ => exact ⟨σ1, H1, J1.ofTry ok, q⟩
    | .cont, ⟨σ1, H1, J1, q⟩ => exact ⟨σ1, H1, J1.ofTry ok, q⟩
    | .ret u, ⟨v, σ1, H1, J1, r, q⟩ => exact ⟨v, σ1, H1, J1.ofTry ok, r, q⟩
end
end L2.Tb
set_option Elab.async false
set_option linter.all false
set_option maxRecDepth 100000
set_option maxHeartbeats 4000000
/-! p, q = e1, e2 where the stores stand from the left (one of the targets is no plain local name): the pair made between is not tracked -/
namespace L2.Tb
open PySem PySem.Spec PyProof.Rows
def tPairL (ta : TA) (g : TGs) : TS := fun D σ H => ta σ H fun vs H1 => vs.length = 2 ∧ g vs σ H1 D.nx
variable {X : Cx} {es vs : List Expr} {ta : TA} {g : TGs} {kt k2 : Nat} {pt pt2 pos : Pos}
theorem ps_pairL (calm : X.calm = true) (right : PA X vs ta) (left : PGs X es g)
    (star : (assignEach es X.env).findIdx? (·.1) = none) (even : (assignEach es X.env).length = 2)
    (plain : swappedStores [.Tuple es kt pt] (.Tuple vs k2 pt2) X.env = pure none)
    (noswap : swapsWithSole [.Tuple es kt pt] (.Tuple vs k2 pt2) pos.line X.env = pure false := by rfl)
    (once : (assignEach [.Tuple es kt pt] X.env).map (·.2) = [assign (.Tuple es kt pt) X.env] := by rfl) :
    PS X (.Assign [.Tuple es kt pt] (.Tuple vs k2 pt2) pos) (tPairL ta g) := by
  refine ⟨fun pins s σ H D I h => ?_⟩
  refine wpAny_Assign_stores (Tuple_ (thn (right.run _ pins s σ H _ I h) fun us s1 ⟨ws, H1, I1, r1, q1⟩ => ?_)) noswap plain
  obtain ⟨e2, q1⟩ := q1
  have hlen : us.length = 2 := by rw [← e2]; exact (Vals.length r1).symm
  refine wpAny_newObj_type ?_ (by show us.length ≤ sizeLine; rw [hlen]; decide)
  have I2 : Inv X pins σ H1 { s1 with heap := s1.heap.push { cls := .type "tuple", data := .seq us.toArray } } := I1.kept (t' := s1.toks) fun b o e => Heap.get?_push_of_some _ e
  rw [once]
  show wpAny (model X.prog X.w) X.A (assign (.Tuple es kt pt) X.env (.ref s1.heap.objs.size)) _ _ _
  refine assign_Tuple_tuple (items := us.toArray) (I.ok.hd calm) (IsTup.new s1.heap _) (by simp [even, hlen]) star fun h' hx => ?_
  have I3 := I2.kept (h' := h') (t' := s1.toks) fun b o e => hx b o (Nat.ne_of_lt (Heap.lt_size e)) e
  refine thn (left.run pins _ σ H1 ws _ D.nx I3 (by simpa using r1) q1) fun _ s2 q => ?_
  exact q
end L2.Tb
set_option Elab.async false
set_option linter.all false
set_option maxRecDepth 100000
set_option maxHeartbeats 4000000
namespace L2.Tb
open PySem PySem.Spec PyProof.Rows
/-! ### a def whose code object is known -/
section
variable {P : Program} {w : World} {K : PySem.W.Frag} {mg : Str → Option Value} {base : Heap} {x : Str} {st : Stmt} {fd : FuncData} {N ps : List Str} {k : Nat} {sp : Sp}
/-- as cal_mk, the body being told where the def's code object stands -/
theorem cal_mkC {at_ : Str × Option Str} (F : FnP K x st (He.fAd K at_) fd) (hm : mg x = some (.ref (He.fAd K at_))) (S : FnScope N ps (defScope st))
    (hb : ∀ (kV doc pm : Value) (an : Option Addr) (cdv ct : Value) (us : List Value), us.length = ps.length → bindArgs (PySem.W.fnOf x x (defArgs st) (defBody st) (defScope st) .none kV doc pm an cdv ct) ⟨us, []⟩ = pure (ps.zip us))
    (len : ∀ vs H Q E, sp vs H Q E → vs.length = ps.length)
    (hbody : ∀ (cdv : Value) (A : Around) (outer : List Env) (s : Shared) (H : Hp) (vs : List V) (Q : VK) (E : XK), cdv = .ref (He.codeOf K at_) → Room k (A.deeper (envOfC x (defScope st) s.heap.objs.size (He.fAd K at_) cdv)) → sp vs H Q E →
      ∃ t, PSs (cxOf L2.CX0 P w K mg base N x (defScope st) (He.fAd K at_) cdv A outer s H E).nox (defBody st) t ∧ t { nx := fun _ H' => Q .non H', rt := Q } (start N vs) H) : Cal P w K mg base (k + 1) x sp := by
  obtain ⟨oc, od, dV, kV, doc, pm, an, cdv, ct, osl, rfl, lk, hcd, _, _⟩ := id F.ex
  obtain ⟨c, rfl⟩ := He.codeIn_ref hcd
  have hc : (Value.ref c) = .ref (He.codeOf K at_) := by rw [He.codeOf_eq lk rfl]
  refine ⟨_, _, ps, fn_of lk hcd S len fun A outer s H vs Q E hr h => ?_, hm, F.kp, F.bindsN hb⟩
  obtain ⟨t, a, b⟩ := hbody _ A outer s H vs Q E hc hr h
  exact ⟨t, a.nox, b⟩
end
/-! ### the end at the place of the law's call, some code objects having tables -/
section
variable {P : Program} {w : World} {K : PySem.W.Frag} {mg mb : Str → Option Value} {fa a : Addr} {fd : FuncData} {x : Str} {sp : Sp} {s1 : Shared} {vs : List Value} {ns : List Int} {cs : List (Addr × Addr)}
theorem law_atT (KX : K.In s1.heap) (hns : s1.heap.Ns mainGlobals mg) (hb : s1.heap.Ns builtinsNs mb)
    (hbb : ∀ x : Str, x ≠ "__name__" → mb x = bootBuiltins x) (hlim : s1.heap.NoLimit) (hg : s1.gens = #[]) (hT : ∀ p ∈ cs, s1.heap.get? p.2 = some { cls := .none, data := .fields #[] }) (nT : ∀ p ∈ cs, K.lookup p.2 = none) (C : ∀ p ∈ cs, PySem.W.CodeHd s1.heap p.1 p.2)
    (hbm : ∃ (bm : Addr) (ob : Obj), mg "__builtins__" = some (.ref bm) ∧ bm ≠ builtinsNs ∧ s1.heap.get? bm = some ob ∧ ob.cls = .type "module" ∧ ob.dict = some builtinsNs ∧ ob.data = .plain)
    (ha : s1.heap.get? a = some { cls := .type "list", data := .seq vs.toArray }) (hi : IntsAre vs ns) (hl : ns.length ≤ sizeLine)
    (R : ∀ base : Heap, K.In base → base.Ns mainGlobals mg → (∀ p ∈ cs, LamX.TabB base mg p.1 p.2) → RunsAt P w K mg base fa fd [x] sp callerA) (hbind : ∀ (s : Shared) (u : Value), BindsTo s fd ⟨[u], []⟩ [(x, u)])
    (hsp : ∀ H : Hp, (∀ p ∈ cs, H p.2 = some (.tbl #[])) → SqL K H a (ns.map V.int) → sp [.ref a] H (fun v _ => v = .bl true) fun _ _ _ => False) :
    codeAny (model P w) callerA (.call (.ref fa) ⟨[.ref a], []⟩) (fun r s' => r = .ok (.ret (.bool true)) ∧ OldK s1.heap s'.heap ∧ s'.os = s1.os ∧ AllBare s'.gens) s1 := by
  let ob : Obj := { cls := .type "list", data := .seq vs.toArray }
  let Ts : List Addr := cs.map (·.2)
  let H : Hp := fun b => if b ∈ Ts then some (.tbl #[]) else if b = a ∧ K.lookup a = none then some (.frz ob (.lst (ns.map V.int))) else none
  have tabs : ∀ {b}, b ∈ Ts → ∃ p ∈ cs, p.2 = b := fun h => by
    obtain ⟨p, hp, e⟩ := List.mem_map.mp h
    exact ⟨p, hp, e⟩
  have tab1 : ∀ p ∈ cs, p.2 ∈ Ts := fun p hp => List.mem_map_of_mem hp
  have objT : ∀ {b}, b ∈ Ts → s1.heap.get? b = some { cls := .none, data := .fields #[] } := fun h => by
    obtain ⟨p, hp, rfl⟩ := tabs h
    exact hT p hp
  have aT : a ∉ Ts := fun h => by
    have z := (objT h).symm.trans ha
    cases z
  have hTab : ∀ {b}, b ∈ Ts → H b = some (.tbl #[]) := fun h => if_pos h
  have hNot : ∀ {b}, b ∉ Ts → (b = a → (K.lookup a).isSome = true) → H b = none := fun {b} h1 h2 => by
    refine (if_neg h1).trans (if_neg fun ⟨e, k⟩ => ?_)
    have z := h2 e
    rw [k] at z
    cases z
  have hCase : ∀ b o, H b = some o → (b ∈ Ts ∧ o = .tbl #[]) ∨ (b ∉ Ts ∧ b = a ∧ K.lookup a = none ∧ o = .frz ob (.lst (ns.map V.int))) := fun b o e => by
    by_cases h1 : b ∈ Ts
    · rw [hTab h1] at e
      exact .inl ⟨h1, (Option.some.inj e).symm⟩
    · have e2 : (if b = a ∧ K.lookup a = none then some (HO.frz ob (.lst (ns.map V.int))) else none) = some o := (if_neg h1).symm.trans e
      by_cases h2 : b = a ∧ K.lookup a = none
      · rw [if_pos h2] at e2
        exact .inr ⟨h1, h2.1, h2.2, (Option.some.inj e2).symm⟩
      · rw [if_neg h2] at e2
        cases e2
  have plain : ∀ {b o}, s1.heap.get? b = some o → (∀ u n, o.data ≠ .seq u n) → o.data ≠ .fields #[] → H b = none := fun {b o} e n1 n2 => by
    refine hNot (fun h => n2 ?_) fun h => absurd ?_ (n1 vs.toArray 0)
    · have z := e.symm.trans (objT h)
      cases z
      rfl
    · rw [h, ha] at e
      cases e
      rfl
  have ns1 : ∀ {b : Addr} {m : Str → Option Value}, s1.heap.Ns b m → (hidT s1.heap H).Ns b m := fun {b m} ⟨o, es, ep, e, d, r⟩ =>
    ⟨o, es, ep, hidT_get e (plain e (fun u n z => by rw [d] at z; cases z) (fun z => by rw [d] at z; cases z)), d, r⟩
  have kin : K.In (hidT s1.heap H) := fun b o e => hidT_get (KX b o e) (hNot (fun h => by
    obtain ⟨p, hp, rfl⟩ := tabs h
    rw [nT p hp] at e
    cases e) fun h => by rw [← h, e]; rfl)
  have rv := vals_ints hi
  have sq : SqL K H a (ns.map V.int) := by
    cases hk : K.lookup a with
    | none => exact .inl (.inr ⟨ob, (if_neg aT).trans (if_pos ⟨rfl, hk⟩)⟩)
    | some o =>
      have e := KX a o hk
      rw [ha] at e
      cases e
      exact .inr ⟨_, vs.toArray, _, hk, rfl, rfl, rfl, by rw [List.size_toArray, hi.length]; exact hl, by simpa using rv⟩
  have hok : HOk P w H s1.heap := fun b u z => by
    rcases hCase b u z with ⟨h1, rfl⟩ | ⟨_, rfl, _, rfl⟩
    · exact objT h1
    · exact ⟨ha, by rw [List.length_map]; exact hl, vs, _, rv, ha⟩
  obtain ⟨mc, l1, l2⟩ := hlim
  have e0 : Env0 P w K mg (hidT s1.heap H) callerA [] s1 H := ⟨rfl, ⟨kin, ns1 hns, ⟨mb, ns1 hb, hbb⟩, ⟨mc, ns1 l1, l2⟩⟩, fun _ _ e => of_hidT e, Nat.le_of_eq (hidT_size _ _), trivial, fun b hb => (nomatch hb), hok, .of_eq hg⟩
  have TB : ∀ p ∈ cs, LamX.TabB (hidT s1.heap H) mg p.1 p.2 := fun p hp => by
    have tp := hT p hp
    obtain ⟨og, es, ep, eg, dg, _⟩ := id hns
    refine ⟨?_, ?_, fun z => ?_⟩
    · obtain ⟨o, us, file, tf, flags, tg, inF, text, tt, e1, q⟩ := C p hp
      refine ⟨o, us, file, tf, flags, tg, inF, text, tt, hidT_get e1 (plain e1 (fun u n z => ?_) fun z => ?_), q⟩
      · rw [q.2.1] at z
        cases z
      · rw [q.2.1] at z
        cases z
        exact absurd q.2.2.1 (by simp)
    · obtain ⟨bm, o, b1, b2, b3, b4, b5, b6⟩ := hbm
      refine ⟨bm, o, b1, b2, fun z => ?_, fun z => ?_, hidT_get b3 (plain b3 (fun u n z => ?_) fun z => ?_), b4, b5, b6⟩
      · rw [z, eg] at b3
        cases b3
        rw [dg] at b6
        cases b6
      · rw [z, tp] at b3
        cases b3
        cases b6
      · rw [b6] at z
        cases z
      · rw [b6] at z
        cases z
    · rw [z, tp] at eg
      cases eg
      cases dg
  refine codeAny_mono (R _ kin (ns1 hns) TB [] s1 H _ [.ref a] [.ref a] (fun v _ => v = .bl true) (fun _ _ _ => False) e0 (hbind s1 (.ref a)) (.cons rfl .nil) rfl (hsp H (fun p hp => hTab (tab1 p hp)) sq)) fun r s' h => ?_
  match r, h with
  | .error e, h => exact h.elim
  | .ok (.ret u), ⟨v, H', os, bare, un, hok', r', q⟩ =>
    subst q
    obtain rfl : u = Value.bool true := r'
    have grown : ∀ {b}, b ∈ Ts → ∃ more : Array Value, s'.heap.get? b = some { cls := .none, data := .fields more } := fun {b} h => by
      obtain ⟨more, z⟩ := un.tbls b #[] (hTab h)
      exact ⟨_, hok' b _ z⟩
    have kept : ∀ {b o}, b ∉ Ts → s1.heap.get? b = some o → s'.heap.get? b = some o := fun {b o} h1 e => by
      cases z : H b with
      | none => exact un.keep b o e z (fun z => nomatch z) (fun z => nomatch z)
      | some o2 =>
        rcases hCase b o2 z with ⟨h2, _⟩ | ⟨_, rfl, _, rfl⟩
        · exact absurd h2 h1
        · rw [ha] at e
          cases e
          exact (hok' b _ (un.frzs b ob _ z)).1
    refine ⟨rfl, ⟨fun b o e => ?_, fun b o e => ?_⟩, os, bare⟩
    · by_cases h1 : b ∈ Ts
      · obtain ⟨more, hm⟩ := grown h1
        obtain ⟨p, hp, rfl⟩ := tabs h1
        have z := e.symm.trans (hT p hp)
        cases z
        exact .inr (.inl ⟨((C p hp).tab (hT p hp)).isCodeTable, rfl, #[], more, rfl, by rw [Array.empty_append]; exact hm⟩)
      · exact .inl (kept h1 e)
    · by_cases h1 : b ∈ Ts
      · obtain ⟨more, hm⟩ := grown h1
        exact ⟨_, hm⟩
      · exact ⟨o, kept h1 e⟩
end
theorem walk_atT {l : PySem.W.OpenLaw} {n : Nat} {q : Program} {loose : List Str} {XP : (Str → Option Value) → Heap → Prop} {YP : World → Heap → Prop} {d : DefRec} {x : Str} (hn : l.most = some n) (hn2 : n ≤ sizeLine) (hdf : d.params.defaults = [])
    (F : ∀ (w : World) (mg : Str → Option Value) (fa : Addr) (h : Heap), YP w h → h.Ns mainGlobals mg → mg d.name = some (.ref fa) → ∃ (K : PySem.W.Frag) (fd : FuncData) (sp : Sp) (cs : List (Addr × Addr)), K.In h ∧ (∀ p ∈ cs, h.get? p.2 = some { cls := .none, data := .fields #[] }) ∧
      (∀ p ∈ cs, K.lookup p.2 = none) ∧ (∀ p ∈ cs, PySem.W.CodeHd h p.1 p.2) ∧ (∀ (s : Shared) (u : Value), BindsTo s fd ⟨[u], []⟩ [(x, u)]) ∧
      (∀ (H : Hp) (a : Addr) (ns : List Int), ns.length ≤ n → (∀ z ∈ ns, Builtin.Int.intBits z ≤ 1048576) → (∀ p ∈ cs, H p.2 = some (.tbl #[])) → SqL K H a (ns.map V.int) → sp [.ref a] H (fun v _ => v = .bl true) fun _ _ _ => False) ∧
      ∀ base : Heap, K.In base → base.Ns mainGlobals mg → (∀ p ∈ cs, LamX.TabB base mg p.1 p.2) → RunsAt l.prog w K mg base fa fd [x] sp callerA) :
    PySem.W.WalkO q loose XP YP l.row.toRowW d [] (fun f vs => PySem.call f vs) := by
  refine Att.attach_callB hn hdf fun w s0 s1 mg mb fa o pm cd doc a vs ns G Y ho hd hcd hmg hobj hints hlen hbits hg => ?_
  obtain ⟨K, fd, sp, cs, KX, hT, nT, C, hb, hsp, R⟩ := F w mg fa _ Y G.T.g hmg
  exact law_atT KX G.T.g G.T.b G.T.builtins G.T.nolimit hg hT nT C G.T.bmain hobj hints (Nat.le_trans hlen hn2) R hb fun H hH sq => hsp H a ns hlen hbits hH sq
end L2.Tb
set_option Elab.async false
set_option linter.all false
set_option maxRecDepth 100000
set_option maxHeartbeats 4000000
/-! what a head is asked for: own facts in one Bool, defs at any address, written dicts, empty code tables -/
namespace L2.Tb
open PySem PySem.Spec PyProof.Rows
/-- a plain own class, as isinstance and != ask of it -/
structure InsC (K : PySem.W.Frag) (C : Addr) : Prop where
  ha : PySem.W.findIn K (.ref C) "__class__" = some (some (.builtin "object.__class__"))
  hn : PySem.W.specialIn K (.builtin "object.__class__") "__get__" = some (some (.builtin "getset_descriptor.__get__"))
  ht : PySem.W.takesIn K (.builtin "object.__class__") = some true
  hm : PySem.W.mroIn K C (.type "object") = some true
def insB (K : PySem.W.Frag) (C : Addr) : Bool := He.eqO (PySem.W.findIn K (.ref C) "__class__") (some (some (.builtin "object.__class__"))) && (He.eqO (PySem.W.specialIn K (.builtin "object.__class__") "__get__") (some (some (.builtin "getset_descriptor.__get__"))) &&
  (decide (PySem.W.takesIn K (.builtin "object.__class__") = some true) && decide (PySem.W.mroIn K C (.type "object") = some true)))
theorem insB_ok {K : PySem.W.Frag} {C : Addr} (h : insB K C = true) : InsC K C := by
  obtain ⟨a, h⟩ := He.ba h
  obtain ⟨b, h⟩ := He.ba h
  obtain ⟨c, d⟩ := He.ba h
  exact ⟨He.eqO_ok a, He.eqO_ok b, of_decide_eq_true c, of_decide_eq_true d⟩
/-- a property of the class -/
abbrev pAd (K : PySem.W.Frag) (C : Addr) (f : Str) : Addr := He5.wf K C "property" f
def propB (K : PySem.W.Frag) (C : Addr) (f : Str) : Bool := He.eqO (PySem.W.findIn K (.ref C) f) (some (some (.ref (He.ma K C f)))) && (He.eqO (PySem.W.specialIn K (.ref (He.ma K C f)) "__get__") (some (some (.builtin "property.__get__"))) &&
  (decide (PySem.W.takesIn K (.ref (He.ma K C f)) = some true) && (match PySem.W.recIn K (He.ma K C f) "property" with
    | some (.ref _ :: _) => true
    | _ => false)))
theorem propB_ok {K : PySem.W.Frag} {C : Addr} {f : Str} (h : propB K C f = true) : PropOf K C f (He.ma K C f) (pAd K C f) := by
  obtain ⟨a, h⟩ := He.ba h
  obtain ⟨b, h⟩ := He.ba h
  obtain ⟨c, d⟩ := He.ba h
  refine ⟨He.eqO_ok a, He.eqO_ok b, of_decide_eq_true c, ?_⟩
  unfold pAd He5.wf
  split at d
  · rename_i g r e
    exact ⟨r, by rw [e]⟩
  · cases d
/-- a class that is read by its name; its classmethods -/
abbrev cAd (K : PySem.W.Frag) (C : Addr) (m : Str) : Addr := He5.wf K C "classmethod" m
def creadB (K : PySem.W.Frag) (C : Addr) : Bool := PySem.W.readsIn K C (.type "type") && He.eqO (PySem.W.specialIn K (.ref C) "__getattribute__") (some (some (.builtin "type.__getattribute__")))
theorem creadB_ok {K : PySem.W.Frag} {C : Addr} (h : creadB K C = true) : ClX.CRead K C (.type "type") := ⟨(He.ba h).1, He.eqO_ok (He.ba h).2⟩
def cmetB (K : PySem.W.Frag) (C : Addr) (m : Str) : Bool := He5.wrapB K C "classmethod" "classmethod.__get__" m && PySem.W.fnIn K (cAd K C m)
theorem cmetB_ok {K : PySem.W.Frag} {C : Addr} {m : Str} (h : cmetB K C m = true) : ClX.CMet K C (.type "type") m (He.ma K C m) (cAd K C m) := He5.cmet_of (He.ba h).1 (He.ba h).2
/-! ### what the module's names reach -/
def refsAll (g : Addr → Option Obj) (as : List Addr) : List Addr := as.flatMap fun a => match g a with
  | some o => He.refsD o
  | none => []
def seenAt (g : Addr → Option Obj) : Nat → List Addr → List Addr
  | 0, as => as
  | n + 1, as => as ++ seenAt g n (refsAll g as)
def kH (n : Nat) (g : Addr → Option Obj) : PySem.W.Frag := He.frT g (seenAt g n [mainGlobals] ++ [cStatics])
/-! ### the Hook -/
section
variable (n : Nat) (fb : PySem.W.Frag → Bool) (fn : List He5.DefA) (ts : List He.Tab) (tf : List He.Defn)
abbrev AlH : Type := (Bool × List He.FnW) × List (Option (List (Option (Str × Int))))
def obsH (g : Addr → Option Obj) : AlH := ((fb (kH n g) && (He.tabsB g tf (kH n g) && fn.all fun d => d.ok (kH n g)), fn.map fun d => He5.fnA (kH n g) (d.at_ (kH n g))), ts.map fun t => He.dicW (kH n g) (t.1 (kH n g)))
def valH (w : World) : AlH := ((true, fn.map He5.DefA.val), ts.map fun t => some (He.keysIn w.params t.2))
structure SaysH (w : World) (h : Heap) (K : PySem.W.Frag) : Prop where
  kin : K.In h
  fb : fb K = true
  df : ∀ d ∈ fn, ∃ fd, FunD K d.name d.qual d.params d.body d.scope (d.dvs K) (d.kws K) (d.at_ K) fd
  tb : ∀ t ∈ ts, ∃ es m, KDict K w (t.1 K) es m
  hd : ∀ p ∈ tf, PySem.W.codeHdIn K (He.cT K p).1 (He.cT K p).2 = true
  out : ∀ p ∈ tf, K.lookup (He.cT K p).2 = none
  emp : ∀ p ∈ tf, h.get? (He.cT K p).2 = some { cls := .none, data := .fields #[] }
end
section
variable {n : Nat} {fb : PySem.W.Frag → Bool} {fn : List He5.DefA} {ts : List He.Tab} {tf : List He.Defn}
theorem map_mem {α β : Type} {f g : α → β} {l : List α} (h : l.map f = l.map g) {a : α} (ha : a ∈ l) : f a = g a := List.map_inj_left.mp h a ha
theorem saysH_of {w : World} {h : Heap} (e : obsH n fb fn ts tf h.get? = valH fn ts w) : SaysH fb fn ts tf w h (kH n h.get?) := by
  have e1 : (fb (kH n h.get?) && (He.tabsB h.get? tf (kH n h.get?) && fn.all fun d => d.ok (kH n h.get?))) = true := congrArg (fun z : AlH => z.1.1) e
  have e2 : (fn.map fun d => He5.fnA (kH n h.get?) (d.at_ (kH n h.get?))) = fn.map He5.DefA.val := congrArg (fun z : AlH => z.1.2) e
  have e3 : (ts.map fun t => He.dicW (kH n h.get?) (t.1 (kH n h.get?))) = ts.map fun t => some (He.keysIn w.params t.2) := congrArg (fun z : AlH => z.2) e
  obtain ⟨a, b⟩ := He.ba e1
  obtain ⟨b, c⟩ := He.ba b
  have tab : ∀ p ∈ tf, PySem.W.codeHdIn (kH n h.get?) (He.cT (kH n h.get?) p).1 (He.cT (kH n h.get?) p).2 = true ∧ ∃ o, h.get? (He.cT (kH n h.get?) p).2 = some o ∧ He.emptyTab o = true := fun p hp => by
    obtain ⟨x, y⟩ := He.ba (List.all_eq_true.mp b p hp)
    refine ⟨x, ?_⟩
    split at y
    · rename_i o q
      exact ⟨o, q, y⟩
    · cases y
  refine ⟨He.frT_in, a, fun d hd => He5.DefA.funD (map_mem e2 hd) (List.all_eq_true.mp c d hd), fun t ht => He.dicW_ok (map_mem e3 ht), fun p hp => (tab p hp).1, fun p hp => ?_, fun p hp => ?_⟩
  · obtain ⟨_, o, q, z⟩ := tab p hp
    exact He.frT_none q z
  · obtain ⟨_, o, q, z⟩ := tab p hp
    rw [q, He.emptyTab_eq z]
def hookH (n : Nat) (fb : PySem.W.Frag → Bool) (fn : List He5.DefA) (ts : List He.Tab) (tf : List He.Defn) : PySem.W.Hook where
  α := AlH
  obs := fun s => obsH n fb fn ts tf s.heap.get?
  val := fun w => valH fn ts w
  says := fun w h => ∃ K : PySem.W.Frag, SaysH fb fn ts tf w h K
  of := fun _ _ e => ⟨_, saysH_of e⟩
  keeps := fun _ _ _ ⟨K, c⟩ k => ⟨K, PySem.W.Frag.In.keeps c.kin k, c.fb, c.df, c.tb, c.hd, c.out, fun p hp => k _ _ (c.emp p hp)⟩
theorem obH_eq (s : PySem.W.SharedT) : obsH n fb fn ts tf (HandSHeadRun.getT s) = (hookH n fb fn ts tf).obs s.abs := by
  have e : HandSHeadRun.getT s = s.abs.heap.get? := funext fun a => HandSHeadRun.getT_eq s a
  show obsH n fb fn ts tf (HandSHeadRun.getT s) = obsH n fb fn ts tf s.abs.heap.get?
  rw [e]
theorem SaysH.nth {w : World} {h : Heap} {K : PySem.W.Frag} (c : SaysH fb fn ts tf w h K) (i : Nat) {d : He5.DefA} (e : fn[i]? = some d := by rfl) : ∃ fd, FunD K d.name d.qual d.params d.body d.scope (d.dvs K) (d.kws K) (d.at_ K) fd := c.df d (List.mem_of_getElem? e)
theorem SaysH.cs {w : World} {h : Heap} {K : PySem.W.Frag} (c : SaysH fb fn ts tf w h K) : (∀ p ∈ tf.map (He.cT K), h.get? p.2 = some { cls := .none, data := .fields #[] }) ∧ (∀ p ∈ tf.map (He.cT K), K.lookup p.2 = none) ∧ ∀ p ∈ tf.map (He.cT K), PySem.W.CodeHd h p.1 p.2 := by
  refine ⟨fun p hp => ?_, fun p hp => ?_, fun p hp => ?_⟩ <;> obtain ⟨q, hq, rfl⟩ := List.mem_map.mp hp
  · exact c.emp q hq
  · exact c.out q hq
  · exact PySem.W.codeHd_of_K c.kin (c.hd q hq)
end
/-- all of a list of names -/
theorem all_get {α : Type} {p : α → Bool} {l : List α} (h : l.all p = true) (i : Nat) {a : α} (e : l[i]? = some a := by rfl) : p a = true := List.all_eq_true.mp h a (List.mem_of_getElem? e)
/-! ### a written dict's keys; a written tuple -/
def keyS (e : DictEntry) : Option Str := match e.key with
  | .str z _ => some z
  | _ => none
def keysB (K : PySem.W.Frag) (a : Addr) (ks : List Str) : Bool := match K.lookup a with
  | some ⟨_, _, .dict es _, _⟩ => decide (es.toList.map keyS = ks.map some)
  | _ => false
theorem keysB_ok {K : PySem.W.Frag} {a : Addr} {ks : List Str} (h : keysB K a ks = true) (z : Str) : ∃ r, PySem.W.nsIn K a z = some r ∧ r.isSome = ks.contains z := by
  unfold keysB at h
  split at h
  · rename_i oc od es n sl q
    have h := of_decide_eq_true h
    unfold PySem.W.nsIn
    rw [q]
    dsimp only
    have key : ∀ (l : List DictEntry) (ks : List Str), l.map keyS = ks.map some → l.any (·.refKey) = false ∧ (l.find? (·.key.isStr z)).isSome = ks.contains z := by
      intro l
      induction l with
      | nil =>
        intro ks h
        cases ks with
        | nil => exact ⟨rfl, rfl⟩
        | cons => cases h
      | cons e l ih =>
        intro ks h
        cases ks with
        | nil => cases h
        | cons k ks =>
          rw [List.map_cons, List.map_cons] at h
          injection h with h1 h2
          obtain ⟨i1, i2⟩ := ih ks h2
          unfold keyS at h1
          split at h1
          · rename_i y t e1
            have h1 : y = k := Option.some.inj h1
            have r : e.refKey = false := by
              unfold DictEntry.refKey
              rw [e1]
            refine ⟨by rw [List.any_cons, r, i1]; rfl, ?_⟩
            rw [List.find?_cons, List.contains_cons]
            have w : e.key.isStr z = (z == k) := by
              rw [e1, ← h1]
              show (y == z) = (z == y)
              exact Bool.eq_iff_iff.mpr ⟨fun c => beq_iff_eq.mpr (beq_iff_eq.mp c).symm, fun c => beq_iff_eq.mpr (beq_iff_eq.mp c).symm⟩
            rw [w]
            cases (z == k) with
            | true => rfl
            | false => exact i2
          · cases h1
    obtain ⟨h1, h2⟩ := key _ _ h
    cases f : es.toList.find? (·.key.isStr z) with
    | some e =>
      rw [f] at h2
      exact ⟨_, rfl, h2⟩
    | none =>
      rw [f] at h2
      refine ⟨none, ?_, h2⟩
      dsimp only
      rw [h1]
      rfl
  · cases h
def tupB (K : PySem.W.Frag) (a : Addr) (vs : List V) : Bool := match K.lookup a with
  | some o => decide (o.cls = .type "tuple") && (match o.data with
    | .seq its _ => decide (its.size ≤ 1000) && He.relAll vs its.toList
    | _ => false)
  | none => false
theorem tupB_ok {K : PySem.W.Frag} {a : Addr} {vs : List V} (h : tupB K a vs = true) (H : Hp) : SqT K H a vs := by
  unfold tupB at h
  split at h
  · rename_i o q
    obtain ⟨h1, h2⟩ := He.ba h
    split at h2
    · rename_i its n e
      obtain ⟨h3, h4⟩ := He.ba h2
      exact .inr ⟨o, its, n, q, of_decide_eq_true h1, e, Nat.le_trans (of_decide_eq_true h3) (by rw [sizeLine_eq]; decide), He.relAll_ok h4⟩
    · cases h2
  · cases h
/-- what a written tuple names -/
def refsIn (K : PySem.W.Frag) (a : Addr) : List Addr := match K.lookup a with
  | some o => (match o.data with
    | .seq its _ => its.toList.flatMap He.refV
    | _ => [])
  | none => []
/-- the value of a written dict at a key, an object -/
def refOf (K : PySem.W.Frag) (a : Addr) (z : Str) : Addr := match PySem.W.nsIn K a z with
  | some (some (.ref l)) => l
  | _ => 0
def refB (K : PySem.W.Frag) (a : Addr) (z : Str) : Bool := He.eqO (PySem.W.nsIn K a z) (some (some (.ref (refOf K a z))))
/-! ### an error class with one attribute -/
def ercB (K : PySem.W.Frag) (b : Bs) (x f : Str) : Bool := (He.Fa.glo x).ok K && (ecB K b (He.ga K x) && ((He.Fa.meth x "__init__").ok K && (He.Fa.noat x f).ok K))
theorem binds_kw {K : PySem.W.Frag} {x q fl : Str} {params : Arguments} {body : List Stmt} {scope : Scope} {f : Addr} {fd : FuncData} (F : FunD K x q params body scope [] [] f fd)
    (hk : ∀ (kV doc pm : Value) (an : Option Addr) (cdv ct u v : Value), bindArgs (PySem.W.fnOf x q params body scope .none kV doc pm an cdv ct) ⟨[u], [(fl, v)]⟩ = pure [(("self" : Str), u), (fl, v)]) (sh : Shared) (a : Addr) (zs : List Value)
    (hl : zs.length = [fl].length) : BindsTo sh fd ⟨[Value.ref a], [fl].zip zs⟩ (("self" :: [fl] : List Str).zip (Value.ref a :: zs)) := by
  obtain ⟨oc, od, dV, kV, doc, pm, an, cdv, ct, osl, rfl, lk, hcd, hD, hK⟩ := F.ex
  match zs, hl with
  | [v], _ =>
    rcases hD with ⟨_, rfl⟩ | ⟨e, _⟩
    · exact .of_eq (hk kV doc pm an cdv ct _ v)
    · exact absurd rfl e
section
variable {P : Program} {w : World} {K : PySem.W.Frag} {mg : Str → Option Value} {base h : Heap}
theorem erc_of {st : Stmt} {x q fl : Str} {b : Bs} {p1 p2 p3 p4 : Pos} (X : K.In h) (G : h.Ns mainGlobals mg) (e : ercB K b x fl = true) (ok : b.Ok)
    (hF : ∃ fd, FunD K "__init__" q (defArgs st) (defBody st) (defScope st) [] [] (He.ma K (He.ga K x) "__init__") fd) (hbody : defBody st = [.Assign [.Attribute (.Name "self" p1) fl p2] (.Name fl p3) p4])
    (S : FnScope ["self", fl] ["self", fl] (defScope st)) (h0 : (defScope st).names.lookup ("self" : Str) = some .local) (h1 : (defScope st).names.lookup fl = some .local) (hd : (fl == ("__debug__" : Str)) = false) (hcd : (fl == ("__classdict__" : Str)) = false)
    (hp : ∀ (kV doc pm : Value) (an : Option Addr) (cdv ct : Value) (us : List Value), us.length = (["self", fl] : List Str).length → bindArgs (PySem.W.fnOf "__init__" q (defArgs st) (defBody st) (defScope st) .none kV doc pm an cdv ct) ⟨us, []⟩ = pure ((["self", fl] : List Str).zip us))
    (hk : ∀ (kV doc pm : Value) (an : Option Addr) (cdv ct u v : Value), bindArgs (PySem.W.fnOf "__init__" q (defArgs st) (defBody st) (defScope st) .none kV doc pm an cdv ct) ⟨[u], [(fl, v)]⟩ = pure [(("self" : Str), u), (fl, v)]) :
    ErC P w K mg base x fl b (He.ga K x) := by
  obtain ⟨e1, e2⟩ := He.ba e
  obtain ⟨e2, e3⟩ := He.ba e2
  obtain ⟨e3, e4⟩ := He.ba e3
  have m := He.meth_ok e3
  obtain ⟨fd, F⟩ := hF
  refine ⟨He.glo_ok X G e1, ecB_ok ok e2, He.noat_ok e4, _, fd, m.1, beq_iff_eq.mp m.2, ?_, F.bindsN hp, binds_kw F hk⟩
  rw [hbody] at F
  exact init_ok F S h0 h1 hd hcd
end
end L2.Tb
set_option Elab.async false
set_option linter.all false
set_option maxRecDepth 100000
set_option maxHeartbeats 8000000
namespace L2.K2
open PySem PySem.Spec PyProof.Rows L2.Tb
/-! ### the text by places -/
def top (i : Nat) : Stmt := PySem.Challenge.pw_thirdback_k02_kinds_and_their_texts.main.body.getD i (.Pass ⟨0, 0, 0, 0⟩)
/-- the built-ins' names -/
structure Bt (mg : Str → Option Value) : Prop where
  m_len : mg "len" = none
  m_int : mg "int" = none
  m_abs : mg "abs" = none
  m_divmod : mg "divmod" = none
  m_isinstance : mg "isinstance" = none
  m_tuple : mg "tuple" = none
  m_list : mg "list" = none
  m_bool : mg "bool" = none
  m_all : mg "all" = none
  m_zip : mg "zip" = none
  m_range : mg "range" = none
  m_max : mg "max" = none
  m_min : mg "min" = none
  m_enumerate : mg "enumerate" = none
  m_repr : mg "repr" = none
  m_sorted : mg "sorted" = none
  m_ValueError : mg "ValueError" = none
  m_LookupError : mg "LookupError" = none
  m_ArithmeticError : mg "ArithmeticError" = none
abbrev s_cell : Stmt := top 17
abbrev N_cell : List Str := ["_law_cells", "_law_k", "_law_seed", "_law_cell_here"]
theorem sc_cell : FnScope N_cell ["_law_cells", "_law_k"] (defScope s_cell) := ⟨rfl, rfl, rfl, by decide +kernel, rfl, by decide +kernel, by decide +kernel⟩
abbrev s_purse : Stmt := top 18
abbrev N_purse : List Str := ["_law_cell_here", "_law_digits"]
theorem sc_purse : FnScope N_purse ["_law_cell_here"] (defScope s_purse) := ⟨rfl, rfl, rfl, by decide +kernel, rfl, by decide +kernel, by decide +kernel⟩
abbrev s_draw : Stmt := top 19
abbrev N_draw : List Str := ["_law_purse_here", "_law_many", "_law_state", "_law_digit"]
theorem sc_draw : FnScope N_draw ["_law_purse_here", "_law_many"] (defScope s_draw) := ⟨rfl, rfl, rfl, by decide +kernel, rfl, by decide +kernel, by decide +kernel⟩
abbrev s_alike : Stmt := top 20
abbrev N_alike : List Str := ["_law_thing", "_law_twin", "_law_a", "_law_b"]
theorem sc_alike : FnScope N_alike ["_law_thing", "_law_twin"] (defScope s_alike) := ⟨rfl, rfl, rfl, by decide +kernel, rfl, by decide +kernel, by decide +kernel⟩
abbrev s_odd : Stmt := top 21
abbrev N_odd : List Str := ["_law_purse_here", "_law_way"]
theorem sc_odd : FnScope N_odd ["_law_purse_here"] (defScope s_odd) := ⟨rfl, rfl, rfl, by decide +kernel, rfl, by decide +kernel, by decide +kernel⟩
/-! ### promises -/
abbrev iBits := Builtin.Int.intBits
def spCell (K : PySem.W.Frag) : Sp := fun vs H Q _ => ∃ (a : Addr) (ns : List Int) (k : Nat), vs = [.ref a, .int (k : Int)] ∧ SqL K H a (ns.map V.int) ∧ (∀ n ∈ ns, iBits n ≤ 1048576) ∧ k ≤ 64 ∧
  ∀ (z : Int) (H' : Hp), Same H H' → iBits z ≤ 1048576 → Q (.int z) H'
def spPurse : Sp := fun vs H Q _ => ∃ z : Int, vs = [.int z] ∧ iBits z ≤ 1048576 ∧ ∀ (p : Addr) (H' : Hp), Same H H' → H p = none → Purse H' p → Q (.ref p) H'
def spDraw : Sp := fun vs H Q _ => ∃ (p : Addr) (m : Int), vs = [.ref p, .int m] ∧ Purse H p ∧ 0 < m ∧ m < 2 ^ 200 ∧ ∀ (d : Int) (H' : Hp), 0 ≤ d → d < m → SameB p H H' → Purse H' p → Q (.int d) H'
def spOdd : Sp := fun vs H Q _ => ∃ p : Addr, vs = [.ref p] ∧ Purse H p ∧ ∀ (v : V) (H' : Hp), SameB p H H' → Purse H' p → Od H' 3 v → Q v H'
def spAlike (n : Nat) : Sp := fun vs H Q _ => ∃ x y : V, vs = [x, y] ∧ Al H n x y ∧ ∀ H' : Hp, Same H H' → Q (.bl true) H'
section
variable {P : Program} {w : World} {K : PySem.W.Frag} {mg : Str → Option Value} {base : Heap} {f : Addr} {fd : FuncData}
theorem bits31 {z : Int} (h0 : 0 ≤ z) (h1 : z < 2147483648) : iBits z ≤ 1048576 := Nat.le_trans (PyProof.Rows.intBits_le (k := 31) (by omega)) (by decide)
theorem mem_map_int {ns : List Int} {i : Nat} {y : V} (h : (ns.map V.int)[i]? = some y) : ∃ u, y = V.int u ∧ u ∈ ns := by
  rw [List.getElem?_map] at h
  cases e : ns[i]? with
  | none =>
    rw [e] at h
    cases h
  | some u =>
    rw [e] at h
    exact ⟨u, (Option.some.inj h).symm, List.mem_of_getElem? e⟩
theorem c_cell (T : Bt mg) (F : FnP K "_law_cell" s_cell f fd) (hm : mg "_law_cell" = some (.ref f)) : Cal P w K mg base 1 "_law_cell" (spCell K) := by
  have hnd := sc_cell.nd
  refine cal_mk F hm sc_cell (fun _ _ _ _ _ _ us hl => match us, hl with | [_, _], _ => rfl) (fun vs H Q E h => ?_) (fun cdv A outer s H vs Q E hr h => ?_)
  · obtain ⟨a, ns, k, rfl, _⟩ := h
    rfl
  · obtain ⟨a, ns, k, rfl, hS, hb, hk, q⟩ := h
    refine ⟨_, (pss_cons (ps_if (pt_cmpR op_lt (pv 1) (pe_callB call_len_seq (by rfl) T.m_len (by decide +kernel) (pa_cons (pv 0) pa_nil)) (nomark _))
      (pss_one (ps_ret (pe_ix ix_list (pv 0) (pv 1) (fun _ _ => rfl))))
      pss_nil)
      (pss_cons (ps_set (i := 2) hnd rfl (by first | exact Or.inl rfl | exact Or.inr rfl) (pe_op op_add pe_int (pe_op op_mul (pe_op op_mul pe_int (pv 1)) (pv 1))))
      (pss_cons (ps_for PassesOwn.never (by rfl) (pi_list (pe_slice sl_list (pv 0) po_none (po_some pe_int))) (pg_name (i := 3) hnd rfl (by first | exact Or.inl rfl | exact Or.inr rfl))
      (pss_one (ps_set (i := 2) hnd rfl (by first | exact Or.inl rfl | exact Or.inr rfl) (pe_op op_mod (pe_callTy call_int1 (by rfl) T.m_int (by decide +kernel) (pa_cons (pe_op op_add (pe_op op_mul (pv 2) pe_int) (pv 3)) pa_nil)) pe_int))))
      (pss_one (ps_ret (pv 2)))))), ?_⟩
    refine ⟨_, rfl, _, rfl, a, _, rfl, .inl hS, _, _, rfl, rfl, _, rfl, ite2 (fun hlt => ?_) (fun hge => ?_)⟩
    · have hl : k < ns.length := by
        have z := of_decide_eq_true hlt
        rw [List.length_map] at z
        omega
      refine ⟨_, rfl, _, rfl, a, _, _, .int (ns[k]), rfl, rfl, hS, atI_nat (by simp [hl]), ?_⟩
      exact q _ _ (Same.refl _) (hb _ (List.getElem_mem ..))
    · refine ⟨_, rfl, _, _, rfl, rfl, .inl ⟨by decide, by decide⟩, _, rfl, _, _, rfl, rfl, .inr ⟨by omega, by omega⟩, _, _, rfl, rfl, ?_⟩
      refine ⟨_, rfl, _, rfl, a, _, rfl, hS, fun p np => ?_⟩
      refine ⟨p, rfl, ⟨_, SqL.of upd_same⟩, for_list (K := K) (a := p) (xs := cutV (ns.map V.int) none (some 3)) (fun i σ H' => ∃ (z : Int) (v : Option V), σ = [some (.ref a), some (.int k), some (.int z), v] ∧ H' = upd H p (.lst (cutV (ns.map V.int) none (some 3))) ∧ 0 ≤ z ∧ z < 2147483648)
        ⟨_, none, rfl, rfl, ?_, ?_⟩ (fun i σ H' _ ⟨_, _, _, e, _⟩ => by rw [e]; exact SqL.of upd_same) ?_ ?_⟩
      · have : (0 : Int) ≤ 617 * k * k := Int.mul_nonneg (Int.mul_nonneg (by omega) (by omega)) (by omega)
        omega
      · have h1 : (k : Int) * k ≤ 64 * 64 := Int.mul_le_mul (by omega) (by omega) (by omega) (by omega)
        rw [Int.mul_assoc]
        omega
      · rintro i y σ H' hi ⟨z, v, rfl, rfl, h0, h1⟩
        obtain ⟨u, rfl, hu⟩ : ∃ u, y = V.int u ∧ u ∈ ns := by
          have hm : y ∈ ns.map V.int := List.mem_of_mem_drop (List.mem_of_mem_take (List.mem_of_getElem? hi))
          obtain ⟨u, hu, rfl⟩ := List.mem_map.mp hm
          exact ⟨u, rfl, hu⟩
        refine ⟨_, rfl, _, _, rfl, rfl, .inl ⟨by omega, by omega⟩, _, rfl, _, _, rfl, rfl, .inl ⟨_, rfl, _, _, rfl, rfl, by show (0 : Int) < 2147483563; decide, ?_⟩⟩
        exact ⟨_, _, rfl, rfl, Int.emod_nonneg _ (by decide), Int.lt_trans (Int.emod_lt_of_pos _ (by decide)) (by decide)⟩
      · rintro σ H' ⟨z, v, rfl, rfl, h0, h1⟩
        exact ⟨_, rfl, q _ _ (same_new np) (bits31 h0 h1)⟩
theorem c_purse (T : Bt mg) (F : FnP K "_law_purse" s_purse f fd) (hm : mg "_law_purse" = some (.ref f)) : Cal P w K mg base 1 "_law_purse" spPurse := by
  have hnd := sc_purse.nd
  refine cal_mk F hm sc_purse (fun _ _ _ _ _ _ us hl => match us, hl with | [_], _ => rfl) (fun vs H Q E h => ?_) (fun cdv A outer s H vs Q E hr h => ?_)
  · obtain ⟨z, rfl, _⟩ := h
    rfl
  · obtain ⟨z, rfl, hb, q⟩ := h
    have fin : ∀ dg : Int, 0 ≤ dg → ∀ (σ : St), σ = [some (.int z), some (.int dg)] → tRet (tLst (tCons (tOp (rI (fun _ j => 0 < j) fun i j => .int (i % j)) (tCB (fun xs H Q => (∃ i, xs = [.int i] ∧ Q (.int i) H) ∨ ∃ k, xs = [.bl k] ∧ Q (.int (if k then 1 else 0)) H) (tCons (tOp (rI0 fun i j => .int (i + j)) (tOp (rI CMulX fun i j => .int (i * j)) (tVar 0) (tC (.int 950706376))) (tC (.int 918273))) tNil)) (tC (.int 2147483563))) (tCons (tVar 1) (tCons (tC (.int 0)) tNil)))) { nx := fun _ H' => Q .non H', rt := Q } σ H := fun dg hd σ e => by
      subst e
      refine ⟨_, rfl, _, _, rfl, rfl, ?_, _, _, rfl, rfl, .inl ⟨_, rfl, _, _, rfl, rfl, by show (0 : Int) < 2147483563; decide, ?_⟩⟩
      · have h2 : iBits 950706376 ≤ 30 := PyProof.Rows.intBits_le (k := 30) (by decide)
        show (iBits z : Int) + (iBits 950706376 : Int) ≤ 134217728
        omega
      · refine ⟨_, rfl, by show 3 ≤ sizeLine; decide, fun p np => ?_⟩
        exact q _ _ (same_new np) np ⟨_, _, _, upd_same, Int.emod_nonneg _ (by decide), Int.emod_lt_of_pos _ (by decide), hd⟩
    refine ⟨_, (pss_cons (ps_set (i := 1) hnd rfl (by first | exact Or.inl rfl | exact Or.inr rfl) (pe_ifExp (PW.pt (pw_or (pt_cmpR op_lt (pv 0) pe_int (nomark _)) (pw_or1 (pt_cmpR op_ge (pv 0) (pe_op op_pow pe_int pe_int) (nomark _))))) (pe_callB call_abs (by rfl) T.m_abs (by decide +kernel) (pa_cons (pv 0) pa_nil)) pe_int))
      (pss_one (ps_ret (pe_lst (pa_cons (pe_op op_mod (pe_callTy call_int1 (by rfl) T.m_int (by decide +kernel) (pa_cons (pe_op op_add (pe_op op_mulX (pv 0) pe_int) pe_int) pa_nil)) pe_int) (pa_cons (pv 1) (pa_cons pe_int pa_nil))))))), ?_⟩
    refine ⟨_, rfl, _, _, rfl, rfl, _, rfl, ite2 (fun hlt => ?_) (fun hge => ?_)⟩
    · refine ⟨_, rfl, _, rfl, fin _ ?_ _ rfl⟩
      split <;> omega
    · refine ⟨_, rfl, _, _, rfl, rfl, ⟨by decide, by decide, by decide⟩, _, _, rfl, rfl, _, rfl, ite2 (fun hlt => ?_) (fun hge => ?_)⟩
      · refine ⟨_, rfl, _, rfl, fin _ ?_ _ rfl⟩
        split <;> omega
      · exact fin 0 (by decide) _ rfl
theorem c_draw (T : Bt mg) (F : FnP K "_law_draw" s_draw f fd) (hm : mg "_law_draw" = some (.ref f)) : Cal P w K mg base 1 "_law_draw" spDraw := by
  have hnd := sc_draw.nd
  refine cal_mk F hm sc_draw (fun _ _ _ _ _ _ us hl => match us, hl with | [_, _], _ => rfl) (fun vs H Q E h => ?_) (fun cdv A outer s H vs Q E hr h => ?_)
  · obtain ⟨p, m, rfl, _⟩ := h
    rfl
  · obtain ⟨p, m, rfl, hp, m0, m1, q⟩ := h
    obtain ⟨st, dg, c, e, h0, h1, hd⟩ := hp.ex
    have ix : ∀ {σ : St} {o : Hp} {a b d : Int} (i : Nat) (v : Int), o p = some (.lst [.int a, .int b, .int d]) → [V.int a, .int b, .int d][i]? = some (.int v) → ∀ Q : VK, Q (.int v) o → rIxL K (.ref p) (.int (i : Int)) o Q := fun i v ho hv Q hq => ⟨p, _, _, _, rfl, rfl, SqL.of ho, atI_nat hv, hq⟩
    refine ⟨_, (pss_cons (ps_asg (pe_op op_add (pe_ix ix_list (pv 0) pe_int (fun _ _ => rfl)) pe_int) (pg_sub (pv 0) pe_int set_list))
      (pss_cons (ps_set (i := 2) hnd rfl (by first | exact Or.inl rfl | exact Or.inr rfl) (pe_callTy call_int1 (by rfl) T.m_int (by decide +kernel) (pa_cons (pe_ix ix_list (pv 0) pe_int (fun _ _ => rfl)) pa_nil)))
      (pss_cons (ps_asg (pe_op op_mod (pe_callTy call_int1 (by rfl) T.m_int (by decide +kernel) (pa_cons (pe_op op_add (pe_op op_add (pe_op op_mul (pv 2) (pv 2)) (pe_op op_fdiv (pv 2) pe_int)) (pe_op op_mul pe_int (pe_ix ix_list (pv 0) pe_int (fun _ _ => rfl)))) pa_nil)) pe_int) (pg_sub (pv 0) pe_int set_list))
      (pss_cons (ps_if (pt_cmpR op_gt (pe_ix ix_list (pv 0) pe_int (fun _ _ => rfl)) pe_int (nomark _))
      (pss_cons (ps_asg (pe_callB call_divmodW (by rfl) T.m_divmod (by decide +kernel) (pa_cons (pe_ix ix_list (pv 0) pe_int (fun _ _ => rfl)) (pa_cons (pv 1) pa_nil))) (pg_tup (by rfl) (pgs_cons (pg_sub (pv 0) pe_int set_list) (pgs_cons (pg_name (i := 3) hnd rfl (by first | exact Or.inl rfl | exact Or.inr rfl)) pgs_nil))))
      (pss_one (ps_ret (pv 3))))
      pss_nil)
      (pss_one (ps_ret (pe_op op_mod (pe_callTy call_int1 (by rfl) T.m_int (by decide +kernel) (pa_cons (pe_op op_fdiv (pe_ix ix_list (pv 0) pe_int (fun _ _ => rfl)) pe_int) pa_nil)) (pv 1)))))))), ?_⟩
    refine ⟨_, rfl, p, _, _, _, rfl, rfl, SqL.of e, rfl, _, _, rfl, rfl, _, rfl, p, _, _, 2, rfl, rfl, e, rfl, ?_⟩
    have e1 : (upd H p (.lst ([V.int st, .int dg, .int c].set 2 (.int (c + 1))))) p = some (.lst [.int st, .int dg, .int (c + 1)]) := upd_same
    refine ⟨_, rfl, p, _, _, _, rfl, rfl, SqL.of e1, rfl, .inl ⟨_, rfl, ?_⟩⟩
    refine ⟨_, rfl, _, rfl, _, _, rfl, rfl, .inl ⟨by omega, by omega⟩, _, rfl, _, _, rfl, rfl, ⟨by decide, by decide⟩, _, _, rfl, rfl, _, rfl, p, _, _, _, rfl, rfl, SqL.of e1, rfl, _, _, rfl, rfl, .inl ⟨by decide, by decide⟩, _, _, rfl, rfl, .inl ⟨_, rfl, _, _, rfl, rfl, by show (0 : Int) < 2147483563; decide, _, rfl, p, _, _, 0, rfl, rfl, e1, rfl, ?_⟩⟩
    have z0 : 0 ≤ (st * st + st / 7 + 48611 * (c + 1)) % 2147483563 := Int.emod_nonneg _ (by decide)
    have z1 : (st * st + st / 7 + 48611 * (c + 1)) % 2147483563 < 2147483563 := Int.emod_lt_of_pos _ (by decide)
    have e2 : (upd (upd H p (.lst ([V.int st, .int dg, .int c].set 2 (.int (c + 1))))) p (.lst ([V.int st, .int dg, .int (c + 1)].set 0 (.int ((st * st + st / 7 + 48611 * (c + 1)) % 2147483563))))) p = some (.lst [.int ((st * st + st / 7 + 48611 * (c + 1)) % 2147483563), .int dg, .int (c + 1)]) := upd_same
    have s2 : SameB p H (upd (upd H p (.lst ([V.int st, .int dg, .int c].set 2 (.int (c + 1))))) p (.lst ([V.int st, .int dg, .int (c + 1)].set 0 (.int ((st * st + st / 7 + 48611 * (c + 1)) % 2147483563))))) := SameB.set.put
    refine ⟨_, rfl, p, _, _, _, rfl, rfl, SqL.of e2, rfl, _, _, rfl, rfl, _, rfl, ite2 (fun hgt => ?_) (fun hle => ?_)⟩
    · refine ⟨_, rfl, p, _, _, _, rfl, rfl, SqL.of e2, rfl, _, rfl, _, _, rfl, divp_small m0 m1, fun t nt => ?_⟩
      have npt : p ≠ t := ne_of_none e2 nt
      have e3 := Eq.trans (upd_ne (o := .tup [.int (dg / m), .int (dg % m)]) npt) e2
      refine ⟨t, _, rfl, SqT.of upd_same, rfl, _, _, rfl, ⟨_, rfl, p, _, _, 1, rfl, rfl, e3, rfl, _, _, rfl, rfl, _, rfl, ?_⟩⟩
      refine q _ _ (Int.emod_nonneg _ (by omega)) (Int.emod_lt_of_pos _ m0) (SameB.put fun b o n h => ?_) ⟨_, _, _, upd_same, z0, z1, Int.ediv_nonneg hd (by omega)⟩
      exact same_new nt _ _ (s2 b o n h)
    · refine ⟨_, rfl, p, _, _, _, rfl, rfl, SqL.of e2, rfl, _, _, rfl, rfl, ⟨by decide, by decide⟩, .inl ⟨_, rfl, _, rfl, _, _, rfl, rfl, m0, ?_⟩⟩
      exact q _ _ (Int.emod_nonneg _ (by omega)) (Int.emod_lt_of_pos _ m0) s2 ⟨_, _, _, e2, z0, z1, hd⟩
end
end L2.K2
set_option Elab.async false
set_option linter.all false
set_option maxRecDepth 100000
set_option maxHeartbeats 8000000
namespace L2.K2
open PySem PySem.Spec PyProof.Rows L2.Tb
section
variable {P : Program} {w : World} {K : PySem.W.Frag} {mg : Str → Option Value} {base : Heap} {f : Addr} {fd : FuncData}
def okB : V → Bool
  | .str z => decide (z.length ≤ 100)
  | _ => true
def OkS (v : V) : Prop := ∀ z, v = .str z → z.length ≤ 100
theorem oks_all {l : List V} {v : V} (h : l.all okB = true) (hv : v ∈ l) : OkS v := fun z e => by
  have q := List.all_eq_true.mp h v hv
  rw [e] at q
  exact of_decide_eq_true q
def spOdd2 : Sp := fun vs H Q _ => ∃ p : Addr, vs = [.ref p] ∧ Purse H p ∧ ∀ (v : V) (H' : Hp), SameB p H H' → Purse H' p → Od H' 3 v → OkS v → Q v H'
theorem nat_of {d : Int} (h : 0 ≤ d) : ∃ n : Nat, d = (n : Int) := Int.eq_ofNat_of_zero_le h
theorem same_new2 {H : Hp} {p : Addr} {o u : HO} (h : H p = none) : Same H (upd (upd H p o) p u) := fun b v e => by rw [upd_ne (ne_of_none e h), upd_ne (ne_of_none e h)]; exact e
theorem c_odd2 (T : Bt mg) (F : FnP K "_law_odd" s_odd f fd) (hm : mg "_law_odd" = some (.ref f)) (k_draw : Cal P w K mg base 1 "_law_draw" spDraw) : Cal P w K mg base 2 "_law_odd" spOdd2 := by
  have hnd := sc_odd.nd
  refine cal_mk F hm sc_odd (fun _ _ _ _ _ _ us hl => match us, hl with | [_], _ => rfl) (fun vs H Q E h => ?_) (fun cdv A outer s H vs Q E hr h => ?_)
  · obtain ⟨p, rfl, _⟩ := h
    rfl
  · obtain ⟨p, rfl, hp, q⟩ := h
    refine ⟨_, (pss_cons (ps_set (i := 1) hnd rfl (by first | exact Or.inl rfl | exact Or.inr rfl) (pe_cal k_draw hr (by omega) (by rfl) (pa_cons (pv 0) (pa_cons pe_int pa_nil))))
      (pss_cons (ps_if (pt_cmpR op_lt (pv 1) pe_int (nomark _))
      (pss_one (ps_ret (pe_ix ix_list (pe_lst (pa_cons pe_non (pa_cons pe_bl (pa_cons pe_bl (pa_cons pe_int (pa_cons pe_int (pa_cons (pe_un un_neg pe_int) (pa_cons pe_int (pa_cons pe_int (pa_cons (pe_op op_pow pe_int pe_int) (pa_cons (pe_un un_neg (pe_op op_pow pe_int pe_int)) pa_nil))))))))))) (pv 1) (fun _ _ => rfl))))
      pss_nil)
      (pss_cons (ps_if (pt_cmpR op_lt (pv 1) pe_int (nomark _))
      (pss_one (ps_ret (pe_ix ix_list (pe_lst (pa_cons pe_str (pa_cons pe_str (pa_cons pe_str (pa_cons pe_str (pa_cons pe_str (pa_cons pe_str pa_nil))))))) (pe_op op_sub (pv 1) pe_int) (fun _ _ => rfl))))
      pss_nil)
      (pss_cons (ps_if (pt_cmpR op_lt (pv 1) pe_int (nomark _))
      (pss_one (ps_ret (pe_ix ix_list (pe_lst (pa_cons (pe_lst pa_nil) (pa_cons (pe_lst (pa_cons pe_str pa_nil)) (pa_cons pe_dnewK (pa_cons (pe_disp (pps_cons pe_str pe_int pps_nil) (by rfl) (by rfl) (fun z => by cases z) (by decide)) pa_nil))))) (pe_op op_sub (pv 1) pe_int) (fun _ _ => rfl))))
      pss_nil)
      (pss_one (ps_ret (pe_ix ix_list (pe_lst (pa_cons (pe_tup pa_nil) (pa_cons (pe_tup (pa_cons pe_str pa_nil)) (pa_cons (pe_tup (pa_cons (pe_lst pa_nil) pa_nil)) (pa_cons (pe_tup (pa_cons pe_int (pa_cons (pe_disp (pps_cons pe_str (pe_lst (pa_cons pe_int pa_nil)) pps_nil) (by rfl) (by rfl) (fun z => by cases z) (by decide)) (pa_cons pe_int pa_nil)))) pa_nil))))) (pe_op op_sub (pv 1) pe_int) (fun _ _ => rfl)))))))), ?_⟩
    refine ⟨_, rfl, p, 24, rfl, hp, by decide, by decide, fun d H1 d0 d1 s1 p1 => ?_⟩
    obtain ⟨n, rfl⟩ := nat_of d0
    have fin : ∀ (H2 : Hp) (v : V), Same H1 H2 → Od H2 3 v → OkS v → Q v H2 := fun H2 v s ov os => q v H2 (s1.trans (SameB.of s)) (p1.same s) ov os
    refine ⟨_, rfl, _, _, rfl, rfl, _, rfl, ite2 (fun h1 => ?_) (fun h1 => ?_)⟩
    · have hn : n < 10 := by have := of_decide_eq_true h1; omega
      refine ⟨_, rfl, ⟨_, _, rfl, rfl, ⟨by decide, by decide, by decide⟩, _, _, rfl, rfl, ⟨by decide, by decide, by decide⟩, _, rfl, by show 10 ≤ sizeLine; decide, fun l nl => ⟨_, rfl, l, _, _, _, rfl, rfl, SqL.of upd_same, atI_nat (List.getElem?_eq_getElem (by show n < 10; exact hn)), fin _ _ (same_new nl) (.inl ?_) ?_⟩⟩⟩
      · exact List.all_eq_true.mp (show ([V.non, .bl true, .bl false, .int 0, .int 1, .int (-1), .int 2, .int 12, .int (10 ^ 38), .int (-(10 ^ 38))].all flatS) = true from rfl) _ (List.getElem_mem ..)
      · exact oks_all (show ([V.non, .bl true, .bl false, .int 0, .int 1, .int (-1), .int 2, .int 12, .int (10 ^ 38), .int (-(10 ^ 38))].all okB) = true from rfl) (List.getElem_mem ..)
    · have hn : 10 ≤ n := by
        have z : ¬ ((n : Int) < 10) := fun z => h1 (decide_eq_true z)
        omega
      refine ⟨_, rfl, _, _, rfl, rfl, _, rfl, ite2 (fun h2 => ?_) (fun h2 => ?_)⟩
      · have hn2 : n < 16 := by have := of_decide_eq_true h2; omega
        have ei : (n : Int) - 10 = ((n - 10 : Nat) : Int) := by omega
        refine ⟨by show 6 ≤ sizeLine; decide, fun l nl => ⟨_, rfl, _, _, rfl, rfl, l, _, _, _, rfl, rfl, SqL.of upd_same, (by rw [ei]; exact atI_nat (List.getElem?_eq_getElem (by show n - 10 < 6; omega))), fin _ _ (same_new nl) (.inl ?_) ?_⟩⟩
        · exact List.all_eq_true.mp (show (([("" : Str), "a", "plain", "calm sides", "(a * b)", "same a b 2"].map V.str).all flatS) = true from rfl) _ (List.getElem_mem ..)
        · exact oks_all (show (([("" : Str), "a", "plain", "calm sides", "(a * b)", "same a b 2"].map V.str).all okB) = true by decide +kernel) (List.getElem_mem ..)
      · have hn2 : 16 ≤ n := by
          have z : ¬ ((n : Int) < 16) := fun z => h2 (decide_eq_true z)
          omega
        refine ⟨_, rfl, _, _, rfl, rfl, _, rfl, ite2 (fun h3 => ?_) (fun h3 => ?_)⟩
        · have hn3 : n < 20 := by have := of_decide_eq_true h3; omega
          have ei : (n : Int) - 16 = ((n - 16 : Nat) : Int) := by omega
          refine ⟨Nat.le_of_ble_eq_true rfl, fun l1 n1 => ⟨Nat.le_of_ble_eq_true rfl, fun l2 n2 => fun d3 n3 => fun d4 n4 => ⟨upd_same, [(Sum.inr "a", .int 1)], rfl, Nat.le_of_ble_eq_true rfl, Nat.le_of_ble_eq_true rfl, fun l nl => ⟨_, rfl, _, _, rfl, rfl, l, _, _, _, rfl, rfl, SqL.of upd_same, (by rw [ei]; exact atI_nat (List.getElem?_eq_getElem (by show n - 16 < 4; omega))), ?_⟩⟩⟩⟩
          have a1 := same_new (o := .lst []) n1
          have a2 := same_new (o := .lst [.str "a"]) n2
          have a3 := same_new (o := .dK []) n3
          have a4 := same_new2 (o := .dK []) (u := .dK (mergeK [] [(Sum.inr "a", .int 1)])) n4
          have a5 := same_new (o := .lst [.ref l1, .ref l2, .ref d3, .ref d4]) nl
          refine fin _ _ (a1.trans (a2.trans (a3.trans (a4.trans a5)))) ?_ (oks_all (show ([V.ref l1, .ref l2, .ref d3, .ref d4].all okB) = true from rfl) (List.getElem_mem ..))
          have hc : n - 16 = 0 ∨ n - 16 = 1 ∨ n - 16 = 2 ∨ n - 16 = 3 := by omega
          rcases hc with e | e | e | e <;> simp only [e]
          · exact .inr (.inl ⟨l1, [], rfl, a5 _ _ (a4 _ _ (a3 _ _ (a2 _ _ upd_same))), Nat.le_of_ble_eq_true rfl, fun x hx => by cases hx⟩)
          · exact .inr (.inl ⟨l2, [.str "a"], rfl, a5 _ _ (a4 _ _ (a3 _ _ upd_same)), Nat.le_of_ble_eq_true rfl, fun x hx => by rw [List.mem_singleton.mp hx]; exact .inl rfl⟩)
          · exact .inr (.inr (.inr ⟨d3, [], rfl, a5 _ _ (a4 _ _ upd_same), Nat.le_of_ble_eq_true rfl, fun x hx => by cases hx⟩))
          · exact .inr (.inr (.inr ⟨d4, _, rfl, a5 _ _ upd_same, Nat.le_of_ble_eq_true rfl, fun x hx => by rw [List.mem_singleton.mp hx]; exact .inl rfl⟩))
        · have hn3 : 20 ≤ n := by
            have z : ¬ ((n : Int) < 20) := fun z => h3 (decide_eq_true z)
            omega
          have ei : (n : Int) - 20 = ((n - 20 : Nat) : Int) := by omega
          refine ⟨Nat.le_of_ble_eq_true rfl, fun t1 n1 => ⟨Nat.le_of_ble_eq_true rfl, fun t2 n2 => ⟨Nat.le_of_ble_eq_true rfl, fun l3 n3 => ⟨Nat.le_of_ble_eq_true rfl, fun t3 n4 => ?_⟩⟩⟩⟩
          refine fun d4 n5 => ⟨Nat.le_of_ble_eq_true rfl, fun l4 n6 => ⟨?_, [(Sum.inr "a", .ref l4)], rfl, Nat.le_of_ble_eq_true rfl, Nat.le_of_ble_eq_true rfl, fun t4 n7 => ⟨Nat.le_of_ble_eq_true rfl, fun l nl => ⟨_, rfl, _, _, rfl, rfl, l, _, _, _, rfl, rfl, SqL.of upd_same, (by rw [ei]; exact atI_nat (List.getElem?_eq_getElem (by show n - 20 < 4; omega))), ?_⟩⟩⟩⟩
          · rw [upd_ne (ne_of_none upd_same n6)]
            exact upd_same
          have a1 := same_new (o := .tup []) n1
          have a2 := same_new (o := .tup [.str "a"]) n2
          have a3 := same_new (o := .lst []) n3
          have a4 := same_new (o := .tup [.ref l3]) n4
          have nd4 : d4 ≠ l4 := ne_of_none upd_same n6
          have a6 : Same (upd (upd (upd (upd H1 t1 (.tup [])) t2 (.tup [.str "a"])) l3 (.lst [])) t3 (.tup [.ref l3])) (upd (upd (upd (upd (upd (upd (upd H1 t1 (.tup [])) t2 (.tup [.str "a"])) l3 (.lst [])) t3 (.tup [.ref l3])) d4 (.dK [])) l4 (.lst [.int 1])) d4 (.dK (mergeK [] [(Sum.inr "a", .ref l4)]))) := fun b o e => by
            rw [upd_ne (ne_of_none e n5)]
            exact same_new n6 _ _ (same_new n5 _ _ e)
          have a7 := same_new (o := .tup [.int 0, .ref d4, .int 2]) n7
          have a8 := same_new (o := .lst [.ref t1, .ref t2, .ref t3, .ref t4]) nl
          refine fin _ _ (a1.trans (a2.trans (a3.trans (a4.trans (a6.trans (a7.trans a8)))))) ?_ (oks_all (show ([V.ref t1, .ref t2, .ref t3, .ref t4].all okB) = true from rfl) (List.getElem_mem ..))
          have hc : n - 20 = 0 ∨ n - 20 = 1 ∨ n - 20 = 2 ∨ n - 20 = 3 := by omega
          rcases hc with e | e | e | e <;> simp only [e]
          · exact .inr (.inr (.inl ⟨t1, [], rfl, a8 _ _ (a7 _ _ (a6 _ _ (a4 _ _ (a3 _ _ (a2 _ _ upd_same))))), Nat.le_of_ble_eq_true rfl, fun x hx => by cases hx⟩))
          · exact .inr (.inr (.inl ⟨t2, [.str "a"], rfl, a8 _ _ (a7 _ _ (a6 _ _ (a4 _ _ (a3 _ _ upd_same)))), Nat.le_of_ble_eq_true rfl, fun x hx => by rw [List.mem_singleton.mp hx]; exact .inl rfl⟩))
          · refine .inr (.inr (.inl ⟨t3, [.ref l3], rfl, a8 _ _ (a7 _ _ (a6 _ _ upd_same)), Nat.le_of_ble_eq_true rfl, fun x hx => ?_⟩))
            rw [List.mem_singleton.mp hx]
            exact .inr (.inl ⟨l3, [], rfl, a8 _ _ (a7 _ _ (a6 _ _ (a4 _ _ upd_same))), Nat.le_of_ble_eq_true rfl, fun x hx => by cases hx⟩)
          · refine .inr (.inr (.inl ⟨t4, [.int 0, .ref d4, .int 2], rfl, a8 _ _ upd_same, Nat.le_of_ble_eq_true rfl, fun x hx => ?_⟩))
            rcases List.mem_cons.mp hx with e | hx
            · rw [e]; exact .inl rfl
            rcases List.mem_cons.mp hx with e | hx
            · rw [e]
              exact .inr (.inr (.inr ⟨d4, _, rfl, a8 _ _ (a7 _ _ upd_same), Nat.le_of_ble_eq_true rfl, fun x hx => by rw [List.mem_singleton.mp hx]; exact .inr ⟨_, rfl⟩⟩))
            · rw [List.mem_singleton.mp hx]; exact .inl rfl
end
end L2.K2
set_option Elab.async false
set_option linter.all false
set_option maxRecDepth 100000
set_option maxHeartbeats 8000000
namespace L2.K2
open PySem PySem.Spec PyProof.Rows L2.Tb
open RZ
section
variable {K : PySem.W.Frag} {a b : Addr} {xs ys : List V}
theorem walk_zipT {n : Nat} (hn : n = min xs.length ys.length) : Walk (ItzT K a b) n (fun H => SqT K H a xs ∧ SqT K H b ys) (YPair (fun i => xs[i]?) (fun i => ys[i]?)) := by
  subst hn
  refine ⟨fun i _ hi q => ?_, fun _ q => ⟨xs, ys, q.1, q.2, by omega⟩, fun i H v H' _ q y => ?_⟩
  · have h1 : i < xs.length := by omega
    have h2 : i < ys.length := by omega
    exact ⟨xs, ys, xs[i], ys[i], q.1, q.2, by simp [h1], by simp [h2]⟩
  · obtain ⟨T, x, z, h1, h2, h3, h4, h5⟩ := y
    exact ⟨T, x, z, h1, h2, h3, h4 xs q.1, h5 ys q.2⟩
end
section
variable {P : Program} {w : World} {K : PySem.W.Frag} {mg : Str → Option Value} {base : Heap} {f : Addr} {fd : FuncData}
/-- a value's built-in type and what isinstance says of it -/
structure TyK (K : PySem.W.Frag) (H : Hp) (x : V) (a1 a2 a3 : Bool) : Prop where
  ex : ∃ T : String, TyX K H x (.type T) ∧ kitB T "tuple" = some a1 ∧ kitB T "list" = some a2 ∧ kitB T "bool" = some a3
theorem ty_flat {x : V} (h : flatS x = true) : ∃ a3, ∀ (H : Hp), TyK K H x false false a3 := by
  cases x with
  | non => exact ⟨false, fun H => ⟨"NoneType", .base .non, by decide +kernel, by decide +kernel, by decide +kernel⟩⟩
  | bl b => exact ⟨true, fun H => ⟨"bool", .base (.bl b), by decide +kernel, by decide +kernel, by decide +kernel⟩⟩
  | int i => exact ⟨false, fun H => ⟨"int", .base (.int i), by decide +kernel, by decide +kernel, by decide +kernel⟩⟩
  | str z => exact ⟨false, fun H => ⟨"str", .base (.str z), by decide +kernel, by decide +kernel, by decide +kernel⟩⟩
  | _ => cases h
theorem ty_lst {H : Hp} {a : Addr} {xs : List V} (e : H a = some (.lst xs)) : TyK K H (.ref a) false true false := ⟨"list", .base (.lst e), by decide +kernel, by decide +kernel, by decide +kernel⟩
theorem ty_tup {H : Hp} {a : Addr} {xs : List V} (e : H a = some (.tup xs)) : TyK K H (.ref a) true false false := ⟨"tuple", .base (.tup e), by decide +kernel, by decide +kernel, by decide +kernel⟩
theorem ty_dct {H : Hp} {a : Addr} {kvs : List (Key × V)} (e : H a = some (.dK kvs)) : TyK K H (.ref a) false false false := ⟨"dict", .base (.dK e), by decide +kernel, by decide +kernel, by decide +kernel⟩
theorem lT : kitB "list" "tuple" = some false := by decide +kernel
theorem lL : kitB "list" "list" = some true := by decide +kernel
theorem tT : kitB "tuple" "tuple" = some true := by decide +kernel
theorem tL : kitB "tuple" "list" = some false := by decide +kernel
theorem kit2 {T : String} {a1 a2 : Bool} (h1 : kitB T "tuple" = some a1) (h2 : kitB T "list" = some a2) : PySem.W.kitAny K (.type T) [.type "tuple", .type "list"] = some (a1 || a2) := by
  refine kitAny_cons (kit_ty h1) (fun e1 => kitAny_cons (kit_ty h2) (fun e2 => ?_) (fun e2 => ?_)) (fun e1 => ?_)
  · rw [e1, e2]; rfl
  · rw [e1, e2]; rfl
  · rw [e1]; rfl
theorem paired_get {R : V → V → Prop} : ∀ {xs ys : List V} {i : Nat} {u v : V}, Paired R xs ys → xs[i]? = some u → ys[i]? = some v → R u v
  | _, _, 0, _, _, .cons r _, h1, h2 => by
    cases h1
    cases h2
    exact r
  | _, _, i + 1, _, _, .cons _ t, h1, h2 => paired_get (i := i) t (by simpa using h1) (by simpa using h2)
  | _, _, _, _, _, .nil, h1, _ => by simp at h1
def spA : Nat → Sp
  | 0 => fun _ _ _ _ => False
  | n + 1 => spAlike n
theorem cal_false (F : FnP K "_law_alike" s_alike f fd) (hm : mg "_law_alike" = some (.ref f)) : Cal P w K mg base 0 "_law_alike" (spA 0) :=
  ⟨f, fd, ["_law_thing", "_law_twin"], ⟨fun _ _ _ _ h => h.elim, fun _ _ _ _ _ _ _ _ _ _ _ _ _ h => h.elim⟩, hm, F.kp, F.bindsN fun _ _ _ _ _ _ us hl => match us, hl with | [_, _], _ => rfl⟩
theorem rep_succ {i : Nat} {b : V} : List.replicate i b ++ [b] = List.replicate (i + 1) b := by rw [List.replicate_succ']
theorem c_alike_step (T : Bt mg) (F : FnP K "_law_alike" s_alike f fd) (hm : mg "_law_alike" = some (.ref f)) (n : Nat) (k_alike : Cal P w K mg base n "_law_alike" (spA n)) : Cal P w K mg base (n + 1) "_law_alike" (spAlike n) := by
  have hnd := sc_alike.nd
  refine cal_mk F hm sc_alike (fun _ _ _ _ _ _ us hl => match us, hl with | [_, _], _ => rfl) (fun vs H Q E h => ?_) (fun cdv A outer s H vs Q E hr h => ?_)
  · obtain ⟨x, y, rfl, _⟩ := h
    rfl
  · obtain ⟨x, y, rfl, hal, q⟩ := h
    refine ⟨_, (pss_cons (ps_if (pt_val (pe_callB call_isiT (by rfl) T.m_isinstance (by decide +kernel) (pa_cons (pv 0) (pa_cons (pe_tup (pa_cons (pe_bltn (v := .ty "tuple") (by rfl) T.m_tuple (by decide +kernel) rfl) (pa_cons (pe_bltn (v := .ty "list") (by rfl) T.m_list (by decide +kernel) rfl) pa_nil))) pa_nil))))
      (pss_cons (ps_if (pt_cmpR (op_neD hr.units) (pe_lst (pa_cons (pe_callB call_isi (by rfl) T.m_isinstance (by decide +kernel) (pa_cons (pv 0) (pa_cons (pe_bltn (v := .ty "tuple") (by rfl) T.m_tuple (by decide +kernel) rfl) pa_nil))) (pa_cons (pe_callB call_isi (by rfl) T.m_isinstance (by decide +kernel) (pa_cons (pv 0) (pa_cons (pe_bltn (v := .ty "list") (by rfl) T.m_list (by decide +kernel) rfl) pa_nil))) pa_nil))) (pe_lst (pa_cons (pe_callB call_isi (by rfl) T.m_isinstance (by decide +kernel) (pa_cons (pv 1) (pa_cons (pe_bltn (v := .ty "tuple") (by rfl) T.m_tuple (by decide +kernel) rfl) pa_nil))) (pa_cons (pe_callB call_isi (by rfl) T.m_isinstance (by decide +kernel) (pa_cons (pv 1) (pa_cons (pe_bltn (v := .ty "list") (by rfl) T.m_list (by decide +kernel) rfl) pa_nil))) pa_nil))) (nomark _))
      (pss_one (ps_ret pe_bl))
      pss_nil)
      (pss_one (ps_ret (pe_and (pe_cmpR op_eq (pe_callB call_len_seq (by rfl) T.m_len (by decide +kernel) (pa_cons (pv 0) pa_nil)) (pe_callB call_len_seq (by rfl) T.m_len (by decide +kernel) (pa_cons (pv 1) pa_nil)) (nomark _)) (pe_one (pe_callB (cr_all (by rfl)) (by rfl) T.m_all (by decide +kernel) (pa_cons (pe_lc (own := [("_law_a", 2), ("_law_b", 3)]) (tt := tYes) (g := (gTup K 2 (gCons (gName 2) (gCons (gName 3) gNil)))) (by rfl) hnd (pi_zipA (by rfl) T.m_zip (pa_cons (pv 0) (pa_cons (pv 1) pa_nil))) (blkOk_by (own := [("_law_a", 2), ("_law_b", 3)]) (N := N_alike) (sc := defScope s_alike) (by decide +kernel)) (fun _ _ _ _ _ => (pg_tup (by rfl) (pgs_cons (pg_name (i := 2) hnd rfl (by first | exact Or.inl rfl | exact Or.inr rfl)) (pgs_cons (pg_name (i := 3) hnd rfl (by first | exact Or.inl rfl | exact Or.inr rfl)) pgs_nil)))) (fun _ _ _ _ _ => pts_nil) (fun _ _ _ _ _ => (pe_cal k_alike hr (by omega) (by rfl) (pa_cons (pv 2) (pa_cons (pv 3) pa_nil))))) pa_nil)))))))
      pss_nil)
      (pss_one (ps_ret (pe_and (pe_cmpR op_eq (pe_callB call_isi (by rfl) T.m_isinstance (by decide +kernel) (pa_cons (pv 0) (pa_cons (pe_bltn (v := .ty "bool") (by rfl) T.m_bool (by decide +kernel) rfl) pa_nil))) (pe_callB call_isi (by rfl) T.m_isinstance (by decide +kernel) (pa_cons (pv 1) (pa_cons (pe_bltn (v := .ty "bool") (by rfl) T.m_bool (by decide +kernel) rfl) pa_nil))) (nomark _)) (pe_one (pe_cmpR (op_self hr.units) (pv 0) (pv 1) (nomark _))))))), ?_⟩
    have hc : (∃ a3, (∀ H', Same H H' → TyK K H' x false false a3) ∧ x = y ∧ (∀ H', Same H H' → flatS x = true ∨ ∃ (a : Addr) (kvs : List (Key × V)), x = .ref a ∧ H' a = some (.dK kvs) ∧ ∀ kv ∈ kvs, valV kvs kv.1 = some kv.2 ∧ (flatS kv.2 = true ∨ ∃ b, kv.2 = .ref b))) ∨
        ∃ m, n = m + 1 ∧ ((∃ a b xs ys, x = .ref a ∧ y = .ref b ∧ H a = some (.lst xs) ∧ H b = some (.lst ys) ∧ xs.length ≤ 1000 ∧ Paired (Al H m) xs ys) ∨ (∃ a b xs ys, x = .ref a ∧ y = .ref b ∧ H a = some (.tup xs) ∧ H b = some (.tup ys) ∧ xs.length ≤ 1000 ∧ Paired (Al H m) xs ys)) := by
      cases n with
      | zero =>
        obtain ⟨e, fl⟩ := hal
        obtain ⟨a3, t⟩ := ty_flat (K := K) fl
        exact .inl ⟨a3, fun H' _ => t H', e, fun _ _ => .inl fl⟩
      | succ m =>
        rcases hal with ⟨e, fl⟩ | hl | ht | ⟨a, kvs, h1, h2, h3, h4⟩
        · obtain ⟨a3, t⟩ := ty_flat (K := K) fl
          exact .inl ⟨a3, fun H' _ => t H', e, fun _ _ => .inl fl⟩
        · exact .inr ⟨m, rfl, .inl hl⟩
        · exact .inr ⟨m, rfl, .inr ht⟩
        · exact .inl ⟨false, fun H' s' => by rw [h1]; exact ty_dct (s' _ _ h3), h1.trans h2.symm, fun H' s' => .inr ⟨a, kvs, h1, s' _ _ h3, h4⟩⟩
    rcases hc with ⟨a3, ht, rfl, hd⟩ | ⟨m, rfl, ⟨a, b, xs, ys, rfl, rfl, ha, hb, hl, hp⟩ | ⟨a, b, xs, ys, rfl, rfl, ha, hb, hl, hp⟩⟩
    · refine ⟨_, rfl, by decide, fun tp np => ?_⟩
      have S1 := same_new (o := .tup [.ty "tuple", .ty "list"]) np
      obtain ⟨T1, t1, k1, k2, k3⟩ := (ht _ S1).ex
      refine ⟨_, tp, _, .type T1, [.type "tuple", .type "list"], _, rfl, upd_same, .cons (.ty _) (.cons (.ty _) .nil), t1, kit2 k1 k2, _, rfl, iteF ?_⟩
      refine ⟨_, rfl, _, _, _, _, _, rfl, .ty _, t1, kit_ty k3, _, rfl, _, _, _, _, _, rfl, .ty _, t1, kit_ty k3, ?_, _, rfl, ?_⟩
      · cases a3 <;> rfl
      · refine ite2 (fun _ => ?_) (fun h => absurd (decide_eq_true rfl) h)
        exact ⟨_, rfl, _, rfl, rfl, hd _ S1, q _ S1⟩
    · refine ⟨_, rfl, by decide, fun tp np => ?_⟩
      have S1 := same_new (o := .tup [.ty "tuple", .ty "list"]) np
      obtain ⟨T1, t1, k1, k2, k3⟩ := (ty_lst (S1 _ _ ha)).ex
      refine ⟨_, tp, _, .type T1, [.type "tuple", .type "list"], _, rfl, upd_same, .cons (.ty _) (.cons (.ty _) .nil), t1, kit2 k1 k2, _, rfl, iteT ?_⟩
      refine ⟨_, rfl, _, _, _, _, _, rfl, .ty _, .base (.lst (S1 _ _ ha)), kit_ty lT, _, rfl, _, _, _, _, _, rfl, .ty _, .base (.lst (S1 _ _ ha)), kit_ty lL, by decide, fun l nl => ?_⟩
      have S2 := S1.trans (same_new (o := .lst [.bl false, .bl true]) nl)
      refine ⟨_, rfl, _, _, _, _, _, rfl, .ty _, .base (.lst (S2 _ _ hb)), kit_ty lT, _, rfl, _, _, _, _, _, rfl, .ty _, .base (.lst (S2 _ _ hb)), kit_ty lL, by decide, fun l2 nl2 => ?_⟩
      have S3 := S2.trans (same_new (o := .lst [.bl false, .bl true]) nl2)
      refine ⟨.list [.bool false, .bool true], .list [.bool false, .bool true], .lst (SqL.of (same_new nl2 _ _ upd_same)) (.cons (.bl _) (.cons (.bl _) .nil)), .lst (SqL.of upd_same) (.cons (.bl _) (.cons (.bl _) .nil)), by decide +kernel, by decide +kernel, ?_⟩
      rw [show PyData.eqv (.list [.bool false, .bool true]) (.list [.bool false, .bool true]) = true by decide +kernel]
      refine ⟨_, rfl, iteF ?_⟩
      refine ⟨_, rfl, a, _, rfl, .inl (SqL.of (S3 _ _ ha)), _, rfl, b, _, rfl, .inl (SqL.of (S3 _ _ hb)), rfl, _, rfl, ite2 (fun _ => ?_) (fun h => absurd (decide_eq_true (by rw [Paired.length hp])) h)⟩
      refine ⟨_, rfl, _, rfl, a, b, xs, ys, rfl, .inl ⟨SqL.of (S3 _ _ ha), SqL.of (S3 _ _ hb), fun D nD => ?_⟩⟩
      have S4 := S3.trans (same_new (o := .lst []) nD)
      refine lc_it (walk_zip (K := K) (a := a) (b := b) (xs := xs) (ys := ys) rfl) (fun i H' => Same H H' ∧ H' D = some (.lst (List.replicate i (.bl true)))) ⟨S4, upd_same⟩ (fun i H' _ h => ⟨SqL.of (h.1 _ _ ha), SqL.of (h.1 _ _ hb)⟩) ?_ ?_
      · rintro i z H1 H2 hi ⟨s1, e1⟩ ⟨T', u, v, rfl, nT, rfl, hu, hv⟩
        have s2 := s1.trans (same_new (o := .tup [u, v]) nT)
        refine ⟨T', [u, v], rfl, SqT.of upd_same, rfl, u, _, rfl, v, _, rfl, rfl, rfl, ?_⟩
        unfold tYes
        dsimp only
        rw [if_pos rfl]
        refine ⟨_, rfl, _, rfl, u, v, rfl, (paired_get hp hu hv).same s2, fun H3 s3 => ?_⟩
        refine ⟨_, s3 _ _ (same_new nT _ _ e1), by rw [List.length_replicate, sizeLine_eq]; omega, fun b' o' e' => ?_, by rw [upd_same, rep_succ]⟩
        rw [upd_ne (fun z => ?_)]
        · exact s3 _ _ (s2 _ _ e')
        · rw [z] at e'
          have z2 := S3 _ _ e'
          rw [nD] at z2
          cases z2
      · rintro H1 ⟨s1, e1⟩
        refine ⟨D, List.replicate _ true, rfl, SqL.of (by rw [e1, List.map_replicate]), ?_⟩
        rw [show (List.replicate (min xs.length ys.length) true).all id = true from List.all_eq_true.mpr fun b' hb' => by rw [List.eq_of_mem_replicate hb']; rfl]
        exact q _ s1
    · refine ⟨_, rfl, by decide, fun tp np => ?_⟩
      have S1 := same_new (o := .tup [.ty "tuple", .ty "list"]) np
      obtain ⟨T1, t1, k1, k2, k3⟩ := (ty_tup (S1 _ _ ha)).ex
      refine ⟨_, tp, _, .type T1, [.type "tuple", .type "list"], _, rfl, upd_same, .cons (.ty _) (.cons (.ty _) .nil), t1, kit2 k1 k2, _, rfl, iteT ?_⟩
      refine ⟨_, rfl, _, _, _, _, _, rfl, .ty _, .base (.tup (S1 _ _ ha)), kit_ty tT, _, rfl, _, _, _, _, _, rfl, .ty _, .base (.tup (S1 _ _ ha)), kit_ty tL, by decide, fun l nl => ?_⟩
      have S2 := S1.trans (same_new (o := .lst [.bl true, .bl false]) nl)
      refine ⟨_, rfl, _, _, _, _, _, rfl, .ty _, .base (.tup (S2 _ _ hb)), kit_ty tT, _, rfl, _, _, _, _, _, rfl, .ty _, .base (.tup (S2 _ _ hb)), kit_ty tL, by decide, fun l2 nl2 => ?_⟩
      have S3 := S2.trans (same_new (o := .lst [.bl true, .bl false]) nl2)
      refine ⟨.list [.bool true, .bool false], .list [.bool true, .bool false], .lst (SqL.of (same_new nl2 _ _ upd_same)) (.cons (.bl _) (.cons (.bl _) .nil)), .lst (SqL.of upd_same) (.cons (.bl _) (.cons (.bl _) .nil)), by decide +kernel, by decide +kernel, ?_⟩
      rw [show PyData.eqv (.list [.bool true, .bool false]) (.list [.bool true, .bool false]) = true by decide +kernel]
      refine ⟨_, rfl, iteF ?_⟩
      refine ⟨_, rfl, a, _, rfl, .inr (SqT.of (S3 _ _ ha)), _, rfl, b, _, rfl, .inr (SqT.of (S3 _ _ hb)), rfl, _, rfl, ite2 (fun _ => ?_) (fun h => absurd (decide_eq_true (by rw [Paired.length hp])) h)⟩
      refine ⟨_, rfl, _, rfl, a, b, xs, ys, rfl, .inr ⟨SqT.of (S3 _ _ ha), SqT.of (S3 _ _ hb), fun D nD => ?_⟩⟩
      have S4 := S3.trans (same_new (o := .lst []) nD)
      refine lc_it (walk_zipT (K := K) (a := a) (b := b) (xs := xs) (ys := ys) rfl) (fun i H' => Same H H' ∧ H' D = some (.lst (List.replicate i (.bl true)))) ⟨S4, upd_same⟩ (fun i H' _ h => ⟨SqT.of (h.1 _ _ ha), SqT.of (h.1 _ _ hb)⟩) ?_ ?_
      · rintro i z H1 H2 hi ⟨s1, e1⟩ ⟨T', u, v, rfl, nT, rfl, hu, hv⟩
        have s2 := s1.trans (same_new (o := .tup [u, v]) nT)
        refine ⟨T', [u, v], rfl, SqT.of upd_same, rfl, u, _, rfl, v, _, rfl, rfl, rfl, ?_⟩
        unfold tYes
        dsimp only
        rw [if_pos rfl]
        refine ⟨_, rfl, _, rfl, u, v, rfl, (paired_get hp hu hv).same s2, fun H3 s3 => ?_⟩
        refine ⟨_, s3 _ _ (same_new nT _ _ e1), by rw [List.length_replicate, sizeLine_eq]; omega, fun b' o' e' => ?_, by rw [upd_same, rep_succ]⟩
        rw [upd_ne (fun z => ?_)]
        · exact s3 _ _ (s2 _ _ e')
        · rw [z] at e'
          have z2 := S3 _ _ e'
          rw [nD] at z2
          cases z2
      · rintro H1 ⟨s1, e1⟩
        refine ⟨D, List.replicate _ true, rfl, SqL.of (by rw [e1, List.map_replicate]), ?_⟩
        rw [show (List.replicate (min xs.length ys.length) true).all id = true from List.all_eq_true.mpr fun b' hb' => by rw [List.eq_of_mem_replicate hb']; rfl]
        exact q _ s1
theorem c_alike (T : Bt mg) (F : FnP K "_law_alike" s_alike f fd) (hm : mg "_law_alike" = some (.ref f)) : ∀ n, Cal P w K mg base (n + 1) "_law_alike" (spAlike n)
  | 0 => c_alike_step T F hm 0 (cal_false F hm)
  | n + 1 => c_alike_step T F hm (n + 1) (c_alike T F hm n)
end
end L2.K2
set_option Elab.async false
set_option linter.all false
set_option maxRecDepth 100000
set_option maxHeartbeats 8000000
namespace L2.K2
open PySem PySem.Spec PyProof.Rows L2.Tb
abbrev s_lots : Stmt := top 24
abbrev N_lots : List Str := ["_law_lots_here"]
theorem sc_lots : FnScope N_lots [] (defScope s_lots) := ⟨rfl, rfl, rfl, by decide +kernel, rfl, by decide +kernel, by decide +kernel⟩
abbrev s_pairs : Stmt := top 25
abbrev N_pairs : List Str := ["_law_words", "_law_word"]
theorem sc_pairs : FnScope N_pairs [] (defScope s_pairs) := ⟨rfl, rfl, rfl, by decide +kernel, rfl, by decide +kernel, by decide +kernel⟩
/-- the lots, as the law writes them -/
abbrev Turn := Int × Int × Int
def turnV (t : Turn) : List V := [.int t.1, .int t.2.1, .int t.2.2]
def lotD : List (Str × List Turn) := [("plain", [(0, 1, 2)]), ("sides", [(0, 1, 2), (1, 0, 2)]), ("front", [(0, 1, 2), (2, 1, 0)]), ("back", [(0, 1, 2), (0, 2, 1)]), ("round", [(0, 1, 2), (1, 2, 0), (2, 0, 1)]), ("all", [(0, 1, 2), (0, 2, 1), (1, 0, 2), (1, 2, 0), (2, 0, 1), (2, 1, 0)])]
def LotL (H : Hp) (l : Addr) (lot : List Turn) : Prop := ∃ ts : List Addr, H l = some (.lst (ts.map V.ref)) ∧ Paired (fun t u => H t = some (.tup (turnV u))) ts lot
theorem paired_imp {α β : Type} {R S : α → β → Prop} (h : ∀ a b, R a b → S a b) : ∀ {xs : List α} {ys : List β}, Paired R xs ys → Paired S xs ys
  | _, _, .nil => .nil
  | _, _, .cons r t => .cons (h _ _ r) (paired_imp h t)
theorem LotL.same {H H' : Hp} {l : Addr} {lot : List Turn} (h : LotL H l lot) (s : Same H H') : LotL H' l lot := by
  obtain ⟨ts, h1, h2⟩ := h
  exact ⟨ts, s _ _ h1, paired_imp (fun _ _ e => s _ _ e) h2⟩
theorem LotL.keep {H H' : Hp} {p l : Addr} {kvs : List (Key × V)} {lot : List Turn} (h : LotL H l lot) (hp : H p = some (.dK kvs)) (s : SameB p H H') : LotL H' l lot := by
  obtain ⟨ts, h1, h2⟩ := h
  refine ⟨ts, s _ _ (fun z => ?_) h1, paired_imp (fun t u e => s _ _ (fun z => ?_) e) h2⟩
  · rw [z, hp] at h1
    cases h1
  · rw [z, hp] at e
    cases e
def tLotT : List Turn → TA
  | [] => tNil
  | t :: r => tCons (tTup (tCons (tC (.int t.1)) (tCons (tC (.int t.2.1)) (tCons (tC (.int t.2.2)) tNil)))) (tLotT r)
theorem lot_args : ∀ (lot : List Turn) {σ : St} {H : Hp} {R : List V → Hp → Prop}, (∀ (ts : List Addr) (H' : Hp), Same H H' → Paired (fun t u => H' t = some (.tup (turnV u))) ts lot → R (ts.map V.ref) H') → tLotT lot σ H R
  | [], σ, H, R, h => h [] H (fun _ _ e => e) .nil
  | t :: r, σ, H, R, h => ⟨Nat.le_of_ble_eq_true rfl, fun p np => lot_args r fun ts H' s hp => h (p :: ts) H' ((same_new np).trans s) (.cons (s _ _ upd_same) hp)⟩
theorem lot_run (lot : List Turn) (hz : lot.length ≤ 100) {σ : St} {H : Hp} {Q : VK} (h : ∀ (l : Addr) (H' : Hp), Same H H' → LotL H' l lot → Q (.ref l) H') : tLst (tLotT lot) σ H Q := by
  refine lot_args lot fun ts H' s hp => ⟨?_, fun l n => ?_⟩
  · rw [List.length_map, Paired.length hp, sizeLine_eq]
    omega
  · have s2 := same_new (o := .lst (ts.map V.ref)) n
    exact h l _ (s.trans s2) ⟨ts, upd_same, paired_imp (fun _ _ e => s2 _ _ e) hp⟩
theorem pair_step {k : Str} {tv : TE} {r : List (TE × TE)} {σ : St} {H : Hp} {Q : List (V × V) → Hp → Prop} (h : tv σ H fun y H2 => tPairs r σ H2 fun ps H3 => Q ((.str k, y) :: ps) H3) : tPairs ((tC (.str k), tv) :: r) σ H Q := h
theorem asg_step {te : TE} {g : TG} {b : TS} {D : Ends} {σ : St} {H : Hp} (h : te σ H fun x H1 => g x σ H1 (b D)) : tSeq (tAsg te g) b D σ H := h
/-- the law's dict of the lots -/
def LotsAt (H : Hp) (kvs : List (Key × V)) : Prop := Paired (fun kv d => kv.1 = Sum.inr d.1 ∧ ∃ l, kv.2 = V.ref l ∧ LotL H l d.2) kvs lotD
theorem LotsAt.same {H H' : Hp} {kvs : List (Key × V)} (h : LotsAt H kvs) (s : Same H H') : LotsAt H' kvs := paired_imp (fun _ _ ⟨e, l, e2, q⟩ => ⟨e, l, e2, q.same s⟩) h
def spLots : Sp := fun vs H Q _ => vs = [] ∧ ∀ (d : Addr) (H' : Hp) (kvs : List (Key × V)), Same H H' → H' d = some (.dK kvs) → LotsAt H' kvs → Q (.ref d) H'
section
variable {P : Program} {w : World} {K : PySem.W.Frag} {mg : Str → Option Value} {base : Heap} {f : Addr} {fd : FuncData}
theorem c_lots (F : FnP K "_law_lots" s_lots f fd) (hm : mg "_law_lots" = some (.ref f)) : Cal P w K mg base 1 "_law_lots" spLots := by
  have hnd := sc_lots.nd
  refine cal_mk F hm sc_lots (fun _ _ _ _ _ _ us hl => match us, hl with | [], _ => rfl) (fun vs H Q E h => ?_) (fun cdv A outer s H vs Q E hr h => ?_)
  · rw [h.1]
    rfl
  · obtain ⟨rfl, q⟩ := h
    refine ⟨_, (pss_cons (ps_set (i := 0) hnd rfl (by first | exact Or.inl rfl | exact Or.inr rfl) (pe_disp (pps_cons pe_str (pe_lst (pa_cons (pe_tup (pa_cons pe_int (pa_cons pe_int (pa_cons pe_int pa_nil)))) pa_nil)) (pps_cons pe_str (pe_lst (pa_cons (pe_tup (pa_cons pe_int (pa_cons pe_int (pa_cons pe_int pa_nil)))) (pa_cons (pe_tup (pa_cons pe_int (pa_cons pe_int (pa_cons pe_int pa_nil)))) pa_nil))) (pps_cons pe_str (pe_lst (pa_cons (pe_tup (pa_cons pe_int (pa_cons pe_int (pa_cons pe_int pa_nil)))) (pa_cons (pe_tup (pa_cons pe_int (pa_cons pe_int (pa_cons pe_int pa_nil)))) pa_nil))) pps_nil))) (by rfl) (by rfl) (fun z => by cases z) (by decide)))
      (pss_cons (ps_asg (pe_lst (pa_cons (pe_tup (pa_cons pe_int (pa_cons pe_int (pa_cons pe_int pa_nil)))) (pa_cons (pe_tup (pa_cons pe_int (pa_cons pe_int (pa_cons pe_int pa_nil)))) pa_nil))) (pg_sub (pv 0) pe_str (set_dict (Nat.lt_of_le_of_lt (Nat.add_le_add_left (by decide) _) hr.units))))
      (pss_cons (ps_asg (pe_lst (pa_cons (pe_tup (pa_cons pe_int (pa_cons pe_int (pa_cons pe_int pa_nil)))) (pa_cons (pe_tup (pa_cons pe_int (pa_cons pe_int (pa_cons pe_int pa_nil)))) (pa_cons (pe_tup (pa_cons pe_int (pa_cons pe_int (pa_cons pe_int pa_nil)))) pa_nil)))) (pg_sub (pv 0) pe_str (set_dict (Nat.lt_of_le_of_lt (Nat.add_le_add_left (by decide) _) hr.units))))
      (pss_cons (ps_asg (pe_lst (pa_cons (pe_tup (pa_cons pe_int (pa_cons pe_int (pa_cons pe_int pa_nil)))) (pa_cons (pe_tup (pa_cons pe_int (pa_cons pe_int (pa_cons pe_int pa_nil)))) (pa_cons (pe_tup (pa_cons pe_int (pa_cons pe_int (pa_cons pe_int pa_nil)))) (pa_cons (pe_tup (pa_cons pe_int (pa_cons pe_int (pa_cons pe_int pa_nil)))) (pa_cons (pe_tup (pa_cons pe_int (pa_cons pe_int (pa_cons pe_int pa_nil)))) (pa_cons (pe_tup (pa_cons pe_int (pa_cons pe_int (pa_cons pe_int pa_nil)))) pa_nil))))))) (pg_sub (pv 0) pe_str (set_dict (Nat.lt_of_le_of_lt (Nat.add_le_add_left (by decide) _) hr.units))))
      (pss_one (ps_ret (pv 0))))))), ?_⟩
    refine fun p np => ?_
    have y0 := same_new (o := .dK []) np
    have f0 := upd_same (H := H) (a := p) (o := .dK [])
    generalize upd H p (.dK []) = G0 at y0 f0 ⊢
    refine pair_step (lot_run [(0, 1, 2)] (by decide) fun l0 G1 s1 q0 => pair_step (lot_run [(0, 1, 2), (1, 0, 2)] (by decide) fun l1 G2 s2 q1 => pair_step (lot_run [(0, 1, 2), (2, 1, 0)] (by decide) fun l2 G3 s3 q2 => ?_)))
    have f3 := s3 _ _ (s2 _ _ (s1 _ _ f0))
    refine ⟨f3, [(.inr ("plain" : Str), .ref l0), (.inr ("sides" : Str), .ref l1), (.inr ("front" : Str), .ref l2)], rfl, Nat.le_of_ble_eq_true rfl, ?_⟩
    have b3 : SameB p G3 (upd G3 p (.dK (mergeK [] [(.inr ("plain" : Str), .ref l0), (.inr ("sides" : Str), .ref l1), (.inr ("front" : Str), .ref l2)]))) := SameB.set
    have e3 : upd G3 p (.dK (mergeK [] [(.inr ("plain" : Str), .ref l0), (.inr ("sides" : Str), .ref l1), (.inr ("front" : Str), .ref l2)])) p = some (.dK [(.inr ("plain" : Str), .ref l0), (.inr ("sides" : Str), .ref l1), (.inr ("front" : Str), .ref l2)]) := upd_same
    generalize upd G3 p (.dK (mergeK [] [(.inr ("plain" : Str), .ref l0), (.inr ("sides" : Str), .ref l1), (.inr ("front" : Str), .ref l2)])) = K3 at b3 e3 ⊢
    have B3 : SameB p H K3 := (SameB.of (y0.trans (s1.trans (s2.trans s3)))).trans b3
    have q0 := ((q0.same s2).same s3).keep f3 b3
    have q1 := (q1.same s3).keep f3 b3
    have q2 := q2.keep f3 b3
    refine asg_step (lot_run [(0, 1, 2), (0, 2, 1)] (by decide) fun l3 G4 s4 q3 => ?_)
    have f4 := s4 _ _ e3
    refine ⟨_, rfl, p, _, rfl, DPut.k (k := .inr ("back" : Str)) f4 (by rw [sizeLine_eq]; exact Nat.le_of_ble_eq_true rfl), ?_⟩
    have b4 : SameB p G4 (upd G4 p (.dK (putK [(.inr ("plain" : Str), .ref l0), (.inr ("sides" : Str), .ref l1), (.inr ("front" : Str), .ref l2)] (.inr ("back" : Str)) (.ref l3)))) := SameB.set
    have e4 : upd G4 p (.dK (putK [(.inr ("plain" : Str), .ref l0), (.inr ("sides" : Str), .ref l1), (.inr ("front" : Str), .ref l2)] (.inr ("back" : Str)) (.ref l3))) p = some (.dK [(.inr ("plain" : Str), .ref l0), (.inr ("sides" : Str), .ref l1), (.inr ("front" : Str), .ref l2), (.inr ("back" : Str), .ref l3)]) := upd_same
    show tSeq _ _ _ _ (upd G4 p (.dK (putK [(.inr ("plain" : Str), .ref l0), (.inr ("sides" : Str), .ref l1), (.inr ("front" : Str), .ref l2)] (.inr ("back" : Str)) (.ref l3))))
    generalize upd G4 p (.dK (putK [(.inr ("plain" : Str), .ref l0), (.inr ("sides" : Str), .ref l1), (.inr ("front" : Str), .ref l2)] (.inr ("back" : Str)) (.ref l3))) = K4 at b4 e4 ⊢
    have B4 := (B3.trans (SameB.of s4)).trans b4
    have q0 := (q0.same s4).keep f4 b4
    have q1 := (q1.same s4).keep f4 b4
    have q2 := (q2.same s4).keep f4 b4
    have q3 := q3.keep f4 b4
    refine asg_step (lot_run [(0, 1, 2), (1, 2, 0), (2, 0, 1)] (by decide) fun l4 G5 s5 q4 => ?_)
    have f5 := s5 _ _ e4
    refine ⟨_, rfl, p, _, rfl, DPut.k (k := .inr ("round" : Str)) f5 (by rw [sizeLine_eq]; exact Nat.le_of_ble_eq_true rfl), ?_⟩
    have b5 : SameB p G5 (upd G5 p (.dK (putK [(.inr ("plain" : Str), .ref l0), (.inr ("sides" : Str), .ref l1), (.inr ("front" : Str), .ref l2), (.inr ("back" : Str), .ref l3)] (.inr ("round" : Str)) (.ref l4)))) := SameB.set
    have e5 : upd G5 p (.dK (putK [(.inr ("plain" : Str), .ref l0), (.inr ("sides" : Str), .ref l1), (.inr ("front" : Str), .ref l2), (.inr ("back" : Str), .ref l3)] (.inr ("round" : Str)) (.ref l4))) p = some (.dK [(.inr ("plain" : Str), .ref l0), (.inr ("sides" : Str), .ref l1), (.inr ("front" : Str), .ref l2), (.inr ("back" : Str), .ref l3), (.inr ("round" : Str), .ref l4)]) := upd_same
    show tSeq _ _ _ _ (upd G5 p (.dK (putK [(.inr ("plain" : Str), .ref l0), (.inr ("sides" : Str), .ref l1), (.inr ("front" : Str), .ref l2), (.inr ("back" : Str), .ref l3)] (.inr ("round" : Str)) (.ref l4))))
    generalize upd G5 p (.dK (putK [(.inr ("plain" : Str), .ref l0), (.inr ("sides" : Str), .ref l1), (.inr ("front" : Str), .ref l2), (.inr ("back" : Str), .ref l3)] (.inr ("round" : Str)) (.ref l4))) = K5 at b5 e5 ⊢
    have B5 := (B4.trans (SameB.of s5)).trans b5
    have q0 := (q0.same s5).keep f5 b5
    have q1 := (q1.same s5).keep f5 b5
    have q2 := (q2.same s5).keep f5 b5
    have q3 := (q3.same s5).keep f5 b5
    have q4 := q4.keep f5 b5
    refine asg_step (lot_run [(0, 1, 2), (0, 2, 1), (1, 0, 2), (1, 2, 0), (2, 0, 1), (2, 1, 0)] (by decide) fun l5 G6 s6 q5 => ?_)
    have f6 := s6 _ _ e5
    refine ⟨_, rfl, p, _, rfl, DPut.k (k := .inr ("all" : Str)) f6 (by rw [sizeLine_eq]; exact Nat.le_of_ble_eq_true rfl), ?_⟩
    have b6 : SameB p G6 (upd G6 p (.dK (putK [(.inr ("plain" : Str), .ref l0), (.inr ("sides" : Str), .ref l1), (.inr ("front" : Str), .ref l2), (.inr ("back" : Str), .ref l3), (.inr ("round" : Str), .ref l4)] (.inr ("all" : Str)) (.ref l5)))) := SameB.set
    have e6 : upd G6 p (.dK (putK [(.inr ("plain" : Str), .ref l0), (.inr ("sides" : Str), .ref l1), (.inr ("front" : Str), .ref l2), (.inr ("back" : Str), .ref l3), (.inr ("round" : Str), .ref l4)] (.inr ("all" : Str)) (.ref l5))) p = some (.dK [(.inr ("plain" : Str), .ref l0), (.inr ("sides" : Str), .ref l1), (.inr ("front" : Str), .ref l2), (.inr ("back" : Str), .ref l3), (.inr ("round" : Str), .ref l4), (.inr ("all" : Str), .ref l5)]) := upd_same
    show tRet _ _ _ (upd G6 p (.dK (putK [(.inr ("plain" : Str), .ref l0), (.inr ("sides" : Str), .ref l1), (.inr ("front" : Str), .ref l2), (.inr ("back" : Str), .ref l3), (.inr ("round" : Str), .ref l4)] (.inr ("all" : Str)) (.ref l5))))
    generalize upd G6 p (.dK (putK [(.inr ("plain" : Str), .ref l0), (.inr ("sides" : Str), .ref l1), (.inr ("front" : Str), .ref l2), (.inr ("back" : Str), .ref l3), (.inr ("round" : Str), .ref l4)] (.inr ("all" : Str)) (.ref l5))) = K6 at b6 e6 ⊢
    have B6 := (B5.trans (SameB.of s6)).trans b6
    have q0 := (q0.same s6).keep f6 b6
    have q1 := (q1.same s6).keep f6 b6
    have q2 := (q2.same s6).keep f6 b6
    have q3 := (q3.same s6).keep f6 b6
    have q4 := (q4.same s6).keep f6 b6
    have q5 := q5.keep f6 b6
    refine ⟨_, rfl, q p K6 _ (fun b o e => B6 b o (ne_of_none e np) e) e6 ?_⟩
    exact .cons ⟨rfl, l0, rfl, q0⟩ (.cons ⟨rfl, l1, rfl, q1⟩ (.cons ⟨rfl, l2, rfl, q2⟩ (.cons ⟨rfl, l3, rfl, q3⟩ (.cons ⟨rfl, l4, rfl, q4⟩ (.cons ⟨rfl, l5, rfl, q5⟩ .nil)))))
end
theorem same_put {H0 H : Hp} {D : Addr} {o : HO} (n : H0 D = none) (s : Same H0 H) : Same H0 (upd H D o) := fun b u e => by rw [upd_ne (ne_of_none e n)]; exact s _ _ e
theorem retop_step {r : R2} {ta tb : TE} {D : Ends} {σ : St} {H : Hp} (h : ta σ H fun x H1 => tb σ H1 fun y H2 => r x y H2 D.rt) : tRet (tOp r ta tb) D σ H := h
def wordsD : List Str := lotD.map (·.1)
def pairD : List (Str × Bool) := wordsD.map (fun x => (x, false)) ++ wordsD.map (fun x => (x, true))
theorem LotsAt.keys {H : Hp} {kvs : List (Key × V)} (h : LotsAt H kvs) : (kvs.map fun kv => kV kv.1) = wordsD.map V.str := by
  unfold LotsAt at h
  unfold wordsD
  generalize lotD = ds at h
  induction h with
  | nil => rfl
  | cons r _ ih =>
    rw [List.map_cons, List.map_cons, List.map_cons, ih, r.1]
    rfl
def PairAt (H : Hp) (t : Addr) (d : Str × Bool) : Prop := H t = some (.tup [.str d.1, .bl d.2])
def spPairs : Sp := fun vs H Q _ => vs = [] ∧ ∀ (l : Addr) (H' : Hp) (ts : List Addr), Same H H' → H' l = some (.lst (ts.map V.ref)) → Paired (PairAt H') ts pairD → Q (.ref l) H'
theorem paired_app {α β : Type} {R : α → β → Prop} : ∀ {xs xs' : List α} {ys ys' : List β}, Paired R xs ys → Paired R xs' ys' → Paired R (xs ++ xs') (ys ++ ys')
  | _, _, _, _, .nil, h => h
  | _, _, _, _, .cons r t, h => .cons r (paired_app t h)
theorem pairs_run {K : PySem.W.Frag} (b : Bool) {w : Addr} {H : Hp} {Q : VK} (hw : H w = some (.lst (wordsD.map V.str))) (q : ∀ (D : Addr) (H' : Hp) (ts : List Addr), Same H H' → H' D = some (.lst (ts.map V.ref)) → Paired (PairAt H') ts (wordsD.map fun x => (x, b)) → Q (.ref D) H') :
    tLc (iList K (tVar 0)) (gName 1) tYes (tTup (tCons (tVar 1) (tCons (tC (.bl b)) tNil))) [1] [some (.ref w), none] H Q := by
  refine ⟨_, rfl, w, rfl, ⟨_, SqL.of hw⟩, fun D nD => ?_⟩
  refine lc_list (xs := wordsD.map V.str) (fun n H' => Same H H' ∧ ∃ ts : List Addr, H' D = some (.lst (ts.map V.ref)) ∧ ts.length = n ∧ Paired (PairAt H') ts ((wordsD.take n).map fun x => (x, b))) ⟨same_new nD, [], upd_same, rfl, .nil⟩ (fun n H' _ h => SqL.of (h.1 _ _ hw)) ?_ ?_
  · rintro n x H1 hx ⟨s1, ts, e1, hl, p1⟩
    have hn : n < wordsD.length := by
      have := (List.getElem?_eq_some_iff.mp hx).1
      rwa [List.length_map] at this
    have ex : x = .str wordsD[n] := by
      rw [List.getElem?_map, List.getElem?_eq_getElem hn] at hx
      exact (Option.some.inj hx).symm
    refine ⟨rfl, ?_⟩
    unfold tYes
    dsimp only
    rw [if_pos rfl]
    refine ⟨_, rfl, Nat.le_of_ble_eq_true rfl, fun t nt => ?_⟩
    have st := same_new (o := .tup [x, .bl b]) nt
    have hD : t ≠ D := fun z => by
      rw [z, e1] at nt
      cases nt
    have eD := st _ _ e1
    refine ⟨_, eD, ?_, same_put nD (s1.trans st), ts ++ [t], ?_, ?_, ?_⟩
    · rw [List.length_map, hl, sizeLine_eq]
      have : wordsD.length = 6 := rfl
      omega
    · rw [upd_same, List.map_append]
      rfl
    · rw [List.length_append, hl]
      rfl
    · have up : ∀ {c : Addr} {o : HO}, H1 c = some o → (∀ xs, o ≠ .lst xs) → upd (upd H1 t (.tup [x, .bl b])) D (.lst (ts.map V.ref ++ [.ref t])) c = some o := fun {c o} e ne => by
        rw [upd_ne (fun z => by rw [z, e1] at e; exact ne _ (Option.some.inj e).symm)]
        exact st _ _ e
      rw [List.take_succ, List.getElem?_eq_getElem hn, List.map_append]
      refine paired_app (paired_imp (fun u d e => up e fun xs z => by cases z) p1) (.cons ?_ .nil)
      show upd _ _ _ t = some (.tup [.str wordsD[n], .bl b])
      rw [upd_ne hD, upd_same, ex]
  · rintro H1 ⟨s1, ts, e1, hl, p1⟩
    refine q D H1 ts s1 e1 ?_
    rw [List.length_map, List.take_length] at p1
    exact p1
section
variable {P : Program} {w : World} {K : PySem.W.Frag} {mg : Str → Option Value} {base : Heap} {f : Addr} {fd : FuncData}
theorem c_pairs (T : Bt mg) (F : FnP K "_law_pairs" s_pairs f fd) (hm : mg "_law_pairs" = some (.ref f)) (k_lots : Cal P w K mg base 1 "_law_lots" spLots) : Cal P w K mg base 2 "_law_pairs" spPairs := by
  have hnd := sc_pairs.nd
  refine cal_mk F hm sc_pairs (fun _ _ _ _ _ _ us hl => match us, hl with | [], _ => rfl) (fun vs H Q E h => ?_) (fun cdv A outer s H vs Q E hr h => ?_)
  · rw [h.1]
    rfl
  · obtain ⟨rfl, q⟩ := h
    refine ⟨_, (pss_cons (ps_set (i := 0) hnd rfl (by first | exact Or.inl rfl | exact Or.inr rfl) (pe_callTy (call_list_dK (by rfl)) (by rfl) T.m_list (by decide +kernel) (pa_cons (pe_cal0 k_lots hr (by omega) (by rfl)) pa_nil)))
      (pss_one (ps_ret (pe_op op_cat (pe_lc (own := [("_law_word", 1)]) (tt := tYes) (by rfl) hnd (pi_list (pv 0)) (blkOk_by (own := [("_law_word", 1)]) (N := N_pairs) (sc := defScope s_pairs) (by decide +kernel)) (fun _ _ _ _ _ => (pg_name (i := 1) hnd rfl (by first | exact Or.inl rfl | exact Or.inr rfl))) (fun _ _ _ _ _ => pts_nil) (fun _ _ _ _ _ => (pe_tup (pa_cons (pv 1) (pa_cons pe_bl pa_nil))))) (pe_lc (own := [("_law_word", 1)]) (tt := tYes) (by rfl) hnd (pi_list (pv 0)) (blkOk_by (own := [("_law_word", 1)]) (N := N_pairs) (sc := defScope s_pairs) (by decide +kernel)) (fun _ _ _ _ _ => (pg_name (i := 1) hnd rfl (by first | exact Or.inl rfl | exact Or.inr rfl))) (fun _ _ _ _ _ => pts_nil) (fun _ _ _ _ _ => (pe_tup (pa_cons (pv 1) (pa_cons pe_bl pa_nil))))))))), ?_⟩
    refine ⟨rfl, fun d H1 kvs s1 e1 L1 => ⟨d, kvs, rfl, e1, fun w nw => ?_⟩⟩
    rw [L1.keys]
    have s2 := same_new (o := .lst (wordsD.map V.str)) nw
    unfold gName
    dsimp only
    refine retop_step ?_
    refine pairs_run false upd_same fun D1 H2 ts1 s3 f1 p1 => ?_
    refine pairs_run true (s3 _ _ upd_same) fun D2 H3 ts2 s4 f2 p2 => ?_
    refine ⟨D1, D2, _, _, rfl, rfl, s4 _ _ f1, f2, ?_, fun l nl => ?_⟩
    · rw [List.length_map, List.length_map, Paired.length p1, Paired.length p2, sizeLine_eq]
      exact Nat.le_of_ble_eq_true rfl
    · have s5 := same_new (o := .lst (ts1.map V.ref ++ ts2.map V.ref)) nl
      refine q l _ (ts1 ++ ts2) ((((s1.trans s2).trans s3).trans s4).trans s5) (by rw [upd_same, List.map_append]) ?_
      exact paired_app (paired_imp (fun _ _ e => s5 _ _ (s4 _ _ e)) p1) (paired_imp (fun _ _ e => s5 _ _ e) p2)
end
end L2.K2
set_option Elab.async false
set_option linter.all false
set_option maxRecDepth 100000
set_option maxHeartbeats 8000000
namespace L2.K2
open PySem PySem.Spec PyProof.Rows L2.Tb
/-! ### the kinds -/
theorem op_isnotB {X : Cx} : OpR X (compareOp .IsNot) (fun x y H Q => ∃ b, y = .bl b ∧ Q (.bl (!decide (x = .bl b))) H) := by
  intro pins s σ H x y v u Q I rx ry h
  obtain ⟨b, rfl, q⟩ := h
  cases (show u = Value.bool b from ry)
  by_cases e : x = .bl b
  · subst e
    cases (show v = Value.bool b from rx)
    exact wpAny_isNot_self rfl ⟨.bl false, H, I, rfl, by simpa using q⟩
  · have q2 : Q (.bl true) H := by simpa [e] using q
    have fin : ∀ {w : Value}, v = w → w ≠ .bool b → (plainIs w (.bool b) = true) → wpAny (model X.prog X.w) X.A (compareOp .IsNot v (.bool b)) (EP X pins σ Q) X.xe s := fun e1 e2 e3 => by
      rw [e1]
      exact wpAny_isNot_other e3 e2 ⟨.bl true, H, I, rfl, q2⟩
    cases x with
    | bl c =>
      cases (show v = Value.bool c from rx)
      exact fin rfl (fun z => e (by injection z with z; rw [z])) rfl
    | non => exact fin rx (fun z => nomatch z) rfl
    | ref a => exact fin rx (fun z => nomatch z) rfl
    | ty n => exact fin rx (fun z => nomatch z) rfl
    | int i =>
      obtain ⟨t, e1⟩ := rx
      exact fin e1 (fun z => nomatch z) rfl
    | str i =>
      obtain ⟨t, e1⟩ := rx
      exact fin e1 (fun z => nomatch z) rfl
    | byt i =>
      obtain ⟨t, e1⟩ := rx
      exact fin e1 (fun z => nomatch z) rfl
    | flt i =>
      obtain ⟨t, e1⟩ := rx
      exact fin e1 (fun z => nomatch z) rfl
abbrev s_kinit : Stmt := inClass (top 12) 0
abbrev N_kinit : List Str := ["self", "turns", "calm"]
theorem sc_kinit : FnScope N_kinit ["self", "turns", "calm"] (defScope s_kinit) := ⟨rfl, rfl, rfl, by decide +kernel, rfl, by decide +kernel, by decide +kernel⟩
/-- not a text -/
structure NoS (K : PySem.W.Frag) (H : Hp) (x : V) : Prop where
  ex : ∃ t, TyX K H x t ∧ PySem.W.kitOne K t (.type "str") = some false
theorem str_ty {K : PySem.W.Frag} {H : Hp} {z : Str} : TyX K H (.str z) (.type "str") := .base (.str z)
theorem str_kit {K : PySem.W.Frag} : PySem.W.kitOne K (.type "str") (.type "str") = some true := rfl
theorem iteT2 {c : Bool} {A B : Prop} (hc : c = true) (h : A) : if c = true then A else B := by rw [if_pos hc]; exact h
theorem iteN2 {c : Bool} {A B : Prop} (hc : c = false) (h : B) : if c = true then A else B := by rw [if_neg (by rw [hc]; decide)]; exact h
structure KiF (P : Program) (w : World) (K : PySem.W.Frag) (mg : Str → Option Value) (base : Heap) (C dL CT CF : Addr) (es : Array DictEntry) (n : Nat) : Prop where
  mgC : mg "Kind" = some (.ref C)
  cls : Cls K C
  noT : NoAttr K C "_turns"
  noC : NoAttr K C "_calm"
  mgL : mg "LOTS" = some (.ref dL)
  tab : KDict K w dL es n
  inL : ∀ z, ∃ r, PySem.W.nsIn K dL z = some r ∧ r.isSome = wordsD.contains z
  eT : ErC P w K mg base "InvalidTurns" "given" bVE CT
  eF : ErC P w K mg base "InvalidFlag" "given" bVE CF
  tyT : PySem.W.typeIn K (.ref CT) = some (.type "type")
  tyF : PySem.W.typeIn K (.ref CF) = some (.type "type")
def kindF (z : Str) (b : Bool) : List (Str × V) := [("_turns", .str z), ("_calm", .bl b)]
def spKinit (K : PySem.W.Frag) (C CT CF : Addr) : Sp := fun vs H Q E => ∃ (a dx : Addr) (t c : V), vs = [.ref a, t, c] ∧ H a = some (.ins C dx []) ∧
  ((∃ z b, t = .str z ∧ wordsD.contains z = true ∧ c = .bl b ∧ Q .non (upd (upd H a (.ins C dx [("_turns", .str z)])) a (.ins C dx (kindF z b)))) ∨
   (((∃ z, t = .str z ∧ wordsD.contains z = false) ∨ NoS K H t) ∧ ∀ d H', Same H H' → H d = none → H' d = some (.xd [("given", t)]) → E (.ref CT) (some d) H') ∨
   (∃ z, t = .str z ∧ wordsD.contains z = true ∧ (∀ b, c ≠ .bl b) ∧ ∀ d H', Same H H' → H d = none → H' d = some (.xd [("given", c)]) → E (.ref CF) (some d) H'))
section
variable {P : Program} {w : World} {K : PySem.W.Frag} {mg : Str → Option Value} {base : Heap} {f : Addr} {fd : FuncData} {C dL CT CF : Addr} {es : Array DictEntry} {n : Nat}
theorem c_kinit (T : Bt mg) (mstr : mg "str" = none) (KF : KiF P w K mg base C dL CT CF es n) (F : FunD K "__init__" "Kind.__init__" (defArgs s_kinit) (defBody s_kinit) (defScope s_kinit) [] [("calm", .bl false)] f fd) : FnOk P w K mg base (L2.CX P w) 3 f fd ["self", "turns", "calm"] (spKinit K C CT CF) := by
  have hnd := sc_kinit.nd
  refine F.ok sc_kinit (fun vs H Q E h => ?_) (fun cdv A outer s H vs Q E hr h => ?_)
  · obtain ⟨a, dx, t, c, rfl, _⟩ := h
    rfl
  · obtain ⟨a, dx, t, c, rfl, ha, h⟩ := h
    refine ⟨_, (pss_cons (ps_if (PW.pt (pw_or (pt_not (pt_val (pe_callB call_isi (by rfl) T.m_isinstance (by decide +kernel) (pa_cons (pv 1) (pa_cons (pe_bltn (v := .ty "str") (by rfl) mstr (by decide +kernel) rfl) pa_nil))))) (pw_or1 (pt_cmpR (op_notIn_kd KF.tab) (pv 1) (pe_glob (v := .ref dL) (by rfl) KF.mgL rfl) (by rfl)))))
      (pss_one (ps_raise (by rfl) (takes_of rfl rfl rfl rfl) (pmk_er KF.eT KF.tyT hr (by omega) (by rfl) (pv 1))))
      pss_nil)
      (pss_cons (ps_if (PW.pt (pw_and (pt_cmpR op_isnotB (pv 2) pe_bl (nomark _)) (pw_and1 (pt_cmpR op_isnotB (pv 2) pe_bl (nomark _)))))
      (pss_one (ps_raise (by rfl) (takes_of rfl rfl rfl rfl) (pmk_er KF.eF KF.tyF hr (by omega) (by rfl) (pv 2))))
      pss_nil)
      (pss_cons (ps_fld (pv 0) (pv 1) (by rfl))
      (pss_one (ps_fld (pv 0) (pv 2) (by rfl)))))), ?_⟩
    rcases h with ⟨z, b, rfl, hz, rfl, q⟩ | ⟨hb, q⟩ | ⟨z, rfl, hz, hc, q⟩
    · obtain ⟨r, e, hr2⟩ := KF.inL z
      refine ⟨_, rfl, _, _, _, _, _, rfl, .ty _, str_ty, str_kit, _, rfl, iteF ⟨_, rfl, z, r, rfl, rfl, e, ?_⟩⟩
      rw [hr2, hz]
      refine ⟨_, rfl, iteF ?_⟩
      refine ⟨_, rfl, true, rfl, _, rfl, ?_⟩
      cases b with
      | true =>
        refine iteN2 (by decide +kernel) (iteF ?_)
        refine ⟨_, rfl, _, rfl, a, C, dx, [], rfl, ha, KF.cls, KF.noT, by decide, ?_⟩
        refine ⟨_, rfl, _, rfl, a, C, dx, _, rfl, upd_same, KF.cls, KF.noC, Nat.le_of_ble_eq_true rfl, ?_⟩
        exact q
      | false =>
        refine iteT2 (by decide +kernel) ⟨_, rfl, false, rfl, _, rfl, iteN2 (by decide +kernel) ?_⟩
        refine ⟨_, rfl, _, rfl, a, C, dx, [], rfl, ha, KF.cls, KF.noT, by decide, ?_⟩
        refine ⟨_, rfl, _, rfl, a, C, dx, _, rfl, upd_same, KF.cls, KF.noC, Nat.le_of_ble_eq_true rfl, ?_⟩
        exact q
    · rcases hb with ⟨z, rfl, hz⟩ | hb
      · obtain ⟨r, e, hr2⟩ := KF.inL z
        refine ⟨_, rfl, _, _, _, _, _, rfl, .ty _, str_ty, str_kit, _, rfl, iteF ⟨_, rfl, z, r, rfl, rfl, e, ?_⟩⟩
        rw [hr2, hz]
        exact ⟨_, rfl, iteT ⟨_, rfl, fun d H' s n x => q d H' s n x⟩⟩
      · obtain ⟨T0, ty, k⟩ := hb.ex
        exact ⟨_, rfl, _, _, _, _, _, rfl, .ty _, ty, k, _, rfl, iteT (iteT ⟨_, rfl, fun d H' s n x => q d H' s n x⟩)⟩
    · obtain ⟨r, e, hr2⟩ := KF.inL z
      refine ⟨_, rfl, _, _, _, _, _, rfl, .ty _, str_ty, str_kit, _, rfl, iteF ⟨_, rfl, z, r, rfl, rfl, e, ?_⟩⟩
      rw [hr2, hz]
      refine ⟨_, rfl, iteF ?_⟩
      refine ⟨_, rfl, true, rfl, _, rfl, ?_⟩
      refine iteT2 (by rw [decide_eq_false (hc true)]; rfl) ⟨_, rfl, false, rfl, _, rfl, iteT2 (by rw [decide_eq_false (hc false)]; rfl) ?_⟩
      exact ⟨_, rfl, fun d H' s n x => q d H' s n x⟩
end
abbrev s_kturns : Stmt := inClass (top 12) 2
abbrev N_kturns : List Str := ["self"]
theorem sc_kturns : FnScope N_kturns ["self"] (defScope s_kturns) := ⟨rfl, rfl, rfl, by decide +kernel, rfl, by decide +kernel, by decide +kernel⟩
abbrev s_kcalm : Stmt := inClass (top 12) 3
abbrev N_kcalm : List Str := ["self"]
theorem sc_kcalm : FnScope N_kcalm ["self"] (defScope s_kcalm) := ⟨rfl, rfl, rfl, by decide +kernel, rfl, by decide +kernel, by decide +kernel⟩
abbrev s_klot : Stmt := inClass (top 12) 4
abbrev N_klot : List Str := ["self"]
theorem sc_klot : FnScope N_klot ["self"] (defScope s_klot) := ⟨rfl, rfl, rfl, by decide +kernel, rfl, by decide +kernel, by decide +kernel⟩
abbrev s_kstr : Stmt := inClass (top 12) 10
abbrev N_kstr : List Str := ["self"]
theorem sc_kstr : FnScope N_kstr ["self"] (defScope s_kstr) := ⟨rfl, rfl, rfl, by decide +kernel, rfl, by decide +kernel, by decide +kernel⟩
abbrev s_keq : Stmt := inClass (top 12) 9
abbrev N_keq : List Str := ["self", "other"]
theorem sc_keq : FnScope N_keq ["self", "other"] (defScope s_keq) := ⟨rfl, rfl, rfl, by decide +kernel, rfl, by decide +kernel, by decide +kernel⟩
/-- a kind stands at a -/
def KindAt (C : Addr) (H : Hp) (a : Addr) (z : Str) (b : Bool) : Prop := ∃ dx, H a = some (.ins C dx (kindF z b))
theorem KindAt.same {C : Addr} {H H' : Hp} {a : Addr} {z : Str} {b : Bool} (h : KindAt C H a z b) (s : Same H H') : KindAt C H' a z b := let ⟨dx, e⟩ := h; ⟨dx, s _ _ e⟩
def lotOf (z : Str) : List Turn := (lotD.lookup z).getD []
/-- a lot of the program, a tuple of tuples that stands for good -/
def LotK (K : PySem.W.Frag) (l : Addr) (lot : List Turn) : Prop := ∃ ts : List Addr, (∀ H, SqT K H l (ts.map V.ref)) ∧ Paired (fun t u => ∀ H, SqT K H t (turnV u)) ts lot
def spKturns (C : Addr) : Sp := fun vs H Q _ => ∃ (a : Addr) (z : Str) (b : Bool), vs = [.ref a] ∧ KindAt C H a z b ∧ Q (.str z) H
def spKcalm (C : Addr) : Sp := fun vs H Q _ => ∃ (a : Addr) (z : Str) (b : Bool), vs = [.ref a] ∧ KindAt C H a z b ∧ Q (.bl b) H
def spKlot (K : PySem.W.Frag) (C : Addr) : Sp := fun vs H Q _ => ∃ (a : Addr) (z : Str) (b : Bool), vs = [.ref a] ∧ KindAt C H a z b ∧ wordsD.contains z = true ∧ ∀ l, LotK K l (lotOf z) → Q (.ref l) H
/-- a kind's text -/
def kindS (z : Str) (b : Bool) : Str := cond b (Str.empty ++ ("calm " : Str) ++ z) z
def spKstr (C : Addr) : Sp := fun vs H Q _ => ∃ (a : Addr) (z : Str) (b : Bool), vs = [.ref a] ∧ KindAt C H a z b ∧ z.length ≤ 1000 ∧ Q (.str (kindS z b)) H
def spKeq (K : PySem.W.Frag) (C : Addr) : Sp := fun vs H Q _ => ∃ (a : Addr) (z : Str) (b : Bool) (y : V), vs = [.ref a, y] ∧ KindAt C H a z b ∧
  ((∃ (c : Addr) (z2 : Str) (b2 : Bool), y = .ref c ∧ KindAt C H c z2 b2 ∧ Q (.bl (decide (z = z2) && decide (b = b2))) H) ∨ (∃ t, TyX K H y t ∧ PySem.W.kitOne K t (.ref C) = some false ∧ Q (.bl false) H))
structure KiG (K : PySem.W.Frag) (w : World) (mg : Str → Option Value) (C dL : Addr) : Prop where
  calm : ∃ t, mg "_CALM" = some (.str "calm " t)
  lots : ∀ z, wordsD.contains z = true → ∃ l, KDct K w dL z (.ref l) ∧ LotK K l (lotOf z)
  ex : InsC K C
  self : PySem.W.kitOne K (.ref C) (.ref C) = some true
section
variable {P : Program} {w : World} {K : PySem.W.Frag} {mg : Str → Option Value} {base : Heap} {f : Addr} {fd : FuncData} {C dL CT CF : Addr} {es : Array DictEntry} {n : Nat}
theorem c_kturns (KF : KiF P w K mg base C dL CT CF es n) (F : FunD K "turns" "Kind.turns" (defArgs s_kturns) (defBody s_kturns) (defScope s_kturns) [] [] f fd) : FnOk P w K mg base L2.CX0 1 f fd ["self"] (spKturns C) := by
  have hnd := sc_kturns.nd
  refine F.ok sc_kturns (fun vs H Q E h => ?_) (fun cdv A outer s H vs Q E hr h => ?_)
  · obtain ⟨a, z, b, rfl, _⟩ := h
    rfl
  · obtain ⟨a, z, b, rfl, ⟨dx, e⟩, q⟩ := h
    exact ⟨_, (pss_one (ps_ret (pe_fld (pv 0) (by rfl)))), _, rfl, a, C, dx, _, _, rfl, e, KF.cls, KF.noT, rfl, q⟩
theorem c_kcalm (KF : KiF P w K mg base C dL CT CF es n) (F : FunD K "calm" "Kind.calm" (defArgs s_kcalm) (defBody s_kcalm) (defScope s_kcalm) [] [] f fd) : FnOk P w K mg base L2.CX0 1 f fd ["self"] (spKcalm C) := by
  have hnd := sc_kcalm.nd
  refine F.ok sc_kcalm (fun vs H Q E h => ?_) (fun cdv A outer s H vs Q E hr h => ?_)
  · obtain ⟨a, z, b, rfl, _⟩ := h
    rfl
  · obtain ⟨a, z, b, rfl, ⟨dx, e⟩, q⟩ := h
    exact ⟨_, (pss_one (ps_ret (pe_fld (pv 0) (by rfl)))), _, rfl, a, C, dx, _, _, rfl, e, KF.cls, KF.noC, rfl, q⟩
theorem c_klot (KF : KiF P w K mg base C dL CT CF es n) (KG : KiG K w mg C dL) (F : FunD K "lot" "Kind.lot" (defArgs s_klot) (defBody s_klot) (defScope s_klot) [] [] f fd) : FnOk P w K mg base L2.CX0 1 f fd ["self"] (spKlot K C) := by
  have hnd := sc_klot.nd
  refine F.ok sc_klot (fun vs H Q E h => ?_) (fun cdv A outer s H vs Q E hr h => ?_)
  · obtain ⟨a, z, b, rfl, _⟩ := h
    rfl
  · obtain ⟨a, z, b, rfl, ⟨dx, e⟩, hz, q⟩ := h
    obtain ⟨l, kd, lk⟩ := KG.lots z hz
    exact ⟨_, (pss_one (ps_ret (pe_ix ix_kdict (pe_glob (v := .ref dL) (by rfl) KF.mgL rfl) (pe_fld (pv 0) (by rfl)) (fun _ _ => rfl)))), _, rfl, a, C, dx, _, _, rfl, e, KF.cls, KF.noT, rfl, dL, z, .ref l, rfl, rfl, kd, q l lk⟩
theorem c_kstr (T : Bt mg) (mstr : mg "str" = none) (KF : KiF P w K mg base C dL CT CF es n) (KG : KiG K w mg C dL) (F : FunD K "__str__" "Kind.__str__" (defArgs s_kstr) (defBody s_kstr) (defScope s_kstr) [] [] f fd) : FnOk P w K mg base L2.CX0 1 f fd ["self"] (spKstr C) := by
  have hnd := sc_kstr.nd
  obtain ⟨tc, mc⟩ := KG.calm
  refine F.ok sc_kstr (fun vs H Q E h => ?_) (fun cdv A outer s H vs Q E hr h => ?_)
  · obtain ⟨a, z, b, rfl, _⟩ := h
    rfl
  · obtain ⟨a, z, b, rfl, ⟨dx, e⟩, hz, q⟩ := h
    refine ⟨_, (pss_cons (ps_if (pt_val (pe_fld (pv 0) (by rfl)))
      (pss_one (ps_ret (pe_joined (.cons (pe_fmt (pe_glob (v := .str "calm ") (by rfl) mc ⟨_, rfl⟩)) (.cons (pe_fmt (pe_fld (pv 0) (by rfl))) .nil)))))
      pss_nil)
      (pss_one (ps_ret (pe_callTy SkE.call_str_str (by rfl) mstr (by decide +kernel) (pa_cons (pe_fld (pv 0) (by rfl)) pa_nil))))), ?_⟩
    refine ⟨_, rfl, a, C, dx, _, _, rfl, e, KF.cls, KF.noC, rfl, b, rfl, ?_⟩
    cases b with
    | true =>
      refine iteT2 rfl (.inl ⟨_, rfl, Nat.le_of_ble_eq_true rfl, _, rfl, Nat.le_of_ble_eq_true rfl, ?_⟩)
      refine ⟨_, rfl, a, C, dx, _, _, rfl, e, KF.cls, KF.noT, rfl, .inl ⟨_, rfl, ?_, _, rfl, ?_, q⟩⟩
      · rw [sizeLine_eq]
        omega
      · rw [sizeLine_eq]
        have : (Str.empty ++ ("calm " : Str) ++ z).length = 5 + z.length := by
          rw [Str.length_append]
          rfl
        omega
    | false => exact iteN2 rfl ⟨_, rfl, a, C, dx, _, _, rfl, e, KF.cls, KF.noT, rfl, _, rfl, q⟩
theorem c_keq (T : Bt mg) (KF : KiF P w K mg base C dL CT CF es n) (KG : KiG K w mg C dL) (F : FunD K "__eq__" "Kind.__eq__" (defArgs s_keq) (defBody s_keq) (defScope s_keq) [] [] f fd) : FnOk P w K mg base L2.CX0 1 f fd ["self", "other"] (spKeq K C) := by
  have hnd := sc_keq.nd
  refine F.ok sc_keq (fun vs H Q E h => ?_) (fun cdv A outer s H vs Q E hr h => ?_)
  · obtain ⟨a, z, b, y, rfl, _⟩ := h
    rfl
  · obtain ⟨a, z, b, y, rfl, ⟨dx, e⟩, q⟩ := h
    refine ⟨_, (pss_one (ps_ret (pe_and (pe_callB call_isi (by rfl) T.m_isinstance (by decide +kernel) (pa_cons (pv 1) (pa_cons (pe_glob (v := .ref C) (by rfl) KF.mgC rfl) pa_nil))) (pe_and (pe_cmpR op_eq (pe_fld (pv 0) (by rfl)) (pe_fld (pv 1) (by rfl)) (nomark _)) (pe_one (pe_cmpR op_eq (pe_fld (pv 0) (by rfl)) (pe_fld (pv 1) (by rfl)) (nomark _))))))), ?_⟩
    rcases q with ⟨c, z2, b2, rfl, ⟨dy, e2⟩, q⟩ | ⟨t, ty, kn, q⟩
    · refine ⟨_, rfl, _, _, _, _, _, rfl, .own C, .base (.ins e2 KF.cls KG.ex.ha KG.ex.hn KG.ex.ht KG.ex.hm), KG.self, true, rfl, iteT ?_⟩
      refine ⟨_, rfl, a, C, dx, _, _, rfl, e, KF.cls, KF.noT, rfl, _, rfl, c, C, dy, _, _, rfl, e2, KF.cls, KF.noT, rfl, rfl, _, rfl, ?_⟩
      have hz : decide (V.str z = V.str z2) = decide (z = z2) := decide_eq_decide.mpr ⟨fun h => by injection h, fun h => by rw [h]⟩
      rw [hz]
      cases hd : decide (z = z2) with
      | true =>
        rw [hd, Bool.true_and] at q
        refine iteT ⟨_, rfl, a, C, dx, _, _, rfl, e, KF.cls, KF.noC, rfl, _, rfl, c, C, dy, _, _, rfl, e2, KF.cls, KF.noC, rfl, rfl, ?_⟩
        have hb : decide (V.bl b = V.bl b2) = decide (b = b2) := decide_eq_decide.mpr ⟨fun h => by injection h, fun h => by rw [h]⟩
        rw [hb]
        exact q
      | false =>
        rw [hd, Bool.false_and] at q
        exact iteF q
    · exact ⟨_, rfl, _, _, _, _, _, rfl, .own C, ty, kn, false, rfl, iteF q⟩
end
abbrev s_kread : Stmt := inClass (top 12) 1
abbrev N_kread : List Str := ["cls", "text", "turns"]
theorem sc_kread : FnScope N_kread ["cls", "text"] (defScope s_kread) := ⟨rfl, rfl, rfl, by decide +kernel, rfl, by decide +kernel, by decide +kernel⟩
/-- what Kind.read takes off the front -/
def offCalm (y : Str) : Str := Txt.removeprefix y "calm "
def spKread (K : PySem.W.Frag) (C CX : Addr) : Sp := fun vs H Q E => ∃ t : V, vs = [.ref C, t] ∧
  ((∃ y, t = .str y ∧ y.length ≤ 10000 ∧ wordsD.contains (offCalm y) = true ∧ ∀ a H', Same H H' → H a = none → KindAt C H' a (offCalm y) (!decide (V.str (offCalm y) = V.str y)) → Q (.ref a) H') ∨
   (((∃ y, t = .str y ∧ y.length ≤ 10000 ∧ wordsD.contains (offCalm y) = false) ∨ NoS K H t) ∧ ∀ d H', Same H H' → H d = none → H' d = some (.xd [("given", t)]) → E (.ref CX) (some d) H'))
section
variable {P : Program} {w : World} {K : PySem.W.Frag} {mg : Str → Option Value} {base : Heap} {f fi : Addr} {fd fdi : FuncData} {C dL CT CF CX : Addr} {es : Array DictEntry} {n : Nat}
theorem c_kread (T : Bt mg) (mstr : mg "str" = none) (KF : KiF P w K mg base C dL CT CF es n) (KG : KiG K w mg C dL) (eX : ErC P w K mg base "InvalidText" "given" bVE CX) (tyX : PySem.W.typeIn K (.ref CX) = some (.type "type")) (KM : Mk K C fi)
    (Fi : FnOk P w K mg base (L2.CX P w) 3 fi fdi ["self", "turns", "calm"] (spKinit K C CT CF)) (Bi : KBn K fdi ["self", "turns", "calm"] 2 ["calm"] (fun us ws => us ++ ws) (fun us ws => us ++ ws))
    (F : FunD K "read" "Kind.read" (defArgs s_kread) (defBody s_kread) (defScope s_kread) [] [] f fd) : FnOk P w K mg base (L2.CX P w) 5 f fd ["cls", "text"] (spKread K C CX) := by
  have hnd := sc_kread.nd
  obtain ⟨tc, mc⟩ := KG.calm
  refine F.ok sc_kread (fun vs H Q E h => ?_) (fun cdv A outer s H vs Q E hr h => ?_)
  · obtain ⟨t, rfl, _⟩ := h
    rfl
  · obtain ⟨t, rfl, h⟩ := h
    refine ⟨_, (pss_cons (ps_if (pt_not (pt_val (pe_callB call_isi (by rfl) T.m_isinstance (by decide +kernel) (pa_cons (pv 1) (pa_cons (pe_bltn (v := .ty "str") (by rfl) mstr (by decide +kernel) rfl) pa_nil)))))
      (pss_one (ps_raise (by rfl) (takes_of rfl rfl rfl rfl) (pmk_er eX tyX hr (by omega) (by rfl) (pv 1))))
      pss_nil)
      (pss_cons (ps_set (i := 2) hnd rfl (by first | exact Or.inl rfl | exact Or.inr rfl) (pe_bm PySem.F.plainAttrs_str PySem.F.slot_str_removeprefix PySem.F.type_str_removeprefix mt_removeprefix (pv 1) (pa_cons (pe_glob (v := .str "calm ") (by rfl) mc ⟨_, rfl⟩) pa_nil)))
      (pss_cons (ps_if (pt_cmpR (op_notIn_kd KF.tab) (pv 2) (pe_glob (v := .ref dL) (by rfl) KF.mgL rfl) (by rfl))
      (pss_one (ps_raise (by rfl) (takes_of rfl rfl rfl rfl) (pmk_er eX tyX hr (by omega) (by rfl) (pv 1))))
      pss_nil)
      (pss_one (ps_ret (pe_makeVK (i := 0) KM Fi hr (by omega) rfl (by first | exact Or.inl rfl | exact Or.inr rfl) Bi pass_none (pa_cons (pv 2) pa_nil) (pk_cons (pe_cmpR op_ne (pv 2) (pv 1) (nomark _)) pk_nil))))))), ?_⟩
    rcases h with ⟨y, rfl, hl, hz, q⟩ | ⟨⟨y, rfl, hl, hz⟩ | hb, q⟩
    · obtain ⟨r, e, hr2⟩ := KF.inL (offCalm y)
      refine ⟨_, rfl, _, _, _, _, _, rfl, .ty _, str_ty, str_kit, _, rfl, iteF ?_⟩
      refine ⟨_, rfl, ?_, _, _, rfl, rfl, ?_, ?_⟩
      · rfl
      · rw [sizeLine_eq]
        omega
      refine ⟨_, rfl, offCalm y, r, rfl, rfl, e, ?_⟩
      rw [hr2, hz]
      refine ⟨_, rfl, iteF ?_⟩
      refine ⟨rfl, _, rfl, _, rfl, _, rfl, rfl, rfl, rfl, fun x dx hx hdx ne => ?_⟩
      refine ⟨x, dx, .str (offCalm y), _, rfl, upd_same, .inl ⟨offCalm y, _, rfl, hz, rfl, rfl, q x _ (fun b o h => ?_) hx ⟨dx, upd_same⟩⟩⟩
      rw [upd_ne (ne_of_none h hx), upd_ne (ne_of_none h hx), upd_ne (ne_of_none h hx), upd_ne (ne_of_none h hdx)]
      exact h
    · obtain ⟨r, e, hr2⟩ := KF.inL (offCalm y)
      refine ⟨_, rfl, _, _, _, _, _, rfl, .ty _, str_ty, str_kit, _, rfl, iteF ?_⟩
      refine ⟨_, rfl, rfl, _, _, rfl, rfl, by rw [sizeLine_eq]; omega, ?_⟩
      refine ⟨_, rfl, offCalm y, r, rfl, rfl, e, ?_⟩
      rw [hr2, hz]
      exact ⟨_, rfl, iteT ⟨_, rfl, fun d H' s n x => q d H' s n x⟩⟩
    · obtain ⟨T0, ty, k⟩ := hb.ex
      exact ⟨_, rfl, _, _, _, _, _, rfl, .ty _, ty, k, _, rfl, iteT ⟨_, rfl, fun d H' s n x => q d H' s n x⟩⟩
end
end L2.K2
set_option Elab.async false
set_option linter.all false
set_option maxRecDepth 100000
set_option maxHeartbeats 8000000
namespace L2.K2
open PySem PySem.Spec PyProof.Rows L2.Tb
abbrev s_told : Stmt := top 27
abbrev N_told : List Str := ["_law_act", "_law_heard", "e"]
theorem sc_told : FnScope N_told ["_law_act"] (defScope s_told) := ⟨rfl, rfl, rfl, by decide +kernel, rfl, by decide +kernel, by decide +kernel⟩
/-- what the law hears of an error of the class at C, told by the word z -/
def HeardX (C : Addr) (z : Str) (cls : Value) (d : Option Addr) (H : Hp) (Q : VK) : Prop := cls = .ref C ∧ ∃ dd v, d = some dd ∧ H dd = some (.xd [("given", v)]) ∧ ∀ T, H T = none → Q (.ref T) (upd H T (.tup [.str z, v]))
/-- the law's look: a kind's text, or one of the three errors -/
def TTold (C CT CF CX : Addr) : (XK → Hp → VK → Prop) → Hp → VK → Prop := fun tl H Q =>
  tl (fun cls d H1 => HeardX CT "turns" cls d H1 Q ∨ HeardX CF "flag" cls d H1 Q ∨ HeardX CX "text" cls d H1 Q) H
    (fun v H1 => ∃ a z b, v = .ref a ∧ KindAt C H1 a z b ∧ z.length ≤ 1000 ∧ ∀ T, H1 T = none → Q (.ref T) (upd H1 T (.tup [.str "kind", .str (kindS z b)])))
structure ToldF (K : PySem.W.Frag) (mg : Str → Option Value) (CT CF CX : Addr) : Prop where
  gT : mg "InvalidTurns" = some (.ref CT)
  gF : mg "InvalidFlag" = some (.ref CF)
  gX : mg "InvalidText" = some (.ref CX)
  xT : XfC K CT
  xF : XfC K CF
  xX : XfC K CX
  nT : PySem.W.findIn K (.ref CT) "given" = some none
  nF : PySem.W.findIn K (.ref CF) "given" = some none
  nX : PySem.W.findIn K (.ref CX) "given" = some none
  tt : PySem.W.exmOne K (.ref CT) (.ref CT) = some true
  ft : PySem.W.exmOne K (.ref CF) (.ref CT) = some false
  ff : PySem.W.exmOne K (.ref CF) (.ref CF) = some true
  xt : PySem.W.exmOne K (.ref CX) (.ref CT) = some false
  xf : PySem.W.exmOne K (.ref CX) (.ref CF) = some false
  xx : PySem.W.exmOne K (.ref CX) (.ref CX) = some true
section
variable {X : Cx} {C CT CF CX fs : Addr} {fds : FuncData} {k : Nat}
/-- one clause's suite: heard = (z, e.given) -/
theorem told_gives (mstr : X.mg "str" = none) (TF : ToldF X.K X.mg CT CF CX) (Fs : FnOk X.prog X.w X.K X.mg X.base L2.CX0 1 fs fds ["self"] (spKstr C)) (hr : Room 4 X.A) (hs : PySem.W.findIn X.K (.ref C) "__str__" = some (some (.ref fs))) (hf : PySem.W.isFn X.K (.ref fs) = true) (hb : Binds X.K fds ["self"] [])
    {g : Addr} {cdg : Value} {q : Str} : LamX.GivesTo X N_told "_law_told" (defScope s_told) g cdg (defBody s_told) "_law_act" q (TTold C CT CF CX) := by
  have hnd := sc_told.nd
  intro f c' s H Q tl act hc h
  have hr2 : Room 3 (X.A.deeper (envOfC "_law_told" (defScope s_told) s.heap.objs.size g cdg)) := hr.deeper _
  refine ⟨_, pss_cons (ps_try_asMany (X := (cxOf C8.CX0 X.prog X.w X.K X.mg X.base N_told "_law_told" (defScope s_told) g cdg X.A X.stack s H C8.E0).nox)
      (tb := fun W D σ H => ∃ Ech : XK, (∀ cls d σ' H', Ech cls d H' → W cls d σ' H') ∧ tAsg (tTup (tCons (tC (.str "kind")) (tCons (tCB (rStrOwn C (spKstr C)) (tCons (tUp fun σZ HZ Q => σZ[0]? = some (some (.ref f)) ∧ HZ c' = some (LamX.CodeO c' q) ∧ tl Ech HZ Q) tNil)) tNil))) (gName 1) D σ H)
      rfl rfl hnd (fun W pn xe tk _ => ?_)
      (.cons (i := 2) rfl rfl ⟨rfl, by decide, .inl TF.gT⟩ (fun a oe cls d pn hz hf => pss_one (ps_set (i := 1) hnd rfl (by first | exact Or.inl rfl | exact Or.inr rfl) (pe_tup (pa_cons pe_str (pa_cons (pe_xf TF.xT TF.nT hz hf (pv 2)) pa_nil)))))
      (.cons (i := 2) rfl rfl ⟨rfl, by decide, .inl TF.gF⟩ (fun a oe cls d pn hz hf => pss_one (ps_set (i := 1) hnd rfl (by first | exact Or.inl rfl | exact Or.inr rfl) (pe_tup (pa_cons pe_str (pa_cons (pe_xf TF.xF TF.nF hz hf (pv 2)) pa_nil)))))
      (.cons (i := 2) rfl rfl ⟨rfl, by decide, .inl TF.gX⟩ (fun a oe cls d pn hz hf => pss_one (ps_set (i := 1) hnd rfl (by first | exact Or.inl rfl | exact Or.inr rfl) (pe_tup (pa_cons pe_str (pa_cons (pe_xf TF.xX TF.nX hz hf (pv 2)) pa_nil)))))
      (.stop _))))) (pss_one (ps_ret (pv 1))), ?_⟩
  · refine ⟨fun pins s' σ H' D I h' => ?_⟩
    obtain ⟨Ech, hW, h'⟩ := h'
    refine PSs.run (X := ((cxOf C8.CX0 X.prog X.w X.K X.mg X.base N_told "_law_told" (defScope s_told) g cdg X.A X.stack s H C8.E0).nox.tr pn xe)) (t := tAsg (tTup (tCons (tC (.str "kind")) (tCons (tCB (rStrOwn C (spKstr C)) (tCons (tUp fun σZ HZ Q => σZ[0]? = some (some (.ref f)) ∧ HZ c' = some (LamX.CodeO c' q) ∧ tl Ech HZ Q) tNil)) tNil))) (gName 1)) ?_ pins s' σ H' D I h'
    have act1 := fun p1 p2 => pe_up (act W pn xe Ech p1 p2 tk hW)
    exact pss_one (ps_set (i := 1) hnd rfl (by first | exact Or.inl rfl | exact Or.inr rfl) (pe_tup (pa_cons pe_str (pa_cons (pe_callTy (call_strOwn (X := ((cxOf C8.CX0 X.prog X.w X.K X.mg X.base N_told "_law_told" (defScope s_told) g cdg X.A X.stack s H C8.E0).nox.tr pn xe)) Fs hr2 hs hf hb) (by rfl) mstr (by decide +kernel) (pa_cons (act1 _ _) pa_nil)) pa_nil))))
  · refine ⟨fun cls d H1 => HeardX CT "turns" cls d H1 Q ∨ HeardX CF "flag" cls d H1 Q ∨ HeardX CX "text" cls d H1 Q, fun cls d σ' H1 e hl => ?_, _, ⟨rfl, hc, h⟩, ?_⟩
    · obtain ⟨s0, s1, s2, rfl⟩ : ∃ s0 s1 s2, σ' = [s0, s1, s2] := by
        match σ', hl with
        | [s0, s1, s2], _ => exact ⟨s0, s1, s2, rfl⟩
      rcases e with ⟨rfl, dd, v, rfl, ed, q⟩ | ⟨rfl, dd, v, rfl, ed, q⟩ | ⟨rfl, dd, v, rfl, ed, q⟩
      · exact ⟨true, TF.tt, fun _ a na => ⟨_, rfl, rfl, rfl, dd, _, v, rfl, ed, rfl, Nat.le_of_ble_eq_true rfl, fun T nT => ⟨_, rfl, q T nT⟩⟩, (fun z => Bool.noConfusion z)⟩
      · exact ⟨false, TF.ft, (fun z => Bool.noConfusion z), fun _ => ⟨true, TF.ff, fun _ a na => ⟨_, rfl, rfl, rfl, dd, _, v, rfl, ed, rfl, Nat.le_of_ble_eq_true rfl, fun T nT => ⟨_, rfl, q T nT⟩⟩, (fun z => Bool.noConfusion z)⟩⟩
      · exact ⟨false, TF.xt, (fun z => Bool.noConfusion z), fun _ => ⟨false, TF.xf, (fun z => Bool.noConfusion z), fun _ => ⟨true, TF.xx, fun _ a na => ⟨_, rfl, rfl, rfl, dd, _, v, rfl, ed, rfl, Nat.le_of_ble_eq_true rfl, fun T nT => ⟨_, rfl, q T nT⟩⟩, (fun z => Bool.noConfusion z)⟩⟩⟩
    · rintro v H1 ⟨a, z, b, rfl, ka, hz, q1⟩
      obtain ⟨dx, e⟩ := id ka
      exact ⟨a, dx, _, rfl, e, a, z, b, rfl, ka, hz, _, rfl, Nat.le_of_ble_eq_true rfl, fun T nT => ⟨_, rfl, q1 T nT⟩⟩
end
end L2.K2
set_option Elab.async false
set_option linter.all false
set_option maxRecDepth 100000
set_option maxHeartbeats 8000000
namespace L2.K2
open PySem PySem.Spec PyProof.Rows L2.Tb
abbrev s_line : Stmt := top 26
abbrev N_line : List Str := ["_law_pair"]
theorem sc_line : FnScope N_line ["_law_pair"] (defScope s_line) := ⟨rfl, rfl, rfl, by decide +kernel, rfl, by decide +kernel, by decide +kernel⟩
def lineS (z : Str) (b : Bool) : Str := cond b ("calm " : Str) ("" : Str) ++ z
def spLine (K : PySem.W.Frag) : Sp := fun vs H Q _ => ∃ (t : Addr) (z : Str) (b : Bool), vs = [.ref t] ∧ PairAt H t (z, b) ∧ z.length ≤ 1000 ∧ Q (.str (lineS z b)) H
theorem line_kind : ∀ d ∈ pairD, lineS d.1 d.2 = kindS d.1 d.2 := by decide +kernel
section
variable {P : Program} {w : World} {K : PySem.W.Frag} {mg : Str → Option Value} {base : Heap} {f : Addr} {fd : FuncData}
theorem c_line (F : FnP K "_law_line" s_line f fd) (hm : mg "_law_line" = some (.ref f)) : Cal P w K mg base 1 "_law_line" (spLine K) := by
  have hnd := sc_line.nd
  refine cal_mk F hm sc_line (fun _ _ _ _ _ _ us hl => match us, hl with | [_], _ => rfl) (fun vs H Q E h => ?_) (fun cdv A outer s H vs Q E hr h => ?_)
  · obtain ⟨t, z, b, rfl, _⟩ := h
    rfl
  · obtain ⟨t, z, b, rfl, ht, hz, q⟩ := h
    refine ⟨_, (pss_one (ps_ret (pe_op op_add_str (pe_ifExp (pt_val (pe_ix ix_tup (pv 0) pe_int (fun _ _ => rfl))) pe_str pe_str) (pe_ix ix_tup (pv 0) pe_int (fun _ _ => rfl))))), ?_⟩
    have bound : ∀ y : Str, y.length ≤ 5 → y.length + z.length ≤ sizeLine := fun y h => by
      rw [sizeLine_eq]
      omega
    refine ⟨_, rfl, t, [.str z, .bl b], 1, _, rfl, rfl, SqT.of ht, rfl, b, rfl, ?_⟩
    cases b with
    | true => exact iteT2 rfl ⟨_, rfl, t, [.str z, .bl true], 0, _, rfl, rfl, SqT.of ht, rfl, _, _, rfl, rfl, bound _ (by decide +kernel), q⟩
    | false => exact iteN2 rfl ⟨_, rfl, t, [.str z, .bl false], 0, _, rfl, rfl, SqT.of ht, rfl, _, _, rfl, rfl, bound _ (by decide +kernel), q⟩
end
end L2.K2
set_option Elab.async false
set_option linter.all false
set_option maxRecDepth 100000
set_option maxHeartbeats 8000000
namespace L2.K2
open PySem PySem.Spec PyProof.Rows L2.Tb
abbrev s_kr : Stmt := top 28
abbrev N_kinds_right : List Str := ["_law_made", "_law_word", "_law_flag", "_law_mine", "_law_line_here", "_law_heard", "_law_mate", "_law_j", "_law_k"]
abbrev s_kinds_right : Stmt := s_kr
theorem sc_kinds_right : FnScope N_kinds_right [] (defScope s_kr) := ⟨rfl, rfl, rfl, by decide +kernel, rfl, by decide +kernel, by decide +kernel⟩
abbrev kps : List Str := ["self", "turns", "calm"]
/-- all that the head says of Kind, as it is called -/
structure KiK (P : Program) (w : World) (K : PySem.W.Frag) (mg : Str → Option Value) (base : Heap) (C dL CT CF CX : Addr) (es : Array DictEntry) (n : Nat) : Prop where
  mstr : mg "str" = none
  kf : KiF P w K mg base C dL CT CF es n
  kg : KiG K w mg C dL
  mkr : ∃ fi fdi, Mk K C fi ∧ FnOk P w K mg base (L2.CX P w) 3 fi fdi kps (spKinit K C CT CF) ∧ KBn K fdi kps 2 ["calm"] (fun us ws => us ++ ws) (fun us ws => us ++ ws) ∧ KBn K fdi kps 1 ["turns", "calm"] (fun us ws => us ++ ws) (fun us ws => us ++ ws) ∧
    KBn K fdi kps 1 ["calm", "turns"] (fun us ws => us ++ ws.reverse) (fun us ws => us ++ ws.reverse) ∧ (∃ ds, Vals [V.bl false] ds ∧ Binds K fdi kps ds) ∧ (∃ dv, KBn K fdi kps 1 ["turns"] (fun us ws => us ++ (ws ++ dv)) (fun us ws => us ++ (ws ++ [.bl false])))
  turns : ∃ p g fd, PropOf K C "turns" p g ∧ FnOk P w K mg base L2.CX0 1 g fd ["self"] (spKturns C) ∧ Binds K fd ["self"] []
  calm : ∃ p g fd, PropOf K C "calm" p g ∧ FnOk P w K mg base L2.CX0 1 g fd ["self"] (spKcalm C) ∧ Binds K fd ["self"] []
  lot : ∃ p g fd, PropOf K C "lot" p g ∧ FnOk P w K mg base L2.CX0 1 g fd ["self"] (spKlot K C) ∧ Binds K fd ["self"] []
  str : ∃ f fd, PySem.W.findIn K (.ref C) "__str__" = some (some (.ref f)) ∧ PySem.W.isFn K (.ref f) = true ∧ FnOk P w K mg base L2.CX0 1 f fd ["self"] (spKstr C) ∧ Binds K fd ["self"] []
  eq : ∃ f fd, PySem.W.findIn K (.ref C) "__eq__" = some (some (.ref f)) ∧ PySem.W.isFn K (.ref f) = true ∧ FnOk P w K mg base L2.CX0 1 f fd ["self", "other"] (spKeq K C) ∧ Binds K fd ["self", "other"] []
  ne : PySem.W.findIn K (.ref C) "__ne__" = some (some (.builtin "object.__ne__"))
  rd : ∃ mc p g fd, ClX.CRead K C mc ∧ ClX.CMet K C mc "read" p g ∧ FnOk P w K mg base (L2.CX P w) 5 g fd ["cls", "text"] (spKread K C CX) ∧ FnR P w K mg base (L2.CX P w) 5 g (spKread K C CX) ∧
    ∀ (sh : Shared) (zs : List Value), zs.length = (["text"] : List Str).length → BindsTo sh fd ⟨[.ref C], (["text"] : List Str).zip zs⟩ ((["cls", "text"] : List Str).zip (Value.ref C :: zs))
section
variable {P : Program} {w : World} {K : PySem.W.Frag} {mg : Str → Option Value} {base : Heap} {f : Addr} {fd : FuncData} {C dL CT CF CX : Addr} {es : Array DictEntry} {n : Nat} {A : Around}
theorem made_ok {H : Hp} {z : Str} {b : Bool} {Qf : VK} {E : XK} {x dx : Addr} (hz : wordsD.contains z = true) (hx : H x = none) (hdx : H dx = none) (q : ∀ H', Same H H' → KindAt C H' x z b → Qf .non H') :
    spKinit K C CT CF [.ref x, .str z, .bl b] (upd (upd H dx (.own x)) x (.ins C dx [])) Qf E := by
  refine ⟨x, dx, .str z, .bl b, rfl, upd_same, .inl ⟨z, b, rfl, hz, rfl, q _ (fun c o h => ?_) ⟨dx, upd_same⟩⟩⟩
  rw [upd_ne (ne_of_none h hx), upd_ne (ne_of_none h hx), upd_ne (ne_of_none h hx), upd_ne (ne_of_none h hdx)]
  exact h
theorem pair_word : ∀ d ∈ pairD, wordsD.contains d.1 = true := by decide +kernel
theorem pair_len : ∀ d ∈ pairD, d.1.length ≤ 1000 := by decide +kernel
theorem paired_nth {α β : Type} {R : α → β → Prop} : ∀ {xs : List α} {ys : List β} {i : Nat} {x : α}, Paired R xs ys → xs[i]? = some x → ∃ y, ys[i]? = some y ∧ R x y
  | _, _, 0, _, .cons r _, h => ⟨_, rfl, by cases h; exact r⟩
  | _, _, i + 1, _, .cons _ t, h => paired_nth (i := i) t (by simpa using h) |> fun ⟨y, e, r⟩ => ⟨y, by simpa using e, r⟩
  | _, _, _, _, .nil, h => by simp at h
theorem pair_at {H : Hp} {ts : List Addr} {i : Nat} {x : V} (p : Paired (PairAt H) ts pairD) (hx : (ts.map V.ref)[i]? = some x) : ∃ t d, x = .ref t ∧ pairD[i]? = some d ∧ PairAt H t d := by
  rw [List.getElem?_map] at hx
  obtain ⟨t, e, rfl⟩ := Option.map_eq_some_iff.mp hx
  obtain ⟨d, e2, r⟩ := paired_nth p e
  exact ⟨t, d, rfl, e2, r⟩
def turnD (t : Turn) : PyData := .tuple [.int t.1, .int t.2.1, .int t.2.2]
def heardD (d : Str × Bool) : PyData := .list [.str d.1, .bool d.2, .tuple ((lotOf d.1).map turnD), .str (kindS d.1 d.2)]
theorem told_ok : ∀ d ∈ pairD, (heardD d).showable = true ∧ (heardD d).hasDict = false ∧ (heardD d).depth ≤ 60 ∧ (heardD d).shown.length ≤ sizeLine := fun d hd => by
  have h : ∀ d ∈ pairD, (heardD d).showable = true ∧ (heardD d).hasDict = false ∧ (heardD d).depth ≤ 60 ∧ (heardD d).shown.length ≤ 1000 := by decide +kernel
  obtain ⟨h1, h2, h3, h4⟩ := h d hd
  exact ⟨h1, h2, h3, Nat.le_trans h4 (by rw [sizeLine_eq]; decide)⟩
theorem dp_turns {H : Hp} : ∀ {ts : List Addr} {lot : List Turn}, Paired (fun t u => SqT K H t (turnV u)) ts lot → DpAll K H (ts.map V.ref) (lot.map turnD)
  | _, _, .nil => .nil
  | _, _, .cons r t => .cons (.tup r (.cons (.int _) (.cons (.int _) (.cons (.int _) .nil)))) (dp_turns t)
theorem dp_lotK {H : Hp} {l : Addr} {lot : List Turn} (h : LotK K l lot) : Dp K H (.ref l) (.tuple (lot.map turnD)) := by
  obtain ⟨ts, h1, h2⟩ := h
  exact .tup (h1 H) (dp_turns (paired_imp (fun _ _ e => e H) h2))
theorem dp_lotT {H : Hp} {l : Addr} {ts : List Addr} {lot : List Turn} (h : H l = some (.tup (ts.map V.ref))) (p : Paired (fun t u => H t = some (.tup (turnV u))) ts lot) : Dp K H (.ref l) (.tuple (lot.map turnD)) :=
  .tup (SqT.of h) (dp_turns (paired_imp (fun _ _ e => SqT.of e) p))
theorem dp_heard {H : Hp} {l lk : Addr} {d : Str × Bool} (h : H l = some (.lst [.str d.1, .bl d.2, .ref lk, .str (kindS d.1 d.2)])) (hk : Dp K H (.ref lk) (.tuple ((lotOf d.1).map turnD))) : Dp K H (.ref l) (heardD d) :=
  .lst (SqL.of h) (.cons (.str _) (.cons (.bl _) (.cons hk (.cons (.str _) .nil))))
theorem lots_get {H : Hp} {kvs : List (Key × V)} {z : Str} (hz : wordsD.contains z = true) (h : LotsAt H kvs) : ∃ ll ts, valV kvs (.inr z) = some (.ref ll) ∧ H ll = some (.lst (ts.map V.ref)) ∧ Paired (fun t u => H t = some (.tup (turnV u))) ts (lotOf z) := by
  have hl : lotD.lookup z = some (lotOf z) := (show ∀ z ∈ wordsD, lotD.lookup z = some (lotOf z) by decide +kernel) z (List.contains_iff_mem.mp hz)
  unfold LotsAt at h
  generalize lotD = ds at h hl
  induction h with
  | nil => cases hl
  | @cons kv d kvs ds r _ ih =>
    obtain ⟨e, l, e2, ts, h1, h2⟩ := r
    by_cases q : z = d.1
    · have e3 : lotOf z = d.2 := by
        have : (d :: ds).lookup z = some d.2 := by
          obtain ⟨d1, d2⟩ := d
          simp only [List.lookup]
          rw [show (z == d1) = true from beq_iff_eq.mpr q]
        rw [this] at hl
        exact (Option.some.inj hl).symm
      refine ⟨l, ts, ?_, h1, by rw [e3]; exact h2⟩
      rw [valV_pos (by rw [e, q]), e2]
    · have hl2 : ds.lookup z = some (lotOf z) := by
        obtain ⟨d1, d2⟩ := d
        simp only [List.lookup] at hl
        rw [show (z == d1) = false from beq_eq_false_iff_ne.mpr q] at hl
        exact hl
      obtain ⟨l3, ts3, h3, h4⟩ := ih hl2
      refine ⟨l3, ts3, ?_, h4⟩
      rw [← h3]
      have ne : ¬ kv.1 = (.inr z : Key) := fun c => q (by rw [e] at c; injection c with c; exact c.symm)
      simp [valV, List.find?_cons, ne]
theorem read_ok : ∀ d ∈ pairD, offCalm (kindS d.1 d.2) = d.1 ∧ (kindS d.1 d.2).length ≤ 10000 ∧ (!decide (V.str (offCalm (kindS d.1 d.2)) = V.str (kindS d.1 d.2))) = d.2 := by decide +kernel
theorem nf_ty {T : String} (h : (fastBuiltinMro T).map (·.contains (.ref C)) = some false) : PySem.W.notFirst K C (.type T) = true := by
  have e : PySem.W.subIn K (.type T) (.ref C) = some false := h
  simp [PySem.W.notFirst, e]
theorem nf_str : PySem.W.notFirst K C (.type "str") = true := nf_ty (by
  rw [show fastBuiltinMro "str" = some [.type "str", .type "object"] by decide +kernel]
  simp)
theorem nf_list : PySem.W.notFirst K C (.type "list") = true := nf_ty (by
  rw [show fastBuiltinMro "list" = some [.type "list", .type "object"] by decide +kernel]
  simp)
theorem nf_self : PySem.W.notFirst K C (.ref C) = true := by simp [PySem.W.notFirst]
theorem kind_at {H : Hp} {as : List Addr} {i : Nat} {x : V} (p : Paired (fun a d => KindAt C H a d.1 d.2) as pairD) (hx : (as.map V.ref)[i]? = some x) : ∃ a d, x = .ref a ∧ pairD[i]? = some d ∧ KindAt C H a d.1 d.2 := by
  rw [List.getElem?_map] at hx
  obtain ⟨t, e, rfl⟩ := Option.map_eq_some_iff.mp hx
  obtain ⟨d, e2, r⟩ := paired_nth p e
  exact ⟨t, d, rfl, e2, r⟩
theorem pair_dec {j k : Nat} {d e : Str × Bool} (hj : pairD[j]? = some d) (hk : pairD[k]? = some e) : (decide (d.1 = e.1) && decide (d.2 = e.2)) = decide (k = j) := by
  have h : ∀ j, j < 12 → ∀ k, k < 12 → ∀ d ∈ pairD[j]?, ∀ e ∈ pairD[k]?, (decide (d.1 = e.1) && decide (d.2 = e.2)) = decide (k = j) := by decide +kernel
  exact h j (List.getElem?_eq_some_iff.mp hj).1 k (List.getElem?_eq_some_iff.mp hk).1 d hj e hk
theorem dp_map {H : Hp} (g : Nat → Bool) : ∀ xs : List Nat, DpAll K H (xs.map fun j => V.bl (g j)) (xs.map fun j => PyData.bool (g j))
  | [] => .nil
  | x :: xs => .cons (.bl _) (dp_map g xs)
def boolsD (g : Nat → Bool) : PyData := .list ((List.range 12).map fun k => .bool (g k))
theorem bools_eq : ∀ j, j < 12 → SeqAt.shaped (boolsD fun k => decide (k = j)) = true ∧ PyData.eqv (boolsD fun k => decide (k = j)) (boolsD fun k => decide (k = j)) = true := by decide +kernel
theorem bools_ne : ∀ j, j < 12 → SeqAt.shaped (boolsD fun k => !decide (k = j)) = true ∧ PyData.eqv (boolsD fun k => !decide (k = j)) (boolsD fun k => !decide (k = j)) = true := by decide +kernel
theorem r_kinds (T : Bt mg) (kk : KiK P w K mg base C dL CT CF CX es n) (nk : PySem.W.kitOne K (.type "str") (.ref C) = some false ∧ PySem.W.kitOne K (.type "list") (.ref C) = some false) (F : FnP K "_law_kinds_right" s_kr f fd) (hroom : Room 8 A) (hg : A.guards = some []) (k_lots : Cal P w K mg base 1 "_law_lots" spLots) (k_pairs : Cal P w K mg base 2 "_law_pairs" spPairs)
    (k_line : Cal P w K mg base 1 "_law_line" (spLine K)) : RunsAt P w K mg base f fd [] (fun vs H Q _ => vs = [] ∧ ∀ H' : Hp, Same H H' → Q (.bl true) H') A := by
  have hnd := sc_kinds_right.nd
  obtain ⟨mstr, KF, KG, ⟨fi, fdi, KM, Fi, B1, B2, B3, ⟨ds4, V4, B4⟩, dv5, B5⟩, ⟨pt, gt, fdt, PT, Ft, Bt⟩, ⟨pc, gc, fdc, PC, Fc, Bc⟩, ⟨pl, gl, fdl, PL, Fl, Bl⟩, ⟨fs, fds, hs, hsf, Fs, Bs⟩, ⟨fe, fde, he, hef, Fe, Be⟩, hne, ⟨mcr, pr, gr, fdr, RC, RM, Fr, FR, BR⟩⟩ := kk
  refine runs_body F sc_kinds_right hroom fun cdv outer s H vs Q E hr q => ?_
  obtain ⟨rfl, q⟩ := q
  have hg2 : (A.deeper (envOfC "_law_kinds_right" (defScope s_kr) s.heap.objs.size f cdv)).guards = some [] := hg
  refine ⟨_, PSs.nox (pss_cons (ps_set (i := 0) hnd rfl (by first | exact Or.inl rfl | exact Or.inr rfl) (pe_lst pa_nil))
      (pss_cons (ps_for PassesOwn.never (by rfl) (pi_list (pe_cal0 k_pairs hr (by omega) (by rfl))) (pg_tup (by rfl) (pgs_cons (pg_name (i := 1) hnd rfl (by first | exact Or.inl rfl | exact Or.inr rfl)) (pgs_cons (pg_name (i := 2) hnd rfl (by first | exact Or.inl rfl | exact Or.inr rfl)) pgs_nil)))
      (pss_cons (ps_set (i := 3) hnd rfl (by first | exact Or.inl rfl | exact Or.inr rfl) (pe_makeK KM Fi (hr.mono (by omega)) (by rfl) KF.mgC B1 pass_none (pa_cons (pv 1) pa_nil) (pk_cons (pv 2) pk_nil)))
      (pss_cons (ps_set (i := 4) hnd rfl (by first | exact Or.inl rfl | exact Or.inr rfl) (pe_cal k_line hr (by omega) (by rfl) (pa_cons (pe_tup (pa_cons (pv 1) (pa_cons (pv 2) pa_nil))) pa_nil)))
      (pss_cons (ps_set (i := 5) hnd rfl (by first | exact Or.inl rfl | exact Or.inr rfl) (pe_lst (pa_cons (pe_prop (E := L2.E0) (pv 3) KF.cls PT Ft (hr.mono (by omega)) Bt .nil (fun _ _ _ _ _ _ _ h => h.elim) (by rfl)) (pa_cons (pe_prop (E := L2.E0) (pv 3) KF.cls PC Fc (hr.mono (by omega)) Bc .nil (fun _ _ _ _ _ _ _ h => h.elim) (by rfl)) (pa_cons (pe_prop (E := L2.E0) (pv 3) KF.cls PL Fl (hr.mono (by omega)) Bl .nil (fun _ _ _ _ _ _ _ h => h.elim) (by rfl)) (pa_cons (pe_callTy (call_strOwn Fs (hr.mono (by omega)) hs hsf Bs) (by rfl) mstr (by decide +kernel) (pa_cons (pv 3) pa_nil)) pa_nil))))))
      (pss_cons (ps_if (pt_cmpR op_ne (pe_callB (call_reprD hg2 hr.units) (by rfl) T.m_repr (by decide +kernel) (pa_cons (pv 5) pa_nil)) (pe_callB (call_reprD hg2 hr.units) (by rfl) T.m_repr (by decide +kernel) (pa_cons (pe_lst (pa_cons (pv 1) (pa_cons (pv 2) (pa_cons (pe_callTy call_tuple_of (by rfl) T.m_tuple (by decide +kernel) (pa_cons (pe_dget (Nat.lt_of_le_of_lt (Nat.add_le_add_left (by decide) _) hr.units) (pe_cal0 k_lots hr (by omega) (by rfl)) (pv 1) (fun _ _ => rfl)) pa_nil)) (pa_cons (pv 4) pa_nil))))) pa_nil)) (nomark _))
      (pss_one (ps_ret pe_bl))
      pss_nil)
      (pss_cons (ps_for PassesOwn.never (by rfl) (pi_list (pe_lst (pa_cons (pe_makeK0 KM Fi (hr.mono (by omega)) (by rfl) KF.mgC B2 pass_none (pk_cons (pv 1) (pk_cons (pv 2) pk_nil))) (pa_cons (pe_makeK0 KM Fi (hr.mono (by omega)) (by rfl) KF.mgC B3 pass_none (pk_cons (pv 2) (pk_cons (pv 1) pk_nil))) (pa_cons (ClX.pe_cmeth (pe_glob (v := .ref C) (by rfl) KF.mgC rfl) RC RM FR (hr.mono (by omega)) pass_none (pa_cons (pv 4) pa_nil)) (pa_cons (pe_cmethK (pe_glob (v := .ref C) (by rfl) KF.mgC rfl) RC RM Fr (hr.mono (by omega)) pass_none (pk_cons (pv 4) pk_nil) rfl BR) pa_nil)))))) (pg_name (i := 6) hnd rfl (by first | exact Or.inl rfl | exact Or.inr rfl))
      (pss_one (ps_if (PW.pt (pw_or (pt_not (pt_val (pe_callB call_isi (by rfl) T.m_isinstance (by decide +kernel) (pa_cons (pv 6) (pa_cons (pe_glob (v := .ref C) (by rfl) KF.mgC rfl) pa_nil))))) (pw_or (pt_not (pt_cmpR (show OpR _ (compareOp .Eq) (rOwnEq K C (spKeq K C)) from op_ownEq Fe (hr.mono (show 1 ≤ 7 by decide)) he hef Be) (pv 6) (pv 3) (nomark _))) (pw_or (pt_cmpR (show OpR _ (compareOp .NotEq) (rOwnNe K C (spKeq K C)) from op_ownNe Fe (hr.mono (show 2 ≤ 7 by decide)) KG.ex.hm hne he hef Be) (pv 6) (pv 3) (nomark _)) (pw_or1 (pt_cmpR op_ne (pe_callTy (call_strOwn Fs (hr.mono (by omega)) hs hsf Bs) (by rfl) mstr (by decide +kernel) (pa_cons (pv 6) pa_nil)) (pv 4) (nomark _)))))))
      (pss_one (ps_ret pe_bl))
      pss_nil)))
      (pss_cons (ps_if (PW.pt (pw_and (pt_not (pt_val (pv 2))) (pw_and1 (PW.pt (pw_or (pt_cmpR (show OpR _ (compareOp .NotEq) (rOwnNe K C (spKeq K C)) from op_ownNe Fe (hr.mono (show 2 ≤ 7 by decide)) KG.ex.hm hne he hef Be) (pe_make KM Fi (hr.mono (by omega)) (by rfl) KF.mgC B4 V4 pass_none (pa_cons (pv 1) pa_nil)) (pv 3) (nomark _)) (pw_or1 (pt_cmpR op_ne (pe_callB call_repr_bl (by rfl) T.m_repr (by decide +kernel) (pa_cons (pe_prop (E := L2.E0) (pe_makeK0 KM Fi (hr.mono (by omega)) (by rfl) KF.mgC B5 pass_none (pk_cons (pv 1) pk_nil)) KF.cls PC Fc (hr.mono (by omega)) Bc .nil (fun _ _ _ _ _ _ _ h => h.elim) (by rfl)) pa_nil)) pe_str (nomark _))))))))
      (pss_one (ps_ret pe_bl))
      pss_nil)
      (pss_cons (ps_if (PW.pt (pw_or (pt_cmpR (show OpR _ (compareOp .Eq) (rOwnEq K C (spKeq K C)) from op_ownEq Fe (hr.mono (show 1 ≤ 7 by decide)) he hef Be) (pv 3) (pv 4) (nomark _)) (pw_or (pt_cmpR (show OpR _ (compareOp .Eq) (rOwnEq K C (spKeq K C)) from op_ownEq Fe (hr.mono (show 1 ≤ 7 by decide)) he hef Be) (pv 3) (pe_dget (Nat.lt_of_le_of_lt (Nat.add_le_add_left (by decide) _) hr.units) (pe_cal0 k_lots hr (by omega) (by rfl)) (pv 1) (fun _ _ => rfl)) (nomark _)) (pw_or1 (pt_not (pt_cmpR (show OpR _ (compareOp .NotEq) (rOwnNe K C (spKeq K C)) from op_ownNe Fe (hr.mono (show 2 ≤ 7 by decide)) KG.ex.hm hne he hef Be) (pv 3) (pv 1) (nomark _)))))))
      (pss_one (ps_ret pe_bl))
      pss_nil)
      (pss_one (ps_expr (pe_bm PySem.F.plainAttrs_list PySem.F.slot_list_append PySem.F.type_list_append mt_append (pv 0) (pa_cons (pv 3) pa_nil))))))))))))
      (pss_cons (ps_for PassesOwn.never (by rfl) (pi_enum (by rfl) T.m_enumerate (pa_cons (pv 0) pa_nil)) (pg_tup (by rfl) (pgs_cons (pg_name (i := 7) hnd rfl (by first | exact Or.inl rfl | exact Or.inr rfl)) (pgs_cons (pg_name (i := 3) hnd rfl (by first | exact Or.inl rfl | exact Or.inr rfl)) pgs_nil)))
      (pss_cons (ps_if (pt_cmpR (op_neD hr.units) (pe_lc (own := [("_law_mate", 6)]) (tt := tYes) (by rfl) hnd (pi_list (pv 0)) (blkOk_by (own := [("_law_mate", 6)]) (N := N_kinds_right) (sc := defScope s_kinds_right) (by decide +kernel)) (fun _ _ _ _ _ => (pg_name (i := 6) hnd rfl (by first | exact Or.inl rfl | exact Or.inr rfl))) (fun _ _ _ _ _ => pts_nil) (fun _ _ _ _ _ => (pe_cmpR (show OpR _ (compareOp .Eq) (rOwnEq K C (spKeq K C)) from op_ownEq Fe (hr.mono (show 1 ≤ 7 by decide)) he hef Be) (pv 3) (pv 6) (nomark _)))) (pe_lc (own := [("_law_k", 8)]) (tt := tYes) (by rfl) hnd (pi_range1 (by rfl) T.m_range (pa_cons pe_int pa_nil)) (blkOk_by (own := [("_law_k", 8)]) (N := N_kinds_right) (sc := defScope s_kinds_right) (by decide +kernel)) (fun _ _ _ _ _ => (pg_name (i := 8) hnd rfl (by first | exact Or.inl rfl | exact Or.inr rfl))) (fun _ _ _ _ _ => pts_nil) (fun _ _ _ _ _ => (pe_cmpR op_eq (pv 8) (pv 7) (nomark _)))) (nomark _))
      (pss_one (ps_ret pe_bl))
      pss_nil)
      (pss_one (ps_if (pt_cmpR (op_neD hr.units) (pe_lc (own := [("_law_mate", 6)]) (tt := tYes) (by rfl) hnd (pi_list (pv 0)) (blkOk_by (own := [("_law_mate", 6)]) (N := N_kinds_right) (sc := defScope s_kinds_right) (by decide +kernel)) (fun _ _ _ _ _ => (pg_name (i := 6) hnd rfl (by first | exact Or.inl rfl | exact Or.inr rfl))) (fun _ _ _ _ _ => pts_nil) (fun _ _ _ _ _ => (pe_cmpR (show OpR _ (compareOp .NotEq) (rOwnNe K C (spKeq K C)) from op_ownNe Fe (hr.mono (show 2 ≤ 7 by decide)) KG.ex.hm hne he hef Be) (pv 3) (pv 6) (nomark _)))) (pe_lc (own := [("_law_k", 8)]) (tt := tYes) (by rfl) hnd (pi_range1 (by rfl) T.m_range (pa_cons pe_int pa_nil)) (blkOk_by (own := [("_law_k", 8)]) (N := N_kinds_right) (sc := defScope s_kinds_right) (by decide +kernel)) (fun _ _ _ _ _ => (pg_name (i := 8) hnd rfl (by first | exact Or.inl rfl | exact Or.inr rfl))) (fun _ _ _ _ _ => pts_nil) (fun _ _ _ _ _ => (pe_cmpR op_ne (pv 8) (pv 7) (nomark _)))) (nomark _))
      (pss_one (ps_ret pe_bl))
      pss_nil))))
      (pss_one (ps_ret pe_bl))))), ?_⟩
  refine ⟨Nat.le_of_ble_eq_true rfl, fun l nl => ?_⟩
  have y0 := same_new (o := .lst []) nl
  have f0 := upd_same (H := H) (a := l) (o := .lst [])
  generalize upd H l (.lst []) = H1 at y0 f0 ⊢
  refine ⟨rfl, fun lp H2 ts s2 e2 p2 => ?_⟩
  have f2 := s2 _ _ f0
  have hl12 : ts.length = 12 := Paired.length p2
  have hne1 : lp ≠ l := fun z => by
    rw [z, f2] at e2
    injection e2 with e2
    injection e2 with e2
    have := congrArg List.length e2
    rw [List.length_map, hl12] at this
    cases this
  refine ⟨lp, rfl, ⟨_, SqL.of e2⟩, ?_⟩
  refine for_list (xs := ts.map V.ref) (fun i σ' H' => SameB l H2 H' ∧ (∃ as : List Addr, H' l = some (.lst (as.map V.ref)) ∧ Paired (fun a d => KindAt C H' a d.1 d.2) as (pairD.take i)) ∧ ∃ x1 x2 x3 x4 x5 x6 x7 x8, σ' = [some (.ref l), x1, x2, x3, x4, x5, x6, x7, x8])
    ⟨SameB.refl _ _, ⟨[], f2, .nil⟩, _, _, _, _, _, _, _, _, rfl⟩ (fun i σ' H' _ h => SqL.of (h.1 _ _ hne1 e2)) ?_ ?_
  · rintro i x σ' H' hx ⟨sb, ⟨as, fl, pk⟩, x1, x2, x3, x4, x5, x6, x7, x8, rfl⟩
    obtain ⟨t, d, rfl, hd, ht⟩ := pair_at p2 hx
    have hmem : d ∈ pairD := List.mem_of_getElem? hd
    have hz := pair_word d hmem
    have hlen := pair_len d hmem
    have htl : t ≠ l := fun z => by
      unfold PairAt at ht
      rw [z, f2] at ht
      cases ht
    have ht' : PairAt H' t d := sb _ _ htl ht
    refine ⟨t, [.str d.1, .bl d.2], rfl, SqT.of ht', rfl, _, _, rfl, _, _, rfl, rfl, ?_⟩
    refine ⟨_, rfl, _, rfl, rfl, rfl, fun a da n3 nda _ => made_ok (b := d.2) hz n3 nda fun H3 s3 k3 => ⟨rfl, ?_⟩⟩
    refine ⟨_, rfl, _, rfl, Nat.le_of_ble_eq_true rfl, fun t2 n2 => ⟨t2, d.1, d.2, rfl, upd_same, hlen, ?_⟩⟩
    have s4 := same_new (o := .tup [.str d.1, .bl d.2]) n2
    generalize upd H3 t2 (.tup [.str d.1, .bl d.2]) = H4 at s4 ⊢
    obtain ⟨dx, e4⟩ := k3.same s4
    refine ⟨_, rfl, a, dx, _, rfl, e4, a, d.1, d.2, rfl, ⟨dx, e4⟩, _, rfl, a, dx, _, rfl, e4, a, d.1, d.2, rfl, ⟨dx, e4⟩, _, rfl, a, dx, _, rfl, e4, a, d.1, d.2, rfl, ⟨dx, e4⟩, hz, fun lk LK => ⟨_, rfl, a, dx, _, rfl, e4, a, d.1, d.2, rfl, ⟨dx, e4⟩, hlen, _, rfl, Nat.le_of_ble_eq_true rfl, fun lh nh => ?_⟩⟩
    rw [line_kind d hmem]
    obtain ⟨g1, g2, g3, g4⟩ := told_ok d hmem
    have s5 := same_new (o := .lst [.str d.1, .bl d.2, .ref lk, .str (kindS d.1 d.2)]) nh
    have e5 := upd_same (H := H4) (a := lh) (o := .lst [.str d.1, .bl d.2, .ref lk, .str (kindS d.1 d.2)])
    generalize upd H4 lh (.lst [.str d.1, .bl d.2, .ref lk, .str (kindS d.1 d.2)]) = H5 at s5 e5 ⊢
    refine ⟨_, rfl, lh, heardD d, rfl, dp_heard e5 (dp_lotK LK), g1, g2, g3, g4, _, rfl, _, rfl, rfl, fun dl H6 kvs s6 e6 L6 => ?_⟩
    obtain ⟨ll, ts2, hv, el, pl2⟩ := lots_get hz L6
    refine ⟨_, rfl, dl, .ref ll, rfl, ?_, ll, _, rfl, .inl ⟨SqL.of el, fun tt nt => ?_⟩⟩
    · have z := DGet.k (k := .inr d.1) e6
      rw [hv] at z
      exact z
    have s7 := same_new (o := .tup (ts2.map V.ref)) nt
    have e7 := upd_same (H := H6) (a := tt) (o := .tup (ts2.map V.ref))
    generalize upd H6 tt (.tup (ts2.map V.ref)) = H7 at s7 e7 ⊢
    refine ⟨_, rfl, Nat.le_of_ble_eq_true rfl, fun lr nr => ?_⟩
    have s8 := same_new (o := .lst [.str d.1, .bl d.2, .ref tt, .str (kindS d.1 d.2)]) nr
    have e8 := upd_same (H := H7) (a := lr) (o := .lst [.str d.1, .bl d.2, .ref tt, .str (kindS d.1 d.2)])
    generalize upd H7 lr (.lst [.str d.1, .bl d.2, .ref tt, .str (kindS d.1 d.2)]) = H8 at s8 e8 ⊢
    refine ⟨lr, heardD d, rfl, dp_heard e8 (dp_lotT (s8 _ _ e7) (paired_imp (fun _ _ e => s8 _ _ (s7 _ _ e)) pl2)), g1, g2, g3, g4, rfl, ?_⟩
    rw [decide_eq_true rfl]
    refine ⟨_, rfl, iteF ?_⟩
    have hl8 : H8 l = some (.lst (as.map V.ref)) := s8 _ _ (s7 _ _ (s6 _ _ (s5 _ _ (s4 _ _ (s3 _ _ fl)))))
    have s38 := s3.trans (s4.trans (s5.trans (s6.trans (s7.trans s8))))
    have ka8 : KindAt C H8 a d.1 d.2 := ⟨dx, s8 _ _ (s7 _ _ (s6 _ _ (s5 _ _ e4)))⟩
    obtain ⟨r1, r2, r3⟩ := read_ok d hmem
    refine ⟨_, rfl, _, rfl, rfl, rfl, fun a1 b1 n1 m1 _ => made_ok (b := d.2) hz n1 m1 fun H9 s9 k9 => ⟨rfl, ?_⟩⟩
    refine ⟨_, rfl, _, rfl, rfl, rfl, fun a2 b2 n2 m2 _ => made_ok (b := d.2) hz n2 m2 fun H10 s10 k10 => ⟨rfl, ?_⟩⟩
    refine ⟨rfl, _, rfl, _, rfl, .inl ⟨_, rfl, r2, by rw [r1]; exact hz, fun a3 H11 s11 n11 k11 => ?_⟩⟩
    refine ⟨rfl, _, rfl, _, rfl, .inl ⟨_, rfl, r2, by rw [r1]; exact hz, fun a4 H12 s12 n12 k12 => ?_⟩⟩
    refine ⟨Nat.le_of_ble_eq_true rfl, fun lm nm => ?_⟩
    have k11' : KindAt C H11 a3 d.1 d.2 := by
      rw [r3, r1] at k11
      exact k11
    have k12' : KindAt C H12 a4 d.1 d.2 := by
      rw [r3, r1] at k12
      exact k12
    have s13 := same_new (o := .lst [.ref a1, .ref a2, .ref a3, .ref a4]) nm
    have e13 := upd_same (H := H12) (a := lm) (o := .lst [.ref a1, .ref a2, .ref a3, .ref a4])
    have k4s : ∀ x ∈ [a1, a2, a3, a4], KindAt C (upd H12 lm (.lst [.ref a1, .ref a2, .ref a3, .ref a4])) x d.1 d.2 := by
      intro x hx
      rcases List.mem_cons.mp hx with rfl | hx
      · exact ((((k9.same s10).same s11).same s12).same s13)
      rcases List.mem_cons.mp hx with rfl | hx
      · exact (((k10.same s11).same s12).same s13)
      rcases List.mem_cons.mp hx with rfl | hx
      · exact ((k11'.same s12).same s13)
      rcases List.mem_cons.mp hx with rfl | hx
      · exact (k12'.same s13)
      · cases hx
    have s8m := s9.trans (s10.trans (s11.trans (s12.trans s13)))
    generalize upd H12 lm (.lst [.ref a1, .ref a2, .ref a3, .ref a4]) = Hm at s13 e13 k4s s8m ⊢
    have tt : (decide (d.1 = d.1) && decide (d.2 = d.2)) = true := by simp
    refine ⟨lm, rfl, ⟨_, SqL.of e13⟩, ?_⟩
    refine for_list (xs := [.ref a1, .ref a2, .ref a3, .ref a4]) (fun _ σ2 G => Same Hm G ∧ ∃ x6', σ2 = [some (.ref l), some (.str d.1), some (.bl d.2), some (.ref a), some (.str (kindS d.1 d.2)), some (.ref lh), x6', x7, x8]) ⟨Same.refl _, _, rfl⟩ (fun _ _ _ _ h => SqL.of (h.1 _ _ e13)) ?_ ?_
    · rintro j y σ2 G hy ⟨sG, x6', rfl⟩
      obtain ⟨am, rfl, hm4⟩ : ∃ am, y = .ref am ∧ am ∈ [a1, a2, a3, a4] := by
        have z : ([a1, a2, a3, a4].map V.ref)[j]? = some y := hy
        rw [List.getElem?_map] at z
        obtain ⟨am, z1, z2⟩ := Option.map_eq_some_iff.mp z
        exact ⟨am, z2.symm, List.mem_of_getElem? z1⟩
      obtain ⟨dm, em⟩ := (k4s am hm4).same sG
      obtain ⟨da, ea⟩ := (ka8.same s8m).same sG
      refine ⟨_, rfl, _, _, _, _, _, rfl, .own C, .base (.ins em KF.cls KG.ex.ha KG.ex.hn KG.ex.ht KG.ex.hm), KG.self, _, rfl, iteF ?_⟩
      refine ⟨_, rfl, _, rfl, am, dm, _, _, rfl, em, .base (.ins ea KF.cls KG.ex.ha KG.ex.hn KG.ex.ht KG.ex.hm), nf_self, am, d.1, d.2, _, rfl, ⟨dm, em⟩, .inl ⟨a, d.1, d.2, rfl, ⟨da, ea⟩, ?_⟩⟩
      rw [tt]
      refine ⟨_, rfl, iteF ?_⟩
      refine ⟨_, rfl, _, rfl, am, dm, _, _, rfl, em, .base (.ins ea KF.cls KG.ex.ha KG.ex.hn KG.ex.ht KG.ex.hm), nf_self, am, d.1, d.2, _, rfl, ⟨dm, em⟩, .inl ⟨a, d.1, d.2, rfl, ⟨da, ea⟩, _, rfl, ?_⟩⟩
      rw [tt]
      refine ⟨_, rfl, iteF ?_⟩
      refine ⟨_, rfl, am, dm, _, rfl, em, am, d.1, d.2, rfl, ⟨dm, em⟩, hlen, _, rfl, _, rfl, rfl, ?_⟩
      rw [decide_eq_true rfl]
      exact ⟨_, rfl, iteF ⟨sG, _, rfl⟩⟩
    rintro σ2 G ⟨sG, x6', rfl⟩
    have kaG : KindAt C G a d.1 d.2 := (ka8.same s8m).same sG
    have hlG : G l = some (.lst (as.map V.ref)) := sG _ _ (s8m _ _ hl8)
    have s3G := s38.trans (s8m.trans sG)
    have key : ∀ G5 : Hp, Same G G5 → tSeq (tIfS (tOr (tTest (tOp (rOwnEq K C (spKeq K C)) (tVar 3) (tVar 4))) (tOr (tTest (tOp (rOwnEq K C (spKeq K C)) (tVar 3) (tDGet (tCall spLots [] E0 tNil) (tVar 1)))) (tNot (tTest (tOp (rOwnNe K C (spKeq K C)) (tVar 3) (tVar 1))))))
        (tRet (tC (V.bl false))) tNext) (tDrop (tBM K "list" rAppend (tVar 0) (tCons (tVar 3) tNil)))
        { nx := fun σ' H' => SameB l H2 H' ∧ (∃ as : List Addr, H' l = some (.lst (as.map V.ref)) ∧ Paired (fun a d => KindAt C H' a d.1 d.2) as (pairD.take (i + 1))) ∧ ∃ x1 x2 x3 x4 x5 x6 x7 x8, σ' = [some (.ref l), x1, x2, x3, x4, x5, x6, x7, x8], rt := Q }
        [some (.ref l), some (.str d.1), some (.bl d.2), some (.ref a), some (.str (kindS d.1 d.2)), some (.ref lh), x6', x7, x8] G5 := by
      intro G5 s5G
      obtain ⟨da, ea⟩ := kaG.same s5G
      refine ⟨_, rfl, _, rfl, a, da, _, _, rfl, ea, str_ty, nf_str, a, d.1, d.2, _, rfl, ⟨da, ea⟩, .inr ⟨_, str_ty, nk.1, ?_⟩⟩
      refine ⟨_, rfl, iteF ?_⟩
      refine ⟨_, rfl, rfl, fun dl G6 kvs s6 e6 L6 => ?_⟩
      obtain ⟨ll, ts2, hv, el, pl2⟩ := lots_get hz L6
      refine ⟨_, rfl, dl, .ref ll, rfl, ?_, ?_⟩
      · have z := DGet.k (k := .inr d.1) e6
        rw [hv] at z
        exact z
      refine ⟨a, da, _, _, rfl, s6 _ _ ea, .base (.lst el), nf_list, a, d.1, d.2, _, rfl, ⟨da, s6 _ _ ea⟩, .inr ⟨_, .base (.lst el), nk.2, ?_⟩⟩
      refine ⟨_, rfl, iteF ?_⟩
      refine ⟨_, rfl, _, rfl, a, da, _, _, rfl, s6 _ _ ea, str_ty, nf_str, a, d.1, d.2, _, rfl, ⟨da, s6 _ _ ea⟩, .inr ⟨_, str_ty, nk.1, _, rfl, ?_⟩⟩
      refine ⟨_, rfl, iteF ?_⟩
      have hl6 : G6 l = some (.lst (as.map V.ref)) := s6 _ _ (s5G _ _ hlG)
      have sAll := s3G.trans (s5G.trans s6)
      refine ⟨_, rfl, .inl ⟨rfl, _, SqL.of hl6⟩, _, rfl, l, _, _, rfl, rfl, hl6, ?_, ?_⟩
      · have h12 : pairD.length = 12 := rfl
        rw [List.length_map, Paired.length pk, List.length_take, sizeLine_eq, h12]
        omega
      have up : ∀ {c : Addr} {o : HO}, c ≠ l → G6 c = some o → upd G6 l (.lst (as.map V.ref ++ [.ref a])) c = some o := fun n e => by rw [upd_ne n]; exact e
      refine ⟨fun c o n e => up n (sAll _ _ (sb _ _ n e)), ⟨as ++ [a], by rw [upd_same, List.map_append]; rfl, ?_⟩, _, _, _, _, _, _, _, _, rfl⟩
      have kup : ∀ {c : Addr} {z : Str} {b : Bool}, KindAt C G6 c z b → KindAt C (upd G6 l (.lst (as.map V.ref ++ [.ref a]))) c z b := fun ⟨dc, ec⟩ => ⟨dc, up (fun z => by rw [z, hl6] at ec; cases ec) ec⟩
      rw [List.take_add_one, hd]
      exact paired_app (paired_imp (fun _ _ k => kup (k.same sAll)) pk) (.cons (kup ⟨da, s6 _ _ ea⟩) .nil)
    refine ⟨_, rfl, d.2, rfl, ?_⟩
    cases hb : d.2 with
    | true =>
      rw [hb] at key
      refine iteF ?_
      exact key G (Same.refl G)
    | false =>
      rw [hb] at key kaG
      obtain ⟨da, ea⟩ := id kaG
      refine iteT ?_
      refine ⟨_, rfl, fun c5 d5 n5 m5 _ => made_ok (b := false) hz n5 m5 fun G1 v1 w1 => ⟨rfl, ?_⟩⟩
      obtain ⟨d1, e1⟩ := id w1
      refine ⟨_, rfl, c5, d1, _, _, rfl, e1, .base (.ins (v1 _ _ ea) KF.cls KG.ex.ha KG.ex.hn KG.ex.ht KG.ex.hm), nf_self, c5, d.1, false, _, rfl, ⟨d1, e1⟩, .inl ⟨a, d.1, false, rfl, ⟨da, v1 _ _ ea⟩, _, rfl, ?_⟩⟩
      rw [show (decide (d.1 = d.1) && decide (false = false)) = true by simp]
      refine ⟨_, rfl, iteF ?_⟩
      refine ⟨_, rfl, rfl, rfl, fun c6 d6 n6 m6 _ => made_ok (b := false) hz n6 m6 fun G2 v2 w2 => ⟨rfl, ?_⟩⟩
      obtain ⟨d2, e2'⟩ := id w2
      refine ⟨c6, d2, _, rfl, e2', c6, d.1, false, rfl, ⟨d2, e2'⟩, false, rfl, rfl, ?_⟩
      rw [show decide (V.str (if false = true then ("True" : Str) else ("False" : Str)) = V.str ("False" : Str)) = true by decide +kernel]
      exact ⟨_, rfl, iteF (key G2 (v1.trans v2))⟩
  · rintro σ1 Ha ⟨sb, ⟨as, fl, pk⟩, x1, x2, x3, x4, x5, x6, x7, x8, rfl⟩
    rw [List.length_map, hl12, show pairD.take 12 = pairD from rfl] at pk
    refine ⟨_, rfl, l, _, rfl, SqL.of fl, ?_⟩
    refine for_it (walk_enum (xs := as.map V.ref)) (fun _ σ2 G => Same Ha G ∧ ∃ x1 x2 x3 x4 x5 x6 x7 x8, σ2 = [some (.ref l), x1, x2, x3, x4, x5, x6, x7, x8]) ⟨Same.refl _, _, _, _, _, _, _, _, _, rfl⟩ (fun _ _ G _ h => SqL.of (h.1 _ _ fl)) ?_ ?_
    · rintro j y σ2 Gp G' hj' ⟨sGp, x1, x2, x3, x4, x5, x6, x7, x8, rfl⟩ ⟨T', u, v, rfl, nT, rfl, hu, hv⟩
      injection hu with hu
      subst hu
      obtain ⟨aj, d, rfl, hd, kj⟩ := kind_at pk hv
      obtain ⟨dj', ej⟩ := id kj
      have hj : j < 12 := (List.getElem?_eq_some_iff.mp hd).1
      have sG := sGp.trans (same_new (o := .tup [.int (j : Nat), .ref aj]) nT)
      have eT := upd_same (H := Gp) (a := T') (o := .tup [.int (j : Nat), .ref aj])
      generalize upd Gp T' (.tup [.int (j : Nat), .ref aj]) = G at sG eT ⊢
      refine ⟨T', [.int (j : Nat), .ref aj], rfl, SqT.of eT, rfl, _, _, rfl, _, _, rfl, rfl, ?_⟩
      refine ⟨_, rfl, l, rfl, ⟨_, SqL.of (sG _ _ fl)⟩, fun D nD => ?_⟩
      refine lc_list (xs := as.map V.ref) (fun n H' => Same G H' ∧ H' D = some (.lst ((List.range n).map fun k => .bl (decide (k = j))))) ⟨same_new nD, upd_same⟩ (fun n H' _ h => SqL.of (h.1 _ _ (sG _ _ fl))) ?_ ?_
      · rintro k x G1 hx ⟨s1, e1⟩
        obtain ⟨am, dk, rfl, hdk, km⟩ := kind_at pk hx
        have sE := (sG.trans s1)
        obtain ⟨dm, em⟩ := km.same sE
        refine ⟨rfl, ?_⟩
        unfold tYes
        dsimp only
        rw [if_pos rfl]
        refine ⟨_, rfl, _, rfl, aj, dj', _, _, rfl, sE _ _ ej, .base (.ins em KF.cls KG.ex.ha KG.ex.hn KG.ex.ht KG.ex.hm), nf_self, aj, d.1, d.2, _, rfl, ⟨dj', sE _ _ ej⟩, .inl ⟨am, dk.1, dk.2, rfl, ⟨dm, em⟩, ?_⟩⟩
        rw [pair_dec hd hdk]
        refine ⟨_, e1, ?_, same_put nD s1, by rw [upd_same, List.range_succ, List.map_append]; rfl⟩
        have hk : k < 12 := by
          have := (List.getElem?_eq_some_iff.mp hdk).1
          exact this
        rw [List.length_map, List.length_range, sizeLine_eq]
        omega
      rintro G2 ⟨sA, eA⟩
      rw [List.length_map, show as.length = 12 from Paired.length pk] at eA
      refine ⟨12, rfl, by decide, by decide, fun D2 nD2 => ?_⟩
      refine lc_range (fun n H' => Same G2 H' ∧ H' D2 = some (.lst ((List.range n).map fun k => .bl (decide (k = j))))) ⟨same_new nD2, upd_same⟩ ?_ ?_
      · rintro k G1' hk ⟨s1, e1⟩
        refine ⟨rfl, ?_⟩
        unfold tYes
        dsimp only
        rw [if_pos rfl]
        refine ⟨_, rfl, _, rfl, rfl, _, e1, ?_, same_put nD2 s1, ?_⟩
        · rw [List.length_map, List.length_range, sizeLine_eq]
          have : k < 12 := hk
          omega
        · have z : decide (V.int (0 + (k : Int)) = V.int (j : Nat)) = decide (k = j) := decide_eq_decide.mpr ⟨fun h => by
            injection h with h
            omega, fun h => by rw [h, Int.zero_add]⟩
          rw [upd_same, List.range_succ, List.map_append, z]
          rfl
      rintro G3 ⟨sB, eB⟩
      refine ⟨boolsD fun k => decide (k = j), boolsD fun k => decide (k = j), .lst (SqL.of (sB _ _ eA)) (dp_map _ _), .lst (SqL.of eB) (dp_map _ _), (bools_eq j hj).1, (bools_eq j hj).1, ?_⟩
      rw [(bools_eq j hj).2]
      refine ⟨_, rfl, iteF ?_⟩
      have sG3 := sG.trans (sA.trans sB)
      refine ⟨_, rfl, l, rfl, ⟨_, SqL.of (sG3 _ _ fl)⟩, fun D nD => ?_⟩
      refine lc_list (xs := as.map V.ref) (fun n H' => Same G3 H' ∧ H' D = some (.lst ((List.range n).map fun k => .bl (!decide (k = j))))) ⟨same_new nD, upd_same⟩ (fun n H' _ h => SqL.of (h.1 _ _ (sG3 _ _ fl))) ?_ ?_
      · rintro k x G1 hx ⟨s1, e1⟩
        obtain ⟨am, dk, rfl, hdk, km⟩ := kind_at pk hx
        have sE := (sG3.trans s1)
        obtain ⟨dm, em⟩ := km.same sE
        refine ⟨rfl, ?_⟩
        unfold tYes
        dsimp only
        rw [if_pos rfl]
        refine ⟨_, rfl, _, rfl, aj, dj', _, _, rfl, sE _ _ ej, .base (.ins em KF.cls KG.ex.ha KG.ex.hn KG.ex.ht KG.ex.hm), nf_self, aj, d.1, d.2, _, rfl, ⟨dj', sE _ _ ej⟩, .inl ⟨am, dk.1, dk.2, rfl, ⟨dm, em⟩, _, rfl, ?_⟩⟩
        rw [pair_dec hd hdk]
        refine ⟨_, e1, ?_, same_put nD s1, by rw [upd_same, List.range_succ, List.map_append]; rfl⟩
        have hk : k < 12 := by
          have := (List.getElem?_eq_some_iff.mp hdk).1
          exact this
        rw [List.length_map, List.length_range, sizeLine_eq]
        omega
      rintro G4 ⟨sC, eC⟩
      rw [List.length_map, show as.length = 12 from Paired.length pk] at eC
      refine ⟨12, rfl, by decide, by decide, fun D2 nD2 => ?_⟩
      refine lc_range (fun n H' => Same G4 H' ∧ H' D2 = some (.lst ((List.range n).map fun k => .bl (!decide (k = j))))) ⟨same_new nD2, upd_same⟩ ?_ ?_
      · rintro k G1' hk ⟨s1, e1⟩
        refine ⟨rfl, ?_⟩
        unfold tYes
        dsimp only
        rw [if_pos rfl]
        refine ⟨_, rfl, _, rfl, rfl, _, e1, ?_, same_put nD2 s1, ?_⟩
        · rw [List.length_map, List.length_range, sizeLine_eq]
          have : k < 12 := hk
          omega
        · have z : decide (V.int (0 + (k : Int)) = V.int (j : Nat)) = decide (k = j) := decide_eq_decide.mpr ⟨fun h => by
            injection h with h
            omega, fun h => by rw [h, Int.zero_add]⟩
          rw [upd_same, List.range_succ, List.map_append, z]
          rfl
      rintro G5 ⟨sD, eD⟩
      refine ⟨boolsD fun k => !decide (k = j), boolsD fun k => !decide (k = j), .lst (SqL.of (sD _ _ eC)) (dp_map _ _), .lst (SqL.of eD) (dp_map _ _), (bools_ne j hj).1, (bools_ne j hj).1, ?_⟩
      rw [(bools_ne j hj).2]
      refine ⟨_, rfl, iteF ?_⟩
      exact ⟨sG3.trans (sC.trans sD), _, _, _, _, _, _, _, _, rfl⟩
    · rintro σ2 G ⟨sG, x1, x2, x3, x4, x5, x6, x7, x8, rfl⟩
      refine q G (fun b o e => ?_)
      have hbl : b ≠ l := ne_of_none e nl
      exact sG _ _ (sb _ _ hbl (s2 _ _ (y0 _ _ e)))
end
end L2.K2
set_option Elab.async false
set_option linter.all false
set_option maxRecDepth 100000
set_option maxHeartbeats 8000000
namespace L2.K2
open PySem PySem.Spec PyProof.Rows L2.Tb
abbrev s_sign : Stmt := top 22
abbrev N_sign : List Str := ["_law_purse_here", "_law_near", "_law_wide"]
theorem sc_sign : FnScope N_sign ["_law_purse_here", "_law_near"] (defScope s_sign) := ⟨rfl, rfl, rfl, by decide +kernel, rfl, by decide +kernel, by decide +kernel⟩
abbrev s_bent : Stmt := top 23
abbrev N_bent : List Str := ["_law_purse_here", "_law_line_here", "_law_near", "_law_way", "_law_at", "_law_mark", "_law_swapped"]
theorem sc_bent : FnScope N_bent ["_law_purse_here", "_law_line_here", "_law_near"] (defScope s_bent) := ⟨rfl, rfl, rfl, by decide +kernel, rfl, by decide +kernel, by decide +kernel⟩
def Okz (z : Str) : Prop := ∀ c ∈ z.cps.toList, c < 0x110000
theorem okz_app {a b : Str} (h1 : Okz a) (h2 : Okz b) : Okz (a ++ b) := fun c hc => by
  rw [PySem.Str.cps_append, Array.toList_append] at hc
  exact (List.mem_append.mp hc).elim (h1 c) (h2 c)
theorem okz_cut {a : Str} (h : Okz a) (lo hi : Option Int) : Okz (cutS a lo hi) := fun c hc => h c (List.mem_of_mem_drop (List.mem_of_mem_take hc))
theorem okz_sign {a : Str} {c : Nat} (h : Okz a) (hc : c ∈ a.cps.toList) : Okz ⟨#[c]⟩ := fun d hd => by
  rw [List.mem_singleton.mp (show d ∈ [c] from hd)]
  exact h c hc
theorem okz_iff {a : Str} : Okz a ↔ PySem.PyData.strOk a = true := by
  unfold PySem.PyData.strOk Okz
  rw [← Array.all_toList, List.all_eq_true]
  exact ⟨fun h c hc => decide_eq_true (h c hc), fun h c hc => of_decide_eq_true (h c hc)⟩
def spSign : Sp := fun vs H Q _ => ∃ (p : Addr) (y : Str), vs = [.ref p, .str y] ∧ Purse H p ∧ 0 < y.length ∧ y.length ≤ 1000 ∧ Okz y ∧ ∀ (c : Str) (H' : Hp), SameB p H H' → Purse H' p → c.length ≤ 1 → Okz c → Q (.str c) H'
def spBent : Sp := fun vs H Q _ => ∃ (p : Addr) (z y : Str), vs = [.ref p, .str z, .str y] ∧ Purse H p ∧ z.length ≤ 1000 ∧ 0 < y.length ∧ y.length ≤ 1000 ∧ Okz z ∧ Okz y ∧ ∀ (c : Str) (H' : Hp), SameB p H H' → Purse H' p → c.length ≤ 4000 → Okz c → Q (.str c) H'
theorem str_at {z : Str} {i : Int} (h0 : 0 ≤ i) (h1 : i < z.length) : ∃ c, atI z.cps.toList i = some c ∧ c ∈ z.cps.toList := by
  obtain ⟨k, rfl⟩ := Int.eq_ofNat_of_zero_le h0
  have hk : k < z.cps.toList.length := by
    have : (k : Int) < z.cps.size := h1
    rw [Array.length_toList]
    omega
  exact ⟨_, atI_nat (List.getElem?_eq_getElem hk), List.getElem_mem ..⟩
section
variable {P : Program} {w : World} {K : PySem.W.Frag} {mg : Str → Option Value} {base : Heap} {f : Addr} {fd : FuncData}
theorem c_sign (T : Bt mg) (F : FnP K "_law_sign" s_sign f fd) (hm : mg "_law_sign" = some (.ref f)) (k_draw : Cal P w K mg base 1 "_law_draw" spDraw) : Cal P w K mg base 2 "_law_sign" spSign := by
  have hnd := sc_sign.nd
  refine cal_mk F hm sc_sign (fun _ _ _ _ _ _ us hl => match us, hl with | [_, _], _ => rfl) (fun vs H Q E h => ?_) (fun cdv A outer s H vs Q E hr h => ?_)
  · obtain ⟨p, y, rfl, _⟩ := h
    rfl
  · obtain ⟨p, y, rfl, hp, h0, h1, oy, q⟩ := h
    refine ⟨_, (pss_cons (ps_set (i := 2) hnd rfl (by first | exact Or.inl rfl | exact Or.inr rfl) pe_str)
      (pss_cons (ps_set (i := 2) hnd rfl (by first | exact Or.inl rfl | exact Or.inr rfl) (pe_op op_add_str (pv 2) pe_str))
      (pss_cons (ps_if (pt_cmpR op_eq (pe_cal k_draw hr (by omega) (by rfl) (pa_cons (pv 0) (pa_cons pe_int pa_nil))) pe_int (nomark _))
      (pss_one (ps_ret (pe_ix ix_str (pv 1) (pe_cal k_draw hr (by omega) (by rfl) (pa_cons (pv 0) (pa_cons (pe_callB call_len_str (by rfl) T.m_len (by decide +kernel) (pa_cons (pv 1) pa_nil)) pa_nil))) (fun _ _ => rfl))))
      pss_nil)
      (pss_one (ps_ret (pe_ix ix_str (pv 2) (pe_cal k_draw hr (by omega) (by rfl) (pa_cons (pv 0) (pa_cons (pe_callB call_len_str (by rfl) T.m_len (by decide +kernel) (pa_cons (pv 2) pa_nil)) pa_nil))) (fun _ _ => rfl))))))), ?_⟩
    have hl : y.length ≤ sizeLine := by
      rw [sizeLine_eq]
      omega
    refine ⟨_, rfl, _, _, rfl, rfl, Nat.le_of_ble_eq_true rfl, _, rfl, p, 2, rfl, hp, by decide, by decide, fun d0 H1 a0 a1 s1 u1 => ⟨rfl, _, rfl, ite2 (fun _ => ?_) (fun _ => ?_)⟩⟩
    · refine ⟨_, rfl, _, rfl, _, rfl, y, rfl, hl, p, _, rfl, u1, by omega, by omega, fun d H2 b0 b1 s2 u2 => ?_⟩
      obtain ⟨c, hc, mc⟩ := str_at b0 b1
      exact ⟨y, d, c, rfl, rfl, hl, hc, q _ _ (s1.trans s2) u2 (Nat.le_refl _) (okz_sign oy mc)⟩
    · refine ⟨_, rfl, _, rfl, _, rfl, _, rfl, Nat.le_of_ble_eq_true rfl, p, _, rfl, u1, by decide +kernel, by decide +kernel, fun d H2 b0 b1 s2 u2 => ?_⟩
      obtain ⟨c, hc, mc⟩ := str_at b0 b1
      exact ⟨_, d, c, rfl, rfl, Nat.le_of_ble_eq_true rfl, hc, q _ _ (s1.trans s2) u2 (Nat.le_refl _) (okz_sign (okz_iff.mpr (by decide +kernel)) mc)⟩
theorem c_bent (T : Bt mg) (F : FnP K "_law_bent" s_bent f fd) (hm : mg "_law_bent" = some (.ref f)) (k_draw : Cal P w K mg base 1 "_law_draw" spDraw) (k_sign : Cal P w K mg base 2 "_law_sign" spSign) : Cal P w K mg base 3 "_law_bent" spBent := by
  have hnd := sc_bent.nd
  refine cal_mk F hm sc_bent (fun _ _ _ _ _ _ us hl => match us, hl with | [_, _, _], _ => rfl) (fun vs H Q E h => ?_) (fun cdv A outer s H vs Q E hr h => ?_)
  · obtain ⟨p, z, y, rfl, _⟩ := h
    rfl
  · obtain ⟨p, z, y, rfl, hp, hz, h0, h1, oz, oy, q⟩ := h
    refine ⟨_, (pss_cons (ps_par (i := 3) (j := 4) (by rfl) hnd rfl rfl (by decide) (by rfl) (by rfl) (pa_cons (pe_cal k_draw hr (by omega) (by rfl) (pa_cons (pv 0) (pa_cons pe_int pa_nil))) (pa_cons (pe_cal k_draw hr (by omega) (by rfl) (pa_cons (pv 0) (pa_cons (pe_op op_add (pe_callB call_len_str (by rfl) T.m_len (by decide +kernel) (pa_cons (pv 1) pa_nil)) pe_int) pa_nil))) pa_nil)) (by rfl))
      (pss_cons (ps_set (i := 5) hnd rfl (by first | exact Or.inl rfl | exact Or.inr rfl) (pe_cal k_sign hr (by omega) (by rfl) (pa_cons (pv 0) (pa_cons (pv 2) pa_nil))))
      (pss_cons (ps_if (PW.pt (pw_or (pt_cmpR op_eq (pv 3) pe_int (nomark _)) (pw_or1 (pt_cmpR op_eq (pv 4) (pe_callB call_len_str (by rfl) T.m_len (by decide +kernel) (pa_cons (pv 1) pa_nil)) (nomark _)))))
      (pss_one (ps_ret (pe_op op_add_str (pe_op op_add_str (pe_slice sl_str (pv 1) po_none (po_some (pv 4))) (pv 5)) (pe_slice sl_str (pv 1) (po_some (pv 4)) po_none))))
      pss_nil)
      (pss_cons (ps_if (pt_cmpR op_eq (pv 3) pe_int (nomark _))
      (pss_one (ps_ret (pe_op op_add_str (pe_slice sl_str (pv 1) po_none (po_some (pv 4))) (pe_slice sl_str (pv 1) (po_some (pe_op op_add (pv 4) pe_int)) po_none))))
      pss_nil)
      (pss_cons (ps_if (pt_cmpR op_eq (pv 3) pe_int (nomark _))
      (pss_one (ps_ret (pe_op op_add_str (pe_op op_add_str (pe_slice sl_str (pv 1) po_none (po_some (pv 4))) (pv 5)) (pe_slice sl_str (pv 1) (po_some (pe_op op_add (pv 4) pe_int)) po_none))))
      pss_nil)
      (pss_cons (ps_set (i := 6) hnd rfl (by first | exact Or.inl rfl | exact Or.inr rfl) (pe_op op_add_str (pe_slice sl_str (pv 1) (po_some (pe_op op_add (pv 4) pe_int)) (po_some (pe_op op_add (pv 4) pe_int))) (pe_ix ix_str (pv 1) (pv 4) (fun _ _ => rfl))))
      (pss_one (ps_ret (pe_op op_add_str (pe_op op_add_str (pe_slice sl_str (pv 1) po_none (po_some (pv 4))) (pv 6)) (pe_slice sl_str (pv 1) (po_some (pe_op op_add (pv 4) pe_int)) po_none)))))))))), ?_⟩
    have hl : z.length ≤ sizeLine := by
      rw [sizeLine_eq]
      omega
    have cl : ∀ lo hi, (cutS z lo hi).length ≤ 1000 := fun lo hi => by
      rw [C8.cutS_slice]
      exact Nat.le_trans (Txt.slice_le z lo hi) hz
    have two : ∀ {a b : Str} {n : Nat}, a.length ≤ n → b.length ≤ n → n ≤ 2000 → a.length + b.length ≤ sizeLine := fun ha hb hn => by
      rw [sizeLine_eq]
      omega
    refine ⟨_, rfl, p, 4, rfl, hp, by decide, by decide, fun w1 H1 a0 a1 s1 u1 => ⟨_, rfl, _, rfl, z, rfl, hl, _, _, rfl, rfl, p, _, rfl, u1, by omega, by omega, fun k H2 b0 b1 s2 u2 => ⟨_, _, rfl, _, rfl, _, rfl, p, y, rfl, u2, h0, h1, oy, fun c H3 s3 u3 hc oc => ?_⟩⟩⟩
    have sB := (s1.trans s2).trans s3
    have hc' : c.length ≤ 1000 := by omega
    have three : ∀ lo hi lo' hi', (cutS z lo hi ++ c ++ cutS z lo' hi').length ≤ 4000 ∧ (cutS z lo hi ++ c).length + (cutS z lo' hi').length ≤ sizeLine ∧ (cutS z lo hi).length + c.length ≤ sizeLine := fun lo hi lo' hi' => by
      have := cl lo hi
      have := cl lo' hi'
      rw [Str.length_append, Str.length_append, sizeLine_eq]
      omega
    refine ⟨_, rfl, rfl, _, rfl, ite2 (fun _ => iteT ?_) (fun _ => ?_)⟩
    · exact ⟨_, rfl, _, rfl, _, rfl, z, rfl, hl, _, rfl, _, _, rfl, rfl, (three _ _ none none).2.2, _, rfl, _, rfl, _, rfl, z, rfl, hl, _, _, rfl, rfl, (three _ _ _ _).2.1, q _ _ sB u3 (three _ _ _ _).1 (okz_app (okz_app (okz_cut oz _ _) oc) (okz_cut oz _ _))⟩
    refine ⟨_, rfl, _, rfl, z, rfl, hl, rfl, _, rfl, ite2 (fun _ => ?_) (fun hk => ?_)⟩
    · exact ⟨_, rfl, _, rfl, _, rfl, z, rfl, hl, _, rfl, _, _, rfl, rfl, (three _ _ none none).2.2, _, rfl, _, rfl, _, rfl, z, rfl, hl, _, _, rfl, rfl, (three _ _ _ _).2.1, q _ _ sB u3 (three _ _ _ _).1 (okz_app (okz_app (okz_cut oz _ _) oc) (okz_cut oz _ _))⟩
    refine ⟨_, rfl, rfl, _, rfl, ite2 (fun _ => ?_) (fun _ => ?_)⟩
    · exact ⟨_, rfl, _, rfl, _, rfl, z, rfl, hl, _, rfl, _, rfl, _, _, rfl, rfl, _, rfl, z, rfl, hl, _, _, rfl, rfl, two (cl _ _) (cl _ _) (by decide), q _ _ sB u3 (by rw [Str.length_append]; have := cl none (some k); have := cl (some (k + 1)) none; omega) (okz_app (okz_cut oz _ _) (okz_cut oz _ _))⟩
    refine ⟨_, rfl, rfl, _, rfl, ite2 (fun _ => ?_) (fun _ => ?_)⟩
    · exact ⟨_, rfl, _, rfl, _, rfl, z, rfl, hl, _, rfl, _, _, rfl, rfl, (three _ _ none none).2.2, _, rfl, _, rfl, _, _, rfl, rfl, _, rfl, z, rfl, hl, _, _, rfl, rfl, (three _ _ _ _).2.1, q _ _ sB u3 (three _ _ _ _).1 (okz_app (okz_app (okz_cut oz _ _) oc) (okz_cut oz _ _))⟩
    · have hk2 : k < z.length := by
        have : k ≠ (z.length : Int) := fun e => hk (decide_eq_true (by rw [e]))
        omega
      obtain ⟨ck, hck, mck⟩ := str_at b0 hk2
      have l1 : (⟨#[ck]⟩ : Str).length = 1 := rfl
      have lw : (cutS z (some (k + 1)) (some (k + 2)) ++ (⟨#[ck]⟩ : Str)).length ≤ 1001 := by
        have := cl (some (k + 1)) (some (k + 2))
        rw [Str.length_append]
        omega
      refine ⟨_, rfl, _, rfl, _, _, rfl, rfl, _, rfl, _, rfl, _, _, rfl, rfl, _, rfl, z, rfl, hl, _, rfl, _, rfl, z, k, ck, rfl, rfl, hl, hck, _, _, rfl, rfl, two (cl _ _) (by omega) (by decide : 1000 ≤ 2000), ?_⟩
      have b1 := cl none (some k)
      have b2 := cl (some (k + 2)) none
      refine ⟨_, rfl, _, rfl, _, rfl, z, rfl, hl, _, rfl, _, _, rfl, rfl, two (n := 2000) (by omega) (by omega) (by decide), _, rfl, _, rfl, _, _, rfl, rfl, _, rfl, z, rfl, hl, _, _, rfl, rfl, ?_, q _ _ sB u3 ?_ (okz_app (okz_app (okz_cut oz _ _) (okz_app (okz_cut oz _ _) (okz_sign oz mck))) (okz_cut oz _ _))⟩
      · rw [sizeLine_eq, Str.length_append]
        omega
      · rw [Str.length_append, Str.length_append]
        omega
end
end L2.K2
set_option Elab.async false
set_option linter.all false
set_option maxRecDepth 100000
set_option maxHeartbeats 8000000
namespace L2.K2
open PySem PySem.Spec PyProof.Rows L2.Tb
theorem paired_at {α β : Type} {R : α → β → Prop} : ∀ {xs : List α} {ys : List β} (_ : Paired R xs ys) {n : Nat} {x : α}, xs[n]? = some x → ∃ y, ys[n]? = some y ∧ R x y
  | _, _, .nil, n, x, h => by simp at h
  | _, _, .cons r _, 0, x, h => ⟨_, rfl, Option.some.inj h ▸ r⟩
  | _, _, .cons _ t, n + 1, x, h => paired_at t h
def lineD : List Str := pairD.map fun d => lineS d.1 d.2
theorem line_len : ∀ d ∈ pairD, d.1.length ≤ 1000 := by decide +kernel
theorem lines_run {K : PySem.W.Frag} {i : Nat} {σ : St} {H : Hp} {Q : VK} (hi : i < σ.length) (q : ∀ (D : Addr) (H' : Hp), Same H H' → H' D = some (.lst (lineD.map V.str)) → Q (.ref D) H') :
    tLc (iList K (tCall spPairs [] E0 tNil)) (gName i) tYes (tCall (spLine K) [] E0 (tCons (tVar i) tNil)) [i] σ H Q := by
  refine ⟨rfl, fun w H0 ts s0 e0 p0 => ⟨w, rfl, ⟨_, SqL.of e0⟩, fun D nD => ?_⟩⟩
  have hl0 := Paired.length p0
  refine lc_list (xs := ts.map V.ref) (fun n H' => Same H0 H' ∧ H' D = some (.lst ((lineD.take n).map V.str))) ⟨same_new nD, upd_same⟩ (fun n H' _ h => SqL.of (h.1 _ _ e0)) ?_ ?_
  · rintro n x H1 hx ⟨s1, e1⟩
    obtain ⟨t, ht, rfl⟩ : ∃ t, ts[n]? = some t ∧ x = .ref t := by
      rw [List.getElem?_map] at hx
      cases ht : ts[n]? with
      | none => rw [ht] at hx; cases hx
      | some t => rw [ht] at hx; exact ⟨t, rfl, (Option.some.inj hx).symm⟩
    obtain ⟨d, hd, pa⟩ := paired_at p0 ht
    have hn := (List.getElem?_eq_some_iff.mp hd).1
    refine ⟨by
      show ((σ.set i none).set i (some (V.ref t))).set i none = σ.set i none
      rw [List.set_set, List.set_set], ?_⟩
    unfold tYes
    dsimp only
    rw [if_pos rfl]
    refine ⟨_, (by rw [List.getElem?_set_self (by rw [wipe_length]; exact hi)]), t, d.1, d.2, rfl, s1 _ _ pa, line_len _ (List.mem_of_getElem? hd), ?_⟩
    refine ⟨_, e1, ?_, same_put nD s1, ?_⟩
    · rw [List.length_map, List.length_take, sizeLine_eq]
      have : lineD.length = 12 := rfl
      omega
    · rw [upd_same, List.take_succ, List.map_append]
      have : lineD[n]? = some (lineS d.1 d.2) := by
        show (pairD.map _)[n]? = _
        rw [List.getElem?_map, hd]
        rfl
      rw [this]
      rfl
  · rintro H1 ⟨s1, e1⟩
    refine q D H1 (s0.trans s1) ?_
    rw [e1, List.length_map, hl0]
    rfl
end L2.K2
set_option Elab.async false
set_option linter.all false
set_option maxRecDepth 100000
set_option maxHeartbeats 8000000
namespace L2.K2
open PySem PySem.Spec PyProof.Rows L2.Tb
abbrev s_text_right : Stmt := top 29
abbrev N_text_right : List Str := ["_law_purse_here", "_law_pair", "_law_lines", "_law_way", "_law_line_here", "_law_words", "_law_due"]
theorem sc_text_right : FnScope N_text_right ["_law_purse_here"] (defScope s_text_right) := ⟨rfl, rfl, rfl, by decide +kernel, rfl, by decide +kernel, by decide +kernel⟩
abbrev s_values_right : Stmt := top 30
abbrev N_values_right : List Str := ["_law_purse_here", "_law_odd_here", "_law_flag", "_law_word", "_law_good", "_law_due", "_law_pair"]
theorem sc_values_right : FnScope N_values_right ["_law_purse_here"] (defScope s_values_right) := ⟨rfl, rfl, rfl, by decide +kernel, rfl, by decide +kernel, by decide +kernel⟩
/-! ### texts -/
theorem off_cases (z : Str) : offCalm z = z ∨ z = ("calm " : Str) ++ offCalm z := by
  unfold offCalm
  rw [PySem.StrLaws.removeprefix_eq]
  split
  · rename_i h
    right
    obtain ⟨h1, h2⟩ := (Bool.and_eq_true _ _).mp h
    have h2 : Builtin.Str.subAt z ("calm " : Str) 0 = true := h2
    have e : z.cps.extract 0 (0 + ("calm " : Str).length) = ("calm " : Str).cps := eq_of_beq h2
    refine PySem.Str.ext' (Array.toList_inj.mp ?_)
    rw [PySem.Str.cps_append, Array.toList_append, ← e]
    have hl : z.length = z.cps.toList.length := by rw [Array.length_toList]; rfl
    rw [hl]
    have ht : (z.cps.toList.drop ("calm " : Str).length).take (z.cps.toList.length - ("calm " : Str).length) = z.cps.toList.drop ("calm " : Str).length := by
      rw [← List.length_drop, List.take_length]
    rw [ht, Nat.zero_add, Array.toList_extract]
    simp
  · exact .inl rfl
theorem words_lines : ∀ w ∈ wordsD, w ∈ lineD ∧ (("calm " : Str) ++ w) ∈ lineD := by decide +kernel
theorem line_of {z : Str} (h : wordsD.contains (offCalm z) = true) : z ∈ lineD := by
  obtain ⟨h1, h2⟩ := words_lines _ (List.contains_iff_mem.mp h)
  rcases off_cases z with e | e
  · rw [e] at h1
    exact h1
  · rw [← e] at h2
    exact h2
theorem line_off : ∀ z ∈ lineD, wordsD.contains (offCalm z) = true ∧ kindS (offCalm z) (!decide (V.str (offCalm z) = V.str z)) = z ∧ (offCalm z).length ≤ 1000 ∧ z.length ≤ 1000 := by decide +kernel
theorem flat_lines : (lineD.map V.str).all flatV = true := by decide +kernel
theorem inV_line (z : Str) : inV (.str z) (lineD.map V.str) = decide (z ∈ lineD) := by
  unfold inV
  rw [List.any_map]
  by_cases h : z ∈ lineD
  · rw [decide_eq_true h]
    refine List.any_eq_true.mpr ⟨z, h, ?_⟩
    simp [eqV]
  · rw [decide_eq_false h]
    refine List.any_eq_false.mpr fun y hy => ?_
    have : y ≠ z := fun e => h (e ▸ hy)
    simp [eqV, this]
/-! ### heaps: all but p and the tables stand -/
def ExtB (p : Addr) (H H' : Hp) : Prop := ∀ b o, b ≠ p → H b = some o → (∀ ps, o ≠ .tbl ps) → H' b = some o
theorem ExtB.refl (p : Addr) (H : Hp) : ExtB p H H := fun _ _ _ e _ => e
theorem ExtB.ofB {p : Addr} {H H' : Hp} (s : SameB p H H') : ExtB p H H' := fun b o n e _ => s b o n e
theorem ExtB.ofS {p : Addr} {H H' : Hp} (s : Same H H') : ExtB p H H' := fun b o _ e _ => s b o e
theorem ExtB.ofN {p : Addr} {H H' : Hp} (s : LamX.ExtN H H') : ExtB p H H' := fun b o _ e t => s b o e t
theorem ExtB.trans {p : Addr} {H H1 H2 : Hp} (a : ExtB p H H1) (b : ExtB p H1 H2) : ExtB p H H2 := fun c o n e t => b c o n (a c o n e t) t
theorem tabs_B {T : List (Addr × Str)} {H H' : Hp} {p : Addr} (t : LamX.Tabs T H) (hp : Purse H p) (s : SameB p H H') : LamX.Tabs T H' := by
  obtain ⟨st, dg, c, e, _⟩ := hp.ex
  have out : ∀ {b o}, H b = some o → (∀ xs, o ≠ .lst xs) → H' b = some o := fun {b o} eb no => s b o (fun z => by
    rw [z, e] at eb
    exact no _ (Option.some.inj eb).symm) eb
  intro q hq
  obtain ⟨ps, h1, h2, h3⟩ := t q hq
  refine ⟨ps, out h1 (fun xs z => by cases z), h2, fun pos cv hc => ?_⟩
  obtain ⟨c', e1, e2⟩ := h3 pos cv hc
  refine ⟨c', e1, out e2 fun xs z => ?_⟩
  unfold LamX.CodeO at z
  cases z
theorem purse_N {H H' : Hp} {p : Addr} (h : Purse H p) (s : LamX.ExtN H H') : Purse H' p := by
  obtain ⟨st, dg, c, e, r⟩ := h.ex
  exact ⟨st, dg, c, s _ _ e (fun ps z => by cases z), r⟩
abbrev q_text : Str := (envOfC "_law_text_right" (defScope s_text_right) 0 0 .none).qual ++ "<lambda>"
abbrev q_values : Str := (envOfC "_law_values_right" (defScope s_values_right) 0 0 .none).qual ++ "<lambda>"
def tabsT (P1 P2 : Addr) : List (Addr × Str) := [(P1, q_text), (P2, q_values)]
theorem tabs_u1 {P1 P2 : Addr} (ne : P1 ≠ P2) : ∀ p ∈ tabsT P1 P2, p.1 = P1 → p.2 = q_text := by
  intro p hp e
  rcases List.mem_cons.mp hp with rfl | hp
  · rfl
  · rw [List.mem_singleton.mp hp] at e
    exact absurd e.symm ne
theorem tabs_u2 {P1 P2 : Addr} (ne : P1 ≠ P2) : ∀ p ∈ tabsT P1 P2, p.1 = P2 → p.2 = q_values := by
  intro p hp e
  rcases List.mem_cons.mp hp with rfl | hp
  · exact absurd e ne
  · rw [List.mem_singleton.mp hp]
def spTR (T : List (Addr × Str)) : Sp := fun vs H Q _ => ∃ p : Addr, vs = [.ref p] ∧ Purse H p ∧ LamX.Tabs T H ∧ ∀ H' : Hp, ExtB p H H' → Purse H' p → LamX.Tabs T H' → Q (.bl true) H'
theorem asg_one {te : TE} {g : TG} {D : Ends} {σ : St} {H : Hp} (h : te σ H fun x H1 => g x σ H1 D.nx) : tAsg te g D σ H := h
theorem gname_go {i : Nat} {x : V} {σ : St} {H : Hp} {k : St → Hp → Prop} (h : k (σ.set i (some x)) H) : gName i x σ H k := h
theorem same_text {a z : Str} (ha : PySem.PyData.strOk a = true) (hz : PySem.PyData.strOk z = true) : PyData.eqv (.tuple [.str a, .str z]) (.tuple [.str a, .str z]) = true ∧ PySem.SeqAt.shaped (.tuple [.str a, .str z]) = true := by
  have h : PySem.PyData.canLay0 (.tuple [.str a, .str z]) = true := by
    simp [PySem.PyData.canLay0, PySem.PyData.canLayAll0, ha, hz]
  exact ⟨PySem.SeqAt.eqv_refl _ h, by simp [PySem.SeqAt.shaped, h, PySem.PyData.depth, PySem.PyData.depthAll]⟩
theorem text_tail {K : PySem.W.Frag} {C CT CF CX p D : Addr} {T : List (Addr × Str)} {x1 x3 x5 x6 : Option V} {z : Str} {H : Hp} {Q : VK} (e : H D = some (.lst (lineD.map V.str))) (hT : LamX.Tabs T H) (hp : Purse H p) (hl : z.length ≤ 10000) (oz : Okz z)
    (q : ∀ H' : Hp, ExtB p H H' → Purse H' p → LamX.Tabs T H' → Q (.bl true) H') :
    tSeq (tAsg (tIf (tTest (tOp (rIn K false) (tVar 4) (tVar 2))) (tTup (tCons (tC (.str "kind")) (tCons (tVar 4) tNil))) (tTup (tCons (tC (.str "text")) (tCons (tVar 4) tNil)))) (gName 6))
      (tRet (tOp (rEqD K) (LamX.tLam T (TTold C CT CF CX) fun E => ClX.tCMeth C (spKread K C CX) E (tC (.ref C)) (tCons (tVar 4) tNil)) (tVar 6)))
      { nx := fun _ H' => Q .non H', rt := Q } [some (.ref p), x1, some (.ref D), x3, some (.str z), x5, x6] H := by
  refine asg_step ⟨_, rfl, _, rfl, D, _, rfl, .inl (SqL.of e), rfl, flat_lines, _, rfl, ?_⟩
  rw [if_neg (by decide), inV_line]
  have fin : ∀ (a : Str) (t t2 : Addr) (H6 H7 : Hp), Same H (upd H t (.tup [.str a, .str z])) → H t = none → LamX.ExtN (upd H t (.tup [.str a, .str z])) H6 → LamX.Tabs T H6 → Same H6 H7 → H7 t2 = none → Q (.bl true) (upd H7 t2 (.tup [.str a, .str z])) ∧ (upd H7 t2 (.tup [.str a, .str z])) t = some (.tup [.str a, .str z]) := by
    intro a t t2 H6 H7 s5 nt x6 t6 s7 n2
    have s8 := same_new (o := .tup [.str a, .str z]) n2
    have et : (upd H7 t2 (.tup [.str a, .str z])) t = some (.tup [.str a, .str z]) := s8 _ _ (s7 _ _ (x6 _ _ upd_same (fun ps z => by cases z)))
    refine ⟨q _ ?_ ?_ ?_, et⟩
    · exact (((ExtB.ofS s5).trans (ExtB.ofN x6)).trans (ExtB.ofS s7)).trans (ExtB.ofS s8)
    · exact ((purse_N (hp.same s5) x6).same s7).same s8
    · exact (t6.ext s7).ext s8
  by_cases hz : z ∈ lineD
  · refine iteT2 (decide_eq_true hz) ⟨_, rfl, Nat.le_of_ble_eq_true rfl, fun t nt => ?_⟩
    obtain ⟨w1, w2, w3, _⟩ := line_off z hz
    have s5 := same_new (o := .tup [.str "kind", .str z]) nt
    refine retop_step ⟨hT.ext s5, fun H6 x6 t6 => ⟨rfl, _, rfl, _, rfl, .inl ⟨z, rfl, hl, w1, fun a H7 s7 n7 k7 => ⟨a, _, _, rfl, k7, w3, fun t2 n2 => ?_⟩⟩⟩⟩
    rw [w2]
    obtain ⟨f1, f2⟩ := fin "kind" t t2 H6 H7 s5 nt x6 t6 s7 n2
    refine ⟨_, rfl, _, _, .tup (SqT.of upd_same) (.cons (.str _) (.cons (.str _) .nil)), .tup (SqT.of f2) (.cons (.str _) (.cons (.str _) .nil)), (same_text (by decide +kernel) (okz_iff.mp oz)).2, (same_text (by decide +kernel) (okz_iff.mp oz)).2, ?_⟩
    rw [(same_text (by decide +kernel) (okz_iff.mp oz)).1]
    exact f1
  · refine iteN2 (decide_eq_false hz) ⟨_, rfl, Nat.le_of_ble_eq_true rfl, fun t nt => ?_⟩
    have w1 : wordsD.contains (offCalm z) = false := by
      cases c : wordsD.contains (offCalm z) with
      | false => rfl
      | true => exact absurd (line_of c) hz
    have s5 := same_new (o := .tup [.str "text", .str z]) nt
    refine retop_step ⟨hT.ext s5, fun H6 x6 t6 => ⟨rfl, _, rfl, _, rfl, .inr ⟨.inl ⟨z, rfl, hl, w1⟩, fun d H7 s7 n7 e7 => .inr (.inr ⟨rfl, d, _, rfl, e7, fun t2 n2 => ?_⟩)⟩⟩⟩
    obtain ⟨f1, f2⟩ := fin "text" t t2 H6 H7 s5 nt x6 t6 s7 n2
    refine ⟨_, rfl, _, _, .tup (SqT.of upd_same) (.cons (.str _) (.cons (.str _) .nil)), .tup (SqT.of f2) (.cons (.str _) (.cons (.str _) .nil)), (same_text (by decide +kernel) (okz_iff.mp oz)).2, (same_text (by decide +kernel) (okz_iff.mp oz)).2, ?_⟩
    rw [(same_text (by decide +kernel) (okz_iff.mp oz)).1]
    exact f1
def spaceD : List Str := ["calm", "plain", "sides", "front", "back", "round", "all", ""]
theorem space_ok : ∀ w ∈ spaceD, PySem.PyData.strOk w = true := by decide +kernel
theorem line_ok : ∀ w ∈ lineD, PySem.PyData.strOk w = true := by decide +kernel
theorem space_len : ∀ w ∈ spaceD, w.length ≤ 5 := by decide +kernel
theorem line_at {i : Int} (h0 : 0 ≤ i) (h1 : i < 12) : ∃ z, atI (lineD.map V.str) i = some (.str z) ∧ z ∈ lineD := by
  obtain ⟨k, rfl⟩ := Int.eq_ofNat_of_zero_le h0
  have hk : k < lineD.length := by
    have : lineD.length = 12 := rfl
    omega
  exact ⟨lineD[k], atI_nat (by rw [List.getElem?_map, List.getElem?_eq_getElem hk]; rfl), List.getElem_mem ..⟩
theorem space_at {i : Int} (h0 : 0 ≤ i) (h1 : i < 8) : ∃ z, atI (spaceD.map V.str) i = some (.str z) ∧ z.length ≤ 5 ∧ Okz z := by
  obtain ⟨k, rfl⟩ := Int.eq_ofNat_of_zero_le h0
  have hk : k < spaceD.length := by
    have : spaceD.length = 8 := rfl
    omega
  exact ⟨spaceD[k], atI_nat (by rw [List.getElem?_map, List.getElem?_eq_getElem hk]; rfl), space_len _ (List.getElem_mem ..), okz_iff.mpr (space_ok _ (List.getElem_mem ..))⟩
section
variable {P : Program} {w : World} {K : PySem.W.Frag} {mg : Str → Option Value} {base : Heap} {at_ : Str × Option Str} {fd fdt : FuncData} {ft C dL CT CF CX P1 P2 : Addr} {es : Array DictEntry} {n : Nat}
theorem c_text (T : Bt mg) (KK : KiK P w K mg base C dL CT CF CX es n) (TF : ToldF K mg CT CF CX) (Ft : FnP K "_law_told" s_told ft fdt) (mt : mg "_law_told" = some (.ref ft)) (TB : LamX.TabB base mg (He.codeOf K at_) P1) (ne : P1 ≠ P2)
    (F : FnP K "_law_text_right" s_text_right (He.fAd K at_) fd) (hm : mg "_law_text_right" = some (.ref (He.fAd K at_))) (k_draw : Cal P w K mg base 1 "_law_draw" spDraw) (k_pairs : Cal P w K mg base 2 "_law_pairs" spPairs) (k_line : Cal P w K mg base 1 "_law_line" (spLine K))
    (k_bent : Cal P w K mg base 3 "_law_bent" spBent) : Cal P w K mg base 8 "_law_text_right" (spTR (tabsT P1 P2)) := by
  have hnd := sc_text_right.nd
  have KF := KK.kf
  have b_told : Binds K fdt ["_law_act"] [] := Ft.bindsN fun _ _ _ _ _ _ us hl => match us, hl with | [_], _ => rfl
  obtain ⟨fs, fds, hs, hsf, Fs, Bs⟩ := KK.str
  obtain ⟨mc, rp, rg, fdr, RC, RM, Fr, FR, BR⟩ := KK.rd
  refine cal_mkC F hm sc_text_right (fun _ _ _ _ _ _ us hl => match us, hl with | [_], _ => rfl) (fun vs H Q E h => ?_) (fun cdv A outer s H vs Q E hcd hr h => ?_)
  · obtain ⟨p, rfl, _⟩ := h
    rfl
  · subst hcd
    obtain ⟨p, rfl, hp, hT, q⟩ := h
    have ktold := Ft.kp
    obtain ⟨oc, od, dV, kV, doc, pm, an, cdt, ct, osl, rfl, lk, hct, _, _⟩ := id Ft.ex
    refine ⟨_, (pss_cons (ps_setLc (i := 2) (own := [("_law_pair", 1)]) (tt := tYes) (by rfl) hnd rfl (by rfl) (sw_true rfl rfl rfl (by decide +kernel)) (pi_list (pe_cal0 k_pairs hr (by omega) (by rfl))) (blkOk_by (own := [("_law_pair", 1)]) (N := N_text_right) (sc := defScope s_text_right) (by decide +kernel)) (fun _ _ _ _ _ => (pg_name (i := 1) hnd rfl (by first | exact Or.inl rfl | exact Or.inr rfl))) (fun _ _ _ _ _ => pts_nil) (fun _ _ _ _ _ => (pe_cal k_line hr (by omega) (by rfl) (pa_cons (pv 1) pa_nil))))
      (pss_cons (ps_pairL rfl (pa_cons (pe_cal k_draw hr (by omega) (by rfl) (pa_cons (pv 0) (pa_cons pe_int pa_nil))) (pa_cons (pe_ix ix_list (pv 2) (pe_cal k_draw hr (by omega) (by rfl) (pa_cons (pv 0) (pa_cons pe_int pa_nil))) (fun _ _ => rfl)) pa_nil)) (pgs_cons (pg_name (i := 3) hnd rfl (by first | exact Or.inl rfl | exact Or.inr rfl)) (pgs_cons (pg_name (i := 4) hnd rfl (by first | exact Or.inl rfl | exact Or.inr rfl)) pgs_nil)) (by rfl) (by rfl) (by rfl))
      (pss_cons (ps_if (pt_cmpR op_eq (pv 3) pe_int (nomark _))
      (pss_cons (ps_set (i := 5) hnd rfl (by first | exact Or.inl rfl | exact Or.inr rfl) (pe_lst (pa_cons pe_str (pa_cons pe_str (pa_cons pe_str (pa_cons pe_str (pa_cons pe_str (pa_cons pe_str (pa_cons pe_str (pa_cons pe_str pa_nil))))))))))
      (pss_one (ps_set (i := 4) hnd rfl (by first | exact Or.inl rfl | exact Or.inr rfl) (pe_op op_add_str (pe_op op_add_str (pe_ix ix_list (pv 5) (pe_cal k_draw hr (by omega) (by rfl) (pa_cons (pv 0) (pa_cons pe_int pa_nil))) (fun _ _ => rfl)) pe_str) (pe_ix ix_list (pv 5) (pe_cal k_draw hr (by omega) (by rfl) (pa_cons (pv 0) (pa_cons pe_int pa_nil))) (fun _ _ => rfl))))))
      pss_nil)
      (pss_cons (ps_if (pt_cmpR op_gt (pv 3) pe_int (nomark _))
      (pss_one (ps_set (i := 4) hnd rfl (by first | exact Or.inl rfl | exact Or.inr rfl) (pe_cal k_bent hr (by omega) (by rfl) (pa_cons (pv 0) (pa_cons (pv 4) (pa_cons pe_str pa_nil))))))
      pss_nil)
      (pss_cons (ps_set (i := 6) hnd rfl (by first | exact Or.inl rfl | exact Or.inr rfl) (pe_ifExp (pt_cmpR op_in_seq (pv 4) (pv 2) (by rfl)) (pe_tup (pa_cons pe_str (pa_cons (pv 4) pa_nil))) (pe_tup (pa_cons pe_str (pa_cons (pv 4) pa_nil)))))
      (pss_one (ps_ret (pe_cmpR (op_eqD hr.units) (LamX.pe_lamcall (T := tabsT P1 P2) (k := 5) (P := P1) (by rfl) mt ktold lk hct b_told sc_told rfl (by first | exact .inl rfl | exact .inr (.inl rfl)) (told_gives KK.mstr TF Fs (hr.mono (by decide)) hs hsf Bs) TB rfl List.mem_cons_self (tabs_u1 ne) (hr.mono (by decide)) (LamX.lamS_by (sc := defScope s_text_right) (by decide +kernel)) rfl (fun _ _ _ _ _ => rfl) (fun A outer s H E f c' hr5 => ClX.pe_cmeth (pe_glob (v := .ref C) (by rfl) KF.mgC rfl) RC RM FR hr5 (passes_call (takes_of rfl rfl rfl rfl) (fun _ _ _ _ h => h)) (pa_cons (pv 4) pa_nil))) (pv 6) (nomark _))))))))), ?_⟩
    refine asg_step (lines_run (Nat.le_of_ble_eq_true rfl) fun D H1 s1 e1 => ?_)
    refine ⟨_, rfl, p, 4, rfl, hp.same s1, by decide, by decide, fun w1 H2 a0 a1 s2 u2 => ⟨_, rfl, _, rfl, p, 12, rfl, u2, by decide, by decide, fun k H3 b0 b1 s3 u3 => ?_⟩⟩
    obtain ⟨z, hz, mz⟩ := line_at b0 b1
    have nDp : D ≠ p := fun z => by
      obtain ⟨st, dg, c, e, _⟩ := (hp.same s1).ex
      rw [← z, e1] at e
      have := congrArg (fun o : Option HO => match o with | some (.lst xs) => xs.length | _ => 0) e
      simp at this
      exact absurd this (by decide)
    have s23 := s2.trans s3
    have e3 := s23 _ _ nDp e1
    refine ⟨D, _, k, .str z, rfl, rfl, SqL.of e3, hz, rfl, _, _, rfl, _, _, rfl, rfl, ?_⟩
    have lz : z.length ≤ 1000 := (line_off z mz).2.2.2
    have oz : Okz z := okz_iff.mpr (line_ok z mz)
    have s13 : SameB p H H3 := (SameB.of s1).trans s23
    have t3 : LamX.Tabs (tabsT P1 P2) H3 := tabs_B hT hp s13
    have fin : ∀ (H4 : Hp), SameB p H3 H4 → Purse H4 p → H4 D = some (.lst (lineD.map V.str)) ∧ LamX.Tabs (tabsT P1 P2) H4 ∧ ∀ H' : Hp, ExtB p H4 H' → Purse H' p → LamX.Tabs (tabsT P1 P2) H' → Q (.bl true) H' := fun H4 s4 u4 =>
      ⟨s4 _ _ nDp e3, tabs_B t3 u3 s4, fun H' x u t => q H' ((ExtB.ofB (s13.trans s4)).trans x) u t⟩
    refine ⟨_, rfl, rfl, _, rfl, ite2 (fun cw => ?_) (fun _ => ?_)⟩
    · refine ⟨Nat.le_of_ble_eq_true rfl, fun W nW => ?_⟩
      have nWp : W ≠ p := fun z => by
        obtain ⟨st, dg, c, e, _⟩ := u3.ex
        rw [z, e] at nW
        cases nW
      have s4 := same_new (o := .lst (spaceD.map V.str)) nW
      have e4 := upd_same (H := H3) (a := W) (o := .lst (spaceD.map V.str))
      refine gname_go ?_
      dsimp only
      refine asg_one ⟨_, rfl, _, rfl, p, 8, rfl, u3.same s4, by decide, by decide, fun k1 H5 c0 c1 s5 u5 => ?_⟩
      obtain ⟨y1, h1, l1, o1⟩ := space_at c0 c1
      have e5 := s5 _ _ nWp e4
      refine ⟨W, _, k1, _, rfl, rfl, SqL.of e5, h1, _, _, rfl, rfl, ?_, _, rfl, _, rfl, p, 8, rfl, u5, by decide, by decide, fun k2 H6 d0 d1 s6 u6 => ?_⟩
      · rw [sizeLine_eq]
        have : (" " : Str).length = 1 := rfl
        omega
      obtain ⟨y2, h2, l2, o2⟩ := space_at d0 d1
      have l3 : (y1 ++ (" " : Str)).length ≤ 6 := by
        rw [Str.length_append]
        have : (" " : Str).length = 1 := rfl
        omega
      refine ⟨W, _, k2, _, rfl, rfl, SqL.of (s6 _ _ nWp e5), h2, _, _, rfl, rfl, ?_, ?_⟩
      · rw [sizeLine_eq]
        omega
      obtain ⟨g1, g2, g3⟩ := fin H6 (((SameB.of s4).trans s5).trans s6) u6
      have w0 : w1 = 0 := by
        have := of_decide_eq_true cw
        injection this
      subst w0
      refine ⟨_, rfl, _, _, rfl, rfl, _, rfl, iteN2 (by decide) ?_⟩
      refine text_tail g1 g2 u6 ?_ (okz_app (okz_app o1 (okz_iff.mpr (by decide +kernel))) o2) g3
      rw [Str.length_append]
      omega
    · refine ⟨_, rfl, _, _, rfl, rfl, _, rfl, ite2 (fun _ => ?_) (fun _ => ?_)⟩
      · refine ⟨_, rfl, _, rfl, p, z, _, rfl, u3, lz, by decide +kernel, by decide +kernel, oz, okz_iff.mpr (by decide +kernel), fun c H4 s4 u4 lc oc => ?_⟩
        obtain ⟨g1, g2, g3⟩ := fin H4 s4 u4
        exact text_tail g1 g2 u4 (Nat.le_trans lc (by decide)) oc g3
      · obtain ⟨g1, g2, g3⟩ := fin H3 (SameB.refl _ _) u3
        exact text_tail g1 g2 u3 (Nat.le_trans lz (by decide)) oz g3
end
/-! ### odd values, tables growing -/
theorem od_extN {H H' : Hp} (s : LamX.ExtN H H') : ∀ {n : Nat} {v : V}, Od H n v → Od H' n v
  | 0, _, h => h
  | n + 1, v, h => by
    rcases h with h | ⟨a, xs, h1, h2, h3, h4⟩ | ⟨a, xs, h1, h2, h3, h4⟩ | ⟨a, kvs, h1, h2, h3, h4⟩
    · exact .inl h
    · exact .inr (.inl ⟨a, xs, h1, s _ _ h2 (fun ps z => by cases z), h3, fun x hx => od_extN s (h4 x hx)⟩)
    · exact .inr (.inr (.inl ⟨a, xs, h1, s _ _ h2 (fun ps z => by cases z), h3, fun x hx => od_extN s (h4 x hx)⟩))
    · exact .inr (.inr (.inr ⟨a, kvs, h1, s _ _ h2 (fun ps z => by cases z), h3, h4⟩))
theorem od_B {H H' : Hp} {p : Addr} {n : Nat} {v : V} (o : Od H n v) (hp : Purse H p) (s : SameB p H H') : Od H' n v := by
  obtain ⟨st, dg, c, e, _⟩ := hp.ex
  exact o.keep e s
theorem od_ty {K : PySem.W.Frag} {H : Hp} {n : Nat} {v : V} (h : Od H (n + 1) v) : ∃ T : String, TyX K H v (.type T) ∧
    (((∃ b, v = .bl b) ∧ kitB T "bool" = some true ∧ kitB T "str" = some false) ∨ ((∃ z, v = .str z) ∧ kitB T "bool" = some false ∧ kitB T "str" = some true) ∨
     ((∀ b, v ≠ .bl b) ∧ (∀ z, v ≠ .str z) ∧ kitB T "bool" = some false ∧ kitB T "str" = some false)) := by
  rcases h with h | ⟨a, xs, rfl, h2, _⟩ | ⟨a, xs, rfl, h2, _⟩ | ⟨a, kvs, rfl, h2, _⟩
  · cases v with
    | non => exact ⟨"NoneType", .base .non, .inr (.inr ⟨fun b z => (by cases z), fun b z => (by cases z), by decide +kernel, by decide +kernel⟩)⟩
    | bl b => exact ⟨"bool", .base (.bl b), .inl ⟨⟨b, rfl⟩, by decide +kernel, by decide +kernel⟩⟩
    | int i => exact ⟨"int", .base (.int i), .inr (.inr ⟨fun b z => (by cases z), fun b z => (by cases z), by decide +kernel, by decide +kernel⟩)⟩
    | str z => exact ⟨"str", .base (.str z), .inr (.inl ⟨⟨z, rfl⟩, by decide +kernel, by decide +kernel⟩)⟩
    | _ => cases h
  · exact ⟨"list", .base (.lst h2), .inr (.inr ⟨fun b z => (by cases z), fun b z => (by cases z), by decide +kernel, by decide +kernel⟩)⟩
  · exact ⟨"tuple", .base (.tup h2), .inr (.inr ⟨fun b z => (by cases z), fun b z => (by cases z), by decide +kernel, by decide +kernel⟩)⟩
  · exact ⟨"dict", .base (.dK h2), .inr (.inr ⟨fun b z => (by cases z), fun b z => (by cases z), by decide +kernel, by decide +kernel⟩)⟩
theorem od_noS {K : PySem.W.Frag} {H : Hp} {n : Nat} {v : V} (h : Od H (n + 1) v) (hz : ∀ z, v ≠ .str z) : NoS K H v := by
  obtain ⟨T, t, c⟩ := od_ty (K := K) h
  rcases c with ⟨_, _, k⟩ | ⟨⟨z, e⟩, _⟩ | ⟨_, _, _, k⟩
  · exact ⟨_, t, kit_ty k⟩
  · exact absurd e (hz z)
  · exact ⟨_, t, kit_ty k⟩
theorem word_at {i : Int} (h0 : 0 ≤ i) (h1 : i < 6) : ∃ z, atI (wordsD.map V.str) i = some (.str z) ∧ z ∈ wordsD := by
  obtain ⟨k, rfl⟩ := Int.eq_ofNat_of_zero_le h0
  have hk : k < wordsD.length := by
    have : wordsD.length = 6 := rfl
    omega
  exact ⟨wordsD[k], atI_nat (by rw [List.getElem?_map, List.getElem?_eq_getElem hk]; rfl), List.getElem_mem ..⟩
theorem lots_none {H : Hp} {kvs : List (Key × V)} {z : Str} (hz : wordsD.contains z = false) (h : LotsAt H kvs) : valV kvs (.inr z) = none := by
  have hz' : lotD.all (fun d => decide (d.1 ≠ z)) = true := by
    refine List.all_eq_true.mpr fun d hd => decide_eq_true fun e => ?_
    have : z ∈ wordsD := e ▸ List.mem_map_of_mem hd
    rw [List.contains_iff_mem.mpr this] at hz
    cases hz
  unfold LotsAt at h
  generalize lotD = ds at h hz'
  induction h with
  | nil => rfl
  | @cons kv d _ _ r _ ih =>
    rw [List.all_cons] at hz'
    obtain ⟨h1, h2⟩ := (Bool.and_eq_true _ _).mp hz'
    have h1 := of_decide_eq_true h1
    rw [valV_neg (fun e => h1 (by
      rw [r.1] at e
      injection e)), ih h2]
/-! ### what the law hears -/
def oneOf (CT CF CX Cc : Addr) (y : Str) : Prop := (y = "turns" ∧ Cc = CT) ∨ (y = "flag" ∧ Cc = CF) ∨ (y = "text" ∧ Cc = CX)
theorem lam_heard {T : List (Addr × Str)} {C CT CF CX Cc : Addr} {y : Str} {v : V} {t : XK → TE} {σ : St} {H : Hp} {Q : VK} (hT : LamX.Tabs T H) (hy : oneOf CT CF CX Cc y)
    (hb : ∀ (E : XK) (H1 : Hp) (Q1 : VK), LamX.ExtN H H1 → (∀ d H2, Same H1 H2 → H1 d = none → H2 d = some (.xd [("given", v)]) → E (.ref Cc) (some d) H2) → t E σ H1 Q1)
    (q : ∀ (a : Addr) (H' : Hp), LamX.ExtN H H' → LamX.Tabs T H' → H' a = some (.tup [.str y, v]) → Q (.ref a) H') : LamX.tLam T (TTold C CT CF CX) t σ H Q := by
  refine ⟨hT, fun H1 x1 t1 => hb _ _ _ x1 fun d H2 s2 n2 e2 => ?_⟩
  have fin : HeardX Cc y (.ref Cc) (some d) H2 Q := by
    refine ⟨rfl, d, v, rfl, e2, fun A nA => ?_⟩
    have s3 := same_new (o := .tup [.str y, v]) nA
    exact q A _ (x1.trans (LamX.ExtN.of (s2.trans s3))) ((t1.ext s2).ext s3) upd_same
  rcases hy with ⟨rfl, rfl⟩ | ⟨rfl, rfl⟩ | ⟨rfl, rfl⟩
  · exact .inl fin
  · exact .inr (.inl fin)
  · exact .inr (.inr fin)
theorem two_new {H : Hp} {x dx C : Addr} (n1 : H x = none) (n2 : H dx = none) : Same H (upd (upd H dx (.own x)) x (.ins C dx [])) ∧ ∀ d, (upd (upd H dx (.own x)) x (.ins C dx [])) d = none → H d = none := by
  refine ⟨fun b o e => by rw [upd_ne (ne_of_none e n1), upd_ne (ne_of_none e n2)]; exact e, fun d e => ?_⟩
  have h1 : d ≠ x := fun z => by
    rw [z, upd_same] at e
    cases e
  rw [upd_ne h1] at e
  have h2 : d ≠ dx := fun z => by
    rw [z, upd_same] at e
    cases e
  rw [upd_ne h2] at e
  exact e
theorem kinit_bad {K : PySem.W.Frag} {C CT CF Cc x dx : Addr} {H : Hp} {t c v : V} {Q : VK} {E : XK} (n1 : H x = none) (n2 : H dx = none)
    (h : (Cc = CT ∧ v = t ∧ ((∃ z, t = .str z ∧ wordsD.contains z = false) ∨ ∀ H', Same H H' → NoS K H' t)) ∨ (Cc = CF ∧ v = c ∧ ∃ z, t = .str z ∧ wordsD.contains z = true ∧ ∀ b, c ≠ .bl b))
    (e : ∀ d H2, Same H H2 → H d = none → H2 d = some (.xd [("given", v)]) → E (.ref Cc) (some d) H2) : spKinit K C CT CF [.ref x, t, c] (upd (upd H dx (.own x)) x (.ins C dx [])) Q E := by
  obtain ⟨s1, s2⟩ := two_new (C := C) n1 n2
  refine ⟨x, dx, t, c, rfl, upd_same, .inr ?_⟩
  rcases h with ⟨rfl, rfl, h⟩ | ⟨rfl, rfl, z, h1, h2, h3⟩
  · exact .inl ⟨h.elim .inl (fun h => .inr (h _ s1)), fun d H' s n y => e d H' (s1.trans s) (s2 d n) y⟩
  · exact .inr ⟨z, h1, h2, h3, fun d H' s n y => e d H' (s1.trans s) (s2 d n) y⟩
theorem lam_kind {K : PySem.W.Frag} {T : List (Addr × Str)} {C CT CF CX : Addr} {z : Str} {b : Bool} {i m : Nat} {σ : St} {H : Hp} {Q : VK} (hT : LamX.Tabs T H) (hi : σ[i]? = some (some (.str z))) (h2 : σ[2]? = some (some (.bl b))) (hm : m = 1) (hz : wordsD.contains z = true) (hl : z.length ≤ 1000)
    (q : ∀ (a : Addr) (H' : Hp), LamX.ExtN H H' → LamX.Tabs T H' → H' a = some (.tup [.str "kind", .str (kindS z b)]) → Q (.ref a) H') :
    LamX.tLam T (TTold C CT CF CX) (fun E => tMakeK C 1 m (spKinit K C CT CF) (fun us ws => us ++ ws) E (tCons (tVar i) tNil) (tCons (tVar 2) tNil)) σ H Q := by
  subst hm
  refine ⟨hT, fun H1 x1 t1 => ⟨_, hi, _, h2, rfl, rfl, fun a da na nda _ => made_ok (b := b) hz na nda fun H2 s2 k2 => ⟨rfl, a, z, b, rfl, k2, hl, fun A nA => ?_⟩⟩⟩
  have s3 := same_new (o := .tup [.str "kind", .str (kindS z b)]) nA
  exact q A _ (x1.trans (LamX.ExtN.of (s2.trans s3))) ((t1.ext s2).ext s3) upd_same
theorem lam_make {K : PySem.W.Frag} {T : List (Addr × Str)} {C CT CF CX Cc : Addr} {y : Str} {t c v : V} {i m : Nat} {σ : St} {H : Hp} {Q : VK} (hT : LamX.Tabs T H) (hi : σ[i]? = some (some t)) (h2 : σ[2]? = some (some c)) (hm : m = 1) (hy : oneOf CT CF CX Cc y)
    (h : (Cc = CT ∧ v = t ∧ ((∃ z, t = .str z ∧ wordsD.contains z = false) ∨ ∀ H', LamX.ExtN H H' → NoS K H' t)) ∨ (Cc = CF ∧ v = c ∧ ∃ z, t = .str z ∧ wordsD.contains z = true ∧ ∀ b, c ≠ .bl b))
    (q : ∀ (a : Addr) (H' : Hp), LamX.ExtN H H' → LamX.Tabs T H' → H' a = some (.tup [.str y, v]) → Q (.ref a) H') :
    LamX.tLam T (TTold C CT CF CX) (fun E => tMakeK C 1 m (spKinit K C CT CF) (fun us ws => us ++ ws) E (tCons (tVar i) tNil) (tCons (tVar 2) tNil)) σ H Q := by
  subst hm
  refine lam_heard hT hy (fun E H1 Q1 x1 e => ⟨_, hi, _, h2, rfl, rfl, fun x dx nx ndx _ => kinit_bad nx ndx ?_ e⟩) q
  rcases h with ⟨a, b, h⟩ | h
  · exact .inl ⟨a, b, h.elim .inl fun h => .inr fun H' s => h H' (x1.trans (LamX.ExtN.of s))⟩
  · exact .inr h
theorem lam_make1 {K : PySem.W.Frag} {T : List (Addr × Str)} {C CT CF CX : Addr} {t : V} {i : Nat} {σ : St} {H : Hp} {Q : VK} (hT : LamX.Tabs T H) (hi : σ[i]? = some (some t))
    (h : (∃ z, t = .str z ∧ wordsD.contains z = false) ∨ ∀ H', LamX.ExtN H H' → NoS K H' t)
    (q : ∀ (a : Addr) (H' : Hp), LamX.ExtN H H' → LamX.Tabs T H' → H' a = some (.tup [.str "turns", t]) → Q (.ref a) H') :
    LamX.tLam T (TTold C CT CF CX) (fun E => tMake C (spKinit K C CT CF) [.bl false] E (tCons (tVar i) tNil)) σ H Q := by
  refine lam_heard (Cc := CT) hT (.inl ⟨rfl, rfl⟩) (fun E H1 Q1 x1 e => ⟨_, hi, fun x dx nx ndx _ => kinit_bad nx ndx (.inl ⟨rfl, rfl, h.elim .inl fun h => .inr fun H' s => h H' (x1.trans (LamX.ExtN.of s))⟩) e⟩) q
theorem lam_read {K : PySem.W.Frag} {T : List (Addr × Str)} {C CT CF CX : Addr} {t : V} {i : Nat} {σ : St} {H : Hp} {Q : VK} (hT : LamX.Tabs T H) (hi : σ[i]? = some (some t))
    (h : (∃ z, t = .str z ∧ z.length ≤ 10000 ∧ wordsD.contains (offCalm z) = false) ∨ ∀ H', LamX.ExtN H H' → NoS K H' t)
    (q : ∀ (a : Addr) (H' : Hp), LamX.ExtN H H' → LamX.Tabs T H' → H' a = some (.tup [.str "text", t]) → Q (.ref a) H') :
    LamX.tLam T (TTold C CT CF CX) (fun E => ClX.tCMeth C (spKread K C CX) E (tC (.ref C)) (tCons (tVar i) tNil)) σ H Q := by
  refine lam_heard (Cc := CX) hT (.inr (.inr ⟨rfl, rfl⟩)) (fun E H1 Q1 x1 e => ⟨rfl, _, hi, t, rfl, .inr ⟨h.elim .inl fun h => .inr (h H1 x1), e⟩⟩) q
theorem al_pair {H : Hp} {a b : Addr} {y : Str} {v : V} (ha : H a = some (.tup [.str y, v])) (hb : H b = some (.tup [.str y, v])) (hv : Al H 3 v v) : Al H 4 (.ref a) (.ref b) :=
  .inr (.inr (.inl ⟨a, b, _, _, rfl, rfl, ha, hb, Nat.le_of_ble_eq_true rfl, .cons (.inl ⟨rfl, rfl⟩) (.cons hv .nil)⟩))
theorem lines_have {K : PySem.W.Frag} {i : Nat} {σ : St} {H : Hp} {Q : VK} (hi : i < σ.length) (q : ∀ (D : Addr) (H' : Hp), Same H H' → H' D = some (.lst (lineD.map V.str)) → Q (.ref D) H') :
    tLc (iList K (tCall spPairs [] E0 tNil)) (gName i) tYes (tCall (spLine K) [] E0 (tCons (tVar i) tNil)) [i] σ H Q := lines_run hi q
section
variable {K : PySem.W.Frag} {T : List (Addr × Str)} {C CT CF CX p : Addr} {va vb : V} {x3 x4 x5 x6 : Option V} {H : Hp} {Q : VK}
abbrev tIsS (K : PySem.W.Frag) : TT := tB (tCB (rIsi K) (tCons (tVar 1) (tCons (tC (.ty "str")) tNil)))
abbrev tLamK (K : PySem.W.Frag) (T : List (Addr × Str)) (C CT CF CX : Addr) (i m : Nat) : TE := LamX.tLam T (TTold C CT CF CX) fun E => tMakeK C 1 m (spKinit K C CT CF) (fun us ws => us ++ ws) E (tCons (tVar i) tNil) (tCons (tVar 2) tNil)
abbrev tPairT (y : Str) : TE := tTup (tCons (tC (.str y)) (tCons (tVar 1) tNil))
abbrev tNotA (t : TE) (y : TE) : TS := tIfS (tNot (tB (tCall (spAlike 4) [] E0 (tCons t (tCons y tNil))))) (tRet (tC (.bl false))) tNext
theorem notA {t : TE} {y : Str} {b : TS} {D : Ends} {σ : St} (hi : σ[1]? = some (some va)) (hO : Od H 3 va) (hT : LamX.Tabs T H)
    (ht : ∀ (R : VK), (∀ (a : Addr) (H' : Hp), LamX.ExtN H H' → LamX.Tabs T H' → H' a = some (.tup [.str y, va]) → R (.ref a) H') → t σ H R)
    (q : ∀ H', LamX.ExtN H H' → LamX.Tabs T H' → b D σ H') : tSeq (tNotA t (tPairT y)) b D σ H := by
  refine ht _ fun a H1 x1 t1 e1 => ⟨_, hi, Nat.le_of_ble_eq_true rfl, fun a2 n2 => ?_⟩
  have s2 := same_new (o := .tup [.str y, va]) n2
  exact ⟨_, _, rfl, al_pair (s2 _ _ e1) upd_same ((od_extN x1 hO).same s2).al, fun H2 s3 => ⟨_, rfl, iteF (q _ (x1.trans (LamX.ExtN.of (s2.trans s3))) ((t1.ext s2).ext s3))⟩⟩
theorem values_rest2 (hO : Od H 3 va) (hS : OkS va) (hT : LamX.Tabs T H) (hp : Purse H p) (hb : (∃ z, va = .str z ∧ wordsD.contains z = false) ∨ ∀ z, va ≠ .str z) (q : ∀ H' : Hp, LamX.ExtN H H' → LamX.Tabs T H' → Q (.bl true) H') :
    tSeq (tNotA (tLamK K T C CT CF CX 1 1) (tPairT "turns")) (tSeq (tNotA (LamX.tLam T (TTold C CT CF CX) fun E => tMake C (spKinit K C CT CF) [.bl false] E (tCons (tVar 1) tNil)) (tPairT "turns"))
      (tSeq (tIfS (tAnd (tIsS K) (tTest (tOp (rIn K false) (tVar 1) (tLc (iList K (tCall spPairs [] E0 tNil)) (gName 6) tYes (tCall (spLine K) [] E0 (tCons (tVar 6) tNil)) [6])))) (tRet (tC (.bl true))) tNext)
        (tRet (tCall (spAlike 4) [] E0 (tCons (LamX.tLam T (TTold C CT CF CX) fun E => ClX.tCMeth C (spKread K C CX) E (tC (.ref C)) (tCons (tVar 1) tNil)) (tCons (tPairT "text") tNil))))))
      { nx := fun _ H' => Q .non H', rt := Q } [some (.ref p), some va, some vb, x3, x4, x5, x6] H := by
  have bad : ∀ G, Od G 3 va → (∃ z, va = .str z ∧ wordsD.contains z = false) ∨ ∀ H', LamX.ExtN G H' → NoS K H' va := fun G o => hb.elim .inl fun h => .inr fun H' x => od_noS (od_extN x o) h
  refine notA rfl hO hT (fun R r => lam_make hT rfl rfl rfl (.inl ⟨rfl, rfl⟩) (.inl ⟨rfl, rfl, bad H hO⟩) r) fun H1 x1 t1 => ?_
  have o1 := od_extN x1 hO
  refine notA rfl o1 t1 (fun R r => lam_make1 t1 rfl (bad H1 o1) r) fun H2 x2 t2 => ?_
  have o2 := od_extN x2 o1
  obtain ⟨Tn, ty, c⟩ := od_ty (K := K) o2
  have last : ∀ H3, Same H2 H3 → ((∃ z, va = .str z ∧ z.length ≤ 10000 ∧ wordsD.contains (offCalm z) = false) ∨ ∀ z, va ≠ .str z) →
      tRet (tCall (spAlike 4) [] E0 (tCons (LamX.tLam T (TTold C CT CF CX) fun E => ClX.tCMeth C (spKread K C CX) E (tC (.ref C)) (tCons (tVar 1) tNil)) (tCons (tPairT "text") tNil))) { nx := fun _ H' => Q .non H', rt := Q } [some (.ref p), some va, some vb, x3, x4, x5, x6] H3 := by
    intro H3 s3 h
    have o3 := o2.same s3
    refine lam_read (t2.ext s3) rfl (h.elim .inl fun h => .inr fun H' x => od_noS (od_extN x o3) h) fun a H4 x4 t4 e4 => ⟨_, rfl, Nat.le_of_ble_eq_true rfl, fun a2 n2 => ?_⟩
    have s5 := same_new (o := .tup [.str "text", va]) n2
    exact ⟨_, _, rfl, al_pair (s5 _ _ e4) upd_same ((od_extN x4 o3).same s5).al, fun H6 s6 => q _ ((((x1.trans x2).trans (LamX.ExtN.of s3)).trans x4).trans (LamX.ExtN.of (s5.trans s6))) ((t4.ext s5).ext s6)⟩
  have hs : (∃ z, va = .str z) ∧ kitB Tn "str" = some true ∨ (∀ z, va ≠ .str z) ∧ kitB Tn "str" = some false := by
    rcases c with ⟨⟨b, e⟩, _, k⟩ | ⟨z, _, k⟩ | ⟨_, z, _, k⟩
    · exact .inr ⟨fun z e2 => (by rw [e] at e2; cases e2), k⟩
    · exact .inl ⟨z, k⟩
    · exact .inr ⟨z, k⟩
  rcases hs with ⟨⟨z, rfl⟩, k⟩ | ⟨hz, k⟩
  · refine ⟨_, rfl, _, _, _, _, _, rfl, .ty _, ty, kit_ty k, _, rfl, iteT ⟨_, rfl, lines_have (Nat.le_of_ble_eq_true rfl) fun D H3 s3 e3 => ⟨D, _, rfl, .inl (SqL.of e3), rfl, flat_lines, _, rfl, ?_⟩⟩⟩
    rw [if_neg (by decide), inV_line]
    by_cases hl : z ∈ lineD
    · exact iteT2 (decide_eq_true hl) (q _ ((x1.trans x2).trans (LamX.ExtN.of s3)) (t2.ext s3))
    · refine iteN2 (decide_eq_false hl) (last H3 s3 (.inl ⟨z, rfl, Nat.le_trans (hS z rfl) (by decide), ?_⟩))
      cases cc : wordsD.contains (offCalm z) with
      | false => rfl
      | true => exact absurd (line_of cc) hl
  · exact ⟨_, rfl, _, _, _, _, _, rfl, .ty _, ty, kit_ty k, _, rfl, iteF (iteF (last H2 (Same.refl _) (.inr hz)))⟩
end
section
variable {K : PySem.W.Frag} {T : List (Addr × Str)} {C CT CF CX p : Addr} {va vb : V} {x3 x4 x5 x6 : Option V} {H : Hp} {Q : VK}
theorem values_rest (hO : Od H 3 va) (hS : OkS va) (hT : LamX.Tabs T H) (hp : Purse H p) {b : TS} (q : ∀ H' : Hp, LamX.ExtN H H' → LamX.Tabs T H' → Q (.bl true) H')
    (hb : ∀ H', Same H H' → ((∃ z, va = .str z ∧ wordsD.contains z = false) ∨ ∀ z, va ≠ .str z) → b { nx := fun _ H' => Q .non H', rt := Q } [some (.ref p), some va, some vb, x3, x4, x5, x6] H') :
    tSeq (tIfS (tAnd (tIsS K) (tB (tDIn (tVar 1) (tCall spLots [] E0 tNil)))) (tRet (tC (.bl true))) tNext) b { nx := fun _ H' => Q .non H', rt := Q } [some (.ref p), some va, some vb, x3, x4, x5, x6] H := by
  obtain ⟨Tn, ty, c⟩ := od_ty (K := K) hO
  rcases c with ⟨⟨b, e⟩, _, k⟩ | ⟨⟨z, rfl⟩, _, k⟩ | ⟨_, hz, _, k⟩
  · exact ⟨_, rfl, _, _, _, _, _, rfl, .ty _, ty, kit_ty k, _, rfl, iteF (iteF (hb H (Same.refl _) (.inr fun z e2 => by rw [e] at e2; cases e2)))⟩
  · refine ⟨_, rfl, _, _, _, _, _, rfl, .ty _, ty, kit_ty k, _, rfl, iteT ⟨_, rfl, rfl, fun d H1 kvs s1 e1 L1 => ?_⟩⟩
    cases cc : wordsD.contains z with
    | true =>
      obtain ⟨ll, ts, hv, _⟩ := lots_get cc L1
      refine ⟨d, some (.ref ll), rfl, ?_, _, rfl, iteT (q _ (LamX.ExtN.of s1) (hT.ext s1))⟩
      have g := DGet.k (k := .inr z) e1
      rw [hv] at g
      exact g
    | false =>
      refine ⟨d, none, rfl, ?_, _, rfl, iteF (hb H1 s1 (.inl ⟨z, rfl, cc⟩))⟩
      have g := DGet.k (k := .inr z) e1
      rw [lots_none cc L1] at g
      exact g
  · exact ⟨_, rfl, _, _, _, _, _, rfl, .ty _, ty, kit_ty k, _, rfl, iteF (iteF (hb H (Same.refl _) (.inr hz)))⟩
end
section
variable {P : Program} {w : World} {K : PySem.W.Frag} {mg : Str → Option Value} {base : Heap} {at_ : Str × Option Str} {fd fdt : FuncData} {ft C dL CT CF CX P1 P2 : Addr} {es : Array DictEntry} {n : Nat}
theorem c_values (T : Bt mg) (KK : KiK P w K mg base C dL CT CF CX es n) (TF : ToldF K mg CT CF CX) (Ft : FnP K "_law_told" s_told ft fdt) (mt : mg "_law_told" = some (.ref ft)) (TB : LamX.TabB base mg (He.codeOf K at_) P2) (ne : P1 ≠ P2)
    (F : FnP K "_law_values_right" s_values_right (He.fAd K at_) fd) (hm : mg "_law_values_right" = some (.ref (He.fAd K at_))) (k_draw : Cal P w K mg base 1 "_law_draw" spDraw) (k_odd : Cal P w K mg base 2 "_law_odd" spOdd2) (k_lots : Cal P w K mg base 1 "_law_lots" spLots)
    (k_pairs : Cal P w K mg base 2 "_law_pairs" spPairs) (k_line : Cal P w K mg base 1 "_law_line" (spLine K)) (k_alike : Cal P w K mg base 5 "_law_alike" (spAlike 4)) : Cal P w K mg base 8 "_law_values_right" (spTR (tabsT P1 P2)) := by
  have hnd := sc_values_right.nd
  have KF := KK.kf
  have mstr := KK.mstr
  have b_told : Binds K fdt ["_law_act"] [] := Ft.bindsN fun _ _ _ _ _ _ us hl => match us, hl with | [_], _ => rfl
  obtain ⟨fs, fds, hs, hsf, Fs, Bs⟩ := KK.str
  obtain ⟨mc, rp, rg, fdr, RC, RM, Fr, FR, BR⟩ := KK.rd
  obtain ⟨fi, fdi, KM, Fi, B1, B2, B3, ⟨ds, V4, B4⟩, B5⟩ := KK.mkr
  refine cal_mkC F hm sc_values_right (fun _ _ _ _ _ _ us hl => match us, hl with | [_], _ => rfl) (fun vs H Q E h => ?_) (fun cdv A outer s H vs Q E hcd hr h => ?_)
  · obtain ⟨p, rfl, _⟩ := h
    rfl
  · subst hcd
    obtain ⟨p, rfl, hp, hT, q⟩ := h
    have ktold := Ft.kp
    obtain ⟨oc, od, dV, kV, doc, pm, an, cdt, ct, osl, rfl, lk, hct, _, _⟩ := id Ft.ex
    refine ⟨_, (pss_cons (ps_pairL rfl (pa_cons (pe_cal k_odd hr (by omega) (by rfl) (pa_cons (pv 0) pa_nil)) (pa_cons (pe_cal k_odd hr (by omega) (by rfl) (pa_cons (pv 0) pa_nil)) pa_nil)) (pgs_cons (pg_name (i := 1) hnd rfl (by first | exact Or.inl rfl | exact Or.inr rfl)) (pgs_cons (pg_name (i := 2) hnd rfl (by first | exact Or.inl rfl | exact Or.inr rfl)) pgs_nil)) (by rfl) (by rfl) (by rfl))
      (pss_cons (ps_set (i := 3) hnd rfl (by first | exact Or.inl rfl | exact Or.inr rfl) (pe_ix ix_list (pe_callTy (call_list_dK (by rfl)) (by rfl) T.m_list (by decide +kernel) (pa_cons (pe_cal0 k_lots hr (by omega) (by rfl)) pa_nil)) (pe_cal k_draw hr (by omega) (by rfl) (pa_cons (pv 0) (pa_cons pe_int pa_nil))) (fun _ _ => rfl)))
      (pss_cons (ps_set (i := 4) hnd rfl (by first | exact Or.inl rfl | exact Or.inr rfl) (pe_callB call_isi (by rfl) T.m_isinstance (by decide +kernel) (pa_cons (pv 2) (pa_cons (pe_bltn (v := .ty "bool") (by rfl) T.m_bool (by decide +kernel) rfl) pa_nil))))
      (pss_cons (ps_set (i := 5) hnd rfl (by first | exact Or.inl rfl | exact Or.inr rfl) (pe_ifExp (pt_val (pv 4)) (pe_tup (pa_cons pe_str (pa_cons (pe_cal k_line hr (by omega) (by rfl) (pa_cons (pe_tup (pa_cons (pv 3) (pa_cons (pv 2) pa_nil))) pa_nil)) pa_nil))) (pe_tup (pa_cons pe_str (pa_cons (pv 2) pa_nil)))))
      (pss_cons (ps_if (pt_not (pt_val (pe_cal k_alike hr (by omega) (by rfl) (pa_cons (LamX.pe_lamcall (T := tabsT P1 P2) (k := 5) (P := P2) (by rfl) mt ktold lk hct b_told sc_told rfl (by first | exact .inl rfl | exact .inr (.inl rfl)) (told_gives KK.mstr TF Fs (hr.mono (by decide)) hs hsf Bs) TB rfl (List.mem_cons_of_mem _ List.mem_cons_self) (tabs_u2 ne) (hr.mono (by decide)) (LamX.lamS_by (sc := defScope s_values_right) (by decide +kernel)) rfl (fun _ _ _ _ _ => rfl) (fun A outer s H E f c' hr5 => (pe_makeK KM Fi (hr5.mono (by decide)) (by rfl) KF.mgC B1 (passes_call (takes_of rfl rfl rfl rfl) (fun _ _ _ _ h => h)) (pa_cons (pv 3) pa_nil) (pk_cons (pv 2) pk_nil)))) (pa_cons (pv 5) pa_nil)))))
      (pss_one (ps_ret pe_bl))
      pss_nil)
      (pss_cons (ps_if (PW.pt (pw_and (pt_val (pe_callB call_isi (by rfl) T.m_isinstance (by decide +kernel) (pa_cons (pv 1) (pa_cons (pe_bltn (v := .ty "str") (by rfl) mstr (by decide +kernel) rfl) pa_nil)))) (pw_and1 (pt_cmp (pc_din (hu_of hr) (pv 1) (pe_cal0 k_lots hr (by omega) (by rfl)))))))
      (pss_one (ps_ret pe_bl))
      pss_nil)
      (pss_cons (ps_if (pt_not (pt_val (pe_cal k_alike hr (by omega) (by rfl) (pa_cons (LamX.pe_lamcall (T := tabsT P1 P2) (k := 5) (P := P2) (by rfl) mt ktold lk hct b_told sc_told rfl (by first | exact .inl rfl | exact .inr (.inl rfl)) (told_gives KK.mstr TF Fs (hr.mono (by decide)) hs hsf Bs) TB rfl (List.mem_cons_of_mem _ List.mem_cons_self) (tabs_u2 ne) (hr.mono (by decide)) (LamX.lamS_by (sc := defScope s_values_right) (by decide +kernel)) rfl (fun _ _ _ _ _ => rfl) (fun A outer s H E f c' hr5 => (pe_makeK KM Fi (hr5.mono (by decide)) (by rfl) KF.mgC B1 (passes_call (takes_of rfl rfl rfl rfl) (fun _ _ _ _ h => h)) (pa_cons (pv 1) pa_nil) (pk_cons (pv 2) pk_nil)))) (pa_cons (pe_tup (pa_cons pe_str (pa_cons (pv 1) pa_nil))) pa_nil)))))
      (pss_one (ps_ret pe_bl))
      pss_nil)
      (pss_cons (ps_if (pt_not (pt_val (pe_cal k_alike hr (by omega) (by rfl) (pa_cons (LamX.pe_lamcall (T := tabsT P1 P2) (k := 5) (P := P2) (by rfl) mt ktold lk hct b_told sc_told rfl (by first | exact .inl rfl | exact .inr (.inl rfl)) (told_gives KK.mstr TF Fs (hr.mono (by decide)) hs hsf Bs) TB rfl (List.mem_cons_of_mem _ List.mem_cons_self) (tabs_u2 ne) (hr.mono (by decide)) (LamX.lamS_by (sc := defScope s_values_right) (by decide +kernel)) rfl (fun _ _ _ _ _ => rfl) (fun A outer s H E f c' hr5 => (pe_make KM Fi (hr5.mono (by decide)) (by rfl) KF.mgC B4 V4 (passes_call (takes_of rfl rfl rfl rfl) (fun _ _ _ _ h => h)) (pa_cons (pv 1) pa_nil)))) (pa_cons (pe_tup (pa_cons pe_str (pa_cons (pv 1) pa_nil))) pa_nil)))))
      (pss_one (ps_ret pe_bl))
      pss_nil)
      (pss_cons (ps_if (PW.pt (pw_and (pt_val (pe_callB call_isi (by rfl) T.m_isinstance (by decide +kernel) (pa_cons (pv 1) (pa_cons (pe_bltn (v := .ty "str") (by rfl) mstr (by decide +kernel) rfl) pa_nil)))) (pw_and1 (pt_cmpR op_in_seq (pv 1) (pe_lc (own := [("_law_pair", 6)]) (tt := tYes) (by rfl) hnd (pi_list (pe_cal0 k_pairs hr (by omega) (by rfl))) (blkOk_by (own := [("_law_pair", 6)]) (N := N_values_right) (sc := defScope s_values_right) (by decide +kernel)) (fun _ _ _ _ _ => (pg_name (i := 6) hnd rfl (by first | exact Or.inl rfl | exact Or.inr rfl))) (fun _ _ _ _ _ => pts_nil) (fun _ _ _ _ _ => (pe_cal k_line hr (by omega) (by rfl) (pa_cons (pv 6) pa_nil)))) (by rfl)))))
      (pss_one (ps_ret pe_bl))
      pss_nil)
      (pss_one (ps_ret (pe_cal k_alike hr (by omega) (by rfl) (pa_cons (LamX.pe_lamcall (T := tabsT P1 P2) (k := 5) (P := P2) (by rfl) mt ktold lk hct b_told sc_told rfl (by first | exact .inl rfl | exact .inr (.inl rfl)) (told_gives KK.mstr TF Fs (hr.mono (by decide)) hs hsf Bs) TB rfl (List.mem_cons_of_mem _ List.mem_cons_self) (tabs_u2 ne) (hr.mono (by decide)) (LamX.lamS_by (sc := defScope s_values_right) (by decide +kernel)) rfl (fun _ _ _ _ _ => rfl) (fun A outer s H E f c' hr5 => ClX.pe_cmeth (pe_glob (v := .ref C) (by rfl) KF.mgC rfl) RC RM FR hr5 (passes_call (takes_of rfl rfl rfl rfl) (fun _ _ _ _ h => h)) (pa_cons (pv 1) pa_nil))) (pa_cons (pe_tup (pa_cons pe_str (pa_cons (pv 1) pa_nil))) pa_nil)))))))))))))), ?_⟩
    refine ⟨_, rfl, p, rfl, hp, fun va H1 s1 u1 oa osa => ⟨_, rfl, p, rfl, u1, fun vb H2 s2 u2 ob osb => ⟨rfl, _, _, rfl, _, _, rfl, rfl, ?_⟩⟩⟩
    have oa2 := od_B oa u1 s2
    refine ⟨rfl, fun d H3 kvs s3 e3 L3 => ⟨d, kvs, rfl, e3, fun w nw => ?_⟩⟩
    rw [L3.keys]
    have s4 := same_new (o := .lst (wordsD.map V.str)) nw
    have e4 := upd_same (H := H3) (a := w) (o := .lst (wordsD.map V.str))
    generalize upd H3 w (.lst (wordsD.map V.str)) = H4 at s4 e4 ⊢
    have u4 := u2.same (s3.trans s4)
    refine ⟨_, rfl, p, 6, rfl, u4, by decide, by decide, fun k H5 b0 b1 s5 u5 => ?_⟩
    obtain ⟨word, hk, mw⟩ := word_at b0 b1
    have nwp : w ≠ p := fun z => by
      obtain ⟨st, dg, c, e, _⟩ := u4.ex
      rw [← z, e4] at e
      have := congrArg (fun o : Option HO => match o with | some (.lst xs) => xs.length | _ => 0) e
      simp at this
      exact absurd this (by decide)
    refine ⟨w, _, k, .str word, rfl, rfl, SqL.of (s5 _ _ nwp e4), hk, ?_⟩
    have oa5 : Od H5 3 va := od_B (oa2.same (s3.trans s4)) u4 s5
    have ob5 : Od H5 3 vb := od_B (ob.same (s3.trans s4)) u4 s5
    have sB : SameB p H H5 := (s1.trans s2).trans ((SameB.of (s3.trans s4)).trans s5)
    have t5 : LamX.Tabs (tabsT P1 P2) H5 := tabs_B hT hp sB
    have hwc : wordsD.contains word = true := List.contains_iff_mem.mpr mw
    have hwl : word.length ≤ 1000 := Nat.le_trans ((show ∀ z ∈ wordsD, z.length ≤ 5 by decide +kernel) word mw) (by decide)
    refine gname_go ?_
    dsimp only
    obtain ⟨Tb, tyb, cb⟩ := od_ty (K := K) ob5
    have q5 : ∀ H', LamX.ExtN H5 H' → LamX.Tabs (tabsT P1 P2) H' → Q (.bl true) H' := fun H' x t => q H' ((ExtB.ofB sB).trans (ExtB.ofN x)) (purse_N u5 x) t
    have fin : ∀ (x4 x5 x6 : Option V) (H6 : Hp), LamX.ExtN H5 H6 → LamX.Tabs (tabsT P1 P2) H6 → _ := fun x4 x5 x6 H6 x t => values_rest (K := K) (b := _) (x3 := some (.str word)) (x4 := x4) (x5 := x5) (x6 := x6) (vb := vb) (od_extN x oa5) osa t (purse_N u5 x) (fun H' x' t' => q5 H' (x.trans x') t') fun H7 s7 hb =>
      values_rest2 (K := K) (C := C) (CT := CT) (CF := CF) (CX := CX) ((od_extN x oa5).same s7) osa (t.ext s7) ((purse_N u5 x).same s7) hb fun H' x' t' => q5 H' ((x.trans (LamX.ExtN.of s7)).trans x') t'
    have good : (∃ b, vb = .bl b) ∧ kitB Tb "bool" = some true ∨ (∀ b, vb ≠ .bl b) ∧ kitB Tb "bool" = some false := by
      rcases cb with ⟨h, k, _⟩ | ⟨⟨z, e⟩, k, _⟩ | ⟨h, _, k, _⟩
      · exact .inl ⟨h, k⟩
      · exact .inr ⟨fun b e2 => (by rw [e] at e2; cases e2), k⟩
      · exact .inr ⟨h, k⟩
    rcases good with ⟨⟨b, rfl⟩, k⟩ | ⟨hb, k⟩
    · refine ⟨_, rfl, _, _, _, _, _, rfl, .ty _, tyb, kit_ty k, ?_⟩
      refine ⟨_, rfl, _, rfl, iteT ⟨_, rfl, _, rfl, Nat.le_of_ble_eq_true rfl, fun t6 n6 => ?_⟩⟩
      have s6 := same_new (o := .tup [.str word, .bl b]) n6
      refine ⟨t6, word, b, rfl, upd_same, hwl, Nat.le_of_ble_eq_true rfl, fun t7 n7 => ?_⟩
      have s7 := same_new (o := .tup [.str "kind", .str (lineS word b)]) n7
      have x7 := LamX.ExtN.of (s6.trans s7)
      refine lam_kind ((t5.ext s6).ext s7) rfl rfl rfl hwc hwl fun a8 H8 x8 t8 e8 => ⟨_, rfl, _, _, rfl, ?_, fun H9 s9 => ⟨_, rfl, iteF (fin _ _ _ H9 ((x7.trans x8).trans (LamX.ExtN.of s9)) (t8.ext s9))⟩⟩
      have lk2 : lineS word b = kindS word b := line_kind (word, b) (by
        cases b
        · exact List.mem_append_left _ (List.mem_map_of_mem mw)
        · exact List.mem_append_right _ (List.mem_map_of_mem mw))
      refine al_pair e8 ?_ (.inl ⟨rfl, rfl⟩)
      rw [← lk2]
      exact x8 _ _ upd_same fun ps z => by cases z
    · refine ⟨_, rfl, _, _, _, _, _, rfl, .ty _, tyb, kit_ty k, ?_⟩
      refine ⟨_, rfl, _, rfl, iteF ⟨_, rfl, Nat.le_of_ble_eq_true rfl, fun t7 n7 => ?_⟩⟩
      have s7 := same_new (o := .tup [.str "flag", vb]) n7
      refine lam_make (Cc := CF) (y := "flag") (t5.ext s7) rfl rfl rfl (.inr (.inl ⟨rfl, rfl⟩)) (.inr ⟨rfl, rfl, word, rfl, hwc, hb⟩) fun a8 H8 x8 t8 e8 => ⟨_, rfl, _, _, rfl, ?_, fun H9 s9 => ⟨_, rfl, iteF (fin _ _ _ H9 (((LamX.ExtN.of s7).trans x8).trans (LamX.ExtN.of s9)) (t8.ext s9))⟩⟩
      exact al_pair e8 (x8 _ _ upd_same fun ps z => by cases z) (od_extN x8 (ob5.same s7)).al
end
end L2.K2
set_option Elab.async false
set_option linter.all false
set_option maxRecDepth 100000
set_option maxHeartbeats 8000000
namespace L2.K2
open PySem PySem.Spec PyProof.Rows L2.Tb
abbrev s_right : Stmt := top 31
abbrev N_right : List Str := ["_law_purse_here"]
theorem sc_right : FnScope N_right ["_law_purse_here"] (defScope s_right) := ⟨rfl, rfl, rfl, by decide +kernel, rfl, by decide +kernel, by decide +kernel⟩
abbrev s_law : Stmt := top 32
abbrev N_law : List Str := ["_law_cells", "_law_k"]
theorem sc_law : FnScope N_law ["_law_cells"] (defScope s_law) := ⟨rfl, rfl, rfl, by decide +kernel, rfl, by decide +kernel, by decide +kernel⟩
theorem sq_same {K : PySem.W.Frag} {H H' : Hp} {a : Addr} {xs : List V} (h : SqL K H a xs) (s : LamX.ExtN H H') : SqL K H' a xs := by
  rcases h with (h | ⟨o, h⟩) | h
  · exact .inl (.inl (s _ _ h (fun ps z => by cases z)))
  · exact .inl (.inr ⟨o, s _ _ h (fun ps z => by cases z)⟩)
  · exact .inr h
def spLaw (K : PySem.W.Frag) (T : List (Addr × Str)) : Sp := fun vs H Q _ => ∃ (a : Addr) (ns : List Int), vs = [.ref a] ∧ SqL K H a (ns.map V.int) ∧ (∀ z ∈ ns, iBits z ≤ 1048576) ∧ ns.length ≤ 63 ∧ LamX.Tabs T H ∧ ∀ H' : Hp, Q (.bl true) H'
def spKinds : Sp := fun vs H Q _ => vs = [] ∧ ∀ H' : Hp, Same H H' → Q (.bl true) H'
section
variable {P : Program} {w : World} {K : PySem.W.Frag} {mg : Str → Option Value} {base : Heap} {f : Addr} {fd : FuncData} {T : List (Addr × Str)} {A : Around}
theorem c_right (F : FnP K "_law_right" s_right f fd) (hm : mg "_law_right" = some (.ref f)) (k_text_right : Cal P w K mg base 8 "_law_text_right" (spTR T)) (k_values_right : Cal P w K mg base 8 "_law_values_right" (spTR T)) : Cal P w K mg base 9 "_law_right" (spTR T) := by
  have hnd := sc_right.nd
  refine cal_mk F hm sc_right (fun _ _ _ _ _ _ us hl => match us, hl with | [_], _ => rfl) (fun vs H Q E h => ?_) (fun cdv A outer s H vs Q E hr h => ?_)
  · obtain ⟨p, rfl, _⟩ := h
    rfl
  · obtain ⟨p, rfl, hp, hT, q⟩ := h
    refine ⟨_, (pss_one (ps_ret (pe_and (pe_cal k_text_right hr (by omega) (by rfl) (pa_cons (pv 0) pa_nil)) (pe_and (pe_cal k_text_right hr (by omega) (by rfl) (pa_cons (pv 0) pa_nil)) (pe_one (pe_cal k_values_right hr (by omega) (by rfl) (pa_cons (pv 0) pa_nil))))))), ?_⟩
    refine ⟨_, rfl, p, rfl, hp, hT, fun H1 x1 u1 t1 => ⟨_, rfl, iteT ⟨_, rfl, p, rfl, u1, t1, fun H2 x2 u2 t2 => ⟨_, rfl, iteT ⟨_, rfl, p, rfl, u2, t2, fun H3 x3 u3 t3 => ?_⟩⟩⟩⟩⟩
    exact q _ ((x1.trans x2).trans x3) u3 t3
theorem r_law {fc : Addr} {fdc : FuncData} (T0 : Bt mg) (F : FnP K "law" s_law f fd) (hroom : Room 10 A) (rc : ∀ env, RunsAt P w K mg base fc fdc [] spKinds (A.deeper env)) (mc : mg "_law_kinds_right" = some (.ref fc)) (kc : PySem.W.keepIn K (.ref fc) = true)
    (bc : ∀ s : Shared, K.In s.heap → BindsTo s fdc ⟨[], []⟩ []) (k_cell : Cal P w K mg base 1 "_law_cell" (spCell K)) (k_purse : Cal P w K mg base 1 "_law_purse" spPurse) (k_right : Cal P w K mg base 9 "_law_right" (spTR T)) : RunsAt P w K mg base f fd ["_law_cells"] (spLaw K T) A := by
  have T := T0
  have hnd := sc_law.nd
  refine runs_body F sc_law hroom fun cdv outer s H vs Q E hr h => ?_
  obtain ⟨a, ns, rfl, hs, hb, hl, hT, q⟩ := h
  refine ⟨_, (pss_cons (ps_if (pt_not (pt_val (pe_at0 (rc _) (by rfl) mc kc bc)))
      (pss_one (ps_ret pe_bl))
      pss_nil)
      (pss_one (ps_ret (pe_callB (cr_all (by rfl)) (by rfl) T.m_all (by decide +kernel) (pa_cons (pe_lc (own := [("_law_k", 1)]) (tt := tYes) (by rfl) hnd (pi_range1 (by rfl) T.m_range (pa_cons (pe_callB (call_max2 (by rfl)) (by rfl) T.m_max (by decide +kernel) (pa_cons pe_int (pa_cons (pe_callB (call_min2 (by rfl)) (by rfl) T.m_min (by decide +kernel) (pa_cons (pe_callB call_len_seq (by rfl) T.m_len (by decide +kernel) (pa_cons (pv 0) pa_nil)) (pa_cons pe_int pa_nil))) pa_nil))) pa_nil)) (blkOk_by (own := [("_law_k", 1)]) (N := N_law) (sc := defScope s_law) (by decide +kernel)) (fun _ _ _ _ _ => (pg_name (i := 1) hnd rfl (by first | exact Or.inl rfl | exact Or.inr rfl))) (fun _ _ _ _ _ => pts_nil) (fun _ _ _ _ _ => (pe_cal k_right hr (by omega) (by rfl) (pa_cons (pe_cal k_purse hr (by omega) (by rfl) (pa_cons (pe_cal k_cell hr (by omega) (by rfl) (pa_cons (pv 0) (pa_cons (pv 1) pa_nil))) pa_nil)) pa_nil)))) pa_nil))))), ?_⟩
  refine ⟨rfl, fun H0 s0 => ⟨_, rfl, iteF ?_⟩⟩
  have x0 := LamX.ExtN.of s0
  refine ⟨_, rfl, a, _, rfl, .inl (sq_same hs x0), _, _, rfl, _, _, rfl, _, rfl, ?_⟩
  have hb0 : ∀ z : Int, 0 ≤ (if (if 6 < z then 6 else z) > 2 then if 6 < z then 6 else z else 2) ∧ (if (if 6 < z then 6 else z) > 2 then if 6 < z then 6 else z else 2) ≤ 6 := fun z => by
    by_cases h1 : 6 < z
    · rw [if_pos h1, if_pos (by decide)]
      decide
    · rw [if_neg h1]
      by_cases h2 : z > 2
      · rw [if_pos h2]
        omega
      · rw [if_neg h2]
        decide
  have hm := hb0 ((ns.map V.int).length : Nat)
  generalize (if (if 6 < (((ns.map V.int).length : Nat) : Int) then 6 else (((ns.map V.int).length : Nat) : Int)) > 2 then if 6 < (((ns.map V.int).length : Nat) : Int) then 6 else (((ns.map V.int).length : Nat) : Int) else 2) = m at hm ⊢
  refine ⟨by omega, by omega, fun D nD => ?_⟩
  refine lc_range (fun n H' => LamX.ExtN H0 H' ∧ LamX.Tabs _ H' ∧ H' D = some (.lst (List.replicate n (.bl true)))) ⟨LamX.ExtN.of (same_new nD), (hT.ext s0).ext (same_new nD), upd_same⟩ ?_ ?_
  · rintro j H1 hj ⟨x1, t1, e1⟩
    refine ⟨rfl, ?_⟩
    unfold tYes
    dsimp only
    rw [if_pos rfl]
    refine ⟨_, rfl, _, rfl, a, ns, j, by rw [Int.zero_add]; rfl, sq_same hs (x0.trans x1), hb, by omega, fun z H2 s2 hz => ⟨z, rfl, hz, fun p H3 s3 np hp => ⟨p, rfl, hp, (t1.ext s2).ext s3, fun H4 x4 u4 t4 => ?_⟩⟩⟩
    have x24 : LamX.ExtN H2 H4 := fun b o e n => x4 b o (ne_of_none e np) (s3 b o e) n
    have x14 := (LamX.ExtN.of s2).trans x24
    have e4 := x14 _ _ e1 (fun ps z => by cases z)
    have nDx : ∀ {H5 : Hp} {o : HO}, LamX.ExtN H0 H5 → LamX.ExtN H0 (upd H5 D o) := fun {H5 o} x b u e n => by
      rw [upd_ne (ne_of_none e nD)]
      exact x b u e n
    refine ⟨_, e4, by rw [List.length_replicate, sizeLine_eq]; omega, nDx (x1.trans x14), ?_, by rw [upd_same, rep_succ]⟩
    have out : ∀ {b o}, H4 b = some o → (∀ xs, o ≠ .lst xs) → (upd H4 D (.lst (List.replicate j (.bl true) ++ [.bl true]))) b = some o := fun {b o} eb no => by
      rw [upd_ne fun z => ?_]
      · exact eb
      · rw [z, e4] at eb
        exact no _ (Option.some.inj eb).symm
    intro q' hq
    obtain ⟨ps, h1, h2, h3⟩ := t4 q' hq
    refine ⟨ps, out h1 (fun xs z => by cases z), h2, fun pos cv hc => ?_⟩
    obtain ⟨c', y1, y2⟩ := h3 pos cv hc
    refine ⟨c', y1, out y2 fun xs z => ?_⟩
    unfold LamX.CodeO at z
    cases z
  · rintro H1 ⟨x1, t1, e1⟩
    refine ⟨D, List.replicate _ true, rfl, SqL.of (by rw [e1, List.map_replicate]), ?_⟩
    rw [show (List.replicate m.toNat true).all id = true from List.all_eq_true.mpr fun b' hb' => by rw [List.eq_of_mem_replicate hb']; rfl]
    exact q _
end
end L2.K2
set_option Elab.async false
set_option linter.all false
set_option maxRecDepth 100000
set_option maxHeartbeats 8000000
namespace L2.K2
open PySem PySem.Spec PyProof.Rows L2.Tb
/-! ### Kind at the head -/
def kindB (K : PySem.W.Frag) (C : Addr) : Bool := (He.Fa.cls "Kind").ok K && ((He.Fa.noat "Kind" "_turns").ok K && ((He.Fa.noat "Kind" "_calm").ok K && ((He.Fa.mkr "Kind").ok K && (insB K C && ((He.Fa.meth "Kind" "__str__").ok K && ((He.Fa.meth "Kind" "__eq__").ok K &&
  (He.eqO (PySem.W.findIn K (.ref C) "__ne__") (some (some (.builtin "object.__ne__"))) && (propB K C "turns" && (propB K C "calm" && (propB K C "lot" && (creadB K C && (cmetB K C "read" && (decide (PySem.W.kitOne K (.ref C) (.ref C) = some true) &&
  (decide (PySem.W.kitOne K (.type "str") (.ref C) = some false) && decide (PySem.W.kitOne K (.type "list") (.ref C) = some false)))))))))))))))
def turnsB (K : PySem.W.Frag) : List Addr → List Turn → Bool
  | [], [] => true
  | t :: ts, u :: us => tupB K t (turnV u) && turnsB K ts us
  | _, _ => false
def lotB (K : PySem.W.Frag) (l : Addr) (lot : List Turn) : Bool := tupB K l ((refsIn K l).map V.ref) && turnsB K (refsIn K l) lot
def lotsB (K : PySem.W.Frag) (d : Addr) : Bool := keysB K d wordsD && wordsD.all fun z => refB K d z && lotB K (refOf K d z) (lotOf z)
theorem turnsB_ok {K : PySem.W.Frag} : ∀ {ts : List Addr} {us : List Turn}, turnsB K ts us = true → Paired (fun t u => ∀ H, SqT K H t (turnV u)) ts us
  | [], [], _ => .nil
  | t :: ts, u :: us, h => .cons (tupB_ok (He.ba h).1) (turnsB_ok (He.ba h).2)
  | [], _ :: _, h => by cases h
  | _ :: _, [], h => by cases h
theorem lotB_ok {K : PySem.W.Frag} {l : Addr} {lot : List Turn} (h : lotB K l lot = true) : LotK K l lot := ⟨refsIn K l, tupB_ok (He.ba h).1, turnsB_ok (He.ba h).2⟩
theorem lotsB_ok {K : PySem.W.Frag} {w : World} {d : Addr} {es : Array DictEntry} {n : Nat} (h : lotsB K d = true) (D : KDict K w d es n) : (∀ z, ∃ r, PySem.W.nsIn K d z = some r ∧ r.isSome = wordsD.contains z) ∧ ∀ z, wordsD.contains z = true → ∃ l, KDct K w d z (.ref l) ∧ LotK K l (lotOf z) := by
  obtain ⟨h1, h2⟩ := He.ba h
  refine ⟨keysB_ok h1, fun z hz => ?_⟩
  obtain ⟨h3, h4⟩ := He.ba (List.all_eq_true.mp h2 z (List.contains_iff_mem.mp hz))
  exact ⟨_, ⟨es, n, _, D.at_, D.lit, He.eqO_ok h3, rfl⟩, lotB_ok h4⟩
def errsB (K : PySem.W.Frag) (xs : List Str) : Bool := xs.all (fun x => ercB K bVE x "given" && (decide (PySem.W.typeIn K (.ref (He.ga K x)) = some (.type "type")) && (xfB K (He.ga K x) && (He.Fa.noat x "given").ok K))) &&
  xs.all fun x => xs.all fun y => decide (PySem.W.exmOne K (.ref (He.ga K x)) (.ref (He.ga K y)) = some (x == y))
theorem errsB_ok {K : PySem.W.Frag} {xs : List Str} (h : errsB K xs = true) : (∀ x ∈ xs, ercB K bVE x "given" = true ∧ PySem.W.typeIn K (.ref (He.ga K x)) = some (.type "type") ∧ XfC K (He.ga K x) ∧ PySem.W.findIn K (.ref (He.ga K x)) "given" = some none) ∧
    ∀ x ∈ xs, ∀ y ∈ xs, PySem.W.exmOne K (.ref (He.ga K x)) (.ref (He.ga K y)) = some (x == y) := by
  obtain ⟨h1, h2⟩ := He.ba h
  refine ⟨fun x hx => ?_, fun x hx y hy => of_decide_eq_true (List.all_eq_true.mp (List.all_eq_true.mp h2 x hx) y hy)⟩
  obtain ⟨a, q⟩ := He.ba (List.all_eq_true.mp h1 x hx)
  obtain ⟨b, q⟩ := He.ba q
  obtain ⟨c, d⟩ := He.ba q
  exact ⟨a, of_decide_eq_true b, xfB_ok c, He.noat_ok d⟩
section
variable {P : Program} {w : World} {K : PySem.W.Frag} {mg : Str → Option Value} {base : Heap} {fi : Addr} {fdi : FuncData}
abbrev FunK (K : PySem.W.Frag) (x q : Str) (st : Stmt) (kws : List (Str × V)) (f : Addr) (fd : FuncData) : Prop := FunD K x q (defArgs st) (defBody st) (defScope st) [] kws f fd
theorem kinit_binds (F : FunK K "__init__" "Kind.__init__" s_kinit [("calm", .bl false)] fi fdi) : KBn K fdi kps 2 ["calm"] (fun us ws => us ++ ws) (fun us ws => us ++ ws) ∧ KBn K fdi kps 1 ["turns", "calm"] (fun us ws => us ++ ws) (fun us ws => us ++ ws) ∧
    KBn K fdi kps 1 ["calm", "turns"] (fun us ws => us ++ ws.reverse) (fun us ws => us ++ ws.reverse) ∧ (∃ ds, Vals [V.bl false] ds ∧ Binds K fdi kps ds) ∧ (∃ dv, KBn K fdi kps 1 ["turns"] (fun us ws => us ++ (ws ++ dv)) (fun us ws => us ++ (ws ++ [.bl false]))) := by
  refine ⟨?_, ?_, ?_, ?_, ?_⟩
  · obtain ⟨mv, h⟩ := FunD.kbinds0 (ps := kps) F 2 ["calm"] [] (fun us _ ws => us ++ ws) (by simp) (by simp) (fun r1 _ r3 => r1.append r3) fun D doc pm an cdv ct us mv ws l1 l2 l3 => match us, mv, ws, l1, l2, l3 with
      | [_, _], [], [_], _, _, _ => rfl
    exact h
  · obtain ⟨mv, h⟩ := FunD.kbinds0 (ps := kps) F 1 ["turns", "calm"] [] (fun us _ ws => us ++ ws) (by simp) (by simp) (fun r1 _ r3 => r1.append r3) fun D doc pm an cdv ct us mv ws l1 l2 l3 => match us, mv, ws, l1, l2, l3 with
      | [_], [], [_, _], _, _, _ => rfl
    exact h
  · have rev : ∀ {vs : List V} {us : List Value}, Vals vs us → Vals vs.reverse us.reverse := fun {vs us} r => by
      induction r with
      | nil => exact .nil
      | cons a _ ih =>
        rw [List.reverse_cons, List.reverse_cons]
        exact ih.append (.cons a .nil)
    obtain ⟨mv, h⟩ := FunD.kbinds0 (ps := kps) F 1 ["calm", "turns"] [] (fun us _ ws => us ++ ws.reverse) (by simp) (by simp) (fun r1 _ r3 => r1.append (rev r3)) fun D doc pm an cdv ct us mv ws l1 l2 l3 => match us, mv, ws, l1, l2, l3 with
      | [_], [], [_, _], _, _, _ => rfl
    exact h
  · exact FunD.binds0 (ps := kps) F 2 (by simp) rfl fun D doc pm an cdv ct us ks l1 l2 => match us, ks, l1, l2 with
      | [_, _], [_], _, _ => ⟨_, _, _, _, _, _, rfl, rfl, rfl⟩
  · exact FunD.kbinds0 (ps := kps) F 1 ["turns"] [("calm", .bl false)] (fun us mz ws => us ++ (ws ++ mz)) (by simp) (by simp) (fun r1 r2 r3 => r1.append (r3.append r2)) fun D doc pm an cdv ct us mv ws l1 l2 l3 => match us, mv, ws, l1, l2, l3 with
      | [_], [_], [_], _, _, _ => ⟨_, _, _, _, _, _, rfl, rfl, rfl⟩
end
end L2.K2
set_option Elab.async false
set_option linter.all false
set_option maxRecDepth 100000
set_option maxHeartbeats 0
namespace L2.K2
open PySem PySem.Spec PyProof.Rows L2.Tb
/-! ### the head -/
def frees : List Str := [("len" : Str), ("int" : Str), ("abs" : Str), ("divmod" : Str), ("isinstance" : Str), ("tuple" : Str), ("list" : Str), ("bool" : Str), ("all" : Str), ("zip" : Str), ("range" : Str), ("max" : Str), ("min" : Str), ("enumerate" : Str), ("repr" : Str), ("sorted" : Str), ("ValueError" : Str), ("LookupError" : Str), ("ArithmeticError" : Str), ("str" : Str)]
def gloL : List Str := ["Kind", "LOTS", "InvalidTurns", "InvalidFlag", "InvalidText", "_law_cell", "_law_purse", "_law_draw", "_law_alike", "_law_odd", "_law_sign", "_law_bent", "_law_lots", "_law_pairs", "_law_line", "_law_told", "_law_kinds_right", "_law_text_right", "_law_values_right", "_law_right", "law"]
def errL : List Str := ["InvalidTurns", "InvalidFlag", "InvalidText"]
def factB (K : PySem.W.Frag) : Bool := gloL.all (fun x => (He.Fa.glo x).ok K) && (frees.all (fun x => (He.Fa.free x).ok K) && ((He.Fa.str "_CALM" "calm ").ok K && (kindB K (He.ga K "Kind") && (lotsB K (He.ga K "LOTS") && (errsB K errL && decide ((He.cT K ("_law_text_right", none)).2 ≠ (He.cT K ("_law_values_right", none)).2))))))
def dIn (at_ : PySem.W.Frag → Addr) (x q : Str) (st : Stmt) (kw : List (Str × He.Dv)) : He5.DefA := ⟨at_, x, q, defArgs st, defBody st, defScope st, [], kw⟩
def dTop (x : Str) (i : Nat) : He5.DefA := dIn (fun K => He.fAd K (x, none)) x x (top i) []
def fnA1 : List He5.DefA := [dTop "_law_cell" 17, dTop "_law_purse" 18, dTop "_law_draw" 19, dTop "_law_alike" 20, dTop "_law_odd" 21, dTop "_law_sign" 22, dTop "_law_bent" 23, dTop "_law_lots" 24, dTop "_law_pairs" 25, dTop "_law_line" 26, dTop "_law_told" 27, dTop "_law_kinds_right" 28, dTop "_law_text_right" 29, dTop "_law_values_right" 30, dTop "_law_right" 31, dTop "law" 32]
def fnA2 : List He5.DefA := [dIn (fun K => He.ma K (He.ga K "InvalidTurns") "__init__") "__init__" "InvalidTurns.__init__" (inClass (top 5) 0) [], dIn (fun K => He.ma K (He.ga K "InvalidFlag") "__init__") "__init__" "InvalidFlag.__init__" (inClass (top 4) 0) [], dIn (fun K => He.ma K (He.ga K "InvalidText") "__init__") "__init__" "InvalidText.__init__" (inClass (top 3) 0) [], dIn (fun K => He.ma K (He.ga K "Kind") "__init__") "__init__" "Kind.__init__" (inClass (top 12) 0) [("calm", .bl false)], dIn (fun K => cAd K (He.ga K "Kind") "read") "read" "Kind.read" (inClass (top 12) 1) [], dIn (fun K => pAd K (He.ga K "Kind") "turns") "turns" "Kind.turns" (inClass (top 12) 2) [], dIn (fun K => pAd K (He.ga K "Kind") "calm") "calm" "Kind.calm" (inClass (top 12) 3) [], dIn (fun K => pAd K (He.ga K "Kind") "lot") "lot" "Kind.lot" (inClass (top 12) 4) [], dIn (fun K => He.ma K (He.ga K "Kind") "__str__") "__str__" "Kind.__str__" (inClass (top 12) 10) [], dIn (fun K => He.ma K (He.ga K "Kind") "__eq__") "__eq__" "Kind.__eq__" (inClass (top 12) 9) []]
def fnA : List He5.DefA := fnA1 ++ fnA2
def tabL : List He.Tab := [(fun K => He.ga K "LOTS", wordsD)]
def cdL : List He.Defn := [("_law_text_right", none), ("_law_values_right", none)]
abbrev hookX : PySem.W.Hook := hookH 5 factB fnA tabL cdL
abbrev R : PySem.W.OpenRow := PySem.W.OpenLaw.row PySem.Challenge.rw_thirdback_k02_kinds_and_their_texts
def ob (s : PySem.W.SharedT) : AlH := obsH 5 factB fnA tabL cdL (HandSHeadRun.getT s)
theorem ob_eq (s : PySem.W.SharedT) : ob s = hookX.obs s.abs := obH_eq s
def looseN : List Str := [("WrongValue" : Str), ("InvalidText" : Str), ("InvalidFlag" : Str), ("InvalidTurns" : Str), ("NotAKind" : Str), ("WrongName" : Str), ("NoAnswer" : Str), ("Kind" : Str), ("LOTS" : Str), ("_CALM" : Str), ("_wall" : Str), ("check_kind" : Str), ("_holds" : Str), ("_least_lot" : Str), ("_law_cell" : Str), ("_law_purse" : Str), ("_law_draw" : Str), ("_law_alike" : Str), ("_law_odd" : Str), ("_law_sign" : Str), ("_law_bent" : Str), ("_law_lots" : Str), ("_law_pairs" : Str), ("_law_line" : Str), ("_law_told" : Str), ("_law_kinds_right" : Str), ("_law_text_right" : Str), ("_law_values_right" : Str), ("_law_right" : Str)]
theorem run (w : World) : HandSHeadRun.RunEq R (PySem.W.view R.prog [32]) hookX ob 20000 looseN w := by
  refine PySem.W.byRow2 "special-get-raises" (P := fun w => HandSHeadRun.RunEq R (PySem.W.view R.prog [32]) hookX ob 20000 looseN w) (fun w os => ?_) (fun w os => ?_) w
  · kernel_rfl
  · kernel_rfl
end L2.K2
set_option Elab.async false
set_option linter.all false
set_option maxRecDepth 100000
set_option maxHeartbeats 0
namespace L2.K2
open PySem PySem.Spec PyProof.Rows L2.Tb
theorem read_kw {K : PySem.W.Frag} {f : Addr} {fd : FuncData} {C : Addr} (F : FunK K "read" "Kind.read" s_kread [] f fd) (sh : Shared) (zs : List Value) (hl : zs.length = (["text"] : List Str).length) :
    BindsTo sh fd ⟨[.ref C], (["text"] : List Str).zip zs⟩ ((["cls", "text"] : List Str).zip (Value.ref C :: zs)) := by
  match zs, hl with
  | [v], _ =>
    obtain ⟨oc, od, dV, kV, doc, pm, an, cdv, ct, osl, rfl, lk, hcd, hD, hK⟩ := F.ex
    rcases hD with ⟨_, rfl⟩ | ⟨e, _⟩
    · exact .of_eq rfl
    · exact absurd rfl e
section
variable {P : Program} {w : World} {K : PySem.W.Frag} {mg : Str → Option Value} {h : Heap}
theorem ends {f : Addr} (G : h.Ns mainGlobals mg) (hfa : mg ("law" : Str) = some (.ref f)) (c : SaysH factB fnA tabL cdL w h K) :
    ∃ (fd : FuncData) (T : List (Addr × Str)), (∀ (s : Shared) (v : Value), BindsTo s fd ⟨[v], []⟩ [("_law_cells", v)]) ∧ (∀ H : Hp, (∀ p ∈ cdL.map (He.cT K), H p.2 = some (.tbl #[])) → LamX.Tabs T H) ∧
      ∀ base : Heap, K.In base → base.Ns mainGlobals mg → (∀ p ∈ cdL.map (He.cT K), LamX.TabB base mg p.1 p.2) → RunsAt P w K mg base f fd ["_law_cells"] (spLaw K T) callerA := by
  have X := c.kin
  obtain ⟨f1, z⟩ := He.ba (show factB K = true from c.fb)
  obtain ⟨f2, z⟩ := He.ba z
  obtain ⟨f3, z⟩ := He.ba z
  obtain ⟨f4, z⟩ := He.ba z
  obtain ⟨f5, z⟩ := He.ba z
  obtain ⟨f6, f7⟩ := He.ba z
  have ne : (He.cT K ("_law_text_right", none)).2 ≠ (He.cT K ("_law_values_right", none)).2 := of_decide_eq_true f7
  obtain ⟨er1, er2⟩ := errsB_ok f6
  have T : Bt mg := ⟨He.free_ok X G (all_get f2 0), He.free_ok X G (all_get f2 1), He.free_ok X G (all_get f2 2), He.free_ok X G (all_get f2 3), He.free_ok X G (all_get f2 4), He.free_ok X G (all_get f2 5), He.free_ok X G (all_get f2 6), He.free_ok X G (all_get f2 7), He.free_ok X G (all_get f2 8), He.free_ok X G (all_get f2 9), He.free_ok X G (all_get f2 10), He.free_ok X G (all_get f2 11), He.free_ok X G (all_get f2 12), He.free_ok X G (all_get f2 13), He.free_ok X G (all_get f2 14), He.free_ok X G (all_get f2 15), He.free_ok X G (all_get f2 16), He.free_ok X G (all_get f2 17), He.free_ok X G (all_get f2 18)⟩
  have mstr : mg "str" = none := He.free_ok X G (all_get f2 19)
  obtain ⟨fd_cell, F_cell⟩ := c.nth (d := dTop "_law_cell" 17) 0
  have g_cell := He.glo_ok X G (all_get f1 5)
  obtain ⟨fd_purse, F_purse⟩ := c.nth (d := dTop "_law_purse" 18) 1
  have g_purse := He.glo_ok X G (all_get f1 6)
  obtain ⟨fd_draw, F_draw⟩ := c.nth (d := dTop "_law_draw" 19) 2
  have g_draw := He.glo_ok X G (all_get f1 7)
  obtain ⟨fd_alike, F_alike⟩ := c.nth (d := dTop "_law_alike" 20) 3
  have g_alike := He.glo_ok X G (all_get f1 8)
  obtain ⟨fd_odd, F_odd⟩ := c.nth (d := dTop "_law_odd" 21) 4
  have g_odd := He.glo_ok X G (all_get f1 9)
  obtain ⟨fd_sign, F_sign⟩ := c.nth (d := dTop "_law_sign" 22) 5
  have g_sign := He.glo_ok X G (all_get f1 10)
  obtain ⟨fd_bent, F_bent⟩ := c.nth (d := dTop "_law_bent" 23) 6
  have g_bent := He.glo_ok X G (all_get f1 11)
  obtain ⟨fd_lots, F_lots⟩ := c.nth (d := dTop "_law_lots" 24) 7
  have g_lots := He.glo_ok X G (all_get f1 12)
  obtain ⟨fd_pairs, F_pairs⟩ := c.nth (d := dTop "_law_pairs" 25) 8
  have g_pairs := He.glo_ok X G (all_get f1 13)
  obtain ⟨fd_line, F_line⟩ := c.nth (d := dTop "_law_line" 26) 9
  have g_line := He.glo_ok X G (all_get f1 14)
  obtain ⟨fd_told, F_told⟩ := c.nth (d := dTop "_law_told" 27) 10
  have g_told := He.glo_ok X G (all_get f1 15)
  obtain ⟨fd_kinds_right, F_kinds_right⟩ := c.nth (d := dTop "_law_kinds_right" 28) 11
  have g_kinds_right := He.glo_ok X G (all_get f1 16)
  obtain ⟨fd_text_right, F_text_right⟩ := c.nth (d := dTop "_law_text_right" 29) 12
  have g_text_right := He.glo_ok X G (all_get f1 17)
  obtain ⟨fd_values_right, F_values_right⟩ := c.nth (d := dTop "_law_values_right" 30) 13
  have g_values_right := He.glo_ok X G (all_get f1 18)
  obtain ⟨fd_right, F_right⟩ := c.nth (d := dTop "_law_right" 31) 14
  have g_right := He.glo_ok X G (all_get f1 19)
  obtain ⟨fd_law, F_law⟩ := c.nth (d := dTop "law" 32) 15
  have g_law := He.glo_ok X G (all_get f1 20)
  have e := hfa.symm.trans g_law
  cases e
  obtain ⟨k1, z⟩ := He.ba f4
  obtain ⟨k2, z⟩ := He.ba z
  obtain ⟨k3, z⟩ := He.ba z
  obtain ⟨k4, z⟩ := He.ba z
  obtain ⟨k5, z⟩ := He.ba z
  obtain ⟨k6, z⟩ := He.ba z
  obtain ⟨k7, z⟩ := He.ba z
  obtain ⟨k8, z⟩ := He.ba z
  obtain ⟨k9, z⟩ := He.ba z
  obtain ⟨k10, z⟩ := He.ba z
  obtain ⟨k11, z⟩ := He.ba z
  obtain ⟨k12, z⟩ := He.ba z
  obtain ⟨k13, z⟩ := He.ba z
  obtain ⟨k14, z⟩ := He.ba z
  obtain ⟨k15, k16⟩ := He.ba z
  obtain ⟨es, n, D⟩ := c.tb (fun K => He.ga K "LOTS", wordsD) List.mem_cons_self
  obtain ⟨inL, lots⟩ := lotsB_ok f5 D
  refine ⟨_, tabsT (He.cT K ("_law_text_right", none)).2 (He.cT K ("_law_values_right", none)).2, fun s v => FunD.bindsA (ps := ["_law_cells"]) F_law (fun _ _ _ _ _ _ us hl => match us, hl with | [_], _ => rfl) s [v] rfl, fun H hH => ?_, fun base _ _ TB => ?_⟩
  · intro p hp
    rcases List.mem_cons.mp hp with rfl | hp
    · exact LamX.TabS.nil (hH _ List.mem_cons_self)
    · rw [List.mem_singleton.mp hp]
      exact LamX.TabS.nil (hH _ (List.mem_cons_of_mem _ List.mem_cons_self))
  have eT : ErC P w K mg base "InvalidTurns" "given" bVE (He.ga K "InvalidTurns") := erc_of (st := inClass (top 5) 0) X G (er1 "InvalidTurns" (by decide)).1 bVE_ok (c.nth (d := dIn (fun K => He.ma K (He.ga K "InvalidTurns") "__init__") "__init__" "InvalidTurns.__init__" (inClass (top 5) 0) []) 16) rfl ⟨rfl, rfl, rfl, by decide +kernel, rfl, by decide +kernel, by decide +kernel⟩ rfl rfl (by decide) (by decide) (fun _ _ _ _ _ _ us hl => match us, hl with | [_, _], _ => rfl) (fun _ _ _ _ _ _ _ _ => rfl)
  have eF : ErC P w K mg base "InvalidFlag" "given" bVE (He.ga K "InvalidFlag") := erc_of (st := inClass (top 4) 0) X G (er1 "InvalidFlag" (by decide)).1 bVE_ok (c.nth (d := dIn (fun K => He.ma K (He.ga K "InvalidFlag") "__init__") "__init__" "InvalidFlag.__init__" (inClass (top 4) 0) []) 17) rfl ⟨rfl, rfl, rfl, by decide +kernel, rfl, by decide +kernel, by decide +kernel⟩ rfl rfl (by decide) (by decide) (fun _ _ _ _ _ _ us hl => match us, hl with | [_, _], _ => rfl) (fun _ _ _ _ _ _ _ _ => rfl)
  have eX : ErC P w K mg base "InvalidText" "given" bVE (He.ga K "InvalidText") := erc_of (st := inClass (top 3) 0) X G (er1 "InvalidText" (by decide)).1 bVE_ok (c.nth (d := dIn (fun K => He.ma K (He.ga K "InvalidText") "__init__") "__init__" "InvalidText.__init__" (inClass (top 3) 0) []) 18) rfl ⟨rfl, rfl, rfl, by decide +kernel, rfl, by decide +kernel, by decide +kernel⟩ rfl rfl (by decide) (by decide) (fun _ _ _ _ _ _ us hl => match us, hl with | [_, _], _ => rfl) (fun _ _ _ _ _ _ _ _ => rfl)
  have KF : KiF P w K mg base (He.ga K "Kind") (He.ga K "LOTS") (He.ga K "InvalidTurns") (He.ga K "InvalidFlag") es n := ⟨He.glo_ok X G (all_get f1 0), He.cls_ok k1, He.noat_ok k2, He.noat_ok k3, He.glo_ok X G (all_get f1 1), D, inL, eT, eF, (er1 "InvalidTurns" (by decide)).2.1, (er1 "InvalidFlag" (by decide)).2.1⟩
  have KG : KiG K w mg (He.ga K "Kind") (He.ga K "LOTS") := ⟨He.str_ok X G f3, lots, insB_ok k5, of_decide_eq_true k14⟩
  have KM := He.mkr_ok k4
  obtain ⟨fdi, Fi⟩ := c.nth (d := dIn (fun K => He.ma K (He.ga K "Kind") "__init__") "__init__" "Kind.__init__" s_kinit [("calm", .bl false)]) 19
  have c_i := c_kinit T mstr KF Fi
  obtain ⟨B1, B2, B3, B4, B5⟩ := kinit_binds Fi
  obtain ⟨fdt, Ft⟩ := c.nth (d := dIn (fun K => pAd K (He.ga K "Kind") "turns") "turns" "Kind.turns" s_kturns []) 21
  obtain ⟨fdc, Fc⟩ := c.nth (d := dIn (fun K => pAd K (He.ga K "Kind") "calm") "calm" "Kind.calm" s_kcalm []) 22
  obtain ⟨fdl, Fl⟩ := c.nth (d := dIn (fun K => pAd K (He.ga K "Kind") "lot") "lot" "Kind.lot" s_klot []) 23
  obtain ⟨fds, Fs⟩ := c.nth (d := dIn (fun K => He.ma K (He.ga K "Kind") "__str__") "__str__" "Kind.__str__" s_kstr []) 24
  obtain ⟨fde, Fe⟩ := c.nth (d := dIn (fun K => He.ma K (He.ga K "Kind") "__eq__") "__eq__" "Kind.__eq__" s_keq []) 25
  obtain ⟨fdr, Fr⟩ := c.nth (d := dIn (fun K => cAd K (He.ga K "Kind") "read") "read" "Kind.read" s_kread []) 20
  have one : ∀ {x q : Str} {st : Stmt} {f : Addr} {fd : FuncData}, FunK K x q st [] f fd → (∀ (kV doc pm : Value) (an : Option Addr) (cdv ct : Value) (us : List Value), us.length = (["self"] : List Str).length → bindArgs (PySem.W.fnOf x q (defArgs st) (defBody st) (defScope st) .none kV doc pm an cdv ct) ⟨us, []⟩ = pure ((["self"] : List Str).zip us)) → Binds K fd ["self"] [] := fun F h => F.bindsN h
  have c_r := c_kread T mstr KF KG eX (er1 "InvalidText" (by decide)).2.1 KM c_i B1 Fr
  have br : Binds K fdr ["cls", "text"] [] := Fr.bindsN fun _ _ _ _ _ _ us hl => match us, hl with | [_, _], _ => rfl
  have KK : KiK P w K mg base (He.ga K "Kind") (He.ga K "LOTS") (He.ga K "InvalidTurns") (He.ga K "InvalidFlag") (He.ga K "InvalidText") es n :=
    ⟨mstr, KF, KG, ⟨_, fdi, KM, c_i, B1, B2, B3, B4, B5⟩, ⟨_, _, fdt, propB_ok k9, c_kturns KF Ft, Ft.bindsN fun _ _ _ _ _ _ us hl => match us, hl with | [_], _ => rfl⟩, ⟨_, _, fdc, propB_ok k10, c_kcalm KF Fc, Fc.bindsN fun _ _ _ _ _ _ us hl => match us, hl with | [_], _ => rfl⟩,
     ⟨_, _, fdl, propB_ok k11, c_klot KF KG Fl, Fl.bindsN fun _ _ _ _ _ _ us hl => match us, hl with | [_], _ => rfl⟩, ⟨_, fds, (He.meth_ok k6).at_, (He.meth_ok k6).fn, c_kstr T mstr KF KG Fs, Fs.bindsN fun _ _ _ _ _ _ us hl => match us, hl with | [_], _ => rfl⟩,
     ⟨_, fde, (He.meth_ok k7).at_, (He.meth_ok k7).fn, c_keq T KF KG Fe, Fe.bindsN fun _ _ _ _ _ _ us hl => match us, hl with | [_, _], _ => rfl⟩, He.eqO_ok k8,
     ⟨_, _, _, fdr, creadB_ok k12, cmetB_ok k13, c_r, fun A outer s H us vs Q E hr e0 r hs => c_r.raw br .nil A outer s H us vs Q E hr e0 r (by show spKread _ _ _ (vs ++ []) _ _ _; rw [List.append_nil]; exact hs), read_kw Fr⟩⟩
  have TF : ToldF K mg (He.ga K "InvalidTurns") (He.ga K "InvalidFlag") (He.ga K "InvalidText") := ⟨He.glo_ok X G (all_get f1 2), He.glo_ok X G (all_get f1 3), He.glo_ok X G (all_get f1 4), (er1 "InvalidTurns" (by decide)).2.2.1, (er1 "InvalidFlag" (by decide)).2.2.1, (er1 "InvalidText" (by decide)).2.2.1, (er1 "InvalidTurns" (by decide)).2.2.2, (er1 "InvalidFlag" (by decide)).2.2.2, (er1 "InvalidText" (by decide)).2.2.2,
    er2 "InvalidTurns" (by decide) "InvalidTurns" (by decide), er2 "InvalidFlag" (by decide) "InvalidTurns" (by decide), er2 "InvalidFlag" (by decide) "InvalidFlag" (by decide), er2 "InvalidText" (by decide) "InvalidTurns" (by decide), er2 "InvalidText" (by decide) "InvalidFlag" (by decide), er2 "InvalidText" (by decide) "InvalidText" (by decide)⟩
  have TB1 := TB _ List.mem_cons_self
  have TB2 := TB _ (List.mem_cons_of_mem _ List.mem_cons_self)
  have room : Room 10 callerA := ⟨rfl, by decide, by decide⟩
  have k_cell := c_cell (P := P) (w := w) (base := base) T F_cell g_cell
  have k_purse := c_purse (P := P) (w := w) (base := base) T F_purse g_purse
  have k_draw := c_draw (P := P) (w := w) (base := base) T F_draw g_draw
  have k_odd := c_odd2 T F_odd g_odd k_draw
  have k_alike := c_alike (P := P) (w := w) (base := base) T F_alike g_alike 4
  have k_sign := c_sign T F_sign g_sign k_draw
  have k_bent := c_bent T F_bent g_bent k_draw k_sign
  have k_lots := c_lots (P := P) (w := w) (base := base) F_lots g_lots
  have k_pairs := c_pairs T F_pairs g_pairs k_lots
  have k_line := c_line (P := P) (w := w) (base := base) F_line g_line
  have k_text := c_text T KK TF F_told g_told TB1 ne F_text_right g_text_right k_draw k_pairs k_line k_bent
  have k_values := c_values T KK TF F_told g_told TB2 ne F_values_right g_values_right k_draw k_odd k_lots k_pairs k_line k_alike
  have k_right := c_right F_right g_right k_text k_values
  exact r_law T F_law room (fun env => r_kinds T KK ⟨of_decide_eq_true k15, of_decide_eq_true k16⟩ F_kinds_right ((room.deeper env).mono (by decide)) rfl k_lots k_pairs k_line) g_kinds_right F_kinds_right.kp
    (fun s _ => FunD.bindsA (ps := []) F_kinds_right (fun _ _ _ _ _ _ us hl => match us, hl with | [], _ => rfl) s [] rfl) k_cell k_purse k_right
end
end L2.K2
open PySem PySem.W PySem.Calls PyProof.Rows
theorem PySem.Challenge.cw_thirdback_k02_kinds_and_their_texts_holds : PySem.Challenge.rw_thirdback_k02_kinds_and_their_texts.Holds := by
  w_on; o_law
  refine HandSHeadRun.head_any (r := OpenLaw.row PySem.Challenge.rw_thirdback_k02_kinds_and_their_texts) (q := view (OpenLaw.row PySem.Challenge.rw_thirdback_k02_kinds_and_their_texts).prog [32]) (H := L2.K2.hookX) (ob := L2.K2.ob) (M := 20000) (loose := L2.K2.looseN) (d := HandSHeadRun.topDef (OpenLaw.row PySem.Challenge.rw_thirdback_k02_kinds_and_their_texts).prog 32) (kwd := []) L2.K2.ob_eq
    (by kernel_rfl) (fun s => by kernel_rfl) L2.K2.run (by kernel_rfl) (by kernel_rfl) (by kernel_rfl) (by rfl) (by first | assumption | decide +kernel) (by decide +kernel) ⟨rfl, rfl, rfl, rfl, rfl, by decide +kernel⟩ ?hw ?hc
  case hw => w_witness2
  case hc =>
    refine L2.Tb.walk_atT (l := PySem.Challenge.rw_thirdback_k02_kinds_and_their_texts) (n := 63) (x := "_law_cells") rfl (by decide) (by kernel_rfl) ?F
    intro w mg fa h Y G hmg0
    obtain ⟨K, c⟩ := Y
    have hmg : mg ("law" : PySem.Str) = some (.ref fa) := by
      have e : (HandSHeadRun.topDef (OpenLaw.row PySem.Challenge.rw_thirdback_k02_kinds_and_their_texts).prog 32).name = ("law" : PySem.Str) := by kernel_rfl
      rw [← e]
      exact hmg0
    obtain ⟨fd, T, hb, hT, hF⟩ := L2.K2.ends (P := (PySem.Challenge.rw_thirdback_k02_kinds_and_their_texts).prog) (w := w) G hmg c
    obtain ⟨y1, y2, y3⟩ := c.cs
    exact ⟨K, fd, L2.K2.spLaw K T, L2.K2.cdL.map (He.cT K), c.kin, y1, y2, y3, hb, fun H a ns hl hbits hH hS => ⟨a, ns, rfl, hS, hbits, hl, hT H hH, fun _ => rfl⟩, hF⟩
