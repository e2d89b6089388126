import PyProof.Rows.All
import Wide.All
import OpenK.AllK
import Wide.FinOn
import KE.KExcInit
import KE.KExcMake
import KE.KIsAll
import HandS.ForMost
import HandS.Exc
import HandS.ExcOwn
import HandS.ExcInit
import HandS.ExcIs
import HandS.ExcField
import HandS.IsInst
import HandS.Defaults
import KE.KExcIs
import HandS.Walk
import HandS.Zip
import HandS.Wide
import HandS.WideBits
import HandS.DeepEq
import HandS.EndBits
import PyProof.ReprRoads
import HandS.Head2
import HandS.HeadHook2
import KE.KCallOwn
import HandS.MakeKwOnly
import HandS.Codes
import HandS.TryMany
import HandS.ClsMeth
import HandS.More
import PyProof.InstEq
import HandS.EndTab
import HandS.HeadHook4
import HandS.Property
import HandS.HeadNt
import HandS.HeadHook3
import HandS.TupSets
import HandS.Keys
import HandS.SetBool
import HandS.Deep
import HandS.Iter
import OpenK.KMeth
import KE.KOpsOwn
import OpenK.KOps
import PyProof.Conv_bool
import PyProof.StrOps2
import HandS.Text
import HandS.FStr
import HandS.Small
import HandS.GenList
import HandS.GenYield
import HandS.GenCall
import HandS.Gcd
import KE.KMathGC
import HandS.Conv
import HandS.Dict
import HandS.Head3
import PySem.Challenge.RW_thirdback_k53_lengths_joined
set_option Elab.async false
set_option linter.all false
set_option maxRecDepth 100000
set_option maxHeartbeats 4000000
/-! an own error class over ValueError, LookupError, ArithmeticError alike: it is called (by place or by name), its object gets its first attribute -/
namespace L2.Tb
open PySem PySem.W PySem.Calls PyProof.Rows PySem.HandSPX
/-- a built-in base: its name, its makers, its mro -/
structure Bs where
  B : String
  newId : String
  initId : String
  bm : List Value
structure Bs.Ok (b : Bs) : Prop where
  F : ExcBaseFacts b.B b.newId b.initId b.bm
  S : StoreFacts b.B b.bm "object.__setattr__" "object"
section
variable {prog : Program} {w : World} {A : Around} {R : Result → Shared → Prop} {h : Heap} {g : Array GenState} {dr : Drawn} {tk : Nat} {os : OsState} {b : Bs} {C fI : Addr} {us : List Value} {kw : List (Str × Value)}
/-- C's class object is that of an own class over b -/
def OwnC (h : Heap) (b : Bs) (C : Addr) (bm : List Value) : Prop := ∃ nm q N bs hdct sn sub ab col dd k0 k1 k2 k3 k5, h.get? C = some (excClassObj nm q C N bs bm hdct sn sub ab col dd k0 k1 k2 k3 k5 b.newId)
/-- what the two makers leave behind: the args, the object -/
abbrev laidH (h : Heap) (C : Addr) (us : List Value) : Heap := (h.push (kdv_tup us)).push (excO C h.objs.size)
theorem own_new {bm : List Value} (o : OwnC h b C bm) (F : ExcBaseFacts b.B b.newId b.initId b.bm) (is : ∀ T : String, (Value.ref C :: bm).contains (.type T) = b.bm.contains (.type T)) (hz : us.length ≤ sizeLine) :
    (∀ {M : Model} {A' : Around} {E : Value → Shared → Prop} {Q : Unit → Shared → Prop}, Q () ⟨h, g, dr, tk, os⟩ → wpAny M A' (checkBuiltinCall b.newId ⟨.ref C :: us, kw⟩) Q E ⟨h, g, dr, tk, os⟩) ∧
    ∀ {R' : Result → Shared → Prop}, R' (.ok (.ret (.ref (h.objs.size + 1)))) ⟨laidH h C us, g, dr, tk, os⟩ → codeAny (model prog w) A (.builtin b.newId ⟨.ref C :: us, kw⟩) R' ⟨h, g, dr, tk, os⟩ := by
  obtain ⟨nm, q, N, bs, hdct, sn, sub, ab, col, dd, k0, k1, k2, k3, k5, hC⟩ := o
  have yes := (is b.B).trans F.hasB
  have no1 := (is "AttributeError").trans F.noAttr
  have no2 := (is "NameError").trans F.noName
  constructor
  · intro M A' E Q hq
    have star := F.noStar
    simp only [checkBuiltinCall, F.newKind, F.newSplit, F.newRow]
    repeat (first | (refine wpAny_isSubtype_exc hC ?_; rw [yes]) | refine wpAny_staticBase_exc hC ?_ | refine wpAny_madeBy_exc hC ?_ | refine wpAny_loadPart_at hC ?_ | simp only [bne_self_eq_false, Bool.false_eq_true, if_false] | wp_step)
    exact hq
  · intro R' hq
    have ends := F.ends
    refine codeAny_builtinAt F.entry ?_
    unfold Builtin.«BaseException.__new__»
    refine PySem.wpAt_bind ?_
    show PySem.wpAt _ _ _ (stack >>= _) _ _ _
    refine PySem.wpAt_bind (PySem.wpAt_stack fun _ _ => PySem.wpAt_of_wpAny ?_)
    wp_walk
    refine PySem.wpAt_of_wpAny ?_
    rw [F.owner]
    repeat (first | with_reducible refine wpAny_madeHere_exc F.canon hC ?_ | (with_reducible refine wpAny_isSubtype_exc hC ?_; first | rw [no1] | rw [no2] | rw [yes]) | with_reducible refine wpAny_loadPart_at hC ?_ | wp_step)
    show R' _ _
    rw [Heap.size_push]
    exact hq
/-- C(us, kw), C's own __init__ at fI -/
theorem own_call {bm : List Value} (o : OwnC h b C bm) (ok : b.Ok) (hT : ∀ T : String, bm.contains (.type T) = b.bm.contains (.type T)) (hi : Looks (model prog w) h (typeLookup (.ref C) "__init__") (some (.ref fI)))
    (hb : ∀ self, Looks (model prog w) h (bindSpecial (.ref fI) self) (.ref fI, [self])) (hz : us.length ≤ sizeLine)
    (hq : codeAny (model prog w) (A.under (.builtin "type.__call__" ⟨.ref C :: us, kw⟩)) (.call (.ref fI) ⟨.ref (h.objs.size + 1) :: us, kw⟩) (InitBack (h.objs.size + 1) R) ⟨laidH h C us, g, dr, tk, os⟩) :
    codeAny (model prog w) A (.call (.ref C) ⟨us, kw⟩) R ⟨h, g, dr, tk, os⟩ := by
  have keep : ∀ a x, h.get? a = some x → (laidH h C us).get? a = some x := fun a x e => Heap.get?_push_of_some _ (Heap.get?_push_of_some _ e)
  have there : (laidH h C us).get? (h.objs.size + 1) = some (excO C h.objs.size) := by heap_get
  have self : (Value.ref C :: bm).contains (.ref C) = true := by simp
  have new := @own_new prog w ((A.under (.builtin "type.__call__" ⟨.ref C :: us, kw⟩))) h g dr tk os b C us kw bm o ok.F (fun T => by rw [List.contains_cons, hT]; rfl) hz
  obtain ⟨nm, q, N, bs, hdct, sn, sub, ab, col, dd, k0, k1, k2, k3, k5, hC⟩ := o
  have hC2 := keep _ _ hC
  have ty : (⟨h, g, dr, tk, os⟩ : Shared).TypeIs (.ref C) "type" := ⟨_, hC, rfl⟩
  have l1 := tc_lookup
  have l2 := tc_bind (.ref C)
  have l3 := tc_sub
  refine codeAny_of_tree ?_
  show wpAny _ _ (callAny (.ref C) _) _ _ _
  repeat (any_goals (first | assumption | with_reducible refine wpAny_loadPart_at hC ?_ | wp_step))
  refine ⟨rfl, codeAny_call_builtin_at (Code.quiet_builtin _ (by decide +kernel)) entry_typeCall ?_⟩
  simp only [checkBuiltinCall, tc_kind, tc_split]
  repeat (any_goals (first | assumption | with_reducible refine wpAny_loadPart_at hC ?_ | with_reducible refine wpAny_onRaise ?_ | with_reducible refine wpAny_map ?_ | wp_step))
  repeat (first | with_reducible refine wpAny_madeBy_exc hC ?_ | with_reducible refine wpAny_loadPart_at hC ?_ | wp_step)
  refine codeAny_call_builtin_code (Code.quiet_builtin _ ok.F.quiet) (new.1 (new.2 ?_))
  show wpAny _ _ _ _ _ _
  unfold isInstance
  repeat (first | with_reducible refine wpAny_loadPart_at there ?_ | (with_reducible refine wpAny_isSubtype_exc hC2 ?_; rw [self]) | wp_step)
  show wpAny _ _ (typeLookup (.ref C) _) _ _ _
  refine (hi.keeps keep).at (wpAny_holding (wpAny_bind (((hb _).keeps keep).at (wpAny_bind (wpAny_call (codeAny_mono hq fun r s' z => ?_))))))
  match r, z with
  | .error e, z => exact z
  | .ok (.ret v), ⟨e, z⟩ =>
    subst e
    first
      | exact wpAny_pure (wpAny_pure z)
      | (wp_walk; exact z)
end
/-! ### self.name = v on an own error that has no dict yet -/
section
variable {prog : Program} {w : World} {A : Around} {R : Result → Shared → Prop} {hp : Heap} {g : Array GenState} {dr : Drawn} {tk : Nat} {os : OsState}
theorem own_store {K : Frag} {name : Str} {t1 : Tok} {v : Value} {x C t0 : Addr} {b : Bs} (ok : b.Ok) (X : K.In hp) (hx : hp.get? x = some (excObj C t0 none .none)) (ov : excOver K C b.bm = true) (hd : hasDictIn K C = true) (no : findIn K (.ref C) name = some none)
    (hq : ∀ h' tk' dx, (∀ b o, b ≠ x → hp.get? b = some o → h'.get? b = some o) → hp.objs.size ≤ dx → dx ≠ x → h'.get? x = some (excObj C t0 (some dx) .none) → h'.Ns1 dx (fun y => if y = name then some v else none) → R (.ok (.ret .none)) ⟨h', g, dr, tk', os⟩) :
    codeAny (model prog w) A (.call (.builtin "object.__setattr__") ⟨[.ref x, .str name t1, v], []⟩) R ⟨hp, g, dr, tk, os⟩ := by
  have far : x ≠ hp.objs.size := Nat.ne_of_lt (Heap.lt_size hx)
  obtain ⟨cd, hc, hd'⟩ := any_some hd
  refine osa_openX (s := ⟨hp, g, dr, tk, os⟩) (od := none) (r := none) ok.S X ⟨hx, rfl, rfl, trivial⟩ ov (by unfold takerIn; rw [no]; rfl) fun bb => ?_
  refine wpAny_bind (wpAny_pure (wpAny_bind (instanceDict_exc (s := ⟨hp, g, dr, tk, os⟩) hx (looks_clsIn X hc) hd' ?_)))
  have hx1 := (hp.get?_push_of_some (dictOf [] 0) hx)
  refine store_in_new ⟨_, #[], _, (Heap.get?_update_ne _ _ _ _ far.symm).trans (Heap.get?_push_at rfl rfl), rfl, fun e he => absurd he (by simp), fun _ => rfl⟩ fun h' tk' hn hs => ?_
  refine hq h' tk' hp.objs.size (fun a o ne ho => (hs.2 a (Nat.ne_of_lt (Heap.lt_size ho))).trans ((Heap.get?_update_ne _ _ _ _ ne).trans (Heap.get?_push_of_some _ ho))) (Nat.le_refl _) far.symm ?_ hn
  exact (hs.2 x far).trans (Heap.get?_update_self _ hx1 rfl)
end
end L2.Tb
set_option Elab.async false
set_option linter.all false
set_option maxRecDepth 100000
set_option maxHeartbeats 4000000
namespace L2.Tb
open PySem PySem.Spec PyProof.Rows L2
def bVE : Bs := ⟨"ValueError", "ValueError.__new__", "ValueError.__init__", [.type "ValueError", .type "Exception", .type "BaseException", .type "object"]⟩
def bLE : Bs := ⟨"LookupError", "LookupError.__new__", "LookupError.__init__", [.type "LookupError", .type "Exception", .type "BaseException", .type "object"]⟩
def bAE : Bs := ⟨"ArithmeticError", "ArithmeticError.__new__", "ArithmeticError.__init__", [.type "ArithmeticError", .type "Exception", .type "BaseException", .type "object"]⟩
theorem bVE_ok : bVE.Ok := ⟨PySem.F.excBase_ValueError, PySem.F.store_ValueError⟩
theorem bLE_ok : bLE.Ok := ⟨PySem.F.excBase_LookupError, PySem.F.store_LookupError⟩
theorem bAE_ok : bAE.Ok := ⟨PySem.F.excBase_ArithmeticError, PySem.F.store_ArithmeticError⟩
/-- an own exception class over the base b -/
structure EC (K : PySem.W.Frag) (b : Bs) (C : Addr) : Prop where
  ok : b.Ok
  own : PySem.W.excInitIn K C b.bm b.newId = true
  sa : PySem.W.findIn K (.ref C) "__setattr__" = some (some (.builtin "object.__setattr__"))
  kC : PySem.W.keepIn K (.ref C) = true
  ex : ExcC K C
  ov : PySem.W.excOver K C b.bm = true
def ecB (K : PySem.W.Frag) (b : Bs) (C : Addr) : Bool := PySem.W.excOver K C b.bm && (
  PySem.W.excInitIn K C b.bm b.newId && (decide (PySem.W.findIn K (.ref C) "__setattr__" = some (some (.builtin "object.__setattr__"))) && (PySem.W.keepIn K (.ref C) &&
  (decide (PySem.W.findIn K (.ref C) "__getattribute__" = some (some (.builtin "BaseException.__getattribute__"))) && (decide (PySem.W.findIn K (.ref C) "__getattr__" = some none) &&
  (decide (PySem.W.subIn K (.ref C) (.type "BaseException") = some true) && (PySem.W.hasDictIn K C && (decide (PySem.W.findIn K (.ref C) "__class__" = some (some (.builtin "object.__class__"))) &&
  (decide (PySem.W.specialIn K (.builtin "object.__class__") "__get__" = some (some (.builtin "getset_descriptor.__get__"))) && (decide (PySem.W.takesIn K (.builtin "object.__class__") = some true) &&
  decide (PySem.W.mroIn K C (.type "object") = some true)))))))))))
theorem ecB_ok {K : PySem.W.Frag} {b : Bs} {C : Addr} (ok : b.Ok) (h : ecB K b C = true) : EC K b C := by
  unfold ecB at h
  simp only [Bool.and_eq_true, decide_eq_true_eq] at h
  obtain ⟨h0, h1, h2, h3, h4, h5, h6, h7, h8, h9, h10, h11⟩ := h
  exact ⟨ok, h1, h2, h3, ⟨h4, h5, h6, h7, h8, h9, h10, h11⟩, h0⟩
section
variable {K : PySem.W.Frag} {b : Bs} {C : Addr}
theorem EC.cd (T : EC K b C) : ∃ cd, PySem.W.clsIn K C = some cd ∧ PySem.W.excTail b.bm cd.mro = true ∧ cd.mro.isEmpty = false ∧ cd.hasDict = true := by
  have q := T.own
  unfold PySem.W.excInitIn at q
  obtain ⟨cd2, hc2, hd2⟩ := PySem.W.any_some (show (PySem.W.clsIn K C).any (·.hasDict) = true from T.ex.hd)
  split at q
  · rename_i dd cd sl ho
    split at q
    · rename_i C' bm k0 k1 k2 k3 n k5 hm hs
      simp only [Bool.and_eq_true, beq_iff_eq, Bool.not_eq_true'] at q
      obtain ⟨⟨⟨rfl, rfl⟩, hdel⟩, ht⟩ := q
      have e : PySem.W.clsIn K C' = some cd := by unfold PySem.W.clsIn; rw [ho] <;> rfl
      have e3 := Option.some.inj (e.symm.trans hc2)
      subst e3
      refine ⟨_, e, ?_, ?_, hd2⟩
      · rw [hm]
        exact ht
      · rw [hm]
        rfl
    · cases q
  · cases q
end
section
variable {X : Cx} {pins : List (Addr × Obj)} {σ : St} {H : Hp} {s : Shared} {b : Bs} {a C dx : Addr} {f : Str} {y : V} {u : Value} {Q : Unit → Shared → Prop} {E : Value → Shared → Prop} {A : Around}
/-- self.f = y, the first one -/
theorem osv_new (T : EC X.K b C) (I : Inv X pins σ H s) (e : H a = some (exo a C none)) (hno : PySem.W.findIn X.K (.ref C) f = some none) (ry : RelV y u)
    (h : ∀ dx s', H dx = none → dx ≠ a → Inv X pins σ (upd (upd H dx (exd dx [(f, y)])) a (exo a C (some dx))) s' → Q () s') : wpAny (model X.prog X.w) A (setAttr (.ref a) f u) Q E s := by
  obtain ⟨t1, ho⟩ := exo_at I.hok e
  refine PySem.W.set_plain I.kIn (od := none) ⟨ho, rfl, rfl, trivial⟩ T.sa (own_store T.ok I.kIn ho T.ov T.ex.hd hno fun h' tk' dx k dn dne hx hn => ?_)
  have fresh : H dx = none := I.hok.fresh dn
  -- the heap behind the store, seen from what was there
  have other : ∀ {c : Addr} {o : HO}, H c = some o → c ≠ a → upd (upd H dx (exd dx [(f, y)])) a (exo a C (some dx)) c = some o := fun q n => by rw [upd_ne n, upd_ne (ne_of_none q fresh)]; exact q
  have ne : ∀ {c : Addr}, H c = none → c ≠ a := fun n z => by rw [z, e] at n; cases n
  have lt : ∀ {c : Addr} {o : Obj}, s.heap.get? c = some o → c ≠ dx := fun q => Nat.ne_of_lt (Nat.lt_of_lt_of_le (Heap.lt_size q) dn)
  refine h dx _ fresh dne (I.un (t' := tk') { keep := fun c o q n _ _ => k c o (ne n) q, slot := fun c o q n _ _ => ⟨o.slots, k c o (ne n) q⟩, free := fun c o q n _ => ?_, there := fun c o q _ => ?_, tups := fun c xs q => other q (at_ne e q exo_tup), frzs := fun c o v q => other q (at_ne e q exo_frz), tbls := fun c ps q => ⟨#[], ?_⟩ } fun c o q => ?_)
  · rw [upd_ne (ne n), upd_ne (lt q)]
    exact n
  · by_cases z : c = a
    · exact ⟨_, by rw [z]; exact hx⟩
    · exact ⟨o, k c o z q⟩
  · rw [other q (at_ne e q exo_tbl)]
    simp
  · by_cases z : c = a
    · subst z
      rw [upd_same] at q
      cases q
      exact exo_ok hx
    · rw [upd_ne z] at q
      by_cases z2 : c = dx
      · subst z2
        rw [upd_same] at q
        cases q
        exact exd_ok hn (relO_put (fs := []) ry fun _ => True.intro)
      · rw [upd_ne z2] at q
        refine (I.hok c o q).stay (fun d v hc z' => k d v ?_ z') (fun d hc => other hc (at_ne e hc exo_own)) fun d xs hc => other hc (at_ne e hc exo_tup)
        rcases hc with rfl | hc
        · exact z
        · exact at_ne e hc exo_own
end
/-- self.f = e -/
def tOsv (K : PySem.W.Frag) (f : Str) (to te : TE) : TS := fun D σ H => te σ H fun y H1 => to σ H1 fun x H2 => ∃ (a C : Addr) (b : Bs), x = .ref a ∧ EC K b C ∧ PySem.W.findIn K (.ref C) f = some none ∧
  H2 a = some (exo a C none) ∧ ∀ dx, H2 dx = none → dx ≠ a → D.nx σ (upd (upd H2 dx (exd dx [(f, y)])) a (exo a C (some dx)))
/-- C(e, ..), C's own __init__ keeping sp: the exception as a value -/
def tMkV (C : Addr) (sp : Sp) (ta : TA) : TE := fun σ H Q => ta σ H fun vs H1 => vs.length ≤ 1000 ∧ ∀ a, H1 a = none → sp (.ref a :: vs) (upd H1 a (exo a C none)) (fun v H2 => v = .non ∧ Q (.ref a) H2) E0
/-- e.f of an exception -/
def tXv (K : PySem.W.Frag) (f : Str) (te : TE) : TE := fun σ H Q => te σ H fun x H1 => ∃ (a C dx : Addr) (b : Bs) (fs : List (Str × V)) (v : V), x = .ref a ∧ EC K b C ∧ PySem.W.findIn K (.ref C) f = some none ∧
  H1 a = some (exo a C (some dx)) ∧ H1 dx = some (exd dx fs) ∧ fs.lookup f = some v ∧ Q v H1
/-- isinstance(e, c) -/
def rIsX (K : PySem.W.Frag) : List V → Hp → VK → Prop := fun xs H Q => ∃ (a C : Addr) (od : Option Addr) (c : V) (u : Value) (b : Bs) (r : Bool), xs = [.ref a, c] ∧ ClsV c u ∧ H a = some (exo a C od) ∧ (∀ d, od = some d → ∃ fs, H d = some (exd d fs)) ∧ EC K b C ∧
  PySem.W.kitOne K (.ref C) u = some r ∧ Q (.bl r) H
section
variable {X : Cx} {o e : Expr} {es : List Expr} {to te : TE} {ta : TA} {f : Str} {p p' p1 p2 pos : Pos}
theorem ps_osv (ho : PE X o to) (he : PE X e te) (hs : swapsWith e (some (.Attribute o f p')) pos.line X.env = pure false := by rfl) : PS X (.Assign [.Attribute o f p'] e pos) (tOsv X.K f to te) := by
  refine ⟨fun pins s σ H D I h => ?_⟩
  refine plainObj_wpAny_Assign_Attribute (thn (he.run pins s σ H _ I h) fun v s1 ⟨y, H1, I1, r1, q1⟩ => thn (ho.run pins s1 σ H1 _ I1 q1) fun u s2 ⟨x, H2, I2, r2, a, C, b, ex, T, hno, ea, q⟩ => ?_) hs
  subst ex
  obtain rfl : u = Value.ref a := r2
  exact osv_new T I2 ea hno r1 fun dx s' n ne J => ⟨σ, _, J, q dx n ne⟩
/-- the exception that is made: its object lies, not yet its dict -/
theorem made_inv {pins : List (Addr × Obj)} {σ : St} {H1 : Hp} {hp : Heap} {g : Array GenState} {dr : Drawn} {tk : Nat} {os : OsState} {C : Addr} (us : List Value) (I1 : Inv X pins σ H1 ⟨hp, g, dr, tk, os⟩) :
    Inv X pins σ (upd H1 (hp.objs.size + 1) (exo (hp.objs.size + 1) C none)) ⟨(hp.push (PySem.W.kdv_tup us)).push (PySem.HandSPX.excO C hp.objs.size), g, dr, tk, os⟩ := by
  have kk : ∀ b o, hp.get? b = some o → ((hp.push (PySem.W.kdv_tup us)).push (PySem.HandSPX.excO C hp.objs.size)).get? b = some o := fun b o e => Heap.get?_push_of_some _ (Heap.get?_push_of_some _ e)
  have hget : ((hp.push (PySem.W.kdv_tup us)).push (PySem.HandSPX.excO C hp.objs.size)).get? (hp.objs.size + 1) = some (PySem.HandSPX.excO C hp.objs.size) := by heap_get
  exact I1.laid (t' := tk) (a := hp.objs.size + 1) (o := exo (hp.objs.size + 1) C none) (h' := (hp.push (PySem.W.kdv_tup us)).push (PySem.HandSPX.excO C hp.objs.size)) kk (Nat.le_succ _) (exo_ok hget)
theorem run_mkV {CX : CXT} {C fI : Addr} {b : Bs} {k : Nat} {fd : FuncData} {ps : List Str} {sp : Sp} {pins : List (Addr × Obj)} {σ : St} {H1 : Hp} {s1 : Shared} {Q : VK} {us zs : List Value} {ws : List V} {kw : List (Str × Value)} (T : EC X.K b C)
    (iC : PySem.W.findIn X.K (.ref C) "__init__" = some (some (.ref fI))) (tI : PySem.W.typeIn X.K (.ref fI) = some (.type "function"))
    (F1 : FnOk X.prog X.w X.K X.mg X.base CX k fI fd ps sp) (hr : Room (k + 1) X.A) (hx : Passes CX X E0) (I1 : Inv X pins σ H1 s1) (hus : us.length ≤ sizeLine)
    (hz : ∀ (sh : Shared) (a : Addr), X.K.In sh.heap → BindsTo sh fd ⟨Value.ref a :: us, kw⟩ (ps.zip (Value.ref a :: zs))) (r2 : Vals ws zs)
    (h : ∀ a, H1 a = none → sp (.ref a :: ws) (upd H1 a (exo a C none)) (fun v H2 => v = .non ∧ Q (.ref a) H2) E0) :
    wpAny (model X.prog X.w) X.A (call (.ref C) us kw) (EP X pins σ Q) X.xe s1 := by
  obtain ⟨nm, N, qn, bs, bm, hdct, sn, sub, ab, col, dd, k0, k1, k2, k3, k5, hC, hT⟩ := PySem.W.excInit_of I1.kIn T.own
  obtain ⟨hp, g, dr, tk, os⟩ := s1
  have hn : H1 (hp.objs.size + 1) = none := I1.hok.fresh (Nat.le_succ _)
  have hq := h (hp.objs.size + 1) hn
  have I2 := made_inv (C := C) us I1
  have r3 : Vals (V.ref (hp.objs.size + 1) :: ws) (Value.ref (hp.objs.size + 1) :: zs) := .cons rfl r2
  refine wpAny_call (own_call ⟨nm, qn, N, bs, hdct, sn, sub, ab, col, dd, k0, k1, k2, k3, k5, hC⟩ T.ok hT (PySem.W.looks_findIn I1.kIn iC) (fun self => PySem.W.bind_fn I1.kIn self tI) hus
    (codeAny_mono (F1.run _ X.stack _ _ ⟨Value.ref (hp.objs.size + 1) :: us, kw⟩ (Value.ref (hp.objs.size + 1) :: zs) _ _ E0 (hr.make C us kw) (I2.env0.make C us kw) (hz _ _ I2.kIn) r3 hq) fun r s' hq' => ?_))
  cases r with
  | error er => exact hx pins σ _ _ er s' I2 hq'
  | ok fl =>
    cases fl with
    | ret u =>
      obtain ⟨v, H', I3, rv, ev, q3⟩ := I2.after hq'
      subst ev
      exact ⟨rv, ⟨V.ref (hp.objs.size + 1), H', I3, rfl, q3⟩⟩
    | next => exact False.elim hq'
    | brk => exact False.elim hq'
    | cont => exact False.elim hq'
/-- C(e, ..) -/
theorem pe_mkV {CX : CXT} {x : Str} {C fI : Addr} {b : Bs} {k : Nat} {fd : FuncData} {ps : List Str} {sp : Sp} (T : EC X.K b C) (iC : PySem.W.findIn X.K (.ref C) "__init__" = some (some (.ref fI))) (tI : PySem.W.typeIn X.K (.ref fI) = some (.type "function"))
    (F1 : FnOk X.prog X.w X.K X.mg X.base CX k fI fd ps sp) (hr : Room (k + 1) X.A) (hb : Binds X.K fd ps []) (hx : Passes CX X E0) (hg : Gl X x) (hm : X.mg x = some (.ref C)) (ha : PA X (e :: es) ta)
    (hdb : (x == ("__debug__" : Str)) = false := by decide) (he : starEach (e :: es) X.env = (false, eval e X.env) :: starEach es X.env := by rfl) (hpl : (backTo pos (starEach es X.env)).any (·.1) = false := by rfl) :
    PE X (.Call (.Name x p) (e :: es) [] pos) (tMkV C sp ta) := by
  refine ⟨fun pins s σ H Q I h => ?_⟩
  refine wpAny_Call_Name_kw (ld_glob I hg hm ?_ hdb)
  refine PySem.W.callWith_K (h₀ := X.base) I.ok.mod.kin T.kC (thn (ha.run pos pins s σ H _ I h) fun us s1 ⟨vs, H1, I1, r1, hz, q1⟩ => ⟨I1.kIn, ?_⟩) he hpl
  have hus : us.length ≤ sizeLine := by
    rw [← Paired.length r1, sizeLine_eq]
    omega
  have hl : (Value.ref 0 :: us).length = ps.length := by
    have z := F1.len _ _ _ _ (q1 s1.heap.objs.size (I1.hok.fresh (Nat.le_refl _)))
    rw [← z, List.length_cons, List.length_cons, Paired.length r1]
  refine run_mkV (us := us) (kw := []) (zs := us) T iC tI F1 hr hx I1 hus (fun sh a X' => ?_) r1 q1
  have z := hb sh (Value.ref a :: us) X' (by rw [List.append_nil]; exact hl)
  rw [List.append_nil] at z
  exact z
/-- C(f = e) -/
theorem pe_mkVK {CX : CXT} {x : Str} {C fI : Addr} {b : Bs} {k : Nat} {fd : FuncData} {ps ks : List Str} {sp : Sp} {kws : List Keyword} {tk : TA} (T : EC X.K b C) (iC : PySem.W.findIn X.K (.ref C) "__init__" = some (some (.ref fI))) (tI : PySem.W.typeIn X.K (.ref fI) = some (.type "function"))
    (F1 : FnOk X.prog X.w X.K X.mg X.base CX k fI fd ps sp) (hr : Room (k + 1) X.A) (hb : ∀ (sh : Shared) (a : Addr) (zs : List Value), zs.length = ks.length → BindsTo sh fd ⟨[Value.ref a], ks.zip zs⟩ (ps.zip (Value.ref a :: zs))) (hx : Passes CX X E0) (hg : Gl X x) (hm : X.mg x = some (.ref C)) (hkw : PK X kws tk)
    (hps : ps.length = ks.length + 1) (hall : (backToKw pos (keywordEach kws X.env)).all (·.1.isSome) = true := by rfl) (hks : (backToKw pos (keywordEach kws X.env)).filterMap (·.1) = ks := by rfl) (hdb : (x == ("__debug__" : Str)) = false := by decide)
    (hpl : ((backTo pos (starEach [] X.env)).any (·.1) || (backToKw pos (keywordEach kws X.env)).any (·.1.isNone)) = false := by rfl) :
    PE X (.Call (.Name x p) [] kws pos) (tMkV C sp tk) := by
  refine ⟨fun pins s σ H Q I h => ?_⟩
  refine wpAny_Call_Name_kw (ld_glob I hg hm ?_ hdb)
  refine PySem.W.callWith_KW0 (h₀ := X.base) I.ok.mod.kin T.kC hall ?_ hpl
  refine thn (hkw.run pos pins s σ H _ I h) fun ws s2 ⟨zs, H2, I2, rz, hz, q2⟩ => ⟨I2.kIn, ?_⟩
  rw [hks]
  have hl : ws.length = ks.length := by
    have z := F1.len _ _ _ _ (q2 s2.heap.objs.size (I2.hok.fresh (Nat.le_refl _)))
    rw [List.length_cons, hps] at z
    rw [← Paired.length rz]
    omega
  exact run_mkV (us := []) (kw := ks.zip ws) (zs := ws) T iC tI F1 hr hx I2 (Nat.zero_le _) (fun sh a _ => hb sh a ws hl) rz q2
/-- C(), no __init__ of its own -/
theorem pe_mkV0 {x : Str} {C : Addr} {b : Bs} (T : EC X.K b C) (iC : PySem.W.findIn X.K (.ref C) "__init__" = some (some (.builtin b.initId))) (hg : Gl X x) (hm : X.mg x = some (.ref C))
    (hdb : (x == ("__debug__" : Str)) = false := by decide) :
    PE X (.Call (.Name x p) [] [] pos) (fun _ H Q => ∀ a, H a = none → Q (.ref a) (upd H a (exo a C none))) := by
  refine ⟨fun pins s σ H Q I h => ?_⟩
  refine wpAny_Call_Name_kw (ld_glob I hg hm ?_ hdb)
  refine PySem.W.callWith_K0 I.kIn T.kC ?_
  show wpAny _ _ (call (.ref C) []) _ _ _
  obtain ⟨nm, N, qn, bs, bm, hdct, sn, sub, ab, col, dd, k0, k1, k2, k3, k5, hC, hT⟩ := PySem.W.excInit_of I.kIn T.own
  obtain ⟨hp, g, dr, tk, os⟩ := s
  refine PySem.W.call_B T.ok.F hT hC (PySem.W.looks_findIn I.kIn iC) (Nat.zero_le _) fun h' k e1 e2 => ?_
  have hn : H (hp.objs.size + 1) = none := I.hok.fresh (Nat.le_succ _)
  exact ⟨.ref (hp.objs.size + 1), _, I.laid (t' := tk) (a := hp.objs.size + 1) k (Nat.le_succ _) (exo_ok e1), rfl, h _ hn⟩
theorem pe_xv {n : Str} (he : PE X e te) (hb : attributeBase e n X.env (eval e X.env) = eval e X.env := by rfl) : PE X (.Attribute e n pos) (tXv X.K n te) := by
  refine ⟨fun pins s σ H Q I h => ?_⟩
  refine attr_of hb (thn (he.run pins s σ H _ I h) fun u s1 hh => ?_)
  obtain ⟨x, H1, I1, rx, a, C, dx, b, fs, v, ex, T, hno, ea, ed, l, q⟩ := hh
  subst ex
  obtain rfl : u = Value.ref a := rx
  obtain ⟨t1, ho⟩ := exo_at I1.hok ea
  obtain ⟨mA, hns, hr⟩ := exd_at I1.hok ed
  obtain ⟨od, hod, hl⟩ := lookIn_ns hns
  obtain ⟨u, hu, ru⟩ := RelO.some_of (v := v) (o := mA n) (by rw [← l]; exact hr n)
  have J : PySem.W.InstAt s1.heap a { cls := .ref C, dict := some dx, data := .fields #[.ref t1, .none, .none, .none, .bool false, .none] } C (some od) := ⟨ho, rfl, rfl, hod⟩
  exact HandSPX.exc_get I1.kIn J T.ex.hg T.ex.hk T.ex.hs (PySem.W.findObj_own T.ex.hd hno rfl (by rw [hl, hu])) (handed_of ru) ⟨v, H1, I1.tok _, ru, q⟩
theorem call_isX : CallR X (.builtin "isinstance") (rIsX X.K) := by
  intro pins s σ H xs us Q I r h
  obtain ⟨a, C, od, c, u, b, rr, rfl, k, ea, hd, T, e, q⟩ := h
  obtain ⟨u1, u2, rfl, r1, r2⟩ := vals2 r
  have e2 := k.eq r2
  subst e2
  obtain rfl : u1 = Value.ref a := r1
  obtain ⟨t1, ho⟩ := exo_at I.hok ea
  have hcl : (PySem.W.clsIn X.K C).isSome = true := by
    obtain ⟨cd, hc, _⟩ := T.cd
    rw [hc]
    rfl
  have fin : ∀ tk, EP X pins σ Q (.bool rr) { s with toks := tk } := fun tk => ⟨.bl rr, H, I.tok tk, rfl, q⟩
  cases od with
  | none =>
    have J : PySem.W.InstAt s.heap a { cls := .ref C, dict := none, data := .fields #[.ref t1, .none, .none, .none, .bool false, .none] } C none := ⟨ho, rfl, rfl, trivial⟩
    exact PySem.W.kia_one (PySem.W.kitx_exc hcl T.ex.hg T.ex.hk T.ex.hs T.ex.ha T.ex.hn T.ex.ht T.ex.hm) I.kIn J e (fun z => nomatch z) fin
  | some dd =>
    obtain ⟨fs, ed⟩ := hd dd rfl
    obtain ⟨mA, hns, hr⟩ := exd_at I.hok ed
    obtain ⟨od, es, ep, hod, _⟩ := hns
    have J : PySem.W.InstAt s.heap a { cls := .ref C, dict := some dd, data := .fields #[.ref t1, .none, .none, .none, .bool false, .none] } C (some od) := ⟨ho, rfl, rfl, hod⟩
    exact PySem.W.kia_one (PySem.W.kitx_exc hcl T.ex.hg T.ex.hk T.ex.hs T.ex.ha T.ex.hn T.ex.ht T.ex.hm) I.kIn J e (fun z => nomatch z) fin
end
end L2.Tb
set_option Elab.async false
set_option linter.all false
set_option maxRecDepth 100000
set_option maxHeartbeats 4000000
namespace L2.Tb
open PySem PySem.Spec PyProof.Rows
/-! ### a def of the module that is called by its name -/
structure Cal (P : Program) (w : World) (K : PySem.W.Frag) (mg : Str → Option Value) (base : Heap) (k : Nat) (x : Str) (sp : Sp) : Prop where
  ex : ∃ (f : Addr) (fd : FuncData) (ps : List Str), FnOk P w K mg base L2.CX0 k f fd ps sp ∧ mg x = some (.ref f) ∧ PySem.W.keepIn K (.ref f) = true ∧ Binds K fd ps []
abbrev FnP (K : PySem.W.Frag) (x : Str) (st : Stmt) (f : Addr) (fd : FuncData) : Prop := FunD K x x (defArgs st) (defBody st) (defScope st) [] [] f fd
section
variable {P : Program} {w : World} {K : PySem.W.Frag} {mg : Str → Option Value} {base : Heap} {x : Str} {st : Stmt} {f : Addr} {fd : FuncData} {N ps : List Str} {k : Nat} {sp : Sp}
theorem cal_mk (F : FnP K x st f fd) (hm : mg x = some (.ref f)) (S : FnScope N ps (defScope st))
    (hb : ∀ (kV doc pm : Value) (an : Option Addr) (cdv ct : Value) (us : List Value), us.length = ps.length → bindArgs (PySem.W.fnOf x x (defArgs st) (defBody st) (defScope st) .none kV doc pm an cdv ct) ⟨us, []⟩ = pure (ps.zip us))
    (len : ∀ vs H Q E, sp vs H Q E → vs.length = ps.length)
    (hbody : ∀ (cdv : Value) (A : Around) (outer : List Env) (s : Shared) (H : Hp) (vs : List V) (Q : VK) (E : XK), Room k (A.deeper (envOfC x (defScope st) s.heap.objs.size f cdv)) → sp vs H Q E →
      ∃ t, PSs (cxOf L2.CX0 P w K mg base N x (defScope st) f cdv A outer s H E).nox (defBody st) t ∧ t { nx := fun _ H' => Q .non H', rt := Q } (start N vs) H) : Cal P w K mg base (k + 1) x sp :=
  ⟨f, fd, ps, F.ok S len fun cdv A outer s H vs Q E hr h => let ⟨t, a, b⟩ := hbody cdv A outer s H vs Q E hr h; ⟨t, a.nox, b⟩, hm, F.kp, F.bindsN hb⟩
theorem Cal.imp {sp' : Sp} (c : Cal P w K mg base k x sp) (h : ∀ vs H Q E, sp' vs H Q E → sp vs H Q E) : Cal P w K mg base k x sp' := by
  obtain ⟨f, fd, ps, F, a, b, d⟩ := c.ex
  exact ⟨f, fd, ps, F.imp h, a, b, d⟩
end
section
variable {X : Cx} {k j : Nat} {x : Str} {sp : Sp} {p pos : Pos} {e : Expr} {es : List Expr} {t : TA}
theorem pe_cal (c : Cal X.prog X.w X.K X.mg X.base k x sp) (hr : Room j X.A) (hk : k ≤ j) (hg : Gl X x) (ha : PA X (e :: es) t)
    (hdb : (x == ("__debug__" : Str)) = false := by decide) (he : starEach (e :: es) X.env = (false, eval e X.env) :: starEach es X.env := by rfl) (hpl : (backTo pos (starEach es X.env)).any (·.1) = false := by rfl) :
    PE X (.Call (.Name x p) (e :: es) [] pos) (tCall sp [] E0 t) := by
  obtain ⟨f, fd, ps, F, hm, kp, b⟩ := c.ex
  exact pe_call F (hr.mono hk) hg hm kp b .nil pass0 ha hdb he hpl
theorem pe_cal0 (c : Cal X.prog X.w X.K X.mg X.base k x sp) (hr : Room j X.A) (hk : k ≤ j) (hg : Gl X x)
    (hdb : (x == ("__debug__" : Str)) = false := by decide) : PE X (.Call (.Name x p) [] [] pos) (tCall sp [] E0 tNil) := by
  obtain ⟨f, fd, ps, F, hm, kp, b⟩ := c.ex
  exact pe_call0 F (hr.mono hk) hg hm kp b .nil pass0 hdb
end
/-! ### heaps: all but p stands -/
def SameB (p : Addr) (H H' : Hp) : Prop := ∀ b o, b ≠ p → H b = some o → H' b = some o
theorem SameB.refl (p : Addr) (H : Hp) : SameB p H H := fun _ _ _ h => h
theorem SameB.trans {p : Addr} {H H1 H2 : Hp} (a : SameB p H H1) (b : SameB p H1 H2) : SameB p H H2 := fun c o n h => b c o n (a c o n h)
theorem SameB.of {p : Addr} {H H' : Hp} (a : Same H H') : SameB p H H' := fun c o _ h => a c o h
theorem SameB.set {p : Addr} {H : Hp} {o : HO} : SameB p H (upd H p o) := fun c u n h => by rw [upd_ne n]; exact h
theorem same_new {H : Hp} {p : Addr} {o : HO} (h : H p = none) : Same H (upd H p o) := fun b u e => by rw [upd_ne (ne_of_none e h)]; exact e
theorem SameB.put {p : Addr} {H H' : Hp} {o : HO} (a : SameB p H H') : SameB p H (upd H' p o) := fun c u n h => by rw [upd_ne n]; exact a c u n h
/-! ### the purse -/
structure Purse (H : Hp) (p : Addr) : Prop where
  ex : ∃ st dg c : Int, H p = some (.lst [.int st, .int dg, .int c]) ∧ 0 ≤ st ∧ st < 2147483563 ∧ 0 ≤ dg
theorem Purse.same {H H' : Hp} {p : Addr} (h : Purse H p) (s : Same H H') : Purse H' p := by
  obtain ⟨st, dg, c, e, r⟩ := h.ex
  exact ⟨st, dg, c, s _ _ e, r⟩
theorem Purse.sameB {H H' : Hp} {p q : Addr} (h : Purse H p) (n : p ≠ q) (s : SameB q H H') : Purse H' p := by
  obtain ⟨st, dg, c, e, r⟩ := h.ex
  exact ⟨st, dg, c, s _ _ n e, r⟩
theorem divp_small {i j : Int} (h0 : 0 < j) (h1 : j < 2 ^ 200) : CDivP i j := by
  refine ⟨h0, ?_⟩
  unfold Builtin.divisionGoesByPylong
  have hb : j.natAbs.log2 < 200 := PySem.Flt.log2_lt_of (by decide) (by omega)
  have hj : ¬ (j == 0) = true := by simpa using (show j ≠ 0 by omega)
  show (decide ((if j == 0 then 0 else j.natAbs.log2 / 30 + 1) > 300) && _) = false
  rw [if_neg hj, decide_eq_false (by omega), Bool.false_and]
/-! ### odd values, alike values -/
def flatS : V → Bool
  | .non => true | .bl _ => true | .int _ => true | .str _ => true
  | _ => false
theorem flatS_B {x : V} (h : flatS x = true) : flatB x = true := by
  cases x <;> first | rfl | cases h
def Al (H : Hp) : Nat → V → V → Prop
  | 0, x, y => x = y ∧ flatS x = true
  | n + 1, x, y => (x = y ∧ flatS x = true) ∨
    (∃ a b xs ys, x = .ref a ∧ y = .ref b ∧ H a = some (.lst xs) ∧ H b = some (.lst ys) ∧ xs.length ≤ 1000 ∧ Paired (Al H n) xs ys) ∨
    (∃ a b xs ys, x = .ref a ∧ y = .ref b ∧ H a = some (.tup xs) ∧ H b = some (.tup ys) ∧ xs.length ≤ 1000 ∧ Paired (Al H n) xs ys) ∨
    (∃ (a : Addr) (kvs : List (Key × V)), x = .ref a ∧ y = .ref a ∧ H a = some (.dK kvs) ∧ ∀ kv ∈ kvs, valV kvs kv.1 = some kv.2 ∧ (flatS kv.2 = true ∨ ∃ b, kv.2 = .ref b))
theorem Al.mono {H H' : Hp} : ∀ {n : Nat} {x y : V}, (∀ b o, H b = some o → (∀ l, o = .lst l → l.length ≠ 3) → H' b = some o) → (∀ b l, H b = some (.lst l) → l.length = 3 → ∃ l', H' b = some (.lst l')) → Same H H' → Al H n x y → Al H' n x y
  | 0, _, _, _, _, _, h => h
  | n + 1, x, y, k1, k2, s, h => by
    have ih : ∀ {xs ys : List V}, Paired (Al H n) xs ys → Paired (Al H' n) xs ys := fun p => Paired.mapP p fun a b q => Al.mono k1 k2 s q
    rcases h with h | ⟨a, b, xs, ys, h1, h2, h3, h4, h5, h6⟩ | ⟨a, b, xs, ys, h1, h2, h3, h4, h5, h6⟩ | ⟨a, kvs, h1, h2, h3, h4⟩
    · exact .inl h
    · exact .inr (.inl ⟨a, b, xs, ys, h1, h2, s _ _ h3, s _ _ h4, h5, ih h6⟩)
    · exact .inr (.inr (.inl ⟨a, b, xs, ys, h1, h2, s _ _ h3, s _ _ h4, h5, ih h6⟩))
    · exact .inr (.inr (.inr ⟨a, kvs, h1, h2, s _ _ h3, h4⟩))
theorem Al.same {H H' : Hp} {n : Nat} {x y : V} (h : Al H n x y) (s : Same H H') : Al H' n x y := Al.mono (fun b o e _ => s b o e) (fun b l e _ => ⟨l, s _ _ e⟩) s h
def Od (H : Hp) : Nat → V → Prop
  | 0, v => flatS v = true
  | n + 1, v => flatS v = true ∨ (∃ a xs, v = .ref a ∧ H a = some (.lst xs) ∧ xs.length ≤ 1 ∧ ∀ x ∈ xs, Od H n x) ∨ (∃ a xs, v = .ref a ∧ H a = some (.tup xs) ∧ xs.length ≤ 3 ∧ ∀ x ∈ xs, Od H n x) ∨
    (∃ (a : Addr) (kvs : List (Key × V)), v = .ref a ∧ H a = some (.dK kvs) ∧ kvs.length ≤ 1 ∧ ∀ kv ∈ kvs, flatS kv.2 = true ∨ ∃ b, kv.2 = .ref b)
theorem Od.keep {H H' : Hp} {p : Addr} {st dg c : V} (hp : H p = some (.lst [st, dg, c])) (s : SameB p H H') : ∀ {n : Nat} {v : V}, Od H n v → Od H' n v
  | 0, _, h => h
  | n + 1, v, h => by
    rcases h with h | ⟨a, xs, h1, h2, h3, h4⟩ | ⟨a, xs, h1, h2, h3, h4⟩ | ⟨a, kvs, h1, h2, h3, h4⟩
    · exact .inl h
    · refine .inr (.inl ⟨a, xs, h1, s _ _ (fun e => ?_) h2, h3, fun x hx => (h4 x hx).keep hp s⟩)
      rw [e, hp] at h2
      cases h2
      simp at h3
    · refine .inr (.inr (.inl ⟨a, xs, h1, s _ _ (fun e => ?_) h2, h3, fun x hx => (h4 x hx).keep hp s⟩))
      rw [e, hp] at h2
      cases h2
    · refine .inr (.inr (.inr ⟨a, kvs, h1, s _ _ (fun e => ?_) h2, h3, h4⟩))
      rw [e, hp] at h2
      cases h2
theorem Od.same {H H' : Hp} (s : Same H H') : ∀ {n : Nat} {v : V}, Od H n v → Od H' n v
  | 0, _, h => h
  | n + 1, v, h => by
    rcases h with h | ⟨a, xs, h1, h2, h3, h4⟩ | ⟨a, xs, h1, h2, h3, h4⟩ | ⟨a, kvs, h1, h2, h3, h4⟩
    · exact .inl h
    · exact .inr (.inl ⟨a, xs, h1, s _ _ h2, h3, fun x hx => (h4 x hx).same s⟩)
    · exact .inr (.inr (.inl ⟨a, xs, h1, s _ _ h2, h3, fun x hx => (h4 x hx).same s⟩))
    · exact .inr (.inr (.inr ⟨a, kvs, h1, s _ _ h2, h3, h4⟩))
theorem paired_self {α : Type} {R : α → α → Prop} : ∀ {xs : List α}, (∀ x ∈ xs, R x x) → Paired R xs xs
  | [], _ => .nil
  | x :: xs, h => .cons (h x (List.mem_cons_self ..)) (paired_self fun y hy => h y (List.mem_cons_of_mem _ hy))
theorem Od.al {H : Hp} : ∀ {n : Nat} {v : V}, Od H n v → Al H n v v
  | 0, _, h => ⟨rfl, h⟩
  | n + 1, v, h => by
    rcases h with h | ⟨a, xs, h1, h2, h3, h4⟩ | ⟨a, xs, h1, h2, h3, h4⟩ | ⟨a, kvs, h1, h2, h3, h4⟩
    · exact .inl ⟨rfl, h⟩
    · exact .inr (.inl ⟨a, a, xs, xs, h1, h1, h2, h2, by omega, paired_self fun x hx => (h4 x hx).al⟩)
    · exact .inr (.inr (.inl ⟨a, a, xs, xs, h1, h1, h2, h2, by omega, paired_self fun x hx => (h4 x hx).al⟩))
    · refine .inr (.inr (.inr ⟨a, kvs, h1, h1, h2, fun kv hk => ⟨?_, h4 kv hk⟩⟩))
      match kvs, h3, hk with
      | [q], _, hk =>
        obtain rfl : kv = q := by simpa using hk
        simp [valV]
/-- x == y where both are one scalar or one dict -/
def rSelf : R2 := fun x y H Q => x = y ∧ (flatS x = true ∨ ∃ (a : Addr) (kvs : List (Key × V)), x = .ref a ∧ H a = some (.dK kvs) ∧ ∀ kv ∈ kvs, valV kvs kv.1 = some kv.2 ∧ (flatS kv.2 = true ∨ ∃ b, kv.2 = .ref b)) ∧ Q (.bl true) H
theorem op_self {X : Cx} (hu : X.A.units + 64 < cLine) : OpR X (compareOp .Eq) rSelf := by
  intro pins s σ H x y v u Q I rx ry h
  obtain ⟨rfl, h, q⟩ := h
  rcases h with h | ⟨a, kvs, rfl, ha, hk⟩
  · refine op_eq pins s σ H x x v u Q I rx ry ⟨?_, by rw [decide_eq_true rfl]; exact q⟩
    cases x <;> first | rfl | cases h
  · refine op_eqV hu pins s σ H _ _ v u Q I rx ry ⟨1, by decide, .inr ⟨a, a, kvs, kvs, rfl, rfl, ha, ha, rfl, fun p hp => ⟨p.2, (hk p hp).1, ?_⟩⟩, q⟩
    rcases (hk p hp).2 with z | ⟨b, z⟩
    · exact .inl ⟨rfl, flatS_B z⟩
    · exact .inr (.inl ⟨b, z, z⟩)
end L2.Tb
set_option Elab.async false
set_option linter.all false
set_option maxRecDepth 100000
set_option maxHeartbeats 4000000
namespace L2.Tb
open PySem PySem.Spec PyProof.Rows
/-! ### a def's promise at one place of the stack (for what hangs on the stack: repr) -/
section
variable {P : Program} {w : World} {K : PySem.W.Frag} {mg : Str → Option Value} {base : Heap} {f : Addr} {fd : FuncData} {ps : List Str} {sp : Sp} {A : Around}
def RunsAt (P : Program) (w : World) (K : PySem.W.Frag) (mg : Str → Option Value) (base : Heap) (f : Addr) (fd : FuncData) (ps : List Str) (sp : Sp) (A : Around) : Prop :=
  ∀ (outer : List Env) (s : Shared) (H : Hp) (args : Args) (us : List Value) (vs : List V) (Q : VK) (E : XK), Env0 P w K mg base A outer s H → BindsTo s fd args (ps.zip us) → Vals vs us → vs.length = ps.length → sp vs H Q E →
    codeAny (model P w) A (.call (.ref f) args) (CR L2.CX0 outer P w H s Q E) s
/-- how a body's end becomes the call's end -/
theorem end_call {s s' : Shared} {H : Hp} {Q : VK} {E : XK} {fl : Flow} {N : List Str} {x : Str} {sc : Scope} {cdv : Value} {outer : List Env}
    (h : SP (cxOf L2.CX0 P w K mg base N x sc f cdv A outer s H E) [] { nx := fun _ H' => Q .non H', rt := Q } fl s') : CR L2.CX0 outer P w H s Q E (.ok (.ret (match (generalizing := false) fl with | .ret v => v | _ => .none))) s' := by
  match fl, h with
  | .ret u, ⟨v, σ', H', J, rv, q⟩ => exact ⟨v, H', J.os, J.bare, J.base, J.hok, rv, q⟩
  | .next, ⟨σ', H', J, q⟩ => exact ⟨.non, H', J.os, J.bare, J.base, J.hok, rfl, q⟩
  | .brk, ⟨_, _, _, q⟩ => exact q.elim
  | .cont, ⟨_, _, _, q⟩ => exact q.elim
theorem runs_body {x : Str} {st : Stmt} {N : List Str} {k : Nat} (F : FnP K x st f fd) (S : FnScope N ps (defScope st)) (hr : Room (k + 1) A)
    (hbody : ∀ (cdv : Value) (outer : List Env) (s : Shared) (H : Hp) (vs : List V) (Q : VK) (E : XK), Room k (A.deeper (envOfC x (defScope st) s.heap.objs.size f cdv)) → sp vs H Q E →
      ∃ t, PSs (cxOf L2.CX0 P w K mg base N x (defScope st) f cdv A outer s H E) (defBody st) t ∧ t { nx := fun _ H' => Q .non H', rt := Q } (start N vs) H) : RunsAt P w K mg base f fd ps sp A := by
  obtain ⟨oc, od, dV, kV, doc, pm, an, cdv, ct, osl, rfl, lk, hcd, _, _⟩ := F.ex
  intro outer s H args us vs Q E e0 hb r hl hsp
  have here : ∀ {b o}, base.get? b = some o → s.heap.get? b = some o := fun e => (e0.bs _ _ e).1
  have KX : K.In s.heap := e0.mod.kin.keeps fun _ _ e => here e
  obtain ⟨t, ht, hq⟩ := hbody cdv outer s H vs Q E (hr.deeper _) hsp
  refine codeAny_call_function hr.depth (KX _ _ lk) rfl S.co S.gen rfl (PySem.W.codeRec_of KX hcd) (hb _ _ _ _ (wpAny_newFunctionEnv_cells S.kind (fun y hy => ?_) fun env he s1 i => ?_))
  · exact (S.par y.1 (List.of_mem_zip hy).1).imp_right fun q => ⟨q, PySem.W.cellsFrom_some _ _ _ (.inl q)⟩
  · rw [he]
    rw [he] at i
    exact ⟨(e0.mod.nolimit.keeps fun _ _ e => here e).keeps i.toInCall.keep, codeAny_func (wpAny_mono (ht.run [] s1 _ H _ (inv_start S hr.hd e0 hl r i) hq) (fun fl s' h => end_call h) fun _ _ h => h)⟩
end
section
variable {X : Cx} {f : Addr} {fd : FuncData} {ps : List Str} {sp : Sp} {x : Str} {p pos : Pos}
/-- x(), x a def without parameters that runs here -/
theorem pe_at0 (R : RunsAt X.prog X.w X.K X.mg X.base f fd [] sp X.A) (hg : Gl X x) (hm : X.mg x = some (.ref f)) (hk : PySem.W.keepIn X.K (.ref f) = true) (hb : ∀ s : Shared, X.K.In s.heap → BindsTo s fd ⟨[], []⟩ []) (hdb : (x == ("__debug__" : Str)) = false := by decide) :
    PE X (.Call (.Name x p) [] [] pos) (fun _ H Q => sp [] H Q E0) := by
  refine ⟨fun pins s σ H Q I h => wpAny_Call_Name_kw (ld_glob I hg hm (PySem.W.callWith_K0 I.kIn hk (wpAny_call (codeAny_mono (R X.stack s H ⟨[], []⟩ [] [] Q E0 I.env0 (hb s I.kIn) .nil rfl h) fun r s' hq => ?_))) hdb)⟩
  match r, hq with
  | .error e, hq => exact pass0 pins σ H s e s' I hq
  | .ok (.ret u), hq => exact I.after hq
end
section
variable {X : Cx}
def rReprD (K : PySem.W.Frag) : List V → Hp → VK → Prop := fun vs H Q => ∃ (a : Addr) (d : PyData), vs = [.ref a] ∧ Dp K H (.ref a) d ∧ d.showable = true ∧ d.hasDict = false ∧ d.depth ≤ 60 ∧ d.shown.length ≤ sizeLine ∧ Q (.str d.shown) H
theorem call_reprD (hg : X.A.guards = some []) (hu : X.A.units + 64 < cLine) : CallR X (.builtin "repr") (rReprD X.K) := by
  intro pins s σ H vs us Q I r h
  obtain ⟨a, d, rfl, hd, h1, h2, h3, h4, q⟩ := h
  rw [Vals.ref1 r]
  obtain ⟨as, rr⟩ := Dp.reads I d (.ref a) (.ref a) hd rfl
  exact repr_of_reads' rr h1 (fun z => by rw [h2] at z; cases z) hg (by omega) (fun _ _ e => e) (fun h' u tk hk => ⟨.str d.shown, H, I.kept hk, ⟨u, rfl⟩, q⟩) h4
end
/-! ### the end, at the place of the law's call -/
theorem law_at {P : Program} {w : World} {K : PySem.W.Frag} {mg mb : Str → Option Value} {fa a : Addr} {fd : FuncData} {x : Str} {sp : Sp} {s1 : Shared} {vs : List Value} {ns : List Int} (KX : K.In s1.heap) (hns : s1.heap.Ns mainGlobals mg) (hb : s1.heap.Ns builtinsNs mb)
    (hbb : ∀ x : Str, x ≠ "__name__" → mb x = bootBuiltins x) (hlim : s1.heap.NoLimit) (hg : s1.gens = #[]) (ha : s1.heap.get? a = some { cls := .type "list", data := .seq vs.toArray }) (hi : IntsAre vs ns) (hl : ns.length ≤ sizeLine)
    (R : ∀ base : Heap, K.In base → base.Ns mainGlobals mg → RunsAt P w K mg base fa fd [x] sp callerA) (hbind : ∀ (s : Shared) (u : Value), BindsTo s fd ⟨[u], []⟩ [(x, u)])
    (hsp : ∀ H : Hp, SqL K H a (ns.map V.int) → (∀ b o, H b = some o → ∃ u xs, o = .frz u (.lst xs)) → sp [.ref a] H (fun v _ => v = .bl true) fun _ _ _ => False) :
    codeAny (model P w) callerA (.call (.ref fa) ⟨[.ref a], []⟩) (fun r s' => r = .ok (.ret (.bool true)) ∧ OldK s1.heap s'.heap ∧ s'.os = s1.os ∧ AllBare s'.gens) s1 := by
  let ob : Obj := { cls := .type "list", data := .seq vs.toArray }
  let H : Hp := fun b => if b = a ∧ K.lookup a = none then some (.frz ob (.lst (ns.map V.int))) else none
  have hH : ∀ b o, H b = some o → b = a ∧ K.lookup a = none ∧ o = .frz ob (.lst (ns.map V.int)) := fun b o e => by
    by_cases c : b = a ∧ K.lookup a = none
    · have e' := (if_pos c).symm.trans e
      cases e'
      exact ⟨c.1, c.2, rfl⟩
    · have e' := (if_neg c).symm.trans e
      cases e'
  have free : ∀ b o, s1.heap.get? b = some o → (b = a → (K.lookup a).isSome = true ∨ ∃ es ep, o.data = .dict es ep) → H b = none := fun b o e c => by
    cases q : H b with
    | none => rfl
    | some u =>
      obtain ⟨rfl, hk, _⟩ := hH b u q
      rcases c rfl with z | ⟨es, ep, z⟩
      · rw [hk] at z
        cases z
      · rw [ha] at e
        cases e
        cases z
  have ns1 : ∀ {b : Addr} {m : Str → Option Value}, s1.heap.Ns b m → (hidT s1.heap H).Ns b m := fun {b m} ⟨o, es, ep, e, d, r⟩ => ⟨o, es, ep, hidT_get e (free b o e fun _ => .inr ⟨es, ep, d⟩), d, r⟩
  have kin : K.In (hidT s1.heap H) := fun b o e => hidT_get (KX b o e) (free b o (KX b o e) fun z => .inl (by rw [← z, e]; rfl))
  have rv := vals_ints hi
  have sq : SqL K H a (ns.map V.int) := by
    cases hk : K.lookup a with
    | none => exact .inl (.inr ⟨ob, if_pos ⟨rfl, hk⟩⟩)
    | some o =>
      have e := KX a o hk
      rw [ha] at e
      cases e
      exact .inr ⟨_, vs.toArray, _, hk, rfl, rfl, rfl, by rw [List.size_toArray, hi.length]; exact hl, by simpa using rv⟩
  have hok : HOk P w H s1.heap := fun b u z => by
    obtain ⟨rfl, _, rfl⟩ := hH b u z
    exact ⟨ha, by rw [List.length_map]; exact hl, vs, _, rv, ha⟩
  obtain ⟨mc, l1, l2⟩ := hlim
  have e0 : Env0 P w K mg (hidT s1.heap H) callerA [] s1 H := ⟨rfl, ⟨kin, ns1 hns, ⟨mb, ns1 hb, hbb⟩, ⟨mc, ns1 l1, l2⟩⟩, fun _ _ e => of_hidT e, Nat.le_of_eq (hidT_size _ _), trivial, fun b hb => (nomatch hb), hok, .of_eq hg⟩
  refine codeAny_mono (R _ kin (ns1 hns) [] s1 H _ [.ref a] [.ref a] (fun v _ => v = .bl true) (fun _ _ _ => False) e0 (hbind s1 (.ref a)) (.cons rfl .nil) rfl (hsp H sq fun b o e => ⟨_, _, (hH b o e).2.2⟩)) fun r s' h => ?_
  match r, h with
  | .error e, h => exact h.elim
  | .ok (.ret u), ⟨v, H', os, bare, un, hok', r', q⟩ =>
    subst q
    obtain rfl : u = Value.bool true := r'
    refine ⟨rfl, OldK.of_keep fun b o e => ?_, os, bare⟩
    cases z : H b with
    | none => exact un.keep b o e z (fun z => nomatch z) (fun z => nomatch z)
    | some o2 =>
      obtain ⟨rfl, _, rfl⟩ := hH b o2 z
      rw [ha] at e
      cases e
      exact (hok' b _ (un.frzs b ob _ z)).1
theorem walk_at {l : PySem.W.OpenLaw} {n : Nat} {q : Program} {loose : List Str} {XP : (Str → Option Value) → Heap → Prop} {YP : World → Heap → Prop} {d : DefRec} {x : Str} (hn : l.most = some n) (hn2 : n ≤ sizeLine) (hdf : d.params.defaults = [])
    (F : ∀ (w : World) (mg : Str → Option Value) (fa : Addr) (h : Heap), YP w h → h.Ns mainGlobals mg → mg d.name = some (.ref fa) → ∃ (K : PySem.W.Frag) (fd : FuncData) (sp : Sp), K.In h ∧ (∀ (s : Shared) (u : Value), BindsTo s fd ⟨[u], []⟩ [(x, u)]) ∧
      (∀ (H : Hp) (a : Addr) (ns : List Int), ns.length ≤ n → (∀ z ∈ ns, Builtin.Int.intBits z ≤ 1048576) → SqL K H a (ns.map V.int) → sp [.ref a] H (fun v _ => v = .bl true) fun _ _ _ => False) ∧
      ∀ base : Heap, K.In base → base.Ns mainGlobals mg → RunsAt l.prog w K mg base fa fd [x] sp callerA) :
    PySem.W.WalkO q loose XP YP l.row.toRowW d [] (fun f vs => PySem.call f vs) := by
  refine Att.attach_callB hn hdf fun w s0 s1 mg mb fa o pm cd doc a vs ns G Y ho hd hcd hmg hobj hints hlen hbits hg => ?_
  obtain ⟨K, fd, sp, KX, hb, hsp, R⟩ := F w mg fa _ Y G.T.g hmg
  exact law_at KX G.T.g G.T.b G.T.builtins G.T.nolimit hg hobj hints (Nat.le_trans hlen hn2) R hb fun H sq _ => hsp H a ns hlen hbits sq
end L2.Tb
set_option Elab.async false
set_option linter.all false
set_option maxRecDepth 100000
set_option maxHeartbeats 4000000
namespace L2.Tb
open PySem PySem.Spec PyProof.Rows
/-! ### an error class with one attribute, as the law meets it -/
def spInit (K : PySem.W.Frag) (f : Str) : Sp := fun vs H Q _ => ∃ (a C : Addr) (b : Bs) (v : V), vs = [.ref a, v] ∧ EC K b C ∧ PySem.W.findIn K (.ref C) f = some none ∧ H a = some (exo a C none) ∧
  ∀ dx, H dx = none → dx ≠ a → Q .non (upd (upd H dx (exd dx [(f, v)])) a (exo a C (some dx)))
/-- at a: an error of the class at C whose attribute f is v -/
def ErAt (H : Hp) (a C : Addr) (f : Str) (v : V) : Prop := ∃ dx, H a = some (exo a C (some dx)) ∧ H dx = some (exd dx [(f, v)])
theorem ErAt.same {H H' : Hp} {a C : Addr} {f : Str} {v : V} (h : ErAt H a C f v) (s : Same H H') : ErAt H' a C f v := by
  obtain ⟨dx, h1, h2⟩ := h
  exact ⟨dx, s _ _ h1, s _ _ h2⟩
structure ErC (P : Program) (w : World) (K : PySem.W.Frag) (mg : Str → Option Value) (base : Heap) (x f : Str) (b : Bs) (C : Addr) : Prop where
  mgC : mg x = some (.ref C)
  ec : EC K b C
  no : PySem.W.findIn K (.ref C) f = some none
  init : ∃ (fI : Addr) (fd : FuncData), PySem.W.findIn K (.ref C) "__init__" = some (some (.ref fI)) ∧ PySem.W.typeIn K (.ref fI) = some (.type "function") ∧ FnOk P w K mg base L2.CX0 1 fI fd ["self", f] (spInit K f) ∧ Binds K fd ["self", f] [] ∧
    ∀ (sh : Shared) (a : Addr) (zs : List Value), zs.length = [f].length → BindsTo sh fd ⟨[Value.ref a], [f].zip zs⟩ (("self" :: [f] : List Str).zip (Value.ref a :: zs))
section
variable {P : Program} {w : World} {K : PySem.W.Frag} {mg : Str → Option Value} {base : Heap} {f : Str} {fI : Addr} {fd : FuncData} {qual : Str} {params : Arguments} {scope : Scope} {p1 p2 p3 p4 : Pos}
theorem init_ok (F : FunD K "__init__" qual params [.Assign [.Attribute (.Name "self" p1) f p2] (.Name f p3) p4] scope [] [] fI fd) (S : FnScope ["self", f] ["self", f] scope)
    (h0 : scope.names.lookup ("self" : Str) = some .local) (h1 : scope.names.lookup f = some .local) (hd : (f == ("__debug__" : Str)) = false) (hcd : (f == ("__classdict__" : Str)) = false) : FnOk P w K mg base L2.CX0 1 fI fd ["self", f] (spInit K f) := by
  refine F.ok S (fun vs H Q E h => ?_) (fun cdv A outer s H vs Q E hr h => ?_)
  · obtain ⟨a, C, b, v, rfl, _⟩ := h
    rfl
  · obtain ⟨a, C, b, v, rfl, T, hno, ha, k⟩ := h
    refine ⟨_, pss_one (ps_osv (pe_var (i := 0) rfl (.inl h0)) (pe_var (i := 1) rfl (.inl h1) hd hcd)), ?_⟩
    exact ⟨_, rfl, _, rfl, a, C, b, rfl, T, hno, ha, fun dx n ne => k dx n ne⟩
end
/-- a reading, weakened behind -/
def tUp (te : TE) : TE := fun σ H Q => ∃ Q' : VK, te σ H Q' ∧ ∀ v H1, Q' v H1 → Q v H1
theorem pe_up {X : Cx} {e : Expr} {te : TE} (he : PE X e te) : PE X e (tUp te) :=
  ⟨fun pins s σ H Q I h => let ⟨Q', h1, h2⟩ := h; thn (he.run pins s σ H Q' I h1) fun u s1 ⟨v, H1, I1, r, q⟩ => ⟨v, H1, I1, r, h2 v H1 q⟩⟩
/-- the reading of an error made by place or by name -/
def tEr (C : Addr) (f : Str) (te : TE) : TE := fun σ H Q => te σ H fun v H1 => ∀ a H2, Same H1 H2 → H1 a = none → ErAt H2 a C f v → Q (.ref a) H2
section
variable {X : Cx} {x f : Str} {b : Bs} {C : Addr} {p pos : Pos} {e : Expr} {te : TE}
theorem er_run {v : V} {H1 : Hp} {Q : VK} (T : EC X.K b C) (hno : PySem.W.findIn X.K (.ref C) f = some none) (q : ∀ a H2, Same H1 H2 → H1 a = none → ErAt H2 a C f v → Q (.ref a) H2) (a : Addr) (n : H1 a = none) :
    spInit X.K f [.ref a, v] (upd H1 a (exo a C none)) (fun u H2 => u = .non ∧ Q (.ref a) H2) E0 := by
  refine ⟨a, C, b, v, rfl, T, hno, upd_same, fun dx nd ne => ⟨rfl, q a _ (fun c o h => ?_) n ⟨dx, upd_same, by rw [upd_ne ne, upd_same]⟩⟩⟩
  have hca : c ≠ a := ne_of_none h n
  have hcd : c ≠ dx := fun z => by
    rw [z] at h
    rw [upd_ne ne] at nd
    rw [nd] at h
    cases h
  rw [upd_ne hca, upd_ne hcd, upd_ne hca]
  exact h
theorem pe_er (E : ErC X.prog X.w X.K X.mg X.base x f b C) {j : Nat} (hr : Room j X.A) (hj : 2 ≤ j) (hg : Gl X x) (he : PE X e te) (hdb : (x == ("__debug__" : Str)) = false := by decide) (hs : starEach [e] X.env = (false, eval e X.env) :: starEach [] X.env := by rfl) :
    PE X (.Call (.Name x p) [e] [] pos) (tEr C f te) := by
  obtain ⟨fI, fd, h1, h2, h3, h4, _⟩ := E.init
  exact ⟨fun pins s σ H Q I h => (pe_mkV E.ec h1 h2 h3 (hr.mono hj) h4 pass0 hg E.mgC (pa_cons (pe_up he) pa_nil hs) hdb hs (by rfl)).run pins s σ H Q I ⟨_, h, fun v H1 q => ⟨Nat.le_of_ble_eq_true rfl, fun a n => er_run E.ec E.no q a n⟩⟩⟩
theorem pe_erK (E : ErC X.prog X.w X.K X.mg X.base x f b C) {j : Nat} {kpos : Pos} (hr : Room j X.A) (hj : 2 ≤ j) (hg : Gl X x) (he : PE X e te) (hdb : (x == ("__debug__" : Str)) = false := by decide)
    (hall : (backToKw pos (keywordEach [⟨some f, e, kpos⟩] X.env)).all (·.1.isSome) = true := by rfl) (hks : (backToKw pos (keywordEach [⟨some f, e, kpos⟩] X.env)).filterMap (·.1) = [f] := by rfl)
    (hpl : ((backTo pos (starEach [] X.env)).any (·.1) || (backToKw pos (keywordEach [⟨some f, e, kpos⟩] X.env)).any (·.1.isNone)) = false := by rfl) :
    PE X (.Call (.Name x p) [] [⟨some f, e, kpos⟩] pos) (tEr C f te) := by
  obtain ⟨fI, fd, h1, h2, h3, h4, h5⟩ := E.init
  exact ⟨fun pins s σ H Q I h => (pe_mkVK (ks := [f]) E.ec h1 h2 h3 (hr.mono hj) h5 pass0 hg E.mgC (pk_cons (pe_up he) pk_nil) rfl hall hks hdb hpl).run pins s σ H Q I ⟨_, h, fun v H1 q => ⟨Nat.le_of_ble_eq_true rfl, fun a n => er_run E.ec E.no q a n⟩⟩⟩
end
end L2.Tb
set_option Elab.async false
set_option linter.all false
set_option maxRecDepth 100000
set_option maxHeartbeats 4000000
namespace L2.Tb
open PySem PySem.Spec PyProof.Rows
section
variable {X : Cx} {x f : Str} {b : Bs} {C : Addr} {p pos : Pos} {e : Expr} {te : TE}
/-- the reading of an error that is made to be raised -/
def tErR (C : Addr) (f : Str) (te : TE) : St → Hp → XK → Prop := fun σ H Q => te σ H fun v H1 => ∀ d H', Same H1 H' → H1 d = none → H' d = some (.xd [(f, v)]) → Q (.ref C) (some d) H'
theorem pmk_er (E : ErC X.prog X.w X.K X.mg X.base x f b C) (ty : PySem.W.typeIn X.K (.ref C) = some (.type "type")) {j : Nat} (hr : Room j X.A) (hj : 2 ≤ j) (hg : Gl X x) (he : PE X e te) (hdb : (x == ("__debug__" : Str)) = false := by decide)
    (hs : starEach [e] X.env = (false, eval e X.env) :: starEach [] X.env := by rfl) (hpl : (backTo pos (starEach [] X.env)).any (·.1) = false := by rfl) : PMk X (.Call (.Name x p) [e] [] pos) (tErR C f te) := by
  intro pins s σ H Q I h
  obtain ⟨fI, fd, h1, h2, F1, hb, _⟩ := E.init
  have ha : PA X [e] (tCons (tUp te) tNil) := pa_cons (pe_up he) pa_nil hs
  refine wpAny_Call_Name_kw (ld_glob I hg E.mgC ?_ hdb)
  refine PySem.W.callWith_K (h₀ := X.base) I.ok.mod.kin E.ec.kC (thn (ha.run pos pins s σ H (fun vs H1 => ∃ v, vs = [v] ∧ ∀ d H', Same H1 H' → H1 d = none → H' d = some (.xd [(f, v)]) → Q (.ref C) (some d) H') I ⟨_, h, fun v H1 q => ⟨v, rfl, q⟩⟩) fun us s1 hh => ?_) hs hpl
  obtain ⟨vs, H1, I1, r1, v, rfl, q1⟩ := hh
  refine ⟨I1.kIn, ?_⟩
  show wpAny _ _ (call (.ref C) us) _ _ _
  obtain ⟨nm, N, qn, bs, bm, hdct, sn, sub, ab, col, dd, k0, k1, k2, k3, k5, hC, hT⟩ := PySem.W.excInit_of I1.kIn E.ec.own
  obtain ⟨hp, g, dr, tk, os⟩ := s1
  have hn : H1 (hp.objs.size + 1) = none := I1.hok.fresh (Nat.le_succ _)
  have keep : ∀ c o, hp.get? c = some o → (laidH hp C us).get? c = some o := fun c o q => Heap.get?_push_of_some _ (Heap.get?_push_of_some _ q)
  have hus : us.length ≤ sizeLine := by
    rw [← Paired.length r1]
    exact Nat.le_of_ble_eq_true rfl
  have hl : (Value.ref (hp.objs.size + 1) :: us).length = (["self", f] : List Str).length := by
    rw [List.length_cons, ← Paired.length r1]
    rfl
  have I2 := made_inv (C := C) us I1
  have bind : BindsTo ⟨(hp.push (PySem.W.kdv_tup us)).push (PySem.HandSPX.excO C hp.objs.size), g, dr, tk, os⟩ fd ⟨Value.ref (hp.objs.size + 1) :: us, []⟩ ((["self", f] : List Str).zip (Value.ref (hp.objs.size + 1) :: us)) := by
    have z := hb _ (Value.ref (hp.objs.size + 1) :: us) I2.kIn (by rw [List.append_nil]; exact hl)
    rw [List.append_nil] at z
    exact z
  refine wpAny_call (own_call ⟨nm, qn, N, bs, hdct, sn, sub, ab, col, dd, k0, k1, k2, k3, k5, hC⟩ E.ec.ok hT (PySem.W.looks_findIn I1.kIn h1) (fun self => PySem.W.bind_fn I1.kIn self h2) hus
    (codeAny_mono (F1.run _ X.stack _ _ ⟨Value.ref (hp.objs.size + 1) :: us, []⟩ (Value.ref (hp.objs.size + 1) :: us) [V.ref (hp.objs.size + 1), v]
      (fun u H2 => u = .non ∧ ∃ d, H2 (hp.objs.size + 1) = some (exo (hp.objs.size + 1) C (some d)) ∧ H2 d = some (exd d [(f, v)]) ∧ H1 d = none ∧ Q (.ref C) (some d) (upd (del H2 (hp.objs.size + 1)) d (.xd [(f, v)]))) E0 ((hr.mono hj).make C us []) (I2.env0.make C us []) bind (.cons rfl r1) ?_) fun r s' hq => ?_))
  · refine ⟨_, C, b, v, rfl, E.ec, E.no, upd_same, fun dx nd ne => ⟨rfl, dx, upd_same, by rw [upd_ne ne, upd_same], ?_, q1 dx _ (fun c o q => ?_) ?_ upd_same⟩⟩
    · rw [upd_ne ne] at nd
      exact nd
    · have hca : c ≠ hp.objs.size + 1 := ne_of_none q hn
      have hcd : c ≠ dx := fun z => by
        rw [z] at q
        rw [upd_ne ne] at nd
        rw [nd] at q
        cases q
      rw [upd_ne hcd, del_ne hca, upd_ne hca, upd_ne hcd, upd_ne hca]
      exact q
    · rw [upd_ne ne] at nd
      exact nd
  · match r, hq with
    | .error er, hq => exact hq.elim
    | .ok (.ret u), ⟨w, H2, os2, bare2, un2, hok2, rv, ev, d, ea, ed, hd1, q2⟩ =>
      subst ev
      obtain ⟨h2, g2, d2, t2, os'⟩ := s'
      exact ⟨rv, mk_end (raises_own E.ec.ex.hs ty) I1 (Nat.le_succ _) keep un2 hok2 os2 bare2 ea ed hd1 q2⟩
end
end L2.Tb
set_option Elab.async false
set_option linter.all false
set_option maxRecDepth 100000
set_option maxHeartbeats 4000000
/-! an object of an own class: str(x) by its __str__, x == y by its __eq__ (any outcome) -/
namespace L2.Tb
open PySem PySem.Spec PyProof.Rows
section
variable {X : Cx} {C f : Addr} {fd : FuncData} {ps : List Str} {sp : Sp} {k : Nat}
theorem relV_str {z : Str} {u : Value} (r : RelV (.str z) u) : ∃ t, u = .str z t := r
def rStrOwn (C : Addr) (sp : Sp) : List V → Hp → VK → Prop := fun xs H Q => ∃ (a dx : Addr) (fs : List (Str × V)), xs = [.ref a] ∧ H a = some (.ins C dx fs) ∧ sp [.ref a] H (fun v H' => ∃ z, v = .str z ∧ Q (.str z) H') E0
theorem call_strOwn (F : FnOk X.prog X.w X.K X.mg X.base L2.CX0 k f fd ps sp) (hr : Room (k + 2) X.A) (hs : PySem.W.findIn X.K (.ref C) "__str__" = some (some (.ref f))) (hf : PySem.W.isFn X.K (.ref f) = true) (hb : Binds X.K fd ps []) : CallR X (.type "str") (rStrOwn C sp) := by
  intro pins s σ H xs us Q I r h
  obtain ⟨a, dx, fs, rfl, ea, h⟩ := h
  rw [Vals.ref1 r]
  obtain ⟨mA, O, _⟩ := ins_get I.hok ea
  obtain ⟨od, J, _⟩ := O.look
  have r2 : Room k X.A.in1.in1 := hr.in1.in1
  have hl := F.len _ _ _ _ h
  refine PySem.W.kso_call (hr.in1.in1.units0) I.kIn J hs hf (wpAny_call (codeAny_mono (F.run X.A.in1.in1 X.stack s H ⟨[.ref a], []⟩ [.ref a] [.ref a] _ E0 r2 I.env0.in1.in1 (by
    have z := hb s [.ref a] I.kIn (by simpa using hl)
    simpa using z) (.cons rfl .nil) h) fun r s' hq => ?_))
  match r, hq with
  | .error e, hq => exact hq.elim
  | .ok (.ret u), hq =>
    obtain ⟨v, H', I', rv, z, ev, q⟩ := I.after hq
    rw [ev] at rv
    obtain ⟨t, rfl⟩ := relV_str rv
    exact ⟨.str z, H', I', ⟨t, rfl⟩, q⟩
def rOwnEq (K : PySem.W.Frag) (C : Addr) (sp : Sp) : R2 := fun x y H Q => ∃ (a dx : Addr) (fs : List (Str × V)) (t : Value), x = .ref a ∧ H a = some (.ins C dx fs) ∧ TyX K H y t ∧ PySem.W.notFirst K C t = true ∧ sp [.ref a, y] H Q E0
theorem cmp_back {Q : Value → Shared → Prop} {u : Value} {s' : Shared} {v : V} (r : RelV v u) (q : Q u s') : PySem.W.CmpBack Q u s' := by
  cases u <;> first | exact q | (cases v <;> first | (obtain ⟨t, e⟩ := r; cases e; done) | (cases r; done))
theorem op_ownEq (F : FnOk X.prog X.w X.K X.mg X.base L2.CX0 k f fd ps sp) (hr : Room k X.A) (hs : PySem.W.findIn X.K (.ref C) "__eq__" = some (some (.ref f))) (hf : PySem.W.isFn X.K (.ref f) = true) (hb : Binds X.K fd ps []) : OpR X (compareOp .Eq) (rOwnEq X.K C sp) := by
  intro pins s σ H x y v u Q I rx ry h
  obtain ⟨a, dx, fs, t, rfl, ea, ty, nf, h⟩ := h
  obtain rfl : v = Value.ref a := rx
  obtain ⟨mA, O, _⟩ := ins_get I.hok ea
  obtain ⟨od, J, _⟩ := O.look
  obtain ⟨m, hF⟩ := I.fr
  obtain ⟨Pt, kt, pt, _⟩ := kit_of I ry ty
  have hl := F.len _ _ _ _ h
  refine PySem.W.cmp_K (op := .Eq) (tb := t) hr.units0 hF I.ok.mod.kin J (kt.ty _ _ I.kIn pt) nf hs hf (wpAny_call (codeAny_mono (F.run X.A X.stack s H ⟨[.ref a, u], []⟩ [.ref a, u] [.ref a, y] _ E0 hr I.env0 (by
    have z := hb s [.ref a, u] I.kIn (by simpa using hl)
    simpa using z) (.cons rfl (.cons ry .nil)) h) fun r s' hq => ?_))
  match r, hq with
  | .error e, hq => exact hq.elim
  | .ok (.ret u2), hq =>
    obtain ⟨v2, H', I', rv, q⟩ := I.after hq
    exact cmp_back rv ⟨v2, H', I', rv, q⟩
end
end L2.Tb
set_option Elab.async false
set_option linter.all false
set_option maxRecDepth 100000
set_option maxHeartbeats 4000000
/-! C(e, .., k = v) where C stands in a local variable -/
namespace L2.Tb
open PySem PySem.Spec PyProof.Rows
theorem pass_none {X : Cx} : Passes (L2.CX X.prog X.w) X (fun _ _ _ => False) := fun _ _ _ _ _ _ _ h => by
  obtain ⟨_, _, _, _, _, _, _, _, _, _, _, _, z⟩ := h
  exact z.elim
section
variable {X : Cx} {CX : CXT} {k n i : Nat} {f C : Addr} {fd : FuncData} {ps ks : List Str} {sp : Sp} {E : XK} {x : Str} {p pos : Pos} {e : Expr} {es : List Expr} {kws : List Keyword} {t tk : TA} {g : List Value → List Value → List Value} {gV : List V → List V → List V}
def tMakeVK (i : Nat) (C : Addr) (n m : Nat) (sp : Sp) (gV : List V → List V → List V) (E : XK) (t tk : TA) : TE := fun σ H Q => σ[i]? = some (some (.ref C)) ∧ tMakeK C n m sp gV E t tk σ H Q
theorem pe_makeVK (M : Mk X.K C f) (F : FnOk X.prog X.w X.K X.mg X.base CX k f fd ps sp) {j : Nat} (hr : Room j X.A) (hj : k + 1 ≤ j) (hN : X.N[i]? = some x) (hv : Vis X.env.scope x) (hb : KBn X.K fd ps (n + 1) ks g gV) (hx : Passes CX X E) (ha : PA X (e :: es) t) (hkw : PK X kws tk)
    (hall : (backToKw pos (keywordEach kws X.env)).all (·.1.isSome) = true := by rfl) (hks : (backToKw pos (keywordEach kws X.env)).filterMap (·.1) = ks := by rfl) (hd : (x == ("__debug__" : Str)) = false := by decide) (hcd : (x == ("__classdict__" : Str)) = false := by decide)
    (he : starEach (e :: es) X.env = (false, eval e X.env) :: starEach es X.env := by rfl) (hpl : ((backTo pos (starEach (e :: es) X.env)).any (·.1) || (backToKw pos (keywordEach kws X.env)).any (·.1.isNone)) = false := by rfl) :
    PE X (.Call (.Name x p) (e :: es) kws pos) (tMakeVK i C n ks.length sp gV E t tk) := by
  refine ⟨fun pins s σ H Q I ⟨hs, h⟩ => wpAny_Call_Name_kw (thn ((pe_var (pos := p) (i := i) hN hv hd hcd).run pins s σ H (fun v H1 => v = .ref C ∧ H1 = H) I ⟨.ref C, hs, rfl, rfl⟩) fun u s1 hh => ?_)⟩
  obtain ⟨v, H1, I1, r1, ev, eH⟩ := hh
  subst ev eH
  cases r1
  refine PySem.W.callWith_KW (h₀ := X.base) I1.ok.mod.kin M.kp hall (thn (ha.run pos pins s1 σ H1 _ I1 h) fun us s2 ⟨vs, H2, I2, r, q⟩ => thn (hkw.run pos pins s2 σ H2 _ I2 q) fun ws s3 ⟨zs, H3, I3, rz, l1, l2, q2⟩ => ⟨I3.kIn, ?_⟩) hpl he
  rw [hks]
  exact run_makeK M F (hr.mono hj) hb hx I3 r rz l1 l2 q2
end
end L2.Tb
set_option Elab.async false
set_option linter.all false
set_option maxRecDepth 100000
set_option maxHeartbeats 4000000
/-! try: .. / except X as e: .. / except Y as e: .. / whatever clause behind, which is never reached -/
namespace L2.Tb
open PySem PySem.Spec PyProof.Rows
abbrev Suite : Type := Addr → Value → Option Addr → TS
/-- the ends of a suite whose name stands in slot i: the name goes -/
def offName (i : Nat) (D : Ends) : Ends := { nx := fun σ H => D.nx (σ.set i none) H, rt := D.rt, bk := fun σ H => D.bk (σ.set i none) H, ct := fun σ H => D.ct (σ.set i none) H }
def wAsMany (K : PySem.W.Frag) (D : Ends) : List (Value × Nat × Suite) → WX
  | [] => fun _ _ _ _ => False
  | (c, i, ts) :: r => fun cls d σ H => ∃ b, PySem.W.exmOne K cls c = some b ∧ (b = true → ∀ a, H a = none → ts a cls d (offName i D) (σ.set i (some (.ref a))) H) ∧ (b = false → wAsMany K D r cls d σ H)
/-- only for slots of the right number -/
def wLen (N : List Str) (W : WX) : WX := fun cls d σ H => σ.length = N.length → W cls d σ H
inductive HdsAs (X : Cx) : List ExceptHandler → List (Value × Nat × Suite) → Prop
  | stop (rest : List ExceptHandler) : HdsAs X rest []
  | cons {x n : Str} {c : Value} {i : Nat} {ts : Suite} {b0 : Stmt} {suite : List Stmt} {np p : Pos} {hds : List ExceptHandler} {l : List (Value × Nat × Suite)} (hi : X.N[i]? = some n) (hln : X.env.kindOf n = some .local) (hc : Names X x c)
      (hsu : ∀ (a : Addr) (oe : Obj) (cls : Value) (d : Option Addr) (pn : List (Addr × Obj)), Zc cls d oe → (∃ vs, oe.data = .fields vs) → PSs (X.suite a ((a, oe) :: pn)) (b0 :: suite) (ts a cls d)) (r : HdsAs X hds l) :
      HdsAs X (.ExceptHandler (some (.Name x np)) (some n) (b0 :: suite) p :: hds) ((c, i, ts) :: l)
section
variable {X : Cx} {body : List Stmt} {h0 : ExceptHandler} {hds : List ExceptHandler} {l : List (Value × Nat × Suite)} {pos : Pos} {tb : WX → TS}
theorem ps_try_asMany (hs : X.stack = X.env :: X.outer) (hf : X.env.frame = some X.env.locals) (hN : X.N.Nodup)
    (hb : ∀ (W : WX) (pn : List (Addr × Obj)) (xe : Value → Shared → Prop), Takes (X.tr pn xe) W → PassesOwn (model X.prog X.w) X.A X.env xe → PSs (X.tr pn xe) body (tb W)) (hh : HdsAs X (h0 :: hds) l) :
    PS X (.Try body (h0 :: hds) [] [] pos) (fun D σ H => tb (wLen X.N (wAsMany X.K D l)) D σ H) := by
  refine ⟨fun pins s σ H D I h => ?_⟩
  have ok := I.ok
  refine wpAny_Try_except (wpAny_mono ((hb (wLen X.N (wAsMany X.K D l)) (X.pn ++ pins) (fun e s1 => wpAny (model X.prog X.w) X.A (noteFrame e X.env) (fun _ s2 => wpAny (model X.prog X.w) X.A (setFlight e none) (fun _ s3 =>
    wpAny (model X.prog X.w) X.A (handleBy e X.env (h0 :: hds)) (SP X pins D) X.xe s3) X.xe s2) X.xe s1) (fun u s' caught => ?_) PassesOwn.looking).run [] s σ H D (I.toTry _) h) (fun f s1 hsp => ?_) fun _ _ he => he)
  · obtain ⟨a, B, sI, pins', σ', H', cls, d, rfl, J', nb, up, sky, na, os, ag, w⟩ := caught
    have J : Inv X pins σ' H' sI := J'.ofTry ok
    replace w := w J.len
    rw [hs] at sky
    show wpAny (model X.prog X.w) X.A (noteFrame (.ref a) X.env) _ _ _
    refine Sky.land Zc.steady (by rw [ok.frames, hs]) hf sky fun h3 fl3 up3 => ?_
    have J3 : Inv X pins σ' H' { s' with heap := h3 } := J.landed nb fl3.1 (up.trans up3) os ag
    obtain ⟨oe3, vs3, he3, hz3, hd3⟩ := fl3.there
    have nfr : a ∉ frs (X.env :: X.outer) := fun hm => by
      obtain ⟨_, o', e', no⟩ := fl3.2.2.1.mem hm
      rw [he3] at e'
      cases e'
      exact no _ hd3
    have nL : a ≠ X.env.locals := fun z => nfr (List.mem_filterMap.mpr ⟨X.env, List.mem_cons_self, by rw [hf, z]⟩)
    have nF : a ∉ X.fs := fun hm => let ⟨e, he, q⟩ := List.mem_filterMap.mp hm; nfr (List.mem_filterMap.mpr ⟨e, List.mem_cons_of_mem _ he, q⟩)
    have S3 := J3.suite he3 hd3 na nL nF
    clear hb h
    generalize h0 :: hds = all at hh ⊢
    induction hh with
    | stop rest => exact w.elim
    | @cons x n c i ts b0 suite np p hds2 l2 hi hln hc hsu r ih =>
      obtain ⟨b, hb1, hyes, hno⟩ := w
      have LT : PySem.W.Looks (model X.prog X.w) h3 (typeOf (.ref a)) cls := fun A Q E s k q => wpAny_typeOf_ref (k _ _ he3) (by rw [hz3.1]; exact q)
      have LM := PySem.W.exm_one (M := model X.prog X.w) J3.kIn LT hb1
      have test : ∀ {Q : Value → Shared → Prop} {E : Value → Shared → Prop}, Q c { s' with heap := h3 } → wpAny (model X.prog X.w) (X.A.mark (some (.ref a))) (eval (.Name x np) X.env) Q E { s' with heap := h3 } := fun q => by
        rcases hc with ⟨hg, hdbg, hm | ⟨hm, hv, hnn⟩⟩
        · exact ld_glob (X := X.suite a ((a, oe3) :: (X.pn ++ pins))) S3 hg hm q hdbg
        · exact ld_blt (X := X.suite a ((a, oe3) :: (X.pn ++ pins))) S3 hg hm hv q hnn hdbg
      refine wpAny_handleBy_cons (codeAny_handlers_test (test (LM.here ?_))) (by intro q; cases q)
      cases b with
      | false => exact ih (hno rfl)
      | true =>
        refine codeAny_handlers_suite_as (HandSPX.lands_againZ fl3 fun h4 fl4 up4 => ?_)
        have J4 : Inv X pins σ' H' { s' with heap := h4 } := J.landed nb fl4.1 ((up.trans up3).trans up4) os ag
        obtain ⟨oe4, vs4, he4, hz4, hd4⟩ := fl4.there
        refine store_ok (X := X.suite a ((a, oe4) :: (X.pn ++ pins))) (v := .ref a) (J4.suite he4 hd4 na nL nF) hN hi (.inl hln) rfl (fun s5 S5 => ?_) (.inr hln)
        refine wpAny_mono ((hsu a oe4 cls d (X.pn ++ pins) hz4 ⟨_, hd4⟩).run [] s5 _ H' _ S5 (hyes rfl a na)) (fun f s6 hsp => ?_) fun _ _ z => z.elim
        have gone : ∀ {σ6 : St} {H6 : Hp} {Q : Shared → Prop}, Inv (X.suite a ((a, oe4) :: (X.pn ++ pins))) [] σ6 H6 s6 → (∀ s7, Inv X pins (σ6.set i none) H6 s7 → Q s7) → wpAny (model X.prog X.w) X.A (do bindName X.env n .none; unbindBehindTheSuite X.env n p) (fun _ s7 => Q s7) X.xe s6 :=
          fun S6 hq => gone_ok (S6.unsuite ok) hN hi hln hq
        match f, hsp with
        | .next, ⟨σ6, H6, S6, q6⟩ => exact gone S6 fun s7 J7 => ⟨_, _, J7, q6⟩
        | .brk, ⟨σ6, H6, S6, q6⟩ => exact gone S6 fun s7 J7 => ⟨_, _, J7, q6⟩
        | .cont, ⟨σ6, H6, S6, q6⟩ => exact gone S6 fun s7 J7 => ⟨_, _, J7, q6⟩
        | .ret u, ⟨v6, σ6, H6, S6, r6, q6⟩ => exact gone S6 fun s7 J7 => ⟨_, _, _, J7, r6, q6⟩
  · match f, hsp with
    | .next, ⟨σ1, H1, J1, q⟩ => exact wpAny_execs_nil ⟨σ1, H1, J1.ofTry ok, q⟩
    | .brk, ⟨σ1, H1, J1, q⟩ => exact ⟨σ1, H1, J1.ofTry ok, q⟩
    | .cont, ⟨σ1, H1, J1, q⟩ => exact ⟨σ1, H1, J1.ofTry ok, q⟩
    | .ret u, ⟨v, σ1, H1, J1, r, q⟩ => exact ⟨v, σ1, H1, J1.ofTry ok, r, q⟩
end
end L2.Tb
set_option Elab.async false
set_option linter.all false
set_option maxRecDepth 100000
set_option maxHeartbeats 4000000
/-! p, q = e1, e2 where the stores stand from the left (one of the targets is no plain local name): the pair made between is not tracked -/
namespace L2.Tb
open PySem PySem.Spec PyProof.Rows
def tPairL (ta : TA) (g : TGs) : TS := fun D σ H => ta σ H fun vs H1 => vs.length = 2 ∧ g vs σ H1 D.nx
variable {X : Cx} {es vs : List Expr} {ta : TA} {g : TGs} {kt k2 : Nat} {pt pt2 pos : Pos}
theorem ps_pairL (calm : X.calm = true) (right : PA X vs ta) (left : PGs X es g)
    (star : (assignEach es X.env).findIdx? (·.1) = none) (even : (assignEach es X.env).length = 2)
    (plain : swappedStores [.Tuple es kt pt] (.Tuple vs k2 pt2) X.env = pure none)
    (noswap : swapsWithSole [.Tuple es kt pt] (.Tuple vs k2 pt2) pos.line X.env = pure false := by rfl)
    (once : (assignEach [.Tuple es kt pt] X.env).map (·.2) = [assign (.Tuple es kt pt) X.env] := by rfl) :
    PS X (.Assign [.Tuple es kt pt] (.Tuple vs k2 pt2) pos) (tPairL ta g) := by
  refine ⟨fun pins s σ H D I h => ?_⟩
  refine wpAny_Assign_stores (Tuple_ (thn (right.run _ pins s σ H _ I h) fun us s1 ⟨ws, H1, I1, r1, q1⟩ => ?_)) noswap plain
  obtain ⟨e2, q1⟩ := q1
  have hlen : us.length = 2 := by rw [← e2]; exact (Vals.length r1).symm
  refine wpAny_newObj_type ?_ (by show us.length ≤ sizeLine; rw [hlen]; decide)
  have I2 : Inv X pins σ H1 { s1 with heap := s1.heap.push { cls := .type "tuple", data := .seq us.toArray } } := I1.kept (t' := s1.toks) fun b o e => Heap.get?_push_of_some _ e
  rw [once]
  show wpAny (model X.prog X.w) X.A (assign (.Tuple es kt pt) X.env (.ref s1.heap.objs.size)) _ _ _
  refine assign_Tuple_tuple (items := us.toArray) (I.ok.hd calm) (IsTup.new s1.heap _) (by simp [even, hlen]) star fun h' hx => ?_
  have I3 := I2.kept (h' := h') (t' := s1.toks) fun b o e => hx b o (Nat.ne_of_lt (Heap.lt_size e)) e
  refine thn (left.run pins _ σ H1 ws _ D.nx I3 (by simpa using r1) q1) fun _ s2 q => ?_
  exact q
end L2.Tb
set_option Elab.async false
set_option linter.all false
set_option maxRecDepth 100000
set_option maxHeartbeats 4000000
/-! C.m(k = v), m a classmethod; repr of a bool -/
namespace L2.Tb
open PySem PySem.Spec PyProof.Rows
theorem call_repr_bl {X : Cx} : CallR X (.builtin "repr") (fun xs H Q => ∃ b, xs = [.bl b] ∧ Q (.str (if b then "True" else "False")) H) := by
  intro pins s σ H xs us Q I r h
  obtain ⟨b, rfl, q⟩ := h
  obtain ⟨u, rfl, e⟩ := vals1 r
  obtain rfl : u = Value.bool b := e
  exact PySem.P.repr_of_bool ⟨.str _, H, I.tok _, ⟨_, rfl⟩, q⟩
section
variable {X : Cx} {CX : CXT} {k : Nat} {C p g : Addr} {mc : Value} {sp : Sp} {E : XK} {o : Expr} {kws : List Keyword} {m : Str} {pos apos : Pos} {ta : TE} {tk : TA} {pl : Sem Bool} {fd : FuncData} {ps ks : List Str}
theorem pe_cmethK (he : PE X o ta) (r : ClX.CRead X.K C mc) (c : ClX.CMet X.K C mc m p g) (F : FnOk X.prog X.w X.K X.mg X.base CX k g fd ps sp) (hr : Room k X.A) (hx : Passes CX X E) (hkw : PK X kws tk) (hl : ps.length = ks.length + 1)
    (hb : ∀ (sh : Shared) (zs : List Value), zs.length = ks.length → BindsTo sh fd ⟨[.ref C], ks.zip zs⟩ (ps.zip (Value.ref C :: zs)))
    (hall : (backToKw pos (keywordEach kws X.env)).all (·.1.isSome) = true := by rfl) (hks : (backToKw pos (keywordEach kws X.env)).filterMap (·.1) = ks := by rfl)
    (hpl : ((backTo pos (starEach [] X.env)).any (·.1) || (backToKw pos (keywordEach kws X.env)).any (·.1.isNone)) = false := by rfl)
    (ht : eval (.Call (.Attribute o m apos) [] kws pos) X.env = (do
      let ov ← eval o X.env
      standAt apos.atName
      let (f, first) ← holding [ov] (getMethod ov m pl)
      callWith pos f first (backTo pos (starEach [] X.env)) (backToKw pos (keywordEach kws X.env))) := by rfl) :
    PE X (.Call (.Attribute o m apos) [] kws pos) (fun σ H Q => ta σ H fun x H1 => x = .ref C ∧ tk σ H1 fun zs H2 => sp (.ref C :: zs) H2 Q E) := by
  refine ⟨fun pins s σ H Q I h => ?_⟩
  refine PySem.W.methodCall_KW (pl := pl) (thn (he.run pins s σ H _ I h) fun u s1 hh => ?_) ht
  obtain ⟨x, H1, I1, rx, ex, q⟩ := hh
  subst ex
  obtain rfl : u = Value.ref C := rx
  refine ClX.getmethcm_ok I1 r c fun s2 I2 => ?_
  refine PySem.W.callWith_of (P := PySem.W.MethP X.K s1.heap.objs.size g (.ref C)) hpl (PySem.W.keeps_M c.fi) (evalArgs_kw2_nil hall ?_)
  refine thn (hkw.run pos _ s2 σ H1 _ I2 q) fun ws s3 hh => ?_
  obtain ⟨zs, H2, I3, rz, q2⟩ := hh
  refine ⟨⟨ClX.pin_at I3, I3.kIn⟩, ?_⟩
  rw [hks]
  have hw : ws.length = ks.length := by
    have z := F.len _ _ _ _ q2
    rw [List.length_cons, hl] at z
    rw [← rz.length]
    omega
  have run : wpAny (model X.prog X.w) X.A (call (.ref s1.heap.objs.size) [] (ks.zip ws)) (EP X ((s1.heap.objs.size, PySem.W.methodObj (.ref g) (.ref C)) :: pins) σ Q) X.xe s3 := by
    refine wpAny_call (PySem.W.method_call (ClX.pin_at I3) (codeAny_mono (F.run X.A X.stack s3 H2 ⟨[.ref C], ks.zip ws⟩ (.ref C :: ws) (.ref C :: zs) Q E hr I3.env0 (hb s3 ws hw) (.cons rfl rz) q2) fun r s' hq => ?_))
    match r, hq with
    | .error e, hq => exact hx _ σ H2 s3 e s' I3 hq
    | .ok (.ret u2), hq => exact I3.after hq
  exact thn run fun _ _ y => ClX.unpinE y
end
end L2.Tb
set_option Elab.async false
set_option linter.all false
set_option maxRecDepth 100000
set_option maxHeartbeats 4000000
/-! x != y where x's class has an __eq__ of its own and no __ne__ -/
namespace L2.Tb
open PySem PySem.Spec PyProof.Rows
section
variable {prog : Program} {w : World} {A : Around} {E : Value → Shared → Prop} {s : Shared} {K : PySem.W.Frag} {x C f : Addr} {ox : Obj} {od : Option Obj} {b : Value}
theorem ne_body {Q : Fin → Shared → Prop} (hu : A.units < cLine) (X : K.In s.heap) (I : PySem.W.InstAt s.heap x ox C od) (he : PySem.W.findIn K (.ref C) "__eq__" = some (some (.ref f))) (hf : PySem.W.isFn K (.ref f) = true)
    (h : wpAny (model prog w) A (call (.ref f) [.ref x, b]) (fun v s' => ∃ c, v = .bool c ∧ Q (.done (.ret (.bool (!c)))) s') E s) : wpAny (model prog w) A (Builtin.«object.__ne__» ⟨[.ref x, b], []⟩) Q E s := by
  unfold Builtin.«object.__ne__»
  refine wpAny_bind (wpAny_of_eq (show _ = (pure (Value.ref x, [b]) : Sem (Value × List Value)) from rfl) ?_)
  refine wpAny_bind (wpAny_cRoomFor hu (wpAny_bind (PySem.W.ifBound_K X I he hf (wpAny_mono h (fun v s' hv => ?_) fun _ _ e => e))))
  obtain ⟨c, rfl, q⟩ := hv
  exact wpAny_bind (wpAny_truthy_bool (wpAny_pure q))
theorem ne_call {Q : Value → Shared → Prop} (hu : A.in1.units < cLine) (X : K.In s.heap) (I : PySem.W.InstAt s.heap x ox C od) (hm : PySem.W.mroIn K C (.type "object") = some true) (he : PySem.W.findIn K (.ref C) "__eq__" = some (some (.ref f))) (hf : PySem.W.isFn K (.ref f) = true)
    (h : wpAny (model prog w) A.in1 (call (.ref f) [.ref x, b]) (fun v s' => ∃ c, v = .bool c ∧ Q (.bool (!c)) s') E s) : wpAny (model prog w) A (call (.builtin "object.__ne__") [.ref x, b]) Q E s :=
  wpAny_call (codeAny_call_builtin F.cmp_object.ne.plain F.cmpEntry_ne (PySem.W.check_slot F.cmpKind_ne F.cmpSplit_ne (I.type.andThen (PySem.W.looks_mroIn X hm)) (F.cmpArgs_ne _ _) (ne_body hu X I he hf h)))
theorem bound_ne {args : List Value} {Q : Option Value → Shared → Prop} (X : K.In s.heap) (I : PySem.W.InstAt s.heap x ox C od) (hs : PySem.W.findIn K (.ref C) "__ne__" = some (some (.builtin "object.__ne__")))
    (h : wpAny (model prog w) A (call (.builtin "object.__ne__") (.ref x :: args)) (fun v => Q (some v)) E s) : wpAny (model prog w) A (callSpecialIfBound? (.ref x) "__ne__" args) Q E s := by
  have run : wpAny (model prog w) A (call (.builtin "object.__ne__") ([.ref x] ++ args) >>= fun v => pure (some v)) Q E s := wpAny_bind (wpAny_mono h (fun _ _ q => wpAny_pure q) fun _ _ q => q)
  simp only [callSpecialIfBound?, bindSpecialIfBound?]
  refine wpAny_holding (wpAny_bind (wpAny_bind (wpAny_bind (I.type.here ((PySem.W.looks_findIn X hs).here (wpAny_bind (wpAny_askSetting (wpAny_ite ?_))))))))
  split
  · exact wpAny_bind (wpAny_of_eq (F.cmp_object.ne.bind _) (wpAny_pure (by exact run)))
  · exact wpAny_tryCatch (wpAny_bind (wpAny_of_eq (F.cmp_object.ne.bind _) (wpAny_pure (by exact run))))
theorem rc_ne {Q : Value → Shared → Prop} {tb : Value} (hu : A.units + 2 < cLine) (X : K.In s.heap) (I : PySem.W.InstAt s.heap x ox C od) (hb : PySem.W.Looks (model prog w) s.heap (typeOf b) tb) (hn : PySem.W.notFirst K C tb = true) (hm : PySem.W.mroIn K C (.type "object") = some true)
    (hs : PySem.W.findIn K (.ref C) "__ne__" = some (some (.builtin "object.__ne__"))) (he : PySem.W.findIn K (.ref C) "__eq__" = some (some (.ref f))) (hf : PySem.W.isFn K (.ref f) = true)
    (h : wpAny (model prog w) A.in1 (call (.ref f) [.ref x, b]) (fun v s' => ∃ c, v = .bool c ∧ Q (.bool (!c)) s') E s) : wpAny (model prog w) A (richCompare .NotEq (.ref x) b) Q E s := by
  have one : wpAny (model prog w) A (tryCompare (.ref x) (cmpInfo .NotEq).2.1 b) (fun r s' => ∃ c, r = some (.bool (!c)) ∧ Q (.bool (!c)) s') E s := by
    unfold tryCompare
    refine wpAny_bind (bound_ne X I hs (ne_call (show A.units + 1 < cLine by omega) X I hm he hf (wpAny_mono h (fun v s' hv => ?_) fun _ _ e => e)))
    obtain ⟨c, e, q⟩ := hv
    exact ⟨c, e, wpAny_pure ⟨c, rfl, q⟩⟩
  unfold richCompare
  simp only [oneThing_ref]
  refine wpAny_holding (wpAny_bind (wpAny_cRoomFor (show A.units < cLine by omega) ?_))
  refine wpAny_bind (I.type.here (wpAny_bind (hb.here ?_)))
  split
  · rename_i q
    have e : PySem.W.subIn K tb (.ref C) = some false := (Bool.or_eq_true_iff.mp hn).elim (fun z => absurd q (by rw [beq_iff_eq.mp z]; simp)) fun z => beq_iff_eq.mp z
    refine wpAny_bind ((PySem.W.looks_subIn X e).here ?_)
    simp only [Bool.false_eq_true, if_false]
    refine wpAny_bind (wpAny_mono one (fun r s' z => ?_) fun _ _ e => e)
    obtain ⟨c, rfl, hq⟩ := z
    exact wpAny_pure hq
  · refine wpAny_bind (wpAny_pure ?_)
    simp only [Bool.false_eq_true, if_false]
    refine wpAny_bind (wpAny_mono one (fun r s' z => ?_) fun _ _ e => e)
    obtain ⟨c, rfl, hq⟩ := z
    exact wpAny_pure hq
end
section
variable {X : Cx} {C f : Addr} {fd : FuncData} {ps : List Str} {sp : Sp} {k : Nat}
def rOwnNe (K : PySem.W.Frag) (C : Addr) (sp : Sp) : R2 := fun x y H Q => ∃ (a dx : Addr) (fs : List (Str × V)) (t : Value), x = .ref a ∧ H a = some (.ins C dx fs) ∧ TyX K H y t ∧ PySem.W.notFirst K C t = true ∧ sp [.ref a, y] H (fun v H' => ∃ c, v = .bl c ∧ Q (.bl (!c)) H') E0
theorem op_ownNe (F : FnOk X.prog X.w X.K X.mg X.base L2.CX0 k f fd ps sp) (hr : Room (k + 1) X.A) (hm : PySem.W.mroIn X.K C (.type "object") = some true) (hs : PySem.W.findIn X.K (.ref C) "__ne__" = some (some (.builtin "object.__ne__")))
    (he : PySem.W.findIn X.K (.ref C) "__eq__" = some (some (.ref f))) (hf : PySem.W.isFn X.K (.ref f) = true) (hb : Binds X.K fd ps []) : OpR X (compareOp .NotEq) (rOwnNe X.K C sp) := by
  intro pins s σ H x y v u Q I rx ry h
  obtain ⟨a, dx, fs, t, rfl, ea, ty, nf, h⟩ := h
  obtain rfl : v = Value.ref a := rx
  obtain ⟨mA, O, _⟩ := ins_get I.hok ea
  obtain ⟨od, J, _⟩ := O.look
  obtain ⟨Pt, kt, pt, _⟩ := kit_of I ry ty
  have hl := F.len _ _ _ _ h
  refine rc_ne (tb := t) (by have := hr.un; omega) I.kIn J (kt.ty _ _ I.kIn pt) nf hm hs he hf (wpAny_call (codeAny_mono (F.run X.A.in1 X.stack s H ⟨[.ref a, u], []⟩ [.ref a, u] [.ref a, y] _ E0 hr.in1 I.env0.in1 (by
    have z := hb s [.ref a, u] I.kIn (by simpa using hl)
    simpa using z) (.cons rfl (.cons ry .nil)) h) fun r s' hq => ?_))
  match r, hq with
  | .error e, hq => exact hq.elim
  | .ok (.ret u2), hq =>
    obtain ⟨v2, H', I', rv, c, e, q⟩ := I.after hq
    rw [e] at rv
    obtain rfl : u2 = Value.bool c := rv
    exact ⟨c, rfl, .bl (!c), H', I', rfl, q⟩
end
end L2.Tb
set_option Elab.async false
set_option linter.all false
set_option maxRecDepth 100000
set_option maxHeartbeats 4000000
namespace L2.Tb
open PySem PySem.Spec PyProof.Rows
/-! ### a def whose code object is known -/
section
variable {P : Program} {w : World} {K : PySem.W.Frag} {mg : Str → Option Value} {base : Heap} {x : Str} {st : Stmt} {fd : FuncData} {N ps : List Str} {k : Nat} {sp : Sp}
/-- as cal_mk, the body being told where the def's code object stands -/
theorem cal_mkC {at_ : Str × Option Str} (F : FnP K x st (He.fAd K at_) fd) (hm : mg x = some (.ref (He.fAd K at_))) (S : FnScope N ps (defScope st))
    (hb : ∀ (kV doc pm : Value) (an : Option Addr) (cdv ct : Value) (us : List Value), us.length = ps.length → bindArgs (PySem.W.fnOf x x (defArgs st) (defBody st) (defScope st) .none kV doc pm an cdv ct) ⟨us, []⟩ = pure (ps.zip us))
    (len : ∀ vs H Q E, sp vs H Q E → vs.length = ps.length)
    (hbody : ∀ (cdv : Value) (A : Around) (outer : List Env) (s : Shared) (H : Hp) (vs : List V) (Q : VK) (E : XK), cdv = .ref (He.codeOf K at_) → Room k (A.deeper (envOfC x (defScope st) s.heap.objs.size (He.fAd K at_) cdv)) → sp vs H Q E →
      ∃ t, PSs (cxOf L2.CX0 P w K mg base N x (defScope st) (He.fAd K at_) cdv A outer s H E).nox (defBody st) t ∧ t { nx := fun _ H' => Q .non H', rt := Q } (start N vs) H) : Cal P w K mg base (k + 1) x sp := by
  obtain ⟨oc, od, dV, kV, doc, pm, an, cdv, ct, osl, rfl, lk, hcd, _, _⟩ := id F.ex
  obtain ⟨c, rfl⟩ := He.codeIn_ref hcd
  have hc : (Value.ref c) = .ref (He.codeOf K at_) := by rw [He.codeOf_eq lk rfl]
  refine ⟨_, _, ps, fn_of lk hcd S len fun A outer s H vs Q E hr h => ?_, hm, F.kp, F.bindsN hb⟩
  obtain ⟨t, a, b⟩ := hbody _ A outer s H vs Q E hc hr h
  exact ⟨t, a.nox, b⟩
end
/-! ### the end at the place of the law's call, some code objects having tables -/
section
variable {P : Program} {w : World} {K : PySem.W.Frag} {mg mb : Str → Option Value} {fa a : Addr} {fd : FuncData} {x : Str} {sp : Sp} {s1 : Shared} {vs : List Value} {ns : List Int} {cs : List (Addr × Addr)}
theorem law_atT (KX : K.In s1.heap) (hns : s1.heap.Ns mainGlobals mg) (hb : s1.heap.Ns builtinsNs mb)
    (hbb : ∀ x : Str, x ≠ "__name__" → mb x = bootBuiltins x) (hlim : s1.heap.NoLimit) (hg : s1.gens = #[]) (hT : ∀ p ∈ cs, s1.heap.get? p.2 = some { cls := .none, data := .fields #[] }) (nT : ∀ p ∈ cs, K.lookup p.2 = none) (C : ∀ p ∈ cs, PySem.W.CodeHd s1.heap p.1 p.2)
    (hbm : ∃ (bm : Addr) (ob : Obj), mg "__builtins__" = some (.ref bm) ∧ bm ≠ builtinsNs ∧ s1.heap.get? bm = some ob ∧ ob.cls = .type "module" ∧ ob.dict = some builtinsNs ∧ ob.data = .plain)
    (ha : s1.heap.get? a = some { cls := .type "list", data := .seq vs.toArray }) (hi : IntsAre vs ns) (hl : ns.length ≤ sizeLine)
    (R : ∀ base : Heap, K.In base → base.Ns mainGlobals mg → (∀ p ∈ cs, LamX.TabB base mg p.1 p.2) → RunsAt P w K mg base fa fd [x] sp callerA) (hbind : ∀ (s : Shared) (u : Value), BindsTo s fd ⟨[u], []⟩ [(x, u)])
    (hsp : ∀ H : Hp, (∀ p ∈ cs, H p.2 = some (.tbl #[])) → SqL K H a (ns.map V.int) → sp [.ref a] H (fun v _ => v = .bl true) fun _ _ _ => False) :
    codeAny (model P w) callerA (.call (.ref fa) ⟨[.ref a], []⟩) (fun r s' => r = .ok (.ret (.bool true)) ∧ OldK s1.heap s'.heap ∧ s'.os = s1.os ∧ AllBare s'.gens) s1 := by
  let ob : Obj := { cls := .type "list", data := .seq vs.toArray }
  let Ts : List Addr := cs.map (·.2)
  let H : Hp := fun b => if b ∈ Ts then some (.tbl #[]) else if b = a ∧ K.lookup a = none then some (.frz ob (.lst (ns.map V.int))) else none
  have tabs : ∀ {b}, b ∈ Ts → ∃ p ∈ cs, p.2 = b := fun h => by
    obtain ⟨p, hp, e⟩ := List.mem_map.mp h
    exact ⟨p, hp, e⟩
  have tab1 : ∀ p ∈ cs, p.2 ∈ Ts := fun p hp => List.mem_map_of_mem hp
  have objT : ∀ {b}, b ∈ Ts → s1.heap.get? b = some { cls := .none, data := .fields #[] } := fun h => by
    obtain ⟨p, hp, rfl⟩ := tabs h
    exact hT p hp
  have aT : a ∉ Ts := fun h => by
    have z := (objT h).symm.trans ha
    cases z
  have hTab : ∀ {b}, b ∈ Ts → H b = some (.tbl #[]) := fun h => if_pos h
  have hNot : ∀ {b}, b ∉ Ts → (b = a → (K.lookup a).isSome = true) → H b = none := fun {b} h1 h2 => by
    refine (if_neg h1).trans (if_neg fun ⟨e, k⟩ => ?_)
    have z := h2 e
    rw [k] at z
    cases z
  have hCase : ∀ b o, H b = some o → (b ∈ Ts ∧ o = .tbl #[]) ∨ (b ∉ Ts ∧ b = a ∧ K.lookup a = none ∧ o = .frz ob (.lst (ns.map V.int))) := fun b o e => by
    by_cases h1 : b ∈ Ts
    · rw [hTab h1] at e
      exact .inl ⟨h1, (Option.some.inj e).symm⟩
    · have e2 : (if b = a ∧ K.lookup a = none then some (HO.frz ob (.lst (ns.map V.int))) else none) = some o := (if_neg h1).symm.trans e
      by_cases h2 : b = a ∧ K.lookup a = none
      · rw [if_pos h2] at e2
        exact .inr ⟨h1, h2.1, h2.2, (Option.some.inj e2).symm⟩
      · rw [if_neg h2] at e2
        cases e2
  have plain : ∀ {b o}, s1.heap.get? b = some o → (∀ u n, o.data ≠ .seq u n) → o.data ≠ .fields #[] → H b = none := fun {b o} e n1 n2 => by
    refine hNot (fun h => n2 ?_) fun h => absurd ?_ (n1 vs.toArray 0)
    · have z := e.symm.trans (objT h)
      cases z
      rfl
    · rw [h, ha] at e
      cases e
      rfl
  have ns1 : ∀ {b : Addr} {m : Str → Option Value}, s1.heap.Ns b m → (hidT s1.heap H).Ns b m := fun {b m} ⟨o, es, ep, e, d, r⟩ =>
    ⟨o, es, ep, hidT_get e (plain e (fun u n z => by rw [d] at z; cases z) (fun z => by rw [d] at z; cases z)), d, r⟩
  have kin : K.In (hidT s1.heap H) := fun b o e => hidT_get (KX b o e) (hNot (fun h => by
    obtain ⟨p, hp, rfl⟩ := tabs h
    rw [nT p hp] at e
    cases e) fun h => by rw [← h, e]; rfl)
  have rv := vals_ints hi
  have sq : SqL K H a (ns.map V.int) := by
    cases hk : K.lookup a with
    | none => exact .inl (.inr ⟨ob, (if_neg aT).trans (if_pos ⟨rfl, hk⟩)⟩)
    | some o =>
      have e := KX a o hk
      rw [ha] at e
      cases e
      exact .inr ⟨_, vs.toArray, _, hk, rfl, rfl, rfl, by rw [List.size_toArray, hi.length]; exact hl, by simpa using rv⟩
  have hok : HOk P w H s1.heap := fun b u z => by
    rcases hCase b u z with ⟨h1, rfl⟩ | ⟨_, rfl, _, rfl⟩
    · exact objT h1
    · exact ⟨ha, by rw [List.length_map]; exact hl, vs, _, rv, ha⟩
  obtain ⟨mc, l1, l2⟩ := hlim
  have e0 : Env0 P w K mg (hidT s1.heap H) callerA [] s1 H := ⟨rfl, ⟨kin, ns1 hns, ⟨mb, ns1 hb, hbb⟩, ⟨mc, ns1 l1, l2⟩⟩, fun _ _ e => of_hidT e, Nat.le_of_eq (hidT_size _ _), trivial, fun b hb => (nomatch hb), hok, .of_eq hg⟩
  have TB : ∀ p ∈ cs, LamX.TabB (hidT s1.heap H) mg p.1 p.2 := fun p hp => by
    have tp := hT p hp
    obtain ⟨og, es, ep, eg, dg, _⟩ := id hns
    refine ⟨?_, ?_, fun z => ?_⟩
    · obtain ⟨o, us, file, tf, flags, tg, inF, text, tt, e1, q⟩ := C p hp
      refine ⟨o, us, file, tf, flags, tg, inF, text, tt, hidT_get e1 (plain e1 (fun u n z => ?_) fun z => ?_), q⟩
      · rw [q.2.1] at z
        cases z
      · rw [q.2.1] at z
        cases z
        exact absurd q.2.2.1 (by simp)
    · obtain ⟨bm, o, b1, b2, b3, b4, b5, b6⟩ := hbm
      refine ⟨bm, o, b1, b2, fun z => ?_, fun z => ?_, hidT_get b3 (plain b3 (fun u n z => ?_) fun z => ?_), b4, b5, b6⟩
      · rw [z, eg] at b3
        cases b3
        rw [dg] at b6
        cases b6
      · rw [z, tp] at b3
        cases b3
        cases b6
      · rw [b6] at z
        cases z
      · rw [b6] at z
        cases z
    · rw [z, tp] at eg
      cases eg
      cases dg
  refine codeAny_mono (R _ kin (ns1 hns) TB [] s1 H _ [.ref a] [.ref a] (fun v _ => v = .bl true) (fun _ _ _ => False) e0 (hbind s1 (.ref a)) (.cons rfl .nil) rfl (hsp H (fun p hp => hTab (tab1 p hp)) sq)) fun r s' h => ?_
  match r, h with
  | .error e, h => exact h.elim
  | .ok (.ret u), ⟨v, H', os, bare, un, hok', r', q⟩ =>
    subst q
    obtain rfl : u = Value.bool true := r'
    have grown : ∀ {b}, b ∈ Ts → ∃ more : Array Value, s'.heap.get? b = some { cls := .none, data := .fields more } := fun {b} h => by
      obtain ⟨more, z⟩ := un.tbls b #[] (hTab h)
      exact ⟨_, hok' b _ z⟩
    have kept : ∀ {b o}, b ∉ Ts → s1.heap.get? b = some o → s'.heap.get? b = some o := fun {b o} h1 e => by
      cases z : H b with
      | none => exact un.keep b o e z (fun z => nomatch z) (fun z => nomatch z)
      | some o2 =>
        rcases hCase b o2 z with ⟨h2, _⟩ | ⟨_, rfl, _, rfl⟩
        · exact absurd h2 h1
        · rw [ha] at e
          cases e
          exact (hok' b _ (un.frzs b ob _ z)).1
    refine ⟨rfl, ⟨fun b o e => ?_, fun b o e => ?_⟩, os, bare⟩
    · by_cases h1 : b ∈ Ts
      · obtain ⟨more, hm⟩ := grown h1
        obtain ⟨p, hp, rfl⟩ := tabs h1
        have z := e.symm.trans (hT p hp)
        cases z
        exact .inr (.inl ⟨((C p hp).tab (hT p hp)).isCodeTable, rfl, #[], more, rfl, by rw [Array.empty_append]; exact hm⟩)
      · exact .inl (kept h1 e)
    · by_cases h1 : b ∈ Ts
      · obtain ⟨more, hm⟩ := grown h1
        exact ⟨_, hm⟩
      · exact ⟨o, kept h1 e⟩
end
theorem walk_atT {l : PySem.W.OpenLaw} {n : Nat} {q : Program} {loose : List Str} {XP : (Str → Option Value) → Heap → Prop} {YP : World → Heap → Prop} {d : DefRec} {x : Str} (hn : l.most = some n) (hn2 : n ≤ sizeLine) (hdf : d.params.defaults = [])
    (F : ∀ (w : World) (mg : Str → Option Value) (fa : Addr) (h : Heap), YP w h → h.Ns mainGlobals mg → mg d.name = some (.ref fa) → ∃ (K : PySem.W.Frag) (fd : FuncData) (sp : Sp) (cs : List (Addr × Addr)), K.In h ∧ (∀ p ∈ cs, h.get? p.2 = some { cls := .none, data := .fields #[] }) ∧
      (∀ p ∈ cs, K.lookup p.2 = none) ∧ (∀ p ∈ cs, PySem.W.CodeHd h p.1 p.2) ∧ (∀ (s : Shared) (u : Value), BindsTo s fd ⟨[u], []⟩ [(x, u)]) ∧
      (∀ (H : Hp) (a : Addr) (ns : List Int), ns.length ≤ n → (∀ z ∈ ns, Builtin.Int.intBits z ≤ 1048576) → (∀ p ∈ cs, H p.2 = some (.tbl #[])) → SqL K H a (ns.map V.int) → sp [.ref a] H (fun v _ => v = .bl true) fun _ _ _ => False) ∧
      ∀ base : Heap, K.In base → base.Ns mainGlobals mg → (∀ p ∈ cs, LamX.TabB base mg p.1 p.2) → RunsAt l.prog w K mg base fa fd [x] sp callerA) :
    PySem.W.WalkO q loose XP YP l.row.toRowW d [] (fun f vs => PySem.call f vs) := by
  refine Att.attach_callB hn hdf fun w s0 s1 mg mb fa o pm cd doc a vs ns G Y ho hd hcd hmg hobj hints hlen hbits hg => ?_
  obtain ⟨K, fd, sp, cs, KX, hT, nT, C, hb, hsp, R⟩ := F w mg fa _ Y G.T.g hmg
  exact law_atT KX G.T.g G.T.b G.T.builtins G.T.nolimit hg hT nT C G.T.bmain hobj hints (Nat.le_trans hlen hn2) R hb fun H hH sq => hsp H a ns hlen hbits hH sq
end L2.Tb
set_option Elab.async false
set_option linter.all false
set_option maxRecDepth 100000
set_option maxHeartbeats 4000000
/-! what a head is asked for: own facts in one Bool, defs at any address, written dicts, empty code tables -/
namespace L2.Tb
open PySem PySem.Spec PyProof.Rows
/-- a plain own class, as isinstance and != ask of it -/
structure InsC (K : PySem.W.Frag) (C : Addr) : Prop where
  ha : PySem.W.findIn K (.ref C) "__class__" = some (some (.builtin "object.__class__"))
  hn : PySem.W.specialIn K (.builtin "object.__class__") "__get__" = some (some (.builtin "getset_descriptor.__get__"))
  ht : PySem.W.takesIn K (.builtin "object.__class__") = some true
  hm : PySem.W.mroIn K C (.type "object") = some true
def insB (K : PySem.W.Frag) (C : Addr) : Bool := He.eqO (PySem.W.findIn K (.ref C) "__class__") (some (some (.builtin "object.__class__"))) && (He.eqO (PySem.W.specialIn K (.builtin "object.__class__") "__get__") (some (some (.builtin "getset_descriptor.__get__"))) &&
  (decide (PySem.W.takesIn K (.builtin "object.__class__") = some true) && decide (PySem.W.mroIn K C (.type "object") = some true)))
theorem insB_ok {K : PySem.W.Frag} {C : Addr} (h : insB K C = true) : InsC K C := by
  obtain ⟨a, h⟩ := He.ba h
  obtain ⟨b, h⟩ := He.ba h
  obtain ⟨c, d⟩ := He.ba h
  exact ⟨He.eqO_ok a, He.eqO_ok b, of_decide_eq_true c, of_decide_eq_true d⟩
/-- a property of the class -/
abbrev pAd (K : PySem.W.Frag) (C : Addr) (f : Str) : Addr := He5.wf K C "property" f
def propB (K : PySem.W.Frag) (C : Addr) (f : Str) : Bool := He.eqO (PySem.W.findIn K (.ref C) f) (some (some (.ref (He.ma K C f)))) && (He.eqO (PySem.W.specialIn K (.ref (He.ma K C f)) "__get__") (some (some (.builtin "property.__get__"))) &&
  (decide (PySem.W.takesIn K (.ref (He.ma K C f)) = some true) && (match PySem.W.recIn K (He.ma K C f) "property" with
    | some (.ref _ :: _) => true
    | _ => false)))
theorem propB_ok {K : PySem.W.Frag} {C : Addr} {f : Str} (h : propB K C f = true) : PropOf K C f (He.ma K C f) (pAd K C f) := by
  obtain ⟨a, h⟩ := He.ba h
  obtain ⟨b, h⟩ := He.ba h
  obtain ⟨c, d⟩ := He.ba h
  refine ⟨He.eqO_ok a, He.eqO_ok b, of_decide_eq_true c, ?_⟩
  unfold pAd He5.wf
  split at d
  · rename_i g r e
    exact ⟨r, by rw [e]⟩
  · cases d
/-- a class that is read by its name; its classmethods -/
abbrev cAd (K : PySem.W.Frag) (C : Addr) (m : Str) : Addr := He5.wf K C "classmethod" m
def creadB (K : PySem.W.Frag) (C : Addr) : Bool := PySem.W.readsIn K C (.type "type") && He.eqO (PySem.W.specialIn K (.ref C) "__getattribute__") (some (some (.builtin "type.__getattribute__")))
theorem creadB_ok {K : PySem.W.Frag} {C : Addr} (h : creadB K C = true) : ClX.CRead K C (.type "type") := ⟨(He.ba h).1, He.eqO_ok (He.ba h).2⟩
def cmetB (K : PySem.W.Frag) (C : Addr) (m : Str) : Bool := He5.wrapB K C "classmethod" "classmethod.__get__" m && PySem.W.fnIn K (cAd K C m)
theorem cmetB_ok {K : PySem.W.Frag} {C : Addr} {m : Str} (h : cmetB K C m = true) : ClX.CMet K C (.type "type") m (He.ma K C m) (cAd K C m) := He5.cmet_of (He.ba h).1 (He.ba h).2
/-! ### what the module's names reach -/
def refsAll (g : Addr → Option Obj) (as : List Addr) : List Addr := as.flatMap fun a => match g a with
  | some o => He.refsD o
  | none => []
def seenAt (g : Addr → Option Obj) : Nat → List Addr → List Addr
  | 0, as => as
  | n + 1, as => as ++ seenAt g n (refsAll g as)
def kH (n : Nat) (g : Addr → Option Obj) : PySem.W.Frag := He.frT g (seenAt g n [mainGlobals] ++ [cStatics])
/-! ### the Hook -/
section
variable (n : Nat) (fb : PySem.W.Frag → Bool) (fn : List He5.DefA) (ts : List He.Tab) (tf : List He.Defn)
abbrev AlH : Type := (Bool × List He.FnW) × List (Option (List (Option (Str × Int))))
def obsH (g : Addr → Option Obj) : AlH := ((fb (kH n g) && (He.tabsB g tf (kH n g) && fn.all fun d => d.ok (kH n g)), fn.map fun d => He5.fnA (kH n g) (d.at_ (kH n g))), ts.map fun t => He.dicW (kH n g) (t.1 (kH n g)))
def valH (w : World) : AlH := ((true, fn.map He5.DefA.val), ts.map fun t => some (He.keysIn w.params t.2))
structure SaysH (w : World) (h : Heap) (K : PySem.W.Frag) : Prop where
  kin : K.In h
  fb : fb K = true
  df : ∀ d ∈ fn, ∃ fd, FunD K d.name d.qual d.params d.body d.scope (d.dvs K) (d.kws K) (d.at_ K) fd
  tb : ∀ t ∈ ts, ∃ es m, KDict K w (t.1 K) es m
  hd : ∀ p ∈ tf, PySem.W.codeHdIn K (He.cT K p).1 (He.cT K p).2 = true
  out : ∀ p ∈ tf, K.lookup (He.cT K p).2 = none
  emp : ∀ p ∈ tf, h.get? (He.cT K p).2 = some { cls := .none, data := .fields #[] }
end
section
variable {n : Nat} {fb : PySem.W.Frag → Bool} {fn : List He5.DefA} {ts : List He.Tab} {tf : List He.Defn}
theorem map_mem {α β : Type} {f g : α → β} {l : List α} (h : l.map f = l.map g) {a : α} (ha : a ∈ l) : f a = g a := List.map_inj_left.mp h a ha
theorem saysH_of {w : World} {h : Heap} (e : obsH n fb fn ts tf h.get? = valH fn ts w) : SaysH fb fn ts tf w h (kH n h.get?) := by
  have e1 : (fb (kH n h.get?) && (He.tabsB h.get? tf (kH n h.get?) && fn.all fun d => d.ok (kH n h.get?))) = true := congrArg (fun z : AlH => z.1.1) e
  have e2 : (fn.map fun d => He5.fnA (kH n h.get?) (d.at_ (kH n h.get?))) = fn.map He5.DefA.val := congrArg (fun z : AlH => z.1.2) e
  have e3 : (ts.map fun t => He.dicW (kH n h.get?) (t.1 (kH n h.get?))) = ts.map fun t => some (He.keysIn w.params t.2) := congrArg (fun z : AlH => z.2) e
  obtain ⟨a, b⟩ := He.ba e1
  obtain ⟨b, c⟩ := He.ba b
  have tab : ∀ p ∈ tf, PySem.W.codeHdIn (kH n h.get?) (He.cT (kH n h.get?) p).1 (He.cT (kH n h.get?) p).2 = true ∧ ∃ o, h.get? (He.cT (kH n h.get?) p).2 = some o ∧ He.emptyTab o = true := fun p hp => by
    obtain ⟨x, y⟩ := He.ba (List.all_eq_true.mp b p hp)
    refine ⟨x, ?_⟩
    split at y
    · rename_i o q
      exact ⟨o, q, y⟩
    · cases y
  refine ⟨He.frT_in, a, fun d hd => He5.DefA.funD (map_mem e2 hd) (List.all_eq_true.mp c d hd), fun t ht => He.dicW_ok (map_mem e3 ht), fun p hp => (tab p hp).1, fun p hp => ?_, fun p hp => ?_⟩
  · obtain ⟨_, o, q, z⟩ := tab p hp
    exact He.frT_none q z
  · obtain ⟨_, o, q, z⟩ := tab p hp
    rw [q, He.emptyTab_eq z]
def hookH (n : Nat) (fb : PySem.W.Frag → Bool) (fn : List He5.DefA) (ts : List He.Tab) (tf : List He.Defn) : PySem.W.Hook where
  α := AlH
  obs := fun s => obsH n fb fn ts tf s.heap.get?
  val := fun w => valH fn ts w
  says := fun w h => ∃ K : PySem.W.Frag, SaysH fb fn ts tf w h K
  of := fun _ _ e => ⟨_, saysH_of e⟩
  keeps := fun _ _ _ ⟨K, c⟩ k => ⟨K, PySem.W.Frag.In.keeps c.kin k, c.fb, c.df, c.tb, c.hd, c.out, fun p hp => k _ _ (c.emp p hp)⟩
theorem obH_eq (s : PySem.W.SharedT) : obsH n fb fn ts tf (HandSHeadRun.getT s) = (hookH n fb fn ts tf).obs s.abs := by
  have e : HandSHeadRun.getT s = s.abs.heap.get? := funext fun a => HandSHeadRun.getT_eq s a
  show obsH n fb fn ts tf (HandSHeadRun.getT s) = obsH n fb fn ts tf s.abs.heap.get?
  rw [e]
theorem SaysH.nth {w : World} {h : Heap} {K : PySem.W.Frag} (c : SaysH fb fn ts tf w h K) (i : Nat) {d : He5.DefA} (e : fn[i]? = some d := by rfl) : ∃ fd, FunD K d.name d.qual d.params d.body d.scope (d.dvs K) (d.kws K) (d.at_ K) fd := c.df d (List.mem_of_getElem? e)
theorem SaysH.cs {w : World} {h : Heap} {K : PySem.W.Frag} (c : SaysH fb fn ts tf w h K) : (∀ p ∈ tf.map (He.cT K), h.get? p.2 = some { cls := .none, data := .fields #[] }) ∧ (∀ p ∈ tf.map (He.cT K), K.lookup p.2 = none) ∧ ∀ p ∈ tf.map (He.cT K), PySem.W.CodeHd h p.1 p.2 := by
  refine ⟨fun p hp => ?_, fun p hp => ?_, fun p hp => ?_⟩ <;> obtain ⟨q, hq, rfl⟩ := List.mem_map.mp hp
  · exact c.emp q hq
  · exact c.out q hq
  · exact PySem.W.codeHd_of_K c.kin (c.hd q hq)
end
/-- all of a list of names -/
theorem all_get {α : Type} {p : α → Bool} {l : List α} (h : l.all p = true) (i : Nat) {a : α} (e : l[i]? = some a := by rfl) : p a = true := List.all_eq_true.mp h a (List.mem_of_getElem? e)
/-! ### a written dict's keys; a written tuple -/
def keyS (e : DictEntry) : Option Str := match e.key with
  | .str z _ => some z
  | _ => none
def keysB (K : PySem.W.Frag) (a : Addr) (ks : List Str) : Bool := match K.lookup a with
  | some ⟨_, _, .dict es _, _⟩ => decide (es.toList.map keyS = ks.map some)
  | _ => false
theorem keysB_ok {K : PySem.W.Frag} {a : Addr} {ks : List Str} (h : keysB K a ks = true) (z : Str) : ∃ r, PySem.W.nsIn K a z = some r ∧ r.isSome = ks.contains z := by
  unfold keysB at h
  split at h
  · rename_i oc od es n sl q
    have h := of_decide_eq_true h
    unfold PySem.W.nsIn
    rw [q]
    dsimp only
    have key : ∀ (l : List DictEntry) (ks : List Str), l.map keyS = ks.map some → l.any (·.refKey) = false ∧ (l.find? (·.key.isStr z)).isSome = ks.contains z := by
      intro l
      induction l with
      | nil =>
        intro ks h
        cases ks with
        | nil => exact ⟨rfl, rfl⟩
        | cons => cases h
      | cons e l ih =>
        intro ks h
        cases ks with
        | nil => cases h
        | cons k ks =>
          rw [List.map_cons, List.map_cons] at h
          injection h with h1 h2
          obtain ⟨i1, i2⟩ := ih ks h2
          unfold keyS at h1
          split at h1
          · rename_i y t e1
            have h1 : y = k := Option.some.inj h1
            have r : e.refKey = false := by
              unfold DictEntry.refKey
              rw [e1]
            refine ⟨by rw [List.any_cons, r, i1]; rfl, ?_⟩
            rw [List.find?_cons, List.contains_cons]
            have w : e.key.isStr z = (z == k) := by
              rw [e1, ← h1]
              show (y == z) = (z == y)
              exact Bool.eq_iff_iff.mpr ⟨fun c => beq_iff_eq.mpr (beq_iff_eq.mp c).symm, fun c => beq_iff_eq.mpr (beq_iff_eq.mp c).symm⟩
            rw [w]
            cases (z == k) with
            | true => rfl
            | false => exact i2
          · cases h1
    obtain ⟨h1, h2⟩ := key _ _ h
    cases f : es.toList.find? (·.key.isStr z) with
    | some e =>
      rw [f] at h2
      exact ⟨_, rfl, h2⟩
    | none =>
      rw [f] at h2
      refine ⟨none, ?_, h2⟩
      dsimp only
      rw [h1]
      rfl
  · cases h
def tupB (K : PySem.W.Frag) (a : Addr) (vs : List V) : Bool := match K.lookup a with
  | some o => decide (o.cls = .type "tuple") && (match o.data with
    | .seq its _ => decide (its.size ≤ 1000) && He.relAll vs its.toList
    | _ => false)
  | none => false
theorem tupB_ok {K : PySem.W.Frag} {a : Addr} {vs : List V} (h : tupB K a vs = true) (H : Hp) : SqT K H a vs := by
  unfold tupB at h
  split at h
  · rename_i o q
    obtain ⟨h1, h2⟩ := He.ba h
    split at h2
    · rename_i its n e
      obtain ⟨h3, h4⟩ := He.ba h2
      exact .inr ⟨o, its, n, q, of_decide_eq_true h1, e, Nat.le_trans (of_decide_eq_true h3) (by rw [sizeLine_eq]; decide), He.relAll_ok h4⟩
    · cases h2
  · cases h
/-- what a written tuple names -/
def refsIn (K : PySem.W.Frag) (a : Addr) : List Addr := match K.lookup a with
  | some o => (match o.data with
    | .seq its _ => its.toList.flatMap He.refV
    | _ => [])
  | none => []
/-- the value of a written dict at a key, an object -/
def refOf (K : PySem.W.Frag) (a : Addr) (z : Str) : Addr := match PySem.W.nsIn K a z with
  | some (some (.ref l)) => l
  | _ => 0
def refB (K : PySem.W.Frag) (a : Addr) (z : Str) : Bool := He.eqO (PySem.W.nsIn K a z) (some (some (.ref (refOf K a z))))
/-! ### an error class with one attribute -/
def ercB (K : PySem.W.Frag) (b : Bs) (x f : Str) : Bool := (He.Fa.glo x).ok K && (ecB K b (He.ga K x) && ((He.Fa.meth x "__init__").ok K && (He.Fa.noat x f).ok K))
theorem binds_kw {K : PySem.W.Frag} {x q fl : Str} {params : Arguments} {body : List Stmt} {scope : Scope} {f : Addr} {fd : FuncData} (F : FunD K x q params body scope [] [] f fd)
    (hk : ∀ (kV doc pm : Value) (an : Option Addr) (cdv ct u v : Value), bindArgs (PySem.W.fnOf x q params body scope .none kV doc pm an cdv ct) ⟨[u], [(fl, v)]⟩ = pure [(("self" : Str), u), (fl, v)]) (sh : Shared) (a : Addr) (zs : List Value)
    (hl : zs.length = [fl].length) : BindsTo sh fd ⟨[Value.ref a], [fl].zip zs⟩ (("self" :: [fl] : List Str).zip (Value.ref a :: zs)) := by
  obtain ⟨oc, od, dV, kV, doc, pm, an, cdv, ct, osl, rfl, lk, hcd, hD, hK⟩ := F.ex
  match zs, hl with
  | [v], _ =>
    rcases hD with ⟨_, rfl⟩ | ⟨e, _⟩
    · exact .of_eq (hk kV doc pm an cdv ct _ v)
    · exact absurd rfl e
section
variable {P : Program} {w : World} {K : PySem.W.Frag} {mg : Str → Option Value} {base h : Heap}
theorem erc_of {st : Stmt} {x q fl : Str} {b : Bs} {p1 p2 p3 p4 : Pos} (X : K.In h) (G : h.Ns mainGlobals mg) (e : ercB K b x fl = true) (ok : b.Ok)
    (hF : ∃ fd, FunD K "__init__" q (defArgs st) (defBody st) (defScope st) [] [] (He.ma K (He.ga K x) "__init__") fd) (hbody : defBody st = [.Assign [.Attribute (.Name "self" p1) fl p2] (.Name fl p3) p4])
    (S : FnScope ["self", fl] ["self", fl] (defScope st)) (h0 : (defScope st).names.lookup ("self" : Str) = some .local) (h1 : (defScope st).names.lookup fl = some .local) (hd : (fl == ("__debug__" : Str)) = false) (hcd : (fl == ("__classdict__" : Str)) = false)
    (hp : ∀ (kV doc pm : Value) (an : Option Addr) (cdv ct : Value) (us : List Value), us.length = (["self", fl] : List Str).length → bindArgs (PySem.W.fnOf "__init__" q (defArgs st) (defBody st) (defScope st) .none kV doc pm an cdv ct) ⟨us, []⟩ = pure ((["self", fl] : List Str).zip us))
    (hk : ∀ (kV doc pm : Value) (an : Option Addr) (cdv ct u v : Value), bindArgs (PySem.W.fnOf "__init__" q (defArgs st) (defBody st) (defScope st) .none kV doc pm an cdv ct) ⟨[u], [(fl, v)]⟩ = pure [(("self" : Str), u), (fl, v)]) :
    ErC P w K mg base x fl b (He.ga K x) := by
  obtain ⟨e1, e2⟩ := He.ba e
  obtain ⟨e2, e3⟩ := He.ba e2
  obtain ⟨e3, e4⟩ := He.ba e3
  have m := He.meth_ok e3
  obtain ⟨fd, F⟩ := hF
  refine ⟨He.glo_ok X G e1, ecB_ok ok e2, He.noat_ok e4, _, fd, m.1, beq_iff_eq.mp m.2, ?_, F.bindsN hp, binds_kw F hk⟩
  rw [hbody] at F
  exact init_ok F S h0 h1 hd hcd
end
end L2.Tb
set_option Elab.async false
set_option linter.all false
set_option maxRecDepth 100000
set_option maxHeartbeats 4000000
/-! sorted(..) of tuples of ints of either sign: a list of them, a set of them -/
namespace L2.Tb
open PySem PySem.Spec PyProof.Rows
def Wi (B : Int) (ns : List Int) : Prop := ∀ m ∈ ns, -B ≤ m ∧ m < B
/-- a rank in the tuples' order -/
def rk (B : Int) (ns : List Int) : Int := TS.code (B + B) (ns.map fun m => m + B)
theorem Wi.bd {B : Int} {ns : List Int} (h : Wi B ns) : TS.Bd (B + B) (ns.map fun m => m + B) := fun m hm => by
  obtain ⟨k, hk, rfl⟩ := List.mem_map.mp hm
  have := h k hk
  constructor <;> omega
theorem Wi.rest {B d : Int} {ns : List Int} (h : Wi B (d :: ns)) : Wi B ns := fun m hm => h m (List.mem_cons_of_mem _ hm)
theorem rk_lt {B d e : Int} {u v : List Int} (hl : u.length = v.length) (hu : Wi B u) (hv : Wi B v) (h : d < e) : rk B (d :: u) < rk B (e :: v) :=
  TS.code_lt (d := d + B) (e := e + B) (by rw [List.length_map, List.length_map]; exact hl) hu.bd hv.bd (by omega)
theorem rk_same {B d : Int} {u v : List Int} (hl : u.length = v.length) : rk B (d :: u) < rk B (d :: v) ↔ rk B u < rk B v :=
  TS.code_same (d := d + B) (by rw [List.length_map, List.length_map]; exact hl)
theorem rk_ne {B d e : Int} {u v : List Int} (hl : u.length = v.length) (hu : Wi B u) (hv : Wi B v) (n : d ≠ e) : rk B (d :: u) < rk B (e :: v) ↔ d < e := by
  refine ⟨fun h => ?_, rk_lt hl hu hv⟩
  rcases Int.lt_or_gt_of_ne n with c | c
  · exact c
  · exact absurd (rk_lt hl.symm hv hu c) (Int.not_lt.mpr (Int.le_of_lt h))
/-- the rank tells the tuple -/
theorem rk_inj {B : Int} : ∀ {u v : List Int}, u.length = v.length → Wi B u → Wi B v → rk B u = rk B v → u = v
  | [], [], _, _, _, _ => rfl
  | d :: u, e :: v, hl, hu, hv, h => by
    have hl' : u.length = v.length := by simpa using hl
    by_cases c : d = e
    · subst c
      have t : rk B u = rk B v := by
        rcases Int.lt_trichotomy (rk B u) (rk B v) with z | z | z
        · have := (rk_same (d := d) hl').mpr z
          omega
        · exact z
        · have := (rk_same (d := d) hl'.symm).mpr z
          omega
      rw [rk_inj hl' hu.rest hv.rest t]
    · rcases Int.lt_or_gt_of_ne c with z | z
      · have := rk_lt hl' hu.rest hv.rest z
        omega
      · have := rk_lt hl'.symm hv.rest hu.rest z
        omega
  | [], _ :: _, hl, _, _, _ => by simp at hl
  | _ :: _, [], hl, _, _, _ => by simp at hl
section
variable {P : Program} {w : World} {A : Around} {E : Value → Shared → Prop} {s : Shared}
theorem lexW {Q : Bool → Shared → Prop} {B : Int} {b : Bool} : ∀ {us vs : List Value} {ns ms : List Int} (i : Nat), IntsAre us ns → IntsAre vs ms → ns.length = ms.length → Wi B ns → Wi B ms → Q (decide (rk B ns < rk B ms)) s →
    PySem.W.KatLex P w A b false Q (us.zip vs) i s
  | _, _, _, _, i, .nil, .nil, _, _, _, h => PySem.W.kat_nil (by rw [decide_eq_false (Int.lt_irrefl _)] at h; exact h)
  | _, _, _, _, i, .cons p t a, .cons q u c, hl, w1, w2, h => by
    have l2 := Nat.succ.inj hl
    refine PySem.W.kat_cons (wpAny_eqBool_int ?_)
    by_cases e : p = q
    · rw [e, beq_self_eq_true]
      rw [e, decide_eq_decide.mpr (rk_same l2)] at h
      exact PySem.W.kat_yes (lexW (i + 1) a c l2 w1.rest w2.rest h)
    · rw [beq_eq_false_iff_ne.mpr e]
      rw [decide_eq_decide.mpr (rk_ne l2 w1.rest w2.rest e)] at h
      exact PySem.W.kat_no (TS.oneLt_ints _ h)
  | _, _, _, _, _, .nil, .cons .., hl, _, _, _ => by simp at hl
  | _, _, _, _, _, .cons .., .nil, hl, _, _, _ => by simp at hl
/-- tuples of d ints each -/
def TpsOk (h : Heap) (d : Nat) (B : Int) (vs : List Value) : Prop := ∀ v ∈ vs, ∃ ns, TS.TupInts h v ns ∧ ns.length = d ∧ Wi B ns
theorem TpsOk.keeps {h h' : Heap} {d : Nat} {B : Int} {vs : List Value} (x : TpsOk h d B vs) (k : ∀ b o, h.get? b = some o → o.cls = .type "tuple" → h'.get? b = some o) : TpsOk h' d B vs := fun v hv => by
  obtain ⟨ns, t, q⟩ := x v hv
  exact ⟨ns, t.keeps k, q⟩
theorem heads_of {h : Heap} {d : Nat} {B : Int} (d1 : 1 ≤ d) : ∀ vs : List Value, TpsOk h d B vs → ∃ fs, PySem.W.KatTups h vs fs ∧ fs.length = vs.length ∧ ∀ f ∈ fs, ∃ n t, f = Value.int n t
  | [], _ => ⟨[], .nil, rfl, fun f hf => by cases hf⟩
  | v :: vs, x => by
    obtain ⟨fs, kt, len, all⟩ := heads_of d1 vs fun u hu => x u (List.mem_cons_of_mem _ hu)
    obtain ⟨ns, ⟨a, items, rfl, ⟨ob, g1, g2, m, g3⟩, ia⟩, ln, _⟩ := x v (List.mem_cons_self ..)
    cases e : items.toList with
    | nil =>
      rw [e] at ia
      have z := ia.length
      rw [ln] at z
      exact absurd (z ▸ d1 : 1 ≤ ([] : List Value).length) (by decide)
    | cons y ys =>
      obtain ⟨n, t, ey⟩ := ia.all y (by rw [e]; exact List.mem_cons_self ..)
      have g4 : items[0]? = some y := by rw [← Array.getElem?_toList, e]; rfl
      refine ⟨y :: fs, .cons g1 g2 g3 g4 kt, congrArg Nat.succ len, fun f hf => ?_⟩
      rcases List.mem_cons.mp hf with rfl | hf
      · exact ⟨n, t, ey⟩
      · exact all f hf
theorem kindW {d : Nat} {B : Int} {vs : List Value} (d1 : 1 ≤ d) (two : 2 ≤ vs.length) (x : TpsOk s.heap d B vs) (r : Value → Int) (hr : ∀ v ∈ vs, ∀ ns, TS.TupInts s.heap v ns → r v = rk B ns) (Q : SortKind → Shared → Prop)
    (h : ∀ κ, TS.Cmp P w A s κ (pairsOf vs) r → Q κ s) : wpAny (model P w) A (keyKind' vs.toArray) Q E s := by
  obtain ⟨fs, kt, len, all⟩ := heads_of d1 vs x
  refine PySem.W.kat_kind (T := Value.type "int") kt (by omega) (fun f hf => ?_) rfl (h _ fun p q mp mq Q2 E2 goal => ?_)
  · obtain ⟨n, t, rfl⟩ := all f hf
    exact PySem.W.Looks.of_pure rfl
  · rw [pairsOf_toList] at mp mq
    have m1 := (mem_zip_self mp).2
    have m2 := (mem_zip_self mq).2
    obtain ⟨ns, t1, l1, w1⟩ := x _ m1
    obtain ⟨ms, t2, l2, w2⟩ := x _ m2
    have g : Q2 (decide (rk B ns < rk B ms)) s := by
      rw [← hr _ m1 _ t1, ← hr _ m2 _ t2]
      exact goal
    obtain ⟨a1, i1, e1, ⟨o1, p1, c1, n1, y1⟩, z1⟩ := t1
    obtain ⟨a2, i2, e2, ⟨o2, p2, c2, n2, y2⟩, z2⟩ := t2
    rw [e1, e2]
    refine PySem.W.kat_lt p1 y1 p2 y2 ?_
    have k1 := z1.length
    have k2 := z2.length
    rw [Array.length_toList] at k1 k2
    rw [show decide (i1.size < i2.size) = false from decide_eq_false (by omega)]
    exact lexW 0 z1 z2 (by omega) w1 w2 g
theorem sortW {a : Addr} {vs : List Value} {n d : Nat} {B : Int} {R : PySem.Fin → Shared → Prop} (at_ : s.heap.get? a = some (seqObj "list" vs.toArray n)) (few : vs.length < 64) (d1 : 1 ≤ d) (x : TpsOk s.heap d B vs)
    (r : Value → Int) (hr : ∀ v ∈ vs, ∀ ns, TS.TupInts s.heap v ns → r v = rk B ns)
    (h : ∀ out : Array Value, out.toList.Perm vs → out.toList.Pairwise (fun u v => r u ≤ r v) → R (.done (.ret .none)) { s with heap := sortedHeap s.heap a vs out }) : wpAny (model P w) A (Builtin.«list.sort» ⟨[.ref a], []⟩) R E s := by
  have stay : ∀ b o, s.heap.get? b = some o → o.cls = .type "tuple" → (TS.midHeap s.heap a vs).get? b = some o := fun b o e hc => by
    refine TS.midHeap_old (fun z => ?_) e
    rw [z, at_] at e
    cases e
    have y : Value.type "list" = Value.type "tuple" := hc
    injection y with y
    exact absurd y (by decide)
  refine SK.plain_sort (r := r) at_ few (fun two Q hQ => ?_) fun ps out q1 q2 q3 => ?_
  · refine kindW (s := { s with heap := TS.midHeap s.heap a vs }) d1 two (x.keeps stay) r (fun v hv ns t => ?_) Q hQ
    obtain ⟨ms, t0, _⟩ := x v hv
    rw [t.ints.symm.trans (t0.keeps stay).ints]
    exact hr v hv ms t0
  · obtain ⟨z1, z2⟩ := TS.out_rank q1 q2 q3
    exact h out z1 z2
/-- sorted(xs) of a list -/
theorem sortedW {l : Addr} {vs : List Value} {d : Nat} {B : Int} {Q : Value → Shared → Prop} (hl : s.heap.IsList l vs.toArray) (few : vs.length < 64) (d1 : 1 ≤ d) (x : TpsOk s.heap d B vs)
    (h : ∀ out : Array Value, out.toList.Perm vs → out.toList.Pairwise (fun u v => rk B (TS.intsOf s.heap u) ≤ rk B (TS.intsOf s.heap v)) → Q (.ref (s.heap.objs.size + 1)) { s with heap := sortedAll s.heap vs out }) :
    wpAny (model P w) A (call (.builtin "sorted") [.ref l]) Q E s := by
  have big : vs.length ≤ sizeLine := by rw [sizeLine_eq]; omega
  refine Calls.call_function_entry kind_sorted PyProof.Rows.plain_sorted entry_sorted (args_sorted1 _) ?_
  unfold Builtin.«sorted»
  refine wpAny_bind (m := checkCount "sorted" 1 1 _) (wpAny_pure (wpAny_bind (collect_list hl ?_ big)))
  refine wpAny_bind (wpAny_newList ?_ big)
  let h1 : Heap := (s.heap.push (seqObj "list" #[] 0)).update s.heap.objs.size (Obj.mapSeq (· ++ vs.toArray))
  have z1 : h1.objs.size = s.heap.objs.size + 1 := by
    show ((s.heap.push (seqObj "list" #[] 0)).update s.heap.objs.size (Obj.mapSeq (· ++ vs.toArray))).objs.size = _
    rw [Heap.size_update, size_push']
  have at_ : (h1.push (seqObj "list" vs.toArray 0)).get? (s.heap.objs.size + 1) = some (seqObj "list" vs.toArray 0) := by
    rw [← z1]
    exact Heap.get?_push_size _ rfl
  have stay : ∀ b o, s.heap.get? b = some o → o.cls = .type "tuple" → (h1.push (seqObj "list" vs.toArray 0)).get? b = some o := fun b o e _ => by
    have lt := Heap.lt_size e
    rw [Heap.get?_push_ne _ _ _ (by rw [z1]; exact Nat.ne_of_lt (Nat.lt_succ_of_lt lt))]
    exact (Heap.get?_update_ne _ _ _ _ (Nat.ne_of_lt lt)).trans ((Heap.get?_push_ne _ _ _ (Nat.ne_of_lt lt)).trans e)
  show wpAny _ _ _ _ _ { s with heap := h1.push (seqObj "list" vs.toArray 0) }
  have z2 : ({ s with heap := h1 } : Shared).heap.objs.size = s.heap.objs.size + 1 := z1
  refine wpAny_bind (wpAny_holding ?_)
  show wpAny (model P w) A.in1 (call (.builtin "list.sort") [.ref h1.objs.size]) _ _ { s with heap := h1.push (seqObj "list" vs.toArray 0) }
  rw [z1]
  refine wpAny_call_entry slot_list_sort ⟨_, at_, rfl⟩ entry_list_sort (sortW at_ few d1 (x.keeps stay) (fun v => rk B (TS.intsOf s.heap v)) (fun v hv ns t => ?_) fun out a1 a2 => ⟨_, rfl, ?_⟩) (args_list_sort _)
  · obtain ⟨ms, t0, _⟩ := x v hv
    show rk B (TS.intsOf s.heap v) = rk B ns
    rw [t0.ints, ← (t0.keeps stay).ints, t.ints]
  · show wpAny _ _ (pure _) _ _ _
    exact wpAny_pure ⟨_, rfl, h out a1 a2⟩
end
/-! ### as rules -/
theorem perm_back {α β : Type} {f : α → β} {l m : List β} (h : l.Perm m) : ∀ ks : List α, m = ks.map f → ∃ L : List α, L.Perm ks ∧ l = L.map f := by
  induction h with
  | nil => exact fun ks e => ⟨ks, .refl _, e⟩
  | cons x _ ih =>
    intro ks e
    cases ks with
    | nil => cases e
    | cons k ks =>
      rw [List.map_cons] at e
      injection e with e1 e2
      obtain ⟨L, p, q⟩ := ih ks e2
      exact ⟨k :: L, p.cons k, by rw [List.map_cons, ← q, e1]⟩
  | swap x y l =>
    intro ks e
    match ks, e with
    | k1 :: k2 :: ks, e =>
      rw [List.map_cons, List.map_cons] at e
      injection e with e1 e2
      injection e2 with e2 e3
      exact ⟨k2 :: k1 :: ks, .swap .., by rw [List.map_cons, List.map_cons, ← e1, ← e2, ← e3]⟩
  | trans _ _ i1 i2 =>
    intro ks e
    obtain ⟨L, p, q⟩ := i2 ks e
    obtain ⟨M, p2, q2⟩ := i1 L q
    exact ⟨M, p2.trans p, q2⟩
/-- addresses of tuples of d ints -/
def Tps (K : PySem.W.Frag) (H : Hp) (d : Nat) (B : Int) (ks : List (Addr × List Int)) : Prop := ∀ p ∈ ks, SqT K H p.1 (p.2.map V.int) ∧ p.2.length = d ∧ Wi B p.2
def rSortW (K : PySem.W.Frag) (d : Nat) (B : Int) : List V → Hp → VK → Prop := fun vs H Q => ∃ (a : Addr) (ks : List (Addr × List Int)), vs = [.ref a] ∧ SqL K H a (ks.map fun p => V.ref p.1) ∧ ks.length < 64 ∧ Tps K H d B ks ∧
  ∀ (L : List (Addr × List Int)) (p : Addr), L.Perm ks → L.Pairwise (fun q r => rk B q.2 ≤ rk B r.2) → H p = none → Q (.ref p) (upd H p (.lst (L.map fun q => V.ref q.1)))
theorem ranks {B : Int} {h : Heap} {L ks : List (Addr × List Int)} {out : List Value} (e : out = L.map fun q => Value.ref q.1) (pm : L.Perm ks) (tk : ∀ q ∈ ks, TS.TupInts h (.ref q.1) q.2)
    (pw : out.Pairwise (fun u v => rk B (TS.intsOf h u) ≤ rk B (TS.intsOf h v))) : L.Pairwise (fun q r => rk B q.2 ≤ rk B r.2) := by
  subst e
  refine List.Pairwise.imp_of_mem (fun {q r} hq hr z => ?_) (List.pairwise_map.mp pw)
  rw [(tk q (pm.mem_iff.mp hq)).ints, (tk r (pm.mem_iff.mp hr)).ints] at z
  exact z
theorem cr_sortW {X : Cx} {d : Nat} {B : Int} (d1 : 1 ≤ d) : CallR X (.builtin "sorted") (rSortW X.K d B) := by
  intro pins s σ H vs us Q I r h
  obtain ⟨a, ks, rfl, hs, few, tp, q⟩ := h
  obtain ⟨its, rv, pl, _⟩ := I.list hs
  rw [Vals.ref1 r]
  have ei : its = ks.map fun p => Value.ref p.1 := refs_of_vals rv
  have tk : ∀ p ∈ ks, TS.TupInts s.heap (.ref p.1) p.2 := fun p hp => tupI_raw I (tp p hp).1
  refine sortedW (d := d) (B := B) pl.isList (by rw [ei, List.length_map]; exact few) d1 (fun v hv => ?_) fun out a1 a2 => ?_
  · rw [ei] at hv
    obtain ⟨p, hp, rfl⟩ := List.mem_map.mp hv
    exact ⟨p.2, tk p hp, (tp p hp).2⟩
  · obtain ⟨L, pm, e⟩ := perm_back a1 ks ei
    obtain ⟨ep, at_⟩ := PyProof.Rows.sortedAll_at s.heap its out
    refine ⟨.ref _, upd H (s.heap.objs.size + 1) (.lst (L.map fun q => V.ref q.1)), I.laid (t' := s.toks) (fun _ _ => PyProof.Rows.sortedAll_old) (Nat.le_succ _) ⟨?_, out.toList, ep, ?_, at_⟩, rfl, q L _ pm (ranks e pm tk a2) (I.hok.fresh (Nat.le_succ _))⟩
    · rw [List.length_map, pm.length_eq, sizeLine_eq]
      omega
    · rw [e]
      exact vals_of_refs L
/-- sorted of a set -/
def rSortWS (K : PySem.W.Frag) (P : Program) (w : World) (d : Nat) (B : Int) : List V → Hp → VK → Prop := fun vs H Q => ∃ (a : Addr) (ks : List (Addr × List Int)), vs = [.ref a] ∧ H a = some (SetTO P w a ks) ∧ Tps K H d B ks ∧
  ∀ (L : List (Addr × List Int)) (p : Addr), L.Perm ks → (L.map (·.2)).Nodup → L.length < 64 → L.Pairwise (fun q r => rk B q.2 ≤ rk B r.2) → H p = none → Q (.ref p) (upd H p (.lst (L.map fun q => V.ref q.1)))
theorem sortedWS {P : Program} {w : World} {A : Around} {E : Value → Shared → Prop} {s : Shared} {a : Addr} {ks : List (Addr × List Int)} {es : Array (Int × Value)} {ep : Nat} {t : SetTable} {Q : Value → Shared → Prop} {d : Nat} {B : Int} (R : SetTR P w s.heap a ks es ep t) (hh : A.handled = none)
    (d1 : 1 ≤ d) (hB : ∀ p ∈ ks, p.2.length = d ∧ Wi B p.2)
    (q : ∀ s2 p (out : Array Value) (c : Nat) (L : List (Addr × List Int)), (∀ b o, s.heap.get? b = some o → s2.heap.get? b = some o) → s2.gens = s.gens → s2.os = s.os → s.heap.objs.size ≤ p →
      s2.heap.get? p = some (seqObj "list" out c) → out.toList = L.map (fun z => Value.ref z.1) → L.Perm ks → L.Pairwise (fun y z => rk B y.2 ≤ rk B z.2) → Q (.ref p) s2) : wpAny (model P w) A (call (.builtin "sorted") [.ref a]) Q E s := by
  obtain ⟨o, g1, g2, g3⟩ := R.ob
  have few := R.few
  have sz := R.size
  refine Calls.call_function_entry kind_sorted PyProof.Rows.plain_sorted entry_sorted (args_sorted1 _) ?_
  unfold Builtin.«sorted»
  refine wpAny_bind (m := checkCount "sorted" 1 1 _) (wpAny_pure (wpAny_bind (collect_set (A := A.in1) hh ⟨o, g1, g2.1, g3⟩ R.fits (by unfold scanBound; omega) R.tab.ris R.led fun s1 vs k1 up gg oo pm => ?_)))
  have vals : es.toList.map (·.2) = ks.map fun z => Value.ref z.1 := by
    rw [R.rows]
    unfold rowsOf
    rw [List.map_map]
    rfl
  rw [vals] at pm
  obtain ⟨M, pM, eM⟩ := perm_back pm ks rfl
  have lM : vs.length < 64 := by rw [eM, List.length_map, pM.length_eq]; exact few
  refine wpAny_bind (wpAny_newList ?_ (by rw [sizeLine_eq]; omega))
  have at_ : (s1.heap.push (seqObj "list" vs.toArray 0)).get? s1.heap.objs.size = some (seqObj "list" vs.toArray 0) := Heap.get?_push_size _ rfl
  have tk : ∀ z ∈ ks, TS.TupInts (s1.heap.push (seqObj "list" vs.toArray 0)) (.ref z.1) z.2 := fun z hz => tupInts_of (P := P) (w := w) (isT_keep (R.tup z hz) fun b u e => Heap.get?_push_of_some _ (k1 b u e))
  have okM : TpsOk (s1.heap.push (seqObj "list" vs.toArray 0)) d B vs := fun v hv => by
    rw [eM] at hv
    obtain ⟨z, hz, rfl⟩ := List.mem_map.mp hv
    have hk := pM.mem_iff.mp hz
    exact ⟨z.2, tk z hk, hB z hk⟩
  refine wpAny_bind (wpAny_holding (wpAny_call_entry slot_list_sort ⟨_, at_, rfl⟩ entry_list_sort (sortW (s := { s1 with heap := s1.heap.push (seqObj "list" vs.toArray 0) }) at_ lM d1 okM (fun v => rk B (TS.intsOf (s1.heap.push (seqObj "list" vs.toArray 0)) v)) (fun v hv ns t => by
    show rk B (TS.intsOf (s1.heap.push (seqObj "list" vs.toArray 0)) v) = rk B ns
    rw [t.ints]) fun out a1 a2 => ⟨_, rfl, ?_⟩) (args_list_sort _)))
  obtain ⟨c, hc⟩ := sortedHeap_at (vs := vs) (out := out) at_
  obtain ⟨L, pL, eL⟩ := perm_back a1 M eM
  refine wpAny_pure ⟨_, rfl, q _ s1.heap.objs.size out c L (fun b u e => ?_) gg oo up hc eL (pL.trans pM) (ranks eL (pL.trans pM) tk a2)⟩
  have e1 := k1 b u e
  have lt := Heap.lt_size e1
  show (sortedHeap (s1.heap.push (seqObj "list" vs.toArray 0)) s1.heap.objs.size vs out).get? b = some u
  rw [sortedHeap_old (Nat.ne_of_lt lt) (by rw [size_push']; exact Nat.lt_succ_of_lt lt)]
  exact Heap.get?_push_of_some _ e1
theorem cr_sortWS {X : Cx} {d : Nat} {B : Int} (hc : X.calm = true) (d1 : 1 ≤ d) : CallR X (.builtin "sorted") (rSortWS X.K X.prog X.w d B) := by
  intro pins s σ H vs us Q I r h
  obtain ⟨a, ks, rfl, ha, tp, q⟩ := h
  have R0 : SetT0 X.prog X.w s.heap a ks := (I.hok a _ ha).1
  obtain ⟨es, ep, t, R⟩ := R0.full fun p hp => I.isT (tp p hp).1
  rw [Vals.ref1 r]
  refine sortedWS R (I.ok.hd hc) d1 (fun p hp => (tp p hp).2) fun s2 p out c L k gg oo up at_ eo pm pw => ?_
  have few : L.length < 64 := pm.length_eq ▸ R.few
  have nw : H p = none := I.hok.fresh up
  have len : (L.map fun z => V.ref z.1).length ≤ sizeLine := by
    rw [List.length_map, sizeLine_eq]
    omega
  have vl : Vals (L.map fun z => V.ref z.1) out.toList := eo ▸ vals_of_refs L
  have es2 : s2 = { s with heap := s2.heap, gens := s2.gens, drawn := s2.drawn, toks := s2.toks } := by
    obtain ⟨_, _, _, _, _⟩ := s2
    obtain ⟨_, _, _, _, _⟩ := s
    cases oo
    rfl
  have J : Inv X pins σ (upd H p (.lst (L.map fun z => V.ref z.1))) { s with heap := s2.heap, gens := s2.gens, drawn := s2.drawn, toks := s2.toks } :=
    I.call (ch := []) (Un.laid k up nw) (I.hok.laid k up ⟨len, out.toList, c, vl, at_⟩) (by rw [gg]; exact I.bare) (fun _ z => nomatch z)
  rw [es2]
  exact ⟨.ref p, _, J, rfl, q L p pm ((pm.map (·.2)).nodup_iff.mpr R.nd) few pw nw⟩
end L2.Tb
set_option Elab.async false
set_option linter.all false
set_option maxRecDepth 100000
set_option maxHeartbeats 4000000
/-! {e for x in ..}, e a tuple of ints -/
namespace L2.Tb
open PySem PySem.Spec PySem.Calls PyProof.Rows PpSet
section
variable {P : Program} {w : World} {A : Around} {E : Value → Shared → Prop} {s : Shared} {a x : Addr} {k : List Int} {L : List (Addr × List Int)}
/-- what L becomes by k at x -/
def Added (L L2 : List (Addr × List Int)) (x : Addr) (k : List Int) : Prop := (k ∈ L.map (·.2) → L2 = L) ∧ (k ∉ L.map (·.2) → L2.Perm ((x, k) :: L))
theorem setT_add {es : Array (Int × Value)} {ep : Nat} {t : SetTable} {Q : Value → Shared → Prop} (R : SetTR P w s.heap a L es ep t) (kx : IsT P w s.heap k x) (hu : A.units + 3 < cLine) (few : L.length + 1 < 64)
    (q : ∀ h2 tk L2 es2 ep2 t2, Heap.SameBut a s.heap h2 → SetTR P w h2 a L2 es2 ep2 t2 → Added L L2 x k → Q .none { s with heap := h2, toks := tk }) : wpAny (model P w) A (call (.builtin "set.add") [.ref a, .ref x]) Q E s := by
  obtain ⟨o, g1, g2, g3⟩ := R.ob
  refine wpAny_call_entry F.slot_set_add ⟨o, g1, g2.1⟩ F.entry_set_add ?_ (F.args_set_add_2 _ _)
  unfold Builtin.«set.add» Builtin.Frozenset.oneOther
  simp only [List.isEmpty_nil, bind_assoc]
  unfold Builtin.Frozenset.addrOf setAdd
  refine wpAny_bind (wpAny_pure ?_)
  try dsimp only
  refine wpAny_bind (wpAny_pure ?_)
  try dsimp only
  refine wpAny_bind (wpAny_holding (wpAny_bind (wpAny_pyHash_tuple (by first | exact Nat.lt_of_le_of_lt (Nat.le_add_right _ 3) hu | (show A.units + 1 < cLine; omega) | (show A.units + 2 < cLine; omega)) kx ?_)))
  refine add_at (s := { s with toks := s.toks + (k.length + 1) }) R kx (by first | exact Nat.lt_of_le_of_lt (Nat.le_add_right _ 3) hu | (show A.units + 1 < cLine; omega) | (show A.units + 2 < cLine; omega)) few fun b h2 L2 es2 ep2 t2 sb R2 c1 c2 => ?_
  show wpAny _ _ (ret Value.none) _ _ _
  exact wpAny_pure ⟨_, rfl, q h2 _ L2 es2 ep2 t2 sb R2 ⟨c1, c2⟩⟩
end
section
variable {X : Cx}
theorem addT_ok {pins : List (Addr × Obj)} {σ : L2.St} {H : Hp} {s : Shared} {E : Value → Shared → Prop} {D x : Addr} {k : List Int} {L : List (Addr × List Int)} {Q : Value → Shared → Prop} (I : Inv X pins σ H s) (hD : H D = some (SetTO X.prog X.w D L))
    (tp : ∀ p ∈ L, SqT X.K H p.1 (p.2.map V.int)) (hx : SqT X.K H x (k.map V.int)) (hu : X.A.units + 64 < cLine) (few : L.length + 1 < 64)
    (q : ∀ s2 L2, Added L L2 x k → Inv X pins σ (upd H D (SetTO X.prog X.w D L2)) s2 → Q .none s2) : wpAny (model X.prog X.w) X.A (call (.builtin "set.add") [.ref D, .ref x]) Q E s := by
  have R0 : SetT0 X.prog X.w s.heap D L := (I.hok D _ hD).1
  obtain ⟨es, ep, t, R⟩ := R0.full fun p hp => I.isT (tp p hp)
  refine setT_add R (I.isT hx) (by omega) few fun h2 tk L2 es2 ep2 t2 sb R2 ad => ?_
  have there : ∃ u, h2.get? D = some u := by
    obtain ⟨u, e, _⟩ := R2.ob
    exact ⟨u, e⟩
  exact q _ L2 ad (I.write (e := D) (t' := tk) (by rw [hD]; trivial) (.inl rfl) (fun b u hb hu => (sb.2 b hb).trans hu) there (setTO_new R2.t0))
/-- one turn's wish: the new element joins -/
def joins (P : Program) (w : World) (K : PySem.W.Frag) (D : Addr) (Nx : Hp → Prop) : V → Hp → Prop := fun y H => ∃ (x : Addr) (k : List Int) (L : List (Addr × List Int)), y = .ref x ∧ SqT K H x (k.map V.int) ∧ H D = some (SetTO P w D L) ∧ (∀ p ∈ L, SqT K H p.1 (p.2.map V.int)) ∧ L.length + 1 < 64 ∧
  ∀ L2, Added L L2 x k → Nx (upd H D (SetTO P w D L2))
def tScT (P : Program) (w : World) (K : PySem.W.Frag) (wi : TI) (g : TG) (tt : TT) (te : TE) (vs : List Nat) : TE := fun σ H Q => wi σ H fun J H1 => ∀ D, H1 D = none → ∃ W : Nat → Nat → Hp → Prop, (∃ m, W 0 m (upd H1 D (SetTO P w D []))) ∧ ∀ i m G, W i m G →
  (J.stop i G ∧ Q (.ref D) G) ∨ (J.go i G ∧ ∃ Nx : Hp → Prop, (∀ G2, Nx G2 → ∃ m2, m2 < m ∧ W (i + 1) m2 G2) ∧ ∀ x G2, J.yld i G x G2 → g x (wipe σ vs) G2 fun σ2 G3 => wipe σ2 vs = wipe σ vs ∧ tt σ2 G3 fun b G4 => if b = true then te σ2 G4 (joins P w K D Nx) else Nx G4)
theorem pe_scT {elt tg iter : Expr} {ifs : List Expr} {scope : Scope} {own : List (PySem.Str × Nat)} {pos : Pos} {wi : TI} {g : TG} {tt : TT} {te : TE} (calm : X.calm = true) (nd : X.N.Nodup) (hu : X.A.units + 64 < cLine) (walk : PI X tg iter wi) (ok : BlkOk X.N X.env.scope scope own)
    (hg : ∀ (s : Shared) (H : Hp) (C : Addr) (cl : List (PySem.Str × Addr)) (fp : List Addr), PG (X.blk s H scope (compEnvC scope cl C X.env) fp) tg g) (ht : ∀ (s : Shared) (H : Hp) (C : Addr) (cl : List (PySem.Str × Addr)) (fp : List Addr), PTs (X.blk s H scope (compEnvC scope cl C X.env) fp) ifs tt)
    (he : ∀ (s : Shared) (H : Hp) (C : Addr) (cl : List (PySem.Str × Addr)) (fp : List Addr), PE (X.blk s H scope (compEnvC scope cl C X.env) fp) elt te) (fs : ∀ x, foldedSetIterable iter X.env x = pure x := by intro _; rfl) :
    PE X (.SetComp elt [⟨tg, iter, ifs, 0⟩] scope pos) (tScT X.prog X.w X.K wi g tt te (own.map (·.2))) := by
  refine ⟨fun pins s σ H Q I h => ?_⟩
  rw [eval_SetComp]
  have caps : ∀ y ∈ scope.names, y.2 = .free → ∃ c, X.env.cells.lookup y.1 = some c := fun y my ey =>
    (ok.free y my ey).elim (fun z => I.ok.has _ (.inl z)) fun z => I.ok.has _ (.inr z)
  refine wpAny_comprehension_free (use := none) rfl fs (closure_ok caps) ok.kind (fun y my ey => by rw [ok.uniq y my, ey]) (thn (walk.run pins s σ H _ I h) fun xv sa ha => thn ha fun itv sb hb => ?_)
  obtain ⟨it, fp, tn, J, Hb, e0, Ib, T, stb, fpb, q⟩ := hb
  subst e0
  refine newSet_ok (newEnv_comp ?_)
  generalize dD : sb.heap.objs.size = D
  have newD : Hb D = none := Ib.hok.fresh (Nat.le_of_eq dD)
  obtain ⟨W, ⟨m0, w0⟩, turn⟩ := q D newD
  let emp : Obj := { cls := .type "set", dict := none, data := .set #[] 0 (.fresh 0 0 (!X.w.params.followText "set-order")) }
  generalize dsc : ({ sb with heap := sb.heap.push emp } : Shared) = sc
  have hsc : sc.heap = sb.heap.push emp := by rw [← dsc]
  have Ic : Inv X pins σ (upd Hb D (SetTO X.prog X.w D [])) sc := by
    rw [← dsc, ← dD]
    refine Ib.laid (t' := sb.toks) (fun b o e => Heap.get?_push_of_some _ e) (Nat.le_refl _) (setTO_new (SetTR.t0 (setTR_fresh (Heap.get?_push_size _ rfl))))
  have small : ∀ b ∈ fp, b < sb.heap.objs.size := fun b mb => by
    obtain ⟨o, e, _⟩ := T.obj _ _ stb b mb
    exact Heap.lt_size e
  have fpc : ∀ b ∈ fp, FpOk X pins (upd Hb D (SetTO X.prog X.w D [])) b ∧ b < sc.heap.objs.size := fun b mb => by
    have lt := small b mb
    have nb : b ≠ D := by rw [← dD]; exact Nat.ne_of_lt lt
    exact ⟨⟨(upd_ne nb).trans (fpb b mb).1, (fpb b mb).2⟩, by rw [hsc, Heap.size_push]; exact Nat.lt_succ_of_lt lt⟩
  have stc : tn 0 sc.heap := T.keep _ _ _ stb fun b _ o e => by rw [hsc]; exact Heap.get?_push_of_some _ e
  have Id := block_start Ic ok nd fpc
  let cl := cellsFrom (sc.heap.objs.size + 1) scope.names (cloFrom X.env.cells scope.names [])
  have pg := hg sc (upd Hb D (SetTO X.prog X.w D [])) sc.heap.objs.size cl fp
  have pt := ht sc (upd Hb D (SetTO X.prog X.w D [])) sc.heap.objs.size cl fp
  have pe := he sc (upd Hb D (SetTO X.prog X.w D [])) sc.heap.objs.size cl fp
  show codeAny _ _ (.compStart (.SetComp elt [⟨tg, iter, ifs, 0⟩] scope pos) 0 (.ref it) (.ref D) (compEnvC scope cl sc.heap.objs.size X.env)) (compPost (model X.prog X.w) X.A X.xe none _ (.ref D) sc.heap.objs.size) { sc with heap := pushCells (sc.heap.push { cls := .type "dict", data := .dict #[] }) scope.names }
  have fpn : ∀ b ∈ fp, (upd Hb D (SetTO X.prog X.w D [])) b = none := fun b mb => (fpc b mb).1.1
  generalize dce : compEnvC scope cl sc.heap.objs.size X.env = ce at Id pg pt pe ⊢
  have loc : ce.locals = sc.heap.objs.size := by rw [← dce]; rfl
  generalize dHc : upd Hb D (SetTO X.prog X.w D []) = Hc at Ic Id pg pt pe w0 fpn fpc
  generalize dsd : ({ sc with heap := pushCells (sc.heap.push { cls := .type "dict", data := .dict #[] }) scope.names } : Shared) = sd at Id ⊢
  have std : tn 0 sd.heap := T.keep _ _ _ stc fun b _ o e => by rw [← dsd]; exact pushCells_keeps _ _ _ _ (Heap.get?_push_of_some _ e)
  have stays : ∀ {σ2 : L2.St} {G : Hp} {z : Shared}, Inv (X.blk sc Hc scope ce fp) [] σ2 G z → (∀ b ∈ fp, G b = none) → ∀ b ∈ fp, FpOk (X.blk sc Hc scope ce fp) [] G b := fun {σ2 G z} Iz nz b mb =>
    ⟨nz b mb, (Iz.ok.exf b mb).1, Iz.ok.exfs b mb, .inl mb, fun x c e => (Iz.ok.exf b mb).2 x c e, fun p mp => by cases mp⟩
  refine codeAny_compStart_set ?loop (T.self X.A 0 _ _ _ std ?loop)
  case loop =>
    refine compLoopS_any (fun n z => ∃ i G, Inv (X.blk sc Hc scope ce fp) [] (wipe σ (own.map (·.2))) G z ∧ tn i z.heap ∧ (∀ b ∈ fp, G b = none) ∧ W i n G) ?_ m0 ⟨0, Hc, Id, std, fpn, w0⟩
    rintro n se ⟨i, He, Ie, ste, fpe, we⟩
    rcases turn i n He we with ⟨halt, fin⟩ | ⟨goes, Nx, nxt, body⟩
    · refine thnF (T.done (X.blk sc Hc scope ce fp) rfl rfl rfl calm i [] se _ He (fun _ _ => False) Ie (stays Ie fpe) ste halt) fun r sf ⟨er, If⟩ => ?_
      subst er
      have Ig : Inv X pins σ He sf := Ic.call' (ch := fp) If.os If.base If.hok If.bare fun b mb => ⟨(fpc b mb).1.2.2.2.1, (fpc b mb).1.2.1, (fpc b mb).1.2.2.2.2.1, (fpc b mb).1.2.2.2.2.2⟩
      have nC : He sc.heap.objs.size = none := loc ▸ (show He ce.locals = none from If.free)
      obtain ⟨mm, hn, _⟩ := If.loc
      have hn : sf.heap.Ns sc.heap.objs.size mm := loc ▸ (show sf.heap.Ns ce.locals mm from hn)
      obtain ⟨y0, y1, y2, y3, y4, y5⟩ := Ic.fpOk (Nat.le_refl _) nC
      exact ⟨mm, hn, fun h3 sm => ⟨.ref D, He, Ig.turned (t' := sf.toks) (fun b o nb e => (sm.2 b nb).trans e) y0 y1 y3 y4 y5, rfl, fin⟩⟩
    · refine thnF (T.item (X.blk sc Hc scope ce fp) rfl rfl rfl calm i [] se _ He (fun _ _ => False) Ie (stays Ie fpe) ste goes) fun r sf ⟨u, er, hf⟩ => ?_
      subst er
      refine thnF hf fun _ sg ⟨x, Hg, Ig, rg, yg, stg, ng⟩ => ?_
      have Ip := Ig.pinned (stays Ig ng) (T.obj _ _ stg)
      refine thnF (pg.run _ sg _ Hg x u _ Ip rg (body x Hg yg)) fun _ sh ⟨σh, Hh, Ih, wh, qh⟩ => ?_
      refine thnF (pt.run _ sh σh Hh _ Ih qh) fun b si ⟨Hi, Ii, qi⟩ => ?_
      have close : ∀ {z : Shared} {G : Hp}, Inv (X.blk sc Hc scope ce fp) ([] ++ pinsAt fp sg.heap) σh G z → Nx G → ∃ m, m < n ∧ ∃ i G, Inv (X.blk sc Hc scope ce fp) [] (wipe σ (own.map (·.2))) G z ∧ tn i z.heap ∧ (∀ b ∈ fp, G b = none) ∧ W i m G := fun {z G} Iz nx => by
        obtain ⟨m2, lm, w2⟩ := nxt G nx
        have pin : ∀ b ∈ fp, ∀ o, sg.heap.get? b = some o → z.heap.get? b = some o ∧ G b = none := fun b mb o e => by
          have y := Iz.pin (b, o) (List.mem_append_right _ (List.mem_append_right _ (mem_pinsAt mb e)))
          exact ⟨y.1, y.2.1⟩
        refine ⟨m2, lm, i + 1, G, (Iz.unpinned (pins := [])).weak (by rw [← wh, wipe_length]) (fun j v e => ?_), T.keep _ _ _ stg fun b mb o e => (pin b mb o e).1, fun b mb => ?_, w2⟩
        · rw [← wh] at e
          exact (wipe_some e).1
        · obtain ⟨o, e, _⟩ := T.obj _ _ stg b mb
          exact (pin b mb o e).2
      cases b with
      | false =>
        simp only [Bool.false_eq_true, if_false] at qi ⊢
        exact close Ii qi
      | true =>
        simp only [if_true] at qi ⊢
        refine thnF (pe.run _ si σh Hi _ Ii qi) fun z sj ⟨yv, Hj, Ij, rj, xa, kk, L, ey, hx, hD, tp, few, nx⟩ => ?_
        subst ey
        cases (show z = Value.ref xa from rj)
        exact addT_ok (X := X.blk sc Hc scope ce fp) Ij hD tp hx hu few fun sk L2 ad Ik => close Ik (nx L2 ad)
end
/-- over a tuple that stands -/
theorem scT_tup {P : Program} {w : World} {K : PySem.W.Frag} {a : Addr} {xs : List V} {g : TG} {tt : TT} {te : TE} {vs : List Nat} {σ : L2.St} {H1 : Hp} {D : Addr} {Qd : Hp → Prop} (Pv : Nat → Hp → Prop) (h0 : Pv 0 (upd H1 D (SetTO P w D []))) (hl : ∀ i H, i ≤ xs.length → Pv i H → SqT K H a xs)
    (hs : ∀ i x H, xs[i]? = some x → Pv i H → g x (wipe σ vs) H fun σ2 H2 => wipe σ2 vs = wipe σ vs ∧ tt σ2 H2 fun b H3 => if b = true then te σ2 H3 (joins P w K D (Pv (i + 1))) else Pv (i + 1) H3) (hd : ∀ H, Pv xs.length H → Qd H) :
    ∃ W : Nat → Nat → Hp → Prop, (∃ m, W 0 m (upd H1 D (SetTO P w D []))) ∧ ∀ i m G, W i m G →
      ((Itt K a).stop i G ∧ Qd G) ∨ ((Itt K a).go i G ∧ ∃ Nx : Hp → Prop, (∀ G2, Nx G2 → ∃ m2, m2 < m ∧ W (i + 1) m2 G2) ∧ ∀ x G2, (Itt K a).yld i G x G2 → g x (wipe σ vs) G2 fun σ2 G3 => wipe σ2 vs = wipe σ vs ∧ tt σ2 G3 fun b G4 => if b = true then te σ2 G4 (joins P w K D Nx) else Nx G4) := by
  refine ⟨fun i m G => m + i = xs.length ∧ Pv i G, ⟨xs.length, rfl, h0⟩, fun i m G ⟨em, p⟩ => ?_⟩
  have st := hl i G (by omega) p
  rcases Nat.lt_or_ge i xs.length with lt | ge
  · refine .inr ⟨⟨xs, xs[i], st, List.getElem?_eq_getElem lt⟩, Pv (i + 1), fun G2 p2 => ⟨m - 1, by omega, by omega, p2⟩, fun x G2 y => ?_⟩
    obtain ⟨e, y⟩ := y
    subst e
    exact hs i x _ (y xs st) p
  · have e : i = xs.length := by omega
    exact .inl ⟨⟨xs, st, by omega⟩, hd G (e ▸ p)⟩
end L2.Tb
set_option Elab.async false
set_option linter.all false
set_option maxRecDepth 100000
set_option maxHeartbeats 4000000
/-! calls of defs that ask for an unguarded stack; o.m(k = v) -/
namespace L2.Tb
open PySem PySem.Spec PyProof.Rows
/-- a def that keeps its promise where nothing is guarded (repr of lists and tuples asks that) -/
structure CalG (P : Program) (w : World) (K : PySem.W.Frag) (mg : Str → Option Value) (base : Heap) (k : Nat) (x : Str) (sp : Sp) : Prop where
  ex : ∃ (f : Addr) (fd : FuncData) (ps : List Str), (∀ vs H Q E, sp vs H Q E → vs.length = ps.length) ∧ (∀ A, Room k A → A.guards = some [] → RunsAt P w K mg base f fd ps sp A) ∧ mg x = some (.ref f) ∧ PySem.W.keepIn K (.ref f) = true ∧ Binds K fd ps []
section
variable {P : Program} {w : World} {K : PySem.W.Frag} {mg : Str → Option Value} {base : Heap} {x : Str} {st : Stmt} {f : Addr} {fd : FuncData} {N ps : List Str} {k : Nat} {sp : Sp}
theorem Cal.g (c : Cal P w K mg base k x sp) : CalG P w K mg base k x sp := by
  obtain ⟨f, fd, ps, F, a, b, d⟩ := c.ex
  exact ⟨f, fd, ps, F.len, fun A hr _ outer s H args us vs Q E e0 hb r _ h => F.run A outer s H args us vs Q E hr e0 hb r h, a, b, d⟩
theorem calG_mk (F : FnP K x st f fd) (hm : mg x = some (.ref f)) (S : FnScope N ps (defScope st))
    (hb : ∀ (kV doc pm : Value) (an : Option Addr) (cdv ct : Value) (us : List Value), us.length = ps.length → bindArgs (PySem.W.fnOf x x (defArgs st) (defBody st) (defScope st) .none kV doc pm an cdv ct) ⟨us, []⟩ = pure (ps.zip us))
    (len : ∀ vs H Q E, sp vs H Q E → vs.length = ps.length)
    (hbody : ∀ (cdv : Value) (A : Around) (outer : List Env) (s : Shared) (H : Hp) (vs : List V) (Q : VK) (E : XK), (A.deeper (envOfC x (defScope st) s.heap.objs.size f cdv)).guards = some [] → Room k (A.deeper (envOfC x (defScope st) s.heap.objs.size f cdv)) → sp vs H Q E →
      ∃ t, PSs (cxOf L2.CX0 P w K mg base N x (defScope st) f cdv A outer s H E).nox (defBody st) t ∧ t { nx := fun _ H' => Q .non H', rt := Q } (start N vs) H) : CalG P w K mg base (k + 1) x sp :=
  ⟨f, fd, ps, len, fun A hr hg => runs_body F S hr fun cdv outer s H vs Q E hr2 h => let ⟨t, a, b⟩ := hbody cdv A outer s H vs Q E hg hr2 h; ⟨t, a.nox, b⟩, hm, F.kp, F.bindsN hb⟩
/-- .. its code object known -/
theorem calG_mkC {at_ : Str × Option Str} (F : FnP K x st (He.fAd K at_) fd) (hm : mg x = some (.ref (He.fAd K at_))) (S : FnScope N ps (defScope st))
    (hb : ∀ (kV doc pm : Value) (an : Option Addr) (cdv ct : Value) (us : List Value), us.length = ps.length → bindArgs (PySem.W.fnOf x x (defArgs st) (defBody st) (defScope st) .none kV doc pm an cdv ct) ⟨us, []⟩ = pure (ps.zip us))
    (len : ∀ vs H Q E, sp vs H Q E → vs.length = ps.length)
    (hbody : ∀ (cdv : Value) (A : Around) (outer : List Env) (s : Shared) (H : Hp) (vs : List V) (Q : VK) (E : XK), cdv = .ref (He.codeOf K at_) → (A.deeper (envOfC x (defScope st) s.heap.objs.size (He.fAd K at_) cdv)).guards = some [] → Room k (A.deeper (envOfC x (defScope st) s.heap.objs.size (He.fAd K at_) cdv)) → sp vs H Q E →
      ∃ t, PSs (cxOf L2.CX0 P w K mg base N x (defScope st) (He.fAd K at_) cdv A outer s H E).nox (defBody st) t ∧ t { nx := fun _ H' => Q .non H', rt := Q } (start N vs) H) : CalG P w K mg base (k + 1) x sp := by
  refine ⟨_, fd, ps, len, fun A hr hg => ?_, hm, F.kp, F.bindsN hb⟩
  obtain ⟨oc, od, dV, kV, doc, pm, an, cdv, ct, osl, rfl, lk, hcd, _, _⟩ := id F.ex
  obtain ⟨c, rfl⟩ := He.codeIn_ref hcd
  have hc : (Value.ref c) = .ref (He.codeOf K at_) := by rw [He.codeOf_eq lk rfl]
  intro outer s H args us vs Q E e0 hbd r hl hsp
  refine LamX.run_ofS (CX := L2.CX0) (Q := Q) (E := E) (N := N) lk hcd S hr e0 hbd r hl fun hr2 => ?_
  obtain ⟨t, a, b⟩ := hbody _ A outer s H vs Q E hc hg hr2 hsp
  exact ⟨t, a.nox, b⟩
end
section
variable {X : Cx} {k j : Nat} {x : Str} {sp : Sp} {p pos : Pos} {e : Expr} {es : List Expr} {t : TA}
theorem pe_calG (c : CalG X.prog X.w X.K X.mg X.base k x sp) (hr : Room j X.A) (hk : k ≤ j) (free : X.A.guards = some []) (hg : Gl X x) (ha : PA X (e :: es) t)
    (hdb : (x == ("__debug__" : Str)) = false := by decide) (he : starEach (e :: es) X.env = (false, eval e X.env) :: starEach es X.env := by rfl) (hpl : (backTo pos (starEach es X.env)).any (·.1) = false := by rfl) :
    PE X (.Call (.Name x p) (e :: es) [] pos) (tCall sp [] E0 t) := by
  obtain ⟨f, fd, ps, len, R, hm, kp, b⟩ := c.ex
  refine ⟨fun pins s σ H Q I h => wpAny_Call_Name_kw (ld_glob I hg hm (PySem.W.callWith_K (h₀ := X.base) I.ok.mod.kin kp (thn (ha.run pos pins s σ H _ I h) fun us s1 hh => ?_) he hpl) hdb)⟩
  obtain ⟨vs, H1, I1, r, q⟩ := hh
  rw [List.append_nil] at q
  have hl := len _ _ _ _ q
  refine ⟨I1.kIn, wpAny_call (codeAny_mono (R X.A (hr.mono hk) free X.stack s1 H1 ⟨us, []⟩ us vs Q E0 I1.env0 ?_ r hl q) fun r2 s2 z => ?_)⟩
  · have y := b s1 us I1.kIn (by rw [List.append_nil, ← r.length]; exact hl)
    rw [List.append_nil] at y
    exact y
  · match r2, z with
    | .error e, z => exact pass0 pins σ H1 s1 e s2 I1 z
    | .ok (.ret u), z => exact I1.after z
end
section
variable {X : Cx} {CX : CXT} {k : Nat} {C f : Addr} {fd : FuncData} {ps ks : List Str} {sp : Sp} {E : XK} {o : Expr} {kws : List Keyword} {m : Str} {pos apos : Pos} {ta : TE} {tk : TA} {pl : Sem Bool}
def tMethK (C : Addr) (m : Str) (sp : Sp) (E : XK) (ta : TE) (tk : TA) : TE := fun σ H Q => ta σ H fun x H1 => ∃ a dx fs, x = .ref a ∧ H1 a = some (.ins C dx fs) ∧ fs.lookup m = none ∧ tk σ H1 fun zs H2 => sp (.ref a :: zs) H2 Q E
/-- o.m(k = v, ..), all of m's parameters by name -/
theorem pe_methK (he : PE X o ta) (c : Cls X.K C) (hm : Meth X.K C m f) (F : FnOk X.prog X.w X.K X.mg X.base CX k f fd ps sp) (hr : Room k X.A) (hx : Passes CX X E) (hkw : PK X kws tk) (hl : ps.length = ks.length + 1)
    (hb : ∀ (sh : Shared) (a : Addr) (zs : List Value), zs.length = ks.length → BindsTo sh fd ⟨[.ref a], ks.zip zs⟩ (ps.zip (Value.ref a :: zs)))
    (hall : (backToKw pos (keywordEach kws X.env)).all (·.1.isSome) = true := by rfl) (hks : (backToKw pos (keywordEach kws X.env)).filterMap (·.1) = ks := by rfl)
    (hpl : ((backTo pos (starEach [] X.env)).any (·.1) || (backToKw pos (keywordEach kws X.env)).any (·.1.isNone)) = false := by rfl)
    (ht : eval (.Call (.Attribute o m apos) [] kws pos) X.env = (do
      let ov ← eval o X.env
      standAt apos.atName
      let (f, first) ← holding [ov] (getMethod ov m pl)
      callWith pos f first (backTo pos (starEach [] X.env)) (backToKw pos (keywordEach kws X.env))) := by rfl) :
    PE X (.Call (.Attribute o m apos) [] kws pos) (tMethK C m sp E ta tk) := by
  refine ⟨fun pins s σ H Q I h => PySem.W.methodCall_KW (pl := pl) (thn (he.run pins s σ H _ I h) fun u s1 hh => ?_) ht⟩
  obtain ⟨x, H1, I1, rx, a, dx, fs, ex, ea, lk, q⟩ := hh
  subst ex
  obtain rfl : u = Value.ref a := rx
  refine getmeth_ok I1 ea c hm lk (PySem.W.callWith_KW0 (h₀ := X.base) (first := [.ref a]) I.ok.mod.kin hm.kp hall (thn (hkw.run pos _ s1 σ H1 _ I1 q) fun ws s2 hh => ?_) hpl)
  obtain ⟨zs, H2, I2, rz, q2⟩ := hh
  refine ⟨I2.kIn, ?_⟩
  rw [hks]
  have hw : ws.length = ks.length := by
    have z := F.len _ _ _ _ q2
    rw [List.length_cons, hl] at z
    rw [← rz.length]
    omega
  refine wpAny_call (codeAny_mono (F.run X.A X.stack s2 H2 ⟨[.ref a], ks.zip ws⟩ (.ref a :: ws) (.ref a :: zs) Q E hr I2.env0 (hb s2 a ws hw) (.cons rfl rz) q2) fun r s3 z => ?_)
  match r, z with
  | .error e, z => exact hx pins σ H2 s2 e s3 I2 z
  | .ok (.ret u2), z => exact I2.after z
end
end L2.Tb
set_option Elab.async false
set_option linter.all false
set_option maxRecDepth 100000
set_option maxHeartbeats 4000000
/-! x in t, x not in t: t a tuple of data of any depth -/
namespace L2.Tb
open PySem PySem.Spec PyProof.Rows
variable {X : Cx}
def rInDT (K : PySem.W.Frag) (neg : Bool) : R2 := fun x y H Q => ∃ d ds, Dp K H x d ∧ Dp K H y (.tuple ds) ∧ SeqAt.shaped d = true ∧ SeqAt.shaped (.tuple ds) = true ∧ Q (.bl (if neg = true then !(ds.any fun z => PyData.eqv z d) else ds.any fun z => PyData.eqv z d)) H
theorem room_inDT {A : Around} {ds : List PyData} {d : PyData} (sd : SeqAt.shaped d = true) (hu : A.units + 65 < cLine) : A.units + 1 + min (PyData.depthAll ds) d.depth < cLine := by
  have h := SeqAt.depth_of_shaped sd
  have h2 := Nat.min_le_right (PyData.depthAll ds) d.depth
  omega
theorem op_inDT (hu : X.A.units + 65 < cLine) : OpR X (compareOp .In) (rInDT X.K false) := by
  intro pins s σ H x y v u Q I rx ry h
  obtain ⟨d, ds, hd, he, sd, se, q⟩ := h
  obtain ⟨as, r1⟩ := Dp.reads I d x v hd rx
  obtain ⟨bs, r2⟩ := Dp.reads I (.tuple ds) y u he ry
  exact SeqAt.in_tuple_reads r2 r1 (by simpa only [PyData.canLay0] using SeqAt.canLay_of_shaped se) (SeqAt.canLay_of_shaped sd) (room_inDT sd hu) ⟨.bl _, H, I, rfl, q⟩
theorem op_notInDT (hu : X.A.units + 65 < cLine) : OpR X (compareOp .NotIn) (rInDT X.K true) := by
  intro pins s σ H x y v u Q I rx ry h
  obtain ⟨d, ds, hd, he, sd, se, q⟩ := h
  obtain ⟨as, r1⟩ := Dp.reads I d x v hd rx
  obtain ⟨bs, r2⟩ := Dp.reads I (.tuple ds) y u he ry
  exact SeqAt.notIn_tuple_reads r2 r1 (by simpa only [PyData.canLay0] using SeqAt.canLay_of_shaped se) (SeqAt.canLay_of_shaped sd) (room_inDT sd hu) ⟨.bl _, H, I, rfl, q⟩
end L2.Tb
set_option Elab.async false
set_option linter.all false
set_option maxRecDepth 100000
set_option maxHeartbeats 4000000
/-! for z in d: d a dict of the head with text keys -/
namespace L2.Tb
open PySem PySem.Spec PyProof.Rows RZ
def Ikd (ks : List Str) : It := ⟨fun i _ => i < ks.length, fun i H x H' => H' = H ∧ ∃ z, ks[i]? = some z ∧ x = .str z, fun i _ => ks.length ≤ i⟩
structure KeysAt (K : PySem.W.Frag) (w : World) (d : Addr) (ks : List Str) : Prop where
  ex : ∃ es n, KDict K w d es n ∧ es.toList.map keyS = ks.map some
theorem keys_at {K : PySem.W.Frag} {w : World} {d : Addr} {ks : List Str} {es : Array DictEntry} {n : Nat} (h : keysB K d ks = true) (D : KDict K w d es n) : KeysAt K w d ks := by
  refine ⟨es, n, D, ?_⟩
  unfold keysB at h
  rw [D.at_] at h
  exact of_decide_eq_true h
section
variable {P : Program} {w : World} {K : PySem.W.Frag} {tg : Expr} {d : Addr} {es : Array DictEntry} {n : Nat} {ks : List Str}
theorem turn_kd (it : Addr) (D : KDict K w d es n) (hk : es.toList.map keyS = ks.map some) : Turn P w K tg (Ikd ks) [it] it (fun i h => h.IsKeyIter it d i ks.length n) where
  mem := by simp
  obj := fun i h st b hb => by
    have e : b = it := by simpa using hb
    subst e
    obtain ⟨oi, e, c, dd⟩ := st
    exact ⟨oi, e, fun v z => by rw [dd] at z; cases z⟩
  keep := fun i h h' st k => st.at fun oi e => k it (by simp) oi e
  item := by
    intro X hP hw hK hc i pins s σ H E I hf st hi
    subst hP hw hK
    obtain ⟨f0, f1, f2, f3, f4, f5⟩ := hf it (by simp)
    have hgd := I.kIn _ _ D.at_
    have hsz : es.size = ks.length := by
      have := congrArg List.length hk
      simpa using this
    have hi2 : i < ks.length := hi
    obtain ⟨en, hen, z, t, ek, ez⟩ : ∃ en, es[i]? = some en ∧ ∃ z t, en.key = .str z t ∧ ks[i]? = some z := by
      have hi3 : i < es.size := by omega
      refine ⟨es[i], Array.getElem?_eq_getElem hi3, ?_⟩
      have h := congrArg (fun l : List (Option Str) => l[i]?) hk
      rw [List.getElem?_map, List.getElem?_map, Array.getElem?_toList, Array.getElem?_eq_getElem hi3, List.getElem?_eq_getElem hi2] at h
      simp only [Option.map_some, Option.some.injEq] at h
      unfold keyS at h
      split at h
      · rename_i z t e
        injection h with h
        exact ⟨z, t, e, by rw [List.getElem?_eq_getElem hi2, h]⟩
      · cases h
    refine next_key_item st hgd rfl hsz hen fun h' st' sb => ?_
    have I1 : Inv X pins σ H { s with heap := h' } := I.turned (t' := s.toks) (fun b ob hb e => (sb.2 b hb).trans e) f0 f1 f3 f4 f5
    obtain ⟨oi, e, c, dd⟩ := id st'
    exact ⟨en.key, rfl, go_of (s := { s with heap := h' }) e c dd (by decide) ⟨.str z, H, I1, ⟨t, ek⟩, ⟨rfl, z, ez, rfl⟩, st', fun b hb => (hf b hb).1⟩⟩
  done := by
    intro X hP hw hK hc i pins s σ H E I hf st hi
    subst hP hw hK
    obtain ⟨f0, f1, f2, f3, f4, f5⟩ := hf it (by simp)
    have hgd := I.kIn _ _ D.at_
    have hsz : es.size = ks.length := by
      have := congrArg List.length hk
      simpa using this
    exact next_key_end (I.ok.hd hc) st hgd rfl hsz hi fun h' eb => ⟨rfl, I.turned (t' := s.toks) (fun b ob hb e => eb b ob hb e) f0 f1 f3 f4 f5⟩
  self := fun A i s Q E st h => wpAny_pyIter_keyiter st h
end
def iKd (ks : List Str) (d : Addr) (td : TE) : TI := fun σ H R => td σ H fun x H1 => x = .ref d ∧ R (Ikd ks) H1
theorem pi_kd {X : Cx} {tg e : Expr} {td : TE} {d : Addr} {ks : List Str} (A : KeysAt X.K X.w d ks) (he : PE X e td) : PI X tg e (iKd ks d td) := by
  obtain ⟨es, n, D, hk⟩ := A.ex
  refine ⟨fun pins s σ H R I h => ?_⟩
  refine thn (he.run pins s σ H _ I h) fun u s1 ⟨x, H1, I1, rx, ex, q⟩ => ?_
  subst ex
  obtain rfl : u = Value.ref d := rx
  have hsz : es.size = ks.length := by
    have := congrArg List.length hk
    simpa using this
  refine iter_keys D.low (I1.kIn _ _ D.at_) ⟨rfl, rfl, rfl⟩ rfl (pi_one (tk := s1.toks) I1 _ (turn_kd _ D hk) ⟨_, Heap.get?_push_size _ rfl, rfl, ?_⟩ q)
  rw [hsz] <;> rfl
/-- a walk over its keys -/
theorem walk_kd {ks : List Str} : Walk (Ikd ks) ks.length (fun _ => True) (fun i H v H' => H' = H ∧ ∃ z, ks[i]? = some z ∧ v = .str z) := by
  refine ⟨fun i _ hi _ => hi, fun _ _ => Nat.le_refl _, fun i H v H' _ _ y => y⟩
end L2.Tb
set_option Elab.async false
set_option linter.all false
set_option maxRecDepth 100000
set_option maxHeartbeats 4000000
/-! x op y by the own method of x's class, y of the same class -/
namespace L2.Tb
open PySem PySem.Spec PyProof.Rows
section
variable {X : Cx} {CX : CXT} {C f : Addr} {fd : FuncData} {ps : List Str} {sp : Sp} {k : Nat} {op : Operator}
def rOwnBin (C : Addr) (sp : Sp) : R2 := fun x y H Q => ∃ (a dx : Addr) (fs : List (Str × V)) (c dy : Addr) (gs : List (Str × V)), x = .ref a ∧ y = .ref c ∧ H a = some (.ins C dx fs) ∧ H c = some (.ins C dy gs) ∧ sp [.ref a, .ref c] H Q E0
theorem op_ownBin (F : FnOk X.prog X.w X.K X.mg X.base CX k f fd ps sp) (hr : Room k X.A) (hc : PySem.W.selfFirst X.K C = true) (hs : PySem.W.findIn X.K (.ref C) (PySem.dunder op.info.2) = some (some (.ref f))) (hf : PySem.W.isFn X.K (.ref f) = true) (hb : Binds X.K fd ps []) (hx : Passes CX X E0) :
    OpR X (binaryOp op) (rOwnBin C sp) := by
  intro pins s σ H x y v u Q I rx ry h
  obtain ⟨a, dx, fs, c, dy, gs, rfl, rfl, ea, ec, h⟩ := h
  obtain rfl : v = Value.ref a := rx
  obtain rfl : u = Value.ref c := ry
  obtain ⟨mA, O, _⟩ := ins_get I.hok ea
  obtain ⟨od, J, _⟩ := O.look
  obtain ⟨mC, O2, _⟩ := ins_get I.hok ec
  obtain ⟨od2, J2, _⟩ := O2.look
  obtain ⟨m, hF⟩ := I.fr
  have hl := F.len _ _ _ _ h
  refine PySem.W.binop_K hF I.ok.mod.kin J J2.type hc hs hf (wpAny_call (codeAny_mono (F.run X.A X.stack s H ⟨[.ref a, .ref c], []⟩ [.ref a, .ref c] [.ref a, .ref c] _ E0 hr I.env0 (by
    have z := hb s [.ref a, .ref c] I.kIn (by simpa using hl)
    simpa using z) (.cons rfl (.cons rfl .nil)) h) fun r s' hq => ?_))
  match r, hq with
  | .error e, hq => exact hx pins σ H s e s' I hq
  | .ok (.ret u2), hq =>
    obtain ⟨v2, H', I', rv, q⟩ := I.after hq
    exact cmp_back rv ⟨v2, H', I', rv, q⟩
end
end L2.Tb
set_option Elab.async false
set_option linter.all false
set_option maxRecDepth 100000
set_option maxHeartbeats 4000000
/-! y in x by an own __contains__; bool(x) by an own __bool__; o.f as a target among others; s * n -/
namespace L2.Tb
open PySem PySem.Spec PyProof.Rows
section
variable {X : Cx} {C f : Addr} {fd : FuncData} {ps : List Str} {sp : Sp} {k : Nat}
def rOwnIn (C : Addr) (sp : Sp) : R2 := fun v y H Q => ∃ (a dx : Addr) (fs : List (Str × V)), y = .ref a ∧ H a = some (.ins C dx fs) ∧ sp [.ref a, v] H (fun r H' => ∃ b, r = .bl b ∧ Q (.bl b) H') E0
theorem op_ownIn (F : FnOk X.prog X.w X.K X.mg X.base L2.CX0 k f fd ps sp) (hr : Room k X.A) (hs : PySem.W.findIn X.K (.ref C) "__contains__" = some (some (.ref f))) (hf : PySem.W.isFn X.K (.ref f) = true) (hb : Binds X.K fd ps []) : OpR X (compareOp .In) (rOwnIn C sp) := by
  intro pins s σ H x y v u Q I rx ry h
  obtain ⟨a, dx, fs, rfl, ea, h⟩ := h
  obtain rfl : u = Value.ref a := ry
  obtain ⟨mA, O, _⟩ := ins_get I.hok ea
  obtain ⟨od, J, _⟩ := O.look
  obtain ⟨m, hF⟩ := I.fr
  have hl := F.len _ _ _ _ h
  refine PySem.W.in_K hF I.ok.mod.kin J hs hf (wpAny_call (codeAny_mono (F.run X.A X.stack s H ⟨[.ref a, v], []⟩ [.ref a, v] [.ref a, x] _ E0 hr I.env0 (by
    have z := hb s [.ref a, v] I.kIn (by simpa using hl)
    simpa using z) (.cons rfl (.cons rx .nil)) h) fun r s' hq => ?_))
  match r, hq with
  | .error e, hq => exact hq.elim
  | .ok (.ret u), hq =>
    obtain ⟨v2, H', I', rv, b, ev, q⟩ := I.after hq
    rw [ev] at rv
    obtain rfl : u = Value.bool b := rv
    exact wpAny_truthy_bool ⟨.bl b, H', I', rfl, q⟩
def rBoolOwn (C : Addr) (sp : Sp) : List V → Hp → VK → Prop := fun xs H Q => ∃ (a dx : Addr) (fs : List (Str × V)), xs = [.ref a] ∧ H a = some (.ins C dx fs) ∧ sp [.ref a] H (fun v H' => ∃ b, v = .bl b ∧ Q (.bl b) H') E0
end
section
variable {prog : Program} {w : World} {A : Around} {E : Value → Shared → Prop} {s : Shared} {K : PySem.W.Frag} {x C L f : Addr} {h₀ : Heap} {m : Str → Option Value} {ox : Obj} {od : Option Obj}
theorem kbo_call {Q : Value → Shared → Prop} (F : PyProof.Rows.Fr h₀ L s.heap m) (X₀ : K.In h₀) (I : PySem.W.InstAt s.heap x ox C od) (hs : PySem.W.findIn K (.ref C) "__bool__" = some (some (.ref f))) (hf : PySem.W.isFn K (.ref f) = true)
    (h : wpAny (model prog w) A.in1.in1 (call (.ref f) [.ref x]) (PySem.W.BoolBack fun b s' => Q (.bool b) s') E s) : wpAny (model prog w) A (call (.type "bool") [.ref x]) Q E s := by
  refine callType_codes (T := "bool") (Bi := Builtin.«object.__init__») (Q₁ := fun r s₁ => ∃ b, r = .bool b ∧ Q r s₁) PySem.F.called_bool (PySem.F.typeCall_bool_1 _) PySem.F.entry_object_init ?_ ?_
  · refine codeAny_of_tree ?_
    show wpAny _ A.in1.in1 (do checkBuiltinCall "bool.__new__" ⟨[.type "bool", .ref x], []⟩; again (.builtin "bool.__new__" ⟨[.type "bool", .ref x], []⟩)) _ _ s
    refine wpAny_bind (wpAny_of_eq (PySem.F.newCall_bool_1 _) (wpAny_pure ⟨plainId_quiet (by decide +kernel) _, codeAny_builtin PySem.F.entry_bool_new ?_⟩))
    rw [Around.under_plainId (by decide +kernel) _]
    have key := PySem.W.truthy_K (M := model prog w) (A := A.in1.in1) (E := E) (Q := fun b s' => ∃ b', Value.bool b = .bool b' ∧ Q (.bool b) s') F X₀ I hs hf (wpAny_mono h (fun r s1 hr => by cases r <;> first | exact hr.elim | exact ⟨_, rfl, hr⟩) fun _ _ y => y)
    obtain ⟨hp, g, dr, tk, os⟩ := s
    have f1 := PySem.F.conv_sub_bool
    repeat (any_goals (first | assumption | (with_reducible refine wpAny_mono key (fun b s1 hb => ?_) (fun e s1 he => ?_)) | wp_step))
    all_goals first | exact hb | exact he | skip
  · rintro obj s₁ ⟨b, rfl, hq⟩
    exact ⟨PySem.typeIs_bool _ _, PySem.F.args_object_init_2 _ _, object_init_meets PySem.F.called_bool.init.lookup PySem.F.called_bool.made (by decide) prog w A.in1 _ s₁ ⟨PySem.typeIs_bool _ _, rfl, hq⟩⟩
end
section
variable {X : Cx}
/-- o.f = .., as a target among others -/
def gFld (K : PySem.W.Frag) (to : TE) (f : Str) : TG := fun v σ H Q => to σ H fun x H1 => ∃ a C dx fs, x = .ref a ∧ H1 a = some (.ins C dx fs) ∧ Cls K C ∧ NoAttr K C f ∧ fs.length < 1000 ∧ Q σ (upd H1 a (.ins C dx (putF f v fs)))
theorem pg_fld {o : Expr} {to : TE} {f : Str} {pos : Pos} (ho : PE X o to) (ha : ∀ v, assign (.Attribute o f pos) X.env v = (do
      let ov ← holding [v] (eval o X.env)
      standAt pos.atName
      holding [v, ov] (setAttr ov f v)
      release [v, ov] []) := by intro _; rfl) : PG X (.Attribute o f pos) (gFld X.K to f) := by
  refine ⟨fun pins s σ H v u Q I r h => ?_⟩
  rw [ha]
  refine wpAny_bind (wpAny_holding (thn (ho.run pins s σ H _ I h) fun ov s1 ⟨x, H1, I1, r1, a, C, dx, fs, ex, ea, c, n, l, q⟩ => ?_))
  subst ex
  obtain rfl : ov = Value.ref a := r1
  exact wpAny_bind (wpAny_standAt (wpAny_bind (wpAny_holding (setattr_ok I1 ea c n l r fun s3 I3 => wpAny_release ⟨σ, _, I3, q⟩))))
def rMulS : R2 := fun x y H Q => ∃ (z : Str) (n : Nat), x = .str z ∧ y = .int (n : Int) ∧ 1 ≤ n ∧ z.length ≠ 0 ∧ n ≤ 1000 ∧ z.length ≤ 1000 ∧ Q (.str ⟨((List.replicate n z.cps.toList).flatten).toArray⟩) H
theorem rep_arr (z : Array Nat) : ∀ (n : Nat) (a : Array Nat), ((List.replicate n z).foldl (· ++ ·) a).toList = a.toList ++ (List.replicate n z.toList).flatten
  | 0, a => by simp
  | n + 1, a => by
    rw [List.replicate_succ, List.foldl_cons, rep_arr z n (a ++ z), List.replicate_succ, List.flatten_cons, Array.toList_append, List.append_assoc]
theorem op_mulS : OpR X (binaryOp .Mult) rMulS := by
  intro pins s σ H x y v u Q I rx ry h
  obtain ⟨z, n, rfl, rfl, n1, z1, nb, zb, q⟩ := h
  obtain ⟨t, rfl⟩ := (show ∃ t, v = Value.str z t from rx)
  obtain ⟨t', rfl⟩ := (show ∃ t', u = Value.int (n : Int) t' from ry)
  have hlt : ¬ (n : Int) < 1 := by omega
  have mul : z.length * n ≤ 1000 * 1000 := Nat.mul_le_mul zb nb
  have eq1 : (⟨(List.replicate n z.cps).foldl (· ++ ·) #[]⟩ : Str) = ⟨((List.replicate n z.cps.toList).flatten).toArray⟩ := by
    congr 1
    apply Array.toList_inj.mp
    rw [rep_arr]
    simp
  refine P.mul_str ?_ (fun _ _ => ?_) (fun _ _ => ?_) ?_
  · rw [decide_eq_false (by omega), decide_eq_false (by omega)]
    rfl
  · have d : (1000 : Int) ≤ (2 ^ 63 - 1) / (n : Int) := by
      refine Int.le_ediv_of_mul_le (by omega) ?_
      omega
    omega
  · rw [Int.toNat_natCast]
    have : sizeLine = 16777216 := sizeLine_eq
    simp only [Builtin.Str.tooLong, decide_eq_false_iff_not]
    omega
  · rw [if_neg hlt]
    by_cases c : ((n : Int) == 1 || z.length == 0) = true
    · rw [if_pos c]
      have n1' : n = 1 := by
        rcases (Bool.or_eq_true _ _).mp c with c | c
        · have := beq_iff_eq.mp c
          omega
        · exact absurd (beq_iff_eq.mp c) z1
      subst n1'
      refine ⟨.str z, H, I, ⟨_, rfl⟩, ?_⟩
      simpa using q
    · rw [if_neg c]
      refine ⟨?_, ?_⟩
      · rw [Int.toNat_natCast, eq1]
        have e : (⟨((List.replicate n z.cps.toList).flatten).toArray⟩ : Str).length = n * z.length := by
          show ((List.replicate n z.cps.toList).flatten).toArray.size = _
          rw [List.size_toArray, List.length_flatten, List.map_replicate, List.sum_replicate_nat]
          rfl
        rw [e, Nat.mul_comm, sizeLine_eq]
        omega
      · rw [Int.toNat_natCast, eq1]
        exact ⟨.str _, H, I.tok _, ⟨_, rfl⟩, q⟩
/-- bool(x) -/
theorem call_boolOwn {C f : Addr} {fd : FuncData} {ps : List Str} {sp : Sp} {k : Nat} (F : FnOk X.prog X.w X.K X.mg X.base L2.CX0 k f fd ps sp) (hr : Room (k + 2) X.A) (hs : PySem.W.findIn X.K (.ref C) "__bool__" = some (some (.ref f))) (hf : PySem.W.isFn X.K (.ref f) = true) (hb : Binds X.K fd ps []) : CallR X (.type "bool") (rBoolOwn C sp) := by
  intro pins s σ H xs us Q I r h
  obtain ⟨a, dx, fs, rfl, ea, h⟩ := h
  rw [Vals.ref1 r]
  obtain ⟨mA, O, _⟩ := ins_get I.hok ea
  obtain ⟨od, J, _⟩ := O.look
  obtain ⟨m, hF⟩ := I.fr
  have r2 : Room k X.A.in1.in1 := hr.in1.in1
  have hl := F.len _ _ _ _ h
  refine kbo_call hF I.ok.mod.kin J hs hf (wpAny_call (codeAny_mono (F.run X.A.in1.in1 X.stack s H ⟨[.ref a], []⟩ [.ref a] [.ref a] _ E0 r2 I.env0.in1.in1 (by
    have z := hb s [.ref a] I.kIn (by simpa using hl)
    simpa using z) (.cons rfl .nil) h) fun r s' hq => ?_))
  match r, hq with
  | .error e, hq => exact hq.elim
  | .ok (.ret u), hq =>
    obtain ⟨v, H', I', rv, b, ev, q⟩ := I.after hq
    rw [ev] at rv
    obtain rfl : u = Value.bool b := rv
    exact ⟨.bl b, H', I', rfl, q⟩
end
end L2.Tb
set_option Elab.async false
set_option linter.all false
set_option maxRecDepth 100000
set_option maxHeartbeats 8000000
namespace L2.K53
open PySem PySem.Spec PyProof.Rows L2.Tb
open SX (S)
/-! ### sequences that repeat themselves, and the shortest words for them -/
def dg (h t : List Nat) (n : Nat) : Nat := if n < h.length then h.getD n 0 else t.getD ((n - h.length) % t.length) 0
structure IsCanon (u : Nat → Nat) (a p : Nat) : Prop where
  p1 : 1 ≤ p
  per : ∀ n, a ≤ n → u n = u (n + p)
  min : ∀ q, 1 ≤ q → q < p → ¬ ∃ N, ∀ n, N ≤ n → u n = u (n + q)
  st : a = 0 ∨ u (a - 1) ≠ u (a - 1 + p)
theorem IsCanon.uniq {u : Nat → Nat} {a p a' p' : Nat} (h : IsCanon u a p) (h' : IsCanon u a' p') : a = a' ∧ p = p' := by
  have hp : p = p' := by
    rcases Nat.lt_trichotomy p p' with l | l | l
    · exact absurd ⟨a, h.per⟩ (h'.min p h.p1 l)
    · exact l
    · exact absurd ⟨a', h'.per⟩ (h.min p' h'.p1 l)
  subst hp
  refine ⟨?_, rfl⟩
  rcases Nat.lt_trichotomy a a' with l | l | l
  · rcases h'.st with z | z
    · omega
    · exact absurd (h.per (a' - 1) (by omega)) z
  · exact l
  · rcases h.st with z | z
    · omega
    · exact absurd (h'.per (a - 1) (by omega)) z
def seg (u : Nat → Nat) (a m : Nat) : List Nat := (List.range m).map fun i => u (a + i)
theorem seg_len (u : Nat → Nat) (a m : Nat) : (seg u a m).length = m := by simp [seg]
theorem seg_get {u : Nat → Nat} {a m i : Nat} (h : i < m) : (seg u a m).getD i 0 = u (a + i) := by
  simp [seg, List.getD, h]
theorem ext_getD {l m : List Nat} (hl : l.length = m.length) (h : ∀ i, i < l.length → l.getD i 0 = m.getD i 0) : l = m := by
  refine List.ext_getElem hl fun i h1 h2 => ?_
  have := h i h1
  simpa [List.getD, h1, h2] using this
theorem per_mul {u : Nat → Nat} {a p : Nat} (h : ∀ n, a ≤ n → u n = u (n + p)) : ∀ k n, a ≤ n → u (n + k * p) = u n
  | 0, n, _ => by simp
  | k + 1, n, hn => by
    rw [Nat.succ_mul, ← Nat.add_assoc, ← h (n + k * p) (by omega)]
    exact per_mul h k n hn
def CanonOf (u : Nat → Nat) (h t : List Nat) : Prop := ∃ a p, IsCanon u a p ∧ h = seg u 0 a ∧ t = seg u a p
theorem CanonOf.uniq {u : Nat → Nat} {h t h' t' : List Nat} (c : CanonOf u h t) (c' : CanonOf u h' t') : h = h' ∧ t = t' := by
  obtain ⟨a, p, i, rfl, rfl⟩ := c
  obtain ⟨a', p', i', rfl, rfl⟩ := c'
  obtain ⟨rfl, rfl⟩ := i.uniq i'
  exact ⟨rfl, rfl⟩
theorem CanonOf.ne {u : Nat → Nat} {h t : List Nat} (c : CanonOf u h t) : t ≠ [] := by
  obtain ⟨a, p, i, rfl, rfl⟩ := c
  intro z
  have := congrArg List.length z
  rw [seg_len] at this
  have := i.p1
  simp at *
  omega
theorem CanonOf.dg {u : Nat → Nat} {h t : List Nat} (c : CanonOf u h t) (n : Nat) : dg h t n = u n := by
  obtain ⟨a, p, i, rfl, rfl⟩ := c
  unfold K53.dg
  rw [seg_len, seg_len]
  by_cases hn : n < a
  · rw [if_pos hn, seg_get hn, Nat.zero_add]
  · rw [if_neg hn]
    have hp := i.p1
    have hm : (n - a) % p < p := Nat.mod_lt _ (by omega)
    rw [seg_get hm, ← per_mul i.per ((n - a) / p) (a + (n - a) % p) (by omega)]
    congr 1
    have := Nat.mod_add_div (n - a) p
    rw [Nat.mul_comm] at this
    omega
theorem dg_per {h t : List Nat} (n : Nat) (hn : h.length ≤ n) : dg h t n = dg h t (n + t.length) := by
  unfold dg
  rw [if_neg (by omega), if_neg (by omega), show n + t.length - h.length = (n - h.length) + t.length by omega, Nat.add_mod_right]
/-! ### the law's way -/
theorem law_canon {u : Nat → Nat} {size many p s : Nat} (m1 : 1 ≤ many) (hu : ∀ n, size ≤ n → u n = u (n + many)) (p1 : 1 ≤ p) (hp : ∀ x, size ≤ x → x < size + many → u x = u (x + p))
    (hmin : ∀ q, 1 ≤ q → q < p → ∃ x, size ≤ x ∧ x < size + many ∧ u x ≠ u (x + q)) (hs : ∀ x, s ≤ x → x < size + many → u x = u (x + p)) (hsz : s ≤ size) (hst : s = 0 ∨ u (s - 1) ≠ u (s - 1 + p)) : IsCanon u s p := by
  have win : ∀ n, size ≤ n → u n = u (n + p) := fun n hn => by
    have hm : (n - size) % many < many := Nat.mod_lt _ (by omega)
    have e := Nat.mod_add_div (n - size) many
    rw [Nat.mul_comm] at e
    have a := per_mul hu ((n - size) / many) (size + (n - size) % many) (by omega)
    have b := per_mul hu ((n - size) / many) (size + (n - size) % many + p) (by omega)
    have c := hp (size + (n - size) % many) (by omega) (by omega)
    rw [show size + (n - size) % many + (n - size) / many * many = n by omega] at a
    rw [show size + (n - size) % many + p + (n - size) / many * many = n + p by omega] at b
    rw [a, b, c]
  refine ⟨p1, fun n hn => ?_, fun q q1 q2 => ?_, hst⟩
  · by_cases c : n < size + many
    · exact hs n hn c
    · exact win n (by omega)
  · rintro ⟨N, hN⟩
    obtain ⟨x, x1, x2, x3⟩ := hmin q q1 q2
    have a := per_mul hu N x x1
    have b := per_mul hu N (x + q) (by omega)
    have big : N ≤ x + N * many := by
      have := Nat.mul_le_mul_left N m1
      omega
    have c := hN (x + N * many) big
    rw [show x + N * many + q = x + q + N * many by omega, a, b] at c
    exact x3 c
/-! ### the program's way -/
theorem rep_len (r : List Nat) : ∀ k, ((List.replicate k r).flatten).length = k * r.length
  | 0 => by simp
  | k + 1 => by
    rw [List.replicate_succ, List.flatten_cons, List.length_append, rep_len r k, Nat.succ_mul, Nat.add_comm]
theorem rep_get {r : List Nat} : ∀ {k i : Nat}, i < k * r.length → ((List.replicate k r).flatten).getD i 0 = r.getD (i % r.length) 0
  | 0, i, h => by simp at h
  | k + 1, i, h => by
    rw [List.replicate_succ, List.flatten_cons]
    by_cases c : i < r.length
    · rw [Nat.mod_eq_of_lt c]
      simp [List.getD, List.getElem?_append_left c]
    · have c' : r.length ≤ i := by omega
      have h2 : i - r.length < k * r.length := by
        rw [Nat.succ_mul] at h
        omega
      have e := rep_get h2
      rw [Nat.mod_eq_sub_mod c', ← e]
      simp [List.getD, List.getElem?_append_right c']
structure RootIs (t : List Nat) (d : Nat) : Prop where
  d1 : 1 ≤ d
  dl : d ≤ t.length
  dv : t.length % d = 0
  eq : t = (List.replicate (t.length / d) (t.take d)).flatten
  min : ∀ e, 1 ≤ e → e < d → t.length % e = 0 → t ≠ (List.replicate (t.length / e) (t.take e)).flatten
theorem take_len {t : List Nat} {d : Nat} (h : d ≤ t.length) : (t.take d).length = d := by
  rw [List.length_take]
  omega
theorem take_get {t : List Nat} {d i : Nat} (h : i < d) : (t.take d).getD i 0 = t.getD i 0 := by
  simp [List.getD, h]
theorem rep_iff {t : List Nat} {d : Nat} (d1 : 1 ≤ d) (dl : d ≤ t.length) (dv : t.length % d = 0) : t = (List.replicate (t.length / d) (t.take d)).flatten ↔ ∀ i, i < t.length → t.getD i 0 = t.getD (i % d) 0 := by
  have hm : t.length / d * d = t.length := by
    have := Nat.mod_add_div t.length d
    rw [dv, Nat.mul_comm] at this
    omega
  have g : ∀ i, i < t.length → ((List.replicate (t.length / d) (t.take d)).flatten).getD i 0 = t.getD (i % d) 0 := fun i hi => by
    have := rep_get (r := t.take d) (k := t.length / d) (i := i) (by rw [take_len dl, hm]; exact hi)
    rw [this, take_len dl]
    exact take_get (Nat.mod_lt _ (by omega))
  refine ⟨fun e i hi => ?_, fun h => ext_getD ?_ fun i hi => ?_⟩
  · rw [← g i hi]
    exact congrArg (fun l : List Nat => l.getD i 0) e
  · rw [rep_len, take_len dl, hm]
  · rw [g i hi]
    exact h i hi
structure ShortIs (h r : List Nat) (k : Nat) : Prop where
  kl : k ≤ h.length
  eq : ∀ j, j < k → h.getD (h.length - 1 - j) 0 = r.getD (r.length - 1 - j % r.length) 0
  st : k = h.length ∨ h.getD (h.length - 1 - k) 0 ≠ r.getD (r.length - 1 - k % r.length) 0
def rotD (r : List Nat) (c : Nat) : List Nat := r.drop c ++ r.take c
theorem rot_len {r : List Nat} {c : Nat} (hc : c ≤ r.length) : (rotD r c).length = r.length := by
  unfold rotD
  rw [List.length_append, List.length_drop, List.length_take]
  omega
theorem rot_get {r : List Nat} {c i : Nat} (hc : c ≤ r.length) (hi : i < r.length) : (rotD r c).getD i 0 = r.getD ((i + c) % r.length) 0 := by
  unfold rotD
  by_cases h : i < r.length - c
  · rw [Nat.mod_eq_of_lt (by omega)]
    simp [List.getD, List.getElem?_append_left (show i < (r.drop c).length by rw [List.length_drop]; exact h), Nat.add_comm]
  · have e : (i + c) % r.length = i + c - r.length := by
      rw [Nat.mod_eq_sub_mod (by omega), Nat.mod_eq_of_lt (by omega)]
    rw [e]
    have h2 : (r.drop c).length ≤ i := by rw [List.length_drop]; omega
    have h3 : i - (r.drop c).length < c := by rw [List.length_drop]; omega
    have h4 : i - (r.drop c).length = i + c - r.length := by rw [List.length_drop]; omega
    simp [List.getD, List.getElem?_append_right h2]
    rw [show i - (r.length - c) = i + c - r.length by omega, List.getElem?_take_of_lt (by omega)]
theorem mod_dvd_mod {x m d : Nat} (h : m % d = 0) : x % m % d = x % d := Nat.mod_mod_of_dvd x (Nat.dvd_of_mod_eq_zero h)
theorem root_dg {h t : List Nat} {d : Nat} (R : RootIs t d) (n : Nat) : dg h t n = dg h (t.take d) n := by
  unfold dg
  by_cases c : n < h.length
  · rw [if_pos c, if_pos c]
  · rw [if_neg c, if_neg c, take_len R.dl]
    have := R.d1
    have hl := R.dl
    have h1 := (rep_iff R.d1 R.dl R.dv).mp R.eq ((n - h.length) % t.length) (Nat.mod_lt _ (by omega))
    rw [h1, mod_dvd_mod R.dv]
    exact (take_get (Nat.mod_lt _ (by omega))).symm
theorem canon_made {h t : List Nat} {d k : Nat} (R : RootIs t d) (S : ShortIs h (t.take d) k) : CanonOf (dg h t) (h.take (h.length - k)) (rotD (t.take d) (d - k % d)) := by
  have d1 := R.d1
  have hl := R.dl
  have kl := S.kl
  have ld := take_len hl
  have per : ∀ n, h.length ≤ n → dg h t n = dg h t (n + d) := fun n hn => by
    rw [root_dg R, root_dg R]
    have := dg_per (h := h) (t := t.take d) n hn
    rwa [ld] at this
  -- the value k places ahead of the head's end, seen d further on
  have far : ∀ j, j ≤ k → j < h.length → dg h t (h.length - 1 - j + d) = (t.take d).getD (d - 1 - j % d) 0 := fun j hj hj2 => by
    by_cases c : j < d
    · rw [root_dg R, Nat.mod_eq_of_lt c]
      unfold dg
      rw [if_neg (by omega), ld, show h.length - 1 - j + d - h.length = d - 1 - j by omega, Nat.mod_eq_of_lt (by omega)]
    · rw [show h.length - 1 - j + d = h.length - 1 - (j - d) by omega]
      unfold dg
      rw [if_pos (by omega), S.eq (j - d) (by omega), ld, Nat.mod_eq_sub_mod (show d ≤ j by omega)]
  have per2 : ∀ n, h.length - k ≤ n → dg h t n = dg h t (n + d) := fun n hn => by
    by_cases c : h.length ≤ n
    · exact per n c
    · have f := far (h.length - 1 - n) (by omega) (by omega)
      rw [show h.length - 1 - (h.length - 1 - n) = n by omega] at f
      rw [f]
      have e := S.eq (h.length - 1 - n) (by omega)
      rw [show h.length - 1 - (h.length - 1 - n) = n by omega, ld] at e
      rw [← e]
      unfold dg
      rw [if_pos (by omega)]
  have canon : IsCanon (dg h t) (h.length - k) d := by
    refine ⟨d1, per2, fun q q1 q2 hq => ?_, ?_⟩
    · -- the least such q divides the tail's length
      have ex : ∃ g, (1 ≤ g ∧ ∃ N, ∀ n, N ≤ n → dg h t n = dg h t (n + g)) ∧ g ≤ q ∧ ∀ g', (1 ≤ g' ∧ ∃ N, ∀ n, N ≤ n → dg h t n = dg h t (n + g')) → g ≤ g' := by
        have key : ∀ m, ∀ q, q ≤ m → (1 ≤ q ∧ ∃ N, ∀ n, N ≤ n → dg h t n = dg h t (n + q)) → ∃ g, (1 ≤ g ∧ ∃ N, ∀ n, N ≤ n → dg h t n = dg h t (n + g)) ∧ g ≤ q ∧ ∀ g', (1 ≤ g' ∧ ∃ N, ∀ n, N ≤ n → dg h t n = dg h t (n + g')) → g ≤ g' := by
          intro m
          induction m with
          | zero => intro q hq hx; exact absurd hx.1 (by omega)
          | succ m ih =>
            intro q hq hx
            by_cases c : ∃ q', q' < q ∧ (1 ≤ q' ∧ ∃ N, ∀ n, N ≤ n → dg h t n = dg h t (n + q'))
            · obtain ⟨q', l, h'⟩ := c
              obtain ⟨g, a, b, e⟩ := ih q' (by omega) h'
              exact ⟨g, a, by omega, e⟩
            · exact ⟨q, hx, Nat.le_refl _, fun g' hg' => by
                by_cases c2 : g' < q
                · exact absurd ⟨g', c2, hg'⟩ c
                · omega⟩
        exact key q q (Nat.le_refl _) ⟨q1, hq⟩
      obtain ⟨g, ⟨g1, N, hN⟩, gq, gmin⟩ := ex
      have dvd : t.length % g = 0 := by
        rcases Nat.eq_zero_or_pos (t.length % g) with z | z
        · exact z
        · have lt : t.length % g < g := Nat.mod_lt _ (by omega)
          have := gmin (t.length % g) ⟨z, N + h.length, fun n hn => by
            have a := per_mul (a := N) hN (t.length / g) (n + t.length % g) (by omega)
            have e := Nat.mod_add_div t.length g
            rw [Nat.mul_comm] at e
            rw [show n + t.length % g + t.length / g * g = n + t.length by omega] at a
            rw [← a]
            exact dg_per n (by omega)⟩
          omega
      have all : ∀ n, h.length ≤ n → dg h t n = dg h t (n + g) := fun n hn => by
        have a := per_mul (a := h.length) (p := t.length) (fun n hn => dg_per (t := t) n hn) N n hn
        have b := per_mul (a := h.length) (p := t.length) (fun n hn => dg_per (t := t) n hn) N (n + g) (by omega)
        have big : N ≤ n + N * t.length := by
          have := Nat.mul_le_mul_left N (show 1 ≤ t.length by omega)
          omega
        have c := hN (n + N * t.length) big
        rw [show n + N * t.length + g = n + g + N * t.length by omega, a, b] at c
        exact c
      refine R.min g g1 (by omega) dvd ((rep_iff g1 (by omega) dvd).mpr fun i hi => ?_)
      have tl : ∀ i, i < t.length → dg h t (h.length + i) = t.getD i 0 := fun i hi => by
        unfold dg
        rw [if_neg (by omega), show h.length + i - h.length = i by omega, Nat.mod_eq_of_lt hi]
      have ml : i % g ≤ i := Nat.mod_le _ _
      rw [← tl i hi, ← tl (i % g) (by omega)]
      have a := per_mul (a := h.length) all (i / g) (h.length + i % g) (by omega)
      have e := Nat.mod_add_div i g
      rw [Nat.mul_comm] at e
      rw [show h.length + i % g + i / g * g = h.length + i by omega] at a
      exact a
    · rcases S.st with z | z
      · left
        omega
      · by_cases c : k = h.length
        · left
          omega
        · right
          rw [show h.length - k - 1 = h.length - 1 - k by omega, far k (Nat.le_refl _) (by omega)]
          rw [ld] at z
          unfold dg
          rw [if_pos (by omega)]
          exact z
  refine ⟨_, d, canon, ext_getD ?_ fun i hi => ?_, ext_getD ?_ fun i hi => ?_⟩
  · rw [List.length_take, seg_len]
    omega
  · rw [List.length_take] at hi
    rw [take_get (by omega), seg_get (by omega), Nat.zero_add]
    unfold dg
    rw [if_pos (by omega)]
  · rw [rot_len (by rw [ld]; omega), ld, seg_len]
  · rw [rot_len (by rw [ld]; omega), ld] at hi
    have km : k % d < d := Nat.mod_lt _ (by omega)
    rw [rot_get (by rw [ld]; omega) (by rw [ld]; exact hi), seg_get hi, ld]
    have a := per_mul per2 h.length (h.length - k + i) (by omega)
    have big : h.length ≤ h.length * d := Nat.le_mul_of_pos_right _ (by omega)
    rw [← a, root_dg R]
    unfold dg
    rw [if_neg (by omega), ld]
    congr 1
    have ek := Nat.mod_add_div k d
    have q1 : k / d < h.length + 1 := by
      have := Nat.div_le_self k d
      omega
    -- both are i - k, modulo d
    have e1 : h.length - k + i + h.length * d - h.length + (k / d + 1) * d = i + (d - k % d) + h.length * d := by
      have x1 : (k / d + 1) * d = d * (k / d) + d := by rw [Nat.succ_mul, Nat.mul_comm]
      rw [x1]
      omega
    have e2 := congrArg (· % d) e1
    simp only [Nat.add_mul_mod_self_right] at e2
    exact e2.symm
theorem dg_longer {h t : List Nat} (ht : t ≠ []) {m c : Nat} (c1 : 1 ≤ c) (n : Nat) : dg (h ++ seg (dg h t) h.length m) ((List.replicate c (rotD t (m % t.length))).flatten) n = dg h t n := by
  have tp : 0 < t.length := List.length_pos_iff.mpr ht
  have am : m % t.length < t.length := Nat.mod_lt _ tp
  refine Eq.trans (show _ = (if n < (h ++ seg (dg h t) h.length m).length then (h ++ seg (dg h t) h.length m).getD n 0 else ((List.replicate c (rotD t (m % t.length))).flatten).getD ((n - (h ++ seg (dg h t) h.length m).length) % ((List.replicate c (rotD t (m % t.length))).flatten).length) 0) from rfl) ?_
  rw [List.length_append, seg_len, rep_len, rot_len (Nat.le_of_lt am)]
  by_cases a : n < h.length + m
  · rw [if_pos a]
    by_cases b : n < h.length
    · unfold dg
      rw [if_pos b]
      simp [List.getD, List.getElem?_append_left b]
    · have := seg_get (u := dg h t) (a := h.length) (m := m) (i := n - h.length) (by omega)
      rw [show h.length + (n - h.length) = n by omega] at this
      rw [← this]
      simp [List.getD, List.getElem?_append_right (show h.length ≤ n by omega)]
  · rw [if_neg a]
    have hm : (n - (h.length + m)) % (c * t.length) < c * t.length := Nat.mod_lt _ (Nat.mul_pos (by omega) tp)
    rw [rep_get (by rw [rot_len (Nat.le_of_lt am)]; exact hm), rot_len (Nat.le_of_lt am), mod_dvd_mod (Nat.mul_mod_left c t.length), rot_get (Nat.le_of_lt am) (Nat.mod_lt _ tp)]
    unfold dg
    rw [if_neg (by omega)]
    congr 1
    rw [Nat.mod_add_mod, Nat.add_mod_mod]
    congr 1
    omega
theorem mem_dg {h t : List Nat} (ht : t ≠ []) (c : Nat) : c ∈ h ++ t ↔ ∃ n, dg h t n = c := by
  have tp : 0 < t.length := List.length_pos_iff.mpr ht
  rw [List.mem_append]
  constructor
  · rintro (m | m)
    · obtain ⟨i, hi, e⟩ := List.getElem_of_mem m
      refine ⟨i, ?_⟩
      unfold dg
      rw [if_pos hi]
      simpa [List.getD, hi] using e
    · obtain ⟨i, hi, e⟩ := List.getElem_of_mem m
      refine ⟨h.length + i, ?_⟩
      unfold dg
      rw [if_neg (by omega), show h.length + i - h.length = i by omega, Nat.mod_eq_of_lt hi]
      simpa [List.getD, hi] using e
  · rintro ⟨n, e⟩
    unfold dg at e
    by_cases c1 : n < h.length
    · rw [if_pos c1] at e
      left
      rw [← e]
      simp [List.getD, c1]
    · rw [if_neg c1] at e
      right
      have hm : (n - h.length) % t.length < t.length := Nat.mod_lt _ tp
      rw [← e]
      simp [List.getD, hm]
/-! ### the text by places -/
def top (i : Nat) : Stmt := PySem.Challenge.pw_thirdback_k53_lengths_joined.main.body.getD i (.Pass ⟨0, 0, 0, 0⟩)
/-- the built-ins' names -/
structure Bt (mg : Str → Option Value) : Prop where
  m_len : mg "len" = none
  m_int : mg "int" = none
  m_abs : mg "abs" = none
  m_divmod : mg "divmod" = none
  m_isinstance : mg "isinstance" = none
  m_tuple : mg "tuple" = none
  m_list : mg "list" = none
  m_bool : mg "bool" = none
  m_all : mg "all" = none
  m_zip : mg "zip" = none
  m_range : mg "range" = none
  m_max : mg "max" = none
  m_min : mg "min" = none
  m_enumerate : mg "enumerate" = none
  m_repr : mg "repr" = none
  m_sorted : mg "sorted" = none
  m_ValueError : mg "ValueError" = none
  m_LookupError : mg "LookupError" = none
  m_ArithmeticError : mg "ArithmeticError" = none
abbrev s_cell : Stmt := top 23
abbrev N_cell : List Str := ["_law_cells", "_law_k", "_law_seed", "_law_item"]
theorem sc_cell : FnScope N_cell ["_law_cells", "_law_k"] (defScope s_cell) := ⟨rfl, rfl, rfl, by decide +kernel, rfl, by decide +kernel, by decide +kernel⟩
abbrev s_source : Stmt := top 24
abbrev N_source : List Str := ["_law_item", "_law_great"]
theorem sc_source : FnScope N_source ["_law_item"] (defScope s_source) := ⟨rfl, rfl, rfl, by decide +kernel, rfl, by decide +kernel, by decide +kernel⟩
abbrev s_draw : Stmt := top 25
abbrev N_draw : List Str := ["_law_source_here", "_law_many", "_law_digit_here", "_law_state"]
theorem sc_draw : FnScope N_draw ["_law_source_here", "_law_many"] (defScope s_draw) := ⟨rfl, rfl, rfl, by decide +kernel, rfl, by decide +kernel, by decide +kernel⟩
abbrev s_digit : Stmt := top 26
abbrev N_digit : List Str := ["_law_first", "_law_again", "_law_at"]
theorem sc_digit : FnScope N_digit ["_law_first", "_law_again", "_law_at"] (defScope s_digit) := ⟨rfl, rfl, rfl, by decide +kernel, rfl, by decide +kernel, by decide +kernel⟩
abbrev s_digits : Stmt := top 27
abbrev N_digits : List Str := ["_law_source_here", "_law_many", "_law_size", "_law_k", "_law_some"]
theorem sc_digits : FnScope N_digits ["_law_source_here", "_law_many"] (defScope s_digits) := ⟨rfl, rfl, rfl, by decide +kernel, rfl, by decide +kernel, by decide +kernel⟩
abbrev iBits := Builtin.Int.intBits
/-- the source of numbers -/
structure Src (H : Hp) (p : Addr) : Prop where
  ex : ∃ st dg c : Int, H p = some (.lst [.int st, .int dg, .int c]) ∧ 0 ≤ st ∧ st < 2147483629 ∧ 0 ≤ dg
theorem Src.same {H H' : Hp} {p : Addr} (h : Src H p) (s : Same H H') : Src H' p := by
  obtain ⟨st, dg, c, e, r⟩ := h.ex
  exact ⟨st, dg, c, s _ _ e, r⟩
def spCell (K : PySem.W.Frag) : Sp := fun vs H Q _ => ∃ (a : Addr) (ns : List Int) (k : Nat), vs = [.ref a, .int (k : Int)] ∧ SqL K H a (ns.map V.int) ∧ (∀ n ∈ ns, iBits n ≤ 1048576) ∧ k ≤ 64 ∧
  ∀ (z : Int) (H' : Hp), Same H H' → iBits z ≤ 1048576 → Q (.int z) H'
def spSource : Sp := fun vs H Q _ => ∃ z : Int, vs = [.int z] ∧ iBits z ≤ 1048576 ∧ ∀ (p : Addr) (H' : Hp), Same H H' → H p = none → Src H' p → Q (.ref p) H'
def spDraw : Sp := fun vs H Q _ => ∃ (p : Addr) (m : Int), vs = [.ref p, .int m] ∧ Src H p ∧ 0 < m ∧ m < 2 ^ 200 ∧ ∀ (d : Int) (H' : Hp), 0 ≤ d → d < m → SameB p H H' → Src H' p → Q (.int d) H'
def spDigit : Sp := fun vs H Q _ => ∃ (h t : List Nat) (n : Nat), vs = [.str (S h), .str (S t), .int (n : Int)] ∧ h.length ≤ 1000 ∧ t.length ≤ 1000 ∧ t ≠ [] ∧ Q (.str (S [dg h t n])) H
def rLenQ (K : PySem.W.Frag) : List V → Hp → VK → Prop := fun xs H Q => ∃ p ys, xs = [V.ref p] ∧ (SqL K H p ys ∨ SqT K H p ys) ∧ Q (V.int ↑ys.length) H
def rListQ (K : PySem.W.Frag) : List V → Hp → VK → Prop := fun xs H Q => ∃ p ys, xs = [V.ref p] ∧ (SqL K H p ys ∨ SqT K H p ys) ∧ ∀ l, H l = none → Q (.ref l) (upd H l (.lst ys))
/-- a text of 0 and 1 -/
def Bin (l : List Nat) : Prop := ∀ c ∈ l, c = 48 ∨ c = 49
def spDigits : Sp := fun vs H Q _ => ∃ (p : Addr) (m : Nat), vs = [.ref p, .int (m : Int)] ∧ Src H p ∧ m ≤ 100 ∧ ∀ (l : List Nat) (H' : Hp), l.length = m → Bin l → SameB p H H' → Src H' p → Q (.str (S l)) H'
theorem gname_go {i : Nat} {x : V} {σ : St} {H : Hp} {k : St → Hp → Prop} (h : k (σ.set i (some x)) H) : gName i x σ H k := h
theorem cb_one {r : List V → Hp → VK → Prop} {ta : TE} {σ : St} {H : Hp} {Q : VK} (h : ta σ H fun x H1 => r [x] H1 Q) : tCB r (tCons ta tNil) σ H Q := h
theorem same_put {H0 H : Hp} {D : Addr} {o : HO} (n : H0 D = none) (s : Same H0 H) : Same H0 (upd H D o) := fun b u e => by rw [upd_ne (ne_of_none e n)]; exact s _ _ e
theorem seq_go {a b : TS} {D : Ends} {σ : St} {H : Hp} (h : a { D with nx := b D } σ H) : tSeq a b D σ H := h
theorem seqx {a b : TS} {D : Ends} {σ : St} {H : Hp} (Pv : St → Hp → Prop) (hb : ∀ σ' H', Pv σ' H' → b D σ' H') (h : (∀ σ' H', Pv σ' H' → ({ D with nx := b D } : Ends).nx σ' H') → a { D with nx := b D } σ H) : tSeq a b D σ H := h hb
theorem ret_go {te : TE} {D : Ends} {σ : St} {H : Hp} (h : te σ H D.rt) : tRet te D σ H := h
theorem and_go {ta tb : TE} {σ : St} {H : Hp} {Q : VK} (h : ta σ H fun x H1 => ∃ c, x = .bl c ∧ if c = true then tb σ H1 Q else Q (.bl false) H1) : tAndV ta tb σ H Q := h
theorem join_nil : ∀ ys : List (List Nat), TL.joinL [] ys = ys.flatten
  | [] => rfl
  | [p] => by simp [TL.joinL]
  | p :: q :: r => by
    show p ++ ([] ++ TL.joinL [] (q :: r)) = _
    rw [List.nil_append, join_nil (q :: r), List.flatten_cons, List.flatten_cons, List.flatten_cons]
theorem join_signs (l : List Nat) : Txt.join (S []) ((l.map fun c => [c]).map S) = S l := by
  rw [SX.join_S, join_nil]
  congr 1
  induction l with
  | nil => rfl
  | cons c l ih =>
    rw [List.map_cons, List.flatten_cons, ih]
    rfl
theorem sum_signs : ∀ l : List Nat, (((l.map fun c => [c]).map S).map (·.length)).sum = l.length
  | [] => rfl
  | c :: l => by
    have := sum_signs l
    simp only [List.map_cons, List.sum_cons, List.length_cons] at this ⊢
    rw [this]
    show 1 + l.length = _
    omega
theorem sgn_map (l : List Nat) : (l.map fun c => V.str (S [c])) = ((l.map fun c => [c]).map S).map V.str := by
  rw [List.map_map, List.map_map]
  rfl
theorem sameB_new {p D : Addr} {H G : Hp} {o : HO} (s : SameB p H G) (n : H D = none) : SameB p H (upd G D o) := fun b u nb e => by
  rw [upd_ne (ne_of_none e n)]
  exact s b u nb e
theorem Src.put {H : Hp} {p D : Addr} {o : HO} (h : Src H p) (n : D ≠ p) : Src (upd H D o) p := by
  obtain ⟨st, dg, c, e, r⟩ := h.ex
  exact ⟨st, dg, c, by rw [upd_ne (Ne.symm n)]; exact e, r⟩
theorem Src.ne {H : Hp} {p D : Addr} (h : Src H p) (n : H D = none) : D ≠ p := by
  obtain ⟨st, dg, c, e, r⟩ := h.ex
  exact (ne_of_none e n).symm
def sgn (c : Nat) : V := .str (S [c])
theorem str0 : (Str.ofString "0") = S [48] := by decide +kernel
theorem str1 : (Str.ofString "1") = S [49] := by decide +kernel
theorem strE : (Str.ofString "") = S [] := by decide +kernel
theorem sgn_at {l : List Nat} {i : Nat} (h : i < l.length) : atI (l.map sgn) (i : Int) = some (sgn (l.getD i 0)) := atI_nat (by
  rw [List.getElem?_map]
  simp [List.getD, h])
theorem bin_get {l : List Nat} (h : Bin l) {i : Nat} (hi : i < l.length) : l.getD i 0 = 48 ∨ l.getD i 0 = 49 := h _ (by simp [List.getD, hi])
section
variable {P : Program} {w : World} {K : PySem.W.Frag} {mg : Str → Option Value} {base : Heap} {f : Addr} {fd : FuncData}
theorem bits31 {z : Int} (h0 : 0 ≤ z) (h1 : z < 2147483648) : iBits z ≤ 1048576 := Nat.le_trans (PyProof.Rows.intBits_le (k := 31) (by omega)) (by decide)
theorem c_cell (T : Bt mg) (F : FnP K "_law_cell" s_cell f fd) (hm : mg "_law_cell" = some (.ref f)) : Cal P w K mg base 1 "_law_cell" (spCell K) := by
  have hnd := sc_cell.nd
  refine cal_mk F hm sc_cell (fun _ _ _ _ _ _ us hl => match us, hl with | [_, _], _ => rfl) (fun vs H Q E h => ?_) (fun cdv A outer s H vs Q E hr h => ?_)
  · obtain ⟨a, ns, k, rfl, _⟩ := h
    rfl
  · obtain ⟨a, ns, k, rfl, hS, hb, hk, q⟩ := h
    refine ⟨_, (pss_cons (ps_if (pt_cmpR op_lt (pv 1) (pe_callB (show CallR _ (.builtin "len") (rLenQ K) from call_len_seq) (by rfl) T.m_len (by decide +kernel) (pa_cons (pv 0) pa_nil)) (nomark _))
      (pss_one (ps_ret (pe_callTy call_int1 (by rfl) T.m_int (by decide +kernel) (pa_cons (pe_ix (show IxR _ (rIxL K) from ix_list) (pv 0) (pv 1) (fun _ _ => rfl)) pa_nil))))
      pss_nil)
      (pss_cons (ps_set (i := 2) hnd rfl (by first | exact Or.inl rfl | exact Or.inr rfl) (pe_op op_add (pe_op op_add pe_int (pe_op op_mul (pe_op op_mul pe_int (pv 1)) (pv 1))) (pe_op op_mul pe_int (pv 1))))
      (pss_cons (ps_for PassesOwn.never (by rfl) (pi_list (pe_slice sl_list (pv 0) po_none (po_some pe_int))) (pg_name (i := 3) hnd rfl (by first | exact Or.inl rfl | exact Or.inr rfl))
      (pss_one (ps_set (i := 2) hnd rfl (by first | exact Or.inl rfl | exact Or.inr rfl) (pe_op op_mod (pe_callTy call_int1 (by rfl) T.m_int (by decide +kernel) (pa_cons (pe_op op_add (pe_op op_mul (pv 2) pe_int) (pv 3)) pa_nil)) pe_int))))
      (pss_one (ps_ret (pv 2)))))), ?_⟩
    refine ⟨_, rfl, _, rfl, a, _, rfl, .inl hS, _, _, rfl, rfl, _, rfl, ite2 (fun hlt => ?_) (fun hge => ?_)⟩
    · have hl : k < ns.length := by
        have z := of_decide_eq_true hlt
        rw [List.length_map] at z
        omega
      refine ⟨_, rfl, _, rfl, a, _, _, .int (ns[k]), rfl, rfl, hS, atI_nat (by simp [hl]), .inl ⟨_, rfl, ?_⟩⟩
      exact q _ _ (Same.refl _) (hb _ (List.getElem_mem ..))
    · refine ⟨_, rfl, _, _, rfl, rfl, .inl ⟨by decide, by decide⟩, _, rfl, _, _, rfl, rfl, .inr ⟨by omega, by omega⟩, _, _, rfl, rfl, _, rfl, _, _, rfl, rfl, .inl ⟨by decide, by decide⟩, _, _, rfl, rfl, ?_⟩
      refine ⟨_, rfl, _, rfl, a, _, rfl, hS, fun p np => ?_⟩
      have b1 : (0 : Int) ≤ 104729 * k * k := Int.mul_nonneg (Int.mul_nonneg (by omega) (by omega)) (by omega)
      have b2 : (k : Int) * k ≤ 64 * 64 := Int.mul_le_mul (by omega) (by omega) (by omega) (by omega)
      have b3 : 104729 * (k : Int) * k = 104729 * (k * k) := Int.mul_assoc ..
      refine ⟨p, rfl, ⟨_, SqL.of upd_same⟩, for_list (K := K) (a := p) (xs := cutV (ns.map V.int) none (some 4)) (fun i σ H' => ∃ (z : Int) (v : Option V), σ = [some (.ref a), some (.int k), some (.int z), v] ∧ H' = upd H p (.lst (cutV (ns.map V.int) none (some 4))) ∧ 0 ≤ z ∧ z < 2147483648)
        ⟨_, none, rfl, rfl, by omega, by omega⟩ (fun i σ H' _ ⟨_, _, _, e, _⟩ => by rw [e]; exact SqL.of upd_same) ?_ ?_⟩
      · rintro i y σ H' hi ⟨z, v, rfl, rfl, h0, h1⟩
        obtain ⟨u, rfl, hu⟩ : ∃ u, y = V.int u ∧ u ∈ ns := by
          have hm : y ∈ ns.map V.int := List.mem_of_mem_drop (List.mem_of_mem_take (List.mem_of_getElem? hi))
          obtain ⟨u, hu, rfl⟩ := List.mem_map.mp hm
          exact ⟨u, rfl, hu⟩
        refine ⟨_, rfl, _, _, rfl, rfl, .inl ⟨by omega, by omega⟩, _, rfl, _, _, rfl, rfl, .inl ⟨_, rfl, _, _, rfl, rfl, by show (0 : Int) < 2147483629; decide, ?_⟩⟩
        exact ⟨_, _, rfl, rfl, Int.emod_nonneg _ (by decide), Int.lt_trans (Int.emod_lt_of_pos _ (by decide)) (by decide)⟩
      · rintro σ H' ⟨z, v, rfl, rfl, h0, h1⟩
        exact ⟨_, rfl, q _ _ (same_new np) (bits31 h0 h1)⟩
theorem c_source (T : Bt mg) (F : FnP K "_law_source" s_source f fd) (hm : mg "_law_source" = some (.ref f)) : Cal P w K mg base 1 "_law_source" spSource := by
  have hnd := sc_source.nd
  refine cal_mk F hm sc_source (fun _ _ _ _ _ _ us hl => match us, hl with | [_], _ => rfl) (fun vs H Q E h => ?_) (fun cdv A outer s H vs Q E hr h => ?_)
  · obtain ⟨z, rfl, _⟩ := h
    rfl
  · obtain ⟨z, rfl, hb, q⟩ := h
    refine ⟨_, (pss_cons (ps_set (i := 1) hnd rfl (by first | exact Or.inl rfl | exact Or.inr rfl) (pe_ifExp (PW.pt (pw_or (pt_cmpR op_lt (pv 0) pe_int (nomark _)) (pw_or1 (pt_cmpR op_ge (pv 0) (pe_op op_pow pe_int pe_int) (nomark _))))) (pe_callB call_abs (by rfl) T.m_abs (by decide +kernel) (pa_cons (pv 0) pa_nil)) pe_int))
      (pss_one (ps_ret (pe_lst (pa_cons (pe_op op_mod (pe_callTy call_int1 (by rfl) T.m_int (by decide +kernel) (pa_cons (pv 0) pa_nil)) pe_int) (pa_cons (pv 1) (pa_cons pe_int pa_nil))))))), ?_⟩
    refine seqx (fun σ' H' => ∃ dg : Int, σ' = [some (.int z), some (.int dg)] ∧ 0 ≤ dg ∧ H' = H) ?_ fun key => ?_
    · rintro σ' H' ⟨dg, rfl, hd, rfl⟩
      refine ⟨_, rfl, .inl ⟨_, rfl, _, _, rfl, rfl, by show (0 : Int) < 2147483629; decide, _, rfl, by show 3 ≤ sizeLine; decide, fun p np => ?_⟩⟩
      exact q _ _ (same_new np) np ⟨_, _, _, upd_same, Int.emod_nonneg _ (by decide), Int.emod_lt_of_pos _ (by decide), hd⟩
    · refine ⟨_, rfl, _, _, rfl, rfl, _, rfl, ite2 (fun hlt => ?_) (fun hge => ?_)⟩
      · refine ⟨_, rfl, _, rfl, gname_go (key _ _ ⟨_, rfl, ?_, rfl⟩)⟩
        split <;> omega
      · refine ⟨_, rfl, _, _, rfl, rfl, ⟨by decide, by decide, by decide⟩, _, _, rfl, rfl, _, rfl, ite2 (fun hlt => ?_) (fun hge => ?_)⟩
        · refine ⟨_, rfl, _, rfl, gname_go (key _ _ ⟨_, rfl, ?_, rfl⟩)⟩
          split <;> omega
        · exact gname_go (key _ _ ⟨0, rfl, by decide, rfl⟩)
theorem c_draw (T : Bt mg) (F : FnP K "_law_draw" s_draw f fd) (hm : mg "_law_draw" = some (.ref f)) : Cal P w K mg base 1 "_law_draw" spDraw := by
  have hnd := sc_draw.nd
  refine cal_mk F hm sc_draw (fun _ _ _ _ _ _ us hl => match us, hl with | [_, _], _ => rfl) (fun vs H Q E h => ?_) (fun cdv A outer s H vs Q E hr h => ?_)
  · obtain ⟨p, m, rfl, _⟩ := h
    rfl
  · obtain ⟨p, m, rfl, hp, m0, m1, q⟩ := h
    obtain ⟨st, dg, c, e, h0, h1, hd⟩ := hp.ex
    refine ⟨_, (pss_cons (ps_asg (pe_op op_add (pe_ix (show IxR _ (rIxL K) from ix_list) (pv 0) pe_int (fun _ _ => rfl)) pe_int) (pg_sub (pv 0) pe_int set_list))
      (pss_cons (ps_if (pt_cmpR op_gt (pe_ix (show IxR _ (rIxL K) from ix_list) (pv 0) pe_int (fun _ _ => rfl)) pe_int (nomark _))
      (pss_cons (ps_asg (pe_callB call_divmodW (by rfl) T.m_divmod (by decide +kernel) (pa_cons (pe_ix (show IxR _ (rIxL K) from ix_list) (pv 0) pe_int (fun _ _ => rfl)) (pa_cons (pv 1) pa_nil))) (pg_tup (by rfl) (pgs_cons (pg_sub (pv 0) pe_int set_list) (pgs_cons (pg_name (i := 2) hnd rfl (by first | exact Or.inl rfl | exact Or.inr rfl)) pgs_nil))))
      (pss_one (ps_ret (pv 2))))
      pss_nil)
      (pss_cons (ps_set (i := 3) hnd rfl (by first | exact Or.inl rfl | exact Or.inr rfl) (pe_callTy call_int1 (by rfl) T.m_int (by decide +kernel) (pa_cons (pe_ix (show IxR _ (rIxL K) from ix_list) (pv 0) pe_int (fun _ _ => rfl)) pa_nil)))
      (pss_cons (ps_set (i := 3) hnd rfl (by first | exact Or.inl rfl | exact Or.inr rfl) (pe_op op_mod (pe_callTy call_int1 (by rfl) T.m_int (by decide +kernel) (pa_cons (pe_op op_add (pe_op op_add (pe_op op_mul (pv 3) (pe_op op_add (pe_op op_mod (pe_callTy call_int1 (by rfl) T.m_int (by decide +kernel) (pa_cons (pv 3) pa_nil)) pe_int) pe_int)) (pe_op op_mul pe_int (pe_ix (show IxR _ (rIxL K) from ix_list) (pv 0) pe_int (fun _ _ => rfl)))) pe_int) pa_nil)) pe_int))
      (pss_cons (ps_asg (pv 3) (pg_sub (pv 0) pe_int set_list))
      (pss_one (ps_ret (pe_op op_mod (pe_callTy call_int1 (by rfl) T.m_int (by decide +kernel) (pa_cons (pe_op op_fdiv (pv 3) pe_int) pa_nil)) (pv 1))))))))), ?_⟩
    refine ⟨_, rfl, p, _, _, _, rfl, rfl, SqL.of e, rfl, _, _, rfl, rfl, _, rfl, p, _, _, 2, rfl, rfl, e, rfl, ?_⟩
    have e1 : (upd H p (.lst ([V.int st, .int dg, .int c].set 2 (.int (c + 1))))) p = some (.lst [.int st, .int dg, .int (c + 1)]) := upd_same
    have s1 : SameB p H (upd H p (.lst ([V.int st, .int dg, .int c].set 2 (.int (c + 1))))) := SameB.set
    generalize upd H p (.lst ([V.int st, .int dg, .int c].set 2 (.int (c + 1)))) = H1 at e1 s1 ⊢
    refine ⟨_, rfl, p, _, _, _, rfl, rfl, SqL.of e1, rfl, _, _, rfl, rfl, _, rfl, ite2 (fun hgt => ?_) (fun hle => ?_)⟩
    · refine ⟨_, rfl, p, _, _, _, rfl, rfl, SqL.of e1, rfl, _, rfl, _, _, rfl, divp_small m0 m1, fun t nt => ?_⟩
      have npt : p ≠ t := ne_of_none e1 nt
      have e3 := Eq.trans (upd_ne (o := .tup [.int (dg / m), .int (dg % m)]) npt) e1
      refine ⟨t, _, rfl, SqT.of upd_same, rfl, _, _, rfl, ⟨_, rfl, p, _, _, 1, rfl, rfl, e3, rfl, _, _, rfl, rfl, _, rfl, ?_⟩⟩
      refine q _ _ (Int.emod_nonneg _ (by omega)) (Int.emod_lt_of_pos _ m0) (SameB.put fun b o n h => ?_) ⟨_, _, _, upd_same, h0, h1, Int.ediv_nonneg hd (by omega)⟩
      exact same_new nt _ _ (s1 b o n h)
    · refine ⟨_, rfl, p, _, _, _, rfl, rfl, SqL.of e1, rfl, .inl ⟨_, rfl, gname_go ?_⟩⟩
      dsimp only
      have z2 : 0 ≤ st % 40961 + 30047 ∧ st % 40961 + 30047 < 100000 := by omega
      refine ⟨_, rfl, _, rfl, .inl ⟨_, rfl, _, _, rfl, rfl, by show (0 : Int) < 40961; decide, _, _, rfl, rfl, _, _, rfl, rfl, .inl ⟨by omega, by omega⟩, _, rfl, p, _, _, _, rfl, rfl, SqL.of e1, rfl, _, _, rfl, rfl, .inl ⟨by decide, by decide⟩, _, _, rfl, rfl, _, _, rfl, rfl, .inl ⟨_, rfl, _, _, rfl, rfl, by show (0 : Int) < 2147483629; decide, gname_go ?_⟩⟩⟩
      dsimp only
      have z0 := Int.emod_nonneg (st * (st % 40961 + 30047) + 7919 * (c + 1) + 11) (show (2147483629 : Int) ≠ 0 by decide)
      have z1 := Int.emod_lt_of_pos (st * (st % 40961 + 30047) + 7919 * (c + 1) + 11) (show (0 : Int) < 2147483629 by decide)
      generalize (st * (st % 40961 + 30047) + 7919 * (c + 1) + 11) % 2147483629 = st2 at z0 z1 ⊢
      refine ⟨_, rfl, _, rfl, p, _, _, 0, rfl, rfl, e1, rfl, ?_⟩
      refine ⟨_, rfl, _, _, rfl, rfl, ⟨by decide, by decide⟩, .inl ⟨_, rfl, _, rfl, _, _, rfl, rfl, m0, ?_⟩⟩
      exact q _ _ (Int.emod_nonneg _ (by omega)) (Int.emod_lt_of_pos _ m0) (SameB.put s1) ⟨_, _, _, upd_same, z0, z1, hd⟩
theorem c_digit (T : Bt mg) (F : FnP K "_law_digit" s_digit f fd) (hm : mg "_law_digit" = some (.ref f)) : Cal P w K mg base 1 "_law_digit" spDigit := by
  have hnd := sc_digit.nd
  refine cal_mk F hm sc_digit (fun _ _ _ _ _ _ us hl => match us, hl with | [_, _, _], _ => rfl) (fun vs H Q E h => ?_) (fun cdv A outer s H vs Q E hr h => ?_)
  · obtain ⟨h, t, n, rfl, _⟩ := h
    rfl
  · obtain ⟨h, t, n, rfl, lh, lt, ht, q⟩ := h
    refine ⟨_, (pss_one (ps_ret (pe_ifExp (pt_cmpR op_lt (pv 2) (pe_callB call_len_str (by rfl) T.m_len (by decide +kernel) (pa_cons (pv 0) pa_nil)) (nomark _)) (pe_ix ix_str (pv 0) (pv 2) (fun _ _ => rfl)) (pe_ix ix_str (pv 1) (pe_op op_mod (pe_callTy call_int1 (by rfl) T.m_int (by decide +kernel) (pa_cons (pe_op op_sub (pv 2) (pe_callB call_len_str (by rfl) T.m_len (by decide +kernel) (pa_cons (pv 0) pa_nil))) pa_nil)) (pe_callB call_len_str (by rfl) T.m_len (by decide +kernel) (pa_cons (pv 1) pa_nil))) (fun _ _ => rfl))))), ?_⟩
    have sl : ∀ l : List Nat, l.length ≤ 1000 → (S l).length ≤ sizeLine := fun l h => by
      rw [SX.S_len, sizeLine_eq]
      omega
    have tp : 0 < t.length := List.length_pos_iff.mpr ht
    unfold dg at q
    refine ⟨_, rfl, _, rfl, _, rfl, sl h lh, _, _, rfl, rfl, _, rfl, ite2 (fun hlt => ?_) (fun hge => ?_)⟩
    · have hn : n < h.length := by
        have z := of_decide_eq_true hlt
        rw [SX.S_len] at z
        omega
      rw [if_pos hn] at q
      refine ⟨_, rfl, _, rfl, S h, _, h.getD n 0, rfl, rfl, sl h lh, atI_nat ?_, q⟩
      show h[n]? = _
      simp [List.getD, hn]
    · have hn : ¬ n < h.length := fun z => hge (decide_eq_true (by rw [SX.S_len]; omega))
      rw [if_neg hn] at q
      refine ⟨_, rfl, _, rfl, _, rfl, _, rfl, sl h lh, _, _, rfl, rfl, .inl ⟨_, rfl, _, rfl, _, rfl, sl t lt, _, _, rfl, rfl, by rw [SX.S_len]; show (0 : Int) < (t.length : Nat); omega, S t, _, t.getD ((n - h.length) % t.length) 0, rfl, rfl, sl t lt, ?_, q⟩⟩
      have hm : (n - h.length) % t.length < t.length := Nat.mod_lt _ tp
      have e : ((n : Int) - ((S h).length : Nat)) % ((S t).length : Nat) = (((n - h.length) % t.length : Nat) : Int) := by
        rw [SX.S_len, SX.S_len, show (n : Int) - (h.length : Nat) = ((n - h.length : Nat) : Int) by omega]
        rfl
      rw [e]
      refine atI_nat ?_
      show t[(n - h.length) % t.length]? = _
      simp [List.getD, hm]
theorem c_digits (T : Bt mg) (F : FnP K "_law_digits" s_digits f fd) (hm : mg "_law_digits" = some (.ref f)) (k_draw : Cal P w K mg base 1 "_law_draw" spDraw) : Cal P w K mg base 2 "_law_digits" spDigits := by
  have hnd := sc_digits.nd
  refine cal_mk F hm sc_digits (fun _ _ _ _ _ _ us hl => match us, hl with | [_, _], _ => rfl) (fun vs H Q E h => ?_) (fun cdv A outer s H vs Q E hr h => ?_)
  · obtain ⟨p, m, rfl, _⟩ := h
    rfl
  · obtain ⟨p, m, rfl, hp, hm, q⟩ := h
    refine ⟨_, (pss_cons (ps_set (i := 2) hnd rfl (by first | exact Or.inl rfl | exact Or.inr rfl) (pe_ix (show IxR _ (rIxL K) from ix_list) (pe_lst (pa_cons (pv 1) (pa_cons pe_int (pa_cons pe_int (pa_cons pe_int pa_nil))))) (pe_cal k_draw hr (by omega) (by rfl) (pa_cons (pv 0) (pa_cons pe_int pa_nil))) (fun _ _ => rfl)))
      (pss_cons (ps_set (i := 4) hnd rfl (by first | exact Or.inl rfl | exact Or.inr rfl) (pe_lc (own := [("_law_k", 3)]) (tt := tYes) (by rfl) hnd (pi_range1 (by rfl) T.m_range (pa_cons (pe_callB (call_max2 (by rfl)) (by rfl) T.m_max (by decide +kernel) (pa_cons pe_int (pa_cons (pv 2) pa_nil))) pa_nil)) (blkOk_by (own := [("_law_k", 3)]) (N := N_digits) (sc := defScope s_digits) (by decide +kernel)) (fun _ _ _ _ _ => (pg_name (i := 3) hnd rfl (by first | exact Or.inl rfl | exact Or.inr rfl))) (fun _ _ _ _ _ => pts_nil) (fun _ _ _ _ _ => (pe_ix (show IxR _ (rIxL K) from ix_list) (pe_lst (pa_cons pe_str (pa_cons pe_str pa_nil))) (pe_cal k_draw hr (by omega) (by rfl) (pa_cons (pv 0) (pa_cons pe_int pa_nil))) (fun _ _ => rfl)))))
      (pss_one (ps_ret (pe_join pe_str (pe_lc (own := [("_law_k", 3)]) (tt := tYes) (by rfl) hnd (pi_range1 (by rfl) T.m_range (pa_cons (pv 1) pa_nil)) (blkOk_by (own := [("_law_k", 3)]) (N := N_digits) (sc := defScope s_digits) (by decide +kernel)) (fun _ _ _ _ _ => (pg_name (i := 3) hnd rfl (by first | exact Or.inl rfl | exact Or.inr rfl))) (fun _ _ _ _ _ => pts_nil) (fun _ _ _ _ _ => (pe_ix (show IxR _ (rIxL K) from ix_list) (pv 4) (pe_op op_mod (pe_callTy call_int1 (by rfl) T.m_int (by decide +kernel) (pa_cons (pv 3) pa_nil)) (pe_callB (show CallR _ (.builtin "len") (rLenQ K) from call_len_seq) (by rfl) T.m_len (by decide +kernel) (pa_cons (pv 4) pa_nil))) (fun _ _ => rfl))))))))), ?_⟩
    refine ⟨_, rfl, Nat.le_of_ble_eq_true rfl, fun l nl => ⟨_, rfl, p, 4, rfl, hp.same (same_new nl), by decide, by decide, fun d H2 d0 d1 s2 u2 => ?_⟩⟩
    have nlp := hp.ne nl
    have el := s2 _ _ nlp (upd_same (H := H) (a := l))
    obtain ⟨sz, es, hsz⟩ : ∃ sz : Nat, atI [V.int (m : Int), .int 1, .int 2, .int 3] d = some (.int (sz : Int)) ∧ sz ≤ 100 := by
      rcases (show d = 0 ∨ d = 1 ∨ d = 2 ∨ d = 3 by omega) with rfl | rfl | rfl | rfl
      · exact ⟨m, rfl, hm⟩
      · exact ⟨1, rfl, by decide⟩
      · exact ⟨2, rfl, by decide⟩
      · exact ⟨3, rfl, by decide⟩
    refine ⟨l, _, d, .int sz, rfl, rfl, SqL.of el, es, gname_go ?_⟩
    dsimp only
    have sB2 : SameB p H H2 := (SameB.of (same_new nl)).trans s2
    refine ⟨_, rfl, _, _, rfl, _, rfl, ?_⟩
    have hN : 1 ≤ (if (sz : Int) > 1 then (sz : Int) else 1) ∧ (if (sz : Int) > 1 then (sz : Int) else 1) ≤ 100 := by
      split <;> omega
    generalize (if (sz : Int) > 1 then (sz : Int) else 1) = N at hN ⊢
    refine ⟨by omega, by omega, fun D nD => ?_⟩
    have nDp := u2.ne nD
    refine lc_range (fun j G => SameB p H2 G ∧ Src G p ∧ ∃ cs : List Nat, G D = some (.lst (cs.map sgn)) ∧ cs.length = j ∧ Bin cs) ⟨SameB.of (same_new nD), u2.same (same_new nD), [], upd_same, rfl, fun c h => by cases h⟩ ?_ ?_
    · rintro j G hj ⟨sg, ug, cs, eg, lg, bg⟩
      refine ⟨rfl, ?_⟩
      unfold tYes
      dsimp only
      rw [if_pos rfl]
      refine ⟨Nat.le_of_ble_eq_true rfl, fun l2 nl2 => ⟨_, rfl, p, 2, rfl, ug.same (same_new nl2), by decide, by decide, fun d2 G2 d20 d21 s3 u3 => ?_⟩⟩
      have nl2p := ug.ne nl2
      have el2 := s3 _ _ nl2p (upd_same (H := G) (a := l2))
      have egd := s3 _ _ nDp (same_new nl2 _ _ eg)
      have sB3 : SameB p H2 G2 := (sg.trans (SameB.of (same_new nl2))).trans s3
      have fin : ∀ c, c = 48 ∨ c = 49 → ∃ acc, G2 D = some (.lst acc) ∧ acc.length < sizeLine ∧ SameB p H2 (upd G2 D (.lst (acc ++ [V.str (S [c])]))) ∧ Src (upd G2 D (.lst (acc ++ [V.str (S [c])]))) p ∧ ∃ cs : List Nat, (upd G2 D (.lst (acc ++ [V.str (S [c])]))) D = some (.lst (cs.map sgn)) ∧ cs.length = j + 1 ∧ Bin cs := fun c hc =>
        ⟨_, egd, by rw [List.length_map, lg, sizeLine_eq]; omega, sameB_new sB3 nD, u3.put nDp, cs ++ [c], by rw [upd_same, List.map_append]; rfl, by rw [List.length_append, lg]; rfl, fun x hx => by
          rcases List.mem_append.mp hx with hx | hx
          · exact bg x hx
          · rw [List.mem_singleton.mp hx]
            exact hc⟩
      rcases (show d2 = 0 ∨ d2 = 1 by omega) with rfl | rfl
      · exact ⟨l2, _, 0, .str (Str.ofString "0"), rfl, rfl, SqL.of el2, rfl, by rw [str0]; exact fin 48 (.inl rfl)⟩
      · exact ⟨l2, _, 1, .str (Str.ofString "1"), rfl, rfl, SqL.of el2, rfl, by rw [str1]; exact fin 49 (.inr rfl)⟩
    · rintro G ⟨sg, ug, cs, eg, lg, bg⟩
      have cpos : 0 < cs.length := by omega
      refine gname_go ?_
      dsimp only
      refine ⟨⟨_, rfl⟩, _, rfl, (m : Int), rfl, by omega, by omega, fun D2 nD2 => ?_⟩
      refine lc_range (fun j G' => Same G G' ∧ ∃ l : List Nat, G' D2 = some (.lst (l.map sgn)) ∧ l.length = j ∧ Bin l) ⟨same_new nD2, [], upd_same, rfl, fun c h => by cases h⟩ ?_ ?_
      · rintro j G2 hj ⟨s3, l3, e3, h3, b3⟩
        have hj : j < m := by simpa using hj
        refine ⟨rfl, ?_⟩
        unfold tYes
        dsimp only
        rw [if_pos rfl]
        have egs := s3 _ _ eg
        have hmod : j % cs.length < cs.length := Nat.mod_lt _ cpos
        refine ⟨_, rfl, _, rfl, .inl ⟨_, rfl, _, rfl, D, _, rfl, .inl (SqL.of egs), _, _, rfl, rfl, by rw [List.length_map]; show (0 : Int) < (cs.length : Nat); omega, D, _, _, sgn (cs.getD (j % cs.length) 0), rfl, rfl, SqL.of egs, ?_, ?_⟩⟩
        · rw [List.length_map, Int.zero_add]
          exact sgn_at hmod
        · refine ⟨_, e3, by rw [List.length_map, h3, sizeLine_eq]; omega, same_put nD2 s3, l3 ++ [cs.getD (j % cs.length) 0], by rw [upd_same, List.map_append]; rfl, by rw [List.length_append, h3]; rfl, fun x hx => ?_⟩
          rcases List.mem_append.mp hx with hx | hx
          · exact b3 x hx
          · rw [List.mem_singleton.mp hx]
            exact bin_get bg hmod
      · rintro G2 ⟨s3, l3, e3, h3, b3⟩
        rw [Int.toNat_natCast] at h3
        refine ⟨_, D2, (l3.map fun c => [c]).map S, rfl, rfl, .inl (SqL.of (by rw [e3, ← sgn_map]; rfl)), ?_, ?_⟩
        · rw [sum_signs, strE, SX.S_len]
          simp
          omega
        · rw [strE, join_signs]
          exact q l3 G2 h3 b3 ((sB2.trans sg).trans (SameB.of s3)) (ug.same s3)
end
end L2.K53
set_option Elab.async false
set_option linter.all false
set_option maxRecDepth 100000
set_option maxHeartbeats 4000000
/-! C(e, ..) where C stands in a local variable -/
namespace L2.Tb
open PySem PySem.Spec PyProof.Rows
section
variable {X : Cx} {CX : CXT} {k i : Nat} {f C : Addr} {fd : FuncData} {ps : List Str} {sp : Sp} {E : XK} {x : Str} {p pos : Pos} {e : Expr} {es : List Expr} {t : TA} {ds : List Value} {dvs : List V}
def tMakeV (i : Nat) (C : Addr) (sp : Sp) (dvs : List V) (E : XK) (t : TA) : TE := fun σ H Q => σ[i]? = some (some (.ref C)) ∧ tMake C sp dvs E t σ H Q
theorem pe_makeV (M : Mk X.K C f) (F : FnOk X.prog X.w X.K X.mg X.base CX k f fd ps sp) {j : Nat} (hr : Room j X.A) (hj : k + 1 ≤ j) (hN : X.N[i]? = some x) (hv : Vis X.env.scope x) (hb : Binds X.K fd ps ds) (hdv : Vals dvs ds) (hx : Passes CX X E) (ha : PA X (e :: es) t)
    (hd : (x == ("__debug__" : Str)) = false := by decide) (hcd : (x == ("__classdict__" : Str)) = false := by decide)
    (he : starEach (e :: es) X.env = (false, eval e X.env) :: starEach es X.env := by rfl) (hpl : (backTo pos (starEach es X.env)).any (·.1) = false := by rfl) : PE X (.Call (.Name x p) (e :: es) [] pos) (tMakeV i C sp dvs E t) := by
  refine ⟨fun pins s σ H Q I ⟨hs, h⟩ => wpAny_Call_Name_kw (thn ((pe_var (pos := p) (i := i) hN hv hd hcd).run pins s σ H (fun v H1 => v = .ref C ∧ H1 = H) I ⟨.ref C, hs, rfl, rfl⟩) fun u s1 hh => ?_)⟩
  obtain ⟨v, H1, I1, r1, ev, eH⟩ := hh
  subst ev eH
  cases r1
  refine PySem.W.callWith_K (h₀ := X.base) I1.ok.mod.kin M.kp (thn (ha.run pos pins s1 σ H1 _ I1 h) fun us s2 ⟨vs, H2, I2, r, q⟩ => ⟨I2.kIn, ?_⟩) he hpl
  exact run_make M F (hr.mono hj) hb hdv hx I2 r q
end
end L2.Tb
set_option Elab.async false
set_option linter.all false
set_option maxRecDepth 100000
set_option maxHeartbeats 8000000
namespace L2.K53
open PySem PySem.Spec PyProof.Rows L2.Tb
open SX (S)
abbrev s_is_integer : Stmt := top 7
abbrev N_is_integer : List Str := ["value"]
theorem sc_is_integer : FnScope N_is_integer ["value"] (defScope s_is_integer) := ⟨rfl, rfl, rfl, by decide +kernel, rfl, by decide +kernel, by decide +kernel⟩
abbrev s_is_digits : Stmt := top 16
abbrev N_is_digits : List Str := ["value", "digit"]
theorem sc_is_digits : FnScope N_is_digits ["value"] (defScope s_is_digits) := ⟨rfl, rfl, rfl, by decide +kernel, rfl, by decide +kernel, by decide +kernel⟩
abbrev s_root : Stmt := top 17
abbrev N_root : List Str := ["tail", "length"]
theorem sc_root : FnScope N_root ["tail"] (defScope s_root) := ⟨rfl, rfl, rfl, by decide +kernel, rfl, by decide +kernel, by decide +kernel⟩
abbrev s_pshortest : Stmt := top 18
abbrev N_pshortest : List Str := ["head", "tail", "same", "cut"]
theorem sc_pshortest : FnScope N_pshortest ["head", "tail"] (defScope s_pshortest) := ⟨rfl, rfl, rfl, by decide +kernel, rfl, by decide +kernel, by decide +kernel⟩
abbrev s_pdigit : Stmt := top 19
abbrev N_pdigit : List Str := ["lengths", "value", "behind"]
theorem sc_pdigit : FnScope N_pdigit ["lengths", "value"] (defScope s_pdigit) := ⟨rfl, rfl, rfl, by decide +kernel, rfl, by decide +kernel, by decide +kernel⟩
abbrev s_linit : Stmt := inClass (top 15) 0
abbrev N_linit : List Str := ["self", "head", "tail"]
theorem sc_linit : FnScope N_linit ["self", "head", "tail"] (defScope s_linit) := ⟨rfl, rfl, rfl, by decide +kernel, rfl, by decide +kernel, by decide +kernel⟩
abbrev s_lread : Stmt := inClass (top 15) 1
abbrev N_lread : List Str := ["cls", "text", "head", "_", "tail"]
theorem sc_lread : FnScope N_lread ["cls", "text"] (defScope s_lread) := ⟨rfl, rfl, rfl, by decide +kernel, rfl, by decide +kernel, by decide +kernel⟩
abbrev s_lhead : Stmt := inClass (top 15) 2
abbrev N_lhead : List Str := ["self"]
theorem sc_lhead : FnScope N_lhead ["self"] (defScope s_lhead) := ⟨rfl, rfl, rfl, by decide +kernel, rfl, by decide +kernel, by decide +kernel⟩
abbrev s_ltail : Stmt := inClass (top 15) 3
abbrev N_ltail : List Str := ["self"]
theorem sc_ltail : FnScope N_ltail ["self"] (defScope s_ltail) := ⟨rfl, rfl, rfl, by decide +kernel, rfl, by decide +kernel, by decide +kernel⟩
abbrev s_lcont : Stmt := inClass (top 15) 5
abbrev N_lcont : List Str := ["self", "value"]
theorem sc_lcont : FnScope N_lcont ["self", "value"] (defScope s_lcont) := ⟨rfl, rfl, rfl, by decide +kernel, rfl, by decide +kernel, by decide +kernel⟩
abbrev s_lbool : Stmt := inClass (top 15) 10
abbrev N_lbool : List Str := ["self"]
theorem sc_lbool : FnScope N_lbool ["self"] (defScope s_lbool) := ⟨rfl, rfl, rfl, by decide +kernel, rfl, by decide +kernel, by decide +kernel⟩
abbrev s_leq : Stmt := inClass (top 15) 11
abbrev N_leq : List Str := ["self", "other"]
theorem sc_leq : FnScope N_leq ["self", "other"] (defScope s_leq) := ⟨rfl, rfl, rfl, by decide +kernel, rfl, by decide +kernel, by decide +kernel⟩
abbrev s_lstr : Stmt := inClass (top 15) 12
abbrev N_lstr : List Str := ["self"]
theorem sc_lstr : FnScope N_lstr ["self"] (defScope s_lstr) := ⟨rfl, rfl, rfl, by decide +kernel, rfl, by decide +kernel, by decide +kernel⟩
theorem str_ty {K : PySem.W.Frag} {H : Hp} {z : Str} : TyX K H (.str z) (.type "str") := .base (.str z)
theorem str_kit {K : PySem.W.Frag} : PySem.W.kitOne K (.type "str") (.type "str") = some true := rfl
/-- no integer, as is_integer sees it -/
def NoI (K : PySem.W.Frag) (H : Hp) (v : V) : Prop := ∃ Tn : String, TyX K H v (.type Tn) ∧ (kitB Tn "int" = some false ∨ (kitB Tn "int" = some true ∧ kitB Tn "bool" = some true))
def spIsInt (K : PySem.W.Frag) : Sp := fun vs H Q _ => ∃ v : V, vs = [v] ∧ ((∃ i, v = .int i ∧ Q (.bl true) H) ∨ (NoI K H v ∧ Q (.bl false) H))
/-- the class, at the head -/
structure LiF (K : PySem.W.Frag) (w : World) (mg : Str → Option Value) (C dO : Addr) (es : Array DictEntry) (n : Nat) : Prop where
  mgC : mg "Lengths" = some (.ref C)
  cls : Cls K C
  noH : NoAttr K C "_head"
  noT : NoAttr K C "_tail"
  mgO : mg "_OPPOSITE" = some (.ref dO)
  tab : KDict K w dO es n
  inO : ∀ z, ∃ r, PySem.W.nsIn K dO z = some r ∧ r.isSome = (["0", "1"] : List Str).contains z
def lenF (h t : List Nat) : List (Str × V) := [("_head", .str (S h)), ("_tail", .str (S t))]
/-- an instance with these words -/
def LenAt (C : Addr) (H : Hp) (a : Addr) (h t : List Nat) : Prop := ∃ dx, H a = some (.ins C dx (lenF h t))
theorem LenAt.same {C : Addr} {H H' : Hp} {a : Addr} {h t : List Nat} (x : LenAt C H a h t) (s : Same H H') : LenAt C H' a h t := let ⟨dx, e⟩ := x; ⟨dx, s _ _ e⟩
def spIsDigits : Sp := fun vs H Q _ => ∃ l : List Nat, vs = [.str (S l)] ∧ Bin l ∧ l.length ≤ 1000 ∧ ∀ H', Same H H' → Q (.bl true) H'
def rInKd (K : PySem.W.Frag) (d : Addr) : R2 := fun x y H Q => ∃ (z : Str) (r : Option Value), x = .str z ∧ y = .ref d ∧ PySem.W.nsIn K d z = some r ∧ Q (.bl r.isSome) H
def spRoot : Sp := fun vs H Q _ => ∃ t : List Nat, vs = [.str (S t)] ∧ t ≠ [] ∧ t.length ≤ 900 ∧ ∀ d, RootIs t d → Q (.str (S (t.take d))) H
def spPShort : Sp := fun vs H Q _ => ∃ h r : List Nat, vs = [.str (S h), .str (S r)] ∧ r ≠ [] ∧ h.length ≤ 900 ∧ r.length ≤ 900 ∧ ∀ (k : Nat) (T : Addr), ShortIs h r k → H T = none → Q (.ref T) (upd H T (.tup [.str (S (h.take (h.length - k))), .str (S (rotD r (r.length - k % r.length)))]))
theorem bin_one : ∀ c, c = 48 ∨ c = 49 → (["0", "1"] : List Str).contains (S [c]) = true := by
  rintro c (rfl | rfl)
  · decide +kernel
  · decide +kernel
theorem slen {l : List Nat} (h : l.length ≤ 1000) : (S l).length ≤ sizeLine := by
  rw [SX.S_len, sizeLine_eq]
  omega
section
variable {P : Program} {w : World} {K : PySem.W.Frag} {mg : Str → Option Value} {base : Heap} {f : Addr} {fd : FuncData} {C dO : Addr} {es : Array DictEntry} {n : Nat}
theorem c_is_integer (T : Bt mg) (F : FnP K "is_integer" s_is_integer f fd) (hm : mg "is_integer" = some (.ref f)) : Cal P w K mg base 1 "is_integer" (spIsInt K) := by
  have hnd := sc_is_integer.nd
  refine cal_mk F hm sc_is_integer (fun _ _ _ _ _ _ us hl => match us, hl with | [_], _ => rfl) (fun vs H Q E h => ?_) (fun cdv A outer s H vs Q E hr h => ?_)
  · obtain ⟨v, rfl, _⟩ := h
    rfl
  · obtain ⟨v, rfl, h⟩ := h
    refine ⟨_, (pss_one (ps_ret (pe_and (pe_callB call_isi (by rfl) T.m_isinstance (by decide +kernel) (pa_cons (pv 0) (pa_cons (pe_bltn (v := .ty "int") (by rfl) T.m_int (by decide +kernel) rfl) pa_nil))) (pe_one (pe_not (pe_callB call_isi (by rfl) T.m_isinstance (by decide +kernel) (pa_cons (pv 0) (pa_cons (pe_bltn (v := .ty "bool") (by rfl) T.m_bool (by decide +kernel) rfl) pa_nil)))))))), ?_⟩
    rcases h with ⟨i, rfl, q⟩ | ⟨⟨Tn, ty, k⟩, q⟩
    · exact ⟨_, rfl, _, _, _, _, _, rfl, .ty _, .base (.int i), kit_ty (by decide +kernel : kitB "int" "int" = some true), _, rfl, iteT ⟨_, rfl, _, _, _, _, _, rfl, .ty _, .base (.int i), kit_ty (by decide +kernel : kitB "int" "bool" = some false), _, rfl, q⟩⟩
    · rcases k with k | ⟨k1, k2⟩
      · exact ⟨_, rfl, _, _, _, _, _, rfl, .ty _, ty, kit_ty k, _, rfl, iteF q⟩
      · exact ⟨_, rfl, _, _, _, _, _, rfl, .ty _, ty, kit_ty k1, _, rfl, iteT ⟨_, rfl, _, _, _, _, _, rfl, .ty _, ty, kit_ty k2, _, rfl, q⟩⟩
theorem c_is_digits (T : Bt mg) (mstr : mg "str" = none) (LF : LiF K w mg C dO es n) (F : FnP K "_is_digits" s_is_digits f fd) (hm : mg "_is_digits" = some (.ref f)) : Cal P w K mg base 1 "_is_digits" spIsDigits := by
  have hnd := sc_is_digits.nd
  refine cal_mk F hm sc_is_digits (fun _ _ _ _ _ _ us hl => match us, hl with | [_], _ => rfl) (fun vs H Q E h => ?_) (fun cdv A outer s H vs Q E hr h => ?_)
  · obtain ⟨l, rfl, _⟩ := h
    rfl
  · obtain ⟨l, rfl, hb, hl, q⟩ := h
    refine ⟨_, (pss_one (ps_ret (pe_and (pe_callB call_isi (by rfl) T.m_isinstance (by decide +kernel) (pa_cons (pv 0) (pa_cons (pe_bltn (v := .ty "str") (by rfl) mstr (by decide +kernel) rfl) pa_nil))) (pe_one (pe_callB (cr_all (by rfl)) (by rfl) T.m_all (by decide +kernel) (pa_cons (pe_lc (own := [("digit", 1)]) (tt := tYes) (by rfl) hnd (pi_str (pv 0)) (blkOk_by (own := [("digit", 1)]) (N := N_is_digits) (sc := defScope s_is_digits) (by decide +kernel)) (fun _ _ _ _ _ => (pg_name (i := 1) hnd rfl (by first | exact Or.inl rfl | exact Or.inr rfl))) (fun _ _ _ _ _ => pts_nil) (fun _ _ _ _ _ => (pe_cmpR (show OpR _ (compareOp .In) (rInKd K dO) from op_in_kd LF.tab) (pv 1) (pe_glob (v := .ref dO) (by rfl) LF.mgO rfl) (by rfl)))) pa_nil)))))), ?_⟩
    refine ⟨_, rfl, _, _, _, _, _, rfl, .ty _, str_ty, str_kit, _, rfl, iteT (cb_one ⟨_, rfl, S l, rfl, fun D nD => ?_⟩)⟩
    refine lc_it walk_str (fun i G => Same H G ∧ G D = some (.lst (List.replicate i (.bl true)))) ⟨same_new nD, upd_same⟩ (fun _ _ _ _ => trivial) ?_ ?_
    · rintro i x G G' hi ⟨sg, eg⟩ ⟨rfl, c, hc, rfl⟩
      have hc' : l[i]? = some c := by simpa using hc
      have li : i < l.length := (List.getElem?_eq_some_iff.mp hc').1
      have bc := hb c (List.mem_of_getElem? hc')
      obtain ⟨r, e, hr2⟩ := LF.inO (S [c])
      refine ⟨rfl, ?_⟩
      unfold tYes
      dsimp only
      rw [if_pos rfl]
      refine ⟨_, rfl, S [c], r, rfl, rfl, e, ?_⟩
      rw [hr2, bin_one c bc]
      exact ⟨_, eg, by rw [List.length_replicate, sizeLine_eq]; omega, same_put nD sg, by rw [upd_same, List.replicate_succ']⟩
    · rintro G ⟨sg, eg⟩
      refine ⟨D, List.replicate _ true, rfl, SqL.of (by rw [eg, List.map_replicate]), ?_⟩
      rw [show (List.replicate (S l).cps.size true).all id = true from List.all_eq_true.mpr fun b' hb' => by rw [List.eq_of_mem_replicate hb']; rfl]
      exact q G sg
theorem c_root (T : Bt mg) (F : FnP K "_root" s_root f fd) (hm : mg "_root" = some (.ref f)) : Cal P w K mg base 1 "_root" spRoot := by
  have hnd := sc_root.nd
  refine cal_mk F hm sc_root (fun _ _ _ _ _ _ us hl => match us, hl with | [_], _ => rfl) (fun vs H Q E h => ?_) (fun cdv A outer s H vs Q E hr h => ?_)
  · obtain ⟨t, rfl, _⟩ := h
    rfl
  · obtain ⟨t, rfl, ht, hl, q⟩ := h
    refine ⟨_, (pss_cons (ps_for PassesOwn.never (by rfl) (pi_range2 (by rfl) T.m_range (pa_cons pe_int (pa_cons (pe_callB call_len_str (by rfl) T.m_len (by decide +kernel) (pa_cons (pv 0) pa_nil)) pa_nil))) (pg_name (i := 1) hnd rfl (by first | exact Or.inl rfl | exact Or.inr rfl))
      (pss_one (ps_if (PW.pt (pw_and (pt_cmpR op_eq (pe_op op_mod (pe_callB call_len_str (by rfl) T.m_len (by decide +kernel) (pa_cons (pv 0) pa_nil)) (pv 1)) pe_int (nomark _)) (pw_and1 (pt_cmpR op_eq (pv 0) (pe_op op_mulS (pe_slice C8.sl_txt (pv 0) po_none (po_some (pv 1))) (pe_op op_fdivN (pe_callB call_len_str (by rfl) T.m_len (by decide +kernel) (pa_cons (pv 0) pa_nil)) (pv 1))) (nomark _)))))
      (pss_one (ps_ret (pe_slice C8.sl_txt (pv 0) po_none (po_some (pv 1)))))
      pss_nil)))
      (pss_one (ps_ret (pv 0)))), ?_⟩
    have tp : 0 < t.length := List.length_pos_iff.mpr ht
    have sl := slen (l := t) (by omega)
    refine ⟨_, rfl, _, rfl, sl, 1, ((S t).length : Nat), rfl, ⟨by decide, by decide, by rw [SX.S_len]; omega, by rw [SX.S_len]; omega⟩, ?_⟩
    have rootEnd : (∀ e, 1 ≤ e → e < t.length → t.length % e = 0 → t ≠ (List.replicate (t.length / e) (t.take e)).flatten) → RootIs t t.length := fun hmin =>
      ⟨by omega, Nat.le_refl _, Nat.mod_self _, by rw [Nat.div_self tp, List.take_length]; simp, hmin⟩
    refine for_range (lo := 1) (fun i σ' G => G = H ∧ (∃ x1, σ' = [some (.str (S t)), x1]) ∧ ∀ e, 1 ≤ e → e < 1 + i → t.length % e = 0 → t ≠ (List.replicate (t.length / e) (t.take e)).flatten) ⟨rfl, ⟨_, rfl⟩, fun e h1 h2 => by omega⟩ ?_ ?_
    · rintro i σ' G hi ⟨rfl, ⟨x1, rfl⟩, hmin⟩
      have hi : 1 + i < t.length := by
        have := SX.S_len t
        omega
      have ez : (1 : Int) + (i : Nat) = ((1 + i : Nat) : Int) := by omega
      rw [ez]
      have hnx : ∀ x : Nat, 1 + (i + 1) = x → x = 1 + i + 1 := fun x h => by omega
      rw [show 1 + (i + 1) = 1 + i + 1 by omega]
      have d1 : 1 ≤ 1 + i := by omega
      generalize 1 + i = d at hi hmin d1 ⊢
      refine gname_go ?_
      try dsimp only
      have sli : Txt.slice (S t) none (some (d : Int)) = S (t.take d) := by
        have := SX.slice_to (a := t) (i := (d : Int)) (by omega)
        rwa [Int.toNat_natCast] at this
      refine ⟨_, rfl, _, rfl, sl, _, rfl, _, _, rfl, rfl, by show (0 : Int) < (d : Nat); omega, rfl, _, rfl, ?_⟩
      rw [SX.S_len]
      have em : ((t.length : Nat) : Int) % ((d : Nat) : Int) = ((t.length % d : Nat) : Int) := rfl
      by_cases c : t.length % d = 0
      · rw [show decide (V.int (((t.length : Nat) : Int) % ((d : Nat) : Int)) = V.int 0) = true from decide_eq_true (by rw [em, c]; rfl)]
        have q1 : t.length / d ≤ t.length := Nat.div_le_self _ _
        have q2 : 1 ≤ t.length / d := (Nat.le_div_iff_mul_le d1).mpr (by omega)
        have dn : d ≠ 0 := by omega
        refine iteT ⟨_, rfl, _, rfl, _, rfl, d, rfl, S t, rfl, sl, _, rfl, _, rfl, sl, _, rfl, _, _, rfl, rfl, ⟨by omega, by omega⟩, S (t.take d), t.length / d, by rw [sli], ?_, q2, ?_, by omega, ?_, rfl, _, rfl, ?_⟩
        · rw [SX.S_len]
          show V.int _ = V.int _
          congr 1
          rw [Int.fdiv_eq_ediv_of_nonneg _ (by omega)]
          rfl
        · rw [SX.S_len, take_len (show d ≤ t.length by omega)]
          omega
        · rw [SX.S_len, take_len (show d ≤ t.length by omega)]
          omega
        · show if decide (V.str (S t) = V.str (S (List.replicate (t.length / d) (t.take d)).flatten)) = true then _ else _
          by_cases c2 : t = (List.replicate (t.length / d) (t.take d)).flatten
          · rw [decide_eq_true (congrArg (fun l => V.str (S l)) c2)]
            refine iteT ⟨_, rfl, _, rfl, d, rfl, S t, rfl, sl, ?_⟩
            rw [sli]
            exact q d ⟨d1, by omega, c, c2, hmin⟩
          · rw [decide_eq_false (fun z => c2 (by injection z with z; exact SX.S_inj z))]
            refine iteF ⟨rfl, ⟨_, rfl⟩, fun e h1 h2 h3 => ?_⟩
            by_cases e1 : e < d
            · exact hmin e h1 e1 h3
            · have : e = d := by omega
              subst this
              exact c2
      · rw [show decide (V.int (((t.length : Nat) : Int) % ((d : Nat) : Int)) = V.int 0) = false from decide_eq_false (fun z => c (by injection z with z; rw [em] at z; omega))]
        refine iteF (iteF ⟨rfl, ⟨_, rfl⟩, fun e h1 h2 h3 => ?_⟩)
        by_cases e1 : e < d
        · exact hmin e h1 e1 h3
        · have : e = d := by omega
          subst this
          exact absurd h3 c
    · rintro σ' G ⟨rfl, ⟨x1, rfl⟩, hmin⟩
      refine ⟨_, rfl, ?_⟩
      have := q _ (rootEnd fun e h1 h2 => hmin e h1 (by rw [SX.S_len]; omega))
      rwa [List.take_length] at this
theorem c_pshortest (T : Bt mg) (F : FnP K "_shortest" s_pshortest f fd) (hm : mg "_shortest" = some (.ref f)) : Cal P w K mg base 1 "_shortest" spPShort := by
  have hnd := sc_pshortest.nd
  refine cal_mk F hm sc_pshortest (fun _ _ _ _ _ _ us hl => match us, hl with | [_, _], _ => rfl) (fun vs H Q E h => ?_) (fun cdv A outer s H vs Q E hr h => ?_)
  · obtain ⟨h, r, rfl, _⟩ := h
    rfl
  · obtain ⟨h, r, rfl, hr0, lh, lr, q⟩ := h
    refine ⟨_, (pss_cons (ps_set (i := 2) hnd rfl (by first | exact Or.inl rfl | exact Or.inr rfl) pe_int)
      (pss_cons (ps_while PassesOwn.never (PW.pt (pw_and (pt_cmpR op_lt (pv 2) (pe_callB call_len_str (by rfl) T.m_len (by decide +kernel) (pa_cons (pv 0) pa_nil)) (nomark _)) (pw_and1 (pt_cmpR op_eq (pe_ix ix_str (pv 0) (pe_op op_sub (pe_op op_sub (pe_callB call_len_str (by rfl) T.m_len (by decide +kernel) (pa_cons (pv 0) pa_nil)) pe_int) (pv 2)) (fun _ _ => rfl)) (pe_ix ix_str (pv 1) (pe_op op_sub (pe_op op_sub (pe_callB call_len_str (by rfl) T.m_len (by decide +kernel) (pa_cons (pv 1) pa_nil)) pe_int) (pe_op op_mod (pv 2) (pe_callB call_len_str (by rfl) T.m_len (by decide +kernel) (pa_cons (pv 1) pa_nil)))) (fun _ _ => rfl)) (nomark _)))))
      (pss_one (ps_aug (i := 2) hnd rfl (by first | exact Or.inl rfl | exact Or.inr rfl) pe_int ip_add)))
      (pss_cons (ps_set (i := 3) hnd rfl (by first | exact Or.inl rfl | exact Or.inr rfl) (pe_op op_sub (pe_callB call_len_str (by rfl) T.m_len (by decide +kernel) (pa_cons (pv 1) pa_nil)) (pe_op op_mod (pv 2) (pe_callB call_len_str (by rfl) T.m_len (by decide +kernel) (pa_cons (pv 1) pa_nil)))))
      (pss_one (ps_ret (pe_tup (pa_cons (pe_slice C8.sl_txt (pv 0) po_none (po_some (pe_op op_sub (pe_callB call_len_str (by rfl) T.m_len (by decide +kernel) (pa_cons (pv 0) pa_nil)) (pv 2)))) (pa_cons (pe_op op_add_str (pe_slice C8.sl_txt (pv 1) (po_some (pv 3)) po_none) (pe_slice C8.sl_txt (pv 1) po_none (po_some (pv 3)))) pa_nil)))))))), ?_⟩
    have rp : 0 < r.length := List.length_pos_iff.mpr hr0
    have slh := slen (l := h) (by omega)
    have slr := slen (l := r) (by omega)
    refine gname_go ?_
    try dsimp only
    refine seqx (fun σ' G => G = H ∧ ∃ k : Nat, σ' = [some (.str (S h)), some (.str (S r)), some (.int (k : Int)), none] ∧ ShortIs h r k) ?_ fun key => ?_
    · rintro σ' G ⟨rfl, k, rfl, sh⟩
      have kl := sh.kl
      have km : k % r.length < r.length := Nat.mod_lt _ rp
      have e1 : ((S r).length : Int) - ((k : Int) % ((S r).length : Nat)) = ((r.length - k % r.length : Nat) : Int) := by
        rw [SX.S_len, show (k : Int) % ((r.length : Nat) : Int) = ((k % r.length : Nat) : Int) from rfl]
        omega
      have e2 : ((S h).length : Int) - (k : Int) = ((h.length - k : Nat) : Int) := by
        rw [SX.S_len]
        omega
      have s1 : ∀ c : Nat, Txt.slice (S r) (some (c : Int)) none = S (r.drop c) := fun c => by
        have := SX.slice_from (a := r) (i := (c : Int)) (by omega)
        rwa [Int.toNat_natCast] at this
      have s2 : ∀ (l : List Nat) (c : Nat), Txt.slice (S l) none (some (c : Int)) = S (l.take c) := fun l c => by
        have := SX.slice_to (a := l) (i := (c : Int)) (by omega)
        rwa [Int.toNat_natCast] at this
      refine ⟨_, rfl, _, rfl, slr, _, rfl, _, rfl, _, rfl, slr, _, _, rfl, rfl, by rw [SX.S_len]; show (0 : Int) < (r.length : Nat); omega, _, _, rfl, rfl, gname_go ?_⟩
      dsimp only
      rw [e1]
      generalize hc : r.length - k % r.length = c
      refine ⟨_, rfl, _, rfl, _, rfl, slh, _, rfl, _, _, rfl, rfl, _, rfl, S h, rfl, slh, _, rfl, _, rfl, _, rfl, S r, rfl, slr, _, rfl, _, rfl, _, rfl, S r, rfl, slr, _, _, rfl, rfl, ?_, Nat.le_of_ble_eq_true rfl, fun T nT => ?_⟩
      · rw [s1, s2, SX.S_len, SX.S_len, List.length_drop, List.length_take, sizeLine_eq]
        omega
      · rw [e2, s1, s2, s2, SX.S_cat, ← hc]
        exact q k T sh nT
    refine ⟨fun m σ' G => G = H ∧ ∃ k : Nat, σ' = [some (.str (S h)), some (.str (S r)), some (.int (k : Int)), none] ∧ k ≤ h.length ∧ m = h.length - k ∧ ∀ j, j < k → h.getD (h.length - 1 - j) 0 = r.getD (r.length - 1 - j % r.length) 0, ⟨h.length, rfl, 0, rfl, Nat.zero_le _, rfl, fun j hj => by omega⟩, ?_⟩
    rintro m σ' G ⟨rfl, k, rfl, hk, rfl, he⟩
    have km : k % r.length < r.length := Nat.mod_lt _ rp
    refine ⟨_, rfl, _, rfl, _, rfl, slh, _, _, rfl, rfl, _, rfl, ?_⟩
    rw [SX.S_len]
    by_cases c : k < h.length
    · rw [show decide ((k : Int) < ((h.length : Nat) : Int)) = true from decide_eq_true (by omega)]
      refine iteT ⟨_, rfl, _, rfl, _, rfl, slh, _, _, rfl, rfl, _, rfl, _, _, rfl, rfl, S h, _, h.getD (h.length - 1 - k) 0, rfl, rfl, slh, ?_, _, rfl, _, rfl, _, rfl, slr, _, _, rfl, rfl, _, rfl, _, rfl, _, rfl, slr, _, _, rfl, rfl, by rw [SX.S_len]; show (0 : Int) < (r.length : Nat); omega, _, _, rfl, rfl, S r, _, r.getD (r.length - 1 - k % r.length) 0, rfl, rfl, slr, ?_, rfl, _, rfl, ?_⟩
      · rw [SX.S_len, show ((h.length : Nat) : Int) - 1 - (k : Int) = ((h.length - 1 - k : Nat) : Int) by omega]
        refine atI_nat ?_
        show h[h.length - 1 - k]? = _
        simp [List.getD, show h.length - 1 - k < h.length by omega]
      · rw [SX.S_len, show (k : Int) % ((r.length : Nat) : Int) = ((k % r.length : Nat) : Int) from rfl, show ((r.length : Nat) : Int) - 1 - ((k % r.length : Nat) : Int) = ((r.length - 1 - k % r.length : Nat) : Int) by omega]
        refine atI_nat ?_
        show r[r.length - 1 - k % r.length]? = _
        simp [List.getD, show r.length - 1 - k % r.length < r.length by omega]
      · by_cases c2 : h.getD (h.length - 1 - k) 0 = r.getD (r.length - 1 - k % r.length) 0
        · rw [c2, decide_eq_true rfl]
          refine iteT ⟨fun σ' G' => ∃ m', m' < h.length - k ∧ (G' = G ∧ ∃ k : Nat, σ' = [some (.str (S h)), some (.str (S r)), some (.int (k : Int)), none] ∧ k ≤ h.length ∧ m' = h.length - k ∧ ∀ j, j < k → h.getD (h.length - 1 - j) 0 = r.getD (r.length - 1 - j % r.length) 0), fun _ _ z => z, ⟨_, rfl, _, _, rfl, rfl, h.length - (k + 1), by omega, rfl, k + 1, rfl, by omega, rfl, fun j hj => ?_⟩⟩
          by_cases c3 : j < k
          · exact he j c3
          · rw [show j = k by omega]
            exact c2
        · rw [decide_eq_false (fun z => c2 (by injection z with z; injection z with z; simpa using z))]
          exact iteF (key _ _ ⟨rfl, k, rfl, hk, he, .inr c2⟩)
    · rw [show decide ((k : Int) < ((h.length : Nat) : Int)) = false from decide_eq_false (by omega)]
      exact iteF (iteF (key _ _ ⟨rfl, k, rfl, hk, he, .inl (by omega)⟩))
end
end L2.K53
set_option Elab.async false
set_option linter.all false
set_option maxRecDepth 100000
set_option maxHeartbeats 8000000
namespace L2.K53
open PySem PySem.Spec PyProof.Rows L2.Tb
open SX (S)
theorem strO : (Str.ofString "(") = S [40] := by decide +kernel
theorem strCl : (Str.ofString ")") = S [41] := by decide +kernel
theorem emptyS : Str.empty = S [] := by decide +kernel
theorem ends_snoc (a : List Nat) (c : Nat) : Txt.endswith (S (a ++ [c])) (S [c]) = true := by
  unfold Txt.endswith
  rw [StrLaws.subAt_eq, SX.S_len, SX.S_len]
  simp
def txt (h t : List Nat) : List Nat := h ++ [40] ++ t ++ [41]
/-- what a made instance is -/
structure Word (u : Nat → Nat) (h t : List Nat) : Prop where
  can : CanonOf u h t
  bh : Bin h
  bt : Bin t
  lh : h.length ≤ 900
  lt : t.length ≤ 900
theorem Word.ne {u : Nat → Nat} {h t : List Nat} (w : Word u h t) : t ≠ [] := w.can.ne
def spLinit (C : Addr) : Sp := fun vs H Q _ => ∃ (a dx : Addr) (h t : List Nat), vs = [.ref a, .str (S h), .str (S t)] ∧ H a = some (.ins C dx []) ∧ Bin h ∧ Bin t ∧ t ≠ [] ∧ h.length ≤ 900 ∧ t.length ≤ 900 ∧
  ∀ h' t' H', Word (dg h t) h' t' → (∀ b o, b ≠ a → H b = some o → H' b = some o) → LenAt C H' a h' t' → Q .non H'
def spLhead (C : Addr) : Sp := fun vs H Q _ => ∃ (a : Addr) (h t : List Nat), vs = [.ref a] ∧ LenAt C H a h t ∧ Q (.str (S h)) H
def spLtail (C : Addr) : Sp := fun vs H Q _ => ∃ (a : Addr) (h t : List Nat), vs = [.ref a] ∧ LenAt C H a h t ∧ Q (.str (S t)) H
def spPDigit (C : Addr) : Sp := fun vs H Q _ => ∃ (a : Addr) (h t : List Nat) (v : Int), vs = [.ref a, .int v] ∧ LenAt C H a h t ∧ t ≠ [] ∧ h.length ≤ 900 ∧ t.length ≤ 900 ∧ 1 ≤ v ∧ Q (.str (S [dg h t (v - 1).toNat])) H
def spLcont (K : PySem.W.Frag) (C : Addr) : Sp := fun vs H Q _ => ∃ (a : Addr) (h t : List Nat) (v : V), vs = [.ref a, v] ∧ LenAt C H a h t ∧ t ≠ [] ∧ h.length ≤ 900 ∧ t.length ≤ 900 ∧
  ((∃ i, v = .int i ∧ Q (.bl (decide (1 ≤ i) && decide (dg h t (i - 1).toNat = 49))) H) ∨ (NoI K H v ∧ Q (.bl false) H))
def spLbool (C : Addr) : Sp := fun vs H Q _ => ∃ (a : Addr) (h t : List Nat), vs = [.ref a] ∧ LenAt C H a h t ∧ Q (.bl (decide (49 ∈ h ++ t))) H
def spLstr (C : Addr) : Sp := fun vs H Q _ => ∃ (a : Addr) (h t : List Nat), vs = [.ref a] ∧ LenAt C H a h t ∧ h.length ≤ 900 ∧ t.length ≤ 900 ∧ Q (.str (S (txt h t))) H
def spLeq (K : PySem.W.Frag) (C : Addr) : Sp := fun vs H Q _ => ∃ (a : Addr) (h t : List Nat) (y : V), vs = [.ref a, y] ∧ LenAt C H a h t ∧
  ((∃ (c : Addr) (h2 t2 : List Nat), y = .ref c ∧ LenAt C H c h2 t2 ∧ Q (.bl (decide (h = h2) && decide (t = t2))) H) ∨ (∃ t, TyX K H y t ∧ PySem.W.kitOne K t (.ref C) = some false ∧ Q (.bl false) H))
def spLread (C : Addr) : Sp := fun vs H Q _ => ∃ h t : List Nat, vs = [.ref C, .str (S (txt h t))] ∧ Bin h ∧ Bin t ∧ t ≠ [] ∧ h.length ≤ 900 ∧ t.length ≤ 900 ∧
  ∀ h' t' a H', Word (dg h t) h' t' → Same H H' → H a = none → LenAt C H' a h' t' → Q (.ref a) H'
theorem bin_take {l : List Nat} (h : Bin l) (k : Nat) : Bin (l.take k) := fun c hc => h c (List.mem_of_mem_take hc)
theorem bin_rot {l : List Nat} (h : Bin l) (k : Nat) : Bin (rotD l k) := fun c hc => by
  unfold rotD at hc
  rcases List.mem_append.mp hc with hc | hc
  · exact h c (List.mem_of_mem_drop hc)
  · exact h c (List.mem_of_mem_take hc)
structure LiG (K : PySem.W.Frag) (C : Addr) : Prop where
  ex : InsC K C
  self : PySem.W.kitOne K (.ref C) (.ref C) = some true
section
variable {P : Program} {w : World} {K : PySem.W.Frag} {mg : Str → Option Value} {base : Heap} {f fi : Addr} {fd fdi : FuncData} {C dO : Addr} {es : Array DictEntry} {n : Nat}
theorem c_linit (T : Bt mg) (LF : LiF K w mg C dO es n) (k_is_digits : Cal P w K mg base 1 "_is_digits" spIsDigits) (k_root : Cal P w K mg base 1 "_root" spRoot) (k_pshortest : Cal P w K mg base 1 "_shortest" spPShort) (F : FunD K "__init__" "Lengths.__init__" (defArgs s_linit) (defBody s_linit) (defScope s_linit) [] [] f fd) :
    FnOk P w K mg base (L2.CX P w) 2 f fd ["self", "head", "tail"] (spLinit C) := by
  have hnd := sc_linit.nd
  refine F.ok sc_linit (fun vs H Q E h => ?_) (fun cdv A outer s H vs Q E hr h => ?_)
  · obtain ⟨a, dx, h, t, rfl, _⟩ := h
    rfl
  · obtain ⟨a, dx, h, t, rfl, ea, bh, bt, ht, lh, lt, q⟩ := h
    refine ⟨_, (pss_cons (ps_if (pt_not (pt_val (pe_cal k_is_digits hr (by omega) (by rfl) (pa_cons (pv 1) pa_nil))))
      (pss_one ps_never)
      pss_nil)
      (pss_cons (ps_if (PW.pt (pw_or (pt_not (pt_val (pe_cal k_is_digits hr (by omega) (by rfl) (pa_cons (pv 2) pa_nil)))) (pw_or1 (pt_cmpR op_eq (pv 2) pe_str (nomark _)))))
      (pss_one ps_never)
      pss_nil)
      (pss_one (ps_asg (pe_cal k_pshortest hr (by omega) (by rfl) (pa_cons (pv 1) (pa_cons (pe_cal k_root hr (by omega) (by rfl) (pa_cons (pv 2) pa_nil)) pa_nil))) (pg_tup (by rfl) (pgs_cons (pg_fld (pv 0)) (pgs_cons (pg_fld (pv 0)) pgs_nil))))))), ?_⟩
    refine ⟨_, rfl, h, rfl, bh, by omega, fun G1 s1 => ⟨_, rfl, iteF ?_⟩⟩
    dsimp only [tNext]
    refine ⟨_, rfl, t, rfl, bt, by omega, fun G2 s2 => ⟨_, rfl, iteF ⟨_, rfl, rfl, _, rfl, ?_⟩⟩⟩
    rw [strE, decide_eq_false (fun z => ht (by injection z with z; exact SX.S_inj z))]
    refine iteF ?_
    dsimp only [tNext]
    have tp : 0 < t.length := List.length_pos_iff.mpr ht
    refine ⟨_, rfl, _, rfl, t, rfl, ht, lt, fun d R => ⟨h, t.take d, rfl, ?_, lh, ?_, fun k T0 sh nT => ?_⟩⟩
    · intro z
      have := congrArg List.length z
      have d1 := R.d1
      rw [take_len R.dl, List.length_nil] at this
      omega
    · rw [take_len R.dl]
      have := R.dl
      omega
    · have ld := take_len R.dl
      have dl := R.dl
      rw [ld]
      have ea2 := s2 _ _ (s1 _ _ ea)
      have na := ne_of_none ea2 nT
      have sT := same_new (o := .tup [.str (S (h.take (h.length - k))), .str (S (rotD (t.take d) (d - k % d)))]) nT
      have ea3 := sT _ _ ea2
      have eT := upd_same (H := G2) (a := T0) (o := .tup [.str (S (h.take (h.length - k))), .str (S (rotD (t.take d) (d - k % d)))])
      generalize upd G2 T0 (.tup [.str (S (h.take (h.length - k))), .str (S (rotD (t.take d) (d - k % d)))]) = G3 at sT ea3 eT ⊢
      refine ⟨T0, _, rfl, SqT.of eT, rfl, _, _, rfl, _, rfl, a, C, dx, [], rfl, ea3, LF.cls, LF.noH, by decide, _, _, rfl, _, rfl, a, C, dx, _, rfl, upd_same, LF.cls, LF.noT, Nat.le_of_ble_eq_true rfl, rfl, ?_⟩
      refine q (h.take (h.length - k)) (rotD (t.take d) (d - k % d)) _ ⟨canon_made R sh, bin_take bh _, bin_rot (bin_take bt _) _, ?_, ?_⟩ (fun b o nb e => ?_) ⟨dx, upd_same⟩
      · rw [List.length_take]
        omega
      · rw [rot_len (by rw [ld]; omega), ld]
        omega
      · rw [upd_ne nb, upd_ne nb]
        exact sT _ _ (s2 _ _ (s1 _ _ e))
theorem c_lhead (LF : LiF K w mg C dO es n) (F : FunD K "head" "Lengths.head" (defArgs s_lhead) (defBody s_lhead) (defScope s_lhead) [] [] f fd) : FnOk P w K mg base L2.CX0 1 f fd ["self"] (spLhead C) := by
  have hnd := sc_lhead.nd
  refine F.ok sc_lhead (fun vs H Q E h => ?_) (fun cdv A outer s H vs Q E hr h => ?_)
  · obtain ⟨a, h, t, rfl, _⟩ := h
    rfl
  · obtain ⟨a, h, t, rfl, ⟨dx, e⟩, q⟩ := h
    exact ⟨_, (pss_one (ps_ret (pe_fld (pv 0) (by rfl)))), _, rfl, a, C, dx, _, _, rfl, e, LF.cls, LF.noH, rfl, q⟩
theorem c_ltail (LF : LiF K w mg C dO es n) (F : FunD K "tail" "Lengths.tail" (defArgs s_ltail) (defBody s_ltail) (defScope s_ltail) [] [] f fd) : FnOk P w K mg base L2.CX0 1 f fd ["self"] (spLtail C) := by
  have hnd := sc_ltail.nd
  refine F.ok sc_ltail (fun vs H Q E h => ?_) (fun cdv A outer s H vs Q E hr h => ?_)
  · obtain ⟨a, h, t, rfl, _⟩ := h
    rfl
  · obtain ⟨a, h, t, rfl, ⟨dx, e⟩, q⟩ := h
    exact ⟨_, (pss_one (ps_ret (pe_fld (pv 0) (by rfl)))), _, rfl, a, C, dx, _, _, rfl, e, LF.cls, LF.noT, rfl, q⟩
theorem c_lbool (LF : LiF K w mg C dO es n) (F : FunD K "__bool__" "Lengths.__bool__" (defArgs s_lbool) (defBody s_lbool) (defScope s_lbool) [] [] f fd) : FnOk P w K mg base L2.CX0 1 f fd ["self"] (spLbool C) := by
  have hnd := sc_lbool.nd
  refine F.ok sc_lbool (fun vs H Q E h => ?_) (fun cdv A outer s H vs Q E hr h => ?_)
  · obtain ⟨a, h, t, rfl, _⟩ := h
    rfl
  · obtain ⟨a, h, t, rfl, ⟨dx, e⟩, q⟩ := h
    refine ⟨_, (pss_one (ps_ret (pe_or (pe_cmpR op_in_sign pe_str (pe_fld (pv 0) (by rfl)) (by rfl)) (pe_one (pe_cmpR op_in_sign pe_str (pe_fld (pv 0) (by rfl)) (by rfl)))))), ?_⟩
    refine ⟨_, rfl, a, C, dx, _, _, rfl, e, LF.cls, LF.noH, rfl, 49, S h, by rw [str1], rfl, _, rfl, ?_⟩
    rw [show decide (49 ∈ h ++ t) = (decide (49 ∈ h) || decide (49 ∈ t)) by simp [List.mem_append]] at q
    show if decide (49 ∈ h) = true then _ else _
    cases c : decide (49 ∈ h) with
    | true =>
      rw [c] at q
      exact iteT q
    | false =>
      rw [c, Bool.false_or] at q
      exact iteF ⟨_, rfl, a, C, dx, _, _, rfl, e, LF.cls, LF.noT, rfl, 49, S t, by rw [str1], rfl, q⟩
theorem c_lstr (LF : LiF K w mg C dO es n) (F : FunD K "__str__" "Lengths.__str__" (defArgs s_lstr) (defBody s_lstr) (defScope s_lstr) [] [] f fd) : FnOk P w K mg base L2.CX0 1 f fd ["self"] (spLstr C) := by
  have hnd := sc_lstr.nd
  refine F.ok sc_lstr (fun vs H Q E h => ?_) (fun cdv A outer s H vs Q E hr h => ?_)
  · obtain ⟨a, h, t, rfl, _⟩ := h
    rfl
  · obtain ⟨a, h, t, rfl, ⟨dx, e⟩, lh, lt, q⟩ := h
    refine ⟨_, (pss_one (ps_ret (pe_joined (.cons (pe_fmt (pe_fld (pv 0) (by rfl))) (.cons pe_str (.cons (pe_fmt (pe_fld (pv 0) (by rfl))) (.cons pe_str .nil))))))), ?_⟩
    have e1 : Str.empty ++ S h = S h := by rw [emptyS, SX.S_cat]; rfl
    refine ⟨_, rfl, a, C, dx, _, _, rfl, e, LF.cls, LF.noH, rfl, .inl ⟨_, rfl, slen (by omega), _, rfl, ?_, ?_⟩⟩
    · rw [e1]
      exact slen (by omega)
    · rw [e1]
      refine ⟨_, rfl, ?_, _, rfl, a, C, dx, _, _, rfl, e, LF.cls, LF.noT, rfl, .inl ⟨_, rfl, slen (by omega), _, rfl, ?_, _, rfl, ?_, ?_⟩⟩
      all_goals simp only [strO, strCl, SX.S_cat]
      · rw [SX.S_len, sizeLine_eq]
        simp only [List.length_append, List.length_singleton]
        omega
      · rw [SX.S_len, sizeLine_eq]
        simp only [List.length_append, List.length_singleton]
        omega
      · rw [SX.S_len, sizeLine_eq]
        simp only [List.length_append, List.length_singleton]
        omega
      · exact q
theorem c_leq (T : Bt mg) (LF : LiF K w mg C dO es n) (LG : LiG K C) (F : FunD K "__eq__" "Lengths.__eq__" (defArgs s_leq) (defBody s_leq) (defScope s_leq) [] [] f fd) : FnOk P w K mg base L2.CX0 1 f fd ["self", "other"] (spLeq K C) := by
  have hnd := sc_leq.nd
  refine F.ok sc_leq (fun vs H Q E h => ?_) (fun cdv A outer s H vs Q E hr h => ?_)
  · obtain ⟨a, h, t, y, rfl, _⟩ := h
    rfl
  · obtain ⟨a, h, t, y, rfl, ⟨dx, e⟩, q⟩ := h
    refine ⟨_, (pss_one (ps_ret (pe_and (pe_callB call_isi (by rfl) T.m_isinstance (by decide +kernel) (pa_cons (pv 1) (pa_cons (pe_glob (v := .ref C) (by rfl) LF.mgC rfl) pa_nil))) (pe_and (pe_cmpR op_eq (pe_fld (pv 0) (by rfl)) (pe_fld (pv 1) (by rfl)) (nomark _)) (pe_one (pe_cmpR op_eq (pe_fld (pv 0) (by rfl)) (pe_fld (pv 1) (by rfl)) (nomark _))))))), ?_⟩
    rcases q with ⟨c, h2, t2, rfl, ⟨dy, e2⟩, q⟩ | ⟨t0, ty, kn, q⟩
    · refine ⟨_, rfl, _, _, _, _, _, rfl, .own C, .base (.ins e2 LF.cls LG.ex.ha LG.ex.hn LG.ex.ht LG.ex.hm), LG.self, true, rfl, iteT ?_⟩
      refine ⟨_, rfl, a, C, dx, _, _, rfl, e, LF.cls, LF.noH, rfl, _, rfl, c, C, dy, _, _, rfl, e2, LF.cls, LF.noH, rfl, rfl, _, rfl, ?_⟩
      have hz : ∀ a b : List Nat, decide (V.str (S a) = V.str (S b)) = decide (a = b) := fun a b => decide_eq_decide.mpr ⟨fun h => by injection h with h; exact SX.S_inj h, fun h => by rw [h]⟩
      rw [hz]
      cases hd : decide (h = h2) with
      | true =>
        rw [hd, Bool.true_and] at q
        refine iteT ⟨_, rfl, a, C, dx, _, _, rfl, e, LF.cls, LF.noT, rfl, _, rfl, c, C, dy, _, _, rfl, e2, LF.cls, LF.noT, rfl, rfl, ?_⟩
        rw [hz]
        exact q
      | false =>
        rw [hd, Bool.false_and] at q
        exact iteF q
    · exact ⟨_, rfl, _, _, _, _, _, rfl, .own C, ty, kn, false, rfl, iteF q⟩
theorem c_pdigit (T : Bt mg) (LF : LiF K w mg C dO es n) {ph gh pt gt : Addr} {fdh fdt : FuncData} (PH : PropOf K C "head" ph gh) (FH : FnOk P w K mg base L2.CX0 1 gh fdh ["self"] (spLhead C)) (BH : Binds K fdh ["self"] []) (PT : PropOf K C "tail" pt gt) (FT : FnOk P w K mg base L2.CX0 1 gt fdt ["self"] (spLtail C)) (BT : Binds K fdt ["self"] [])
    (F : FnP K "_digit" s_pdigit f fd) (hm : mg "_digit" = some (.ref f)) : Cal P w K mg base 3 "_digit" (spPDigit C) := by
  have hnd := sc_pdigit.nd
  refine cal_mk F hm sc_pdigit (fun _ _ _ _ _ _ us hl => match us, hl with | [_, _], _ => rfl) (fun vs H Q E h => ?_) (fun cdv A outer s H vs Q E hr h => ?_)
  · obtain ⟨a, h, t, v, rfl, _⟩ := h
    rfl
  · obtain ⟨a, h, t, v, rfl, ⟨dx, ea⟩, ht, lh, lt, v1, q⟩ := h
    refine ⟨_, (pss_cons (ps_set (i := 2) hnd rfl (by first | exact Or.inl rfl | exact Or.inr rfl) (pe_op op_sub (pe_op op_sub (pv 1) pe_int) (pe_callB call_len_str (by rfl) T.m_len (by decide +kernel) (pa_cons (pe_prop (E := L2.E0) (pv 0) LF.cls PH FH (hr.mono (by omega)) BH .nil (fun _ _ _ _ _ _ _ h => h.elim) (by rfl)) pa_nil))))
      (pss_cons (ps_if (pt_cmpR op_lt (pv 2) pe_int (nomark _))
      (pss_one (ps_ret (pe_ix ix_str (pe_prop (E := L2.E0) (pv 0) LF.cls PH FH (hr.mono (by omega)) BH .nil (fun _ _ _ _ _ _ _ h => h.elim) (by rfl)) (pe_op op_sub (pv 1) pe_int) (fun _ _ => rfl))))
      pss_nil)
      (pss_one (ps_ret (pe_ix ix_str (pe_prop (E := L2.E0) (pv 0) LF.cls PT FT (hr.mono (by omega)) BT .nil (fun _ _ _ _ _ _ _ h => h.elim) (by rfl)) (pe_op op_mod (pv 2) (pe_callB call_len_str (by rfl) T.m_len (by decide +kernel) (pa_cons (pe_prop (E := L2.E0) (pv 0) LF.cls PT FT (hr.mono (by omega)) BT .nil (fun _ _ _ _ _ _ _ h => h.elim) (by rfl)) pa_nil))) (fun _ _ => rfl)))))), ?_⟩
    have slh := slen (l := h) (by omega)
    have slt := slen (l := t) (by omega)
    have tp : 0 < t.length := List.length_pos_iff.mpr ht
    refine ⟨_, rfl, _, _, rfl, rfl, _, rfl, a, dx, _, rfl, ea, a, h, t, rfl, ⟨dx, ea⟩, _, rfl, slh, _, _, rfl, rfl, gname_go ?_⟩
    dsimp only
    have hS := SX.S_len h
    have tS := SX.S_len t
    obtain ⟨m, rfl⟩ : ∃ m : Nat, v = (m : Int) + 1 := ⟨(v - 1).toNat, by omega⟩
    rw [show ((m : Int) + 1 - 1).toNat = m by omega] at q
    unfold dg at q
    refine ⟨_, rfl, _, _, rfl, rfl, _, rfl, ite2 (fun hlt => ?_) (fun hge => ?_)⟩
    · have hm : m < h.length := by
        have z := of_decide_eq_true hlt
        omega
      rw [if_pos hm] at q
      refine ⟨_, rfl, a, dx, _, rfl, ea, a, h, t, rfl, ⟨dx, ea⟩, _, rfl, _, _, rfl, rfl, S h, _, h.getD m 0, rfl, rfl, slh, ?_, q⟩
      rw [show (m : Int) + 1 - 1 = (m : Int) by omega]
      refine atI_nat ?_
      show h[m]? = _
      simp [List.getD, hm]
    · have hm : ¬ m < h.length := fun z => hge (decide_eq_true (by omega))
      rw [if_neg hm] at q
      have hmod : (m - h.length) % t.length < t.length := Nat.mod_lt _ tp
      dsimp only [tNext]
      refine ⟨_, rfl, a, dx, _, rfl, ea, a, h, t, rfl, ⟨dx, ea⟩, _, rfl, _, rfl, a, dx, _, rfl, ea, a, h, t, rfl, ⟨dx, ea⟩, _, rfl, slt, _, _, rfl, rfl, by rw [tS]; show (0 : Int) < (t.length : Nat); omega, S t, _, t.getD ((m - h.length) % t.length) 0, rfl, rfl, slt, ?_, q⟩
      have e : ((m : Int) + 1 - 1 - ((S h).length : Nat)) % ((S t).length : Nat) = (((m - h.length) % t.length : Nat) : Int) := by
        rw [hS, tS, show (m : Int) + 1 - 1 - (h.length : Nat) = ((m - h.length : Nat) : Int) by omega]
        rfl
      rw [e]
      refine atI_nat ?_
      show t[(m - h.length) % t.length]? = _
      simp [List.getD, hmod]
theorem c_lcont (T : Bt mg) (k_is_integer : Cal P w K mg base 1 "is_integer" (spIsInt K)) (k_pdigit : Cal P w K mg base 3 "_digit" (spPDigit C)) (F : FunD K "__contains__" "Lengths.__contains__" (defArgs s_lcont) (defBody s_lcont) (defScope s_lcont) [] [] f fd) : FnOk P w K mg base L2.CX0 4 f fd ["self", "value"] (spLcont K C) := by
  have hnd := sc_lcont.nd
  refine F.ok sc_lcont (fun vs H Q E h => ?_) (fun cdv A outer s H vs Q E hr h => ?_)
  · obtain ⟨a, h, t, v, rfl, _⟩ := h
    rfl
  · obtain ⟨a, h, t, v, rfl, la, ht, lh, lt, q⟩ := h
    refine ⟨_, (pss_one (ps_ret (pe_and (pe_cal k_is_integer hr (by omega) (by rfl) (pa_cons (pv 1) pa_nil)) (pe_and (pe_cmpR op_ge (pv 1) pe_int (nomark _)) (pe_one (pe_cmpR op_eq (pe_cal k_pdigit hr (by omega) (by rfl) (pa_cons (pv 0) (pa_cons (pv 1) pa_nil))) pe_str (nomark _))))))), ?_⟩
    rcases q with ⟨i, rfl, q⟩ | ⟨no, q⟩
    · refine ⟨_, rfl, .int i, rfl, .inl ⟨i, rfl, _, rfl, iteT ⟨_, rfl, _, _, rfl, rfl, _, rfl, ?_⟩⟩⟩
      by_cases c : 1 ≤ i
      · rw [show decide (i ≥ 1) = true from decide_eq_true c]
        rw [decide_eq_true c, Bool.true_and] at q
        refine iteT ⟨_, rfl, _, rfl, a, h, t, i, rfl, la, ht, lh, lt, c, rfl, ?_⟩
        rw [str1, show decide (V.str (S [dg h t (i - 1).toNat]) = V.str (S [49])) = decide (dg h t (i - 1).toNat = 49) from decide_eq_decide.mpr ⟨fun h => by injection h with h; have := SX.S_inj h; simpa using this, fun h => by rw [h]⟩]
        exact q
      · rw [show decide (i ≥ 1) = false from decide_eq_false c]
        rw [decide_eq_false c, Bool.false_and] at q
        exact iteF q
    · exact ⟨_, rfl, v, rfl, .inr ⟨no, _, rfl, iteF q⟩⟩
theorem c_lread (T : Bt mg) (mstr : mg "str" = none) (k_is_digits : Cal P w K mg base 1 "_is_digits" spIsDigits) (KM : Mk K C fi) (Fi : FnOk P w K mg base (L2.CX P w) 2 fi fdi ["self", "head", "tail"] (spLinit C)) (Bi : Binds K fdi ["self", "head", "tail"] [])
    (F : FunD K "read" "Lengths.read" (defArgs s_lread) (defBody s_lread) (defScope s_lread) [] [] f fd) : FnOk P w K mg base (L2.CX P w) 4 f fd ["cls", "text"] (spLread C) := by
  have hnd := sc_lread.nd
  refine F.ok sc_lread (fun vs H Q E h => ?_) (fun cdv A outer s H vs Q E hr h => ?_)
  · obtain ⟨h, t, rfl, _⟩ := h
    rfl
  · obtain ⟨h, t, rfl, bh, bt, ht, lh, lt, q⟩ := h
    refine ⟨_, (pss_cons (ps_if (PW.pt (pw_or (pt_not (pt_val (pe_callB call_isi (by rfl) T.m_isinstance (by decide +kernel) (pa_cons (pv 1) (pa_cons (pe_bltn (v := .ty "str") (by rfl) mstr (by decide +kernel) rfl) pa_nil))))) (pw_or1 (pt_not (pt_val (pe_m1 PySem.F.slot_str_endswith PySem.F.type_str_endswith mt_endswith (pv 1) pe_str))))))
      (pss_one ps_never)
      pss_nil)
      (pss_cons (ps_asg (pe_partition (pe_slice C8.sl_txt (pv 1) po_none (po_some (pe_un un_neg pe_int))) pe_str) (pg_tup (by rfl) (pgs_cons (pg_name (i := 2) hnd rfl (by first | exact Or.inl rfl | exact Or.inr rfl)) (pgs_cons (pg_name (i := 3) hnd rfl (by first | exact Or.inl rfl | exact Or.inr rfl)) (pgs_cons (pg_name (i := 4) hnd rfl (by first | exact Or.inl rfl | exact Or.inr rfl)) pgs_nil)))))
      (pss_cons (ps_if (PW.pt (pw_or (pt_not (pt_val (pe_cal k_is_digits hr (by omega) (by rfl) (pa_cons (pv 2) pa_nil)))) (pw_or (pt_not (pt_val (pe_cal k_is_digits hr (by omega) (by rfl) (pa_cons (pv 4) pa_nil)))) (pw_or1 (pt_cmpR op_eq (pv 4) pe_str (nomark _))))))
      (pss_one ps_never)
      pss_nil)
      (pss_one (ps_ret (pe_makeV (i := 0) KM Fi hr (by omega) rfl (by first | exact Or.inl rfl | exact Or.inr rfl) Bi .nil pass_none (pa_cons (pv 2) (pa_cons (pv 4) pa_nil)))))))), ?_⟩
    have lx : (txt h t).length ≤ 1900 := by
      unfold txt
      simp only [List.length_append, List.length_singleton]
      omega
    have slx : (S (txt h t)).length ≤ sizeLine := by
      rw [SX.S_len, sizeLine_eq]
      omega
    refine ⟨_, rfl, _, _, _, _, _, rfl, .ty _, str_ty, str_kit, _, rfl, iteF ⟨_, rfl, ⟨_, rfl⟩, S (txt h t), S [41], rfl, by rw [strCl], _, rfl, ?_⟩⟩
    have ends : Txt.endswith (S (txt h t)) (S [41]) = true := ends_snoc _ _
    rw [ends]
    refine iteF ?_
    dsimp only [tNext]
    have cut : Txt.slice (S (txt h t)) none (some (-1)) = S (h ++ ([40] ++ t)) := by
      unfold txt
      rw [SX.butlast_snoc, List.append_assoc]
    have no40 : 40 ∉ h := fun m => by
      rcases bh 40 m with z | z <;> omega
    have par : Txt.partition (S (h ++ ([40] ++ t))) (S [40]) = (S h, S [40], S t) := SX.partition_some (by simp) (SX.par_head t no40)
    refine ⟨_, rfl, _, rfl, _, rfl, S (txt h t), rfl, slx, ⟨_, rfl⟩, S (h ++ ([40] ++ t)), S [40], by rw [cut], by rw [strO], by decide, ?_, fun p np => ?_⟩
    · rw [SX.S_len, sizeLine_eq]
      simp only [List.length_append, List.length_singleton]
      omega
    rw [par]
    refine ⟨p, _, rfl, SqT.of upd_same, rfl, _, _, rfl, _, _, rfl, _, _, rfl, rfl, ?_⟩
    have sp := same_new (o := .tup [V.str (S h), .str (S [40]), .str (S t)]) np
    try dsimp only
    refine ⟨_, rfl, h, rfl, bh, by omega, fun G1 s1 => ⟨_, rfl, iteF ⟨_, rfl, t, rfl, bt, by omega, fun G2 s2 => ⟨_, rfl, iteF ⟨_, rfl, rfl, _, rfl, ?_⟩⟩⟩⟩⟩
    rw [strE, decide_eq_false (fun z => ht (by injection z with z; exact SX.S_inj z))]
    refine iteF ?_
    dsimp only [tNext]
    refine ⟨rfl, _, rfl, _, rfl, fun a dx na ndx _ => ?_⟩
    refine ⟨a, dx, h, t, rfl, upd_same, bh, bt, ht, lh, lt, fun h' t' H' w' sB la => ⟨rfl, q h' t' a H' w' (fun b o e => ?_) ?_ la⟩⟩
    · have e2 := s2 _ _ (s1 _ _ (sp _ _ e))
      refine sB b o (ne_of_none e2 na) ?_
      rw [upd_ne (ne_of_none e2 na), upd_ne (ne_of_none e2 ndx)]
      exact e2
    · cases c : H a with
      | none => rfl
      | some o =>
        have e2 := s2 _ _ (s1 _ _ (sp _ _ c))
        rw [e2] at na
        cases na
end
end L2.K53
set_option Elab.async false
set_option linter.all false
set_option maxRecDepth 100000
set_option maxHeartbeats 8000000
namespace L2.K53
open PySem PySem.Spec PyProof.Rows L2.Tb
open SX (S)
abbrev s_shortest : Stmt := top 28
abbrev N_shortest : List Str := ["_law_first", "_law_again", "_law_size", "_law_many", "_law_at", "_law_whole", "_law_periods", "_law_period", "_law_starts", "_law_least", "_law_start"]
theorem sc_shortest : FnScope N_shortest ["_law_first", "_law_again"] (defScope s_shortest) := ⟨rfl, rfl, rfl, by decide +kernel, rfl, by decide +kernel, by decide +kernel⟩
theorem dp_ints {K : PySem.W.Frag} {H : Hp} : ∀ ns : List Int, DpAll K H (ns.map V.int) (ns.map PyData.int)
  | [] => .nil
  | n :: ns => .cons (.int n) (dp_ints ns)
theorem ints_lay : ∀ us : List Int, PyData.canLayAll0 (us.map PyData.int) = true
  | [] => by simp [PyData.canLayAll0]
  | u :: us => by
    have h := ints_lay us
    simp [PyData.canLayAll0, PyData.canLay0, h]
theorem ints_depth : ∀ us : List Int, PyData.depthAll (us.map PyData.int) ≤ 1
  | [] => by simp [PyData.depthAll]
  | u :: us => by
    have h := ints_depth us
    have h2 : (PyData.int u).depth = 0 := by simp [PyData.depth]
    simp only [List.map_cons, PyData.depthAll]
    omega
theorem ints_shaped (us : List Int) : SeqAt.shaped (.list (us.map PyData.int)) = true := by
  show (PyData.canLay0 (.list (us.map PyData.int)) && decide (PyData.depth (.list (us.map PyData.int)) ≤ 64)) = true
  rw [Bool.and_eq_true]
  exact ⟨by simp only [PyData.canLay0]; exact ints_lay us, decide_eq_true (by have := ints_depth us; simp only [PyData.depth]; omega)⟩
theorem nil_shaped : SeqAt.shaped (.list []) = true := ints_shaped []
theorem int_shaped (i : Int) : SeqAt.shaped (.int i) = true := by
  show (PyData.canLay0 (.int i) && decide (PyData.depth (.int i) ≤ 64)) = true
  simp [PyData.canLay0, PyData.depth]
theorem ints_nil (xs : List Int) : PyData.eqv (.list (xs.map PyData.int)) (.list []) = decide (xs = []) := by
  cases xs with
  | nil => simp [PyData.eqv, PyData.eqvAll]
  | cons x xs => simp [PyData.eqv, PyData.eqvAll]
theorem sgn_inj {a b : Nat} (h : sgn a = sgn b) : a = b := by
  unfold sgn at h
  injection h with h
  have := SX.S_inj h
  simpa using this
theorem range_at {u : Nat → Nat} {N x : Nat} (h : x < N) : atI (((List.range N).map u).map sgn) (x : Int) = some (sgn (u x)) := atI_nat (by
  rw [List.getElem?_map, List.getElem?_map, List.getElem?_range h]
  rfl)
theorem bad_go {K : PySem.W.Frag} {u : Nat → Nat} {W : Addr} {N size many lo p sl : Nat} {tlo : TE} {σ : St} {H : Hp} {Qb : Bool → Hp → Prop} (h2 : σ[2]? = some (some (.int (size : Int)))) (h3 : σ[3]? = some (some (.int (many : Int)))) (h5 : σ[5]? = some (some (.ref W)))
    (hs : σ[sl]? = some (some (.int (p : Int)))) (h4 : 4 < σ.length) (ns : sl ≠ 4) (hlo : ∀ Q' : VK, Q' (.int (lo : Int)) H → tlo σ H Q') (eW : H W = some (.lst (((List.range N).map u).map sgn))) (hN : N ≤ 400) (l1 : lo ≤ size + many) (l2 : size + many + p ≤ N)
    (q : ∀ b H', Same H H' → (b = true ↔ ∀ x, lo ≤ x → x < size + many → u x = u (x + p)) → Qb b H') :
    tTest (tOp (rEqD K) (tLc (iRng2 (tCons tlo (tCons (tOp (rI0 fun i j => V.int (i + j)) (tVar 2) (tVar 3)) tNil))) (gName 4) (tTest (tOp rNe (tOp (rIxL K) (tVar 5) (tVar 4)) (tOp (rIxL K) (tVar 5) (tOp (rI0 fun i j => V.int (i + j)) (tVar 4) (tVar sl))))) (tVar 4) [4]) (tLst tNil)) σ H Qb := by
  refine hlo _ ⟨_, h2, _, h3, _, _, rfl, rfl, (lo : Int), (size : Int) + (many : Int), rfl, ⟨by omega, by omega, by omega, by omega⟩, fun D nD => ?_⟩
  refine lc_range (fun j G => Same H G ∧ ∃ bad : List Int, G D = some (.lst (bad.map V.int)) ∧ bad.length ≤ j ∧ (bad = [] ↔ ∀ x, lo ≤ x → x < lo + j → u x = u (x + p))) ⟨same_new nD, [], upd_same, Nat.le_refl _, fun _ x h1 h2 => by omega, fun _ => rfl⟩ ?_ ?_
  · rintro j G hj ⟨sg, bad, eg, lb, ib⟩
    have hj : lo + j < size + many := by omega
    refine ⟨by
      show ((σ.set 4 none).set 4 (some (.int ((lo : Int) + (j : Int))))).set 4 none = σ.set 4 none
      rw [List.set_set, List.set_set], ?_⟩
    have e4 : (List.set (wipe σ [4]) 4 (some (V.int ((lo : Int) + (j : Int)))))[4]? = some (some (.int (((lo + j : Nat) : Int)))) := by
      rw [List.getElem?_set_self (by rw [wipe_length]; exact h4)]
      congr 3
    have e5 : (List.set (wipe σ [4]) 4 (some (V.int ((lo : Int) + (j : Int)))))[5]? = some (some (.ref W)) := by
      show ((σ.set 4 none).set 4 _)[5]? = _
      rw [List.getElem?_set_ne (by decide), List.getElem?_set_ne (by decide)]
      exact h5
    have es : (List.set (wipe σ [4]) 4 (some (V.int ((lo : Int) + (j : Int)))))[sl]? = some (some (.int (p : Int))) := by
      show ((σ.set 4 none).set 4 _)[sl]? = _
      rw [List.getElem?_set_ne (Ne.symm ns), List.getElem?_set_ne (Ne.symm ns)]
      exact hs
    have eWg := sg _ _ eW
    refine ⟨_, e5, _, e4, W, _, _, sgn (u (lo + j)), rfl, rfl, SqL.of eWg, range_at (by omega), _, e5, _, e4, _, es, _, _, rfl, rfl, W, _, _, sgn (u (lo + j + p)), rfl, rfl, SqL.of eWg, ?_, rfl, _, rfl, ?_⟩
    · exact range_at (x := lo + j + p) (by omega)
    by_cases c : u (lo + j) = u (lo + j + p)
    · rw [c, decide_eq_true rfl]
      refine iteF ⟨sg, bad, eg, by omega, fun hb x h1 h2 => ?_, fun hb => ib.mpr fun x h1 h2 => hb x h1 (by omega)⟩
      by_cases hx : x < lo + j
      · exact ib.mp hb x h1 hx
      · rw [show x = lo + j by omega]
        exact c
    · rw [decide_eq_false (fun z => c (sgn_inj z))]
      refine iteT ⟨_, e4, _, eg, by rw [List.length_map, sizeLine_eq]; omega, same_put nD sg, bad ++ [((lo + j : Nat) : Int)], by rw [upd_same, List.map_append]; rfl, by rw [List.length_append, List.length_singleton]; omega, fun hb => ?_, fun hb => absurd (hb (lo + j) (by omega) (by omega)) c⟩
      simp at hb
  · rintro G ⟨sg, bad, eg, lb, ib⟩
    refine ⟨Nat.zero_le _, fun L nL => ?_⟩
    have sL := same_new (o := .lst []) nL
    refine ⟨.list (bad.map PyData.int), .list [], .lst (SqL.of (sL _ _ eg)) (dp_ints _), .lst (SqL.of upd_same) .nil, ints_shaped _, nil_shaped, _, rfl, ?_⟩
    rw [ints_nil]
    refine q _ _ (sg.trans sL) ?_
    rw [decide_eq_true_iff, ib]
    have e : lo + ((size : Int) + (many : Int) - (lo : Int)).toNat = size + many := by omega
    rw [e]
theorem cutV_to {xs : List V} {s : Nat} (h : s ≤ xs.length) : cutV xs none (some (s : Int)) = xs.take s := by
  unfold cutV
  rw [HT.sIx_none, HT.sIx_nat, Nat.min_eq_left h, List.drop_zero, Nat.sub_zero]
theorem cutV_mid {xs : List V} {a b : Nat} (ha : a ≤ b) (h : b ≤ xs.length) : cutV xs (some (a : Int)) (some (b : Int)) = (xs.drop a).take (b - a) := by
  unfold cutV
  rw [HT.sIx_nat, HT.sIx_nat, Nat.min_eq_left h, Nat.min_eq_left (by omega)]
theorem range_take {u : Nat → Nat} {N s : Nat} (h : s ≤ N) : (((List.range N).map u).map sgn).take s = (seg u 0 s).map sgn := by
  unfold seg
  rw [← List.map_take, ← List.map_take, List.take_range, Nat.min_eq_left h]
  simp
theorem range_mid {u : Nat → Nat} {N a m : Nat} (h : a + m ≤ N) : ((((List.range N).map u).map sgn).drop a).take m = (seg u a m).map sgn := by
  refine List.ext_getElem ?_ fun i h1 h2 => ?_
  · simp [seg]
    omega
  · simp [seg]
def spShortest : Sp := fun vs H Q _ => ∃ h t : List Nat, vs = [.str (S h), .str (S t)] ∧ t ≠ [] ∧ h.length ≤ 100 ∧ t.length ≤ 100 ∧ ∀ h' t' T H', CanonOf (dg h t) h' t' → Same H H' → H' T = some (.tup [.str (S h'), .str (S t')]) → Q (.ref T) H'
section
variable {P : Program} {w : World} {K : PySem.W.Frag} {mg : Str → Option Value} {base : Heap} {f : Addr} {fd : FuncData}
theorem c_shortest (T : Bt mg) (F : FnP K "_law_shortest" s_shortest f fd) (hm : mg "_law_shortest" = some (.ref f)) (k_digit : Cal P w K mg base 1 "_law_digit" spDigit) : Cal P w K mg base 2 "_law_shortest" spShortest := by
  have hnd := sc_shortest.nd
  refine cal_mk F hm sc_shortest (fun _ _ _ _ _ _ us hl => match us, hl with | [_, _], _ => rfl) (fun vs H Q E h => ?_) (fun cdv A outer s H vs Q E hr h => ?_)
  · obtain ⟨h, t, rfl, _⟩ := h
    rfl
  · obtain ⟨h, t, rfl, ht, lh, lt, q⟩ := h
    refine ⟨_, (pss_cons (ps_par (i := 2) (j := 3) (by rfl) hnd rfl rfl (by decide) (by rfl) (by rfl) (pa_cons (pe_callB call_len_str (by rfl) T.m_len (by decide +kernel) (pa_cons (pv 0) pa_nil)) (pa_cons (pe_callB call_len_str (by rfl) T.m_len (by decide +kernel) (pa_cons (pv 1) pa_nil)) pa_nil)) (by rfl))
      (pss_cons (ps_set (i := 5) hnd rfl (by first | exact Or.inl rfl | exact Or.inr rfl) (pe_lc (own := [("_law_at", 4)]) (tt := tYes) (by rfl) hnd (pi_range1 (by rfl) T.m_range (pa_cons (pe_op op_add (pv 2) (pe_op op_mul pe_int (pv 3))) pa_nil)) (blkOk_by (own := [("_law_at", 4)]) (N := N_shortest) (sc := defScope s_shortest) (by decide +kernel)) (fun _ _ _ _ _ => (pg_name (i := 4) hnd rfl (by first | exact Or.inl rfl | exact Or.inr rfl))) (fun _ _ _ _ _ => pts_nil) (fun _ _ _ _ _ => (pe_cal k_digit hr (by omega) (by rfl) (pa_cons (pv 0) (pa_cons (pv 1) (pa_cons (pv 4) pa_nil)))))))
      (pss_cons (ps_set (i := 6) hnd rfl (by first | exact Or.inl rfl | exact Or.inr rfl) (pe_lst pa_nil))
      (pss_cons (ps_for PassesOwn.never (by rfl) (pi_range2 (by rfl) T.m_range (pa_cons pe_int (pa_cons (pe_op op_add (pv 3) pe_int) pa_nil))) (pg_name (i := 7) hnd rfl (by first | exact Or.inl rfl | exact Or.inr rfl))
      (pss_one (ps_if (pt_cmpR (show OpR _ (compareOp .Eq) (rEqD K) from op_eqD hr.units) (pe_lc (own := [("_law_at", 4)]) (by rfl) hnd (pi_range2 (by rfl) T.m_range (pa_cons (pv 2) (pa_cons (pe_op op_add (pv 2) (pv 3)) pa_nil))) (blkOk_by (own := [("_law_at", 4)]) (N := N_shortest) (sc := defScope s_shortest) (by decide +kernel)) (fun _ _ _ _ _ => (pg_name (i := 4) hnd rfl (by first | exact Or.inl rfl | exact Or.inr rfl))) (fun _ _ _ _ _ => (pts_one (pt_cmpR op_ne (pe_ix (show IxR _ (rIxL K) from ix_list) (pv 5) (pv 4) (fun _ _ => rfl)) (pe_ix (show IxR _ (rIxL K) from ix_list) (pv 5) (pe_op op_add (pv 4) (pv 7)) (fun _ _ => rfl)) (nomark _)))) (fun _ _ _ _ _ => (pv 4))) (pe_lst pa_nil) (nomark _))
      (pss_one (ps_expr (pe_bm PySem.F.plainAttrs_list PySem.F.slot_list_append PySem.F.type_list_append mt_append (pv 6) (pa_cons (pv 7) pa_nil))))
      pss_nil)))
      (pss_cons (ps_pairL rfl (pa_cons (pe_lst pa_nil) (pa_cons (pe_ix (show IxR _ (rIxL K) from ix_list) (pv 6) pe_int (fun _ _ => rfl)) pa_nil)) (pgs_cons (pg_name (i := 8) hnd rfl (by first | exact Or.inl rfl | exact Or.inr rfl)) (pgs_cons (pg_name (i := 9) hnd rfl (by first | exact Or.inl rfl | exact Or.inr rfl)) pgs_nil)) (by rfl) (by rfl) (by rfl))
      (pss_cons (ps_for PassesOwn.never (by rfl) (pi_range1 (by rfl) T.m_range (pa_cons (pe_op op_add (pv 2) pe_int) pa_nil)) (pg_name (i := 10) hnd rfl (by first | exact Or.inl rfl | exact Or.inr rfl))
      (pss_one (ps_if (pt_cmpR (show OpR _ (compareOp .Eq) (rEqD K) from op_eqD hr.units) (pe_lc (own := [("_law_at", 4)]) (by rfl) hnd (pi_range2 (by rfl) T.m_range (pa_cons (pv 10) (pa_cons (pe_op op_add (pv 2) (pv 3)) pa_nil))) (blkOk_by (own := [("_law_at", 4)]) (N := N_shortest) (sc := defScope s_shortest) (by decide +kernel)) (fun _ _ _ _ _ => (pg_name (i := 4) hnd rfl (by first | exact Or.inl rfl | exact Or.inr rfl))) (fun _ _ _ _ _ => (pts_one (pt_cmpR op_ne (pe_ix (show IxR _ (rIxL K) from ix_list) (pv 5) (pv 4) (fun _ _ => rfl)) (pe_ix (show IxR _ (rIxL K) from ix_list) (pv 5) (pe_op op_add (pv 4) (pv 9)) (fun _ _ => rfl)) (nomark _)))) (fun _ _ _ _ _ => (pv 4))) (pe_lst pa_nil) (nomark _))
      (pss_one (ps_expr (pe_bm PySem.F.plainAttrs_list PySem.F.slot_list_append PySem.F.type_list_append mt_append (pv 8) (pa_cons (pv 10) pa_nil))))
      pss_nil)))
      (pss_one (ps_ret (pe_tup (pa_cons (pe_join pe_str (pe_slice sl_list (pv 5) po_none (po_some (pe_ix (show IxR _ (rIxL K) from ix_list) (pv 8) pe_int (fun _ _ => rfl))))) (pa_cons (pe_join pe_str (pe_slice sl_list (pv 5) (po_some (pe_ix (show IxR _ (rIxL K) from ix_list) (pv 8) pe_int (fun _ _ => rfl))) (po_some (pe_op op_add (pe_ix (show IxR _ (rIxL K) from ix_list) (pv 8) pe_int (fun _ _ => rfl)) (pv 9))))) pa_nil))))))))))), ?_⟩
    have slh := slen (l := h) (by omega)
    have slt := slen (l := t) (by omega)
    refine ⟨_, rfl, _, rfl, slh, _, rfl, _, rfl, slt, _, _, rfl, ?_⟩
    dsimp only
    have hS := SX.S_len h
    have tS := SX.S_len t
    rw [hS, tS]
    have tp : 0 < t.length := List.length_pos_iff.mpr ht
    generalize hu : dg h t = u at q
    have uper : ∀ n, h.length ≤ n → u n = u (n + t.length) := fun n hn => by
      rw [← hu]
      exact dg_per n hn
    refine ⟨_, rfl, _, rfl, _, _, rfl, rfl, .inl ⟨by decide, by decide⟩, _, _, rfl, rfl, (h.length : Int) + 2 * (t.length : Int), rfl, by omega, by omega, fun W nW => ?_⟩
    refine lc_range (fun j G => Same H G ∧ G W = some (.lst (((List.range j).map u).map sgn))) ⟨same_new nW, upd_same⟩ ?_ ?_
    · rintro j G hj ⟨sg, eg⟩
      refine ⟨rfl, ?_⟩
      unfold tYes
      dsimp only
      rw [if_pos rfl]
      refine ⟨_, rfl, _, rfl, _, rfl, h, t, j, by rw [Int.zero_add]; rfl, by omega, by omega, ht, ?_⟩
      rw [hu]
      exact ⟨_, eg, by rw [List.length_map, List.length_map, List.length_range, sizeLine_eq]; omega, same_put nW sg, by rw [upd_same, List.range_succ, List.map_append, List.map_append]; rfl⟩
    · rintro G0 ⟨s0, eW0⟩
      have eN : ((h.length : Int) + 2 * (t.length : Int)).toNat = h.length + 2 * t.length := by omega
      rw [eN] at eW0
      refine gname_go ?_
      try dsimp only
      refine ⟨Nat.zero_le _, fun Pd nP => gname_go ?_⟩
      try dsimp only
      have sP := same_new (o := .lst []) nP
      have eP := upd_same (H := G0) (a := Pd) (o := .lst [])
      have nPW : Pd ≠ W := fun z => by
        rw [z, eW0] at nP
        cases nP
      have nPH : H Pd = none := by
        cases c : H Pd with
        | none => rfl
        | some o =>
          rw [s0 _ _ c] at nP
          cases nP
      have eW1 := sP _ _ eW0
      have sH1 : Same H (upd G0 Pd (.lst [])) := s0.trans sP
      generalize upd G0 Pd (.lst []) = G1 at sP eP eW1 sH1 ⊢
      -- the periods
      refine seqx (fun σ' G => Same H G ∧ G W = some (.lst (((List.range (h.length + 2 * t.length)).map u).map sgn)) ∧ ∃ (p : Nat) (rest : List V) (x4 x7 : Option V), G Pd = some (.lst (.int (p : Int) :: rest)) ∧ 1 ≤ p ∧ p ≤ t.length ∧ (∀ x, h.length ≤ x → x < h.length + t.length → u x = u (x + p)) ∧ (∀ q, 1 ≤ q → q < p → ¬ ∀ x, h.length ≤ x → x < h.length + t.length → u x = u (x + q)) ∧
        σ' = [some (.str (S h)), some (.str (S t)), some (.int (h.length : Int)), some (.int (t.length : Int)), x4, some (.ref W), some (.ref Pd), x7, none, none, none]) ?_ fun key => ?_
      · rintro σ' G ⟨sH, eW, p, rest, x4, x7, ePg, p1, p2, hp, hmin, rfl⟩
        refine ⟨Nat.zero_le _, fun Sd nS => ?_⟩
        have sS := same_new (o := .lst []) nS
        have eS := upd_same (H := G) (a := Sd) (o := .lst [])
        have nSW : Sd ≠ W := fun z => by
          rw [z, eW] at nS
          cases nS
        have nSH : H Sd = none := by
          cases c : H Sd with
          | none => rfl
          | some o =>
            rw [sH _ _ c] at nS
            cases nS
        have eP2 := sS _ _ ePg
        have eW2 := sS _ _ eW
        have sH2 : Same H (upd G Sd (.lst [])) := sH.trans sS
        generalize upd G Sd (.lst []) = G2 at sS eS eP2 eW2 sH2 ⊢
        refine ⟨_, rfl, Pd, _, 0, .int (p : Int), rfl, rfl, SqL.of eP2, atI_nat (j := 0) rfl, rfl, _, _, rfl, _, _, rfl, rfl, ?_⟩
        try dsimp only
        refine seqx (fun σ' G => Same H G ∧ G W = some (.lst (((List.range (h.length + 2 * t.length)).map u).map sgn)) ∧ ∃ (s : Nat) (rest : List V) (x4 x10 : Option V), G Sd = some (.lst (.int (s : Int) :: rest)) ∧ s ≤ h.length ∧ (∀ x, s ≤ x → x < h.length + t.length → u x = u (x + p)) ∧ (∀ q, q < s → ¬ ∀ x, q ≤ x → x < h.length + t.length → u x = u (x + p)) ∧
          σ' = [some (.str (S h)), some (.str (S t)), some (.int (h.length : Int)), some (.int (t.length : Int)), x4, some (.ref W), some (.ref Pd), x7, some (.ref Sd), some (.int (p : Int)), x10]) ?_ fun key => ?_
        · rintro σ' G3 ⟨sH3, eW3, st, rest3, x4, x10, eS3, s1, hs, hsm, rfl⟩
          have canon : IsCanon u st p := by
            refine law_canon (size := h.length) (many := t.length) tp uper p1 hp (fun q q1 q2 => ?_) hs s1 ?_
            · by_cases c : ∃ x, h.length ≤ x ∧ x < h.length + t.length ∧ u x ≠ u (x + q)
              · exact c
              · refine absurd (fun x h1 h2 => ?_) (hmin q q1 q2)
                by_cases d : u x = u (x + q)
                · exact d
                · exact absurd ⟨x, h1, h2, d⟩ c
            · by_cases z : st = 0
              · exact .inl z
              · right
                intro e
                refine hsm (st - 1) (by omega) fun x h1 h2 => ?_
                by_cases c : x = st - 1
                · rw [c]
                  exact e
                · exact hs x (by omega) h2
          have lw : (((List.range (h.length + 2 * t.length)).map u).map sgn).length = h.length + 2 * t.length := by simp
          refine ⟨⟨_, rfl⟩, _, rfl, _, rfl, Sd, _, 0, .int (st : Int), rfl, rfl, SqL.of eS3, atI_nat (j := 0) rfl, _, rfl, W, _, rfl, SqL.of eW3, fun D1 nD1 => ?_⟩
          have e1 : upd G3 D1 (.lst (cutV (((List.range (h.length + 2 * t.length)).map u).map sgn) none (some (st : Int)))) = upd G3 D1 (.lst ((seg u 0 st).map sgn)) := by rw [cutV_to (by rw [lw]; omega), range_take (by omega)]
          rw [e1]
          have sD1 := same_new (o := .lst ((seg u 0 st).map sgn)) nD1
          refine ⟨_, D1, ((seg u 0 st).map fun c => [c]).map S, rfl, rfl, .inl (SqL.of (by rw [upd_same, ← sgn_map]; rfl)), ?_, ?_⟩
          · rw [sum_signs, strE, SX.S_len, seg_len]
            simp
            omega
          rw [strE, join_signs]
          have eS4 := sD1 _ _ eS3
          have eW4 := sD1 _ _ eW3
          generalize upd G3 D1 (.lst ((seg u 0 st).map sgn)) = G4 at sD1 eS4 eW4 ⊢
          refine ⟨⟨_, rfl⟩, _, rfl, _, rfl, Sd, _, 0, .int (st : Int), rfl, rfl, SqL.of eS4, atI_nat (j := 0) rfl, _, rfl, _, rfl, Sd, _, 0, .int (st : Int), rfl, rfl, SqL.of eS4, atI_nat (j := 0) rfl, _, rfl, _, _, rfl, rfl, _, rfl, W, _, rfl, SqL.of eW4, fun D2 nD2 => ?_⟩
          have e2 : upd G4 D2 (.lst (cutV (((List.range (h.length + 2 * t.length)).map u).map sgn) (some (st : Int)) (some ((st : Int) + (p : Int))))) = upd G4 D2 (.lst ((seg u st p).map sgn)) := by
            have := cutV_mid (xs := ((List.range (h.length + 2 * t.length)).map u).map sgn) (a := st) (b := st + p) (by omega) (by rw [lw]; omega)
            rw [show (st : Int) + (p : Int) = ((st + p : Nat) : Int) by omega, this, show st + p - st = p by omega, range_mid (by omega)]
          rw [e2]
          have sD2 := same_new (o := .lst ((seg u st p).map sgn)) nD2
          refine ⟨_, D2, ((seg u st p).map fun c => [c]).map S, rfl, rfl, .inl (SqL.of (by rw [upd_same, ← sgn_map]; rfl)), ?_, ?_⟩
          · rw [sum_signs, SX.S_len, seg_len]
            simp
            omega
          rw [join_signs]
          refine ⟨Nat.le_of_ble_eq_true rfl, fun T0 nT => ?_⟩
          exact q _ _ T0 _ ⟨st, p, canon, rfl, rfl⟩ (((sH3.trans sD1).trans sD2).trans (same_new nT)) upd_same
        · refine ⟨_, rfl, _, _, rfl, rfl, (h.length : Int) + 1, rfl, by omega, by omega, ?_⟩
          refine for_range (n := ((h.length : Int) + 1).toNat) (fun i σ' G => SameB Sd G2 G ∧ (∃ x4 x10, σ' = [some (.str (S h)), some (.str (S t)), some (.int (h.length : Int)), some (.int (t.length : Int)), x4, some (.ref W), some (.ref Pd), x7, some (.ref Sd), some (.int (p : Int)), x10]) ∧ ∃ ss : List V, G Sd = some (.lst ss) ∧ ss.length ≤ i ∧
            ((ss = [] ∧ ∀ q, q < i → ¬ ∀ x, q ≤ x → x < h.length + t.length → u x = u (x + p)) ∨
             ∃ (s : Nat) (rest : List V), ss = .int (s : Int) :: rest ∧ s < i ∧ (∀ x, s ≤ x → x < h.length + t.length → u x = u (x + p)) ∧ ∀ q, q < s → ¬ ∀ x, q ≤ x → x < h.length + t.length → u x = u (x + p)))
            ⟨SameB.refl _ _, ⟨_, _, rfl⟩, [], eS, Nat.le_refl _, .inl ⟨rfl, fun q h1 => by omega⟩⟩ ?_ ?_
          · rintro i σ' G3 hi ⟨sb, ⟨x4, x10, rfl⟩, ss, es, ls, hss⟩
            have hi : i < h.length + 1 := by omega
            refine gname_go ?_
            try dsimp only
            have eWg := sb _ _ (Ne.symm nSW) eW2
            rw [Int.zero_add]
            refine bad_go (sl := 9) (lo := i) (p := p) rfl rfl rfl rfl (Nat.le_of_ble_eq_true rfl) (by decide) (fun Q' hq => ⟨_, rfl, hq⟩) eWg (by omega) (by omega) (by omega) fun b G' sg hb => ?_
            have esg := sg _ _ es
            cases b with
            | false =>
              have no : ¬ ∀ x, i ≤ x → x < h.length + t.length → u x = u (x + p) := fun z => by cases hb.mpr z
              refine iteF ⟨sb.trans (SameB.of sg), ⟨_, _, rfl⟩, ss, esg, by omega, ?_⟩
              rcases hss with ⟨e, hn⟩ | ⟨s, rest, e, h2, h3, h4⟩
              · refine .inl ⟨e, fun q q2 => ?_⟩
                by_cases c : q < i
                · exact hn q c
                · rw [show q = i by omega]
                  exact no
              · exact .inr ⟨s, rest, e, by omega, h3, h4⟩
            | true =>
              have yes := hb.mp rfl
              refine iteT ⟨_, rfl, .inl ⟨rfl, _, SqL.of esg⟩, _, rfl, Sd, ss, _, rfl, rfl, esg, by rw [sizeLine_eq]; omega, ?_⟩
              refine ⟨(sb.trans (SameB.of sg)).trans SameB.set, ⟨_, _, rfl⟩, _, upd_same, by rw [List.length_append, List.length_singleton]; omega, .inr ?_⟩
              rcases hss with ⟨rfl, hn⟩ | ⟨s, rest, rfl, h2, h3, h4⟩
              · exact ⟨i, [], rfl, by omega, yes, hn⟩
              · exact ⟨s, _, rfl, by omega, h3, h4⟩
          · rintro σ' G3 ⟨sb, ⟨x4, x10, rfl⟩, ss, es, ls, hss⟩
            have n1 : ((h.length : Int) + 1).toNat = h.length + 1 := by omega
            rw [n1] at hss
            rcases hss with ⟨e, hn⟩ | ⟨s, rest, rfl, h2, h3, h4⟩
            · exact absurd hp (hn h.length (by omega))
            · exact key _ _ ⟨fun b o e => sb _ _ (ne_of_none e nSH) (sH2 _ _ e), sb _ _ (Ne.symm nSW) eW2, s, rest, x4, x10, es, by omega, h3, h4, rfl⟩
      · refine ⟨_, rfl, _, _, rfl, rfl, 1, (t.length : Int) + 1, rfl, ⟨by decide, by decide, by omega, by omega⟩, ?_⟩
        refine for_range (lo := 1) (fun i σ' G => SameB Pd G1 G ∧ (∃ x4 x7, σ' = [some (.str (S h)), some (.str (S t)), some (.int (h.length : Int)), some (.int (t.length : Int)), x4, some (.ref W), some (.ref Pd), x7, none, none, none]) ∧ ∃ ps : List V, G Pd = some (.lst ps) ∧ ps.length ≤ i ∧
          ((ps = [] ∧ ∀ q, 1 ≤ q → q < 1 + i → ¬ ∀ x, h.length ≤ x → x < h.length + t.length → u x = u (x + q)) ∨
           ∃ (p : Nat) (rest : List V), ps = .int (p : Int) :: rest ∧ 1 ≤ p ∧ p < 1 + i ∧ (∀ x, h.length ≤ x → x < h.length + t.length → u x = u (x + p)) ∧ ∀ q, 1 ≤ q → q < p → ¬ ∀ x, h.length ≤ x → x < h.length + t.length → u x = u (x + q)))
          ⟨SameB.refl _ _, ⟨_, _, rfl⟩, [], eP, Nat.le_refl _, .inl ⟨rfl, fun q h1 h2 => by omega⟩⟩ ?_ ?_
        · rintro i σ' G hi ⟨sb, ⟨x4, x7, rfl⟩, ps, ep, lp, hps⟩
          have hi : i < t.length := by omega
          refine gname_go ?_
          try dsimp only
          have eWg := sb _ _ (Ne.symm nPW) eW1
          have ez : (1 : Int) + (i : Int) = ((1 + i : Nat) : Int) := by omega
          rw [ez]
          refine bad_go (sl := 7) (lo := h.length) (p := 1 + i) rfl rfl rfl rfl (Nat.le_of_ble_eq_true rfl) (by decide) (fun Q' hq => ⟨_, rfl, hq⟩) eWg (by omega) (by omega) (by omega) fun b G' sg hb => ?_
          have epg := sg _ _ ep
          cases b with
          | false =>
            have no : ¬ ∀ x, h.length ≤ x → x < h.length + t.length → u x = u (x + (1 + i)) := fun z => by cases hb.mpr z
            refine iteF ⟨sb.trans (SameB.of sg), ⟨_, _, rfl⟩, ps, epg, by omega, ?_⟩
            rcases hps with ⟨e, hn⟩ | ⟨p, rest, e, h1, h2, h3, h4⟩
            · refine .inl ⟨e, fun q q1 q2 => ?_⟩
              by_cases c : q < 1 + i
              · exact hn q q1 c
              · rw [show q = 1 + i by omega]
                exact no
            · exact .inr ⟨p, rest, e, h1, by omega, h3, h4⟩
          | true =>
            have yes := hb.mp rfl
            refine iteT ⟨_, rfl, .inl ⟨rfl, _, SqL.of epg⟩, _, rfl, Pd, ps, _, rfl, rfl, epg, by rw [sizeLine_eq]; omega, ?_⟩
            refine ⟨(sb.trans (SameB.of sg)).trans SameB.set, ⟨_, _, rfl⟩, _, upd_same, by rw [List.length_append, List.length_singleton]; omega, .inr ?_⟩
            rcases hps with ⟨rfl, hn⟩ | ⟨p, rest, rfl, h1, h2, h3, h4⟩
            · exact ⟨1 + i, [], rfl, by omega, by omega, yes, hn⟩
            · exact ⟨p, _, rfl, h1, by omega, h3, h4⟩
        · rintro σ' G ⟨sb, ⟨x4, x7, rfl⟩, ps, ep, lp, hps⟩
          have n1 : ((t.length : Int) + 1 - 1).toNat = t.length := by omega
          rw [n1] at hps
          rcases hps with ⟨e, hn⟩ | ⟨p, rest, rfl, h1, h2, h3, h4⟩
          · exact absurd (fun x h1 h2 => uper x h1) (hn t.length tp (by omega))
          · exact key _ _ ⟨fun b o e => sb _ _ (ne_of_none e nPH) (sH1 _ _ e), sb _ _ (Ne.symm nPW) eW1, p, rest, x4, x7, ep, h1, by omega, h3, h4, rfl⟩
end
end L2.K53
set_option Elab.async false
set_option linter.all false
set_option maxRecDepth 100000
set_option maxHeartbeats 8000000
namespace L2.K53
open PySem PySem.Spec PyProof.Rows L2.Tb
open SX (S)
/-! ### two sequences joined -/
theorem canon_le {u : Nat → Nat} {a p N m : Nat} (c : IsCanon u a p) (m1 : 1 ≤ m) (per : ∀ n, N ≤ n → u n = u (n + m)) : a ≤ N ∧ p ≤ m := by
  refine ⟨?_, ?_⟩
  · by_cases h : a ≤ N
    · exact h
    · rcases c.st with z | z
      · omega
      · refine absurd ?_ z
        have e1 := per (a - 1) (by omega)
        have e2 := c.per (a - 1 + m) (by omega)
        have e3 := per (a - 1 + p) (by omega)
        rw [e1, e2, e3]
        congr 1
        omega
  · by_cases h : p ≤ m
    · exact h
    · exact absurd ⟨N, per⟩ (c.min m m1 (by omega))
theorem Word.small {fh ft h t : List Nat} (W : Word (dg fh ft) h t) (hf : ft ≠ []) : h.length ≤ fh.length ∧ t.length ≤ ft.length := by
  obtain ⟨a, p, i, rfl, rfl⟩ := W.can
  rw [seg_len, seg_len]
  exact canon_le i (List.length_pos_iff.mpr hf) fun n hn => dg_per n hn
theorem dg_seg {v : Nat → Nat} {a p : Nat} (p1 : 1 ≤ p) (per : ∀ n, a ≤ n → v n = v (n + p)) (n : Nat) : dg (seg v 0 a) (seg v a p) n = v n := by
  unfold dg
  rw [seg_len, seg_len]
  by_cases hn : n < a
  · rw [if_pos hn, seg_get hn, Nat.zero_add]
  · rw [if_neg hn]
    have hm : (n - a) % p < p := Nat.mod_lt _ (by omega)
    rw [seg_get hm, ← per_mul per ((n - a) / p) (a + (n - a) % p) (by omega)]
    congr 1
    have := Nat.mod_add_div (n - a) p
    rw [Nat.mul_comm] at this
    omega
theorem per_dvd {u : Nat → Nat} {a p L : Nat} (h : ∀ n, a ≤ n → u n = u (n + p)) (d : p ∣ L) (n : Nat) (hn : a ≤ n) : u n = u (n + L) := by
  obtain ⟨k, rfl⟩ := d
  rw [Nat.mul_comm, per_mul h k n hn]
def jf (r : List Nat) (u1 u2 : Nat → Nat) : Nat → Nat := fun n => r.getD (2 * (u1 n - 48) + (u2 n - 48)) 0
theorem jf_per {r : List Nat} {u1 u2 : Nat → Nat} {a L : Nat} (h1 : ∀ n, a ≤ n → u1 n = u1 (n + L)) (h2 : ∀ n, a ≤ n → u2 n = u2 (n + L)) (n : Nat) (hn : a ≤ n) : jf r u1 u2 n = jf r u1 u2 (n + L) := by
  unfold jf
  rw [h1 n hn, h2 n hn]
theorem seg_take {v : Nat → Nat} {a m : Nat} : (seg v 0 (a + m)).take a = seg v 0 a := by
  refine List.ext_getElem (by simp [seg]) fun i h1 h2 => ?_
  simp [seg]
theorem seg_drop {v : Nat → Nat} {a m : Nat} : (seg v 0 (a + m)).drop a = seg v a m := by
  refine List.ext_getElem (by simp [seg]) fun i h1 h2 => ?_
  simp [seg]
theorem bin_segv {v : Nat → Nat} (h : ∀ n, v n = 48 ∨ v n = 49) (a m : Nat) : Bin (seg v a m) := fun c hc => by
  obtain ⟨i, _, rfl⟩ := List.mem_map.mp hc
  exact h _
theorem bin_dg {h t : List Nat} (bh : Bin h) (bt : Bin t) (ht : t ≠ []) (n : Nat) : dg h t n = 48 ∨ dg h t n = 49 := by
  rcases List.mem_append.mp ((mem_dg ht (dg h t n)).mpr ⟨n, rfl⟩) with m | m
  · exact bh _ m
  · exact bt _ m
def opp (c : Nat) : Nat := 97 - c
theorem dg_map {h t : List Nat} (ht : t ≠ []) (n : Nat) : dg (h.map opp) (t.map opp) n = opp (dg h t n) := by
  have tp : 0 < t.length := List.length_pos_iff.mpr ht
  unfold dg
  rw [List.length_map, List.length_map]
  by_cases hn : n < h.length
  · rw [if_pos hn, if_pos hn]
    simp [List.getD, hn]
  · rw [if_neg hn, if_neg hn]
    have hm : (n - h.length) % t.length < t.length := Nat.mod_lt _ tp
    simp [List.getD, hm]
theorem bin_opp {h : List Nat} (b : Bin h) : Bin (h.map opp) := fun c hc => by
  obtain ⟨d, hd, rfl⟩ := List.mem_map.mp hc
  rcases b d hd with rfl | rfl
  · exact .inr rfl
  · exact .inl rfl
/-- four results, each a digit -/
def Four (r : List Nat) : Prop := r.length = 4 ∧ Bin r
theorem jf_bin {r : List Nat} (hr : Four r) {u1 u2 : Nat → Nat} (b1 : ∀ n, u1 n = 48 ∨ u1 n = 49) (b2 : ∀ n, u2 n = 48 ∨ u2 n = 49) (n : Nat) : 2 * (u1 n - 48) + (u2 n - 48) < 4 ∧ (jf r u1 u2 n = 48 ∨ jf r u1 u2 n = 49) := by
  have lt : 2 * (u1 n - 48) + (u2 n - 48) < 4 := by
    rcases b1 n with e | e <;> rcases b2 n with e2 | e2 <;> rw [e, e2] <;> decide
  exact ⟨lt, bin_get hr.2 (by rw [hr.1]; exact lt)⟩
end L2.K53
set_option Elab.async false
set_option linter.all false
set_option maxRecDepth 100000
set_option maxHeartbeats 4000000
/-! if and for in a generator's body -/
namespace L2.Tb
open PySem PySem.Spec PyProof.Rows
section
variable {X : Cx} {test : Expr} {body orelse : List Stmt} {pos : Pos} {tc : TT} {tb to : TGn}
def tGIf (c : TT) (tb to : TGn) : TGn := fun D ys σ H => c σ H fun b H1 => if b = true then tb D ys σ H1 else to D ys σ H1
theorem gs_if (hc : PT X test tc) (hb : GSs X body tb) (ho : GSs X orelse to) : GS X (.If test body orelse pos) (tGIf tc tb to) := by
  refine ⟨fun A S ip R n ys s₀ c fs K J gd lv s σ H D g hn k hI ht => ?_⟩
  obtain ⟨acc, cc, r, I⟩ := id hI
  show Seg _ _ _ _ _ _ _ (.at pos fun _ => (isTrue test X.env (eval test X.env) >>= fun b => if b then execs body X.env else execs orelse X.env).wrap K J gd lv) _ _
  refine seg_at (seg_bind_wrap ?_)
  rw [g.over]
  refine wpAny_mono (hc.run _ s σ H _ I ht) (fun b s' hb' => ?_) fun x s' hx => k.exc n s₀ x s' hx
  obtain ⟨H2, I2, q2⟩ := hb'
  cases b with
  | true =>
    rw [if_pos rfl] at q2
    exact hb.run A S ip R n ys s₀ c fs K J gd lv s' σ H2 D g hn k ⟨acc, cc, r, I2⟩ q2
  | false =>
    rw [if_neg Bool.false_ne_true] at q2
    exact ho.run A S ip R n ys s₀ c fs K J gd lv s' σ H2 D g hn k ⟨acc, cc, r, I2⟩ q2
end
section
variable {X : Cx} {tg iter : Expr} {body : List Stmt} {pos : Pos} {wi : TI} {gt : TG} {tb : TGn}
def tGFor (wi : TI) (g : TG) (tb : TGn) : TGn := fun D ys σ H => wi σ H fun J H1 => ∃ W : Nat → Nat → List V → St → Hp → Prop, (∃ m, W 0 m ys σ H1) ∧ ∀ i m ys σ H, W i m ys σ H →
  (J.stop i H ∧ D.nx ys σ H) ∨ (J.go i H ∧ ∃ N : List V → St → Hp → Prop, (∀ ys' σ' H', N ys' σ' H' → ∃ m', m' < m ∧ W (i + 1) m' ys' σ' H') ∧ ∀ x H', J.yld i H x H' → g x σ H' fun σ2 H2 => tb { D with nx := N, ct := N, bk := D.nx } ys σ2 H2)
theorem fp_move {S : Addr} {o o' : Obj} {ip : List (Addr × Obj)} {H H' : Hp} {b : Addr} (h : FpOk X ((S, o) :: ip) H b) (n : H' b = none) : FpOk X ((S, o') :: ip) H' b := by
  obtain ⟨_, f1, f2, f3, f4, f5⟩ := h
  refine ⟨n, f1, f2, f3, f4, fun p hp => ?_⟩
  rcases List.mem_append.mp hp with hp | hp
  · exact f5 p (List.mem_append_left _ hp)
  · rcases List.mem_cons.mp hp with rfl | hp
    · exact f5 (S, o) (List.mem_append_right _ List.mem_cons_self)
    · exact f5 p (List.mem_append_right _ (List.mem_cons_of_mem _ hp))
theorem gs_for (hp : PassesOwn (model X.prog X.w) X.A X.env X.xe) (hc : X.calm = true) (hi : PI X tg iter wi) (hg : PG X tg gt) (hb : GSs X body tb) (hs : ∀ x, foldedSetIterable iter X.env x = pure x := by intro _; rfl) : GS X (.For tg iter body [] pos) (tGFor wi gt tb) := by
  refine ⟨fun A S ip R n ys s₀ c fs K J gd lv s σ H D g hn k hI ht => ?_⟩
  obtain ⟨acc0, cc0, r0, I0⟩ := id hI
  show Seg _ _ _ _ _ _ _ (.at pos fun _ => (eval iter X.env >>= fun v => foldedSetIterable iter X.env v >>= fun x => standAt iter.pos >>= fun _ => holding [x] (pyIter x) >>= fun itv => runOwn (.forLoop tg itv body [] X.env) X.env).wrap K J gd lv) _ _
  refine seg_at (seg_bind_wrap ?_)
  rw [g.over]
  refine wpAny_mono (hi.run _ s σ H _ I0 ht) (fun v s1 h1 => ?_) fun x s' hx => k.exc n s₀ x s' hx
  refine seg_bind_wrap ?_
  rw [g.over]
  refine wpAny_of_eq (hs v) ?_
  refine seg_bind_wrap ?_
  rw [g.over]
  refine wpAny_standAt (seg_bind_wrap ?_)
  rw [g.over]
  refine wpAny_holding (wpAny_mono h1 (fun itv s2 h2 => ?_) fun x s' hx => k.exc n s₀ x s' hx)
  obtain ⟨it, fp, tn, Jt, H2, e, I2, T, st2, f2, W, ⟨m0, w0⟩, turn⟩ := h2
  subst e
  refine seg_call fun p => ?_
  have gl := fun (kk : Result → Sem PySem.Fin) => gc_loop (k := kk) (c' := .forLoop tg (.ref it) body [] X.env) (l := lv []) (kp := []) (p := p) g rfl rfl
  have note : ∀ (n : Nat) (s₀ : Shared) (x : Value) (s' : Shared), X.xe x s' → Seg (model X.prog X.w) A R (GY X S) n s₀ (.forLoop tg (.ref it) body [] X.env)
      ((do noteFrame x X.env; theTreesLotGoes x : Sem Unit).bind fun _ => (.raise x : Sem PySem.Fin))
      (.ret (fun r => ((match r with | .ok f => (.pure f : Sem Flow) | .error e => .raise e).onRaise (cameBack X.env)).wrap K J gd lv) none (gd false) (lv []) c p [] :: fs) s' := fun n s₀ x s' hx => by
    rw [Sem.bind_eq_wrap]
    refine seg_wrap ?_
    rw [(gl _).over]
    refine wpAny_bind (wpAny_mono (hp x s' hx) (fun _ s'' hcb => wpAny_theTreesLotGoes ?_) fun y s'' hcb => ?_)
    · exact seg_leaf (.error x) (seg_cameBack g k hcb)
    · exact seg_leaf (.error y) (seg_cameBack g k hcb)
  have loop : ∀ (m n i : Nat) (ys : List V) (s₀ s : Shared) (σ : St) (H : Hp), n + ys.length = sizeLine → W i m ys σ H → GI X S ip ys σ H s → tn i s.heap → (∀ b ∈ fp, H b = none) →
      Seg (model X.prog X.w) A R (GY X S) n s₀ (.forLoop tg (.ref it) body [] X.env) ((model X.prog X.w).den (.forLoop tg (.ref it) body [] X.env))
        (.ret (fun r => ((match r with | .ok f => (.pure f : Sem Flow) | .error e => .raise e).onRaise (cameBack X.env)).wrap K J gd lv) none (gd false) (lv []) c p [] :: fs) s := by
    intro m
    induction m using Nat.strongRecOn with
    | ind m ih =>
      intro n i ys s₀ s3 σ3 H3 hn w3 hI3 st3 fr3
      obtain ⟨acc, cc, r, I3⟩ := hI3
      have stat : ∀ {acc : Array Value} {cc : Nat} {H' : Hp}, (∀ b ∈ fp, H' b = none) → ∀ b ∈ fp, FpOk X ((S, lstObj acc cc) :: ip) H' b := fun hn b hb => fp_move (f2 b hb) (hn b hb)
      show Seg _ _ _ _ _ _ _ ((forTurn tg (.ref it) body [] X.env).onRaise fun x => do noteFrame x X.env; theTreesLotGoes x) _ _
      unfold forTurn
      rw [Sem.onRaise_eq_wrap]
      refine seg_bind_wrap ?_
      rw [(gl _).over]
      refine wpAny_standAt (seg_bind_wrap ?_)
      rw [(gl _).over]
      refine wpAny_onRaise ?_
      rcases turn i m ys σ3 H3 w3 with ⟨stop, qn⟩ | ⟨go, N, hN, step⟩
      · refine wpAny_mono (T.done X rfl rfl rfl hc i _ s3 σ3 H3 X.xe I3 (stat fr3) st3 stop) (fun r4 s4 hr => ?_) fun x s' hx => wpAny_standAt (note n s₀ x s' hx)
        obtain ⟨hr, I4⟩ := hr
        subst hr
        show Seg _ _ _ _ _ _ _ (.pure (.again (.block [] X.env))) _ _
        refine seg_again rfl ?_
        exact seg_leaf (.ok .next) (k.ok n ys s₀ s4 .next hn ⟨σ3, H3, ⟨acc, cc, r, I4⟩, qn⟩)
      · refine wpAny_mono (T.item X rfl rfl rfl hc i _ s3 σ3 H3 X.xe I3 (stat fr3) st3 go) (fun r4 s4 hr => ?_) fun x s' hx => wpAny_standAt (note n s₀ x s' hx)
        obtain ⟨u, hr, h4⟩ := hr
        subst hr
        show Seg _ _ _ _ _ _ _ (((letOwnedTupleGo tg (.ref it) u) >>= fun _ => assign tg X.env u >>= fun _ => execs body X.env >>= fun f => match f with
          | .next | .cont => again (.forLoop tg (.ref it) body [] X.env)
          | .brk => pure (.done .next)
          | .ret v => pure (.done (.ret v))).wrap _ _ _ _) _ _
        refine seg_bind_wrap ?_
        rw [(gl _).over]
        refine wpAny_mono h4 (fun _ s5 h5 => ?_) fun x s' hx => note n s₀ x s' hx
        obtain ⟨x, H5, I5, r5, y5, st5, fr5⟩ := h5
        have I5' := I5.pinned (stat fr5) (T.obj _ _ st5)
        refine seg_bind_wrap ?_
        rw [(gl _).over]
        refine wpAny_mono (hg.run _ s5 σ3 H5 x u _ I5' r5 (step x H5 y5)) (fun _ s6 h6 => ?_) fun x s' hx => note n s₀ x s' hx
        obtain ⟨σ6, H6, I6, q6⟩ := h6
        rw [Sem.bind_eq_wrap', Sem.wrap_wrap]
        have gip : ∀ q ∈ ip ++ pinsAt fp s5.heap, q.1 ≠ S := fun q hq => (List.mem_append.mp hq).elim (g.ip q) fun z y => by
          obtain ⟨hb, _⟩ := of_pinsAt z
          obtain ⟨_, _, _, _, _, f6⟩ := f2 q.1 hb
          exact f6 _ (List.mem_append_right _ List.mem_cons_self) y.symm
        have unp : ∀ {ys' : List V} {σ7 : St} {H7 : Hp} {s7 : Shared}, GI X S (ip ++ pinsAt fp s5.heap) ys' σ7 H7 s7 → GI X S ip ys' σ7 H7 s7 ∧ tn (i + 1) s7.heap ∧ ∀ b ∈ fp, H7 b = none := fun {ys' σ7 H7 s7} ⟨acc7, cc7, r7, I7⟩ =>
          ⟨⟨acc7, cc7, r7, Inv.unpinned (pins := (S, lstObj acc7 cc7) :: ip) I7⟩,
            T.keep _ _ _ st5 fun b hb o e => (I7.pin (b, o) (List.mem_append_right _ (List.mem_cons_of_mem _ (List.mem_append_right _ (mem_pinsAt hb e))))).1, fun b hb => by
              obtain ⟨o, e, d⟩ := T.obj _ _ st5 b hb
              exact (I7.pin (b, o) (List.mem_append_right _ (List.mem_cons_of_mem _ (List.mem_append_right _ (mem_pinsAt hb e))))).2.1⟩
        refine hb.run A S (ip ++ pinsAt fp s5.heap) R n ys s₀ _ _ _ _ _ _ s6 σ6 H6 { D with nx := N, ct := N, bk := D.nx } ⟨g.pn, gip, g.apart, (gl _).over, (gl _).split, (gl _).guard, rfl⟩ hn ⟨fun n' ys' s₀' s7 f hn' hs' => ?_, fun n' s₀' x s7 hx => note n' s₀' x s7 hx⟩ ⟨acc, cc, r, I6⟩ q6
        cases f with
        | next =>
          obtain ⟨σ7, H7, I7, n7⟩ := hs'
          obtain ⟨u1, u2, u3⟩ := unp I7
          obtain ⟨m', hm, w7⟩ := hN ys' σ7 H7 n7
          exact seg_again rfl (ih m' hm n' (i + 1) ys' s₀' s7 σ7 H7 hn' w7 u1 u2 u3)
        | cont =>
          obtain ⟨σ7, H7, I7, n7⟩ := hs'
          obtain ⟨u1, u2, u3⟩ := unp I7
          obtain ⟨m', hm, w7⟩ := hN ys' σ7 H7 n7
          exact seg_again rfl (ih m' hm n' (i + 1) ys' s₀' s7 σ7 H7 hn' w7 u1 u2 u3)
        | brk =>
          obtain ⟨σ7, H7, I7, n7⟩ := hs'
          exact seg_leaf (.ok .next) (k.ok n' ys' s₀' s7 .next hn' ⟨σ7, H7, (unp I7).1, n7⟩)
        | ret v =>
          obtain ⟨x7, σ7, H7, I7, r7, q7⟩ := hs'
          exact seg_leaf (.ok (.ret v)) (k.ok n' ys' s₀' s7 (.ret v) hn' ⟨x7, σ7, H7, (unp I7).1, r7, q7⟩)
  exact loop m0 n 0 ys s₀ s2 σ H2 hn w0 ⟨acc0, cc0, r0, I2⟩ st2 fun b hb => (f2 b hb).1
end
end L2.Tb
set_option Elab.async false
set_option linter.all false
set_option maxRecDepth 100000
set_option maxHeartbeats 4000000
/-! a generator method called with keywords; ~x by an own __invert__; math.lcm -/
namespace L2.Tb
open PySem PySem.Spec PyProof.Rows
def rLcm : List V → Hp → VK → Prop := fun vs H Q => ∃ a b : Nat, vs = [.int (a : Int), .int (b : Int)] ∧ a < 2 ^ 60 ∧ b < 2 ^ 60 ∧ Q (.int ((Nat.lcm a b : Nat) : Int)) H
theorem cr_lcm {X : Cx} : CallR X (.builtin "math.lcm") rLcm := by
  intro pins s σ H vs us Q I r h
  obtain ⟨a, b, rfl, ha, hb, q⟩ := h
  obtain ⟨t, u, rfl⟩ := Vals.int2 r
  exact PySem.W.mc_lcm (by omega) (by omega) fun _ => ⟨.int _, H, I.tok _, ⟨_, rfl⟩, by
    rw [Int.natAbs_natCast, Int.natAbs_natCast]
    exact q⟩
section
variable {X : Cx} {C f : Addr} {fd : FuncData} {ps : List Str} {sp : Sp} {k : Nat}
def rOwnInv (C : Addr) (sp : Sp) : V → Hp → VK → Prop := fun x H Q => ∃ (a dx : Addr) (fs : List (Str × V)), x = .ref a ∧ H a = some (.ins C dx fs) ∧ sp [.ref a] H Q E0
theorem un_ownInv {CX : CXT} (F : FnOk X.prog X.w X.K X.mg X.base CX k f fd ps sp) (hr : Room k X.A) (hs : PySem.W.findIn X.K (.ref C) "__invert__" = some (some (.ref f))) (hf : PySem.W.isFn X.K (.ref f) = true) (hb : Binds X.K fd ps []) (hx : Passes CX X E0) : UnR X (unaryOp .Invert) (rOwnInv C sp) := by
  intro pins s σ H x v Q I rx h
  obtain ⟨a, dx, fs, rfl, ea, h⟩ := h
  obtain rfl : v = Value.ref a := rx
  obtain ⟨mA, O, _⟩ := ins_get I.hok ea
  obtain ⟨od, J, _⟩ := O.look
  obtain ⟨m, hF⟩ := I.fr
  have hl := F.len _ _ _ _ h
  refine PySem.W.ksp_inv hF I.ok.mod.kin J hs hf (wpAny_call (codeAny_mono (F.run X.A X.stack s H ⟨[.ref a], []⟩ [.ref a] [.ref a] _ E0 hr I.env0 (by
    have z := hb s [.ref a] I.kIn (by simpa using hl)
    simpa using z) (.cons rfl .nil) h) fun r s' hq => ?_))
  match r, hq with
  | .error e, hq => exact hx pins σ H s e s' I hq
  | .ok (.ret u), hq => exact I.after hq
end
section
variable {X : Cx} {k : Nat} {f C : Addr} {fd : FuncData} {ps ks : List Str} {sp : SpG} {o : Expr} {m : Str} {apos pos : Pos} {ta : TE} {tk : TA} {kws : List Keyword}
def tMethGK (C : Addr) (m : Str) (sp : SpG) (E : XK) (ta : TE) (tk : TA) : TGen := fun σ H cont => ta σ H fun x H1 => ∃ a dx fs, x = .ref a ∧ H1 a = some (.ins C dx fs) ∧ fs.lookup m = none ∧ tk σ H1 fun zs H2 => sp (.ref a :: zs) H2 cont E
theorem pgen_methK {E : XK} {pl : Sem Bool} (he : PE X o ta) (c : Cls X.K C) (hm : Meth X.K C m f) (F : GFn X.prog X.w X.K X.mg X.base k f fd ps sp) (hr : Room k X.A) (hkw : PK X kws tk) (hl : ps.length = ks.length + 1)
    (hb : ∀ (sh : Shared) (a : Addr) (zs : List Value), zs.length = ks.length → BindsTo sh fd ⟨[.ref a], ks.zip zs⟩ (ps.zip (Value.ref a :: zs)))
    (hall : (backToKw pos (keywordEach kws X.env)).all (·.1.isSome) = true := by rfl) (hks : (backToKw pos (keywordEach kws X.env)).filterMap (·.1) = ks := by rfl)
    (hpl : ((backTo pos (starEach [] X.env)).any (·.1) || (backToKw pos (keywordEach kws X.env)).any (·.1.isNone)) = false := by rfl)
    (ht : eval (.Call (.Attribute o m apos) [] kws pos) X.env = (do
      let ov ← eval o X.env
      standAt apos.atName
      let (f, first) ← holding [ov] (getMethod ov m pl)
      callWith pos f first (backTo pos (starEach [] X.env)) (backToKw pos (keywordEach kws X.env))) := by rfl) :
    PGen X k (.Call (.Attribute o m apos) [] kws pos) (tMethGK C m sp E ta tk) E := by
  refine ⟨fun pins s σ H cont I h => PySem.W.methodCall_KW (pl := pl) (thn (he.run pins s σ H _ I h) fun u s1 hh => ?_) ht⟩
  obtain ⟨x, H1, I1, rx, a, dx, fs, ex, ea, lk, q⟩ := hh
  subst ex
  obtain rfl : u = Value.ref a := rx
  refine getmeth_ok I1 ea c hm lk (PySem.W.callWith_KW0 (h₀ := X.base) (first := [.ref a]) I.ok.mod.kin hm.kp hall (thn (hkw.run pos _ s1 σ H1 _ I1 q) fun ws s2 hh => ?_) hpl)
  obtain ⟨zs, H2, I2, rz, q2⟩ := hh
  refine ⟨I2.kIn, ?_⟩
  rw [hks]
  have hw : ws.length = ks.length := by
    have z := F.len _ _ _ _ q2
    rw [List.length_cons, hl] at z
    rw [← rz.length]
    omega
  refine wpAny_call (codeAny_mono (F.run X.A X.stack s2 H2 ⟨[.ref a], ks.zip ws⟩ (.ref a :: ws) (.ref a :: zs) cont E hr I2.env0 (hb s2 a ws hw) (.cons rfl rz) q2) fun r s3 hq => ?_)
  cases r with
  | error e => exact False.elim hq
  | ok fl =>
    cases fl with
    | ret u => exact ⟨H2, s2, [], I2, .nil, hq⟩
    | next => exact False.elim hq
    | brk => exact False.elim hq
    | cont => exact False.elim hq
end
end L2.Tb
set_option Elab.async false
set_option linter.all false
set_option maxRecDepth 100000
set_option maxHeartbeats 8000000
namespace L2.K53
open PySem PySem.Spec PyProof.Rows L2.Tb
open SX (S)
abbrev s_is_number : Stmt := top 8
abbrev N_is_number : List Str := ["value", "least", "most"]
theorem sc_is_number : FnScope N_is_number ["value", "least", "most"] (defScope s_is_number) := ⟨rfl, rfl, rfl, by decide +kernel, rfl, by decide +kernel, by decide +kernel⟩
abbrev s_joined : Stmt := top 20
abbrev N_joined : List Str := ["one", "other", "results", "ahead", "count", "value", "pairs", "pair", "text"]
theorem sc_joined : FnScope N_joined ["one", "other", "results"] (defScope s_joined) := ⟨rfl, rfl, rfl, by decide +kernel, rfl, by decide +kernel, by decide +kernel⟩
abbrev s_opposite : Stmt := top 21
abbrev N_opposite : List Str := ["digits", "digit"]
theorem sc_opposite : FnScope N_opposite ["digits"] (defScope s_opposite) := ⟨rfl, rfl, rfl, by decide +kernel, rfl, by decide +kernel, by decide +kernel⟩
abbrev s_land : Stmt := inClass (top 15) 6
abbrev N_land : List Str := ["self", "other"]
theorem sc_land : FnScope N_land ["self", "other"] (defScope s_land) := ⟨rfl, rfl, rfl, by decide +kernel, rfl, by decide +kernel, by decide +kernel⟩
abbrev s_lor : Stmt := inClass (top 15) 7
abbrev N_lor : List Str := ["self", "other"]
theorem sc_lor : FnScope N_lor ["self", "other"] (defScope s_lor) := ⟨rfl, rfl, rfl, by decide +kernel, rfl, by decide +kernel, by decide +kernel⟩
abbrev s_lsub : Stmt := inClass (top 15) 8
abbrev N_lsub : List Str := ["self", "other"]
theorem sc_lsub : FnScope N_lsub ["self", "other"] (defScope s_lsub) := ⟨rfl, rfl, rfl, by decide +kernel, rfl, by decide +kernel, by decide +kernel⟩
abbrev s_linv : Stmt := inClass (top 15) 9
abbrev N_linv : List Str := ["self"]
theorem sc_linv : FnScope N_linv ["self"] (defScope s_linv) := ⟨rfl, rfl, rfl, by decide +kernel, rfl, by decide +kernel, by decide +kernel⟩
/-- the names that joining reads -/
structure JoF (K : PySem.W.Frag) (w : World) (mg : Str → Option Value) (dO : Addr) : Prop where
  mB : ∃ t, mg "_IN_BOTH" = some (.str "0001" t)
  mA : ∃ t, mg "_IN_ANY" = some (.str "0111" t)
  mF : ∃ t, mg "_IN_FIRST_ALONE" = some (.str "0010" t)
  mX : ∃ t, mg "_FARTHEST" = some (.int 1000 t)
  mlcm : mg "lcm" = some (.builtin "math.lcm")
  o0 : KDct K w dO "0" (.str "1")
  o1 : KDct K w dO "1" (.str "0")
def spIsNum : Sp := fun vs H Q _ => ∃ v a b : Int, vs = [.int v, .int a, .int b] ∧ a ≤ v ∧ v ≤ b ∧ Q (.bl true) H
/-- a short word -/
structure Sml (h t : List Nat) : Prop where
  bh : Bin h
  bt : Bin t
  nt : t ≠ []
  lh : h.length ≤ 20
  lt : t.length ≤ 20
def spJoined (C : Addr) : Sp := fun vs H Q _ => ∃ (a b : Addr) (h1 t1 h2 t2 r : List Nat), vs = [.ref a, .ref b, .str (S r)] ∧ LenAt C H a h1 t1 ∧ LenAt C H b h2 t2 ∧ Sml h1 t1 ∧ Sml h2 t2 ∧ Four r ∧
  ∀ h t c H', Word (jf r (dg h1 t1) (dg h2 t2)) h t → Same H H' → LenAt C H' c h t → Q (.ref c) H'
def spJ (C : Addr) (r : List Nat) : Sp := fun vs H Q _ => ∃ (a b : Addr) (h1 t1 h2 t2 : List Nat), vs = [.ref a, .ref b] ∧ LenAt C H a h1 t1 ∧ LenAt C H b h2 t2 ∧ Sml h1 t1 ∧ Sml h2 t2 ∧
  ∀ h t c H', Word (jf r (dg h1 t1) (dg h2 t2)) h t → Same H H' → LenAt C H' c h t → Q (.ref c) H'
def spOpp : Sp := fun vs H Q _ => ∃ l : List Nat, vs = [.str (S l)] ∧ Bin l ∧ l.length ≤ 1000 ∧ ∀ H', Same H H' → Q (.str (S (l.map opp))) H'
def spInv (C : Addr) : Sp := fun vs H Q _ => ∃ (a : Addr) (h t : List Nat), vs = [.ref a] ∧ LenAt C H a h t ∧ Sml h t ∧ ∀ h' t' c H', Word (fun n => opp (dg h t n)) h' t' → Same H H' → LenAt C H' c h' t' → Q (.ref c) H'
theorem slc_from (t : List Nat) (c : Nat) : Txt.slice (S t) (some (c : Int)) none = S (t.drop c) := by
  have := SX.slice_from (a := t) (i := (c : Int)) (by omega)
  rwa [Int.toNat_natCast] at this
theorem slc_to (t : List Nat) (c : Nat) : Txt.slice (S t) none (some (c : Int)) = S (t.take c) := by
  have := SX.slice_to (a := t) (i := (c : Int)) (by omega)
  rwa [Int.toNat_natCast] at this
theorem seg_snoc (u : Nat → Nat) (a m : Nat) : seg u a (m + 1) = seg u a m ++ [u (a + m)] := by
  unfold seg
  rw [List.range_succ, List.map_append]
  rfl
theorem int_sign {c : Nat} (h : c = 48 ∨ c = 49) : PySem.intText? (S [c]) = some ((c - 48 : Nat) : Int) := by
  rcases h with rfl | rfl
  · decide +kernel
  · decide +kernel
section
variable {P : Program} {w : World} {K : PySem.W.Frag} {mg : Str → Option Value} {base : Heap} {f fi : Addr} {fd fdi : FuncData} {C dO : Addr} {es : Array DictEntry} {n : Nat}
theorem made {a dx : Addr} {h t : List Nat} {H : Hp} {Q : VK} {E : XK} (na : H a = none) (nd : H dx = none) (bh : Bin h) (bt : Bin t) (ht : t ≠ []) (lh : h.length ≤ 900) (lt : t.length ≤ 900)
    (q : ∀ h' t' H', Word (dg h t) h' t' → Same H H' → LenAt C H' a h' t' → Q .non H') : spLinit C [.ref a, .str (S h), .str (S t)] (upd (upd H dx (.own a)) a (.ins C dx [])) Q E :=
  ⟨a, dx, h, t, rfl, upd_same, bh, bt, ht, lh, lt, fun h' t' H' w' sB la => q h' t' H' w' (fun b o e => sB b o (ne_of_none e na) (by rw [upd_ne (ne_of_none e na), upd_ne (ne_of_none e nd)]; exact e)) la⟩
theorem c_is_number (k_is_integer : Cal P w K mg base 1 "is_integer" (spIsInt K)) (F : FnP K "is_number" s_is_number f fd) (hm : mg "is_number" = some (.ref f)) : Cal P w K mg base 2 "is_number" spIsNum := by
  have hnd := sc_is_number.nd
  refine cal_mk F hm sc_is_number (fun _ _ _ _ _ _ us hl => match us, hl with | [_, _, _], _ => rfl) (fun vs H Q E h => ?_) (fun cdv A outer s H vs Q E hr h => ?_)
  · obtain ⟨v, a, b, rfl, _⟩ := h
    rfl
  · obtain ⟨v, a, b, rfl, h1, h2, q⟩ := h
    refine ⟨_, (pss_one (ps_ret (pe_and (pe_cal k_is_integer hr (by omega) (by rfl) (pa_cons (pv 0) pa_nil)) (pe_one (pe_chain op_le op_le (pv 1) (pv 0) (pv 2)))))), ?_⟩
    refine ⟨_, rfl, .int v, rfl, .inl ⟨v, rfl, _, rfl, iteT ?_⟩⟩
    refine ⟨_, rfl, _, rfl, _, _, rfl, rfl, _, rfl, ?_⟩
    rw [decide_eq_true h1]
    refine iteT ⟨_, rfl, _, _, rfl, rfl, ?_⟩
    rw [show (fun i j : Int => V.bl (decide (i ≤ j))) v b = V.bl true from congrArg V.bl (decide_eq_true h2)]
    exact q
theorem c_opposite (T : Bt mg) (LF : LiF K w mg C dO es n) (JF : JoF K w mg dO) (F : FnP K "_opposite" s_opposite f fd) (hm : mg "_opposite" = some (.ref f)) : Cal P w K mg base 1 "_opposite" spOpp := by
  have hnd := sc_opposite.nd
  refine cal_mk F hm sc_opposite (fun _ _ _ _ _ _ us hl => match us, hl with | [_], _ => rfl) (fun vs H Q E h => ?_) (fun cdv A outer s H vs Q E hr h => ?_)
  · obtain ⟨l, rfl, _⟩ := h
    rfl
  · obtain ⟨l, rfl, hb, hl, q⟩ := h
    refine ⟨_, (pss_one (ps_ret (pe_join pe_str (pe_lc (own := [("digit", 1)]) (tt := tYes) (by rfl) hnd (pi_str (pv 0)) (blkOk_by (own := [("digit", 1)]) (N := N_opposite) (sc := defScope s_opposite) (by decide +kernel)) (fun _ _ _ _ _ => (pg_name (i := 1) hnd rfl (by first | exact Or.inl rfl | exact Or.inr rfl))) (fun _ _ _ _ _ => pts_nil) (fun _ _ _ _ _ => (pe_ix (show IxR _ (rIxD K w) from ix_kdict) (pe_glob (v := .ref dO) (by rfl) LF.mgO rfl) (pv 1) (fun _ _ => rfl))))))), ?_⟩
    refine ⟨⟨_, rfl⟩, _, rfl, S l, rfl, fun D nD => ?_⟩
    refine lc_it walk_str (fun i G => Same H G ∧ G D = some (.lst (((l.take i).map opp).map sgn))) ⟨same_new nD, upd_same⟩ (fun _ _ _ _ => trivial) ?_ ?_
    · rintro i x G G' hi ⟨sg, eg⟩ ⟨rfl, c, hc, rfl⟩
      have hc' : l[i]? = some c := by simpa using hc
      have li : i < l.length := (List.getElem?_eq_some_iff.mp hc').1
      refine ⟨rfl, ?_⟩
      unfold tYes
      dsimp only
      rw [if_pos rfl]
      have tk : l.take (i + 1) = l.take i ++ [c] := by
        rw [List.take_add_one, hc']
        rfl
      have fin : ∃ acc, G' D = some (.lst acc) ∧ acc.length < sizeLine ∧ (Same H (upd G' D (.lst (acc ++ [sgn (opp c)]))) ∧ upd G' D (.lst (acc ++ [sgn (opp c)])) D = some (.lst (((l.take (i + 1)).map opp).map sgn))) :=
        ⟨_, eg, by rw [List.length_map, List.length_map, List.length_take, sizeLine_eq]; omega, same_put nD sg, by rw [upd_same, tk, List.map_append, List.map_append]; rfl⟩
      rcases hb c (List.mem_of_getElem? hc') with rfl | rfl
      · exact ⟨_, rfl, dO, _, .str "1", rfl, by rw [str0], JF.o0, by rw [show (Str.ofString "1") = S [49] from str1]; exact fin⟩
      · exact ⟨_, rfl, dO, _, .str "0", rfl, by rw [str1], JF.o1, by rw [show (Str.ofString "0") = S [48] from str0]; exact fin⟩
    · rintro G ⟨sg, eg⟩
      rw [show (l.take (S l).cps.size) = l by simp] at eg
      refine ⟨_, D, ((l.map opp).map fun c => [c]).map S, rfl, rfl, .inl (SqL.of (by rw [eg, ← sgn_map]; rfl)), ?_, ?_⟩
      · rw [sum_signs, strE, SX.S_len, List.length_map]
        simp
        omega
      · rw [strE, join_signs]
        exact q G sg
theorem c_joined (T : Bt mg) (LF : LiF K w mg C dO es n) (LG : LiG K C) (JF : JoF K w mg dO) {ph gh pt gt : Addr} {fdh fdt : FuncData} (PH : PropOf K C "head" ph gh) (FH : FnOk P w K mg base L2.CX0 1 gh fdh ["self"] (spLhead C)) (BH : Binds K fdh ["self"] []) (PT : PropOf K C "tail" pt gt) (FT : FnOk P w K mg base L2.CX0 1 gt fdt ["self"] (spLtail C)) (BT : Binds K fdt ["self"] [])
    (KM : Mk K C fi) (Fi : FnOk P w K mg base (L2.CX P w) 2 fi fdi ["self", "head", "tail"] (spLinit C)) (Bi : Binds K fdi ["self", "head", "tail"] []) (k_pdigit : Cal P w K mg base 3 "_digit" (spPDigit C)) (F : FnP K "_joined" s_joined f fd) (hm : mg "_joined" = some (.ref f)) : Cal P w K mg base 4 "_joined" (spJoined C) := by
  have hnd := sc_joined.nd
  refine cal_mk F hm sc_joined (fun _ _ _ _ _ _ us hl => match us, hl with | [_, _, _], _ => rfl) (fun vs H Q E h => ?_) (fun cdv A outer s H vs Q E hr h => ?_)
  · obtain ⟨a, b, h1, t1, h2, t2, r, rfl, _⟩ := h
    rfl
  · obtain ⟨a, b, h1, t1, h2, t2, r, rfl, la, lb, m1, m2, hr4, q⟩ := h
    refine ⟨_, (pss_cons (ps_if (pt_not (pt_val (pe_callB call_isi (by rfl) T.m_isinstance (by decide +kernel) (pa_cons (pv 1) (pa_cons (pe_glob (v := .ref C) (by rfl) LF.mgC rfl) pa_nil)))))
      (pss_one ps_never)
      pss_nil)
      (pss_cons (ps_set (i := 3) hnd rfl (by first | exact Or.inl rfl | exact Or.inr rfl) (pe_callB (call_max2 (by rfl)) (by rfl) T.m_max (by decide +kernel) (pa_cons (pe_callB call_len_str (by rfl) T.m_len (by decide +kernel) (pa_cons (pe_prop (E := L2.E0) (pv 0) LF.cls PH FH (hr.mono (by omega)) BH .nil (fun _ _ _ _ _ _ _ h => h.elim) (by rfl)) pa_nil)) (pa_cons (pe_callB call_len_str (by rfl) T.m_len (by decide +kernel) (pa_cons (pe_prop (E := L2.E0) (pv 1) LF.cls PH FH (hr.mono (by omega)) BH .nil (fun _ _ _ _ _ _ _ h => h.elim) (by rfl)) pa_nil)) pa_nil))))
      (pss_cons (ps_set (i := 4) hnd rfl (by first | exact Or.inl rfl | exact Or.inr rfl) (pe_op op_add (pv 3) (pe_callBfun cr_lcm (by rfl) JF.mlcm (pa_cons (pe_callB call_len_str (by rfl) T.m_len (by decide +kernel) (pa_cons (pe_prop (E := L2.E0) (pv 0) LF.cls PT FT (hr.mono (by omega)) BT .nil (fun _ _ _ _ _ _ _ h => h.elim) (by rfl)) pa_nil)) (pa_cons (pe_callB call_len_str (by rfl) T.m_len (by decide +kernel) (pa_cons (pe_prop (E := L2.E0) (pv 1) LF.cls PT FT (hr.mono (by omega)) BT .nil (fun _ _ _ _ _ _ _ h => h.elim) (by rfl)) pa_nil)) pa_nil)))))
      (pss_cons (ps_setLc (i := 6) (own := [("value", 5)]) (tt := tYes) (by rfl) hnd rfl (by rfl) (sw_true rfl rfl rfl (by decide +kernel)) (pi_range2 (by rfl) T.m_range (pa_cons pe_int (pa_cons (pe_op op_add (pv 4) pe_int) pa_nil))) (blkOk_by (own := [("value", 5)]) (N := N_joined) (sc := defScope s_joined) (by decide +kernel)) (fun _ _ _ _ _ => (pg_name (i := 5) hnd rfl (by first | exact Or.inl rfl | exact Or.inr rfl))) (fun _ _ _ _ _ => pts_nil) (fun _ _ _ _ _ => (pe_op op_add (pe_op op_mul pe_int (pe_callTy call_int_str (by rfl) T.m_int (by decide +kernel) (pa_cons (pe_cal k_pdigit hr (by omega) (by rfl) (pa_cons (pv 0) (pa_cons (pv 5) pa_nil))) pa_nil))) (pe_callTy call_int_str (by rfl) T.m_int (by decide +kernel) (pa_cons (pe_cal k_pdigit hr (by omega) (by rfl) (pa_cons (pv 1) (pa_cons (pv 5) pa_nil))) pa_nil)))))
      (pss_cons (ps_set (i := 8) hnd rfl (by first | exact Or.inl rfl | exact Or.inr rfl) (pe_join pe_str (pe_lc (own := [("pair", 7)]) (tt := tYes) (by rfl) hnd (pi_list (pv 6)) (blkOk_by (own := [("pair", 7)]) (N := N_joined) (sc := defScope s_joined) (by decide +kernel)) (fun _ _ _ _ _ => (pg_name (i := 7) hnd rfl (by first | exact Or.inl rfl | exact Or.inr rfl))) (fun _ _ _ _ _ => pts_nil) (fun _ _ _ _ _ => (pe_ix ix_str (pv 2) (pv 7) (fun _ _ => rfl))))))
      (pss_one (ps_ret (pe_make KM Fi (hr.mono (by omega)) (by rfl) LF.mgC Bi .nil pass_none (pa_cons (pe_slice C8.sl_txt (pv 8) po_none (po_some (pv 3))) (pa_cons (pe_slice C8.sl_txt (pv 8) (po_some (pv 3)) po_none) pa_nil)))))))))), ?_⟩
    obtain ⟨dx, ea⟩ := id la
    obtain ⟨dy, eb⟩ := id lb
    obtain ⟨bh1, bt1, nt1, lh1, lt1⟩ := m1
    obtain ⟨bh2, bt2, nt2, lh2, lt2⟩ := m2
    refine ⟨_, rfl, _, _, _, _, _, rfl, .own C, .base (.ins eb LF.cls LG.ex.ha LG.ex.hn LG.ex.ht LG.ex.hm), LG.self, _, rfl, iteF ?_⟩
    dsimp only [tNext]
    refine ⟨_, rfl, a, dx, _, rfl, ea, a, h1, t1, rfl, la, _, rfl, slen (by omega), _, rfl, b, dy, _, rfl, eb, b, h2, t2, rfl, lb, _, rfl, slen (by omega), _, _, rfl, gname_go ?_⟩
    try dsimp only
    have tp1 : 0 < t1.length := List.length_pos_iff.mpr nt1
    have tp2 : 0 < t2.length := List.length_pos_iff.mpr nt2
    have ahead : (if ((S h2).length : Int) > ((S h1).length : Int) then ((S h2).length : Int) else ((S h1).length : Int)) = ((max h1.length h2.length : Nat) : Int) := by
      rw [SX.S_len, SX.S_len]
      split <;> omega
    rw [ahead]
    generalize hA : max h1.length h2.length = A0
    have hA1 : h1.length ≤ A0 := by omega
    have hA2 : h2.length ≤ A0 := by omega
    have hA3 : A0 ≤ 20 := by omega
    refine ⟨_, rfl, _, rfl, a, dx, _, rfl, ea, a, h1, t1, rfl, la, _, rfl, slen (by omega), _, rfl, b, dy, _, rfl, eb, b, h2, t2, rfl, lb, _, rfl, slen (by omega), t1.length, t2.length, by rw [SX.S_len, SX.S_len], by omega, by omega, _, _, rfl, rfl, gname_go ?_⟩
    try dsimp only
    generalize hL : Nat.lcm t1.length t2.length = L0
    have d1 : t1.length ∣ L0 := by rw [← hL]; exact Nat.dvd_lcm_left _ _
    have d2 : t2.length ∣ L0 := by rw [← hL]; exact Nat.dvd_lcm_right _ _
    have L1 : 1 ≤ L0 := by
      rw [← hL]
      exact Nat.lcm_pos tp1 tp2
    have L2 : L0 ≤ 400 := by
      have z : L0 ∣ t1.length * t2.length := by rw [← hL]; exact Nat.lcm_dvd_mul _ _
      have z2 := Nat.le_of_dvd (Nat.mul_pos tp1 tp2) z
      have z3 : t1.length * t2.length ≤ 20 * 20 := Nat.mul_le_mul lt1 lt2
      omega
    generalize hu1 : dg h1 t1 = u1 at q
    generalize hu2 : dg h2 t2 = u2 at q
    have b1 : ∀ n, u1 n = 48 ∨ u1 n = 49 := fun n => by rw [← hu1]; exact bin_dg bh1 bt1 nt1 n
    have b2 : ∀ n, u2 n = 48 ∨ u2 n = 49 := fun n => by rw [← hu2]; exact bin_dg bh2 bt2 nt2 n
    have ec : (A0 : Int) + ((L0 : Nat) : Int) = ((A0 + L0 : Nat) : Int) := by omega
    rw [ec]
    let pr : Nat → V := fun i => V.int ((2 * (u1 i - 48) + (u2 i - 48) : Nat) : Int)
    refine ⟨_, rfl, _, _, rfl, rfl, 1, ((A0 + L0 : Nat) : Int) + 1, rfl, ⟨by decide, by decide, by omega, by omega⟩, fun D nD => ?_⟩
    refine lc_range (lo := 1) (fun j G => Same H G ∧ G D = some (.lst ((List.range j).map pr))) ⟨same_new nD, upd_same⟩ ?_ ?_
    · rintro j G hj ⟨sg, eg⟩
      refine ⟨rfl, ?_⟩
      unfold tYes
      dsimp only
      rw [if_pos rfl]
      have ej : ((1 : Int) + (j : Int) - 1).toNat = j := by omega
      refine ⟨_, rfl, _, rfl, a, h1, t1, _, rfl, la.same sg, nt1, by omega, by omega, by omega, ?_⟩
      rw [ej, hu1]
      refine ⟨_, _, rfl, int_sign (b1 j), by show 1 ≤ 640; decide, 2, _, rfl, rfl, .inl ⟨by decide, by decide⟩, _, rfl, _, rfl, b, h2, t2, _, rfl, lb.same sg, nt2, by omega, by omega, by omega, ?_⟩
      rw [ej, hu2]
      refine ⟨_, _, rfl, int_sign (b2 j), by show 1 ≤ 640; decide, _, _, rfl, rfl, _, eg, by rw [List.length_map, List.length_range, sizeLine_eq]; omega, same_put nD sg, ?_⟩
      rw [upd_same, List.range_succ, List.map_append]
      congr 2
    · rintro G ⟨sg, eg⟩
      have e1 : (((A0 + L0 : Nat) : Int) + 1 - 1).toNat = A0 + L0 := by omega
      rw [e1] at eg
      refine gname_go ?_
      try dsimp only
      refine ⟨⟨_, rfl⟩, _, rfl, D, rfl, ⟨_, SqL.of eg⟩, fun D2 nD2 => ?_⟩
      generalize hv : jf r u1 u2 = v at q
      refine lc_list (xs := (List.range (A0 + L0)).map pr) (fun i G' => Same G G' ∧ G' D2 = some (.lst ((seg v 0 i).map sgn))) ⟨same_new nD2, upd_same⟩ (fun i G' _ y => SqL.of (y.1 _ _ eg)) ?_ ?_
      · rintro i y G' hi ⟨s2, e2⟩
        have hi' : i < A0 + L0 := by
          have := (List.getElem?_eq_some_iff.mp hi).1
          simpa using this
        have hy : y = pr i := by
          rw [List.getElem?_map, List.getElem?_range hi'] at hi
          exact (Option.some.inj hi).symm
        rw [hy]
        have lt4 := (jf_bin hr4 b1 b2 i).1
        refine ⟨rfl, ?_⟩
        unfold tYes
        dsimp only
        rw [if_pos rfl]
        refine ⟨_, rfl, _, rfl, S r, _, r.getD (2 * (u1 i - 48) + (u2 i - 48)) 0, rfl, rfl, slen (by rw [hr4.1]; decide), atI_nat ?_, _, e2, by rw [List.length_map, seg_len, sizeLine_eq]; omega, same_put nD2 s2, ?_⟩
        · show r[2 * (u1 i - 48) + (u2 i - 48)]? = _
          simp [List.getD, show 2 * (u1 i - 48) + (u2 i - 48) < r.length by rw [hr4.1]; exact lt4]
        · rw [upd_same, seg_snoc, List.map_append, Nat.zero_add, ← hv]
          rfl
      · rintro G' ⟨s2, e2⟩
        rw [List.length_map, List.length_range] at e2
        refine ⟨_, D2, ((seg v 0 (A0 + L0)).map fun c => [c]).map S, rfl, rfl, .inl (SqL.of (by rw [e2, ← sgn_map]; rfl)), ?_, ?_⟩
        · rw [sum_signs, strE, SX.S_len, seg_len]
          simp
          omega
        rw [strE, join_signs]
        refine gname_go ?_
        try dsimp only
        have slw := slen (l := seg v 0 (A0 + L0)) (by rw [seg_len]; omega)
        refine ⟨_, rfl, _, rfl, _, rfl, S (seg v 0 (A0 + L0)), rfl, slw, _, rfl, _, rfl, _, rfl, S (seg v 0 (A0 + L0)), rfl, slw, fun c dxc nc ndc _ => ?_⟩
        rw [slc_to, slc_from, seg_take, seg_drop]
        have bv : ∀ n, v n = 48 ∨ v n = 49 := fun n => by rw [← hv]; exact (jf_bin hr4 b1 b2 n).2
        have pv : ∀ n, A0 ≤ n → v n = v (n + L0) := fun n hn => by
          rw [← hv]
          refine jf_per (a := A0) (fun n hn => ?_) (fun n hn => ?_) n hn
          · rw [← hu1]
            exact per_dvd (a := h1.length) (fun n hn => dg_per n hn) d1 n (by omega)
          · rw [← hu2]
            exact per_dvd (a := h2.length) (fun n hn => dg_per n hn) d2 n (by omega)
        refine made nc ndc (bin_segv bv _ _) (bin_segv bv _ _) (fun z => ?_) (by rw [seg_len]; omega) (by rw [seg_len]; omega) fun h t H' W' s' lc' => ⟨rfl, q h t c H' ?_ ((sg.trans s2).trans s') lc'⟩
        · have := congrArg List.length z
          rw [seg_len, List.length_nil] at this
          omega
        · rw [show dg (seg v 0 A0) (seg v A0 L0) = v from funext (dg_seg L1 pv)] at W'
          exact W'
end
end L2.K53
set_option Elab.async false
set_option linter.all false
set_option maxRecDepth 100000
set_option maxHeartbeats 8000000
namespace L2.K53
open PySem PySem.Spec PyProof.Rows L2.Tb
open SX (S)
abbrev s_lupto : Stmt := inClass (top 15) 4
abbrev N_lupto : List Str := ["self", "number", "value"]
theorem sc_lupto : GScope N_lupto ["self", "number"] (defScope s_lupto) := ⟨rfl, rfl, rfl, by decide +kernel, rfl, by decide +kernel, by decide +kernel⟩
/-- the numbers from 1 to b that are in -/
def ins (u : Nat → Nat) (b : Nat) : List V := ((List.range b).filter fun i => decide (u i = 49)).map fun i : Nat => V.int ((i : Int) + 1)
def spUp (C : Addr) : SpG := fun vs H cont E => ∃ (a : Addr) (h t : List Nat) (b : Nat), vs = [.ref a, .int (b : Int)] ∧ LenAt C H a h t ∧ Sml h t ∧ b ≤ 1000 ∧ cont (ins (dg h t) b) H
theorem ins_succ (u : Nat → Nat) (i : Nat) : ins u (i + 1) = ins u i ++ (if u i = 49 then [V.int ((i : Int) + 1)] else []) := by
  unfold ins
  rw [List.range_succ, List.filter_append, List.map_append]
  congr 1
  by_cases c : u i = 49
  · simp [c]
  · simp [c]
theorem ins_len (u : Nat → Nat) (b : Nat) : (ins u b).length ≤ b := by
  unfold ins
  rw [List.length_map]
  have := List.length_filter_le (fun i => decide (u i = 49)) (List.range b)
  rw [List.length_range] at this
  exact this
theorem gfor_range {lo : Int} {n : Nat} {g : TG} {tb : TGn} {D : GEnds} {ys : List V} {σ : St} {H : Hp} (Pv : Nat → List V → St → Hp → Prop) (h0 : Pv 0 ys σ H)
    (hs : ∀ i ys σ H, i < n → Pv i ys σ H → g (.int (lo + (i : Nat))) σ H fun σ2 H2 => tb { D with nx := Pv (i + 1), ct := Pv (i + 1), bk := D.nx } ys σ2 H2) (hd : ∀ ys σ H, Pv n ys σ H → D.nx ys σ H) :
    ∃ W : Nat → Nat → List V → St → Hp → Prop, (∃ m, W 0 m ys σ H) ∧ ∀ i m ys σ H, W i m ys σ H →
      ((Itr lo n).stop i H ∧ D.nx ys σ H) ∨ ((Itr lo n).go i H ∧ ∃ N : List V → St → Hp → Prop, (∀ ys' σ' H', N ys' σ' H' → ∃ m', m' < m ∧ W (i + 1) m' ys' σ' H') ∧ ∀ x H', (Itr lo n).yld i H x H' → g x σ H' fun σ2 H2 => tb { D with nx := N, ct := N, bk := D.nx } ys σ2 H2) := by
  refine ⟨fun i m ys σ H => m = n - i ∧ i ≤ n ∧ Pv i ys σ H, ⟨n, by simp, Nat.zero_le _, h0⟩, ?_⟩
  rintro i m ys σ H ⟨rfl, hi, p⟩
  by_cases hlt : i < n
  · refine .inr ⟨hlt, Pv (i + 1), fun ys' σ' H' p' => ⟨n - (i + 1), by omega, rfl, hlt, p'⟩, fun x H' y => ?_⟩
    obtain ⟨rfl, rfl⟩ := y
    exact hs i ys σ _ hlt p
  · have e : i = n := by omega
    subst e
    exact .inl ⟨Nat.le_refl _, hd ys σ H p⟩
section
variable {P : Program} {w : World} {K : PySem.W.Frag} {mg : Str → Option Value} {base : Heap} {f fi : Addr} {fd fdi : FuncData} {C dO : Addr} {es : Array DictEntry} {n : Nat}
theorem c_land (JF : JoF K w mg dO) (k_joined : Cal P w K mg base 4 "_joined" (spJoined C)) (F : FunD K "__and__" "Lengths.__and__" (defArgs s_land) (defBody s_land) (defScope s_land) [] [] f fd) : FnOk P w K mg base L2.CX0 5 f fd ["self", "other"] (spJ C [48, 48, 48, 49]) := by
  have hnd := sc_land.nd
  obtain ⟨tk, hk⟩ := JF.mB
  refine F.ok sc_land (fun vs H Q E h => ?_) (fun cdv A outer s H vs Q E hr h => ?_)
  · obtain ⟨a, b, h1, t1, h2, t2, rfl, _⟩ := h
    rfl
  · obtain ⟨a, b, h1, t1, h2, t2, rfl, la, lb, m1, m2, q⟩ := h
    exact ⟨_, (pss_one (ps_ret (pe_cal k_joined hr (by omega) (by rfl) (pa_cons (pv 0) (pa_cons (pv 1) (pa_cons (pe_glob (v := .str "0001") (by rfl) hk ⟨_, rfl⟩) pa_nil)))))), _, rfl, _, rfl, a, b, h1, t1, h2, t2, [48, 48, 48, 49], by rw [show (Str.ofString "0001") = S [48, 48, 48, 49] by decide +kernel]; rfl, la, lb, m1, m2, ⟨rfl, by intro c hc; simp only [List.mem_cons, List.not_mem_nil, or_false] at hc; omega⟩, q⟩
theorem c_lor (JF : JoF K w mg dO) (k_joined : Cal P w K mg base 4 "_joined" (spJoined C)) (F : FunD K "__or__" "Lengths.__or__" (defArgs s_lor) (defBody s_lor) (defScope s_lor) [] [] f fd) : FnOk P w K mg base L2.CX0 5 f fd ["self", "other"] (spJ C [48, 49, 49, 49]) := by
  have hnd := sc_lor.nd
  obtain ⟨tk, hk⟩ := JF.mA
  refine F.ok sc_lor (fun vs H Q E h => ?_) (fun cdv A outer s H vs Q E hr h => ?_)
  · obtain ⟨a, b, h1, t1, h2, t2, rfl, _⟩ := h
    rfl
  · obtain ⟨a, b, h1, t1, h2, t2, rfl, la, lb, m1, m2, q⟩ := h
    exact ⟨_, (pss_one (ps_ret (pe_cal k_joined hr (by omega) (by rfl) (pa_cons (pv 0) (pa_cons (pv 1) (pa_cons (pe_glob (v := .str "0111") (by rfl) hk ⟨_, rfl⟩) pa_nil)))))), _, rfl, _, rfl, a, b, h1, t1, h2, t2, [48, 49, 49, 49], by rw [show (Str.ofString "0111") = S [48, 49, 49, 49] by decide +kernel]; rfl, la, lb, m1, m2, ⟨rfl, by intro c hc; simp only [List.mem_cons, List.not_mem_nil, or_false] at hc; omega⟩, q⟩
theorem c_lsub (JF : JoF K w mg dO) (k_joined : Cal P w K mg base 4 "_joined" (spJoined C)) (F : FunD K "__sub__" "Lengths.__sub__" (defArgs s_lsub) (defBody s_lsub) (defScope s_lsub) [] [] f fd) : FnOk P w K mg base L2.CX0 5 f fd ["self", "other"] (spJ C [48, 48, 49, 48]) := by
  have hnd := sc_lsub.nd
  obtain ⟨tk, hk⟩ := JF.mF
  refine F.ok sc_lsub (fun vs H Q E h => ?_) (fun cdv A outer s H vs Q E hr h => ?_)
  · obtain ⟨a, b, h1, t1, h2, t2, rfl, _⟩ := h
    rfl
  · obtain ⟨a, b, h1, t1, h2, t2, rfl, la, lb, m1, m2, q⟩ := h
    exact ⟨_, (pss_one (ps_ret (pe_cal k_joined hr (by omega) (by rfl) (pa_cons (pv 0) (pa_cons (pv 1) (pa_cons (pe_glob (v := .str "0010") (by rfl) hk ⟨_, rfl⟩) pa_nil)))))), _, rfl, _, rfl, a, b, h1, t1, h2, t2, [48, 48, 49, 48], by rw [show (Str.ofString "0010") = S [48, 48, 49, 48] by decide +kernel]; rfl, la, lb, m1, m2, ⟨rfl, by intro c hc; simp only [List.mem_cons, List.not_mem_nil, or_false] at hc; omega⟩, q⟩
theorem c_linv (LF : LiF K w mg C dO es n) (KM : Mk K C fi) (Fi : FnOk P w K mg base (L2.CX P w) 2 fi fdi ["self", "head", "tail"] (spLinit C)) (Bi : Binds K fdi ["self", "head", "tail"] []) (k_opposite : Cal P w K mg base 1 "_opposite" spOpp) (F : FunD K "__invert__" "Lengths.__invert__" (defArgs s_linv) (defBody s_linv) (defScope s_linv) [] [] f fd) :
    FnOk P w K mg base L2.CX0 4 f fd ["self"] (spInv C) := by
  have hnd := sc_linv.nd
  refine F.ok sc_linv (fun vs H Q E h => ?_) (fun cdv A outer s H vs Q E hr h => ?_)
  · obtain ⟨a, h, t, rfl, _⟩ := h
    rfl
  · obtain ⟨a, h, t, rfl, ⟨dx, ea⟩, m, q⟩ := h
    obtain ⟨bh, bt, nt, lh, lt⟩ := m
    refine ⟨_, PSs.nox (pss_one (ps_ret (pe_make KM Fi (hr.mono (by omega)) (by rfl) LF.mgC Bi .nil pass_none (pa_cons (pe_cal k_opposite hr (by omega) (by rfl) (pa_cons (pe_fld (pv 0) (by rfl)) pa_nil)) (pa_cons (pe_cal k_opposite hr (by omega) (by rfl) (pa_cons (pe_fld (pv 0) (by rfl)) pa_nil)) pa_nil))))), ?_⟩
    refine ⟨_, rfl, a, C, dx, _, _, rfl, ea, LF.cls, LF.noH, rfl, h, rfl, bh, by omega, fun H1 s1 => ⟨_, rfl, a, C, dx, _, _, rfl, s1 _ _ ea, LF.cls, LF.noT, rfl, t, rfl, bt, by omega, fun H2 s2 c dxc nc ndc _ => ?_⟩⟩
    refine made nc ndc (bin_opp bh) (bin_opp bt) (fun z => nt (by simpa using z)) (by rw [List.length_map]; omega) (by rw [List.length_map]; omega) fun h' t' H' W' s' lc' => ⟨rfl, q h' t' c H' ?_ ((s1.trans s2).trans s') lc'⟩
    rw [show dg (h.map opp) (t.map opp) = fun n => opp (dg h t n) from funext (dg_map nt)] at W'
    exact W'
theorem c_lupto (T : Bt mg) (LF : LiF K w mg C dO es n) (JF : JoF K w mg dO) {fc : Addr} {fdc : FuncData} (hc : PySem.W.findIn K (.ref C) "__contains__" = some (some (.ref fc))) (hcf : PySem.W.isFn K (.ref fc) = true) (Fc : FnOk P w K mg base L2.CX0 4 fc fdc ["self", "value"] (spLcont K C)) (Bc : Binds K fdc ["self", "value"] [])
    (k_is_number : Cal P w K mg base 2 "is_number" spIsNum) (F : FunD K "up_to" "Lengths.up_to" (defArgs s_lupto) (defBody s_lupto) (defScope s_lupto) [] [] f fd) : GFn P w K mg base 5 f fd ["self", "number"] (spUp C) := by
  have hnd := sc_lupto.nd
  obtain ⟨tk, hk⟩ := JF.mX
  obtain ⟨oc, od, dV, kV, doc, pm, an, cdv, ct, osl, rfl, lk, hcd, hD, hK⟩ := F.ex
  refine gfn_of lk hcd sc_lupto (fun vs H Q E h => ?_) fun A outer s H vs Q E pn hr h => ?_
  · obtain ⟨a, h, t, b, rfl, _⟩ := h
    rfl
  · obtain ⟨a, h, t, b, rfl, ⟨dx, ea⟩, m, hb, q⟩ := h
    refine ⟨_, gss_cons (gs_ps (ps_if (pt_not (pt_val (pe_cal k_is_number hr (by omega) (by rfl) (pa_cons (pv 1) (pa_cons pe_int (pa_cons (pe_glob (v := .int 1000) (by rfl) hk ⟨_, rfl⟩) pa_nil))))))
      (pss_one ps_never)
      pss_nil)) (gss_cons (gs_for owns_gcx (by rfl) (pi_range2 (by rfl) T.m_range (pa_cons pe_int (pa_cons (pe_op op_add (pv 1) pe_int) pa_nil))) (pg_name (i := 2) hnd rfl (by first | exact Or.inl rfl | exact Or.inr rfl))
      (gss_cons (gs_if (pt_cmpR (show OpR _ (compareOp .In) (rOwnIn C (spLcont K C)) from op_ownIn Fc hr hc hcf Bc) (pv 2) (pv 0) (by rfl)) (gss_cons (gs_yield (pv 2)) gss_nil) gss_nil) gss_nil)) gss_nil), ?_⟩
    refine ⟨_, rfl, b, 0, 1000, rfl, by omega, by omega, _, rfl, iteF ?_⟩
    refine ⟨_, rfl, _, _, rfl, rfl, 1, (b : Int) + 1, rfl, ⟨by decide, by decide, by omega, by omega⟩, ?_⟩
    refine gfor_range (fun i ys σ G => G = H ∧ ys = ins (dg h t) i ∧ ∃ x2, σ = [some (.ref a), some (.int (b : Int)), x2]) ⟨rfl, rfl, _, rfl⟩ ?_ ?_
    · rintro i ys σ G hi ⟨rfl, rfl, x2, rfl⟩
      have hi : i < b := by omega
      refine gname_go ?_
      try dsimp only
      refine ⟨_, rfl, _, rfl, a, dx, _, rfl, ea, a, h, t, _, rfl, ⟨dx, ea⟩, m.nt, by have := m.lh; omega, by have := m.lt; omega, .inl ⟨_, rfl, _, rfl, _, rfl, ?_⟩⟩
      rw [decide_eq_true (show (1 : Int) ≤ 1 + (i : Int) by omega), Bool.true_and, show ((1 : Int) + (i : Int) - 1).toNat = i by omega]
      by_cases c : dg h t i = 49
      · rw [decide_eq_true c]
        refine iteT ⟨by have := ins_len (dg h t) i; rw [sizeLine_eq]; omega, _, rfl, rfl, ?_, _, rfl⟩
        rw [ins_succ, if_pos c, Int.add_comm]
      · rw [decide_eq_false c]
        refine iteF ⟨rfl, ?_, _, rfl⟩
        rw [ins_succ, if_neg c, List.append_nil]
    · rintro ys σ G ⟨rfl, rfl, x2, rfl⟩
      have e : ((b : Int) + 1 - 1).toNat = b := by omega
      rw [e]
      exact q
end
end L2.K53
set_option Elab.async false
set_option linter.all false
set_option maxRecDepth 100000
set_option maxHeartbeats 8000000
namespace L2.K53
open PySem PySem.Spec PyProof.Rows L2.Tb
open SX (S)
abbrev s_is : Stmt := top 29
abbrev N_is : List Str := ["_law_mine", "_law_digits_here", "_law_start", "_law_first", "_law_again", "_law_head_here", "_law_tail_here", "_law_numbers", "_law_at"]
theorem sc_is : FnScope N_is ["_law_mine", "_law_digits_here", "_law_start"] (defScope s_is) := ⟨rfl, rfl, rfl, by decide +kernel, rfl, by decide +kernel, by decide +kernel⟩
/-- the class and what it answers to -/
structure JoP (P : Program) (w : World) (K : PySem.W.Frag) (mg : Str → Option Value) (base : Heap) (C dO : Addr) (es : Array DictEntry) (n : Nat) : Prop where
  mstr : mg "str" = none
  lf : LiF K w mg C dO es n
  lg : LiG K C
  jf : JoF K w mg dO
  mkr : ∃ fi fdi, Mk K C fi ∧ FnOk P w K mg base (L2.CX P w) 2 fi fdi ["self", "head", "tail"] (spLinit C) ∧ Binds K fdi ["self", "head", "tail"] []
  str : ∃ f fd, PySem.W.findIn K (.ref C) "__str__" = some (some (.ref f)) ∧ PySem.W.isFn K (.ref f) = true ∧ FnOk P w K mg base L2.CX0 1 f fd ["self"] (spLstr C) ∧ Binds K fd ["self"] []
  con : ∃ f fd, PySem.W.findIn K (.ref C) "__contains__" = some (some (.ref f)) ∧ PySem.W.isFn K (.ref f) = true ∧ FnOk P w K mg base L2.CX0 4 f fd ["self", "value"] (spLcont K C) ∧ Binds K fd ["self", "value"] []
  sf : PySem.W.selfFirst K C = true
  an : ∃ f fd, PySem.W.findIn K (.ref C) "__and__" = some (some (.ref f)) ∧ PySem.W.isFn K (.ref f) = true ∧ FnOk P w K mg base L2.CX0 5 f fd ["self", "other"] (spJ C [48, 48, 48, 49]) ∧ Binds K fd ["self", "other"] []
  or_ : ∃ f fd, PySem.W.findIn K (.ref C) "__or__" = some (some (.ref f)) ∧ PySem.W.isFn K (.ref f) = true ∧ FnOk P w K mg base L2.CX0 5 f fd ["self", "other"] (spJ C [48, 49, 49, 49]) ∧ Binds K fd ["self", "other"] []
  sub : ∃ f fd, PySem.W.findIn K (.ref C) "__sub__" = some (some (.ref f)) ∧ PySem.W.isFn K (.ref f) = true ∧ FnOk P w K mg base L2.CX0 5 f fd ["self", "other"] (spJ C [48, 48, 49, 48]) ∧ Binds K fd ["self", "other"] []
  inv : ∃ f fd, PySem.W.findIn K (.ref C) "__invert__" = some (some (.ref f)) ∧ PySem.W.isFn K (.ref f) = true ∧ FnOk P w K mg base L2.CX0 4 f fd ["self"] (spInv C) ∧ Binds K fd ["self"] []
  up : ∃ g fd, Meth K C "up_to" g ∧ GFn P w K mg base 5 g fd ["self", "number"] (spUp C) ∧ Binds K fd ["self", "number"] [] ∧
    ∀ (sh : Shared) (a : Addr) (zs : List Value), zs.length = (["number"] : List Str).length → BindsTo sh fd ⟨[.ref a], (["number"] : List Str).zip zs⟩ ((["self", "number"] : List Str).zip (Value.ref a :: zs))
theorem dp_strs {K : PySem.W.Frag} {H : Hp} : ∀ ns : List Str, DpAll K H (ns.map V.str) (ns.map PyData.str)
  | [] => .nil
  | n :: ns => .cons (.str n) (dp_strs ns)
theorem strOk_S {l : List Nat} (h : ∀ c ∈ l, c < 1114112) : PyData.strOk (S l) = true := by
  unfold PyData.strOk
  rw [← Array.all_toList]
  refine List.all_eq_true.mpr fun c hc => decide_eq_true (h c ?_)
  simpa using hc
theorem bin_lt {l : List Nat} (h : Bin l) : ∀ c ∈ l, c < 1114112 := fun c hc => by rcases h c hc with rfl | rfl <;> decide
theorem strs_lay : ∀ us : List Str, (∀ u ∈ us, PyData.strOk u = true) → PyData.canLayAll0 (us.map PyData.str) = true
  | [], _ => by simp [PyData.canLayAll0]
  | u :: us, hu => by
    have h := strs_lay us fun v hv => hu v (List.mem_cons_of_mem _ hv)
    simp [PyData.canLayAll0, PyData.canLay0, h, hu u List.mem_cons_self]
theorem strs_depth : ∀ us : List Str, PyData.depthAll (us.map PyData.str) ≤ 1
  | [] => by simp [PyData.depthAll]
  | u :: us => by
    have h := strs_depth us
    have h2 : (PyData.str u).depth = 0 := by simp [PyData.depth]
    simp only [List.map_cons, PyData.depthAll]
    omega
theorem strs_shaped (us : List Str) (hu : ∀ u ∈ us, PyData.strOk u = true) : SeqAt.shaped (.list (us.map PyData.str)) = true := by
  show (PyData.canLay0 (.list (us.map PyData.str)) && decide (PyData.depth (.list (us.map PyData.str)) ≤ 64)) = true
  rw [Bool.and_eq_true]
  exact ⟨by simp only [PyData.canLay0]; exact strs_lay us hu, decide_eq_true (by have := strs_depth us; simp only [PyData.depth]; omega)⟩
theorem strs_same : ∀ us : List Str, PyData.eqvAll (us.map PyData.str) (us.map PyData.str) = true
  | [] => by simp [PyData.eqvAll]
  | u :: us => by
    have h := strs_same us
    simp [PyData.eqvAll, PyData.eqv, h]
theorem line_x {x y : List Nat} (lx : x.length ≤ 900) (ly : y.length ≤ 900) : (S x).length + (Str.ofString "(").length ≤ sizeLine ∧ (S x ++ Str.ofString "(").length + (S y).length ≤ sizeLine ∧ ((S x ++ Str.ofString "(") ++ S y).length + (Str.ofString ")").length ≤ sizeLine ∧
    ((S x ++ Str.ofString "(") ++ S y) ++ Str.ofString ")" = S (txt x y) := by
  rw [strO, strCl, SX.S_cat, SX.S_cat, SX.S_cat]
  refine ⟨?_, ?_, ?_, rfl⟩ <;> simp only [SX.S_len, List.length_append, List.length_singleton, sizeLine_eq] <;> omega
def spIs (C : Addr) : Sp := fun vs H Q _ => ∃ (a : Addr) (h t l : List Nat) (st : Nat), vs = [.ref a, .str (S l), .int (st : Int)] ∧ LenAt C H a h t ∧ Word (dg (l.take st) (l.drop st)) h t ∧ st < l.length ∧ l.length ≤ 100 ∧ ∀ H', Same H H' → Q (.bl true) H'
section
variable {P : Program} {w : World} {K : PySem.W.Frag} {mg : Str → Option Value} {base : Heap} {f : Addr} {fd : FuncData} {C dO : Addr} {es : Array DictEntry} {n : Nat}
theorem cont_go {a : Addr} {h t fh ft : List Nat} {v : V} {H : Hp} {Q : VK} (la : LenAt C H a h t) (W : Word (dg fh ft) h t) (q : (∃ i : Int, v = .int i ∧ Q (.bl (decide (1 ≤ i) && decide (dg fh ft (i - 1).toNat = 49))) H) ∨ (NoI K H v ∧ Q (.bl false) H)) : rOwnIn C (spLcont K C) v (.ref a) H Q := by
  obtain ⟨dx, e⟩ := la
  refine ⟨a, dx, _, rfl, e, a, h, t, v, rfl, ⟨dx, e⟩, W.ne, W.lh, W.lt, ?_⟩
  rcases q with ⟨i, rfl, q⟩ | ⟨no, q⟩
  · exact .inl ⟨i, rfl, _, rfl, by rw [W.can.dg]; exact q⟩
  · exact .inr ⟨no, _, rfl, q⟩
theorem c_is (T : Bt mg) (JP : JoP P w K mg base C dO es n) (F : FnP K "_law_is" s_is f fd) (hm : mg "_law_is" = some (.ref f)) (k_digit : Cal P w K mg base 1 "_law_digit" spDigit) (k_shortest : Cal P w K mg base 2 "_law_shortest" spShortest) : Cal P w K mg base 5 "_law_is" (spIs C) := by
  have hnd := sc_is.nd
  obtain ⟨mstr, LF, LG, JF, _, ⟨fs, fds, hs, hsf, Fs, Bs⟩, ⟨fc, fdc, hc, hcf, Fc, Bc⟩, _, _, _, _, _, _⟩ := JP
  refine cal_mk F hm sc_is (fun _ _ _ _ _ _ us hl => match us, hl with | [_, _, _], _ => rfl) (fun vs H Q E h => ?_) (fun cdv A outer s H vs Q E hr h => ?_)
  · obtain ⟨a, h, t, l, st, rfl, _⟩ := h
    rfl
  · obtain ⟨a, h, t, l, st, rfl, la, W, hst, ll, q⟩ := h
    refine ⟨_, (pss_cons (ps_pairL rfl (pa_cons (pe_slice C8.sl_txt (pv 1) po_none (po_some (pv 2))) (pa_cons (pe_slice C8.sl_txt (pv 1) (po_some (pv 2)) po_none) pa_nil)) (pgs_cons (pg_name (i := 3) hnd rfl (by first | exact Or.inl rfl | exact Or.inr rfl)) (pgs_cons (pg_name (i := 4) hnd rfl (by first | exact Or.inl rfl | exact Or.inr rfl)) pgs_nil)) (by rfl) (by rfl) (by rfl))
      (pss_cons (ps_asg (pe_cal k_shortest hr (by omega) (by rfl) (pa_cons (pv 3) (pa_cons (pv 4) pa_nil))) (pg_tup (by rfl) (pgs_cons (pg_name (i := 5) hnd rfl (by first | exact Or.inl rfl | exact Or.inr rfl)) (pgs_cons (pg_name (i := 6) hnd rfl (by first | exact Or.inl rfl | exact Or.inr rfl)) pgs_nil))))
      (pss_cons (ps_if (PW.pt (pw_or (pt_not (pt_val (pe_callB call_isi (by rfl) T.m_isinstance (by decide +kernel) (pa_cons (pv 0) (pa_cons (pe_glob (v := .ref C) (by rfl) LF.mgC rfl) pa_nil))))) (pw_or1 (pt_cmpR op_ne (pe_callTy (call_strOwn Fs (hr.mono (by omega)) hs hsf Bs) (by rfl) mstr (by decide +kernel) (pa_cons (pv 0) pa_nil)) (pe_op op_add_str (pe_op op_add_str (pe_op op_add_str (pv 5) pe_str) (pv 6)) pe_str) (nomark _)))))
      (pss_one (ps_ret pe_bl))
      pss_nil)
      (pss_cons (ps_set (i := 7) hnd rfl (by first | exact Or.inl rfl | exact Or.inr rfl) (pe_op op_cat (pe_listRg (by rfl) (by rfl) T.m_list (prg_2 (by rfl) T.m_range pe_int pe_int)) (pe_lst (pa_cons (pe_op op_add (pe_op op_pow pe_int pe_int) pe_int) (pa_cons (pe_op op_sub (pe_op op_pow pe_int pe_int) pe_int) pa_nil)))))
      (pss_one (ps_ret (pe_cmpR (show OpR _ (compareOp .Eq) (rEqD K) from op_eqD hr.units) (pe_lc (own := [("_law_at", 8)]) (by rfl) hnd (pi_list (pv 7)) (blkOk_by (own := [("_law_at", 8)]) (N := N_is) (sc := defScope s_is) (by decide +kernel)) (fun _ _ _ _ _ => (pg_name (i := 8) hnd rfl (by first | exact Or.inl rfl | exact Or.inr rfl))) (fun _ _ _ _ _ => (pts_one (pt_cmpR op_ne (pe_cmpR (show OpR _ (compareOp .In) (rOwnIn C (spLcont K C)) from op_ownIn Fc (hr.mono (by omega)) hc hcf Bc) (pv 8) (pv 0) (by rfl)) (pe_cmpR op_eq (pe_cal k_digit hr (by omega) (by rfl) (pa_cons (pv 3) (pa_cons (pv 4) (pa_cons (pe_op op_sub (pv 8) pe_int) pa_nil)))) pe_str (nomark _)) (nomark _)))) (fun _ _ _ _ _ => (pv 8))) (pe_lst pa_nil) (nomark _)))))))), ?_⟩
    have sll := slen (l := l) (by omega)
    refine ⟨_, rfl, _, rfl, _, rfl, S l, rfl, sll, _, rfl, _, rfl, _, rfl, S l, rfl, sll, rfl, _, _, rfl, _, _, rfl, rfl, ?_⟩
    rw [slc_to, slc_from]
    generalize hf : l.take st = fh at W
    generalize ha : l.drop st = ft at W
    have lfh : fh.length ≤ 100 := by rw [← hf, List.length_take]; omega
    have lft : ft.length ≤ 100 := by rw [← ha, List.length_drop]; omega
    have hft : ft ≠ [] := fun z => by
      have := congrArg List.length (ha.trans z)
      rw [List.length_drop, List.length_nil] at this
      omega
    try dsimp only
    refine ⟨_, rfl, _, rfl, fh, ft, rfl, hft, lfh, lft, fun h' t' T0 H1 c1 s1 eT => ?_⟩
    obtain ⟨rfl, rfl⟩ := W.can.uniq c1
    refine ⟨T0, _, rfl, SqT.of eT, rfl, _, _, rfl, _, _, rfl, rfl, ?_⟩
    try dsimp only
    have la1 := la.same s1
    obtain ⟨dx, ea⟩ := id la1
    obtain ⟨x1, x2, x3, x4⟩ := line_x W.lh W.lt
    refine ⟨_, rfl, _, _, _, _, _, rfl, .own C, .base (.ins ea LF.cls LG.ex.ha LG.ex.hn LG.ex.ht LG.ex.hm), LG.self, _, rfl, iteF ?_⟩
    refine ⟨_, rfl, a, dx, _, rfl, ea, a, h, t, rfl, la1, W.lh, W.lt, _, rfl, _, rfl, _, _, rfl, rfl, x1, _, rfl, _, _, rfl, rfl, x2, _, _, rfl, rfl, x3, ?_⟩
    rw [x4]
    refine ⟨rfl, _, rfl, ?_⟩
    rw [decide_eq_true rfl]
    refine iteF ?_
    dsimp only [tNext]
    refine ⟨1, 121, rfl, rfl, ⟨by decide, by decide, by decide, by decide, by decide⟩, fun R nR => ?_⟩
    refine ⟨10, 29, rfl, rfl, ⟨by decide, by decide, by decide⟩, _, 1, rfl, rfl, 10, 30, rfl, rfl, ⟨by decide, by decide, by decide⟩, _, 6, rfl, rfl, Nat.le_of_ble_eq_true rfl, fun M nM => ?_⟩
    have sR := same_new (o := .lst (rgV 1 121)) nR
    generalize hO : HO.lst [V.int ((10 : Int) ^ (29 : Int).toNat + 1), V.int ((10 : Int) ^ (30 : Int).toNat - 6)] = oM at *
    have sM := same_new (o := oM) nM
    have eR := sM _ _ (upd_same (H := H1) (a := R) (o := .lst (rgV 1 121)))
    refine ⟨R, M, rgV 1 121, [V.int ((10 : Int) ^ (29 : Int).toNat + 1), V.int ((10 : Int) ^ (30 : Int).toNat - 6)], rfl, rfl, eR, by rw [upd_same, hO], by decide +kernel, fun Z nZ => gname_go ?_⟩
    generalize hN : rgV 1 121 ++ [V.int ((10 : Int) ^ (29 : Int).toNat + 1), V.int ((10 : Int) ^ (30 : Int).toNat - 6)] = ns
    have big : ∀ y ∈ ns, ∃ m : Nat, y = .int ((m : Int) + 1) := fun y hy => by
      rw [← hN] at hy
      rcases List.mem_append.mp hy with hy | hy
      · obtain ⟨i, _, rfl⟩ := List.mem_map.mp hy
        exact ⟨i, by rw [Int.add_comm]⟩
      · simp only [List.mem_cons, List.not_mem_nil, or_false] at hy
        rcases hy with rfl | rfl
        · exact ⟨10 ^ 29, by decide +kernel⟩
        · exact ⟨10 ^ 30 - 7, by decide +kernel⟩
    have sZ := same_new (o := .lst ns) nZ
    have la4 := ((la1.same sR).same sM).same sZ
    have s4 := ((s1.trans sR).trans sM).trans sZ
    have eZ := upd_same (H := upd (upd H1 R (.lst (rgV 1 121))) M oM) (a := Z) (o := .lst ns)
    generalize upd (upd (upd H1 R (.lst (rgV 1 121))) M oM) Z (.lst ns) = H4 at sZ la4 s4 eZ ⊢
    try dsimp only
    refine ret_go ?_
    refine ⟨_, rfl, Z, rfl, ⟨_, SqL.of eZ⟩, fun D nD => ?_⟩
    refine lc_list (xs := ns) (fun i G => Same H4 G ∧ G D = some (.lst [])) ⟨same_new nD, upd_same⟩ (fun i G _ y => SqL.of (y.1 _ _ eZ)) ?_ ?_
    · rintro i y G hi ⟨sg, eg⟩
      obtain ⟨m, rfl⟩ := big y (List.mem_of_getElem? hi)
      refine ⟨rfl, _, rfl, _, rfl, cont_go (la4.same sg) W (.inl ⟨_, rfl, ?_⟩)⟩
      rw [show decide (1 ≤ (m : Int) + 1) = true from decide_eq_true (by omega), Bool.true_and, show ((m : Int) + 1 - 1).toNat = m by omega]
      refine ⟨_, rfl, _, rfl, _, rfl, _, _, rfl, rfl, fh, ft, m, by
        show [V.str (S fh), V.str (S ft), V.int ((m : Int) + 1 - 1)] = _
        rw [show (m : Int) + 1 - 1 = (m : Int) by omega], by omega, by omega, hft, ?_⟩
      rw [str1]
      refine ⟨rfl, rfl, _, rfl, ?_⟩
      rw [show decide (V.str (S [dg fh ft m]) = V.str (S [49])) = decide (dg fh ft m = 49) from decide_eq_decide.mpr ⟨fun h => by injection h with h; have := SX.S_inj h; simpa using this, fun h => by rw [h]⟩]
      rw [decide_eq_true rfl]
      exact iteF ⟨sg, eg⟩
    · rintro G ⟨sg, eg⟩
      refine ⟨Nat.zero_le _, fun L nL => ?_⟩
      have sL := same_new (o := .lst []) nL
      refine ⟨.list [], .list [], .lst (SqL.of (sL _ _ eg)) .nil, .lst (SqL.of upd_same) .nil, nil_shaped, nil_shaped, ?_⟩
      rw [show PyData.eqv (.list []) (.list []) = true from ints_nil []]
      exact q _ ((s4.trans sg).trans sL)
end
end L2.K53
set_option Elab.async false
set_option linter.all false
set_option maxRecDepth 100000
set_option maxHeartbeats 8000000
namespace L2.K53
open PySem PySem.Spec PyProof.Rows L2.Tb
open SX (S)
abbrev s_both : Stmt := top 30
abbrev N_both : List Str := ["_law_one", "_law_other", "_law_worth", "_law_start", "_law_found", "_law_at", "_law_pair"]
theorem sc_both : FnScope N_both ["_law_one", "_law_other", "_law_worth"] (defScope s_both) := ⟨rfl, rfl, rfl, by decide +kernel, rfl, by decide +kernel, by decide +kernel⟩
abbrev s_listed : Stmt := top 31
abbrev N_listed : List Str := ["_law_mine", "_law_some", "_law_bound", "_law_at", "_law_due", "_law_gave"]
theorem sc_listed : FnScope N_listed ["_law_mine", "_law_some", "_law_bound"] (defScope s_listed) := ⟨rfl, rfl, rfl, by decide +kernel, rfl, by decide +kernel, by decide +kernel⟩
/-- what is worth a 1 -/
def wf (ws : List V) (u1 u2 : Nat → Nat) : Nat → Nat := fun n => if V.str (S [u1 n, u2 n]) ∈ ws then 49 else 48
def PairS (H : Hp) (p : Addr) (h t : List Nat) : Prop := H p = some (.tup [.str (S h), .str (S t)])
def spBoth : Sp := fun vs H Q _ => ∃ (p q wd : Addr) (h1 t1 h2 t2 : List Nat) (ws : List V), vs = [.ref p, .ref q, .ref wd] ∧ PairS H p h1 t1 ∧ PairS H q h2 t2 ∧ H wd = some (.lst ws) ∧ (∀ x ∈ ws, ∃ z, x = .str z) ∧ ws.length ≤ 10 ∧ Sml h1 t1 ∧ Sml h2 t2 ∧ h1.length ≤ 10 ∧ h2.length ≤ 10 ∧ t1.length ≤ 9 ∧ t2.length ≤ 9 ∧
  ∀ T : Addr, H T = none → Q (.ref T) (upd H T (.tup [.str (S (seg (wf ws (dg h1 t1) (dg h2 t2)) 0 (max h1.length h2.length + t1.length * t2.length))), .int ((max h1.length h2.length : Nat) : Int)]))
def spListed (C : Addr) : Sp := fun vs H Q _ => ∃ (a p : Addr) (h t h1 t1 : List Nat) (b : Nat), vs = [.ref a, .ref p, .int (b : Int)] ∧ LenAt C H a h t ∧ Word (dg h1 t1) h t ∧ Sml h t ∧ PairS H p h1 t1 ∧ Sml h1 t1 ∧ b ≤ 1000 ∧ ∀ H', Same H H' → Q (.bl true) H'
theorem in_strs {a : Str} : ∀ {ws : List V}, (∀ x ∈ ws, ∃ z, x = .str z) → inV (.str a) ws = decide (V.str a ∈ ws)
  | [], _ => by simp [inV]
  | x :: ws, h => by
    obtain ⟨z, rfl⟩ := h x List.mem_cons_self
    have ih := in_strs (a := a) (ws := ws) fun y hy => h y (List.mem_cons_of_mem _ hy)
    unfold inV at ih ⊢
    rw [List.any_cons, ih]
    by_cases c : z = a
    · subst c
      simp [eqV]
    · have c2 : ¬ a = z := fun e => c e.symm
      simp [eqV, c, c2]
theorem strs_flat {ws : List V} (h : ∀ x ∈ ws, ∃ z, x = .str z) : ws.all flatV = true := List.all_eq_true.mpr fun x hx => by
  obtain ⟨z, rfl⟩ := h x hx
  rfl
theorem ints_same : ∀ us : List Int, PyData.eqvAll (us.map PyData.int) (us.map PyData.int) = true
  | [] => by simp [PyData.eqvAll]
  | u :: us => by
    have h := ints_same us
    simp [PyData.eqvAll, PyData.eqv, h]
def insI (u : Nat → Nat) (b : Nat) : List Int := ((List.range b).filter fun i => decide (u i = 49)).map fun i : Nat => (i : Int) + 1
theorem ins_eq (u : Nat → Nat) (b : Nat) : ins u b = (insI u b).map V.int := by
  unfold ins insI
  rw [List.map_map]
  rfl
section
variable {P : Program} {w : World} {K : PySem.W.Frag} {mg : Str → Option Value} {base : Heap} {f : Addr} {fd : FuncData} {C dO : Addr} {es : Array DictEntry} {n : Nat}
theorem c_both (T : Bt mg) (F : FnP K "_law_both" s_both f fd) (hm : mg "_law_both" = some (.ref f)) (k_digit : Cal P w K mg base 1 "_law_digit" spDigit) : Cal P w K mg base 2 "_law_both" spBoth := by
  have hnd := sc_both.nd
  refine cal_mk F hm sc_both (fun _ _ _ _ _ _ us hl => match us, hl with | [_, _, _], _ => rfl) (fun vs H Q E h => ?_) (fun cdv A outer s H vs Q E hr h => ?_)
  · obtain ⟨p, q, wd, h1, t1, h2, t2, ws, rfl, _⟩ := h
    rfl
  · obtain ⟨p, q', wd, h1, t1, h2, t2, ws, rfl, e1, e2, ew, hws, lw, m1, m2, lh1, lh2, lt1, lt2, q⟩ := h
    refine ⟨_, (pss_cons (ps_set (i := 3) hnd rfl (by first | exact Or.inl rfl | exact Or.inr rfl) (pe_callB (call_max2 (by rfl)) (by rfl) T.m_max (by decide +kernel) (pa_cons (pe_callB call_len_str (by rfl) T.m_len (by decide +kernel) (pa_cons (pe_ix (show IxR _ (rIxT K) from ix_tup) (pv 0) pe_int (fun _ _ => rfl)) pa_nil)) (pa_cons (pe_callB call_len_str (by rfl) T.m_len (by decide +kernel) (pa_cons (pe_ix (show IxR _ (rIxT K) from ix_tup) (pv 1) pe_int (fun _ _ => rfl)) pa_nil)) pa_nil))))
      (pss_cons (ps_set (i := 4) hnd rfl (by first | exact Or.inl rfl | exact Or.inr rfl) pe_str)
      (pss_cons (ps_for PassesOwn.never (by rfl) (pi_range1 (by rfl) T.m_range (pa_cons (pe_op op_add (pv 3) (pe_op op_mul (pe_callB call_len_str (by rfl) T.m_len (by decide +kernel) (pa_cons (pe_ix (show IxR _ (rIxT K) from ix_tup) (pv 0) pe_int (fun _ _ => rfl)) pa_nil)) (pe_callB call_len_str (by rfl) T.m_len (by decide +kernel) (pa_cons (pe_ix (show IxR _ (rIxT K) from ix_tup) (pv 1) pe_int (fun _ _ => rfl)) pa_nil)))) pa_nil)) (pg_name (i := 5) hnd rfl (by first | exact Or.inl rfl | exact Or.inr rfl))
      (pss_cons (ps_set (i := 6) hnd rfl (by first | exact Or.inl rfl | exact Or.inr rfl) (pe_op op_add_str (pe_cal k_digit hr (by omega) (by rfl) (pa_cons (pe_ix (show IxR _ (rIxT K) from ix_tup) (pv 0) pe_int (fun _ _ => rfl)) (pa_cons (pe_ix (show IxR _ (rIxT K) from ix_tup) (pv 0) pe_int (fun _ _ => rfl)) (pa_cons (pv 5) pa_nil)))) (pe_cal k_digit hr (by omega) (by rfl) (pa_cons (pe_ix (show IxR _ (rIxT K) from ix_tup) (pv 1) pe_int (fun _ _ => rfl)) (pa_cons (pe_ix (show IxR _ (rIxT K) from ix_tup) (pv 1) pe_int (fun _ _ => rfl)) (pa_cons (pv 5) pa_nil))))))
      (pss_one (ps_set (i := 4) hnd rfl (by first | exact Or.inl rfl | exact Or.inr rfl) (pe_op op_add_str (pv 4) (pe_ifExp (pt_cmpR (show OpR _ (compareOp .In) (rIn K false) from op_in_seq) (pv 6) (pv 2) (by rfl)) pe_str pe_str))))))
      (pss_one (ps_ret (pe_tup (pa_cons (pv 4) (pa_cons (pv 3) pa_nil)))))))), ?_⟩
    have s1 := slen (l := h1) (by omega)
    have s2 := slen (l := h2) (by omega)
    have s3 := slen (l := t1) (by omega)
    have s4 := slen (l := t2) (by omega)
    refine ⟨_, rfl, p, _, 0, .str (S h1), rfl, rfl, SqT.of e1, rfl, _, rfl, s1, _, rfl, q', _, 0, .str (S h2), rfl, rfl, SqT.of e2, rfl, _, rfl, s2, _, _, rfl, gname_go (gname_go ?_)⟩
    try dsimp only
    have hst : (if ((S h2).length : Int) > ((S h1).length : Int) then ((S h2).length : Int) else ((S h1).length : Int)) = ((max h1.length h2.length : Nat) : Int) := by
      rw [SX.S_len, SX.S_len]
      split <;> omega
    rw [hst]
    generalize hA : max h1.length h2.length = A0 at q
    have hA3 : A0 ≤ 10 := by omega
    generalize hv : wf ws (dg h1 t1) (dg h2 t2) = v at q
    have mm : t1.length * t2.length ≤ 9 * 9 := Nat.mul_le_mul lt1 lt2
    refine ⟨_, rfl, _, rfl, p, _, 1, .str (S t1), rfl, rfl, SqT.of e1, rfl, _, rfl, s3, _, rfl, q', _, 1, .str (S t2), rfl, rfl, SqT.of e2, rfl, _, rfl, s4, _, _, rfl, rfl, .inl ⟨by rw [SX.S_len]; omega, by rw [SX.S_len]; omega⟩, _, _, rfl, rfl, ?_⟩
    have eL : (A0 : Int) + ((S t1).length : Int) * ((S t2).length : Int) = ((A0 + t1.length * t2.length : Nat) : Int) := by
      rw [SX.S_len, SX.S_len, Int.natCast_add, Int.natCast_mul]
    refine ⟨((A0 + t1.length * t2.length : Nat) : Int), by show [V.int ((A0 : Int) + ((S t1).length : Int) * ((S t2).length : Int))] = _; rw [eL], by omega, by omega, ?_⟩
    refine for_range (n := (((A0 + t1.length * t2.length : Nat) : Int)).toNat) (fun i σ' G => G = H ∧ ∃ x5 x6, σ' = [some (.ref p), some (.ref q'), some (.ref wd), some (.int (A0 : Int)), some (.str (S (seg v 0 i))), x5, x6]) ⟨rfl, _, _, by rw [strE]; rfl⟩ ?_ ?_
    · rintro i σ' G hi ⟨rfl, x5, x6, rfl⟩
      have hi : i < A0 + t1.length * t2.length := by
        rw [Int.toNat_natCast] at hi
        exact hi
      refine gname_go ?_
      try dsimp only
      refine ⟨_, rfl, p, _, 0, .str (S h1), rfl, rfl, SqT.of e1, rfl, _, rfl, p, _, 1, .str (S t1), rfl, rfl, SqT.of e1, rfl, _, rfl, h1, t1, i, by rw [Int.zero_add]; rfl, by omega, by omega, m1.nt, ?_⟩
      refine ⟨_, rfl, q', _, 0, .str (S h2), rfl, rfl, SqT.of e2, rfl, _, rfl, q', _, 1, .str (S t2), rfl, rfl, SqT.of e2, rfl, _, rfl, h2, t2, i, by rw [Int.zero_add]; rfl, by omega, by omega, m2.nt, _, _, rfl, rfl, by show 1 + 1 ≤ sizeLine; rw [sizeLine_eq]; decide, gname_go ?_⟩
      try dsimp only
      rw [SX.S_cat]
      have ls : (S (seg v 0 i)).length + 1 ≤ sizeLine := by
        rw [SX.S_len, seg_len, sizeLine_eq]
        omega
      refine ⟨_, rfl, _, rfl, _, rfl, wd, ws, rfl, .inl (SqL.of ew), rfl, strs_flat hws, _, rfl, ?_⟩
      rw [if_neg Bool.false_ne_true, in_strs hws]
      have sn := seg_snoc v 0 i
      rw [Nat.zero_add] at sn
      by_cases c : V.str (S ([dg h1 t1 i] ++ [dg h2 t2 i])) ∈ ws
      · rw [decide_eq_true c]
        refine iteT ⟨_, _, rfl, rfl, by rw [str1]; exact ls, gname_go ⟨rfl, some (.int (0 + (i : Int))), some (.str (S ([dg h1 t1 i] ++ [dg h2 t2 i]))), ?_⟩⟩
        have e : v i = 49 := by rw [← hv]; exact if_pos c
        rw [sn, e, str1, SX.S_cat]
        rfl
      · rw [decide_eq_false c]
        refine iteF ⟨_, _, rfl, rfl, by rw [str0]; exact ls, gname_go ⟨rfl, some (.int (0 + (i : Int))), some (.str (S ([dg h1 t1 i] ++ [dg h2 t2 i]))), ?_⟩⟩
        have e : v i = 48 := by rw [← hv]; exact if_neg c
        rw [sn, e, str0, SX.S_cat]
        rfl
    · rintro σ' G ⟨rfl, x5, x6, rfl⟩
      rw [Int.toNat_natCast]
      exact ⟨_, rfl, _, rfl, Nat.le_of_ble_eq_true rfl, fun T0 nT => q T0 nT⟩
theorem c_listed (T : Bt mg) (JP : JoP P w K mg base C dO es n) (F : FnP K "_law_listed" s_listed f fd) (hm : mg "_law_listed" = some (.ref f)) (k_digit : Cal P w K mg base 1 "_law_digit" spDigit) : Cal P w K mg base 9 "_law_listed" (spListed C) := by
  have hnd := sc_listed.nd
  obtain ⟨mstr, LF, LG, JF, _, _, _, _, _, _, _, _, ⟨gu, fdu, UM, Fu, Bu, BK⟩⟩ := JP
  refine cal_mk F hm sc_listed (fun _ _ _ _ _ _ us hl => match us, hl with | [_, _, _], _ => rfl) (fun vs H Q E h => ?_) (fun cdv A outer s H vs Q E hr h => ?_)
  · obtain ⟨a, p, h, t, h1, t1, b, rfl, _⟩ := h
    rfl
  · obtain ⟨a, p, h, t, h1, t1, b, rfl, la, W, m, ep, m1, hb, q⟩ := h
    refine ⟨_, (pss_cons (ps_setLc (i := 4) (own := [("_law_at", 3)]) (by rfl) hnd rfl (by rfl) (sw_true rfl rfl rfl (by decide +kernel)) (pi_range2 (by rfl) T.m_range (pa_cons pe_int (pa_cons (pe_op op_add (pv 2) pe_int) pa_nil))) (blkOk_by (own := [("_law_at", 3)]) (N := N_listed) (sc := defScope s_listed) (by decide +kernel)) (fun _ _ _ _ _ => (pg_name (i := 3) hnd rfl (by first | exact Or.inl rfl | exact Or.inr rfl))) (fun _ _ _ _ _ => (pts_one (pt_cmpR op_eq (pe_cal k_digit hr (by omega) (by rfl) (pa_cons (pe_ix (show IxR _ (rIxT K) from ix_tup) (pv 1) pe_int (fun _ _ => rfl)) (pa_cons (pe_ix (show IxR _ (rIxT K) from ix_tup) (pv 1) pe_int (fun _ _ => rfl)) (pa_cons (pe_op op_sub (pv 3) pe_int) pa_nil)))) pe_str (nomark _)))) (fun _ _ _ _ _ => (pv 3)))
      (pss_cons (ps_set (i := 5) hnd rfl (by first | exact Or.inl rfl | exact Or.inr rfl) (pe_listG (nm := "list") (E := fun _ _ _ => False) (pgen_meth (pv 0) LF.cls UM Fu (hr.mono (by omega)) Bu .nil (pa_cons (pv 2) pa_nil)) pass_none (fun _ _ _ h => h.elim) (hr.mono (by decide)) (by rfl) T.m_list rfl))
      (pss_one (ps_ret (pe_and (pe_cmpR (show OpR _ (compareOp .Eq) (rEqD K) from op_eqD hr.units) (pv 5) (pv 4) (nomark _)) (pe_one (pe_cmpR (show OpR _ (compareOp .Eq) (rEqD K) from op_eqD hr.units) (pe_lc (own := [("_law_at", 3)]) (by rfl) hnd (pi_list (pv 5)) (blkOk_by (own := [("_law_at", 3)]) (N := N_listed) (sc := defScope s_listed) (by decide +kernel)) (fun _ _ _ _ _ => (pg_name (i := 3) hnd rfl (by first | exact Or.inl rfl | exact Or.inr rfl))) (fun _ _ _ _ _ => (pts_one (pt_val (pe_callB (show CallR _ (.builtin "isinstance") (rIsi K) from call_isi) (by rfl) T.m_isinstance (by decide +kernel) (pa_cons (pv 3) (pa_cons (pe_bltn (v := .ty "bool") (by rfl) T.m_bool (by decide +kernel) rfl) pa_nil)))))) (fun _ _ _ _ _ => (pv 3))) (pe_lst pa_nil) (nomark _)))))))), ?_⟩
    generalize hu : dg h1 t1 = u at W
    have lh1 := m1.lh
    have lt1 := m1.lt
    refine ⟨_, rfl, _, _, rfl, rfl, 1, (b : Int) + 1, rfl, ⟨by decide, by decide, by omega, by omega⟩, fun D nD => ?_⟩
    refine lc_range (lo := 1) (fun j G => Same H G ∧ G D = some (.lst (ins u j))) ⟨same_new nD, upd_same⟩ ?_ ?_
    · rintro j G hj ⟨sg, eg⟩
      have epg := sg _ _ ep
      refine ⟨rfl, _, rfl, p, _, 0, .str (S h1), rfl, rfl, SqT.of epg, rfl, _, rfl, p, _, 1, .str (S t1), rfl, rfl, SqT.of epg, rfl, _, rfl, _, _, rfl, rfl, h1, t1, j, by
        show [V.str (S h1), V.str (S t1), V.int ((1 : Int) + (j : Int) - 1)] = _
        rw [show (1 : Int) + (j : Int) - 1 = (j : Int) by omega], by omega, by omega, m1.nt, rfl, _, rfl, ?_⟩
      rw [str1, hu, show decide (V.str (S [u j]) = V.str (S [49])) = decide (u j = 49) from decide_eq_decide.mpr ⟨fun h => by injection h with h; have := SX.S_inj h; simpa using this, fun h => by rw [h]⟩]
      by_cases c : u j = 49
      · rw [decide_eq_true c]
        refine iteT ⟨_, rfl, _, eg, by have := ins_len u j; rw [sizeLine_eq]; omega, same_put nD sg, ?_⟩
        rw [upd_same, ins_succ, if_pos c, Int.add_comm]
      · rw [decide_eq_false c]
        refine iteF ⟨sg, ?_⟩
        rw [ins_succ, if_neg c, List.append_nil]
        exact eg
    · rintro G ⟨sg, eg⟩
      have e1 : ((b : Int) + 1 - 1).toNat = b := by omega
      rw [e1] at eg
      refine gname_go ?_
      try dsimp only
      have la2 := la.same sg
      obtain ⟨dx, ea⟩ := id la2
      refine ⟨_, rfl, a, dx, _, rfl, ea, by rfl, _, rfl, a, h, t, b, rfl, la2, m, hb, fun L nL => gname_go ?_⟩
      rw [show dg h t = u from funext W.can.dg]
      have sL := same_new (o := .lst (ins u b)) nL
      have eL := upd_same (H := G) (a := L) (o := .lst (ins u b))
      have eg2 := sL _ _ eg
      generalize upd G L (.lst (ins u b)) = G1 at sL eL eg2 ⊢
      rw [ins_eq] at eL eg2
      try dsimp only
      refine ret_go ?_
      refine and_go ?_
      refine ⟨_, rfl, _, rfl, .list ((insI u b).map PyData.int), .list ((insI u b).map PyData.int), .lst (SqL.of eL) (dp_ints _), .lst (SqL.of eg2) (dp_ints _), ints_shaped _, ints_shaped _, _, rfl, ?_⟩
      rw [show PyData.eqv (.list ((insI u b).map PyData.int)) (.list ((insI u b).map PyData.int)) = true by simp only [PyData.eqv]; exact ints_same _]
      refine iteT ⟨_, rfl, L, rfl, ⟨_, SqL.of eL⟩, fun D2 nD2 => ?_⟩
      refine lc_list (xs := (insI u b).map V.int) (fun i G' => Same G1 G' ∧ G' D2 = some (.lst [])) ⟨same_new nD2, upd_same⟩ (fun i G' _ y => SqL.of (y.1 _ _ eL)) ?_ ?_
      · rintro i y G' hi ⟨s2, e2⟩
        obtain ⟨z, _, rfl⟩ := List.mem_map.mp (List.mem_of_getElem? hi)
        exact ⟨rfl, _, rfl, _, _, _, _, _, rfl, .ty _, .base (.int z), kit_ty (by decide +kernel : kitB "int" "bool" = some false), _, rfl, iteF ⟨s2, e2⟩⟩
      · rintro G' ⟨s2, e2⟩
        refine ⟨Nat.zero_le _, fun L3 nL3 => ?_⟩
        have s3 := same_new (o := .lst []) nL3
        refine ⟨.list [], .list [], .lst (SqL.of (s3 _ _ e2)) .nil, .lst (SqL.of upd_same) .nil, nil_shaped, nil_shaped, ?_⟩
        rw [show PyData.eqv (.list []) (.list []) = true from ints_nil []]
        exact q _ (((sg.trans sL).trans s2).trans s3)
end
end L2.K53
set_option Elab.async false
set_option linter.all false
set_option maxRecDepth 100000
set_option maxHeartbeats 8000000
namespace L2.K53
open PySem PySem.Spec PyProof.Rows L2.Tb
open SX (S)
abbrev s_right : Stmt := top 32
abbrev N_right : List Str := ["_law_source_here", "_law_one", "_law_other", "_law_mine", "_law_mate", "_law_texts_here", "_law_found", "_law_joined_here", "_law_worth", "_law_digits_here", "_law_start", "_law_bound"]
theorem sc_right : FnScope N_right ["_law_source_here"] (defScope s_right) := ⟨rfl, rfl, rfl, by decide +kernel, rfl, by decide +kernel, by decide +kernel⟩
theorem LenAt.keep {C p : Addr} {H H' : Hp} {a : Addr} {h t : List Nat} (x : LenAt C H a h t) (u : Src H p) (s : SameB p H H') : LenAt C H' a h t := by
  obtain ⟨dx, e⟩ := x
  refine ⟨dx, s _ _ (fun z => ?_) e⟩
  obtain ⟨st, d, c, e2, _⟩ := u.ex
  rw [z, e2] at e
  cases e
theorem PairS.keep {p q : Addr} {H H' : Hp} {h t : List Nat} (x : PairS H q h t) (u : Src H p) (s : SameB p H H') : PairS H' q h t := s _ _ (fun z => by
  obtain ⟨st, d, c, e2, _⟩ := u.ex
  unfold PairS at x
  rw [z, e2] at x
  cases x) x
theorem PairS.same {q : Addr} {H H' : Hp} {h t : List Nat} (x : PairS H q h t) (s : Same H H') : PairS H' q h t := s _ _ x
def isS : V → Bool
  | .str _ => true
  | _ => false
theorem strs_by {ws : List V} (h : ws.all isS = true) : ∀ x ∈ ws, ∃ z, x = .str z := fun x hx => by
  have q := List.all_eq_true.mp h x hx
  cases x with
  | str z => exact ⟨z, rfl⟩
  | _ => cases q
/-- a joined set and what it is worth -/
def Item (C : Addr) (u v : Nat → Nat) (H : Hp) (y : V) : Prop := ∃ (T c wd : Addr) (ws : List V) (h t : List Nat), y = .ref T ∧ H T = some (.tup [.ref c, .ref wd]) ∧ H wd = some (.lst ws) ∧ (∀ x ∈ ws, ∃ z, x = .str z) ∧ ws.length ≤ 10 ∧ LenAt C H c h t ∧ Word (wf ws u v) h t
theorem Item.same {C : Addr} {u v : Nat → Nat} {H H' : Hp} {y : V} (x : Item C u v H y) (s : Same H H') : Item C u v H' y := by
  obtain ⟨T, c, wd, ws, h, t, e, e1, e2, a, b, l, W⟩ := x
  exact ⟨T, c, wd, ws, h, t, e, s _ _ e1, s _ _ e2, a, b, l.same s, W⟩
section
variable {u v : Nat → Nat} (bu : ∀ n, u n = 48 ∨ u n = 49) (bv : ∀ n, v n = 48 ∨ v n = 49)
include bu bv
theorem wf_and : wf [V.str (Str.ofString "11")] u v = jf [48, 48, 48, 49] u v := funext fun n => by
  unfold wf jf
  rcases bu n with e | e <;> rcases bv n with e2 | e2 <;> rw [e, e2] <;> decide +kernel
theorem wf_or : wf [V.str (Str.ofString "01"), .str (Str.ofString "10"), .str (Str.ofString "11")] u v = jf [48, 49, 49, 49] u v := funext fun n => by
  unfold wf jf
  rcases bu n with e | e <;> rcases bv n with e2 | e2 <;> rw [e, e2] <;> decide +kernel
theorem wf_sub : wf [V.str (Str.ofString "10")] u v = jf [48, 48, 49, 48] u v := funext fun n => by
  unfold wf jf
  rcases bu n with e | e <;> rcases bv n with e2 | e2 <;> rw [e, e2] <;> decide +kernel
theorem wf_bus : wf [V.str (Str.ofString "01")] u v = jf [48, 48, 49, 48] v u := funext fun n => by
  unfold wf jf
  rcases bu n with e | e <;> rcases bv n with e2 | e2 <;> rw [e, e2] <;> decide +kernel
theorem wf_inv : wf [V.str (Str.ofString "00"), .str (Str.ofString "01")] u v = fun n => opp (u n) := funext fun n => by
  unfold wf opp
  rcases bu n with e | e <;> rcases bv n with e2 | e2 <;> rw [e, e2] <;> decide +kernel
theorem wf_vni : wf [V.str (Str.ofString "00"), .str (Str.ofString "10")] u v = fun n => opp (v n) := funext fun n => by
  unfold wf opp
  rcases bu n with e | e <;> rcases bv n with e2 | e2 <;> rw [e, e2] <;> decide +kernel
end
theorem wf_per {ws : List V} {u v : Nat → Nat} {a L : Nat} (h1 : ∀ n, a ≤ n → u n = u (n + L)) (h2 : ∀ n, a ≤ n → v n = v (n + L)) (n : Nat) (hn : a ≤ n) : wf ws u v n = wf ws u v (n + L) := by
  unfold wf
  rw [h1 n hn, h2 n hn]
theorem txt_ok {h t : List Nat} (bh : Bin h) (bt : Bin t) : PyData.strOk (S (txt h t)) = true := strOk_S fun c hc => by
  unfold txt at hc
  simp only [List.mem_append, List.mem_singleton] at hc
  rcases hc with ((hc | rfl) | hc) | rfl
  · exact bin_lt bh c hc
  · decide
  · exact bin_lt bt c hc
  · decide
def spRight : Sp := fun vs H Q _ => ∃ p : Addr, vs = [.ref p] ∧ Src H p ∧ ∀ H', SameB p H H' → Q (.bl true) H'
section
variable {P : Program} {w : World} {K : PySem.W.Frag} {mg : Str → Option Value} {base : Heap} {f : Addr} {fd : FuncData} {C dO : Addr} {es : Array DictEntry} {n : Nat}
theorem LenAt.to {u : Nat → Nat} {H : Hp} {a : Addr} {h t h1 t1 : List Nat} (x : LenAt C H a h1 t1) (W1 : Word u h1 t1) (W : Word u h t) : LenAt C H a h t := by
  obtain ⟨rfl, rfl⟩ := W1.can.uniq W.can
  exact x
theorem c_right (T : Bt mg) (JP : JoP P w K mg base C dO es n) (F : FnP K "_law_right" s_right f fd) (hm : mg "_law_right" = some (.ref f)) (k_draw : Cal P w K mg base 1 "_law_draw" spDraw) (k_digits : Cal P w K mg base 2 "_law_digits" spDigits) (k_both : Cal P w K mg base 2 "_law_both" spBoth)
    (k_is : Cal P w K mg base 5 "_law_is" (spIs C)) (k_listed : Cal P w K mg base 9 "_law_listed" (spListed C)) : Cal P w K mg base 10 "_law_right" spRight := by
  have hnd := sc_right.nd
  obtain ⟨mstr, LF, LG, JF, ⟨fi, fdi, KM, Fi, Bi⟩, ⟨fs, fds, hs, hsf, Fs, Bs⟩, _, sf, ⟨fa, fda, ha, haf, Fa, Ba⟩, ⟨fo, fdo, ho, hof, Fo, Bo⟩, ⟨fu, fdu0, hu0, huf, Fsu, Bsu⟩, ⟨fv, fdv, hv0, hvf, Fv, Bv⟩, ⟨gu, fdu, UM, Fu, Bu, BK⟩⟩ := JP
  refine cal_mk F hm sc_right (fun _ _ _ _ _ _ us hl => match us, hl with | [_], _ => rfl) (fun vs H Q E h => ?_) (fun cdv A outer s H vs Q E hr h => ?_)
  · obtain ⟨p, rfl, _⟩ := h
    rfl
  · obtain ⟨p, rfl, hp, q⟩ := h
    refine ⟨_, (pss_cons (ps_set (i := 1) hnd rfl (by first | exact Or.inl rfl | exact Or.inr rfl) (pe_tup (pa_cons (pe_cal k_digits hr (by omega) (by rfl) (pa_cons (pv 0) (pa_cons (pe_cal k_draw hr (by omega) (by rfl) (pa_cons (pv 0) (pa_cons pe_int pa_nil))) pa_nil))) (pa_cons (pe_cal k_digits hr (by omega) (by rfl) (pa_cons (pv 0) (pa_cons (pe_op op_add pe_int (pe_cal k_draw hr (by omega) (by rfl) (pa_cons (pv 0) (pa_cons pe_int pa_nil)))) pa_nil))) pa_nil))))
      (pss_cons (ps_set (i := 2) hnd rfl (by first | exact Or.inl rfl | exact Or.inr rfl) (pe_tup (pa_cons (pe_cal k_digits hr (by omega) (by rfl) (pa_cons (pv 0) (pa_cons (pe_cal k_draw hr (by omega) (by rfl) (pa_cons (pv 0) (pa_cons pe_int pa_nil))) pa_nil))) (pa_cons (pe_cal k_digits hr (by omega) (by rfl) (pa_cons (pv 0) (pa_cons (pe_op op_add pe_int (pe_cal k_draw hr (by omega) (by rfl) (pa_cons (pv 0) (pa_cons pe_int pa_nil)))) pa_nil))) pa_nil))))
      (pss_cons (ps_par (i := 3) (j := 4) (by rfl) hnd rfl rfl (by decide) (by rfl) (by rfl) (pa_cons (pe_make KM Fi (hr.mono (by omega)) (by rfl) LF.mgC Bi .nil pass_none (pa_cons (pe_ix (show IxR _ (rIxT K) from ix_tup) (pv 1) pe_int (fun _ _ => rfl)) (pa_cons (pe_ix (show IxR _ (rIxT K) from ix_tup) (pv 1) pe_int (fun _ _ => rfl)) pa_nil))) (pa_cons (pe_make KM Fi (hr.mono (by omega)) (by rfl) LF.mgC Bi .nil pass_none (pa_cons (pe_ix (show IxR _ (rIxT K) from ix_tup) (pv 2) pe_int (fun _ _ => rfl)) (pa_cons (pe_ix (show IxR _ (rIxT K) from ix_tup) (pv 2) pe_int (fun _ _ => rfl)) pa_nil))) pa_nil)) (by rfl))
      (pss_cons (ps_set (i := 5) hnd rfl (by first | exact Or.inl rfl | exact Or.inr rfl) (pe_lst (pa_cons (pe_callTy (call_strOwn Fs (hr.mono (by omega)) hs hsf Bs) (by rfl) mstr (by decide +kernel) (pa_cons (pv 3) pa_nil)) (pa_cons (pe_callTy (call_strOwn Fs (hr.mono (by omega)) hs hsf Bs) (by rfl) mstr (by decide +kernel) (pa_cons (pv 4) pa_nil)) pa_nil))))
      (pss_cons (ps_set (i := 6) hnd rfl (by first | exact Or.inl rfl | exact Or.inr rfl) (pe_lst (pa_cons (pe_tup (pa_cons (pe_op (show OpR _ (binaryOp .BitAnd) (rOwnBin C (spJ C [48, 48, 48, 49])) from op_ownBin (op := .BitAnd) Fa (hr.mono (by omega)) sf ha haf Ba pass0) (pv 3) (pv 4)) (pa_cons (pe_lst (pa_cons pe_str pa_nil)) pa_nil))) (pa_cons (pe_tup (pa_cons (pe_op (show OpR _ (binaryOp .BitOr) (rOwnBin C (spJ C [48, 49, 49, 49])) from op_ownBin (op := .BitOr) Fo (hr.mono (by omega)) sf ho hof Bo pass0) (pv 3) (pv 4)) (pa_cons (pe_lst (pa_cons pe_str (pa_cons pe_str (pa_cons pe_str pa_nil)))) pa_nil))) (pa_cons (pe_tup (pa_cons (pe_op (show OpR _ (binaryOp .Sub) (rOwnBin C (spJ C [48, 48, 49, 48])) from op_ownBin (op := .Sub) Fsu (hr.mono (by omega)) sf hu0 huf Bsu pass0) (pv 3) (pv 4)) (pa_cons (pe_lst (pa_cons pe_str pa_nil)) pa_nil))) pa_nil)))))
      (pss_cons (ps_set (i := 6) hnd rfl (by first | exact Or.inl rfl | exact Or.inr rfl) (pe_op op_cat (pv 6) (pe_lst (pa_cons (pe_tup (pa_cons (pe_op (show OpR _ (binaryOp .Sub) (rOwnBin C (spJ C [48, 48, 49, 48])) from op_ownBin (op := .Sub) Fsu (hr.mono (by omega)) sf hu0 huf Bsu pass0) (pv 4) (pv 3)) (pa_cons (pe_lst (pa_cons pe_str pa_nil)) pa_nil))) (pa_cons (pe_tup (pa_cons (pe_un (show UnR _ (unaryOp .Invert) (rOwnInv C (spInv C)) from un_ownInv Fv (hr.mono (by omega)) hv0 hvf Bv pass0) (pv 3)) (pa_cons (pe_lst (pa_cons pe_str (pa_cons pe_str pa_nil))) pa_nil))) (pa_cons (pe_tup (pa_cons (pe_un (show UnR _ (unaryOp .Invert) (rOwnInv C (spInv C)) from un_ownInv Fv (hr.mono (by omega)) hv0 hvf Bv pass0) (pv 4)) (pa_cons (pe_lst (pa_cons pe_str (pa_cons pe_str pa_nil))) pa_nil))) pa_nil))))))
      (pss_cons (ps_for PassesOwn.never (by rfl) (pi_list (pv 6)) (pg_tup (by rfl) (pgs_cons (pg_name (i := 7) hnd rfl (by first | exact Or.inl rfl | exact Or.inr rfl)) (pgs_cons (pg_name (i := 8) hnd rfl (by first | exact Or.inl rfl | exact Or.inr rfl)) pgs_nil)))
      (pss_cons (ps_asg (pe_cal k_both hr (by omega) (by rfl) (pa_cons (pv 1) (pa_cons (pv 2) (pa_cons (pv 8) pa_nil)))) (pg_tup (by rfl) (pgs_cons (pg_name (i := 9) hnd rfl (by first | exact Or.inl rfl | exact Or.inr rfl)) (pgs_cons (pg_name (i := 10) hnd rfl (by first | exact Or.inl rfl | exact Or.inr rfl)) pgs_nil))))
      (pss_one (ps_if (pt_not (pt_val (pe_cal k_is hr (by omega) (by rfl) (pa_cons (pv 7) (pa_cons (pv 9) (pa_cons (pv 10) pa_nil))))))
      (pss_one (ps_ret pe_bl))
      pss_nil))))
      (pss_cons (ps_set (i := 11) hnd rfl (by first | exact Or.inl rfl | exact Or.inr rfl) (pe_ifExp (pt_cmpR op_gt (pe_cal k_draw hr (by omega) (by rfl) (pa_cons (pv 0) (pa_cons pe_int pa_nil))) pe_int (nomark _)) (pe_cal k_draw hr (by omega) (by rfl) (pa_cons (pv 0) (pa_cons pe_int pa_nil))) (pe_ix (show IxR _ (rIxL K) from ix_list) (pe_lst (pa_cons pe_int (pa_cons pe_int (pa_cons pe_int (pa_cons pe_int pa_nil))))) (pe_cal k_draw hr (by omega) (by rfl) (pa_cons (pv 0) (pa_cons pe_int pa_nil))) (fun _ _ => rfl))))
      (pss_cons (ps_if (PW.pt (pw_or (pt_not (pt_val (pe_cal k_listed hr (by omega) (by rfl) (pa_cons (pv 3) (pa_cons (pv 1) (pa_cons (pv 11) pa_nil)))))) (pw_or1 (pt_not (pt_val (pe_cal k_listed hr (by omega) (by rfl) (pa_cons (pv 4) (pa_cons (pv 2) (pa_cons (pe_cal k_draw hr (by omega) (by rfl) (pa_cons (pv 0) (pa_cons pe_int pa_nil))) pa_nil)))))))))
      (pss_one (ps_ret pe_bl))
      pss_nil)
      (pss_cons (ps_if (PW.pt (pw_or (pt_not (pt_val (pe_cal k_listed hr (by omega) (by rfl) (pa_cons (pv 3) (pa_cons (pv 1) (pa_cons (pv 11) pa_nil)))))) (pw_or1 (pt_cmpR (show OpR _ (compareOp .NotEq) (rNeD K) from op_neD hr.units) (pe_listG (nm := "list") (E := fun _ _ _ => False) (pgen_methK (pv 3) LF.cls UM Fu (hr.mono (by omega)) (pk_cons (pv 11) pk_nil) rfl BK) pass_none (fun _ _ _ h => h.elim) (hr.mono (by decide)) (by rfl) T.m_list rfl) (pe_listG (nm := "list") (E := fun _ _ _ => False) (pgen_meth (pv 3) LF.cls UM Fu (hr.mono (by omega)) Bu .nil (pa_cons (pv 11) pa_nil)) pass_none (fun _ _ _ h => h.elim) (hr.mono (by decide)) (by rfl) T.m_list rfl) (nomark _)))))
      (pss_one (ps_ret pe_bl))
      pss_nil)
      (pss_one (ps_ret (pe_cmpR (show OpR _ (compareOp .Eq) (rEqD K) from op_eqD hr.units) (pe_lst (pa_cons (pe_callTy (call_strOwn Fs (hr.mono (by omega)) hs hsf Bs) (by rfl) mstr (by decide +kernel) (pa_cons (pv 3) pa_nil)) (pa_cons (pe_callTy (call_strOwn Fs (hr.mono (by omega)) hs hsf Bs) (by rfl) mstr (by decide +kernel) (pa_cons (pv 4) pa_nil)) pa_nil))) (pv 5) (nomark _)))))))))))))), ?_⟩
    refine ⟨_, rfl, _, rfl, p, 11, rfl, hp, by decide, by decide, fun d H1 d0 d1 s1 u1 => ?_⟩
    obtain ⟨m1, rfl⟩ := Int.eq_ofNat_of_zero_le d0
    refine ⟨p, m1, rfl, u1, by omega, fun h1 H2 lh1 bh1 s2 u2 => ⟨_, rfl, _, rfl, p, 9, rfl, u2, by decide, by decide, fun d H3 d0 d1 s3 u3 => ?_⟩⟩
    obtain ⟨m2, rfl⟩ := Int.eq_ofNat_of_zero_le d0
    refine ⟨1, (m2 : Int), rfl, rfl, p, m2 + 1, by show [V.ref p, V.int (1 + (m2 : Int))] = _; rw [Int.add_comm]; rfl, u3, by omega, fun t1 H4 lt1 bt1 s4 u4 => ⟨Nat.le_of_ble_eq_true rfl, fun p1 np1 => gname_go ?_⟩⟩
    try dsimp only
    have nt1 : t1 ≠ [] := fun z => by
      rw [z] at lt1
      cases lt1
    have lh1 : h1.length ≤ 10 := by omega
    have lt1 : t1.length ≤ 9 := by omega
    have eP1 : PairS (upd H4 p1 (.tup [.str (S h1), .str (S t1)])) p1 h1 t1 := upd_same
    have u5 := u4.same (same_new (o := .tup [.str (S h1), .str (S t1)]) np1)
    have sA : SameB p H (upd H4 p1 (.tup [.str (S h1), .str (S t1)])) := (((s1.trans s2).trans s3).trans s4).trans (SameB.of (same_new np1))
    generalize upd H4 p1 (.tup [.str (S h1), .str (S t1)]) = H5 at eP1 u5 sA ⊢
    refine ⟨_, rfl, _, rfl, p, 11, rfl, u5, by decide, by decide, fun d H1 d0 d1 s1 u1 => ?_⟩
    obtain ⟨k1, rfl⟩ := Int.eq_ofNat_of_zero_le d0
    refine ⟨p, k1, rfl, u1, by omega, fun h2 H2 lh2 bh2 s2 u2 => ⟨_, rfl, _, rfl, p, 9, rfl, u2, by decide, by decide, fun d H3 d0 d1 s3 u3 => ?_⟩⟩
    obtain ⟨k2, rfl⟩ := Int.eq_ofNat_of_zero_le d0
    refine ⟨1, (k2 : Int), rfl, rfl, p, k2 + 1, by show [V.ref p, V.int (1 + (k2 : Int))] = _; rw [Int.add_comm]; rfl, u3, by omega, fun t2 H4 lt2 bt2 s4 u4 => ⟨Nat.le_of_ble_eq_true rfl, fun p2 np2 => gname_go ?_⟩⟩
    try dsimp only
    have nt2 : t2 ≠ [] := fun z => by
      rw [z] at lt2
      cases lt2
    have lh2 : h2.length ≤ 10 := by omega
    have lt2 : t2.length ≤ 9 := by omega
    have sx := ((s1.trans s2).trans s3).trans s4
    have eP1 := (eP1.keep u5 sx).same (same_new (o := .tup [.str (S h2), .str (S t2)]) np2)
    have eP2 : PairS (upd H4 p2 (.tup [.str (S h2), .str (S t2)])) p2 h2 t2 := upd_same
    have u6 := u4.same (same_new (o := .tup [.str (S h2), .str (S t2)]) np2)
    have sB : SameB p H (upd H4 p2 (.tup [.str (S h2), .str (S t2)])) := (sA.trans sx).trans (SameB.of (same_new np2))
    generalize upd H4 p2 (.tup [.str (S h2), .str (S t2)]) = H6 at eP1 eP2 u6 sB ⊢
    have Q1 : Sml h1 t1 := ⟨bh1, bt1, nt1, by omega, by omega⟩
    have Q2 : Sml h2 t2 := ⟨bh2, bt2, nt2, by omega, by omega⟩
    refine ⟨_, rfl, p1, _, 0, .str (S h1), rfl, rfl, SqT.of eP1, rfl, _, rfl, p1, _, 1, .str (S t1), rfl, rfl, SqT.of eP1, rfl, fun a dxa na nda _ => made na nda bh1 bt1 nt1 (by omega) (by omega) fun hm tm Ha Wm sa la => ⟨rfl, ?_⟩⟩
    have eP1 := eP1.same sa
    have eP2 := eP2.same sa
    refine ⟨_, rfl, p2, _, 0, .str (S h2), rfl, rfl, SqT.of eP2, rfl, _, rfl, p2, _, 1, .str (S t2), rfl, rfl, SqT.of eP2, rfl, fun b dxb nb ndb _ => made nb ndb bh2 bt2 nt2 (by omega) (by omega) fun hn tn Hb Wn sb lb => ⟨rfl, _, _, rfl, ?_⟩⟩
    try dsimp only
    have la := la.same sb
    obtain ⟨sm1, sm2⟩ := Wm.small nt1
    obtain ⟨sn1, sn2⟩ := Wn.small nt2
    have Sm : Sml hm tm := ⟨Wm.bh, Wm.bt, Wm.ne, by omega, by omega⟩
    have Sn : Sml hn tn := ⟨Wn.bh, Wn.bt, Wn.ne, by omega, by omega⟩
    obtain ⟨dx, ea⟩ := id la
    obtain ⟨dy, eb⟩ := id lb
    refine ⟨_, rfl, a, dx, _, rfl, ea, a, hm, tm, rfl, la, Wm.lh, Wm.lt, _, rfl, _, rfl, b, dy, _, rfl, eb, b, hn, tn, rfl, lb, Wn.lh, Wn.lt, _, rfl, Nat.le_of_ble_eq_true rfl, fun Lt nLt => gname_go ?_⟩
    try dsimp only
    have u7 := (u6.same sa).same sb
    have hLt := u7.ne nLt
    have sT := same_new (o := .lst [.str (S (txt hm tm)), .str (S (txt hn tn))]) nLt
    have eLt := upd_same (H := Hb) (a := Lt) (o := .lst [.str (S (txt hm tm)), .str (S (txt hn tn))])
    have la1 := la.same sT
    have lb1 := lb.same sT
    have eP1 := (eP1.same sb).same sT
    have eP2 := (eP2.same sb).same sT
    have u8 := u7.same sT
    have sC : SameB p H (upd Hb Lt (.lst [.str (S (txt hm tm)), .str (S (txt hn tn))])) := ((sB.trans (SameB.of sa)).trans (SameB.of sb)).trans (SameB.of sT)
    generalize upd Hb Lt (.lst [.str (S (txt hm tm)), .str (S (txt hn tn))]) = G1 at eLt la1 lb1 eP1 eP2 u8 sC ⊢
    have hu : dg hm tm = dg h1 t1 := funext Wm.can.dg
    have hv : dg hn tn = dg h2 t2 := funext Wn.can.dg
    have bu : ∀ n, dg h1 t1 n = 48 ∨ dg h1 t1 n = 49 := bin_dg bh1 bt1 nt1
    have bv : ∀ n, dg h2 t2 n = 48 ∨ dg h2 t2 n = 49 := bin_dg bh2 bt2 nt2
    have pu : ∀ n, h1.length ≤ n → dg h1 t1 n = dg h1 t1 (n + t1.length) := fun n hn => dg_per n hn
    have pv : ∀ n, h2.length ≤ n → dg h2 t2 n = dg h2 t2 (n + t2.length) := fun n hn => dg_per n hn
    have hspec := spBoth
    generalize hU : dg h1 t1 = u at hu bu pu Wm
    generalize hV : dg h2 t2 = v at hv bv pv Wn
    obtain ⟨dx1, ea1⟩ := id la1
    obtain ⟨dy1, eb1⟩ := id lb1
    refine ⟨_, rfl, _, rfl, a, dx1, _, b, dy1, _, rfl, rfl, ea1, eb1, a, b, hm, tm, hn, tn, rfl, la1, lb1, Sm, Sn, fun x1 y1 c1 H1 W1 s1 lc1 => ?_⟩
    refine ⟨Nat.le_of_ble_eq_true rfl, fun w1 nw1 => ⟨Nat.le_of_ble_eq_true rfl, fun T1 nT1 => ?_⟩⟩
    have sw1 := same_new (o := .lst [V.str (Str.ofString "11")]) nw1
    have ew1 := upd_same (H := H1) (a := w1) (o := .lst [V.str (Str.ofString "11")])
    have sT1 := same_new (o := .tup [.ref c1, .ref w1]) nT1
    have eT1 := upd_same (H := upd H1 w1 (.lst [V.str (Str.ofString "11")])) (a := T1) (o := .tup [.ref c1, .ref w1])
    have S1 := (s1.trans sw1).trans sT1
    rw [hu, hv] at W1
    have i1 : Item C u v (upd (upd H1 w1 (.lst [V.str (Str.ofString "11")])) T1 (.tup [.ref c1, .ref w1])) (.ref T1) := ⟨T1, c1, w1, _, x1, y1, rfl, eT1, sT1 _ _ ew1, strs_by rfl, by decide, (lc1.same sw1).same sT1, by
      rw [wf_and bu bv]
      exact W1⟩
    generalize upd (upd H1 w1 (.lst [V.str (Str.ofString "11")])) T1 (.tup [.ref c1, .ref w1]) = G2 at S1 i1 ⊢
    have la2 := la1.same S1
    have lb2 := lb1.same S1
    obtain ⟨dx2, ea2⟩ := id la2
    obtain ⟨dy2, eb2⟩ := id lb2
    refine ⟨_, rfl, _, rfl, a, dx2, _, b, dy2, _, rfl, rfl, ea2, eb2, a, b, hm, tm, hn, tn, rfl, la2, lb2, Sm, Sn, fun x2 y2 c2 H2 W2 s2 lc2 => ?_⟩
    refine ⟨Nat.le_of_ble_eq_true rfl, fun w2 nw2 => ⟨Nat.le_of_ble_eq_true rfl, fun T2 nT2 => ?_⟩⟩
    have sw2 := same_new (o := .lst [V.str (Str.ofString "01"), .str (Str.ofString "10"), .str (Str.ofString "11")]) nw2
    have ew2 := upd_same (H := H2) (a := w2) (o := .lst [V.str (Str.ofString "01"), .str (Str.ofString "10"), .str (Str.ofString "11")])
    have sT2 := same_new (o := .tup [.ref c2, .ref w2]) nT2
    have eT2 := upd_same (H := upd H2 w2 (.lst [V.str (Str.ofString "01"), .str (Str.ofString "10"), .str (Str.ofString "11")])) (a := T2) (o := .tup [.ref c2, .ref w2])
    have S2 := (s2.trans sw2).trans sT2
    rw [hu, hv] at W2
    have i2 : Item C u v (upd (upd H2 w2 (.lst [V.str (Str.ofString "01"), .str (Str.ofString "10"), .str (Str.ofString "11")])) T2 (.tup [.ref c2, .ref w2])) (.ref T2) := ⟨T2, c2, w2, _, x2, y2, rfl, eT2, sT2 _ _ ew2, strs_by rfl, by decide, (lc2.same sw2).same sT2, by
      rw [wf_or bu bv]
      exact W2⟩
    generalize upd (upd H2 w2 (.lst [V.str (Str.ofString "01"), .str (Str.ofString "10"), .str (Str.ofString "11")])) T2 (.tup [.ref c2, .ref w2]) = G3 at S2 i2 ⊢
    have la3 := la2.same S2
    have lb3 := lb2.same S2
    obtain ⟨dx3, ea3⟩ := id la3
    obtain ⟨dy3, eb3⟩ := id lb3
    refine ⟨_, rfl, _, rfl, a, dx3, _, b, dy3, _, rfl, rfl, ea3, eb3, a, b, hm, tm, hn, tn, rfl, la3, lb3, Sm, Sn, fun x3 y3 c3 H3 W3 s3 lc3 => ?_⟩
    refine ⟨Nat.le_of_ble_eq_true rfl, fun w3 nw3 => ⟨Nat.le_of_ble_eq_true rfl, fun T3 nT3 => ?_⟩⟩
    have sw3 := same_new (o := .lst [V.str (Str.ofString "10")]) nw3
    have ew3 := upd_same (H := H3) (a := w3) (o := .lst [V.str (Str.ofString "10")])
    have sT3 := same_new (o := .tup [.ref c3, .ref w3]) nT3
    have eT3 := upd_same (H := upd H3 w3 (.lst [V.str (Str.ofString "10")])) (a := T3) (o := .tup [.ref c3, .ref w3])
    have S3 := (s3.trans sw3).trans sT3
    rw [hu, hv] at W3
    have i3 : Item C u v (upd (upd H3 w3 (.lst [V.str (Str.ofString "10")])) T3 (.tup [.ref c3, .ref w3])) (.ref T3) := ⟨T3, c3, w3, _, x3, y3, rfl, eT3, sT3 _ _ ew3, strs_by rfl, by decide, (lc3.same sw3).same sT3, by
      rw [wf_sub bu bv]
      exact W3⟩
    generalize upd (upd H3 w3 (.lst [V.str (Str.ofString "10")])) T3 (.tup [.ref c3, .ref w3]) = G4 at S3 i3 ⊢
    have la4 := la3.same S3
    have lb4 := lb3.same S3
    refine ⟨Nat.le_of_ble_eq_true rfl, fun L1 nL1 => gname_go ?_⟩
    try dsimp only
    have sL1 := same_new (o := .lst [.ref T1, .ref T2, .ref T3]) nL1
    have eL1 := upd_same (H := G4) (a := L1) (o := .lst [.ref T1, .ref T2, .ref T3])
    generalize upd G4 L1 (.lst [.ref T1, .ref T2, .ref T3]) = G4b at sL1 eL1 ⊢
    have la4 := la4.same sL1
    have lb4 := lb4.same sL1
    refine ⟨_, rfl, ?_⟩
    obtain ⟨dx4, ea4⟩ := id la4
    obtain ⟨dy4, eb4⟩ := id lb4
    refine ⟨_, rfl, _, rfl, b, dy4, _, a, dx4, _, rfl, rfl, eb4, ea4, b, a, hn, tn, hm, tm, rfl, lb4, la4, Sn, Sm, fun x4 y4 c4 H4 W4 s4 lc4 => ?_⟩
    refine ⟨Nat.le_of_ble_eq_true rfl, fun w4 nw4 => ⟨Nat.le_of_ble_eq_true rfl, fun T4 nT4 => ?_⟩⟩
    have sw4 := same_new (o := .lst [V.str (Str.ofString "01")]) nw4
    have ew4 := upd_same (H := H4) (a := w4) (o := .lst [V.str (Str.ofString "01")])
    have sT4 := same_new (o := .tup [.ref c4, .ref w4]) nT4
    have eT4 := upd_same (H := upd H4 w4 (.lst [V.str (Str.ofString "01")])) (a := T4) (o := .tup [.ref c4, .ref w4])
    have S4 := (s4.trans sw4).trans sT4
    rw [hv, hu] at W4
    have i4 : Item C u v (upd (upd H4 w4 (.lst [V.str (Str.ofString "01")])) T4 (.tup [.ref c4, .ref w4])) (.ref T4) := ⟨T4, c4, w4, _, x4, y4, rfl, eT4, sT4 _ _ ew4, strs_by rfl, by decide, (lc4.same sw4).same sT4, by
      rw [wf_bus bu bv]
      exact W4⟩
    generalize upd (upd H4 w4 (.lst [V.str (Str.ofString "01")])) T4 (.tup [.ref c4, .ref w4]) = G5 at S4 i4 ⊢
    have la5 := la4.same S4
    have lb5 := lb4.same S4
    obtain ⟨dx5, ea5⟩ := id la5
    obtain ⟨dy5, eb5⟩ := id lb5
    refine ⟨_, rfl, a, dx5, _, rfl, ea5, a, hm, tm, rfl, la5, Sm, fun x5 y5 c5 H5 W5 s5 lc5 => ?_⟩
    refine ⟨Nat.le_of_ble_eq_true rfl, fun w5 nw5 => ⟨Nat.le_of_ble_eq_true rfl, fun T5 nT5 => ?_⟩⟩
    have sw5 := same_new (o := .lst [V.str (Str.ofString "00"), .str (Str.ofString "01")]) nw5
    have ew5 := upd_same (H := H5) (a := w5) (o := .lst [V.str (Str.ofString "00"), .str (Str.ofString "01")])
    have sT5 := same_new (o := .tup [.ref c5, .ref w5]) nT5
    have eT5 := upd_same (H := upd H5 w5 (.lst [V.str (Str.ofString "00"), .str (Str.ofString "01")])) (a := T5) (o := .tup [.ref c5, .ref w5])
    have S5 := (s5.trans sw5).trans sT5
    rw [hu] at W5
    have i5 : Item C u v (upd (upd H5 w5 (.lst [V.str (Str.ofString "00"), .str (Str.ofString "01")])) T5 (.tup [.ref c5, .ref w5])) (.ref T5) := ⟨T5, c5, w5, _, x5, y5, rfl, eT5, sT5 _ _ ew5, strs_by rfl, by decide, (lc5.same sw5).same sT5, by
      rw [wf_inv bu bv]
      exact W5⟩
    generalize upd (upd H5 w5 (.lst [V.str (Str.ofString "00"), .str (Str.ofString "01")])) T5 (.tup [.ref c5, .ref w5]) = G6 at S5 i5 ⊢
    have la6 := la5.same S5
    have lb6 := lb5.same S5
    obtain ⟨dx6, ea6⟩ := id la6
    obtain ⟨dy6, eb6⟩ := id lb6
    refine ⟨_, rfl, b, dy6, _, rfl, eb6, b, hn, tn, rfl, lb6, Sn, fun x6 y6 c6 H6 W6 s6 lc6 => ?_⟩
    refine ⟨Nat.le_of_ble_eq_true rfl, fun w6 nw6 => ⟨Nat.le_of_ble_eq_true rfl, fun T6 nT6 => ?_⟩⟩
    have sw6 := same_new (o := .lst [V.str (Str.ofString "00"), .str (Str.ofString "10")]) nw6
    have ew6 := upd_same (H := H6) (a := w6) (o := .lst [V.str (Str.ofString "00"), .str (Str.ofString "10")])
    have sT6 := same_new (o := .tup [.ref c6, .ref w6]) nT6
    have eT6 := upd_same (H := upd H6 w6 (.lst [V.str (Str.ofString "00"), .str (Str.ofString "10")])) (a := T6) (o := .tup [.ref c6, .ref w6])
    have S6 := (s6.trans sw6).trans sT6
    rw [hv] at W6
    have i6 : Item C u v (upd (upd H6 w6 (.lst [V.str (Str.ofString "00"), .str (Str.ofString "10")])) T6 (.tup [.ref c6, .ref w6])) (.ref T6) := ⟨T6, c6, w6, _, x6, y6, rfl, eT6, sT6 _ _ ew6, strs_by rfl, by decide, (lc6.same sw6).same sT6, by
      rw [wf_vni bu bv]
      exact W6⟩
    generalize upd (upd H6 w6 (.lst [V.str (Str.ofString "00"), .str (Str.ofString "10")])) T6 (.tup [.ref c6, .ref w6]) = G7 at S6 i6 ⊢
    have la7 := la6.same S6
    have lb7 := lb6.same S6
    refine ⟨Nat.le_of_ble_eq_true rfl, fun L2 nL2 => ?_⟩
    have sL2 := same_new (o := .lst [.ref T4, .ref T5, .ref T6]) nL2
    have eL1 := sL2 _ _ (S6 _ _ (S5 _ _ (S4 _ _ eL1)))
    refine ⟨L1, L2, _, _, rfl, rfl, eL1, upd_same, Nat.le_of_ble_eq_true rfl, fun L nL => gname_go ?_⟩
    try dsimp only
    generalize hI : [V.ref T1, .ref T2, .ref T3] ++ [V.ref T4, .ref T5, .ref T6] = items
    have sL := same_new (o := .lst items) nL
    have eL := upd_same (H := upd G7 L2 (.lst [.ref T4, .ref T5, .ref T6])) (a := L) (o := .lst items)
    generalize upd (upd G7 L2 (.lst [.ref T4, .ref T5, .ref T6])) L (.lst items) = G0 at sL eL ⊢
    have sF := sL2.trans sL
    have all : ∀ y ∈ items, Item C u v G0 y := fun y hy => by
      rw [← hI] at hy
      simp only [List.cons_append, List.nil_append, List.mem_cons, List.not_mem_nil, or_false] at hy
      have z4 := ((S4.trans S5).trans S6).trans sF
      rcases hy with rfl | rfl | rfl | rfl | rfl | rfl
      · exact (((i1.same S2).same S3).same sL1).same z4
      · exact ((i2.same S3).same sL1).same z4
      · exact (i3.same sL1).same z4
      · exact i4.same ((S5.trans S6).trans sF)
      · exact i5.same (S6.trans sF)
      · exact i6.same sF
    have la0 := la7.same sF
    have lb0 := lb7.same sF
    have s1F := (((((S1.trans S2).trans S3).trans sL1).trans S4).trans S5).trans (S6.trans sF)
    have eP1 := eP1.same s1F
    have eP2 := eP2.same s1F
    have eLt := s1F _ _ eLt
    have u9 := u8.same s1F
    have sD : SameB p H G0 := sC.trans (SameB.of s1F)
    refine seqx (fun σ' G => Same G0 G ∧ ∃ x7 x8 x9 x10, σ' = [some (.ref p), some (.ref p1), some (.ref p2), some (.ref a), some (.ref b), some (.ref Lt), some (.ref L), x7, x8, x9, x10, none]) ?_ fun key => ?_
    · rintro σ' G ⟨sG, x7, x8, x9, x10, rfl⟩
      have la := la0.same sG
      have lb := lb0.same sG
      have eP1 := eP1.same sG
      have eP2 := eP2.same sG
      have eLt := sG _ _ eLt
      have uG := u9.same sG
      have sE := sD.trans (SameB.of sG)
      refine seqx (fun σ2 G' => SameB p G G' ∧ Src G' p ∧ ∃ bn : Nat, bn ≤ 1000 ∧ σ2 = [some (.ref p), some (.ref p1), some (.ref p2), some (.ref a), some (.ref b), some (.ref Lt), some (.ref L), x7, x8, x9, x10, some (.int (bn : Int))]) ?_ fun key2 => ?_
      · rintro σ2 G' ⟨sG', uG', bn, hbn, rfl⟩
        have la := la.keep uG sG'
        have lb := lb.keep uG sG'
        have eP1 := eP1.keep uG sG'
        have eP2 := eP2.keep uG sG'
        have eLt := sG' _ _ hLt eLt
        have sE2 := sE.trans sG'
        refine seq_go ?_
        refine ⟨_, rfl, _, rfl, _, rfl, a, p1, hm, tm, h1, t1, bn, rfl, la, by rw [hU]; exact Wm, Sm, eP1, Q1, hbn, fun J1 z1 => ⟨_, rfl, iteF ?_⟩⟩
        have u1 := uG'.same z1
        refine ⟨_, rfl, _, rfl, _, rfl, p, 30, rfl, u1, by decide, by decide, fun d J2 d0 d1 z2 u2 => ?_⟩
        obtain ⟨k3, rfl⟩ := Int.eq_ofNat_of_zero_le d0
        have lb2 := (lb.same z1).keep u1 z2
        have la2 := (la.same z1).keep u1 z2
        have eQ2 := (eP2.same z1).keep u1 z2
        have eQ1 := (eP1.same z1).keep u1 z2
        have eL2 := z2 _ _ hLt (z1 _ _ eLt)
        refine ⟨b, p2, hn, tn, h2, t2, k3, rfl, lb2, by rw [hV]; exact Wn, Sn, eQ2, Q2, by omega, fun J3 z3 => ⟨_, rfl, iteF ?_⟩⟩
        dsimp only [tNext]
        have la3 := la2.same z3
        have lb3 := lb2.same z3
        have eQ3 := eQ1.same z3
        have eL3 := z3 _ _ eL2
        refine seq_go ?_
        refine ⟨_, rfl, _, rfl, _, rfl, a, p1, hm, tm, h1, t1, bn, rfl, la3, by rw [hU]; exact Wm, Sm, eQ3, Q1, hbn, fun J4 z4 => ⟨_, rfl, iteF ?_⟩⟩
        have la4 := la3.same z4
        obtain ⟨dx, ea⟩ := id la4
        refine ⟨_, rfl, a, dx, _, rfl, ea, by rfl, _, rfl, a, hm, tm, bn, rfl, la4, Sm, hbn, fun X1 nX1 => ?_⟩
        have y1 := same_new (o := .lst (ins (dg hm tm) bn)) nX1
        refine ⟨_, rfl, a, dx, _, rfl, y1 _ _ ea, by rfl, _, rfl, a, hm, tm, bn, rfl, la4.same y1, Sm, hbn, fun X2 nX2 => ?_⟩
        have y2 := same_new (o := .lst (ins (dg hm tm) bn)) nX2
        refine ⟨.list ((insI (dg hm tm) bn).map PyData.int), .list ((insI (dg hm tm) bn).map PyData.int), .lst (SqL.of (by rw [y2 _ _ upd_same, ins_eq])) (dp_ints _), .lst (SqL.of (by rw [upd_same, ins_eq])) (dp_ints _), ints_shaped _, ints_shaped _, _, rfl, ?_⟩
        rw [show PyData.eqv (.list ((insI (dg hm tm) bn).map PyData.int)) (.list ((insI (dg hm tm) bn).map PyData.int)) = true by simp only [PyData.eqv]; exact ints_same _]
        refine iteF ?_
        dsimp only [tNext]
        have z5 := y1.trans y2
        have la5 := la4.same z5
        have lb5 := (lb3.same z4).same z5
        have eL5 := z5 _ _ (z4 _ _ eL3)
        obtain ⟨dx5, ea5⟩ := id la5
        obtain ⟨dy5, eb5⟩ := id lb5
        refine ret_go ?_
        refine ⟨_, rfl, a, dx5, _, rfl, ea5, a, hm, tm, rfl, la5, Wm.lh, Wm.lt, _, rfl, _, rfl, b, dy5, _, rfl, eb5, b, hn, tn, rfl, lb5, Wn.lh, Wn.lt, _, rfl, Nat.le_of_ble_eq_true rfl, fun Lz nLz => ⟨_, rfl, ?_⟩⟩
        have z6 := same_new (o := .lst [.str (S (txt hm tm)), .str (S (txt hn tn))]) nLz
        have okL : ∀ w ∈ [S (txt hm tm), S (txt hn tn)], PyData.strOk w = true := fun w hw => by
          simp only [List.mem_cons, List.not_mem_nil, or_false] at hw
          rcases hw with rfl | rfl
          · exact txt_ok Wm.bh Wm.bt
          · exact txt_ok Wn.bh Wn.bt
        refine ⟨_, _, .lst (SqL.of upd_same) (dp_strs [S (txt hm tm), S (txt hn tn)]), .lst (SqL.of (z6 _ _ eL5)) (dp_strs [S (txt hm tm), S (txt hn tn)]), strs_shaped _ okL, strs_shaped _ okL, ?_⟩
        rw [show PyData.eqv (.list ([S (txt hm tm), S (txt hn tn)].map PyData.str)) (.list ([S (txt hm tm), S (txt hn tn)].map PyData.str)) = true by simp only [PyData.eqv]; exact strs_same _]
        exact q _ ((((((sE2.trans (SameB.of z1)).trans z2).trans (SameB.of z3)).trans (SameB.of z4)).trans (SameB.of z5)).trans (SameB.of z6))
      · refine ⟨_, rfl, p, 4, rfl, uG, by decide, by decide, fun d J1 d0 d1 z1 u1 => ⟨_, _, rfl, rfl, _, rfl, ite2 (fun _ => ?_) (fun _ => ?_)⟩⟩
        · refine ⟨_, rfl, p, 30, rfl, u1, by decide, by decide, fun d2 J2 e0 e1 z2 u2 => ?_⟩
          obtain ⟨k3, rfl⟩ := Int.eq_ofNat_of_zero_le e0
          exact gname_go (key2 _ _ ⟨z1.trans z2, u2, k3, by omega, rfl⟩)
        · refine ⟨Nat.le_of_ble_eq_true rfl, fun Lq nLq => ⟨_, rfl, p, 4, rfl, u1.same (same_new nLq), by decide, by decide, fun d2 J2 e0 e1 z2 u2 => ?_⟩⟩
          have eq := z2 _ _ (u1.ne nLq) upd_same
          have z3 := (z1.trans (SameB.of (same_new nLq))).trans z2
          rcases (show d2 = 0 ∨ d2 = 1 ∨ d2 = 2 ∨ d2 = 3 by omega) with rfl | rfl | rfl | rfl
          · exact ⟨Lq, _, 0, .int 0, rfl, rfl, SqL.of eq, rfl, gname_go (key2 _ _ ⟨z3, u2, 0, by omega, rfl⟩)⟩
          · exact ⟨Lq, _, 1, .int 1, rfl, rfl, SqL.of eq, rfl, gname_go (key2 _ _ ⟨z3, u2, 1, by omega, rfl⟩)⟩
          · exact ⟨Lq, _, 2, .int 999, rfl, rfl, SqL.of eq, rfl, gname_go (key2 _ _ ⟨z3, u2, 999, by omega, rfl⟩)⟩
          · exact ⟨Lq, _, 3, .int 1000, rfl, rfl, SqL.of eq, rfl, gname_go (key2 _ _ ⟨z3, u2, 1000, by omega, rfl⟩)⟩
    · refine ⟨_, rfl, L, rfl, ⟨_, SqL.of eL⟩, for_list (K := K) (a := L) (xs := items) (fun i σ' G => Same G0 G ∧ ∃ x7 x8 x9 x10, σ' = [some (.ref p), some (.ref p1), some (.ref p2), some (.ref a), some (.ref b), some (.ref Lt), some (.ref L), x7, x8, x9, x10, none])
        ⟨Same.refl _, _, _, _, _, rfl⟩ (fun i σ' G _ ⟨e, _⟩ => SqL.of (e _ _ eL)) ?_ ?_⟩
      · rintro i y σ' G hi ⟨sG, x7, x8, x9, x10, rfl⟩
        obtain ⟨T9, c, wd, ws, hx, hy, rfl, e1, e2, hws, lw, lc, W⟩ := (all y (List.mem_of_getElem? hi)).same sG
        refine ⟨T9, _, rfl, SqT.of e1, rfl, _, _, rfl, _, _, rfl, rfl, ?_⟩
        try dsimp only
        refine ⟨_, rfl, _, rfl, _, rfl, p1, p2, wd, h1, t1, h2, t2, ws, rfl, eP1.same sG, eP2.same sG, e2, hws, lw, Q1, Q2, lh1, lh2, lt1, lt2, fun Tq nTq => ⟨Tq, _, rfl, SqT.of upd_same, rfl, _, _, rfl, _, _, rfl, rfl, ?_⟩⟩
        try dsimp only
        rw [hU, hV]
        have mm : t1.length * t2.length ≤ 9 * 9 := Nat.mul_le_mul lt1 lt2
        have mp : 0 < t1.length * t2.length := Nat.mul_pos (List.length_pos_iff.mpr nt1) (List.length_pos_iff.mpr nt2)
        refine ⟨_, rfl, _, rfl, _, rfl, c, hx, hy, _, max h1.length h2.length, rfl, lc.same (same_new nTq), ?_, by rw [seg_len]; omega, by rw [seg_len]; omega, fun G' s' => ⟨_, rfl, iteF ⟨(sG.trans (same_new nTq)).trans s', _, _, _, _, rfl⟩⟩⟩
        rw [seg_take, seg_drop, show dg (seg (wf ws u v) 0 (max h1.length h2.length)) (seg (wf ws u v) (max h1.length h2.length) (t1.length * t2.length)) = wf ws u v from funext (dg_seg mp fun n hn => wf_per (a := max h1.length h2.length) (fun n hn => per_dvd pu ⟨t2.length, rfl⟩ n (by omega)) (fun n hn => per_dvd pv ⟨t1.length, Nat.mul_comm _ _⟩ n (by omega)) n hn)]
        exact W
      · rintro σ' G ⟨sG, x7, x8, x9, x10, rfl⟩
        exact key _ _ ⟨sG, _, _, _, _, rfl⟩
end
end L2.K53
set_option Elab.async false
set_option linter.all false
set_option maxRecDepth 100000
set_option maxHeartbeats 8000000
namespace L2.K53
open PySem PySem.Spec PyProof.Rows L2.Tb
open SX (S)
abbrev s_law : Stmt := top 33
abbrev N_law : List Str := ["_law_cells", "_law_k"]
theorem sc_law : FnScope N_law ["_law_cells"] (defScope s_law) := ⟨rfl, rfl, rfl, by decide +kernel, rfl, by decide +kernel, by decide +kernel⟩
theorem sq_same {K : PySem.W.Frag} {H H' : Hp} {a : Addr} {xs : List V} (h : SqL K H a xs) (s : Same H H') : SqL K H' a xs := by
  rcases h with (h | ⟨o, h⟩) | h
  · exact .inl (.inl (s _ _ h))
  · exact .inl (.inr ⟨o, s _ _ h⟩)
  · exact .inr h
def spLaw (K : PySem.W.Frag) : Sp := fun vs H Q _ => ∃ (a : Addr) (ns : List Int), vs = [.ref a] ∧ SqL K H a (ns.map V.int) ∧ (∀ z ∈ ns, iBits z ≤ 1048576) ∧ ns.length ≤ 63 ∧ ∀ H' : Hp, Q (.bl true) H'
section
variable {P : Program} {w : World} {K : PySem.W.Frag} {mg : Str → Option Value} {base : Heap} {f : Addr} {fd : FuncData} {A : Around}
theorem r_law (T : Bt mg) (F : FnP K "law" s_law f fd) (hroom : Room 11 A) (k_cell : Cal P w K mg base 1 "_law_cell" (spCell K)) (k_source : Cal P w K mg base 1 "_law_source" spSource) (k_right : Cal P w K mg base 10 "_law_right" spRight) : RunsAt P w K mg base f fd ["_law_cells"] (spLaw K) A := by
  have hnd := sc_law.nd
  refine runs_body F sc_law hroom fun cdv outer s H vs Q E hr h => ?_
  obtain ⟨a, ns, rfl, hs, hb, hl, q⟩ := h
  refine ⟨_, PSs.nox (pss_cons (ps_for PassesOwn.never (by rfl) (pi_range1 (by rfl) T.m_range (pa_cons (pe_callB (call_max2 (by rfl)) (by rfl) T.m_max (by decide +kernel) (pa_cons pe_int (pa_cons (pe_callB (call_min2 (by rfl)) (by rfl) T.m_min (by decide +kernel) (pa_cons (pe_callB (show CallR _ (.builtin "len") (rLenQ K) from call_len_seq) (by rfl) T.m_len (by decide +kernel) (pa_cons (pv 0) pa_nil)) (pa_cons pe_int pa_nil))) pa_nil))) pa_nil)) (pg_name (i := 1) hnd rfl (by first | exact Or.inl rfl | exact Or.inr rfl))
      (pss_one (ps_if (pt_not (pt_val (pe_cal k_right hr (by omega) (by rfl) (pa_cons (pe_cal k_source hr (by omega) (by rfl) (pa_cons (pe_cal k_cell hr (by omega) (by rfl) (pa_cons (pv 0) (pa_cons (pv 1) pa_nil))) pa_nil)) pa_nil))))
      (pss_one (ps_ret pe_bl))
      pss_nil)))
      (pss_one (ps_ret pe_bl))), ?_⟩
  refine ⟨_, rfl, a, _, rfl, .inl hs, _, _, rfl, _, _, rfl, _, rfl, ?_⟩
  have hb0 : ∀ z : Int, 0 ≤ (if (if 8 < z then 8 else z) > 2 then if 8 < z then 8 else z else 2) ∧ (if (if 8 < z then 8 else z) > 2 then if 8 < z then 8 else z else 2) ≤ 8 := fun z => by
    by_cases h1 : 8 < z
    · rw [if_pos h1, if_pos (by decide)]
      decide
    · rw [if_neg h1]
      by_cases h2 : z > 2
      · rw [if_pos h2]
        omega
      · rw [if_neg h2]
        decide
  have hm := hb0 ((ns.map V.int).length : Nat)
  generalize (if (if 8 < (((ns.map V.int).length : Nat) : Int) then 8 else (((ns.map V.int).length : Nat) : Int)) > 2 then if 8 < (((ns.map V.int).length : Nat) : Int) then 8 else (((ns.map V.int).length : Nat) : Int) else 2) = m at hm ⊢
  refine ⟨by omega, by omega, ?_⟩
  refine for_range (n := m.toNat) (fun i σ' G => Same H G ∧ ∃ x1, σ' = [some (.ref a), x1]) ⟨Same.refl _, _, rfl⟩ ?_ ?_
  · rintro i σ' G hi ⟨sG, x1, rfl⟩
    refine gname_go ?_
    try dsimp only
    refine ⟨_, rfl, _, rfl, a, ns, i, by rw [Int.zero_add]; rfl, sq_same hs sG, hb, by omega, fun z H2 s2 hz => ⟨z, rfl, hz, fun p H3 s3 np hp => ⟨p, rfl, hp, fun H4 s4 => ⟨_, rfl, iteF ?_⟩⟩⟩⟩
    have s24 : Same H2 H4 := fun b o e => s4 b o (ne_of_none e np) (s3 b o e)
    exact ⟨(sG.trans s2).trans s24, _, rfl⟩
  · rintro σ' G ⟨sG, x1, rfl⟩
    exact q _
end
end L2.K53
set_option Elab.async false
set_option linter.all false
set_option maxRecDepth 100000
set_option maxHeartbeats 0
namespace L2.K53
open PySem PySem.Spec PyProof.Rows L2.Tb
/-! ### the head -/
def frees : List Str := [("len" : Str), ("int" : Str), ("abs" : Str), ("divmod" : Str), ("isinstance" : Str), ("tuple" : Str), ("list" : Str), ("bool" : Str), ("all" : Str), ("zip" : Str), ("range" : Str), ("max" : Str), ("min" : Str), ("enumerate" : Str), ("repr" : Str), ("sorted" : Str), ("ValueError" : Str), ("LookupError" : Str), ("ArithmeticError" : Str), ("str" : Str)]
def gloL : List Str := ["Lengths", "_OPPOSITE", "is_integer", "is_number", "_is_digits", "_root", "_shortest", "_digit", "_joined", "_opposite", "_law_cell", "_law_source", "_law_draw", "_law_digit", "_law_digits", "_law_shortest", "_law_is", "_law_both", "_law_listed", "_law_right", "law"]
def signs : List Str := ["0", "1"]
def strB (K : PySem.W.Frag) (d : Addr) (z y : Str) : Bool := match PySem.W.nsIn K d z with
  | some (some (.str x _)) => decide (x = y)
  | _ => false
theorem strB_ok {K : PySem.W.Frag} {d : Addr} {z y : Str} (h : strB K d z y = true) : ∃ t, PySem.W.nsIn K d z = some (some (.str y t)) := by
  unfold strB at h
  split at h
  · rename_i x t e
    exact ⟨t, by rw [e, of_decide_eq_true h]⟩
  · cases h
def oddT : List String := ["str"]
def joinB (K : PySem.W.Frag) : Bool := (He.Fa.str "_IN_BOTH" "0001").ok K && ((He.Fa.str "_IN_ANY" "0111").ok K && ((He.Fa.str "_IN_FIRST_ALONE" "0010").ok K && ((He.Fa.int "_FARTHEST" 1000).ok K && (He.eqO (PySem.W.nsIn K mainGlobals "lcm") (some (some (.builtin "math.lcm"))) &&
  (strB K (He.ga K "_OPPOSITE") "0" "1" && strB K (He.ga K "_OPPOSITE") "1" "0")))))
def classB (K : PySem.W.Frag) (C : Addr) : Bool := (He.Fa.cls "Lengths").ok K && ((He.Fa.noat "Lengths" "_head").ok K && ((He.Fa.noat "Lengths" "_tail").ok K && ((He.Fa.mkr "Lengths").ok K && (insB K C && ((He.Fa.meth "Lengths" "__str__").ok K && ((He.Fa.meth "Lengths" "__and__").ok K &&
  ((He.Fa.meth "Lengths" "__contains__").ok K && ((He.Fa.meth "Lengths" "__or__").ok K && ((He.Fa.meth "Lengths" "__sub__").ok K && ((He.Fa.meth "Lengths" "__invert__").ok K && ((He.Fa.meth "Lengths" "up_to").ok K && (propB K C "head" && (propB K C "tail" && (creadB K C && (cmetB K C "read" && (decide (PySem.W.kitOne K (.ref C) (.ref C) = some true) &&
  PySem.W.selfFirst K C))))))))))))))))
def factB (K : PySem.W.Frag) : Bool := gloL.all (fun x => (He.Fa.glo x).ok K) && (frees.all (fun x => (He.Fa.free x).ok K) && (classB K (He.ga K "Lengths") && (keysB K (He.ga K "_OPPOSITE") signs && joinB K)))
def dIn (at_ : PySem.W.Frag → Addr) (x q : Str) (st : Stmt) (kw : List (Str × He.Dv)) : He5.DefA := ⟨at_, x, q, defArgs st, defBody st, defScope st, [], kw⟩
def dTop (x : Str) (i : Nat) : He5.DefA := dIn (fun K => He.fAd K (x, none)) x x (top i) []
def fnA1 : List He5.DefA := [dTop "is_integer" 7, dTop "is_number" 8, dTop "_is_digits" 16, dTop "_root" 17, dTop "_shortest" 18, dTop "_digit" 19, dTop "_joined" 20, dTop "_opposite" 21, dTop "_law_cell" 23, dTop "_law_source" 24, dTop "_law_draw" 25, dTop "_law_digit" 26, dTop "_law_digits" 27, dTop "_law_shortest" 28, dTop "_law_is" 29, dTop "_law_both" 30, dTop "_law_listed" 31, dTop "_law_right" 32, dTop "law" 33]
def fnA2 : List He5.DefA := [dIn (fun K => He.ma K (He.ga K "Lengths") "__init__") "__init__" "Lengths.__init__" (inClass (top 15) 0) [], dIn (fun K => He.ma K (He.ga K "Lengths") "__str__") "__str__" "Lengths.__str__" (inClass (top 15) 12) [], dIn (fun K => He.ma K (He.ga K "Lengths") "__contains__") "__contains__" "Lengths.__contains__" (inClass (top 15) 5) [], dIn (fun K => He.ma K (He.ga K "Lengths") "__and__") "__and__" "Lengths.__and__" (inClass (top 15) 6) [], dIn (fun K => He.ma K (He.ga K "Lengths") "__or__") "__or__" "Lengths.__or__" (inClass (top 15) 7) [], dIn (fun K => He.ma K (He.ga K "Lengths") "__sub__") "__sub__" "Lengths.__sub__" (inClass (top 15) 8) [], dIn (fun K => He.ma K (He.ga K "Lengths") "__invert__") "__invert__" "Lengths.__invert__" (inClass (top 15) 9) [], dIn (fun K => He.ma K (He.ga K "Lengths") "up_to") "up_to" "Lengths.up_to" (inClass (top 15) 4) [], dIn (fun K => pAd K (He.ga K "Lengths") "head") "head" "Lengths.head" (inClass (top 15) 2) [], dIn (fun K => pAd K (He.ga K "Lengths") "tail") "tail" "Lengths.tail" (inClass (top 15) 3) [], dIn (fun K => cAd K (He.ga K "Lengths") "read") "read" "Lengths.read" (inClass (top 15) 1) []]
def fnA : List He5.DefA := fnA1 ++ fnA2
def tabL : List He.Tab := [(fun K => He.ga K "_OPPOSITE", signs)]
def cdL : List He.Defn := []
abbrev hookX : PySem.W.Hook := hookH 5 factB fnA tabL cdL
abbrev R : PySem.W.OpenRow := PySem.W.OpenLaw.row PySem.Challenge.rw_thirdback_k53_lengths_joined
def ob (s : PySem.W.SharedT) : AlH := obsH 5 factB fnA tabL cdL (HandSHeadRun.getT s)
theorem ob_eq (s : PySem.W.SharedT) : ob s = hookX.obs s.abs := obH_eq s
def looseN : List Str := [("WrongValue" : Str), ("InvalidText" : Str), ("InvalidNumber" : Str), ("NotLengths" : Str), ("Lengths" : Str), ("_FARTHEST" : Str), ("_IN_BOTH" : Str), ("_IN_ANY" : Str), ("_IN_FIRST_ALONE" : Str), ("_OPPOSITE" : Str), ("is_integer" : Str), ("is_number" : Str), ("_is_digits" : Str), ("_root" : Str), ("_shortest" : Str), ("_digit" : Str), ("_joined" : Str), ("_opposite" : Str), ("_law_cell" : Str), ("_law_source" : Str), ("_law_draw" : Str), ("_law_digit" : Str), ("_law_digits" : Str), ("_law_shortest" : Str), ("_law_is" : Str), ("_law_both" : Str), ("_law_listed" : Str), ("_law_right" : Str)]
theorem run (w : World) : HandSHeadRun.RunEqI R (PySem.W.view R.prog [0, 33]) hookX ob 20000 looseN w := by
  refine PySem.W.byRow2 "special-get-raises" (P := fun w => HandSHeadRun.RunEqI R (PySem.W.view R.prog [0, 33]) hookX ob 20000 looseN w) (fun w => ?_) (fun w => ?_) w
  · show _ = _
    kernel_rfl
  · show _ = _
    kernel_rfl
end L2.K53
set_option Elab.async false
set_option linter.all false
set_option maxRecDepth 100000
set_option maxHeartbeats 0
namespace L2.K53
open PySem PySem.Spec PyProof.Rows L2.Tb
abbrev FunK (K : PySem.W.Frag) (x q : Str) (st : Stmt) (f : Addr) (fd : FuncData) : Prop := FunD K x q (defArgs st) (defBody st) (defScope st) [] [] f fd
theorem up_kw {K : PySem.W.Frag} {f : Addr} {fd : FuncData} (F : FunK K "up_to" "Lengths.up_to" s_lupto f fd) (sh : Shared) (a : Addr) (zs : List Value) (hl : zs.length = (["number"] : List Str).length) :
    BindsTo sh fd ⟨[.ref a], (["number"] : List Str).zip zs⟩ ((["self", "number"] : List Str).zip (Value.ref a :: zs)) := by
  match zs, hl with
  | [v], _ =>
    obtain ⟨oc, od, dV, kV, doc, pm, an, cdv, ct, osl, rfl, lk, hcd, hD, hK⟩ := F.ex
    rcases hD with ⟨_, rfl⟩ | ⟨e, _⟩
    · exact .of_eq rfl
    · exact absurd rfl e
section
variable {P : Program} {w : World} {K : PySem.W.Frag} {mg : Str → Option Value} {h : Heap}
theorem ends {f : Addr} (G : h.Ns mainGlobals mg) (hfa : mg ("law" : Str) = some (.ref f)) (c : SaysH factB fnA tabL cdL w h K) :
    ∃ fd : FuncData, (∀ (s : Shared) (v : Value), BindsTo s fd ⟨[v], []⟩ [("_law_cells", v)]) ∧ ∀ base : Heap, K.In base → base.Ns mainGlobals mg → RunsAt P w K mg base f fd ["_law_cells"] (spLaw K) callerA := by
  have X := c.kin
  obtain ⟨f1, z⟩ := He.ba (show factB K = true from c.fb)
  obtain ⟨f2, z⟩ := He.ba z
  obtain ⟨f3, z⟩ := He.ba z
  obtain ⟨f4, f5⟩ := He.ba z
  have T : Bt mg := ⟨He.free_ok X G (all_get f2 0), He.free_ok X G (all_get f2 1), He.free_ok X G (all_get f2 2), He.free_ok X G (all_get f2 3), He.free_ok X G (all_get f2 4), He.free_ok X G (all_get f2 5), He.free_ok X G (all_get f2 6), He.free_ok X G (all_get f2 7), He.free_ok X G (all_get f2 8), He.free_ok X G (all_get f2 9), He.free_ok X G (all_get f2 10), He.free_ok X G (all_get f2 11), He.free_ok X G (all_get f2 12), He.free_ok X G (all_get f2 13), He.free_ok X G (all_get f2 14), He.free_ok X G (all_get f2 15), He.free_ok X G (all_get f2 16), He.free_ok X G (all_get f2 17), He.free_ok X G (all_get f2 18)⟩
  have mstr : mg "str" = none := He.free_ok X G (all_get f2 19)
  obtain ⟨fd_is_integer, F_is_integer⟩ := c.nth (d := dTop "is_integer" 7) 0
  have g_is_integer := He.glo_ok X G (all_get f1 2)
  obtain ⟨fd_is_number, F_is_number⟩ := c.nth (d := dTop "is_number" 8) 1
  have g_is_number := He.glo_ok X G (all_get f1 3)
  obtain ⟨fd__is_digits, F__is_digits⟩ := c.nth (d := dTop "_is_digits" 16) 2
  have g__is_digits := He.glo_ok X G (all_get f1 4)
  obtain ⟨fd__root, F__root⟩ := c.nth (d := dTop "_root" 17) 3
  have g__root := He.glo_ok X G (all_get f1 5)
  obtain ⟨fd__shortest, F__shortest⟩ := c.nth (d := dTop "_shortest" 18) 4
  have g__shortest := He.glo_ok X G (all_get f1 6)
  obtain ⟨fd__digit, F__digit⟩ := c.nth (d := dTop "_digit" 19) 5
  have g__digit := He.glo_ok X G (all_get f1 7)
  obtain ⟨fd__joined, F__joined⟩ := c.nth (d := dTop "_joined" 20) 6
  have g__joined := He.glo_ok X G (all_get f1 8)
  obtain ⟨fd__opposite, F__opposite⟩ := c.nth (d := dTop "_opposite" 21) 7
  have g__opposite := He.glo_ok X G (all_get f1 9)
  obtain ⟨fd_cell, F_cell⟩ := c.nth (d := dTop "_law_cell" 23) 8
  have g_cell := He.glo_ok X G (all_get f1 10)
  obtain ⟨fd_source, F_source⟩ := c.nth (d := dTop "_law_source" 24) 9
  have g_source := He.glo_ok X G (all_get f1 11)
  obtain ⟨fd_draw, F_draw⟩ := c.nth (d := dTop "_law_draw" 25) 10
  have g_draw := He.glo_ok X G (all_get f1 12)
  obtain ⟨fd_digit, F_digit⟩ := c.nth (d := dTop "_law_digit" 26) 11
  have g_digit := He.glo_ok X G (all_get f1 13)
  obtain ⟨fd_digits, F_digits⟩ := c.nth (d := dTop "_law_digits" 27) 12
  have g_digits := He.glo_ok X G (all_get f1 14)
  obtain ⟨fd_shortest, F_shortest⟩ := c.nth (d := dTop "_law_shortest" 28) 13
  have g_shortest := He.glo_ok X G (all_get f1 15)
  obtain ⟨fd_is, F_is⟩ := c.nth (d := dTop "_law_is" 29) 14
  have g_is := He.glo_ok X G (all_get f1 16)
  obtain ⟨fd_both, F_both⟩ := c.nth (d := dTop "_law_both" 30) 15
  have g_both := He.glo_ok X G (all_get f1 17)
  obtain ⟨fd_listed, F_listed⟩ := c.nth (d := dTop "_law_listed" 31) 16
  have g_listed := He.glo_ok X G (all_get f1 18)
  obtain ⟨fd_right, F_right⟩ := c.nth (d := dTop "_law_right" 32) 17
  have g_right := He.glo_ok X G (all_get f1 19)
  obtain ⟨fd_law, F_law⟩ := c.nth (d := dTop "law" 33) 18
  have g_law := He.glo_ok X G (all_get f1 20)
  have e := hfa.symm.trans g_law
  cases e
  obtain ⟨k1, z⟩ := He.ba f3
  obtain ⟨k2, z⟩ := He.ba z
  obtain ⟨k3, z⟩ := He.ba z
  obtain ⟨k4, z⟩ := He.ba z
  obtain ⟨k5, z⟩ := He.ba z
  obtain ⟨k6, z⟩ := He.ba z
  obtain ⟨k7, z⟩ := He.ba z
  obtain ⟨k8, z⟩ := He.ba z
  obtain ⟨k9, z⟩ := He.ba z
  obtain ⟨k10, z⟩ := He.ba z
  obtain ⟨k11, z⟩ := He.ba z
  obtain ⟨k12, z⟩ := He.ba z
  obtain ⟨k13, z⟩ := He.ba z
  obtain ⟨k14, z⟩ := He.ba z
  obtain ⟨k15, z⟩ := He.ba z
  obtain ⟨k16, z⟩ := He.ba z
  obtain ⟨k17, k18⟩ := He.ba z
  obtain ⟨j1, z⟩ := He.ba f5
  obtain ⟨j2, z⟩ := He.ba z
  obtain ⟨j3, z⟩ := He.ba z
  obtain ⟨j4, z⟩ := He.ba z
  obtain ⟨j5, z⟩ := He.ba z
  obtain ⟨j6, j7⟩ := He.ba z
  obtain ⟨es, n, D⟩ := c.tb (fun K => He.ga K "_OPPOSITE", signs) List.mem_cons_self
  refine ⟨_, fun s v => FunD.bindsA (ps := ["_law_cells"]) F_law (fun _ _ _ _ _ _ us hl => match us, hl with | [_], _ => rfl) s [v] rfl, fun base _ _ => ?_⟩
  have LF : LiF K w mg (He.ga K "Lengths") (He.ga K "_OPPOSITE") es n := ⟨He.glo_ok X G (all_get f1 0), He.cls_ok k1, He.noat_ok k2, He.noat_ok k3, He.glo_ok X G (all_get f1 1), D, keysB_ok f4⟩
  have LG : LiG K (He.ga K "Lengths") := ⟨insB_ok k5, of_decide_eq_true k17⟩
  have KM := He.mkr_ok k4
  obtain ⟨fdi, Fi⟩ := c.nth (d := dIn (fun K => He.ma K (He.ga K "Lengths") "__init__") "__init__" "Lengths.__init__" s_linit []) 19
  obtain ⟨fds, Fs⟩ := c.nth (d := dIn (fun K => He.ma K (He.ga K "Lengths") "__str__") "__str__" "Lengths.__str__" s_lstr []) 20
  obtain ⟨fdc, Fc⟩ := c.nth (d := dIn (fun K => He.ma K (He.ga K "Lengths") "__contains__") "__contains__" "Lengths.__contains__" s_lcont []) 21
  obtain ⟨fda, Fa⟩ := c.nth (d := dIn (fun K => He.ma K (He.ga K "Lengths") "__and__") "__and__" "Lengths.__and__" s_land []) 22
  obtain ⟨fdo, Fo⟩ := c.nth (d := dIn (fun K => He.ma K (He.ga K "Lengths") "__or__") "__or__" "Lengths.__or__" s_lor []) 23
  obtain ⟨fdu, Fu⟩ := c.nth (d := dIn (fun K => He.ma K (He.ga K "Lengths") "__sub__") "__sub__" "Lengths.__sub__" s_lsub []) 24
  obtain ⟨fdv, Fv⟩ := c.nth (d := dIn (fun K => He.ma K (He.ga K "Lengths") "__invert__") "__invert__" "Lengths.__invert__" s_linv []) 25
  obtain ⟨fdg, Fg⟩ := c.nth (d := dIn (fun K => He.ma K (He.ga K "Lengths") "up_to") "up_to" "Lengths.up_to" s_lupto []) 26
  obtain ⟨fdh, Fh⟩ := c.nth (d := dIn (fun K => pAd K (He.ga K "Lengths") "head") "head" "Lengths.head" s_lhead []) 27
  obtain ⟨fdt, Ft⟩ := c.nth (d := dIn (fun K => pAd K (He.ga K "Lengths") "tail") "tail" "Lengths.tail" s_ltail []) 28
  have k_is_integer := c_is_integer (P := P) (w := w) (base := base) T F_is_integer g_is_integer
  have k_is_digits := c_is_digits (P := P) (w := w) (base := base) T mstr LF F__is_digits g__is_digits
  have k_root := c_root (P := P) (w := w) (base := base) T F__root g__root
  have k_pshortest := c_pshortest (P := P) (w := w) (base := base) T F__shortest g__shortest
  have c_i := c_linit T LF k_is_digits k_root k_pshortest Fi
  have c_h := c_lhead (P := P) (w := w) (base := base) LF Fh
  have c_t := c_ltail (P := P) (w := w) (base := base) LF Ft
  have Bi : Binds K fdi ["self", "head", "tail"] [] := Fi.bindsN fun _ _ _ _ _ _ us hl => match us, hl with | [_, _, _], _ => rfl
  have Bh : Binds K fdh ["self"] [] := Fh.bindsN fun _ _ _ _ _ _ us hl => match us, hl with | [_], _ => rfl
  have Bt' : Binds K fdt ["self"] [] := Ft.bindsN fun _ _ _ _ _ _ us hl => match us, hl with | [_], _ => rfl
  have k_pdigit := c_pdigit T LF (propB_ok k13) c_h Bh (propB_ok k14) c_t Bt' F__digit g__digit
  have c_c := c_lcont T k_is_integer k_pdigit Fc
  obtain ⟨q0, e0⟩ := strB_ok j6
  obtain ⟨q1, e1⟩ := strB_ok j7
  have JF : JoF K w mg (He.ga K "_OPPOSITE") := ⟨He.str_ok X G j1, He.str_ok X G j2, He.str_ok X G j3, He.int_ok X G j4, PySem.W.mg_of X G (He.eqO_ok j5), ⟨es, n, _, D.at_, D.lit, e0, ⟨_, rfl⟩⟩, ⟨es, n, _, D.at_, D.lit, e1, ⟨_, rfl⟩⟩⟩
  have k_is_number := c_is_number k_is_integer F_is_number g_is_number
  have k_opposite := c_opposite (P := P) (base := base) T LF JF F__opposite g__opposite
  have k_joined := c_joined T LF LG JF (propB_ok k13) c_h Bh (propB_ok k14) c_t Bt' KM c_i Bi k_pdigit F__joined g__joined
  have Bc : Binds K fdc ["self", "value"] [] := Fc.bindsN fun _ _ _ _ _ _ us hl => match us, hl with | [_, _], _ => rfl
  have JP : JoP P w K mg base (He.ga K "Lengths") (He.ga K "_OPPOSITE") es n :=
    ⟨mstr, LF, LG, JF, ⟨_, fdi, KM, c_i, Bi⟩, ⟨_, fds, (He.meth_ok k6).at_, (He.meth_ok k6).fn, c_lstr LF Fs, Fs.bindsN fun _ _ _ _ _ _ us hl => match us, hl with | [_], _ => rfl⟩, ⟨_, fdc, (He.meth_ok k8).at_, (He.meth_ok k8).fn, c_c, Bc⟩, k18,
     ⟨_, fda, (He.meth_ok k7).at_, (He.meth_ok k7).fn, c_land JF k_joined Fa, Fa.bindsN fun _ _ _ _ _ _ us hl => match us, hl with | [_, _], _ => rfl⟩, ⟨_, fdo, (He.meth_ok k9).at_, (He.meth_ok k9).fn, c_lor JF k_joined Fo, Fo.bindsN fun _ _ _ _ _ _ us hl => match us, hl with | [_, _], _ => rfl⟩, ⟨_, fdu, (He.meth_ok k10).at_, (He.meth_ok k10).fn, c_lsub JF k_joined Fu, Fu.bindsN fun _ _ _ _ _ _ us hl => match us, hl with | [_, _], _ => rfl⟩,
     ⟨_, fdv, (He.meth_ok k11).at_, (He.meth_ok k11).fn, c_linv LF KM c_i Bi k_opposite Fv, Fv.bindsN fun _ _ _ _ _ _ us hl => match us, hl with | [_], _ => rfl⟩, ⟨_, fdg, He.meth_ok k12, c_lupto T LF JF (He.meth_ok k8).at_ (He.meth_ok k8).fn c_c Bc k_is_number Fg, Fg.bindsN fun _ _ _ _ _ _ us hl => match us, hl with | [_, _], _ => rfl, up_kw Fg⟩⟩
  have room : Room 11 callerA := ⟨rfl, by decide, by decide⟩
  have k_cell := c_cell (P := P) (w := w) (base := base) T F_cell g_cell
  have k_source := c_source (P := P) (w := w) (base := base) T F_source g_source
  have k_draw := c_draw (P := P) (w := w) (base := base) T F_draw g_draw
  have k_digit := c_digit (P := P) (w := w) (base := base) T F_digit g_digit
  have k_digits := c_digits T F_digits g_digits k_draw
  have k_shortest := c_shortest T F_shortest g_shortest k_digit
  have k_is := c_is T JP F_is g_is k_digit k_shortest
  have k_both := c_both T F_both g_both k_digit
  have k_listed := c_listed T JP F_listed g_listed k_digit
  have k_right := c_right T JP F_right g_right k_draw k_digits k_both k_is k_listed
  exact r_law T F_law room k_cell k_source k_right
end
end L2.K53
open PySem PySem.W PySem.Calls PyProof.Rows
theorem PySem.Challenge.cw_thirdback_k53_lengths_joined_holds : PySem.Challenge.rw_thirdback_k53_lengths_joined.Holds := by
  w_on; o_law
  refine HandSHeadRun.head_imp (r := OpenLaw.row PySem.Challenge.rw_thirdback_k53_lengths_joined) (q := view (OpenLaw.row PySem.Challenge.rw_thirdback_k53_lengths_joined).prog [0, 33]) (H := L2.K53.hookX) (ob := L2.K53.ob) (M := 20000) (loose := L2.K53.looseN) (d := HandSHeadRun.topDef (OpenLaw.row PySem.Challenge.rw_thirdback_k53_lengths_joined).prog 33) (kwd := []) L2.K53.ob_eq
    L2.K53.run (by kernel_rfl) (by kernel_rfl) (by kernel_rfl) (by rfl) (by first | assumption | decide +kernel) (by decide +kernel) ⟨rfl, rfl, rfl, rfl, rfl, by decide +kernel⟩ ?hw ?hc
  case hw => w_witness2
  case hc =>
    refine L2.Tb.walk_at (l := PySem.Challenge.rw_thirdback_k53_lengths_joined) (n := 63) (x := "_law_cells") rfl (by decide) (by kernel_rfl) ?F
    intro w mg fa h Y G hmg0
    obtain ⟨K, c⟩ := Y
    have hmg : mg ("law" : PySem.Str) = some (.ref fa) := by
      have e : (HandSHeadRun.topDef (OpenLaw.row PySem.Challenge.rw_thirdback_k53_lengths_joined).prog 33).name = ("law" : PySem.Str) := by kernel_rfl
      rw [← e]
      exact hmg0
    obtain ⟨fd, hb, hF⟩ := L2.K53.ends (P := (PySem.Challenge.rw_thirdback_k53_lengths_joined).prog) (w := w) G hmg c
    exact ⟨K, fd, L2.K53.spLaw K, c.kin, hb, fun H a ns hl hbits hS => ⟨a, ns, rfl, hS, hbits, hl, fun _ => rfl⟩, hF⟩
