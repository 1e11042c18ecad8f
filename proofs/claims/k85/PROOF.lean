import PyProof.Rows.All
import Wide.All
import OpenK.AllK
import Wide.FinOn
import HandS.ExcInit
import HandS.ForMost
import HandS.ForExc
import HandS.Wide
import HandS.Evl
import HandS.ExcIs
import HandS.ExcField
import HandS.ExcValue
import HandS.IsInst
import HandS.Defaults
import HandS.MakeKwOnly
import HandS.Zip
import HandS.Iter
import PySem.Challenge.RW_dequelogs_k85_errors_made_directly
set_option Elab.async false
set_option linter.all false
set_option maxRecDepth 100000
set_option maxHeartbeats 4000000
namespace PySem
namespace XkA
open PySem.Spec PySem.W PySem.Calls PyProof.Rows PySem.HandSPX
section
variable {M : Model} {A : Around} {E : Value → Shared → Prop} {h : Heap} {g : Array GenState} {d : Drawn} {t : Nat} {os : OsState}
variable {nm q : Str} {C N : Addr} {bs bm bmB : List Value} {hdct : Bool} {sn : List Str} {sub : List Value} {ab : Bool} {col : Option Bool} {dd : Option Addr} {k0 k1 k2 k3 k5 : Option Value} {B newId initId : String}
/-- the check of the maker's arguments, keywords beside -/
theorem chk (F : ExcBaseFacts B newId initId bmB) (hT : ∀ T : String, bm.contains (.type T) = bmB.contains (.type T)) {kw : List (Str × Value)} {Q : Unit → Shared → Prop}
    (hC : h.get? C = some (excClassObj nm q C N bs bm hdct sn sub ab col dd k0 k1 k2 k3 k5 newId)) (hq : Q () ⟨h, g, d, t, os⟩) :
    wpAny M A (checkBuiltinCall newId ⟨[.ref C], kw⟩) Q E ⟨h, g, d, t, os⟩ := by
  have hB : (Value.ref C :: bm).contains (.type B) = true := by rw [List.contains_cons, hT, F.hasB, Bool.or_true]
  have hS := F.noStar
  simp only [checkBuiltinCall, F.newKind, F.newSplit, F.newRow]
  repeat (first
    | refine wpAny_loadPart_at hC ?_
    | (refine wpAny_isSubtype_exc hC ?_; rw [hB])
    | refine wpAny_staticBase_exc hC ?_
    | refine wpAny_madeBy_exc hC ?_
    | simp only [bne_self_eq_false, Bool.false_eq_true, if_false]
    | wp_step)
  exact hq
end
section
variable {prog : Program} {w : World} {A : Around} {E : Value → Shared → Prop} {R : Result → Shared → Prop} {h : Heap} {g : Array GenState} {d : Drawn} {t : Nat} {os : OsState}
variable {nm q : Str} {C N : Addr} {bs bm bmB : List Value} {hdct : Bool} {sn : List Str} {sub : List Value} {ab : Bool} {col : Option Bool} {dd : Option Addr} {k0 k1 k2 k3 k5 : Option Value} {B newId initId : String}
/-- a fresh one, no positional arguments -/
theorem mkn (F : ExcBaseFacts B newId initId bmB) (hT : ∀ T : String, bm.contains (.type T) = bmB.contains (.type T)) {kw : List (Str × Value)}
    (hC : h.get? C = some (excClassObj nm q C N bs bm hdct sn sub ab col dd k0 k1 k2 k3 k5 newId))
    (hq : R (.ok (.ret (.ref (h.objs.size + 1)))) ⟨(h.push (kdv_tup [])).push (excO C h.objs.size), g, d, t, os⟩) :
    codeAny (model prog w) A (.builtin newId ⟨[.ref C], kw⟩) R ⟨h, g, d, t, os⟩ := by
  have hends := F.ends
  have hB : (Value.ref C :: bm).contains (.type B) = true := by rw [List.contains_cons, hT, F.hasB, Bool.or_true]
  have hA : (Value.ref C :: bm).contains (.type "AttributeError") = false := by rw [List.contains_cons, hT, F.noAttr] <;> rfl
  have hN : (Value.ref C :: bm).contains (.type "NameError") = false := by rw [List.contains_cons, hT, F.noName] <;> rfl
  refine codeAny_builtinAt F.entry ?_
  unfold Builtin.«BaseException.__new__»
  refine wpAt_bind ?_
  show wpAt _ _ _ (stack >>= _) _ _ _
  refine wpAt_bind (wpAt_stack fun p below => wpAt_of_wpAny ?_)
  wp_walk
  refine wpAt_of_wpAny ?_
  rw [F.owner]
  repeat (first
    | with_reducible refine wpAny_madeHere_exc F.canon hC ?_
    | with_reducible refine wpAny_loadPart_at hC ?_
    | (with_reducible refine wpAny_isSubtype_exc hC ?_; first | rw [hB] | rw [hA] | rw [hN])
    | wp_step)
  show R _ _
  rw [Heap.size_push]
  exact hq
theorem tcal (F : ExcBaseFacts B newId initId bmB) (hT : ∀ T : String, bm.contains (.type T) = bmB.contains (.type T)) {kw : List (Str × Value)} {fI : Addr} {Q : Fin → Shared → Prop}
    (hC : h.get? C = some (excClassObj nm q C N bs bm hdct sn sub ab col dd k0 k1 k2 k3 k5 newId))
    (hi : Looks (model prog w) h (typeLookup (.ref C) "__init__") (some (.ref fI))) (hb : ∀ self, Looks (model prog w) h (bindSpecial (.ref fI) self) (.ref fI, [self]))
    (hq : codeAny (model prog w) A (.call (.ref fI) ⟨[.ref (h.objs.size + 1)], kw⟩)
      (fun r s' => match r with | .ok (.ret v) => v = .none ∧ Q (.done (.ret (.ref (h.objs.size + 1)))) s' | .ok _ => False | .error e => E e s')
      ⟨(h.push (kdv_tup [])).push (excO C h.objs.size), g, d, t, os⟩) :
    wpAny (model prog w) A (Builtin.«type.__call__» ⟨[.ref C], kw⟩) Q E ⟨h, g, d, t, os⟩ := by
  repeat (first | with_reducible refine wpAny_loadPart_at hC ?_ | with_reducible refine wpAny_madeBy_exc hC ?_ | wp_step)
  refine codeAny_call_builtin_code (Code.quiet_builtin _ F.quiet) (chk F hT hC ?_)
  refine mkn F hT hC ?_
  show wpAny _ _ _ _ _ _
  have k : ∀ b o, h.get? b = some o → ((h.push (kdv_tup [])).push (excO C h.objs.size)).get? b = some o := fun b o e =>
    Heap.get?_push_of_some _ (Heap.get?_push_of_some _ e)
  have hC1 := k _ _ hC
  have hg : ((h.push (kdv_tup [])).push (excO C h.objs.size)).get? (h.objs.size + 1) = some (excO C h.objs.size) := by heap_get
  have hc : (Value.ref C :: bm).contains (.ref C) = true := by simp
  have i1 := hi.keeps k
  have b1 := (hb (.ref (h.objs.size + 1))).keeps k
  unfold isInstance
  repeat (first | with_reducible refine wpAny_loadPart_at hg ?_ | (with_reducible refine wpAny_isSubtype_exc hC1 ?_; rw [hc]) | wp_step)
  show wpAny _ _ (typeLookup (.ref C) _) _ _ _
  refine i1.at ?_
  refine wpAny_holding (wpAny_bind (b1.at ?_))
  refine wpAny_bind (wpAny_call (codeAny_mono hq fun r s' z => ?_))
  rcases r with e | (v | _ | _ | _) <;> first | exact z | exact z.elim | skip
  obtain ⟨rfl, z⟩ := z
  first
    | exact wpAny_pure (wpAny_pure z)
    | (wp_walk; exact z)
/-- C(k = v, ..): the class's own __init__ gets the keywords -/
theorem ckw (F : ExcBaseFacts B newId initId bmB) (hT : ∀ T : String, bm.contains (.type T) = bmB.contains (.type T)) {kw : List (Str × Value)} {fI : Addr}
    (hC : h.get? C = some (excClassObj nm q C N bs bm hdct sn sub ab col dd k0 k1 k2 k3 k5 newId))
    (hi : Looks (model prog w) h (typeLookup (.ref C) "__init__") (some (.ref fI))) (hb : ∀ self, Looks (model prog w) h (bindSpecial (.ref fI) self) (.ref fI, [self]))
    (hq : codeAny (model prog w) (A.under (.builtin "type.__call__" ⟨[.ref C], kw⟩)) (.call (.ref fI) ⟨[.ref (h.objs.size + 1)], kw⟩) (InitBack (h.objs.size + 1) R)
      ⟨(h.push (kdv_tup [])).push (excO C h.objs.size), g, d, t, os⟩) :
    codeAny (model prog w) A (.call (.ref C) ⟨[], kw⟩) R ⟨h, g, d, t, os⟩ := by
  have f1 := tc_lookup
  have f2 := tc_bind (.ref C)
  have hTy : (⟨h, g, d, t, os⟩ : Shared).TypeIs (.ref C) "type" := ⟨_, hC, rfl⟩
  refine codeAny_of_tree ?_
  show wpAny _ _ (callAny (.ref C) _) _ _ _
  repeat (any_goals (first | assumption | with_reducible refine wpAny_loadPart_at hC ?_ | wp_step))
  refine ⟨rfl, ?_⟩
  refine codeAny_call_builtin_at (Code.quiet_builtin _ (by decide +kernel)) entry_typeCall (wpAny_check_type_call_sub hC (tcal F hT hC hi hb ?_))
  refine codeAny_mono hq fun r s' z => ?_
  rcases r with e | (v | _ | _ | _) <;> exact z
end
end XkA
end PySem

set_option Elab.async false
set_option linter.all false
set_option maxRecDepth 100000
set_option maxHeartbeats 4000000
namespace Vx
open PySem PySem.Spec PyProof.Rows L2
/-- a def of the text that keeps its promise, where the module's name holds it -/
structure Good (P : Program) (w : World) (K : PySem.W.Frag) (mg : Str → Option Value) (base : Heap) (k : Nat) (x : Str) (ps : List Str) (sp : Sp) : Prop where
  ex : ∃ f fd, FnOk P w K mg base CX0 k f fd ps sp ∧ mg x = some (.ref f) ∧ PySem.W.keepIn K (.ref f) = true ∧ Binds K fd ps []
/-- a def as it stands behind the top -/
structure Def (K : PySem.W.Frag) (mg : Str → Option Value) (x : Str) (st : Stmt) (ps : List Str) : Prop where
  ex : ∃ f fd, Fun K x x st f fd ∧ mg x = some (.ref f) ∧ Binds K fd ps []
section
variable {P : Program} {w : World} {K : PySem.W.Frag} {mg : Str → Option Value} {base : Heap}
theorem Good.mono {j k : Nat} {x : Str} {ps : List Str} {sp : Sp} (g : Good P w K mg base j x ps sp) (h : j ≤ k) : Good P w K mg base k x ps sp := by
  obtain ⟨f, fd, F, m, kp, b⟩ := g.ex
  exact ⟨f, fd, F.mono h, m, kp, b⟩
theorem Good.imp {k : Nat} {x : Str} {ps : List Str} {sp sp' : Sp} (g : Good P w K mg base k x ps sp) (h : ∀ vs H Q E, sp' vs H Q E → sp vs H Q E) : Good P w K mg base k x ps sp' := by
  obtain ⟨f, fd, F, m, kp, b⟩ := g.ex
  exact ⟨f, fd, F.imp h, m, kp, b⟩
/-- THE RULE of a def that lets nothing out -/
theorem Def.good {x : Str} {st : Stmt} {N ps : List Str} {k : Nat} {sp : Sp} (D : Def K mg x st ps) (S : FnScope N ps (defScope st)) (len : ∀ vs H Q E, sp vs H Q E → vs.length = ps.length)
    (body : ∀ (f : Addr) (cdv : Value) (A : Around) (outer : List Env) (s : Shared) (H : Hp) (vs : List V) (Q : VK) (E : XK), Room k (A.deeper (envOfC x (defScope st) s.heap.objs.size f cdv)) → sp vs H Q E →
      ∃ t, PSs (cxOf CX0 P w K mg base N x (defScope st) f cdv A outer s H E).nox (defBody st) t ∧ t { nx := fun _ H' => Q .non H', rt := Q } (start N vs) H) : Good P w K mg base (k + 1) x ps sp := by
  obtain ⟨f, fd, F, m, b⟩ := D.ex
  exact ⟨f, fd, F.ok S len (fun cdv A outer s H vs Q E hr h => body f cdv A outer s H vs Q E hr h), m, F.kp, b⟩
end
section
variable {X : Cx} {k : Nat} {x : Str} {ps : List Str} {sp : Sp} {p pos : Pos} {e : Expr} {es : List Expr} {t : TA}
theorem pe_fn (g : Good X.prog X.w X.K X.mg X.base k x ps sp) (hr : Room k X.A) (ha : PA X (e :: es) t) (hg : Gl X x := by rfl)
    (hd : (x == ("__debug__" : Str)) = false := by decide) (he : starEach (e :: es) X.env = (false, eval e X.env) :: starEach es X.env := by rfl)
    (hp : (backTo pos (starEach es X.env)).any (·.1) = false := by rfl) : PE X (.Call (.Name x p) (e :: es) [] pos) (tCall sp [] E0 t) := by
  obtain ⟨f, fd, F, m, kp, b⟩ := g.ex
  exact pe_call F hr hg m kp b .nil pass0 ha (hdb := hd) (he := he) (hpl := hp)
end
/-! powers of great ints -/
def CPw (i j : Int) : Prop := 0 ≤ j ∧ j ≤ 100 ∧ i.natAbs < 2 ^ 200
theorem op_pw {X : Cx} : OpR X (binaryOp .Pow) (rI CPw fun i j => .int (i ^ j.toNat)) := opI fun i j _ _ _ _ _ hc q => by
  refine PyProof.Rows.pow_int hc.1 ?_ q
  have h1 : Builtin.Int.intBits i ≤ 201 := by
    have b : Builtin.Int.intBits i ≤ i.natAbs.log2 + 1 := by
      unfold Builtin.Int.intBits
      split <;> omega
    have := PySem.Flt.log2_lt_of (by decide : 0 < 200) hc.2.2
    omega
  have h2 := hc.1
  have h3 := hc.2.1
  have h4 : (Builtin.Int.intBits i : Int) * j ≤ 201 * 100 := by
    refine Int.le_trans (Int.mul_le_mul_of_nonneg_right (Int.ofNat_le.mpr h1) h2) ?_
    omega
  have h5 : (201 : Int) * 100 ≤ 2 ^ 27 := by decide
  omega
end Vx

set_option Elab.async false
set_option linter.all false
set_option maxRecDepth 100000
set_option maxHeartbeats 4000000
namespace PySem.W
open PySem PySem.Spec PySem.Calls PyProof.Rows
section
variable {prog : Program} {w : World} {A : Around} {E : Value → Shared → Prop} {s : Shared} {K : Frag} {x D : Addr} {ox : Obj} {od : Option Obj}
theorem vx_bind {C : Addr} {nm : Str} {a g : Value} (hc : (clsIn K C).isSome = true) (ha : findIn K (.ref C) nm = some (some a)) (hg : specialIn K a "__get__" = some (some g)) (ht : takesIn K a = some true) :
    findObj K C od nm = some (.bind g a) := by
  obtain ⟨cd, e⟩ := Option.isSome_iff_exists.mp hc
  unfold findObj
  rw [e, Option.bind_some, ha, Option.bind_some]
  simp [hg, ht]
/-- e.__class__, e an exception, with a dict or without -/
theorem vx_cls {Q : Option Value → Shared → Prop} (C : L2.ExcC K D) (X : K.In s.heap) (I : InstAt s.heap x ox D od) (h : Q (some (.ref D)) { s with toks := s.toks + 1 }) :
    wpAny (model prog w) A (getAttr? (.ref x) "__class__") Q E s := by
  have hf : findObj K D od "__class__" = some (.bind (.builtin "getset_descriptor.__get__") (.builtin "object.__class__")) :=
    vx_bind (by obtain ⟨cd, e, _⟩ := any_some C.hd; rw [e]; rfl) C.ha C.hn C.ht
  obtain ⟨hp, g, d, t, os⟩ := s
  have l0 := I.type (M := model prog w)
  have l1 := looks_findIn (M := model prog w) X C.hg
  have l2 := looks_findIn (M := model prog w) X C.hk
  have l3 := looks_find (M := model prog w) X I hf
  have sub : Looks (model prog w) hp (isInstance (.ref x) (.type "BaseException")) true := l0.andThen (looks_subIn X C.hs)
  have y0 : (false && onTheHeap (Value.builtin "BaseException.__getattribute__")) = false := rfl
  have y2 : (Value.builtin "BaseException.__getattribute__" == Value.builtin "object.__getattribute__") = false := by decide +kernel
  have y1 : (onTheHeap (Value.ref D) && Value.builtin "BaseException.__getattribute__" == Value.builtin "object.__getattribute__") = false := by rw [y2]; rfl
  unfold getAttr? getAttrBy? getAttrBy
  refine wpAny_bind (wpAny_mkText (wpAny_bind (wpAny_attempt (wpAny_holding (wpAny_bind (l0.at (wpAny_bind (l1.at ?_))))))))
  show wpAny _ _ (if (onTheHeap (Value.ref D) && Value.builtin "BaseException.__getattribute__" == Value.builtin "object.__getattribute__") = true then _ else _) _ _ _
  rw [y1, if_neg Bool.false_ne_true]
  unfold getAttrByItsOwn hookBefore
  refine wpAny_bind ?_
  rw [if_pos (show onTheHeap (Value.ref D) = true from rfl)]
  refine l2.at (wpAny_bind (wpAny_attempt (wpAny_holding ?_)))
  unfold callGetattribute
  rw [y0, if_neg Bool.false_ne_true]
  unfold boundAndCalled
  rw [PySem.F.excAttr_ValueError.ga.bind (.ref x)]
  refine wpAny_bind (wpAny_pure ?_)
  show wpAny _ _ (call (.builtin "BaseException.__getattribute__") [.ref x, .str "__class__" t]) _ _ _
  refine wpAny_call (codeAny_call_builtin PySem.F.excAttr_ValueError.ga.plain PySem.F.entry_bexc_ga ?_)
  refine @check_slot (model prog w) _ _ ⟨hp, g, d, t + 1, os⟩ "BaseException.__getattribute__" "BaseException" "__getattribute__" (.ref x) [.str "__class__" t] [] _ (by decide +kernel) (by decide +kernel) sub (PySem.F.args_bexc_ga (.ref x) (.str "__class__" t)) ?_
  unfold Builtin.«object.__getattribute__»
  refine wpAny_bind (wpAny_of_eq (a := ((Value.ref x : Value), [Value.str "__class__" t])) (by first | rfl | (simp only [slotArgs]; rfl)) ?_)
  refine wpAny_bind (wpAny_pure (wpAny_bind (l0.at (wpAny_bind (l3.at ?_)))))
  show wpAny _ _ (holding [Value.builtin "object.__class__"] (call (.builtin "getset_descriptor.__get__") [.builtin "object.__class__", .ref x, .ref D]) >>= ret) _ _ _
  refine wpAny_bind (wpAny_holding (wpAny_call (class_get (s := ⟨hp, g, d, t + 1, os⟩) (ox := ox) (od := od) X I C.hm ?_)))
  refine wpAny_pure ?_
  show wpAny _ _ (handedOut (.ref D)) _ _ _
  rw [handedOut_of (v := .ref D) rfl]
  first
    | exact wpAny_pure (wpAny_pure h)
    | exact wpAny_pure h
    | exact wpAny_pure (wpAny_bind (wpAny_pure (wpAny_pure h)))
theorem vx_kit (C : L2.ExcC K D) : KitX K (.ref x) (.ref D) (fun h => InstAt h x ox D od) where
  ty := fun _ _ _ I => I.type
  it := fun _ _ X _ => by
    obtain ⟨cd, hc, _⟩ := any_some C.hd
    unfold clsIn at hc
    split at hc
    · rename_i c' d' cd' sl' ho
      intro A' Q' E' s' k q
      unfold isType loadHead
      exact wpAny_bind (wpAny_loadPart (k _ _ (X _ _ ho)) (wpAny_pure q))
    · cases hc
  ne := fun h tp dd its n sl X htp => by
    obtain ⟨cd, hc, _⟩ := any_some C.hd
    refine Bool.eq_false_iff.mpr fun q => ?_
    have e : D = tp := Value.ref.inj (beq_iff_eq.mp q)
    subst e
    unfold clsIn at hc
    split at hc
    · rename_i c' d' cd' sl' ho
      cases (X _ _ ho).symm.trans htp
    · cases hc
  ca := fun X I k => vx_cls C X I k
end
end PySem.W
namespace Vx
open PySem PySem.Spec PyProof.Rows L2
/-- at a: an exception of the class at D, made and held -/
def ExcAt (H : Hp) (a D : Addr) : Prop := H a = some (ExO (.ref D) a) ∨ ∃ d fs, H a = some (exo a D (some d)) ∧ H d = some (exd d fs)
section
variable {X : Cx} {pins : List (Addr × Obj)} {σ : L2.St} {H : Hp} {s : Shared} {a D : Addr}
theorem exc_inst (I : L2.Inv X pins σ H s) (h : ExcAt H a D) : ∃ ox od, PySem.W.InstAt s.heap a ox D od := by
  rcases h with h | ⟨d, fs, h, hd⟩
  · obtain ⟨⟨oe, vs, hg, hz, hv, _⟩, _⟩ := I.hok a _ h
    obtain ⟨oc, odc, oda, osl⟩ := oe
    obtain ⟨h1, h2⟩ := hz
    dsimp only at h1 h2 hv
    subst h1 h2 hv
    exact ⟨_, none, hg, rfl, rfl, trivial⟩
  · obtain ⟨t0, ho⟩ := exo_at I.hok h
    obtain ⟨mA, hns, _⟩ := exd_at I.hok hd
    obtain ⟨o, _, _, e, _⟩ := hns
    exact ⟨_, some o, ho, rfl, rfl, e⟩
end
/-- isinstance(e, c), e an exception that is held -/
def rIsX (K : PySem.W.Frag) : List V → Hp → VK → Prop := fun xs H Q => ∃ (a D : Addr) (c : V) (u : Value) (b : Bool), xs = [.ref a, c] ∧ ExcAt H a D ∧ ExcC K D ∧ ClsV c u ∧ PySem.W.kitOne K (.ref D) u = some b ∧ Q (.bl b) H
theorem call_isX {X : Cx} : CallR X (.builtin "isinstance") (rIsX X.K) := by
  intro pins s σ H xs us Q I r h
  obtain ⟨a, D, c, u, b, rfl, ha, C, k, e, q⟩ := h
  obtain ⟨u1, u2, rfl, r1, r2⟩ := vals2 r
  have e2 := k.eq r2
  subst e2
  cases (show u1 = Value.ref a from r1)
  obtain ⟨ox, od, J⟩ := exc_inst I ha
  exact PySem.W.kia_one (PySem.W.vx_kit C) I.kIn J e (fun z => nomatch z) fun tk => ⟨.bl b, H, I.tok tk, rfl, q⟩
/-- e.f, e an exception that is held -/
def tXfO (K : PySem.W.Frag) (f : Str) (te : TE) : TE := fun σ H Q => te σ H fun x H1 => ∃ (a D d : Addr) (fs : List (Str × V)) (v : V), x = .ref a ∧ XfC K D ∧ PySem.W.findIn K (.ref D) f = some none ∧
  H1 a = some (exo a D (some d)) ∧ H1 d = some (exd d fs) ∧ fs.lookup f = some v ∧ Q v H1
theorem pe_xfO {X : Cx} {e : Expr} {te : TE} {pos : Pos} {n : Str} (he : PE X e te) (hb : attributeBase e n X.env (eval e X.env) = eval e X.env := by rfl) : PE X (.Attribute e n pos) (tXfO X.K n te) := by
  refine ⟨fun pins s σ H Q I h => ?_⟩
  refine attr_of hb (thn (he.run pins s σ H _ I h) fun u s1 hh => ?_)
  obtain ⟨x, H1, I1, rx, a, D, d, fs, v, ex, T, hno, ea, ed, l, q⟩ := hh
  subst ex
  obtain rfl : u = Value.ref a := rx
  obtain ⟨t0, ho⟩ := exo_at I1.hok ea
  obtain ⟨mA, hns, hr⟩ := exd_at I1.hok ed
  obtain ⟨od, hod, hl⟩ := lookIn_ns hns
  obtain ⟨u, hu, ru⟩ := RelO.some_of (v := v) (o := mA n) (by rw [← l]; exact hr n)
  have J : PySem.W.InstAt s1.heap a _ D (some od) := ⟨ho, rfl, rfl, hod⟩
  exact HandSPX.exc_get I1.kIn J T.ga T.gg T.exC (PySem.W.findObj_own T.hdC hno rfl (by rw [hl, hu])) (handed_of ru) ⟨v, H1, I1.tok _, ru, q⟩
end Vx

set_option Elab.async false
set_option linter.all false
set_option maxRecDepth 100000
set_option maxHeartbeats 4000000
namespace Vx
open PySem PySem.Spec PyProof.Rows L2
/-- __init__(self, f): self.f = f -/
def spInitX (K : PySem.W.Frag) (f : Str) : Sp := fun vs H Q _ => ∃ (a C : Addr) (v : V), vs = [.ref a, v] ∧ OexC K C ∧ PySem.W.findIn K (.ref C) f = some none ∧ H a = some (exo a C none) ∧
  ∀ dx, H dx = none → dx ≠ a → Q .non (upd (upd H dx (exd dx [(f, v)])) a (exo a C (some dx)))
/-- what the top says of an own exception class with such an __init__ -/
structure XCls (P : Program) (w : World) (K : PySem.W.Frag) (mg : Str → Option Value) (base : Heap) (x : Str) (C : Addr) (f : Str) : Prop where
  gC : mg x = some (.ref C)
  oex : OexC K C
  xf : XfC K C
  ec : ExcC K C
  no : PySem.W.findIn K (.ref C) f = some none
  ini : ∃ fI fd, PySem.W.findIn K (.ref C) "__init__" = some (some (.ref fI)) ∧ PySem.W.typeIn K (.ref fI) = some (.type "function") ∧ FnOk P w K mg base CX0 1 fI fd ["self", f] (spInitX K f) ∧
    Binds K fd ["self", f] [] ∧ KBn K fd ["self", f] 1 [f] (fun us ws => us ++ ws) (fun vs zs => vs ++ zs)
section
variable {X : Cx} {x f : Str} {C : Addr} {p pos : Pos} {e : Expr} {es : List Expr} {kws : List Keyword} {ta : TE} {tk : TA}
/-- a new one at a, its dict at d -/
def mkQ (C : Addr) (f : Str) (v : V) (H : Hp) (Q : VK) : Prop := ∀ a d, H a = none → H d = none → d ≠ a → Q (.ref a) (upd (upd (upd H a (exo a C none)) d (exd d [(f, v)])) a (exo a C (some d)))
theorem run_mkX {pins : List (Addr × Obj)} {σ : L2.St} {H : Hp} {s : Shared} {Q : VK} {u : Value} {v : V} (T : XCls X.prog X.w X.K X.mg X.base x C f) (hr : Room 2 X.A) (I : L2.Inv X pins σ H s) (rv : L2.RelV v u) (q : mkQ C f v H Q) (kw : Bool) :
    wpAny (model X.prog X.w) X.A (if kw = true then call (.ref C) [] [(f, u)] else call (.ref C) [u]) (EP X pins σ Q) X.xe s := by
  obtain ⟨fI, fd, iC, tI, G, b, kb⟩ := T.ini
  obtain ⟨nm, qn, N, bs, bm, sn, sub, ab, col, dd, k0, k1, k2, k3, k5, hC, hbm⟩ := T.oex.cls
  obtain ⟨hp, g, dr, tk, os⟩ := s
  have hsz : hp.objs.size ≤ hp.objs.size + 1 := Nat.le_succ _
  have hn : H (hp.objs.size + 1) = none := I.hok.fresh hsz
  have hT : ∀ Y : String, bm.contains (.type Y) = _ := fun Y => PySem.HandSPX.refsVE_contains Y bm hbm
  have key : ∀ us : List Value, ∃ h1 : Heap, h1 = (hp.push (PySem.W.kdv_tup us)).push (PySem.HandSPX.excO C hp.objs.size) ∧ L2.Inv X pins σ (upd H (hp.objs.size + 1) (exo (hp.objs.size + 1) C none)) ⟨h1, g, dr, tk, os⟩ := fun us => by
    have kk : ∀ b o, hp.get? b = some o → ((hp.push (PySem.W.kdv_tup us)).push (PySem.HandSPX.excO C hp.objs.size)).get? b = some o := fun b o z => Heap.get?_push_of_some _ (Heap.get?_push_of_some _ z)
    have hget : ((hp.push (PySem.W.kdv_tup us)).push (PySem.HandSPX.excO C hp.objs.size)).get? (hp.objs.size + 1) = some (PySem.HandSPX.excO C hp.objs.size) := by heap_get
    exact ⟨_, rfl, I.laid (t' := tk) (a := hp.objs.size + 1) (o := exo (hp.objs.size + 1) C none) kk hsz (exo_ok hget)⟩
  have sp : spInitX X.K f [.ref (hp.objs.size + 1), v] (upd H (hp.objs.size + 1) (exo (hp.objs.size + 1) C none)) (fun z H2 => z = .non ∧ Q (.ref (hp.objs.size + 1)) H2) (fun _ _ _ => False) := by
    refine ⟨_, C, v, rfl, T.oex, T.no, upd_same, fun dx hd ne => ⟨rfl, q _ dx hn ?_ ne⟩⟩
    rwa [upd_ne ne] at hd
  have r2 : Vals [.ref (hp.objs.size + 1), v] [.ref (hp.objs.size + 1), u] := .cons rfl (.cons rv .nil)
  have fin : ∀ {h1 : Heap}, L2.Inv X pins σ (upd H (hp.objs.size + 1) (exo (hp.objs.size + 1) C none)) ⟨h1, g, dr, tk, os⟩ → ∀ (r : Result) (s' : Shared), CR CX0 X.stack X.prog X.w (upd H (hp.objs.size + 1) (exo (hp.objs.size + 1) C none)) ⟨h1, g, dr, tk, os⟩ (fun z H2 => z = .non ∧ Q (.ref (hp.objs.size + 1)) H2) (fun _ _ _ => False) r s' →
      PySem.W.InitBack (hp.objs.size + 1) (fun r s' => match r with | .ok (.ret z) => EP X pins σ Q z s' | .ok _ => False | .error er => X.xe er s') r s' := fun {h1} I2 r s' hq => by
    cases r with
    | error er => exact False.elim hq
    | ok fl =>
      cases fl with
      | ret z =>
        obtain ⟨z', H', I3, rz, ez, q3⟩ := I2.after hq
        subst ez
        exact ⟨rz, V.ref (hp.objs.size + 1), H', I3, rfl, q3⟩
      | next => exact False.elim hq
      | brk => exact False.elim hq
      | cont => exact False.elim hq
  cases kw with
  | false =>
    obtain ⟨h1, e1, I2⟩ := key [u]
    subst e1
    refine wpAny_call (PySem.HandSPX.call_own PySem.F.excBase_ValueError hT (I.kIn _ _ hC) (PySem.W.looks_findIn I.kIn iC) (fun self => PySem.W.bind_fn I.kIn self tI) (by show 1 ≤ sizeLine; rw [sizeLine_eq]; omega) ?_)
    refine codeAny_mono (G.run _ X.stack _ _ ⟨[.ref (hp.objs.size + 1), u], []⟩ [.ref (hp.objs.size + 1), u] _ _ _ ((hr.mono (by decide) : Room (1 + 1) X.A).make C [u] []) (I2.env0.make C [u] []) (by simpa using b _ [.ref (hp.objs.size + 1), u] I2.kIn rfl) r2 sp) (fin I2)
  | true =>
    obtain ⟨h1, e1, I2⟩ := key []
    subst e1
    refine wpAny_call (PySem.XkA.ckw PySem.F.excBase_ValueError hT (I.kIn _ _ hC) (PySem.W.looks_findIn I.kIn iC) (fun self => PySem.W.bind_fn I.kIn self tI) ?_)
    refine codeAny_mono (G.run _ X.stack _ _ ⟨[.ref (hp.objs.size + 1)], [(f, u)]⟩ [.ref (hp.objs.size + 1), u] _ _ _ ((hr.mono (by decide) : Room (1 + 1) X.A).make C [] [(f, u)]) (I2.env0.make C [] [(f, u)]) (kb.to _ [.ref (hp.objs.size + 1)] [u] I2.kIn rfl rfl) r2 sp) (fin I2)
/-- C(e), C(f = e) -/
def tMkX (C : Addr) (f : Str) (t : TA) : TE := fun σ H Q => t σ H fun vs H1 => ∃ v, vs = [v] ∧ mkQ C f v H1 Q
theorem pe_mkX {t : TA} (T : XCls X.prog X.w X.K X.mg X.base x C f) (hr : Room 2 X.A) (ha : PA X [e] t) (hg : Gl X x := by rfl)
    (hdb : (x == ("__debug__" : Str)) = false := by decide) (he : starEach (e :: []) X.env = (false, eval e X.env) :: starEach [] X.env := by rfl) (hpl : (backTo pos (starEach [] X.env)).any (·.1) = false := by rfl) :
    PE X (.Call (.Name x p) [e] [] pos) (tMkX C f t) := by
  refine ⟨fun pins s σ H Q I h => ?_⟩
  refine wpAny_Call_Name_kw (ld_glob I hg T.gC ?_ hdb)
  refine PySem.W.callWith_K (h₀ := X.base) I.ok.mod.kin T.oex.kC (thn (ha.run pos pins s σ H _ I h) fun us s1 ⟨vs, H1, I1, r1, v, ev, q1⟩ => ?_) he hpl
  subst ev
  refine ⟨I1.kIn, ?_⟩
  cases r1 with
  | cons rv rn =>
    cases rn
    exact run_mkX T hr I1 rv q1 false
theorem pe_mkXK {t : TA} {kp : Pos} (T : XCls X.prog X.w X.K X.mg X.base x C f) (hr : Room 2 X.A) (hkw : PK X [⟨some f, e, kp⟩] t) (hg : Gl X x := by rfl)
    (hall : (backToKw pos (keywordEach [⟨some f, e, kp⟩] X.env)).all (·.1.isSome) = true := by rfl) (hks : (backToKw pos (keywordEach [⟨some f, e, kp⟩] X.env)).filterMap (·.1) = [f] := by rfl)
    (hdb : (x == ("__debug__" : Str)) = false := by decide)
    (hpl : ((backTo pos (starEach [] X.env)).any (·.1) || (backToKw pos (keywordEach [⟨some f, e, kp⟩] X.env)).any (·.1.isNone)) = false := by rfl) :
    PE X (.Call (.Name x p) [] [⟨some f, e, kp⟩] pos) (tMkX C f t) := by
  refine ⟨fun pins s σ H Q I h => ?_⟩
  refine wpAny_Call_Name_kw (ld_glob I hg T.gC ?_ hdb)
  refine PySem.W.callWith_KW0 (h₀ := X.base) I.ok.mod.kin T.oex.kC hall ?_ hpl
  refine thn (hkw.run pos pins s σ H _ I h) fun ws s2 ⟨zs, H2, I2, rz, v, ev, q2⟩ => ⟨I2.kIn, ?_⟩
  subst ev
  rw [hks]
  cases rz with
  | cons rv rn =>
    cases rn
    exact run_mkX T hr I2 rv q2 true
end
end Vx

set_option Elab.async false
set_option linter.all false
set_option maxRecDepth 100000
set_option maxHeartbeats 4000000
namespace Vx
open PySem PySem.Spec PyProof.Rows L2 Evl
/-! [e for a, b in zip(xs, ys)] -/
def rmap (n : Nat) (v : Nat → V) : List V := (List.range n).map v
theorem rmap_succ (n : Nat) (v : Nat → V) : rmap (n + 1) v = rmap n v ++ [v n] := by
  unfold rmap
  rw [List.range_succ, List.map_append]
  rfl
theorem rmap_len (n : Nat) (v : Nat → V) : (rmap n v).length = n := by
  unfold rmap
  rw [List.length_map, List.length_range]
/-- what the comprehension holds behind i turns -/
def Lw (H : Hp) (v : Nat → V) (Dl : Addr) (i : Nat) (H' : Hp) : Prop := H Dl = none ∧ Ex H H' ∧ H' Dl = some (.lst (rmap i v))
theorem lc_pairs {J : It} {g : TG} {te : TE} {vs : List Nat} {σ : L2.St} {H1 : Hp} {Dl : Addr} {Qd : Hp → Prop} {n : Nat} (v : Nat → V) (hn : n < 50000) (hD : H1 Dl = none)
    (hgo : ∀ i H, i < n → Ex H1 H → J.go i H) (hst : ∀ H, Ex H1 H → J.stop n H)
    (hy : ∀ i H x H', i < n → Ex H1 H → H Dl ≠ none → J.yld i H x H' → ∃ σ2, Ex H H' ∧ wipe σ2 vs = wipe σ vs ∧ (∀ Q : L2.St → Hp → Prop, (∀ H2, Ex H' H2 → Q σ2 H2) → g x (wipe σ vs) H' Q) ∧ Ev te σ2 H' (v i))
    (hd : ∀ H, Ex H1 H → H Dl = some (.lst (rmap n v)) → Qd H) :
    ∃ W : Nat → Nat → Hp → Prop, (∃ m, W 0 m (upd H1 Dl (.lst []))) ∧ ∀ i m H, W i m H →
      (J.stop i H ∧ Qd H) ∨ (J.go i H ∧ ∃ Nx : Hp → Prop, (∀ H', Nx H' → ∃ m', m' < m ∧ W (i + 1) m' H') ∧ ∀ x H', J.yld i H x H' → g x (wipe σ vs) H' fun σ2 H2 => wipe σ2 vs = wipe σ vs ∧ tYes σ2 H2 fun b H3 =>
        if b = true then te σ2 H3 fun y H4 => ∃ acc, H4 Dl = some (.lst acc) ∧ acc.length < sizeLine ∧ Nx (upd H4 Dl (.lst (acc ++ [y]))) else Nx H3) := by
  refine ⟨fun i m H => m = n - i ∧ i ≤ n ∧ Lw H1 v Dl i H, ⟨n, by simp, Nat.zero_le _, hD, Ex.new hD, upd_same⟩, ?_⟩
  rintro i m H ⟨rfl, hi, p1, p2, p3⟩
  by_cases hlt : i < n
  · refine .inr ⟨hgo i H hlt p2, Lw H1 v Dl (i + 1), fun H' p' => ⟨n - (i + 1), by omega, rfl, hlt, p'⟩, fun x H' y => ?_⟩
    obtain ⟨σ2, e1, hw, hg, he⟩ := hy i H x H' hlt p2 (by rw [p3]; exact fun z => nomatch z) y
    refine hg _ fun H2 e2 => ⟨hw, ?_⟩
    show te σ2 H2 fun y H4 => ∃ acc, H4 Dl = some (.lst acc) ∧ acc.length < sizeLine ∧ Lw H1 v Dl (i + 1) (upd H4 Dl (.lst (acc ++ [y])))
    refine he H2 e2 _ fun H4 e4 => ⟨rmap i v, e4 _ _ (e2 _ _ (e1 _ _ p3)), sz_lt (by rw [rmap_len]; omega), p1, Ex.mut ((p2.trans e1).trans (e2.trans e4)) p1, ?_⟩
    rw [rmap_succ]
    exact upd_same
  · have e : i = n := by omega
    subst e
    exact .inl ⟨hst H p2, hd H p2 p3⟩
theorem el_lcZ {K : PySem.W.Frag} {a b : Addr} {xs ys : List V} {ta : TA} {te : TE} {j1 j2 : Nat} {vs : List Nat} {σ : L2.St} {H : Hp} (v : Nat → V) (h : EvA ta σ H [.ref a, .ref b])
    (hx : (SqL K H a xs ∧ SqL K H b ys) ∨ (SqT K H a xs ∧ SqT K H b ys)) (hl : xs.length = ys.length) (hz : xs.length < 40000)
    (hw : ∀ x y, wipe (((wipe σ vs).set j1 (some x)).set j2 (some y)) vs = wipe σ vs)
    (he : ∀ i x y H1, Ex H H1 → xs[i]? = some x → ys[i]? = some y → Ev te (((wipe σ vs).set j1 (some x)).set j2 (some y)) H1 (v i)) :
    EvL (tLc (RZ.iZipA K ta) (gTup K 2 (gCons (gName j1) (gCons (gName j2) gNil))) tYes te vs) σ H (rmap xs.length v) := fun H0 e Q q => h H0 e _ fun H1 e1 => by
  have E1 := e.trans e1
  have get : ∀ i, i < xs.length → ∃ x y, xs[i]? = some x ∧ ys[i]? = some y := fun i hi =>
    ⟨_, _, List.getElem?_eq_getElem hi, List.getElem?_eq_getElem (by omega)⟩
  have tg : ∀ (T : Addr) (x y : V) (H' : Hp), H' T = some (.tup [x, y]) → ∀ Q : L2.St → Hp → Prop, (∀ H2, Ex H' H2 → Q (((wipe σ vs).set j1 (some x)).set j2 (some y)) H2) →
      gTup K 2 (gCons (gName j1) (gCons (gName j2) gNil)) (.ref T) (wipe σ vs) H' Q := fun T x y H' ht Q q =>
    ⟨T, [x, y], rfl, SqT.of ht, rfl, x, [y], rfl, y, [], rfl, rfl, q H' (Ex.refl H')⟩
  rcases hx with ⟨hx, hy⟩ | ⟨hx, hy⟩
  · refine ⟨a, b, xs, ys, rfl, Or.inl ⟨ex_l E1 hx, ex_l E1 hy, fun Dl hD => lc_pairs v (by omega) hD (fun i H2 hi e2 => ?_) (fun H2 e2 => ⟨xs, ys, ex_l (E1.trans e2) hx, ex_l (E1.trans e2) hy, Or.inl (Nat.le_refl _)⟩) (fun i H2 z H' hi e2 hDl hyl => ?_) (fun H2 e2 h2 => q Dl H2 (fresh_back e1 hD) (e1.trans e2) h2)⟩⟩
    · obtain ⟨x, y, g1, g2⟩ := get i hi
      exact ⟨xs, ys, x, y, ex_l (E1.trans e2) hx, ex_l (E1.trans e2) hy, g1, g2⟩
    · obtain ⟨T, x, y, rfl, hT, rfl, f1, f2⟩ := hyl
      have eT : Ex H2 (upd H2 T (.tup [x, y])) := Ex.new hT
      exact ⟨_, eT, hw x y, tg T x y _ upd_same, he i x y _ ((E1.trans e2).trans eT) (f1 xs (ex_l (E1.trans e2) hx)) (f2 ys (ex_l (E1.trans e2) hy))⟩
  · refine ⟨a, b, xs, ys, rfl, Or.inr ⟨ex_t E1 hx, ex_t E1 hy, fun Dl hD => lc_pairs v (by omega) hD (fun i H2 hi e2 => ?_) (fun H2 e2 => ⟨xs, ys, ex_t (E1.trans e2) hx, ex_t (E1.trans e2) hy, Or.inl (Nat.le_refl _)⟩) (fun i H2 z H' hi e2 hDl hyl => ?_) (fun H2 e2 h2 => q Dl H2 (fresh_back e1 hD) (e1.trans e2) h2)⟩⟩
    · obtain ⟨x, y, g1, g2⟩ := get i hi
      exact ⟨xs, ys, x, y, ex_t (E1.trans e2) hx, ex_t (E1.trans e2) hy, g1, g2⟩
    · obtain ⟨T, x, y, rfl, hT, rfl, f1, f2⟩ := hyl
      have eT : Ex H2 (upd H2 T (.tup [x, y])) := Ex.new hT
      exact ⟨_, eT, hw x y, tg T x y _ upd_same, he i x y _ ((E1.trans e2).trans eT) (f1 xs (ex_t (E1.trans e2) hx)) (f2 ys (ex_t (E1.trans e2) hy))⟩
end Vx

set_option Elab.async false
set_option linter.all false
set_option maxRecDepth 100000
set_option maxHeartbeats 4000000
namespace Vx
open PySem PySem.Spec PyProof.Rows L2 Evl
/-! types of values, isinstance -/
def TyN (K : PySem.W.Frag) (H : Hp) (x : V) (n : String) : Prop := ∀ H1, Ex H H1 → TyX K H1 x (.type n)
section
variable {K : PySem.W.Frag} {σ : L2.St} {H : Hp} {x : V} {i : Nat} {n : String}
theorem TyN.ex {H' : Hp} (h : TyN K H x n) (e : Ex H H') : TyN K H' x n := fun H1 e1 => h H1 (e.trans e1)
theorem ty_non : TyN K H .non "NoneType" := fun _ _ => .base .non
theorem ty_bl {b : Bool} : TyN K H (.bl b) "bool" := fun _ _ => .base (.bl b)
theorem ty_int {j : Int} : TyN K H (.int j) "int" := fun _ _ => .base (.int j)
theorem ty_str {z : Str} : TyN K H (.str z) "str" := fun _ _ => .base (.str z)
theorem ty_lst {p : Addr} {xs : List V} (h : Rd H p (.lst xs)) : TyN K H (.ref p) "list" := fun _ e => by
  rcases ex_rd e h with h | ⟨o, h⟩
  · exact .base (.lst h)
  · exact .base (.frz h)
theorem ty_tup {p : Addr} {xs : List V} (h : Rd H p (.tup xs)) : TyN K H (.ref p) "tuple" := fun _ e => by
  rcases ex_rd e h with h | ⟨o, h⟩
  · exact .base (.tup h)
  · exact .fTuple h
theorem ty_dict {p : Addr} {kvs : List (Key × V)} (h : Rd H p (.dK kvs)) : TyN K H (.ref p) "dict" := fun _ e => by
  rcases ex_rd e h with h | ⟨o, h⟩
  · exact .base (.dK h)
  · exact .fDict h
theorem ev_isI {b : Bool} {m : String} (hi : σ[i]? = some (some x)) (t : TyN K H x n) (h : kitB n m = some b) : Ev (tCB (rIsi K) (tCons (tVar i) (tCons (tC (.ty m)) tNil))) σ H (.bl b) :=
  ev_cb (ea_cons (ev_var hi) (ea_cons ev_c ea_nil)) fun H1 e1 Q q => ⟨x, .ty m, _, _, b, rfl, .ty m, t H1 e1, kit_ty h, q H1 (Ex.refl H1)⟩
theorem ev_isI2 {b1 b2 : Bool} {m1 m2 : String} (hi : σ[i]? = some (some x)) (t : TyN K H x n) (h1 : kitB n m1 = some b1) (h2 : kitB n m2 = some b2) :
    Ev (tCB (rIsiT K) (tCons (tVar i) (tCons (tTup (tCons (tC (.ty m1)) (tCons (tC (.ty m2)) tNil))) tNil))) σ H (.bl (b1 || b2)) := fun H1 e1 Q q =>
  ⟨x, hi, (by show 2 ≤ sizeLine; decide), fun p hp => ⟨x, p, [.ty m1, .ty m2], _, [.type m1, .type m2], b1 || b2, rfl, upd_same, .cons (.ty m1) (.cons (.ty m2) .nil), t _ (e1.trans (Ex.new hp)),
    kitAny_cons (kit_ty h1) (fun hb => kitAny_cons (kit_ty h2) (fun hc => by rw [hb, hc]; exact kitAny_nil) (fun hc => by rw [hb, hc]; rfl)) (fun hb => by rw [hb]; rfl), q _ (Ex.new hp)⟩⟩
/-- all(xs), xs a new list of bools -/
theorem ev_allN {ta : TE} {bs : List Bool} (ha : EvL ta σ H (bs.map V.bl)) : Ev (tCB (rAll K) (tCons ta tNil)) σ H (.bl (bs.all id)) := fun H1 e Q q =>
  ha H1 e _ fun p H2 _ e2 h2 => ⟨p, bs, rfl, sq_of h2, q H2 e2⟩
theorem rmap_true (n : Nat) : rmap n (fun _ => V.bl true) = (List.replicate n true).map V.bl := by
  unfold rmap
  rw [List.map_replicate, List.map_const', List.length_range]
theorem all_rep (n : Nat) : (List.replicate n true).all id = true := by
  rw [List.all_eq_true]
  intro b hb
  exact (List.mem_replicate.mp hb).2
theorem ev_lenA {ta : TE} {p : Addr} {xs : List V} (ha : Ev ta σ H (.ref p)) (h : SqL K H p xs ∨ SqT K H p xs) : Ev (tCB (rLenS K) (tCons ta tNil)) σ H (.int (xs.length : Int)) := fun H1 e Q q =>
  ha H1 e _ fun H2 e2 => ⟨p, xs, rfl, h.imp (ex_l (e.trans e2)) (ex_t (e.trans e2)), q H2 e2⟩
theorem rv_isN : RV (fun x y H Q => y = .non ∧ Q (.bl (decide (x = .non))) H) x .non H (.bl (decide (x = .non))) := fun H1 _ _ q => ⟨rfl, q H1 (Ex.refl H1)⟩
end
/-! two data that are equal at every depth -/
def atom : V → Bool
  | .non => true
  | .bl _ => true
  | .int _ => true
  | .str _ => true
  | _ => false
def EqS (H : Hp) : Nat → V → V → Prop
  | 0, x, y => x = y ∧ atom x = true
  | n + 1, x, y => (x = y ∧ atom x = true) ∨ ∃ p q xs ys, x = .ref p ∧ y = .ref q ∧ ((Rd H p (.lst xs) ∧ Rd H q (.lst ys)) ∨ (Rd H p (.tup xs) ∧ Rd H q (.tup ys))) ∧ xs.length = ys.length ∧ xs.length < 40000 ∧
      ∀ (i : Nat) (x' y' : V), xs[i]? = some x' → ys[i]? = some y' → EqS H n x' y'
theorem EqS.ex {H H' : Hp} (e : Ex H H') : ∀ {n : Nat} {x y : V}, EqS H n x y → EqS H' n x y
  | 0, _, _, h => h
  | n + 1, x, y, h => by
    rcases h with h | ⟨p, q, xs, ys, h1, h2, h3, h4, h5, h6⟩
    · exact Or.inl h
    · exact Or.inr ⟨p, q, xs, ys, h1, h2, h3.imp (fun z => ⟨ex_rd e z.1, ex_rd e z.2⟩) (fun z => ⟨ex_rd e z.1, ex_rd e z.2⟩), h4, h5, fun i x' y' a b => EqS.ex e (h6 i x' y' a b)⟩
theorem EqS.up {H : Hp} : ∀ {n : Nat} {x y : V}, EqS H n x y → EqS H (n + 1) x y
  | 0, _, _, h => Or.inl h
  | n + 1, x, y, h => by
    rcases h with h | ⟨p, q, xs, ys, h1, h2, h3, h4, h5, h6⟩
    · exact Or.inl h
    · exact Or.inr ⟨p, q, xs, ys, h1, h2, h3, h4, h5, fun i x' y' a b => EqS.up (h6 i x' y' a b)⟩
def spSame (n : Nat) : Sp := fun vs H Q _ => ∃ x y, vs = [x, y] ∧ EqS H n x y ∧ ∀ H', Ex H H' → Q (.bl true) H'
end Vx

set_option Elab.async false
set_option linter.all false
set_option maxRecDepth 100000
set_option maxHeartbeats 4000000
namespace Vx
open PySem PySem.Spec PyProof.Rows L2 Evl
/-! values that are known by what is true of them: of objects of the heap H, and of new ones -/
def Kn (H H1 H2 : Hp) (φ : Hp → Prop) : Prop := ∀ H', Ex H H' → (∀ b o, H1 b = none → H2 b = some o → H' b = some o) → φ H'
theorem Kn.now {H H1 H2 : Hp} {φ : Hp → Prop} (k : Kn H H1 H2 φ) (e : Ex H H1) (e2 : Ex H1 H2) : φ H2 := k H2 (e.trans e2) fun _ _ _ h => h
theorem Kn.ex {H H1 H2 H3 : Hp} {φ : Hp → Prop} (k : Kn H H1 H2 φ) (e : Ex H2 H3) : Kn H H1 H3 φ := fun H' a b => k H' a fun c o n h => b c o n (e _ _ h)
theorem Kn.pre {H H0 H1 H2 : Hp} {φ : Hp → Prop} (k : Kn H H1 H2 φ) (e : Ex H0 H1) : Kn H H0 H2 φ := fun H' a b => k H' a fun c o n h => b c o (fresh_back e n) h
theorem Kn.base {H H0 H1 H2 : Hp} {φ : Hp → Prop} (k : Kn H0 H1 H2 φ) (e : Ex H0 H) : Kn H H1 H2 φ := fun H' a b => k H' (e.trans a) b
theorem Kn.imp {H H1 H2 : Hp} {φ ψ : Hp → Prop} (k : Kn H H1 H2 φ) (h : ∀ H', Ex H H' → φ H' → ψ H') : Kn H H1 H2 ψ := fun H' a b => h H' a (k H' a b)
theorem Kn.of {H H1 H2 : Hp} {φ : Hp → Prop} (h : ∀ H', Ex H H' → φ H') : Kn H H1 H2 φ := fun H' a _ => h H' a
/-- .. apart from what stands at p -/
def KnX (p : Addr) (H H1 H2 : Hp) (φ : Hp → Prop) : Prop := ∀ H', Ex H H' → (∀ b o, b ≠ p → H1 b = none → H2 b = some o → H' b = some o) → φ H'
theorem KnX.kn {p : Addr} {H H1 H2 : Hp} {φ : Hp → Prop} (k : KnX p H H1 H2 φ) : Kn H H1 H2 φ := fun H' a b => k H' a fun c o _ n h => b c o n h
theorem KnX.ex {p : Addr} {H H1 H2 H3 : Hp} {φ : Hp → Prop} (k : KnX p H H1 H2 φ) (e : Ex H2 H3) : KnX p H H1 H3 φ := fun H' a b => k H' a fun c o z n h => b c o z n (e _ _ h)
theorem KnX.pre {p : Addr} {H H0 H1 H2 : Hp} {φ : Hp → Prop} (k : KnX p H H1 H2 φ) (e : Ex H0 H1) : KnX p H H0 H2 φ := fun H' a b => k H' a fun c o z n h => b c o z (fresh_back e n) h
theorem KnX.base {p : Addr} {H H0 H1 H2 : Hp} {φ : Hp → Prop} (k : KnX p H0 H1 H2 φ) (e : Ex H0 H) : KnX p H H1 H2 φ := fun H' a b => k H' (e.trans a) b
theorem KnX.imp {p : Addr} {H H1 H2 : Hp} {φ ψ : Hp → Prop} (k : KnX p H H1 H2 φ) (h : ∀ H', Ex H H' → φ H' → ψ H') : KnX p H H1 H2 ψ := fun H' a b => h H' a (k H' a b)
theorem KnX.of {p : Addr} {H H1 H2 : Hp} {φ : Hp → Prop} (h : ∀ H', Ex H H' → φ H') : KnX p H H1 H2 φ := fun H' a _ => h H' a
/-- the list itself is new: what is known holds without it -/
theorem Kn.out {p : Addr} {H H1 H2 : Hp} {o : HO} {φ : Hp → Prop} (k : Kn H H1 H2 φ) (hp : H2 p = none) : KnX p H H1 (upd H2 p o) φ := fun H' a b => k H' a fun c u n h => b c u (ne_of_none h hp) n (by rw [upd_ne (ne_of_none h hp)]; exact h)
def EvP (te : TE) (σ : L2.St) (H : Hp) (φ : V → Hp → Prop) : Prop := ∀ H1, Ex H H1 → ∀ Q : VK, (∀ v H2, Ex H1 H2 → Kn H H1 H2 (φ v) → Q v H2) → te σ H1 Q
def EvAP (ta : TA) (σ : L2.St) (H : Hp) (φs : List (V → Hp → Prop)) : Prop := ∀ H1, Ex H H1 → ∀ Q : List V → Hp → Prop, (∀ vs H2, Ex H1 H2 → Kn H H1 H2 (fun H' => Paired (fun v φ => φ v H') vs φs) → Q vs H2) → ta σ H1 Q
/-- a new list -/
def EvLP (te : TE) (σ : L2.St) (H : Hp) (P : List V → Hp → Prop) : Prop := ∀ H1, Ex H H1 → ∀ Q : VK, (∀ p vs H2, H1 p = none → Ex H1 H2 → H2 p = some (.lst vs) → KnX p H H1 H2 (P vs) → Q (.ref p) H2) → te σ H1 Q
section
variable {K : PySem.W.Frag} {σ : L2.St} {H H' : Hp} {te : TE} {ta tr : TA} {φ : V → Hp → Prop} {φs : List (V → Hp → Prop)} {P P' : List V → Hp → Prop}
theorem EvP.mono (e : Ex H H') (h : EvP te σ H φ) : EvP te σ H' φ := fun H1 a Q q => h H1 (e.trans a) Q fun v H2 e2 k => q v H2 e2 (k.base e)
theorem EvLP.mono (e : Ex H H') (h : EvLP te σ H P) : EvLP te σ H' P := fun H1 a Q q => h H1 (e.trans a) Q fun p vs H2 n e2 h2 k => q p vs H2 n e2 h2 (k.base e)
theorem evp_of {v : V} (h : Ev te σ H v) (hp : ∀ H', Ex H H' → φ v H') : EvP te σ H φ := fun H1 e Q q => h H1 e Q fun H2 e2 => q v H2 e2 (.of hp)
theorem evp_L {xs : List V} (h : EvL te σ H xs) : EvP te σ H (fun v H' => ∃ p, v = .ref p ∧ H' p = some (.lst xs)) := fun H1 e Q q => h H1 e Q fun p H2 n e2 h2 => q _ H2 e2 fun H' _ b => ⟨p, rfl, b p _ n h2⟩
theorem evp_LP (h : EvLP te σ H P) : EvP te σ H (fun v H' => ∃ p vs, v = .ref p ∧ H' p = some (.lst vs) ∧ P vs H') := fun H1 e Q q => h H1 e Q fun p vs H2 n e2 h2 k => q _ H2 e2 fun H' a b => ⟨p, vs, rfl, b p _ n h2, k.kn H' a b⟩
theorem elp_of {xs : List V} (h : EvL te σ H xs) (hp : ∀ H', Ex H H' → P xs H') : EvLP te σ H P := fun H1 e Q q => h H1 e Q fun p H2 n e2 h2 => q p xs H2 n e2 h2 (.of hp)
theorem EvLP.imp (h : EvLP te σ H P) (f : ∀ vs H', Ex H H' → P vs H' → P' vs H') : EvLP te σ H P' := fun H1 e Q q => h H1 e Q fun p vs H2 n e2 h2 k => q p vs H2 n e2 h2 (k.imp (f vs))
theorem EvP.imp {ψ : V → Hp → Prop} (h : EvP te σ H φ) (f : ∀ v H', Ex H H' → φ v H' → ψ v H') : EvP te σ H ψ := fun H1 e Q q => h H1 e Q fun v H2 e2 k => q v H2 e2 (k.imp (f v))
theorem eap_nil : EvAP tNil σ H [] := fun H1 _ _ q => q [] H1 (Ex.refl H1) fun _ _ _ => .nil
theorem eap_cons (h : EvP te σ H φ) (hr : EvAP tr σ H φs) : EvAP (tCons te tr) σ H (φ :: φs) := fun H1 e Q q =>
  h H1 e _ fun v H2 e2 k2 => hr H2 (e.trans e2) _ fun vs H3 e3 k3 => q _ H3 (e2.trans e3) fun H' a b => .cons ((k2.ex e3) H' a b) ((k3.pre e2) H' a b)
theorem elp_lst (h : EvAP ta σ H φs) (hz : φs.length ≤ 100000) : EvLP (tLst ta) σ H (fun vs H' => Paired (fun v φ => φ v H') vs φs) := fun H1 e Q q =>
  h H1 e _ fun vs H2 e2 k => ⟨sz_of (by rw [Paired.length (k.now e e2)]; exact hz), fun p hp => q p vs _ (fresh_back e2 hp) (e2.trans (Ex.new hp)) upd_same (k.out hp)⟩
theorem elp_cat {ta tb : TE} {l : Addr} {xs : List V} (ha : Ev ta σ H (.ref l)) (hl : H l = some (.lst xs)) (hb : EvLP tb σ H P) (hz : ∀ ys H', P ys H' → xs.length + ys.length ≤ 100000) :
    EvLP (tOp rCat ta tb) σ H (fun vs H' => ∃ ys, vs = xs ++ ys ∧ P ys H') := fun H1 e Q q =>
  ha H1 e _ fun H2 e2 => hb H2 (e.trans e2) _ fun r ys H3 hr e3 h3 k => ⟨l, r, xs, ys, rfl, rfl, e3 _ _ (e2 _ _ (e _ _ hl)), h3, sz_of (hz ys H3 (k.kn.now (e.trans e2) e3)), fun p hp =>
    q p _ _ (fresh_back (e2.trans e3) hp) ((e2.trans e3).trans (Ex.new hp)) upd_same (((k.kn.out hp).pre e2).imp fun H' _ z => ⟨ys, rfl, z⟩)⟩
end
section
variable {D : Ends} {te : TE} {σ : L2.St} {H : Hp} {P : List V → Hp → Prop} {φ : V → Hp → Prop} {i : Nat}
theorem s_asgLP (h : EvLP te σ H P) (k : ∀ p vs H1, H p = none → Ex H H1 → H1 p = some (.lst vs) → KnX p H H H1 (P vs) → D.nx (σ.set i (some (.ref p))) H1) : tAsg te (gName i) D σ H :=
  h H (Ex.refl H) _ fun p vs H1 n e h1 kn => k p vs H1 n e h1 kn
theorem s_asgP (h : EvP te σ H φ) (k : ∀ v H1, Ex H H1 → φ v H1 → D.nx (σ.set i (some v)) H1) : tAsg te (gName i) D σ H := h H (Ex.refl H) _ fun v H1 e kn => k v H1 e (kn.now (Ex.refl H) e)
theorem s_retP (h : EvP te σ H φ) (k : ∀ v H1, Ex H H1 → φ v H1 → D.rt v H1) : tRet te D σ H := h H (Ex.refl H) _ fun v H1 e kn => k v H1 e (kn.now (Ex.refl H) e)
end
/-! comprehensions -/
/-- what is known of H, and of what came between H0 and H1 -/
def mix (H H0 H1 : Hp) : Hp := fun b => match H0 b with | none => H1 b | some _ => H b
theorem mix_ex {H H0 H1 : Hp} (e : Ex H H0) : Ex H (mix H H0 H1) := fun b o h => by
  unfold mix
  rw [e b o h]
  exact h
theorem mix_in {H H0 H1 : Hp} (e : Ex H H0) (e1 : Ex H0 H1) : Ex (mix H H0 H1) H1 := fun b o h => by
  unfold mix at h
  cases q : H0 b with
  | none => rw [q] at h; exact h
  | some u => rw [q] at h; exact e1 _ _ (e _ _ h)
theorem Kn.at_mix {H H0 H1 : Hp} {φ : Hp → Prop} (k : Kn H H0 H1 φ) (e : Ex H H0) : φ (mix H H0 H1) := k _ (mix_ex e) fun b o n h => by
  unfold mix
  rw [n]
  exact h
theorem Kn.unmix {H H0 H1 H2 : Hp} {φ : Hp → Prop} (k : Kn (mix H H0 H1) H1 H2 φ) (e1 : Ex H0 H1) (e2 : Ex H1 H2) : Kn H H0 H2 φ := fun H' a b => by
  refine k H' (fun c o h => ?_) fun c o n h => b c o (fresh_back e1 n) h
  unfold mix at h
  cases q : H0 c with
  | none => rw [q] at h; exact b c o q (e2 _ _ h)
  | some u => rw [q] at h; exact a _ _ h
theorem KnX.unmix {p : Addr} {H H0 H1 H2 : Hp} {φ : Hp → Prop} (k : KnX p (mix H H0 H1) H1 H2 φ) (hp : H1 p = none) (e1 : Ex H0 H1) (e2 : Ex H1 H2) : KnX p H H0 H2 φ := fun H' a b => by
  refine k H' (fun c o h => ?_) fun c o z n h => b c o z (fresh_back e1 n) h
  unfold mix at h
  cases q : H0 c with
  | none => rw [q] at h; exact b c o (ne_of_none h hp) q (e2 _ _ h)
  | some u => rw [q] at h; exact a _ _ h
theorem lc_P {J : It} {g : TG} {te : TE} {vs : List Nat} {σ : L2.St} {B H1 : Hp} {Dl : Addr} {Qd : Hp → Prop} {n : Nat} (Φ : Nat → V → Hp → Prop) (hn : n < 50000) (e0 : Ex B H1) (hD : H1 Dl = none)
    (hgo : ∀ i H2, i < n → Ex H1 H2 → J.go i H2) (hst : ∀ H2, Ex H1 H2 → J.stop n H2)
    (hy : ∀ i H2 x H', i < n → Ex H1 H2 → J.yld i H2 x H' → ∃ σ2, Ex H2 H' ∧ wipe σ2 vs = wipe σ vs ∧ (∀ Q : L2.St → Hp → Prop, (∀ H3, Ex H' H3 → Q σ2 H3) → g x (wipe σ vs) H' Q) ∧ EvP te σ2 B (Φ i))
    (hd : ∀ xs H2, Ex H1 H2 → H2 Dl = some (.lst xs) → KnX Dl B H1 H2 (fun H' => xs.length = n ∧ ∀ i v, xs[i]? = some v → Φ i v H') → Qd H2) :
    ∃ W : Nat → Nat → Hp → Prop, (∃ m, W 0 m (upd H1 Dl (.lst []))) ∧ ∀ i m H2, W i m H2 →
      (J.stop i H2 ∧ Qd H2) ∨ (J.go i H2 ∧ ∃ Nx : Hp → Prop, (∀ H', Nx H' → ∃ m', m' < m ∧ W (i + 1) m' H') ∧ ∀ x H', J.yld i H2 x H' → g x (wipe σ vs) H' fun σ2 H3 => wipe σ2 vs = wipe σ vs ∧ tYes σ2 H3 fun b H4 =>
        if b = true then te σ2 H4 fun y H5 => ∃ acc, H5 Dl = some (.lst acc) ∧ acc.length < sizeLine ∧ Nx (upd H5 Dl (.lst (acc ++ [y]))) else Nx H4) := by
  let Iv : Nat → Hp → Prop := fun i H2 => Ex H1 H2 ∧ ∃ acc, H2 Dl = some (.lst acc) ∧ acc.length = i ∧ ∀ H', Ex B H' → (∀ b o, b ≠ Dl → H1 b = none → H2 b = some o → H' b = some o) → ∀ j v, acc[j]? = some v → Φ j v H'
  refine ⟨fun i m H => m = n - i ∧ i ≤ n ∧ Iv i H, ⟨n, by simp, Nat.zero_le _, Ex.new hD, [], upd_same, rfl, fun _ _ _ j v z => by simp at z⟩, ?_⟩
  rintro i m H2 ⟨rfl, hi, p2, acc, p3, pl, pk⟩
  by_cases hlt : i < n
  · refine .inr ⟨hgo i H2 hlt p2, Iv (i + 1), fun H' p' => ⟨n - (i + 1), by omega, rfl, hlt, p'⟩, fun x H' y => ?_⟩
    obtain ⟨σ2, e1, hw, hg, he⟩ := hy i H2 x H' hlt p2 y
    refine hg _ fun H3 e3 => ⟨hw, ?_⟩
    show te σ2 H3 fun y H5 => ∃ acc, H5 Dl = some (.lst acc) ∧ acc.length < sizeLine ∧ Iv (i + 1) (upd H5 Dl (.lst (acc ++ [y])))
    have E3 : Ex H2 H3 := e1.trans e3
    refine he H3 ((e0.trans p2).trans E3) _ fun v H5 e5 kn => ⟨acc, e5 _ _ (E3 _ _ p3), sz_lt (by omega), Ex.mut ((p2.trans E3).trans e5) hD, _, upd_same, by rw [List.length_append, pl]; rfl, fun Hq eq fr j u hj => ?_⟩
    have fr' : ∀ b o, b ≠ Dl → H1 b = none → H5 b = some o → Hq b = some o := fun b o nb n h => fr b o nb n (by rw [upd_ne nb]; exact h)
    by_cases hji : j < i
    · rw [List.getElem?_append_left (by omega)] at hj
      exact pk Hq eq (fun b o nb n h => fr' b o nb n (e5 _ _ (E3 _ _ h))) j u hj
    · rw [List.getElem?_append_right (by omega)] at hj
      have hz : j - acc.length = 0 := by
        have := (List.getElem?_eq_some_iff.mp hj).1
        simp at this
        omega
      rw [hz] at hj
      have hu : v = u := by simpa using hj
      have hjj : j = i := by omega
      subst hu hjj
      refine kn Hq eq fun b o n h => fr' b o (fun z => ?_) (fresh_back (p2.trans E3) n) h
      rw [z, E3 _ _ p3] at n
      cases n
  · have e : i = n := by omega
    subst e
    exact .inl ⟨hst H2 p2, hd acc H2 p2 p3 fun H' a b => ⟨pl, pk H' a b⟩⟩
section
variable {K : PySem.W.Frag} {σ : L2.St} {H : Hp} {te tl : TE} {P : List V → Hp → Prop} {vs : List Nat} {j : Nat}
/-- over a list that is known -/
theorem elp_lcL {a : Addr} {xs : List V} (Φ : Nat → V → Hp → Prop) (h : Ev tl σ H (.ref a)) (hx : SqL K H a xs) (hz : xs.length < 50000) (hw : ∀ x, wipe ((wipe σ vs).set j (some x)) vs = wipe σ vs)
    (he : ∀ i x, xs[i]? = some x → EvP te ((wipe σ vs).set j (some x)) H (Φ i)) : EvLP (tLc (iList K tl) (gName j) tYes te vs) σ H (fun ys H' => ys.length = xs.length ∧ ∀ i v, ys[i]? = some v → Φ i v H') := fun H0 e Q q => h H0 e _ fun H1 e1 =>
  ⟨a, rfl, ⟨xs, ex_l (e.trans e1) hx⟩, fun Dl hD => lc_P (B := H) Φ hz (e.trans e1) hD (fun i H2 hi e2 => ⟨xs, xs[i], ex_l ((e.trans e1).trans e2) hx, List.getElem?_eq_getElem hi⟩) (fun H2 e2 => ⟨xs, ex_l ((e.trans e1).trans e2) hx, Nat.le_refl _⟩)
    (fun i H2 x H' hi e2 y => by
      obtain ⟨rfl, y⟩ := y
      have hxi := y xs (ex_l ((e.trans e1).trans e2) hx)
      exact ⟨_, Ex.refl _, hw x, fun Q2 q2 => q2 _ (Ex.refl _), he i x hxi⟩)
    (fun ys H2 e2 h2 k => q Dl ys H2 (fresh_back e1 hD) (e1.trans e2) h2 (k.pre e1))⟩
/-- over a new list -/
theorem elp_lcN (Φ : List V → Nat → V → Hp → Prop) (h : EvLP tl σ H P) (hz : ∀ xs H', P xs H' → xs.length < 50000) (hw : ∀ x, wipe ((wipe σ vs).set j (some x)) vs = wipe σ vs)
    (he : ∀ xs B, Ex H B → P xs B → ∀ i x, xs[i]? = some x → EvP te ((wipe σ vs).set j (some x)) B (Φ xs i)) : EvLP (tLc (iList K tl) (gName j) tYes te vs) σ H (fun ys H' => ∃ xs, P xs H' ∧ ys.length = xs.length ∧ ∀ i v, ys[i]? = some v → Φ xs i v H') := fun H0 e Q q => h H0 e _ fun a xs H1 ha e1 hx kn =>
  ⟨a, rfl, ⟨xs, sq_of hx⟩, fun Dl hD => lc_P (B := mix H H0 H1) (Φ xs) (hz xs _ (kn.kn.now e e1)) (mix_in e e1) hD (fun i H2 hi e2 => ⟨xs, xs[i], ex_l e2 (sq_of hx), List.getElem?_eq_getElem hi⟩) (fun H2 e2 => ⟨xs, ex_l e2 (sq_of hx), Nat.le_refl _⟩)
    (fun i H2 x H' hi e2 y => by
      obtain ⟨rfl, y⟩ := y
      have hxi := y xs (ex_l e2 (sq_of hx))
      exact ⟨_, Ex.refl _, hw x, fun Q2 q2 => q2 _ (Ex.refl _), he xs _ (mix_ex e) (kn.kn.at_mix e) i x hxi⟩)
    (fun ys H2 e2 h2 k => q Dl ys H2 (fresh_back e1 hD) (e1.trans e2) h2 fun H' c d => ⟨xs, kn.kn H' c (fun b o n h => d b o (ne_of_none h hD) n (e2 _ _ h)), (k.unmix hD e1 e2) H' c d⟩)⟩
/-- over range(n) -/
theorem elp_lcR {ta : TA} {n : Nat} (Φ : Nat → V → Hp → Prop) (h : EvA ta σ H [.int (n : Int)]) (hz : n < 40000) (hw : ∀ x, wipe ((wipe σ vs).set j (some x)) vs = wipe σ vs)
    (he : ∀ i : Nat, i < n → EvP te ((wipe σ vs).set j (some (.int (i : Int)))) H (Φ i)) : EvLP (tLc (iRng1 ta) (gName j) tYes te vs) σ H (fun ys H' => ys.length = n ∧ ∀ i v, ys[i]? = some v → Φ i v H') := fun H0 e Q q => h H0 e _ fun H1 e1 =>
  ⟨(n : Int), rfl, by omega, by omega, fun Dl hD => lc_P (J := Itr 0 ((n : Int).toNat)) (B := H) Φ (by omega) (e.trans e1) hD (fun i H2 hi e2 => by show i < (n : Int).toNat; omega) (fun H2 e2 => by show (n : Int).toNat ≤ n; omega)
    (fun i H2 x H' hi e2 y => by
      obtain ⟨rfl, rfl⟩ := y
      have e0 : (0 : Int) + (i : Int) = (i : Int) := Int.zero_add _
      rw [e0]
      exact ⟨_, Ex.refl _, hw _, fun Q2 q2 => q2 _ (Ex.refl _), he i hi⟩)
    (fun ys H2 e2 h2 k => q Dl ys H2 (fresh_back e1 hD) (e1.trans e2) h2 (k.pre e1))⟩
/-- over range(n), the items' values -/
theorem el_lcRv {ta : TA} {n : Nat} (v : Nat → V) (h : EvA ta σ H [.int (n : Int)]) (hz : n < 40000) (hw : ∀ x, wipe ((wipe σ vs).set j (some x)) vs = wipe σ vs)
    (he : ∀ i : Nat, i < n → Ev te ((wipe σ vs).set j (some (.int (i : Int)))) H (v i)) : EvL (tLc (iRng1 ta) (gName j) tYes te vs) σ H (rmap n v) := fun H0 e Q q =>
  elp_lcR (fun i u _ => u = v i) h hz hw (fun i hi => evp_of (he i hi) fun _ _ => rfl) H0 e Q fun p ys H2 n2 e2 h2 k => by
    obtain ⟨l, kk⟩ := k.kn.now e e2
    have : ys = rmap n v := by
      refine List.ext_getElem? fun i => ?_
      by_cases hi : i < n
      · have h1 : ys[i]? = some ys[i] := List.getElem?_eq_getElem (by omega)
        rw [h1, kk i _ h1]
        unfold rmap
        rw [List.getElem?_map, List.getElem?_range hi]
        rfl
      · rw [List.getElem?_eq_none (by omega), List.getElem?_eq_none (by rw [rmap_len]; omega)]
    rw [this] at h2
    exact q p H2 n2 e2 h2
end
section
variable {K : PySem.W.Frag} {σ : L2.St} {H : Hp} {te : TE} {ta tb : TA} {D : Ends} {φ ψ : V → Hp → Prop}
/-- a, b = x, y -/
theorem s_parP {i j : Nat} (h : EvAP ta σ H [φ, ψ]) (k : ∀ v u H1, Ex H H1 → Kn H H H1 (fun H' => φ v H' ∧ ψ u H') → D.nx ((σ.set i (some v)).set j (some u)) H1) : tPar i j ta D σ H := h H (Ex.refl H) _ fun vs H1 e kn => by
  have z := kn.now (Ex.refl H) e
  cases z with
  | @cons v _ us _ _ zr =>
    cases zr with
    | @cons u _ us2 _ _ zr2 =>
      cases zr2
      refine ⟨v, u, rfl, k v u H1 e (kn.imp fun H' _ z => ?_)⟩
      cases z with
      | cons a zr =>
        cases zr with
        | cons b _ => exact ⟨a, b⟩
/-- l.append(e), l new since H0, e known by what is true of it without l -/
theorem s_appP {l : Addr} {xs : List V} {H0 : Hp} {tl : TE} (e0 : Ex H0 H) (n : H0 l = none) (hl : H l = some (.lst xs)) (ha : Ev tl σ H (.ref l)) (h : EvP te σ H0 φ) (hz : xs.length < 100000)
    (k : ∀ v H1, Ex H0 H1 → (∀ b o, b ≠ l → H b = some o → H1 b = some o) → H1 l = some (.lst (xs ++ [v])) → φ v H1 → D.nx σ H1) : tDrop (tBM K "list" rAppend tl (tCons te tNil)) D σ H := ha H (Ex.refl H) _ fun H1 e1 =>
  ⟨Or.inl ⟨rfl, xs, sq_of (e1 l _ hl)⟩, h H1 (e0.trans e1) _ fun v H2 e2 kn => ⟨l, xs, v, rfl, rfl, e2 l _ (e1 l _ hl), sz_lt hz, k v _ (Ex.mut ((e0.trans e1).trans e2) n)
    (fun b o nb hb => by rw [upd_ne nb]; exact e2 _ _ (e1 _ _ hb)) upd_same (kn _ (Ex.mut ((e0.trans e1).trans e2) n) fun b o nb hb => by
      have z : b ≠ l := fun z => by
        rw [z, e1 _ _ hl] at nb
        cases nb
      rw [upd_ne z]
      exact hb)⟩⟩
/-- a call, its arguments known by what is true of them -/
theorem ev_callP {sp : Sp} {E : XK} {φs : List (V → Hp → Prop)} {z : V} (h : EvAP ta σ H φs) (hs : ∀ vs H1, Ex H H1 → Paired (fun v φ => φ v H1) vs φs → SpV sp vs H1 z) : Ev (tCall sp [] E ta) σ H z := fun H1 e Q q =>
  h H1 e _ fun vs H2 e2 kn => by
    rw [List.append_nil]
    exact hs vs H2 (e.trans e2) (kn.now e e2) H2 (Ex.refl H2) Q (fun H3 e3 => q H3 (e2.trans e3)) E
/-- x != y of equal data, x a new list -/
theorem ev_neD {r : Addr} {P : List V → Hp → Prop} {tx ty : TE} (d : PyData) (ha : EvLP tx σ H P) (hb : ∀ H', Ex H H' → Ev ty σ H' (.ref r)) (hd : ∀ p vs H', Ex H H' → H' p = some (.lst vs) → P vs H' → Dp K H' (.ref p) d ∧ Dp K H' (.ref r) d)
    (h1 : SeqAt.shaped d = true) (h2 : PyData.eqv d d = true) : Ev (tOp (rNeD K) tx ty) σ H (.bl false) := fun H1 e Q q =>
  ha H1 e _ fun p vs H2 n e2 hp k => hb H2 (e.trans e2) H2 (Ex.refl H2) _ fun H3 e3 => by
    have z := hd p vs H3 ((e.trans e2).trans e3) (e3 _ _ hp) ((k.ex e3).kn.now e (e2.trans e3))
    refine ⟨d, d, z.1, z.2, h1, h1, ?_⟩
    rw [h2]
    exact q H3 (e2.trans e3)
theorem dpAll_of : ∀ {vs : List V} {ds : List PyData}, vs.length = ds.length → (∀ (i : Nat) v d, vs[i]? = some v → ds[i]? = some d → Dp K H v d) → DpAll K H vs ds
  | [], [], _, _ => .nil
  | [], _ :: _, h, _ => by cases h
  | _ :: _, [], h, _ => by cases h
  | v :: vs, d :: ds, h, f => .cons (f 0 v d rfl rfl) (dpAll_of (by simpa using h) fun i u e a b => f (i + 1) u e (by simpa using a) (by simpa using b))
/-- [x] * n -/
theorem el_rep {tl ti : TE} {xs : List V} {n : Nat} (ha : EvL tl σ H xs) (hb : ∀ H', Ex H H' → Ev ti σ H' (.int (n : Int))) (hn : n ≤ 1000) (hz : xs.length * n ≤ 100000) : EvL (tOp rRep tl ti) σ H (List.replicate n xs).flatten := fun H1 e Q q =>
  ha H1 e _ fun l H2 hl e2 h2 => hb H2 (e.trans e2) H2 (Ex.refl H2) _ fun H3 e3 => ⟨l, (n : Int), xs, rfl, rfl, e3 _ _ h2, by omega, by omega, sz_of (by simpa using hz), fun p hp => by
    have : (n : Int).toNat = n := by omega
    rw [this]
    exact q p _ (fresh_back (e2.trans e3) hp) ((e2.trans e3).trans (Ex.new hp)) upd_same⟩
end
end Vx

set_option Elab.async false
set_option linter.all false
set_option maxRecDepth 100000
set_option maxHeartbeats 4000000
namespace Vx
open PySem PySem.Spec PyProof.Rows L2
def top (i : Nat) : Stmt := PySem.Challenge.pw_dequelogs_k85_errors_made_directly.main.body.getD i (.Pass ⟨0, 0, 0, 0⟩)
abbrev sSource : Stmt := top 15
abbrev sPick : Stmt := top 16
/-- what the module does not name: the built-ins that it calls -/
structure Blt (mg : Str → Option Value) : Prop where
  len : mg "len" = none
  max : mg "max" = none
  min : mg "min" = none
  abs : mg "abs" = none
  all : mg "all" = none
  zip : mg "zip" = none
  list : mg "list" = none
  tuple : mg "tuple" = none
  dict : mg "dict" = none
  bool : mg "bool" = none
  str : mg "str" = none
  range : mg "range" = none
  isinstance : mg "isinstance" = none
/-- a source of draws at p -/
def Src (H : Hp) (p : Addr) (n : Nat) : Prop := ∃ a b c : Int, H p = some (.lst [.int a, .int b, .int c]) ∧ 0 ≤ a ∧ 0 ≤ b ∧ b < 10 ^ 39 ∧ 0 ≤ c ∧ c ≤ (n : Int)
def spSource (K : PySem.W.Frag) : Sp := fun vs H Q _ => ∃ (a : Addr) (ns : List Int) (k : Int), vs = [.ref a, .int k] ∧ SqL K H a (ns.map V.int) ∧ 0 ≤ k ∧ k ≤ 1000 ∧
  ∀ p (x y : Int), H p = none → 0 ≤ x → 0 ≤ y → y < 10 ^ 39 → Q (.ref p) (upd H p (.lst [.int x, .int y, .int 0]))
def spPick : Sp := fun vs H Q _ => ∃ (p : Addr) (n : Nat) (m : Int), vs = [.ref p, .int m] ∧ Src H p n ∧ n ≤ 1000000000 ∧ 1 ≤ m ∧ m ≤ 10 ^ 60 ∧
  ∀ (r : Int) xs, 0 ≤ r → r < m → Src (upd H p (.lst xs)) p (n + 1) → Q (.int r) (upd H p (.lst xs))
section
variable {P : Program} {w : World} {K : PySem.W.Frag} {mg : Str → Option Value} {base : Heap}
theorem scSource : FnScope ["script", "k", "cell"] ["script", "k"] (defScope sSource) := ⟨rfl, rfl, rfl, by decide +kernel, rfl, by decide +kernel, by decide +kernel⟩
theorem ok_source (D : Def K mg "_law_source" sSource ["script", "k"]) (T : Blt mg) : Good P w K mg base 1 "_law_source" ["script", "k"] (spSource K) := by
  refine D.good scSource (fun vs H Q E h => ?_) (fun f cdv A outer s H vs Q E hr h => ?_)
  · obtain ⟨a, ns, k, rfl, _⟩ := h
    rfl
  · obtain ⟨a, ns, k, rfl, hS, k0, k1, q⟩ := h
    refine ⟨_, Evl.pss_cut (ps_set (i := 2) scSource.nd rfl (Or.inl rfl) (pe_ifExp (pt_cmpR op_lt (pv 1) (pe_callB call_len_seq (by rfl) T.len PySem.boot_len (pa_cons (pv 0) pa_nil)) (nomark _)) (pe_ix ix_list (pv 0) (pv 1) (fun _ _ => rfl)) pe_int))
      (pss_one (ps_ret (pe_lst (pa_cons (pe_callB (call_max2 rfl) (by rfl) T.max (by decide +kernel) (pa_cons pe_int (pa_cons (pe_op op_sub (pe_callB call_abs (by rfl) T.abs (by decide +kernel) (pa_cons (pv 2) pa_nil)) (pe_op op_pw pe_int pe_int)) pa_nil)))
        (pa_cons (pe_op op_add (pe_op op_add (pe_op op_mul (pe_op op_mod (pe_callB call_abs (by rfl) T.abs (by decide +kernel) (pa_cons (pv 2) pa_nil)) (pe_op op_add (pe_op op_pw pe_int pe_int) pe_int)) pe_int) (pv 1)) pe_int)
          (pa_cons pe_int pa_nil)))))), ?_⟩
    refine ⟨fun σ' H' => ∃ c : Int, σ' = [some (.ref a), some (.int k), some (.int c)] ∧ H' = H, ?_, ?_⟩
    · refine ⟨_, rfl, _, rfl, a, _, rfl, Or.inl hS, _, _, rfl, rfl, _, rfl, ?_⟩
      rw [List.length_map]
      refine ite2 (fun hk => ?_) (fun _ => ⟨0, rfl, rfl⟩)
      have hk' : k < (ns.length : Int) := of_decide_eq_true hk
      obtain ⟨j, rfl⟩ : ∃ j : Nat, k = (j : Int) := ⟨k.toNat, by omega⟩
      have hj : j < ns.length := by omega
      refine ⟨_, rfl, _, rfl, a, _, _, V.int (ns[j]), rfl, rfl, hS, atI_nat (by rw [List.getElem?_map, List.getElem?_eq_getElem hj]; rfl), ⟨_, rfl, rfl⟩⟩
    · rintro σ' H' ⟨c, rfl, rfl⟩
      refine ⟨_, rfl, _, rfl, 10, 18, rfl, rfl, ⟨by decide, by decide, by decide⟩, _, _, rfl, rfl, _, _, rfl, ?_⟩
      refine ⟨_, rfl, _, rfl, 10, 36, rfl, rfl, ⟨by decide, by decide, by decide⟩, _, _, rfl, rfl, _, _, rfl, rfl, (show (0 : Int) < 10 ^ 36 + 67 by decide), ?_⟩
      refine ⟨_, _, rfl, rfl, Or.inr ⟨by decide, by decide⟩, _, rfl, _, _, rfl, rfl, _, _, rfl, rfl, (by show 3 ≤ sizeLine; decide), fun p hp => ?_⟩
      have e := Int.emod_lt_of_pos (if c < 0 then -c else c) (show (0 : Int) < 10 ^ 36 + 67 by decide)
      have e0 := Int.emod_nonneg (if c < 0 then -c else c) (show (10 : Int) ^ 36 + 67 ≠ 0 by decide)
      refine q p _ _ hp ?_ ?_ ?_
      · split <;> omega
      · generalize hz : (if c < 0 then -c else c) % (10 ^ 36 + 67) = z at e e0
        show (0 : Int) ≤ (if c < 0 then -c else c) % (10 ^ 36 + 67) * 128 + k + 5
        rw [hz]
        omega
      · generalize hz : (if c < 0 then -c else c) % (10 ^ 36 + 67) = z at e e0
        show (if c < 0 then -c else c) % (10 ^ 36 + 67) * 128 + k + 5 < 10 ^ 39
        rw [hz]
        omega
theorem scPick : FnScope ["source", "count", "found", "mixed"] ["source", "count"] (defScope sPick) := ⟨rfl, rfl, rfl, by decide +kernel, rfl, by decide +kernel, by decide +kernel⟩
theorem ok_pick (D : Def K mg "_law_pick" sPick ["source", "count"]) : Good P w K mg base 1 "_law_pick" ["source", "count"] spPick := by
  refine D.good scPick (fun vs H Q E h => ?_) (fun f cdv A outer s H vs Q E hr h => ?_)
  · obtain ⟨p, n, m, rfl, _⟩ := h
    rfl
  · obtain ⟨p, n, m, rfl, ⟨a, b, c, hp, a0, b0, b1, c0, c1⟩, hn, m0, m1, q⟩ := h
    refine ⟨_, pss_cons (ps_if (pt_cmpR op_gt (pe_ix ix_list (pv 0) pe_int (fun _ _ => rfl)) pe_int (nomark _))
        (pss_cons (ps_set (i := 2) scPick.nd rfl (Or.inl rfl) (pe_op op_mod (pe_ix ix_list (pv 0) pe_int (fun _ _ => rfl)) (pv 1)))
        (pss_cons (ps_asg (pe_op op_fdivW (pe_ix ix_list (pv 0) pe_int (fun _ _ => rfl)) (pv 1)) (pg_sub (pv 0) pe_int set_list))
        (pss_one (ps_ret (pv 2))))) pss_nil)
      (pss_cons (ps_asg (pe_op op_add (pe_ix ix_list (pv 0) pe_int (fun _ _ => rfl)) pe_int) (pg_sub (pv 0) pe_int set_list))
      (pss_cons (ps_set (i := 3) scPick.nd rfl (Or.inl rfl) (pe_op op_mod (pe_op op_pw (pe_op op_add (pe_ix ix_list (pv 0) pe_int (fun _ _ => rfl)) (pe_op op_mul pe_int (pe_ix ix_list (pv 0) pe_int (fun _ _ => rfl)))) pe_int) (pe_op op_add (pe_op op_pw pe_int pe_int) pe_int)))
      (pss_cons (ps_set (i := 3) scPick.nd rfl (Or.inl rfl) (pe_op op_mod (pe_op op_pw (pe_op op_add (pv 3) (pe_op op_mul pe_int (pe_ix ix_list (pv 0) pe_int (fun _ _ => rfl)))) pe_int) (pe_op op_add (pe_op op_pw pe_int pe_int) pe_int)))
      (pss_one (ps_ret (pe_op op_mod (pe_op op_fdiv (pv 3) pe_int) (pv 1))))))), ?_⟩
    refine ⟨_, rfl, p, _, _, V.int a, rfl, rfl, SqL.of hp, rfl, _, _, rfl, rfl, _, rfl, ?_⟩
    refine ite2 (fun ha => ?_) (fun _ => ?_)
    · have ha : 0 < a := of_decide_eq_true ha
      refine ⟨_, rfl, p, _, _, V.int a, rfl, rfl, SqL.of hp, rfl, _, rfl, a, m, rfl, rfl, (by omega), ?_⟩
      refine ⟨_, rfl, p, _, _, V.int a, rfl, rfl, SqL.of hp, rfl, _, rfl, a, m, rfl, rfl, wide_div (b := 200) (by omega) (by omega) (by decide) (by decide), ?_⟩
      refine ⟨_, rfl, p, _, _, 0, rfl, rfl, hp, rfl, _, rfl, ?_⟩
      refine q _ _ (Int.emod_nonneg _ (by omega)) (Int.emod_lt_of_pos _ (by omega)) ⟨_, b, c, upd_same, ?_, b0, b1, c0, by omega⟩
      exact Int.ediv_nonneg (by omega) (by omega)
    · refine ⟨_, rfl, p, _, _, V.int c, rfl, rfl, SqL.of hp, rfl, _, _, rfl, rfl, ?_⟩
      refine ⟨_, rfl, p, _, _, 2, rfl, rfl, hp, rfl, ?_⟩
      generalize hH : upd H p (.lst ([V.int a, V.int b, V.int c].set 2 (V.int (c + 1)))) = H1
      have h1 : H1 p = some (.lst [.int a, .int b, .int (c + 1)]) := by rw [← hH]; exact upd_same
      have pos1 : (0 : Int) < 10 ^ 38 + 133 := by decide
      have pos2 : (0 : Int) < 10 ^ 37 + 43 := by decide
      refine ⟨_, rfl, p, _, _, V.int b, rfl, rfl, SqL.of h1, rfl, _, rfl, p, _, _, V.int (c + 1), rfl, rfl, SqL.of h1, rfl, _, _, rfl, rfl, Or.inl ⟨by decide, by decide⟩, _, _, rfl, rfl, ?_⟩
      refine ⟨_, 3, rfl, rfl, ⟨by decide, by decide, by omega⟩, 10, 38, rfl, rfl, ⟨by decide, by decide, by decide⟩, _, _, rfl, rfl, _, _, rfl, rfl, pos1, ?_⟩
      generalize hx : ((b + 49979687 * (c + 1)) ^ Int.toNat 3 % (10 ^ Int.toNat 38 + 133)) = x
      have x0 : 0 ≤ x := by rw [← hx]; exact Int.emod_nonneg _ (by decide)
      have x1 : x < 10 ^ 38 + 133 := by rw [← hx]; exact Int.emod_lt_of_pos _ pos1
      refine ⟨_, rfl, _, rfl, p, _, _, V.int (c + 1), rfl, rfl, SqL.of h1, rfl, _, _, rfl, rfl, Or.inl ⟨by decide, by decide⟩, _, _, rfl, rfl, ?_⟩
      refine ⟨_, 3, rfl, rfl, ⟨by decide, by decide, by omega⟩, 10, 37, rfl, rfl, ⟨by decide, by decide, by decide⟩, _, _, rfl, rfl, _, _, rfl, rfl, pos2, ?_⟩
      refine ⟨_, rfl, _, _, rfl, rfl, ⟨by decide, by decide⟩, _, rfl, _, _, rfl, rfl, (show (0 : Int) < m by omega), ?_⟩
      rw [← hH]
      refine q _ _ (Int.emod_nonneg _ (by omega)) (Int.emod_lt_of_pos _ (by omega)) ⟨a, b, c + 1, upd_same, a0, b0, b1, by omega, by omega⟩
end
end Vx

set_option Elab.async false
set_option linter.all false
set_option maxRecDepth 100000
set_option maxHeartbeats 4000000
namespace Vx
open PySem PySem.Spec PyProof.Rows L2 Evl
abbrev sMarks : Stmt := top 19
/-- the classes at c 0 .. c 11, their base at c 12 -/
structure Cl (K : PySem.W.Frag) (mg : Str → Option Value) (c : Nat → Addr) : Prop where
  g0 : mg "NoLogs" = some (.ref (c 0))
  g1 : mg "NoFacts" = some (.ref (c 1))
  g2 : mg "NoRun" = some (.ref (c 2))
  g3 : mg "NoWorker" = some (.ref (c 3))
  g4 : mg "NoItem" = some (.ref (c 4))
  g5 : mg "NoPlace" = some (.ref (c 5))
  g6 : mg "NoNumber" = some (.ref (c 6))
  g7 : mg "NoEntry" = some (.ref (c 7))
  g8 : mg "Nothing" = some (.ref (c 8))
  g9 : mg "Conflict" = some (.ref (c 9))
  g10 : mg "TooMany" = some (.ref (c 10))
  g11 : mg "NoText" = some (.ref (c 11))
  g12 : mg "DequeError" = some (.ref (c 12))
  ve : mg "ValueError" = none
  kit : ∀ i j, i < 12 → j < 12 → PySem.W.kitOne K (.ref (c i)) (.ref (c j)) = some (decide (i = j))
  kitB : ∀ i, i < 12 → PySem.W.kitOne K (.ref (c i)) (.ref (c 12)) = some true
  kitV : ∀ i, i < 12 → PySem.W.kitOne K (.ref (c i)) (.type "ValueError") = some true
  ec : ∀ i, i < 12 → ExcC K (c i)
  xin : ∀ i, i < 9 → PySem.W.excIn K (c i) [.type "ValueError", .type "Exception", .type "BaseException", .type "object"] "ValueError.__new__" = true
  kp : ∀ i, i < 9 → PySem.W.keepIn K (.ref (c i)) = true
def marks (i : Nat) : List V := [V.bl (decide (i = 0)), V.bl (decide (i = 1)), V.bl (decide (i = 2)), V.bl (decide (i = 3)), V.bl (decide (i = 4)), V.bl (decide (i = 5)), V.bl (decide (i = 6)), V.bl (decide (i = 7)), V.bl (decide (i = 8)), V.bl (decide (i = 9)), V.bl (decide (i = 10)), V.bl (decide (i = 11)), V.bl true, V.bl true]
theorem ExcAt.ex {H H' : Hp} {a D : Addr} (h : ExcAt H a D) (e : Ex H H') : ExcAt H' a D := by
  rcases h with h | ⟨d, fs, h1, h2⟩
  · exact Or.inl (e _ _ h)
  · exact Or.inr ⟨d, fs, e _ _ h1, e _ _ h2⟩
def spMarks (K : PySem.W.Frag) (c : Nat → Addr) : Sp := fun vs H Q _ => ∃ (a : Addr) (i : Nat), vs = [.ref a] ∧ i < 12 ∧ ExcAt H a (c i) ∧
  ∀ p H', H p = none → Ex H H' → H' p = some (.lst (marks i)) → Q (.ref p) H'
/-! readings in Evl's words -/
theorem el_cat {ta tb : TE} {σ : L2.St} {H : Hp} {l : Addr} {xs ys : List V} (ha : Ev ta σ H (.ref l)) (hl : H l = some (.lst xs)) (hb : EvL tb σ H ys) (hz : xs.length + ys.length ≤ 100000) : EvL (tOp rCat ta tb) σ H (xs ++ ys) := fun H1 e Q q =>
  ha H1 e _ fun H2 e2 => hb H2 (e.trans e2) _ fun r H3 hr e3 h3 => ⟨l, r, xs, ys, rfl, rfl, e3 _ _ (e2 _ _ (e _ _ hl)), h3, sz_of hz, fun p hp => q p _ (fresh_back (e2.trans e3) hp) ((e2.trans e3).trans (Ex.new hp)) upd_same⟩
/-- l.append(e), l new since H0 -/
theorem s_appN {K : PySem.W.Frag} {ta te : TE} {σ : L2.St} {H0 H : Hp} {D : Ends} {l : Addr} {xs : List V} {v : V} (e0 : Ex H0 H) (n : H0 l = none) (hl : H l = some (.lst xs)) (ha : Ev ta σ H (.ref l)) (h : Ev te σ H v) (hz : xs.length < 100000)
    (k : ∀ H1, Ex H0 H1 → H1 l = some (.lst (xs ++ [v])) → D.nx σ H1) : tDrop (tBM K "list" rAppend ta (tCons te tNil)) D σ H := s_app hl ha h hz fun _ e => k _ (Ex.mut (e0.trans e) n) upd_same
theorem ev_isX {K : PySem.W.Frag} {σ : L2.St} {H : Hp} {a D : Addr} {c : V} {u : Value} {b : Bool} {i : Nat} (hi : σ[i]? = some (some (.ref a))) (ha : ExcAt H a D) (hc : ExcC K D) (k : ClsV c u) (e : PySem.W.kitOne K (.ref D) u = some b) :
    Ev (tCB (rIsX K) (tCons (tVar i) (tCons (tC c) tNil))) σ H (.bl b) := ev_cb (ea_cons (ev_var hi) (ea_cons ev_c ea_nil)) fun H1 e1 Q q => ⟨a, D, c, u, b, rfl, ha.ex e1, hc, k, e, q H1 (Ex.refl H1)⟩
section
variable {P : Program} {w : World} {K : PySem.W.Frag} {mg : Str → Option Value} {base : Heap} {c : Nat → Addr}
theorem scMarks : FnScope ["error", "found"] ["error"] (defScope sMarks) := ⟨rfl, rfl, rfl, by decide +kernel, rfl, by decide +kernel, by decide +kernel⟩
theorem ok_marks (D : Def K mg "_law_marks" sMarks ["error"]) (T : Blt mg) (C : Cl K mg c) : Good P w K mg base 1 "_law_marks" ["error"] (spMarks K c) := by
  refine D.good scMarks (fun vs H Q E h => ?_) (fun f cdv A outer s H vs Q E hr h => ?_)
  · obtain ⟨a, i, rfl, _⟩ := h
    rfl
  · obtain ⟨a, i, rfl, hi, ha, q⟩ := h
    refine ⟨_, pss_cons (ps_set (i := 1) scMarks.nd rfl (Or.inl rfl) (pe_lst (pa_cons (pe_callB call_isX (by rfl) T.isinstance (by decide +kernel) (pa_cons (pv 0) (pa_cons (pe_glob (v := .ref (c 0)) rfl C.g0 rfl) pa_nil))) (pa_cons (pe_callB call_isX (by rfl) T.isinstance (by decide +kernel) (pa_cons (pv 0) (pa_cons (pe_glob (v := .ref (c 1)) rfl C.g1 rfl) pa_nil))) (pa_cons (pe_callB call_isX (by rfl) T.isinstance (by decide +kernel) (pa_cons (pv 0) (pa_cons (pe_glob (v := .ref (c 2)) rfl C.g2 rfl) pa_nil))) pa_nil)))))
      (pss_cons (ps_set (i := 1) scMarks.nd rfl (Or.inl rfl) (pe_op op_cat (pv 1) (pe_lst (pa_cons (pe_callB call_isX (by rfl) T.isinstance (by decide +kernel) (pa_cons (pv 0) (pa_cons (pe_glob (v := .ref (c 3)) rfl C.g3 rfl) pa_nil))) (pa_cons (pe_callB call_isX (by rfl) T.isinstance (by decide +kernel) (pa_cons (pv 0) (pa_cons (pe_glob (v := .ref (c 4)) rfl C.g4 rfl) pa_nil))) (pa_cons (pe_callB call_isX (by rfl) T.isinstance (by decide +kernel) (pa_cons (pv 0) (pa_cons (pe_glob (v := .ref (c 5)) rfl C.g5 rfl) pa_nil))) pa_nil))))))
      (pss_cons (ps_expr (pe_bm PySem.F.plainAttrs_list PySem.F.slot_list_append PySem.F.type_list_append mt_append (pv 1) (pa_cons (pe_callB call_isX (by rfl) T.isinstance (by decide +kernel) (pa_cons (pv 0) (pa_cons (pe_glob (v := .ref (c 6)) rfl C.g6 rfl) pa_nil))) pa_nil)))
      (pss_cons (ps_set (i := 1) scMarks.nd rfl (Or.inl rfl) (pe_op op_cat (pv 1) (pe_lst (pa_cons (pe_callB call_isX (by rfl) T.isinstance (by decide +kernel) (pa_cons (pv 0) (pa_cons (pe_glob (v := .ref (c 7)) rfl C.g7 rfl) pa_nil))) (pa_cons (pe_callB call_isX (by rfl) T.isinstance (by decide +kernel) (pa_cons (pv 0) (pa_cons (pe_glob (v := .ref (c 8)) rfl C.g8 rfl) pa_nil))) (pa_cons (pe_callB call_isX (by rfl) T.isinstance (by decide +kernel) (pa_cons (pv 0) (pa_cons (pe_glob (v := .ref (c 9)) rfl C.g9 rfl) pa_nil))) pa_nil))))))
      (pss_cons (ps_set (i := 1) scMarks.nd rfl (Or.inl rfl) (pe_op op_cat (pv 1) (pe_lst (pa_cons (pe_callB call_isX (by rfl) T.isinstance (by decide +kernel) (pa_cons (pv 0) (pa_cons (pe_glob (v := .ref (c 10)) rfl C.g10 rfl) pa_nil))) (pa_cons (pe_callB call_isX (by rfl) T.isinstance (by decide +kernel) (pa_cons (pv 0) (pa_cons (pe_glob (v := .ref (c 11)) rfl C.g11 rfl) pa_nil))) pa_nil)))))
      (pss_one (ps_ret (pe_op op_cat (pv 1) (pe_lst (pa_cons (pe_callB call_isX (by rfl) T.isinstance (by decide +kernel) (pa_cons (pv 0) (pa_cons (pe_glob (v := .ref (c 12)) rfl C.g12 rfl) pa_nil))) (pa_cons (pe_callB call_isX (by rfl) T.isinstance (by decide +kernel) (pa_cons (pv 0) (pa_cons (pe_bltn (v := .ty "ValueError") (by rfl) C.ve (by decide +kernel) rfl) pa_nil))) pa_nil)))))))))), ?_⟩
    refine s_asgL (el_lst (ea_cons (ev_isX rfl (ha.ex (Ex.refl H)) (C.ec i hi) (ClsV.own _) (C.kit i 0 hi (by decide))) (ea_cons (ev_isX rfl (ha.ex (Ex.refl H)) (C.ec i hi) (ClsV.own _) (C.kit i 1 hi (by decide))) (ea_cons (ev_isX rfl (ha.ex (Ex.refl H)) (C.ec i hi) (ClsV.own _) (C.kit i 2 hi (by decide))) ea_nil))) (by show 3 ≤ 100000; decide)) (fun p1 H1 n1 e1 w1 => ?_)
    refine s_asgL (el_cat (ev_var rfl) w1 (el_lst (ea_cons (ev_isX rfl (ha.ex e1) (C.ec i hi) (ClsV.own _) (C.kit i 3 hi (by decide))) (ea_cons (ev_isX rfl (ha.ex e1) (C.ec i hi) (ClsV.own _) (C.kit i 4 hi (by decide))) (ea_cons (ev_isX rfl (ha.ex e1) (C.ec i hi) (ClsV.own _) (C.kit i 5 hi (by decide))) ea_nil))) (by show 3 ≤ 100000; decide)) (by show 6 ≤ 100000; decide)) (fun p2 H2 n2 e2 w2 => ?_)
    refine s_appN (e1.trans e2) (fresh_back e1 n2) w2 (ev_var rfl) (ev_isX rfl (ha.ex (e1.trans e2)) (C.ec i hi) (ClsV.own _) (C.kit i 6 hi (by decide))) (by show 6 < 100000; decide) (fun H4 e4 w4 => ?_)
    refine s_asgL (el_cat (ev_var rfl) w4 (el_lst (ea_cons (ev_isX rfl (ha.ex e4) (C.ec i hi) (ClsV.own _) (C.kit i 7 hi (by decide))) (ea_cons (ev_isX rfl (ha.ex e4) (C.ec i hi) (ClsV.own _) (C.kit i 8 hi (by decide))) (ea_cons (ev_isX rfl (ha.ex e4) (C.ec i hi) (ClsV.own _) (C.kit i 9 hi (by decide))) ea_nil))) (by show 3 ≤ 100000; decide)) (by show 10 ≤ 100000; decide)) (fun p5 H5 n5 e5 w5 => ?_)
    refine s_asgL (el_cat (ev_var rfl) w5 (el_lst (ea_cons (ev_isX rfl (ha.ex (e4.trans e5)) (C.ec i hi) (ClsV.own _) (C.kit i 10 hi (by decide))) (ea_cons (ev_isX rfl (ha.ex (e4.trans e5)) (C.ec i hi) (ClsV.own _) (C.kit i 11 hi (by decide))) ea_nil)) (by show 2 ≤ 100000; decide)) (by show 12 ≤ 100000; decide)) (fun p6 H6 n6 e6 w6 => ?_)
    have e7 := (e4.trans e5).trans e6
    refine s_retL (el_cat (ev_var rfl) w6 (el_lst (ea_cons (ev_isX rfl (ha.ex e7) (C.ec i hi) (ClsV.own _) (C.kitB i hi)) (ea_cons (ev_isX rfl (ha.ex e7) (C.ec i hi) (ClsV.ty _) (C.kitV i hi)) ea_nil)) (by show 2 ≤ 100000; decide)) (by show 14 ≤ 100000; decide)) (fun p8 H8 n8 e8 w8 => ?_)
    exact q p8 H8 (fresh_back e7 n8) (e7.trans e8) w8
end
end Vx

set_option Elab.async false
set_option linter.all false
set_option maxRecDepth 100000
set_option maxHeartbeats 4000000
namespace Vx
open PySem PySem.Spec PyProof.Rows L2 Evl
abbrev sSame : Stmt := top 18
section
variable {P : Program} {w : World} {K : PySem.W.Frag} {mg : Str → Option Value} {base : Heap} {c : Nat → Addr}
theorem scSame : FnScope ["found", "due", "one", "two"] ["found", "due"] (defScope sSame) := ⟨rfl, rfl, rfl, by decide +kernel, rfl, by decide +kernel, by decide +kernel⟩
theorem ok_same1 {k n : Nat} {sp : Sp} (D : Def K mg "_law_same" sSame ["found", "due"]) (T : Blt mg) (G : Good P w K mg base k "_law_same" ["found", "due"] sp)
    (hn : n = 0 ∨ sp = spSame (n - 1)) : Good P w K mg base (k + 1) "_law_same" ["found", "due"] (spSame n) := by
  refine D.good scSame (fun vs H Q E h => ?_) (fun f cdv A outer s H vs Q E hr h => ?_)
  · obtain ⟨x, y, rfl, _⟩ := h
    rfl
  · obtain ⟨x, y, rfl, h, q⟩ := h
    refine ⟨_, pss_cons (ps_if (pt_val (pe_callB call_isiT (by rfl) T.isinstance (by decide +kernel) (pa_cons (pv 1) (pa_cons (pe_tup (pa_cons (pe_bltn (v := .ty "list") (by rfl) T.list (by decide +kernel) rfl) (pa_cons (pe_bltn (v := .ty "tuple") (by rfl) T.tuple (by decide +kernel) rfl) pa_nil))) pa_nil))))
        (pss_cons (ps_if (pw_or (pt_not (pt_val (pe_callB call_isiT (by rfl) T.isinstance (by decide +kernel) (pa_cons (pv 0) (pa_cons (pe_tup (pa_cons (pe_bltn (v := .ty "list") (by rfl) T.list (by decide +kernel) rfl) (pa_cons (pe_bltn (v := .ty "tuple") (by rfl) T.tuple (by decide +kernel) rfl) pa_nil))) pa_nil)))))
            (pw_or1 (pt_cmpR op_ne (pe_callB call_isi (by rfl) T.isinstance (by decide +kernel) (pa_cons (pv 0) (pa_cons (pe_bltn (v := .ty "list") (by rfl) T.list (by decide +kernel) rfl) pa_nil)))
              (pe_callB call_isi (by rfl) T.isinstance (by decide +kernel) (pa_cons (pv 1) (pa_cons (pe_bltn (v := .ty "list") (by rfl) T.list (by decide +kernel) rfl) pa_nil))) (nomark _)))).pt pss_never pss_nil)
        (pss_one (ps_ret (pe_and (pe_cmpR op_eq (pe_callB call_len_seq (by rfl) T.len PySem.boot_len (pa_cons (pv 0) pa_nil)) (pe_callB call_len_seq (by rfl) T.len PySem.boot_len (pa_cons (pv 1) pa_nil)) (nomark _))
          (pe_one (pe_callB (cr_all rfl) (by rfl) T.all (by decide +kernel) (pa_cons (pe_lc (own := [("one", 2), ("two", 3)]) (g := gTup K 2 (gCons (gName 2) (gCons (gName 3) gNil))) (tt := tYes) rfl scSame.nd
            (RZ.pi_zipA (by rfl) T.zip (pa_cons (pv 0) (pa_cons (pv 1) pa_nil))) (blkOk_by (N := ["found", "due", "one", "two"]) (sc := defScope sSame) (by decide +kernel))
            (fun _ _ _ _ _ => pg_tup rfl (pgs_cons (pg_name (i := 2) scSame.nd rfl (Or.inl rfl)) (pgs_cons (pg_name (i := 3) scSame.nd rfl (Or.inl rfl)) pgs_nil)))
            (fun _ _ _ _ _ => pts_nil) (fun _ _ _ _ _ => pe_fn G hr (pa_cons (pv 2) (pa_cons (pv 3) pa_nil)))) pa_nil))))))) pss_nil)
      (pss_cons (ps_if (pt_val (pe_callB call_isi (by rfl) T.isinstance (by decide +kernel) (pa_cons (pv 1) (pa_cons (pe_bltn (v := .ty "dict") (by rfl) T.dict (by decide +kernel) rfl) pa_nil)))) pss_never pss_nil)
      (pss_cons (ps_if (pw_or (pt_cmpR op_isN (pv 1) pe_non (nomark _)) (pw_or1 (pt_cmpR op_isN (pv 0) pe_non (nomark _)))).pt
        (pss_one (ps_ret (pe_and (pe_cmpR op_isN (pv 1) pe_non (nomark _)) (pe_one (pe_cmpR op_isN (pv 0) pe_non (nomark _)))))) pss_nil)
      (pss_cons (ps_if (pw_or (pt_cmpR op_ne (pe_callB call_isi (by rfl) T.isinstance (by decide +kernel) (pa_cons (pv 0) (pa_cons (pe_bltn (v := .ty "bool") (by rfl) T.bool (by decide +kernel) rfl) pa_nil)))
              (pe_callB call_isi (by rfl) T.isinstance (by decide +kernel) (pa_cons (pv 1) (pa_cons (pe_bltn (v := .ty "bool") (by rfl) T.bool (by decide +kernel) rfl) pa_nil))) (nomark _))
            (pw_or1 (pt_cmpR op_ne (pe_callB call_isi (by rfl) T.isinstance (by decide +kernel) (pa_cons (pv 0) (pa_cons (pe_bltn (v := .ty "str") (by rfl) T.str (by decide +kernel) rfl) pa_nil)))
              (pe_callB call_isi (by rfl) T.isinstance (by decide +kernel) (pa_cons (pv 1) (pa_cons (pe_bltn (v := .ty "str") (by rfl) T.str (by decide +kernel) rfl) pa_nil))) (nomark _)))).pt pss_never pss_nil)
      (pss_one (ps_ret (pe_cmpR op_eq (pv 0) (pv 1) (nomark _))))))), ?_⟩
    have seq : (∃ p q xs ys, x = .ref p ∧ y = .ref q ∧ ((Rd H p (.lst xs) ∧ Rd H q (.lst ys)) ∨ (Rd H p (.tup xs) ∧ Rd H q (.tup ys))) ∧ xs.length = ys.length ∧ xs.length < 40000 ∧
        ∀ (i : Nat) (x' y' : V), xs[i]? = some x' → ys[i]? = some y' → SpV sp [x', y'] H (.bl true)) ∨ (x = y ∧ atom x = true) := by
      cases n with
      | zero => exact Or.inr h
      | succ n =>
        rcases h with h | ⟨p, r, xs, ys, h1, h2, h3, h4, h5, h6⟩
        · exact Or.inr h
        · refine Or.inl ⟨p, r, xs, ys, h1, h2, h3, h4, h5, fun i x' y' a b H1 e Q2 q2 E2 => ?_⟩
          rcases hn with z | z
          · cases z
          · rw [z]
            exact ⟨x', y', rfl, EqS.ex e (h6 i x' y' a b), q2⟩
    rcases seq with ⟨p, r, xs, ys, rfl, rfl, hh, hl, hz, hrec⟩ | ⟨rfl, ha⟩
    · obtain ⟨m, b1, b2, t1, t2, k1, k2, kb, hs⟩ : ∃ (m : String) (b1 b2 : Bool), TyN K H (.ref p) m ∧ TyN K H (.ref r) m ∧ kitB m "list" = some b1 ∧ kitB m "tuple" = some b2 ∧ (b1 || b2) = true ∧ ((SqL K H p xs ∧ SqL K H r ys) ∨ (SqT K H p xs ∧ SqT K H r ys)) := by
        rcases hh with ⟨h1, h2⟩ | ⟨h1, h2⟩
        · exact ⟨"list", true, false, ty_lst h1, ty_lst h2, by decide +kernel, by decide +kernel, rfl, Or.inl ⟨Or.inl h1, Or.inl h2⟩⟩
        · exact ⟨"tuple", false, true, ty_tup h1, ty_tup h2, by decide +kernel, by decide +kernel, rfl, Or.inr ⟨Or.inl h1, Or.inl h2⟩⟩
      have hp : ∀ H', Ex H H' → SqL K H' p xs ∨ SqT K H' p xs := fun H' e => hs.imp (fun z => ex_l e z.1) (fun z => ex_t e z.1)
      have hr' : ∀ H', Ex H H' → SqL K H' r ys ∨ SqT K H' r ys := fun H' e => hs.imp (fun z => ex_l e z.2) (fun z => ex_t e z.2)
      refine s_if (et_B (ev_isI2 (i := 1) rfl t2 k1 k2)) (fun _ H1 e1 => ?_) (fun z => by rw [kb] at z; cases z)
      refine s_if (b := false) (et_is (et_or (et_not (et_B (ev_isI2 (i := 0) rfl (t1.ex e1) k1 k2))) (fun _ => et_test (ev_op (ev_isI (i := 0) rfl (t1.ex e1) k1) (ev_isI (i := 1) rfl (t2.ex e1) k1) (rv_ne rfl)))) (by rw [kb]; simp)) (fun z => nomatch z) (fun _ H2 e2 => ?_)
      refine s_ret (v := .bl true) (ev_is (ev_andV (ev_op (ev_lenA (ev_var rfl) (hp H2 (e1.trans e2))) (ev_lenA (ev_var rfl) (hr' H2 (e1.trans e2))) (rv_eq rfl)) (fun _ => ev_allN (bs := List.replicate xs.length true) ?_)) ?_) (fun H3 e3 => q H3 ((e1.trans e2).trans e3))
      · rw [← rmap_true]
        refine el_lcZ (xs := xs) (ys := ys) _ (ea_cons (ev_var rfl) (ea_cons (ev_var rfl) ea_nil)) (hs.imp (fun z => ⟨ex_l (e1.trans e2) z.1, ex_l (e1.trans e2) z.2⟩) (fun z => ⟨ex_t (e1.trans e2) z.1, ex_t (e1.trans e2) z.2⟩)) hl hz (fun _ _ => rfl) (fun i x y H4 e4 gx gy => ?_)
        exact ev_call (ea_cons (ev_var rfl) (ea_cons (ev_var rfl) ea_nil)) (fun H5 e5 => hrec i x y gx gy H5 (((e1.trans e2).trans e4).trans e5))
      · rw [all_rep, hl]
        simp
    · obtain ⟨m, b1, b2, t, k1, k2, k3, k4, k5, sc⟩ : ∃ (m : String) (b1 b2 : Bool), TyN K H x m ∧ kitB m "list" = some false ∧ kitB m "tuple" = some false ∧ kitB m "dict" = some false ∧ kitB m "bool" = some b1 ∧ kitB m "str" = some b2 ∧ scal x x = true := by
        cases x with
        | non => exact ⟨_, false, false, ty_non, by decide +kernel, by decide +kernel, by decide +kernel, by decide +kernel, by decide +kernel, rfl⟩
        | bl b => exact ⟨_, true, false, ty_bl, by decide +kernel, by decide +kernel, by decide +kernel, by decide +kernel, by decide +kernel, rfl⟩
        | int b => exact ⟨_, false, false, ty_int, by decide +kernel, by decide +kernel, by decide +kernel, by decide +kernel, by decide +kernel, rfl⟩
        | str b => exact ⟨_, false, true, ty_str, by decide +kernel, by decide +kernel, by decide +kernel, by decide +kernel, by decide +kernel, rfl⟩
        | byt _ => cases ha
        | flt _ => cases ha
        | ref _ => cases ha
        | ty _ => cases ha
      refine s_if (b := false) (et_B (ev_isI2 (i := 1) rfl t k1 k2)) (fun z => nomatch z) (fun _ H1 e1 => ?_)
      refine s_if (b := false) (et_B (ev_isI (i := 1) rfl (t.ex e1) k3)) (fun z => nomatch z) (fun _ H2 e2 => ?_)
      have en : ∀ {H' : Hp} {i : Nat}, ([some x, some x, none, none] : L2.St)[i]? = some (some x) → Ev (tOp (fun x y H Q => y = .non ∧ Q (.bl (decide (x = .non))) H) (tVar i) (tC .non)) [some x, some x, none, none] H' (.bl (decide (x = .non))) := fun hi => ev_op (ev_var hi) ev_c rv_isN
      by_cases hx : x = .non
      · refine s_if (b := true) (et_is (et_or (et_test (en (i := 1) rfl)) (fun _ => et_test (en (i := 0) rfl))) (by simp [hx])) (fun _ H3 e3 => ?_) (fun z => nomatch z)
        exact s_ret (v := .bl true) (ev_is (ev_andV (en (i := 1) rfl) (fun _ => en (i := 0) rfl)) (by simp [hx])) (fun H4 e4 => q H4 ((e1.trans e2).trans (e3.trans e4)))
      · refine s_if (b := false) (et_is (et_or (et_test (en (i := 1) rfl)) (fun _ => et_test (en (i := 0) rfl))) (by simp [hx])) (fun z => nomatch z) (fun _ H3 e3 => ?_)
        have E3 := (e1.trans e2).trans e3
        refine s_if (b := false) (et_is (et_or (et_test (ev_op (ev_isI (i := 0) rfl (t.ex E3) k4) (ev_isI (i := 1) rfl (t.ex E3) k4) (rv_ne rfl))) (fun _ => et_test (ev_op (ev_isI (i := 0) rfl (t.ex E3) k5) (ev_isI (i := 1) rfl (t.ex E3) k5) (rv_ne rfl)))) (by simp)) (fun z => nomatch z) (fun _ H4 e4 => ?_)
        exact s_ret (v := .bl true) (ev_is (ev_op (ev_var rfl) (ev_var rfl) (rv_eq sc)) (by simp)) (fun H5 e5 => q H5 (E3.trans (e4.trans e5)))
theorem ok_same (D : Def K mg "_law_same" sSame ["found", "due"]) (T : Blt mg) : ∀ n : Nat, Good P w K mg base (n + 1) "_law_same" ["found", "due"] (spSame n)
  | 0 => ok_same1 (sp := fun _ _ _ _ => False) D T (by
      obtain ⟨f, fd, F, m, b⟩ := D.ex
      exact ⟨f, fd, ⟨fun _ _ _ _ h => h.elim, fun _ _ _ _ _ _ _ _ _ _ _ _ _ h => h.elim⟩, m, F.kp, b⟩) (Or.inl rfl)
  | n + 1 => ok_same1 D T (ok_same D T n) (Or.inr rfl)
end
end Vx

set_option Elab.async false
set_option linter.all false
set_option maxRecDepth 100000
set_option maxHeartbeats 4000000
namespace Vx
open PySem PySem.Spec PyProof.Rows L2 Evl
section
variable {X : Cx} {x f : Str} {C : Addr} {p pos : Pos} {e : Expr} {t : TA}
theorem pmk_X (T : XCls X.prog X.w X.K X.mg X.base x C f) (hr : Room 2 X.A) (ha : PA X [e] t) (hg : Gl X x := by rfl)
    (hdb : (x == ("__debug__" : Str)) = false := by decide) (he : starEach (e :: []) X.env = (false, eval e X.env) :: starEach [] X.env := by rfl) (hpl : (backTo pos (starEach [] X.env)).any (·.1) = false := by rfl) :
    PMk X (.Call (.Name x p) [e] [] pos) (tMkO C (spInitX X.K f) [] t) := by
  obtain ⟨fI, fd, iC, tI, G, b, kb⟩ := T.ini
  exact pmk_oex T.oex iC tI G hr b .nil pass0 hg T.gC ha hdb he hpl
end
/-- _law_raised(k, v): the field of the error -/
def spRaised : Sp := fun vs H Q _ => ∃ (k : Int) (v : V), vs = [.int k, v] ∧ (k = 0 ∨ k = 1 ∨ k = 2) ∧ ∀ H', Ex H H' → Q v H'
abbrev sRaised : Stmt := top 20
def tRz (K : PySem.W.Frag) (c : Nat → Addr) (i : Nat) (f : Str) (W : WX) : TS := fun _ σ H => tMkO (c i) (spInitX K f) [] (tCons (tVar 1) tNil) σ H fun cls d H' => W cls d σ H'
def tTry (K : PySem.W.Frag) (c : Nat → Addr) (W : WX) : TS :=
  tSeq (tIfS (tTest (tOp rEq (tVar 0) (tC (.int 0)))) (tRz K c 9 "reason" W) tNext) (tSeq (tIfS (tTest (tOp rEq (tVar 0) (tC (.int 1)))) (tRz K c 10 "many" W) tNext) (tRz K c 11 "at" W))
def tExc (c : Nat → Addr) (a : Addr) (cls : Value) (d : Option Addr) : TS :=
  tSeq (tIfS (tTest (tOp rEq (tVar 0) (tC (.int 0)))) (tRet (tXf a cls d (c 9) "reason" (tVar 2))) tNext) (tRet (tIf (tTest (tOp rEq (tVar 0) (tC (.int 1)))) (tXf a cls d (c 10) "many" (tVar 2)) (tXf a cls d (c 11) "at" (tVar 2))))
section
variable {P : Program} {w : World} {K : PySem.W.Frag} {mg : Str → Option Value} {base : Heap} {c : Nat → Addr}
theorem scRaised : FnScope ["error_kind", "value", "e"] ["error_kind", "value"] (defScope sRaised) := ⟨rfl, rfl, rfl, by decide +kernel, rfl, by decide +kernel, by decide +kernel⟩
theorem ok_raised (D : Def K mg "_law_raised" sRaised ["error_kind", "value"]) (C : Cl K mg c) (C9 : XCls P w K mg base "Conflict" (c 9) "reason") (C10 : XCls P w K mg base "TooMany" (c 10) "many") (C11 : XCls P w K mg base "NoText" (c 11) "at")
    (ex : ∀ i, 9 ≤ i → i < 12 → PySem.W.exmOne K (.ref (c i)) (.ref (c 12)) = some true) : Good P w K mg base 3 "_law_raised" ["error_kind", "value"] spRaised := by
  refine D.good scRaised (fun vs H Q E h => ?_) (fun f cdv A outer s H vs Q E hr h => ?_)
  · obtain ⟨k, v, rfl, _⟩ := h
    rfl
  · obtain ⟨k, v, rfl, hk, q⟩ := h
    refine ⟨_, pss_one (ps_try_as (i := 2) (tb := tTry K c) (ts := tExc c) (Wout := fun _ _ _ _ => False) rfl rfl scRaised.nd rfl rfl ⟨rfl, by decide, Or.inl C.g12⟩ takes0
      (fun W pn xe tk _ => pss_cons (ps_if (pt_cmpR op_eq (pv 0) pe_int (nomark _)) (pss_one (ps_raise rfl tk (pmk_X C9 hr (by exact (pa_cons (pv 1) pa_nil))))) pss_nil)
        (pss_cons (ps_if (pt_cmpR op_eq (pv 0) pe_int (nomark _)) (pss_one (ps_raise rfl tk (pmk_X C10 hr (by exact (pa_cons (pv 1) pa_nil))))) pss_nil)
        (pss_one (ps_raise rfl tk (pmk_X C11 hr (by exact (pa_cons (pv 1) pa_nil)))))))
      (fun a oe cls d pn hz hf => pss_cons (ps_if (pt_cmpR op_eq (pv 0) pe_int (nomark _)) (pss_one (ps_ret (pe_xf C9.xf C9.no hz hf (pv 2)))) pss_nil)
        (pss_one (ps_ret (pe_ifExp (pt_cmpR op_eq (pv 0) pe_int (nomark _)) (pe_xf C10.xf C10.no hz hf (pv 2)) (pe_xf C11.xf C11.no hz hf (pv 2))))))), ?_⟩
    have eqt : ∀ {D : Ends} {t u : TS} {σ : L2.St} {H1 : Hp} {m : Int} {b : Bool}, σ[0]? = some (some (.int k)) → decide (V.int k = V.int m) = b → (b = true → ∀ H2, Ex H1 H2 → t D σ H2) → (b = false → ∀ H2, Ex H1 H2 → u D σ H2) → tIfS (tTest (tOp rEq (tVar 0) (tC (.int m)))) t u D σ H1 :=
      fun {D t u σ H1 m b} h0 hb h1 h2 => s_if (et_is (et_test (ev_op (ev_var h0) ev_c (rv_eq rfl))) hb) h1 h2
    have go : ∀ (i : Nat) (f : Str) (H1 : Hp) (D : Ends), 9 ≤ i → i < 12 → OexC K (c i) → PySem.W.findIn K (.ref (c i)) f = some none → Ex H H1 →
        (∀ (a d : Addr) (H2 : Hp) (D' : Ends), Ex H H2 → H2 d = some (.xd [(f, v)]) → D'.rt = D.rt → tExc c a (.ref (c i)) (some d) D' [some (.int k), some v, some (.ref a)] H2) →
        tRz K c i f (wAs K (.ref (c 12)) 2 (tExc c) (fun _ _ _ _ => False) D) D [some (.int k), some v, none] H1 := fun i f H1 D i1 i2 oe no e hs => by
      refine ⟨v, rfl, (by show 1 ≤ 1000; decide), fun a ha => ⟨a, c i, v, rfl, oe, no, upd_same, fun dx hd ne => ⟨rfl, dx, [(f, v)], upd_same, ?_, ?_, true, ex i i1 i2, fun _ a2 ha2 => ?_, fun z => nomatch z⟩⟩⟩
      · rw [upd_ne ne, upd_same]
      · rwa [upd_ne ne] at hd
      · rw [upd_ne ne] at hd
        refine hs a2 dx _ _ (fun b o hb => ?_) upd_same rfl
        have n1 : b ≠ dx := ne_of_none (e _ _ hb) hd
        have n2 : b ≠ a := ne_of_none (e _ _ hb) ha
        rw [upd_ne n1, del_ne n2, upd_ne n2, upd_ne n1, upd_ne n2]
        exact e _ _ hb
    have lk : ∀ f : Str, List.lookup f [(f, v)] = some v := fun f => by simp [List.lookup]
    rcases hk with rfl | rfl | rfl
    · refine eqt (b := true) rfl (by decide) (fun _ H1 e1 => ?_) (fun z => nomatch z)
      refine go 9 "reason" H1 _ (by decide) (by decide) C9.oex C9.no e1 (fun a d H2 D' e2 hd hD => ?_)
      refine eqt (b := true) rfl (by decide) (fun _ H3 e3 => ?_) (fun z => nomatch z)
      refine ⟨_, rfl, rfl, rfl, d, [("reason", v)], v, rfl, e3 _ _ hd, lk _, ?_⟩
      rw [hD]
      exact q H3 (e2.trans e3)
    · refine eqt (b := false) rfl (by decide) (fun z => nomatch z) (fun _ H1 e1 => ?_)
      refine eqt (b := true) rfl (by decide) (fun _ H2 e2 => ?_) (fun z => nomatch z)
      refine go 10 "many" H2 _ (by decide) (by decide) C10.oex C10.no (e1.trans e2) (fun a d H3 D' e3 hd hD => ?_)
      refine eqt (b := false) rfl (by decide) (fun z => nomatch z) (fun _ H4 e4 => ?_)
      refine s_ret (v := v) (ev_if (b := true) (et_is (et_test (ev_op (ev_var rfl) ev_c (rv_eq rfl))) (by decide)) (fun _ H5 e5 Q2 q2 => ⟨_, rfl, rfl, rfl, d, [("many", v)], v, rfl, e5 _ _ (e4 _ _ hd), lk _, q2 H5 (Ex.refl H5)⟩) (fun z => nomatch z)) (fun H5 e5 => ?_)
      show D'.rt v H5
      rw [hD]
      exact q H5 (e3.trans (e4.trans e5))
    · refine eqt (b := false) rfl (by decide) (fun z => nomatch z) (fun _ H1 e1 => ?_)
      refine eqt (b := false) rfl (by decide) (fun z => nomatch z) (fun _ H2 e2 => ?_)
      refine go 11 "at" H2 _ (by decide) (by decide) C11.oex C11.no (e1.trans e2) (fun a d H3 D' e3 hd hD => ?_)
      refine eqt (b := false) rfl (by decide) (fun z => nomatch z) (fun _ H4 e4 => ?_)
      refine s_ret (v := v) (ev_if (b := false) (et_is (et_test (ev_op (ev_var rfl) ev_c (rv_eq rfl))) (by decide)) (fun z => nomatch z) (fun _ H5 e5 Q2 q2 => ⟨_, rfl, rfl, rfl, d, [("at", v)], v, rfl, e5 _ _ (e4 _ _ hd), lk _, q2 H5 (Ex.refl H5)⟩)) (fun H5 e5 => ?_)
      show D'.rt v H5
      rw [hD]
      exact q H5 (e3.trans (e4.trans e5))
end
end Vx

set_option Elab.async false
set_option linter.all false
set_option maxRecDepth 100000
set_option maxHeartbeats 4000000
namespace Vx
open PySem PySem.Spec PyProof.Rows L2 Evl
abbrev sRight : Stmt := top 21
def spRight : Sp := fun vs H Q _ => ∃ (r : V) (m : Int), vs = [r, .int m] ∧ EqS H 4 r r ∧ ∀ H', Ex H H' → Q (.bl true) H'
theorem el_cat2 {ta tb : TE} {σ : L2.St} {H : Hp} {xs ys : List V} (ha : EvL ta σ H xs) (hb : EvL tb σ H ys) (hz : xs.length + ys.length ≤ 100000) : EvL (tOp rCat ta tb) σ H (xs ++ ys) := fun H1 e Q q =>
  ha H1 e _ fun l H2 hl e2 h2 => hb H2 (e.trans e2) _ fun r H3 hr e3 h3 => ⟨l, r, xs, ys, rfl, rfl, e3 _ _ h2, h3, sz_of hz, fun p hp => q p _ (fresh_back (e2.trans e3) hp) ((e2.trans e3).trans (Ex.new hp)) upd_same⟩
theorem two {ys : List V} {r : V} (h : ys.length = 2) (hv : ∀ (i : Nat) v, ys[i]? = some v → v = r) : ys = [r, r] := by
  match ys, h with
  | [a, b], _ => rw [hv 0 a rfl, hv 1 b rfl]
theorem eqs_pair {H : Hp} {p q : Addr} {v : V} {n : Nat} (h1 : H p = some (.lst [v, v])) (h2 : H q = some (.lst [v, v])) (h : EqS H n v v) : EqS H (n + 1) (.ref p) (.ref q) :=
  Or.inr ⟨p, q, _, _, rfl, rfl, Or.inl ⟨Or.inl h1, Or.inl h2⟩, rfl, (by show 2 < 40000; decide), fun i x y hx hy => by
    rcases i with _ | _ | i
    · cases (Option.some.inj hx)
      cases (Option.some.inj hy)
      exact h
    · cases (Option.some.inj hx)
      cases (Option.some.inj hy)
      exact h
    · simp at hx⟩
/-! exceptions that are held, as values -/
def FldAt (H : Hp) (a D : Addr) (f : Str) (v : V) : Prop := ∃ d, H a = some (exo a D (some d)) ∧ H d = some (exd d [(f, v)])
theorem FldAt.exc {H : Hp} {a D : Addr} {f : Str} {v : V} (h : FldAt H a D f v) : ExcAt H a D := by
  obtain ⟨d, h1, h2⟩ := h
  exact Or.inr ⟨d, _, h1, h2⟩
theorem FldAt.ex {H H' : Hp} {a D : Addr} {f : Str} {v : V} (h : FldAt H a D f v) (e : Ex H H') : FldAt H' a D f v := by
  obtain ⟨d, h1, h2⟩ := h
  exact ⟨d, e _ _ h1, e _ _ h2⟩
def isE (D : Addr) : V → Hp → Prop := fun v H => ∃ a, v = .ref a ∧ ExcAt H a D
def isF (D : Addr) (f : Str) (x : V) : V → Hp → Prop := fun v H => ∃ a, v = .ref a ∧ FldAt H a D f x
theorem evp_exc1 {σ : L2.St} {H : Hp} {D : Addr} {z : Str} : EvP (fun σ H Q => tC (.str z) σ H fun _ H1 => ∀ a, H1 a = none → Q (.ref a) (upd H1 a (ExO (.ref D) a))) σ H (isE D) := fun H1 e Q q a ha =>
  q (.ref a) _ (Ex.new ha) fun H' _ b => ⟨a, rfl, Or.inl (b a _ ha upd_same)⟩
theorem evp_mkX {σ : L2.St} {H : Hp} {D : Addr} {f : Str} {i : Nat} {x : V} (hi : σ[i]? = some (some x)) : EvP (tMkX D f (tCons (tVar i) tNil)) σ H (isF D f x) := fun H1 e Q q =>
  ⟨x, hi, x, rfl, fun a d ha hd ne => q (.ref a) _ (fun b o hb => by rw [upd_ne (ne_of_none hb ha), upd_ne (ne_of_none hb hd), upd_ne (ne_of_none hb ha)]; exact hb)
    fun H' _ b => ⟨a, rfl, d, b a _ ha upd_same, b d _ hd (by rw [upd_ne ne, upd_same])⟩⟩
theorem ev_fld {K : PySem.W.Frag} {σ : L2.St} {H : Hp} {a D : Addr} {f : Str} {i : Nat} {x : V} (hi : σ[i]? = some (some (.ref a))) (T : XfC K D) (no : PySem.W.findIn K (.ref D) f = some none) (h : FldAt H a D f x) : Ev (tXfO K f (tVar i)) σ H x := fun H1 e Q q => by
  obtain ⟨d, h1, h2⟩ := h
  exact ⟨_, hi, a, D, d, _, x, rfl, T, no, e _ _ h1, e _ _ h2, by simp [List.lookup], q H1 (Ex.refl H1)⟩
def marksD (i : Nat) : PyData := .list [.bool (decide (i = 0)), .bool (decide (i = 1)), .bool (decide (i = 2)), .bool (decide (i = 3)), .bool (decide (i = 4)), .bool (decide (i = 5)), .bool (decide (i = 6)), .bool (decide (i = 7)), .bool (decide (i = 8)), .bool (decide (i = 9)), .bool (decide (i = 10)), .bool (decide (i = 11)), .bool true, .bool true]
def dueD : PyData := .list [marksD 0, marksD 1, marksD 2, marksD 3, marksD 4, marksD 5, marksD 6, marksD 7, marksD 8, marksD 9, marksD 10, marksD 11]
theorem marks_dp {K : PySem.W.Frag} {H : Hp} {i : Nat} {p : Addr} (h : H p = some (.lst (marks i))) : Dp K H (.ref p) (marksD i) :=
  .lst (SqL.of h) (.cons (.bl _) (.cons (.bl _) (.cons (.bl _) (.cons (.bl _) (.cons (.bl _) (.cons (.bl _) (.cons (.bl _) (.cons (.bl _) (.cons (.bl _) (.cons (.bl _) (.cons (.bl _) (.cons (.bl _) (.cons (.bl _) (.cons (.bl _) .nil))))))))))))))
theorem due_dp {K : PySem.W.Frag} {H : Hp} {p : Addr} {vs : List V} (h : H p = some (.lst vs)) (hl : vs.length = 12) (hv : ∀ (i : Nat) v, vs[i]? = some v → ∃ r, v = .ref r ∧ H r = some (.lst (marks i))) : Dp K H (.ref p) dueD := by
  refine .lst (SqL.of h) (dpAll_of (by rw [hl]; rfl) fun i v d hi hd => ?_)
  obtain ⟨r, rfl, hr⟩ := hv i v hi
  have : d = marksD i := by
    have hi' := (List.getElem?_eq_some_iff.mp hd).1
    have h12 : i < 12 := hi'
    rcases i with _ | _ | _ | _ | _ | _ | _ | _ | _ | _ | _ | _ | i <;> first | (cases hd; rfl) | (exfalso; omega)
  rw [this]
  exact marks_dp hr
section
variable {P : Program} {w : World} {K : PySem.W.Frag} {mg : Str → Option Value} {base : Heap} {c : Nat → Addr}
theorem scRight : FnScope ["reason_given", "number", "plain", "reason_made", "many_made", "placed", "k", "due", "fields", "raised", "error", "j"] ["reason_given", "number"] (defScope sRight) := ⟨rfl, rfl, rfl, by decide +kernel, rfl, by decide +kernel, by decide +kernel⟩
theorem ok_right (D : Def K mg "_law_right" sRight ["reason_given", "number"]) (T : Blt mg) (C : Cl K mg c) (C9 : XCls P w K mg base "Conflict" (c 9) "reason") (C10 : XCls P w K mg base "TooMany" (c 10) "many") (C11 : XCls P w K mg base "NoText" (c 11) "at")
    (GM : Good P w K mg base 1 "_law_marks" ["error"] (spMarks K c)) (GR : Good P w K mg base 3 "_law_raised" ["error_kind", "value"] spRaised) (GS : Good P w K mg base 7 "_law_same" ["found", "due"] (spSame 6)) : Good P w K mg base 8 "_law_right" ["reason_given", "number"] spRight := by
  refine D.good scRight (fun vs H Q E h => ?_) (fun f cdv A outer s H vs Q E hr h => ?_)
  · obtain ⟨r, m, rfl, _⟩ := h
    rfl
  · obtain ⟨r, m, rfl, hR, q⟩ := h
    have hr1 : Room 1 _ := hr.mono (by decide)
    have hr2 : Room 2 _ := hr.mono (by decide)
    have hr3 : Room 3 _ := hr.mono (by decide)
    have hr6 : Room 7 _ := hr
    refine ⟨_, pss_cons (ps_set (i := 2) scRight.nd rfl (Or.inl rfl) (pe_lst (pa_cons (pe_exc1 PySem.F.excBase_ValueError (C.xin 0 (by decide)) C.g0 (C.kp 0 (by decide)) (by rfl) pe_str) (pa_cons (pe_exc1 PySem.F.excBase_ValueError (C.xin 1 (by decide)) C.g1 (C.kp 1 (by decide)) (by rfl) pe_str) (pa_cons (pe_exc1 PySem.F.excBase_ValueError (C.xin 2 (by decide)) C.g2 (C.kp 2 (by decide)) (by rfl) pe_str) (pa_cons (pe_exc1 PySem.F.excBase_ValueError (C.xin 3 (by decide)) C.g3 (C.kp 3 (by decide)) (by rfl) pe_str) (pa_cons (pe_exc1 PySem.F.excBase_ValueError (C.xin 4 (by decide)) C.g4 (C.kp 4 (by decide)) (by rfl) pe_str) (pa_cons (pe_exc1 PySem.F.excBase_ValueError (C.xin 5 (by decide)) C.g5 (C.kp 5 (by decide)) (by rfl) pe_str) (pa_cons (pe_exc1 PySem.F.excBase_ValueError (C.xin 6 (by decide)) C.g6 (C.kp 6 (by decide)) (by rfl) pe_str) pa_nil)))))))))
      (pss_cons (ps_set (i := 2) scRight.nd rfl (Or.inl rfl) (pe_op op_cat (pv 2) (pe_lst (pa_cons (pe_exc1 PySem.F.excBase_ValueError (C.xin 7 (by decide)) C.g7 (C.kp 7 (by decide)) (by rfl) pe_str) (pa_cons (pe_exc1 PySem.F.excBase_ValueError (C.xin 8 (by decide)) C.g8 (C.kp 8 (by decide)) (by rfl) pe_str) pa_nil)))))
      (pss_cons (ps_set (i := 3) scRight.nd rfl (Or.inl rfl) (pe_lst (pa_cons (pe_mkX C9 hr2 (by exact (pa_cons (pv 0) pa_nil))) (pa_cons (pe_mkXK C9 hr2 (by exact (pk_cons (pv 0) pk_nil))) pa_nil))))
      (pss_cons (ps_par (i := 4) (j := 5) rfl scRight.nd rfl rfl (by decide) rfl rfl (pa_cons (pe_lst (pa_cons (pe_mkX C10 hr2 (by exact (pa_cons (pv 1) pa_nil))) (pa_cons (pe_mkXK C10 hr2 (by exact (pk_cons (pv 1) pk_nil))) pa_nil))) (pa_cons (pe_lst (pa_cons (pe_mkX C11 hr2 (by exact (pa_cons (pv 1) pa_nil))) (pa_cons (pe_mkXK C11 hr2 (by exact (pk_cons (pv 1) pk_nil))) pa_nil))) pa_nil)) (by rfl))
      (pss_cons (ps_setLc (i := 7) (own := [("k", 6)]) (g := gName 6) (tt := tYes) rfl scRight.nd rfl rfl (sw_true rfl rfl rfl (by decide +kernel)) (pi_range1 rfl T.range (pa_cons pe_int pa_nil)) (blkOk_by (N := ["reason_given", "number", "plain", "reason_made", "many_made", "placed", "k", "due", "fields", "raised", "error", "j"]) (sc := defScope sRight) (by decide +kernel)) (fun _ _ _ _ _ => pg_name (i := 6) scRight.nd rfl (Or.inr rfl)) (fun _ _ _ _ _ => pts_nil) (fun _ _ _ _ _ => (pe_op op_cat (pe_lc (own := [("j", 11)]) (g := gName 11) (tt := tYes) rfl scRight.nd (pi_range1 rfl T.range (pa_cons pe_int pa_nil)) (blkOk_by (N := ["reason_given", "number", "plain", "reason_made", "many_made", "placed", "k", "due", "fields", "raised", "error", "j"]) (sc := { kind := .function, names := [(".0", .local), ("k", .cell), ("range", .globalImplicit)], isGenerator := false, isCoroutine := false }) (by decide +kernel)) (fun _ _ _ _ _ => pg_name (i := 11) scRight.nd rfl (Or.inl rfl)) (fun _ _ _ _ _ => pts_nil) (fun _ _ _ _ _ => (pe_cmpR op_eq (pv 6) (pv 11) (nomark _)))) (pe_lst (pa_cons pe_bl (pa_cons pe_bl pa_nil))))))
      (pss_cons (ps_for PassesOwn.never rfl (pi_range1 rfl T.range (pa_cons pe_int pa_nil)) (pg_name (i := 6) scRight.nd rfl (Or.inl rfl)) (pss_one (ps_if (pt_cmpR (op_neD hr.units) (pe_lc (own := [("error", 10)]) (g := gName 10) (tt := tYes) rfl scRight.nd (pi_list (pe_op op_cat (pv 2) (pe_lst (pa_cons (pe_ix ix_list (pv 3) (pv 6) (fun _ _ => rfl)) (pa_cons (pe_ix ix_list (pv 4) (pv 6) (fun _ _ => rfl)) (pa_cons (pe_ix ix_list (pv 5) (pv 6) (fun _ _ => rfl)) pa_nil)))))) (blkOk_by (N := ["reason_given", "number", "plain", "reason_made", "many_made", "placed", "k", "due", "fields", "raised", "error", "j"]) (sc := defScope sRight) (by decide +kernel)) (fun _ _ _ _ _ => pg_name (i := 10) scRight.nd rfl (Or.inl rfl)) (fun _ _ _ _ _ => pts_nil) (fun _ _ _ _ _ => (pe_fn GM hr1 (pa_cons (pv 10) pa_nil)))) (pv 7) (nomark _)) pss_never pss_nil)))
      (pss_cons (ps_set (i := 8) scRight.nd rfl (Or.inl rfl) (pe_lst (pa_cons (pe_lc (te := tXfO K "reason" (tVar 10)) (own := [("error", 10)]) (g := gName 10) (tt := tYes) rfl scRight.nd (pi_list (pv 3)) (blkOk_by (N := ["reason_given", "number", "plain", "reason_made", "many_made", "placed", "k", "due", "fields", "raised", "error", "j"]) (sc := defScope sRight) (by decide +kernel)) (fun _ _ _ _ _ => pg_name (i := 10) scRight.nd rfl (Or.inl rfl)) (fun _ _ _ _ _ => pts_nil) (fun _ _ _ _ _ => pe_xfO (pv 10))) (pa_cons (pe_lc (te := tXfO K "many" (tVar 10)) (own := [("error", 10)]) (g := gName 10) (tt := tYes) rfl scRight.nd (pi_list (pv 4)) (blkOk_by (N := ["reason_given", "number", "plain", "reason_made", "many_made", "placed", "k", "due", "fields", "raised", "error", "j"]) (sc := defScope sRight) (by decide +kernel)) (fun _ _ _ _ _ => pg_name (i := 10) scRight.nd rfl (Or.inl rfl)) (fun _ _ _ _ _ => pts_nil) (fun _ _ _ _ _ => pe_xfO (pv 10))) pa_nil))))
      (pss_cons (ps_expr (pe_bm PySem.F.plainAttrs_list PySem.F.slot_list_append PySem.F.type_list_append mt_append (pv 8) (pa_cons (pe_lc (te := tXfO K "at" (tVar 10)) (own := [("error", 10)]) (g := gName 10) (tt := tYes) rfl scRight.nd (pi_list (pv 5)) (blkOk_by (N := ["reason_given", "number", "plain", "reason_made", "many_made", "placed", "k", "due", "fields", "raised", "error", "j"]) (sc := defScope sRight) (by decide +kernel)) (fun _ _ _ _ _ => pg_name (i := 10) scRight.nd rfl (Or.inl rfl)) (fun _ _ _ _ _ => pts_nil) (fun _ _ _ _ _ => pe_xfO (pv 10))) pa_nil)))
      (pss_cons (ps_if (pt_not (pt_val (pe_fn GS hr6 (pa_cons (pv 8) (pa_cons (pe_lst (pa_cons (pe_op op_rep (pe_lst (pa_cons (pv 0) pa_nil)) pe_int) (pa_cons (pe_op op_rep (pe_lst (pa_cons (pv 1) pa_nil)) pe_int) (pa_cons (pe_op op_rep (pe_lst (pa_cons (pv 1) pa_nil)) pe_int) pa_nil)))) pa_nil))))) pss_never pss_nil)
      (pss_cons (ps_set (i := 9) scRight.nd rfl (Or.inl rfl) (pe_lst (pa_cons (pe_fn GR hr3 (pa_cons pe_int (pa_cons (pv 0) pa_nil))) (pa_cons (pe_fn GR hr3 (pa_cons pe_int (pa_cons (pv 1) pa_nil))) (pa_cons (pe_fn GR hr3 (pa_cons pe_int (pa_cons (pv 1) pa_nil))) pa_nil)))))
      (pss_one (ps_ret (pe_fn GS hr6 (pa_cons (pv 9) (pa_cons (pe_lst (pa_cons (pv 0) (pa_cons (pv 1) (pa_cons (pv 1) pa_nil)))) pa_nil)))))))))))))), ?_⟩
    refine s_asgLP (elp_lst (eap_cons evp_exc1 (eap_cons evp_exc1 (eap_cons evp_exc1 (eap_cons evp_exc1 (eap_cons evp_exc1 (eap_cons evp_exc1 (eap_cons evp_exc1 eap_nil))))))) (by show 7 ≤ 100000; decide)) (fun p1 l1 H1 n1 e1 w1 k1 => ?_)
    obtain _ | ⟨⟨a0, rfl, h0⟩, _ | ⟨⟨a1, rfl, h1⟩, _ | ⟨⟨a2, rfl, h2⟩, _ | ⟨⟨a3, rfl, h3⟩, _ | ⟨⟨a4, rfl, h4⟩, _ | ⟨⟨a5, rfl, h5⟩, _ | ⟨⟨a6, rfl, h6⟩, ⟨⟩⟩⟩⟩⟩⟩⟩⟩ := k1.kn.now (Ex.refl H) e1
    refine s_asgLP (elp_cat (ev_var rfl) w1 (elp_lst (eap_cons evp_exc1 (eap_cons evp_exc1 eap_nil)) (by show 2 ≤ 100000; decide)) (fun ys H' z => by rw [Paired.length z]; show 9 ≤ 100000; decide)) (fun p2 l2 H2 n2 e2 w2 k2 => ?_)
    obtain ⟨_, rfl, _ | ⟨⟨a7, rfl, h7⟩, _ | ⟨⟨a8, rfl, h8⟩, ⟨⟩⟩⟩⟩ := k2.kn.now (Ex.refl H1) e2
    have w2 : H2 p2 = some (.lst [.ref a0, .ref a1, .ref a2, .ref a3, .ref a4, .ref a5, .ref a6, .ref a7, .ref a8]) := w2
    refine s_asgLP (elp_lst (eap_cons (evp_mkX rfl) (eap_cons (evp_mkX rfl) eap_nil)) (by show 2 ≤ 100000; decide)) (fun p3 l3 H3 n3 e3 w3 k3 => ?_)
    obtain _ | ⟨⟨r0, rfl, g0⟩, _ | ⟨⟨r1, rfl, g1⟩, ⟨⟩⟩⟩ := k3.kn.now (Ex.refl H2) e3
    refine s_parP (eap_cons (evp_LP (elp_lst (eap_cons (evp_mkX rfl) (eap_cons (evp_mkX rfl) eap_nil)) (by show 2 ≤ 100000; decide))) (eap_cons (evp_LP (elp_lst (eap_cons (evp_mkX rfl) (eap_cons (evp_mkX rfl) eap_nil)) (by show 2 ≤ 100000; decide))) eap_nil)) (fun v4 v5 H4 e4 k4 => ?_)
    obtain ⟨⟨p4, l4, rfl, w4, _ | ⟨⟨m0, rfl, g2⟩, _ | ⟨⟨m1, rfl, g3⟩, ⟨⟩⟩⟩⟩, ⟨p5, l5, rfl, w5, _ | ⟨⟨t0, rfl, g4⟩, _ | ⟨⟨t1, rfl, g5⟩, ⟨⟩⟩⟩⟩⟩ := k4.now (Ex.refl H3) e4
    -- due
    have inn : ∀ (i : Nat) {σ' : L2.St}, σ'[6]? = some (some (.int (i : Int))) → (∀ x, wipe ((wipe σ' [11]).set 11 (some x)) [11] = wipe σ' [11]) → (∀ x, ((wipe σ' [11]).set 11 (some x))[6]? = some (some (.int (i : Int)))) → (∀ x, ((wipe σ' [11]).set 11 (some x))[11]? = some (some x)) → ∀ H',
        EvL (tLc (iRng1 (tCons (tC (.int 12)) tNil)) (gName 11) tYes (tOp rEq (tVar 6) (tVar 11)) [11]) σ' H' (rmap 12 fun j => .bl (decide (i = j))) := fun i σ' _ hw h6 h11 H' =>
      el_lcRv (n := 12) _ (ea_cons ev_c ea_nil) (by decide) hw fun j hj => Evl.ev_is (ev_op (ev_var (h6 _)) (ev_var (h11 _)) (rv_eq rfl)) (congrArg V.bl (decide_eq_decide.mpr ⟨fun h => by injection h with h; omega, fun h => by rw [h]⟩))
    refine s_asgLP (elp_lcR (n := 12) (fun i v H' => ∃ p, v = .ref p ∧ H' p = some (.lst (marks i))) (ea_cons ev_c ea_nil) (by decide) (fun _ => rfl) (fun i hi => evp_L (xs := marks i) ?_)) (fun p7 l7 H7 n7 e7 w7 k7 => ?_)
    · exact el_cat2 (xs := rmap 12 fun j => .bl (decide (i = j))) (ys := [.bl true, .bl true]) (inn i rfl (fun _ => rfl) (fun _ => rfl) (fun _ => rfl) H4) (el_lst (ea_cons ev_c (ea_cons ev_c ea_nil)) (by show 2 ≤ 100000; decide)) (by rw [rmap_len]; show 14 ≤ 100000; decide)
    obtain ⟨hl7, hv7⟩ := k7.kn.now (Ex.refl H4) e7
    have E24 := (e3.trans e4).trans e7
    -- the loop
    refine s_forR1 (n := 2) (ea_cons ev_c ea_nil) (by decide) (fun _ σ' H' => ∃ v6, σ' = [some r, some (.int m), some (.ref p2), some (.ref p3), some (.ref p4), some (.ref p5), v6, some (.ref p7), none, none, none, none] ∧ Ex H7 H') (fun H' e => ⟨none, rfl, e⟩) (fun i σ' H8 hi => ?_) (fun σ' H8 => ?_)
    · rintro ⟨v6, rfl, e8⟩
      have E48 := e7.trans e8
      obtain ⟨x, y, z, ix, iy, iz, hx, hy, hz⟩ : ∃ x y z : Addr, atI [V.ref r0, V.ref r1] (i : Int) = some (.ref x) ∧ atI [V.ref m0, V.ref m1] (i : Int) = some (.ref y) ∧ atI [V.ref t0, V.ref t1] (i : Int) = some (.ref z) ∧ ExcAt H8 x (c 9) ∧ ExcAt H8 y (c 10) ∧ ExcAt H8 z (c 11) := by
        rcases (show i = 0 ∨ i = 1 by omega) with rfl | rfl
        · exact ⟨r0, m0, t0, rfl, rfl, rfl, g0.exc.ex (e4.trans E48), g2.exc.ex E48, g4.exc.ex E48⟩
        · exact ⟨r1, m1, t1, rfl, rfl, rfl, g1.exc.ex (e4.trans E48), g3.exc.ex E48, g5.exc.ex E48⟩
      have E18 := (e2.trans E24).trans e8
      have E28 := E24.trans e8
      have all12 : ∀ (i : Nat) (u : V), ([.ref a0, .ref a1, .ref a2, .ref a3, .ref a4, .ref a5, .ref a6, .ref a7, .ref a8, .ref x, .ref y, .ref z] : List V)[i]? = some u → ∃ a, u = .ref a ∧ i < 12 ∧ ExcAt H8 a (c i) := fun i u hu => by
        rcases i with _ | _ | _ | _ | _ | _ | _ | _ | _ | _ | _ | _ | i
        · exact ⟨a0, (Option.some.inj hu).symm, by decide, h0.ex E18⟩
        · exact ⟨a1, (Option.some.inj hu).symm, by decide, h1.ex E18⟩
        · exact ⟨a2, (Option.some.inj hu).symm, by decide, h2.ex E18⟩
        · exact ⟨a3, (Option.some.inj hu).symm, by decide, h3.ex E18⟩
        · exact ⟨a4, (Option.some.inj hu).symm, by decide, h4.ex E18⟩
        · exact ⟨a5, (Option.some.inj hu).symm, by decide, h5.ex E18⟩
        · exact ⟨a6, (Option.some.inj hu).symm, by decide, h6.ex E18⟩
        · exact ⟨a7, (Option.some.inj hu).symm, by decide, h7.ex E28⟩
        · exact ⟨a8, (Option.some.inj hu).symm, by decide, h8.ex E28⟩
        · exact ⟨x, (Option.some.inj hu).symm, by decide, hx⟩
        · exact ⟨y, (Option.some.inj hu).symm, by decide, hy⟩
        · exact ⟨z, (Option.some.inj hu).symm, by decide, hz⟩
        · simp at hu
      refine s_if (b := false) (et_test (ev_neD (r := p7) dueD (elp_lcN (P := fun xs _ => xs = [.ref a0, .ref a1, .ref a2, .ref a3, .ref a4, .ref a5, .ref a6, .ref a7, .ref a8, .ref x, .ref y, .ref z]) (fun _ i v H' => ∃ p, v = .ref p ∧ H' p = some (.lst (marks i)))
          (elp_of (el_cat (ev_var rfl) (E28 _ _ w2) (el_lst (ea_cons (ev_op (ev_var rfl) (ev_var rfl) (rv_ixL (sq_of ((e4.trans E48) _ _ w3)) ix)) (ea_cons (ev_op (ev_var rfl) (ev_var rfl) (rv_ixL (sq_of (E48 _ _ w4)) iy)) (ea_cons (ev_op (ev_var rfl) (ev_var rfl) (rv_ixL (sq_of (E48 _ _ w5)) iz)) ea_nil))) (by show 3 ≤ 100000; decide)) (by show 12 ≤ 100000; decide)) (fun _ _ => rfl))
          (fun xs _ h => by rw [h]; show 12 < 50000; decide) (fun _ => rfl) (fun xs B eB hxs j u hu H9 e9 Q2 q2 => ?_)) (fun _ _ => ev_var rfl) (fun p vs H9 e9 hp hP => ?_) (by decide +kernel) (by decide +kernel))) (fun z => nomatch z) (fun _ H9 e9 => ⟨_, rfl, e8.trans e9⟩)
      · rw [hxs] at hu
        obtain ⟨a, rfl, hj, ha⟩ := all12 j u hu
        exact ⟨_, rfl, a, j, rfl, hj, ha.ex (eB.trans e9), fun p Hn hp en wn => q2 (.ref p) Hn en fun H' _ b => ⟨p, rfl, b p _ hp wn⟩⟩
      · obtain ⟨xs, rfl, hl, hv⟩ := hP
        exact ⟨due_dp hp hl hv, due_dp (e9 _ _ (e8 _ _ w7)) hl7 fun i v h => by
          obtain ⟨p, h1, h2⟩ := hv7 i v h
          exact ⟨p, h1, e9 _ _ (e8 _ _ h2)⟩⟩
    · rintro ⟨v6, rfl, e8⟩
      have E48 := e7.trans e8
      have E38 := e4.trans E48
      have E18 := (e2.trans E24).trans e8
      have HR8 : EqS H8 4 r r := EqS.ex (e1.trans E18) hR
      have HM : ∀ H' n, EqS H' n (.int m) (.int m) := fun H' n => by
        cases n with
        | zero => exact ⟨rfl, rfl⟩
        | succ n => exact Or.inl ⟨rfl, rfl⟩
      have C3 := sq_of (K := K) (E38 _ _ w3)
      have C4 := sq_of (K := K) (E48 _ _ w4)
      have C5 := sq_of (K := K) (E48 _ _ w5)
      refine s_asgLP (elp_lst (eap_cons (evp_LP (elp_lcL (xs := [.ref r0, .ref r1]) (fun _ v _ => v = r) (ev_var rfl) C3 (by show 2 < 50000; decide) (fun _ => rfl) (fun i x hx => evp_of (?_) fun _ _ => rfl)))
        (eap_cons (evp_LP (elp_lcL (xs := [.ref m0, .ref m1]) (fun _ v _ => v = .int m) (ev_var rfl) C4 (by show 2 < 50000; decide) (fun _ => rfl) (fun i x hx => evp_of (?_) fun _ _ => rfl))) eap_nil)) (by show 2 ≤ 100000; decide)) (fun p8 l8 H9 n9 e9 w9 k9 => ?_)
      · rcases i with _ | _ | i
        · cases (Option.some.inj hx)
          exact ev_fld rfl C9.xf C9.no (g0.ex E38)
        · cases (Option.some.inj hx)
          exact ev_fld rfl C9.xf C9.no (g1.ex E38)
        · simp at hx
      · rcases i with _ | _ | i
        · cases (Option.some.inj hx)
          exact ev_fld rfl C10.xf C10.no (g2.ex E48)
        · cases (Option.some.inj hx)
          exact ev_fld rfl C10.xf C10.no (g3.ex E48)
        · simp at hx
      refine s_appP (H0 := H8) e9 n9 w9 (ev_var rfl) (evp_LP (elp_lcL (xs := [.ref t0, .ref t1]) (fun _ v _ => v = .int m) (ev_var rfl) C5 (by show 2 < 50000; decide) (fun _ => rfl) (fun i x hx => evp_of (?_) fun _ _ => rfl))) (by rw [Paired.length (k9.kn.now (Ex.refl H8) e9)]; show 2 < 100000; decide) (fun v10 H10 e10 k10 w10 h10 => ?_)
      · rcases i with _ | _ | i
        · cases (Option.some.inj hx)
          exact ev_fld rfl C11.xf C11.no (g4.ex E48)
        · cases (Option.some.inj hx)
          exact ev_fld rfl C11.xf C11.no (g5.ex E48)
        · simp at hx
      obtain _ | ⟨⟨q0, ls0, rfl, wq0, hl0, hv0⟩, _ | ⟨⟨q1, ls1, rfl, wq1, hl1, hv1⟩, ⟨⟩⟩⟩ := k9 H10 e10 fun b o nb _ h => k10 b o nb h
      obtain ⟨q2, ls2, rfl, wq2, hl2, hv2⟩ := h10
      obtain rfl := two hl0 hv0
      obtain rfl := two hl1 hv1
      obtain rfl := two hl2 hv2
      have w10 : H10 p8 = some (.lst [.ref q0, .ref q1, .ref q2]) := w10
      -- the fields
      refine s_if (b := false) (et_is (et_not (et_B (ev_callP (z := .bl true) (eap_cons (φ := fun v _ => v = .ref p8) (evp_of (ev_var rfl) fun _ _ => rfl) (eap_cons (evp_LP (elp_lst (eap_cons (evp_L (el_rep (xs := [r]) (n := 2) (el_lst (ea_cons (ev_var rfl) ea_nil) (by show 1 ≤ 100000; decide)) (fun _ _ => ev_c) (by decide) (by show 1 * 2 ≤ 100000; decide)))
        (eap_cons (evp_L (el_rep (xs := [.int m]) (n := 2) (el_lst (ea_cons (ev_var rfl) ea_nil) (by show 1 ≤ 100000; decide)) (fun _ _ => ev_c) (by decide) (by show 1 * 2 ≤ 100000; decide))) (eap_cons (evp_L (el_rep (xs := [.int m]) (n := 2) (el_lst (ea_cons (ev_var rfl) ea_nil) (by show 1 ≤ 100000; decide)) (fun _ _ => ev_c) (by decide) (by show 1 * 2 ≤ 100000; decide))) eap_nil))) (by show 3 ≤ 100000; decide))) eap_nil)) (fun vs H11 e11 hP => ?_)))) rfl) (fun z => nomatch z) (fun _ H11 e11 => ?_)
      · obtain _ | ⟨rfl, _ | ⟨⟨q, ls, rfl, wq, _ | ⟨⟨s0, rfl, ws0⟩, _ | ⟨⟨s1, rfl, ws1⟩, _ | ⟨⟨s2, rfl, ws2⟩, ⟨⟩⟩⟩⟩⟩, ⟨⟩⟩⟩ := hP
        intro H12 e12 Q3 q3 E3
        refine ⟨_, _, rfl, Or.inr ⟨p8, q, _, _, rfl, rfl, Or.inl ⟨Or.inl (e12 _ _ (e11 _ _ w10)), Or.inl (e12 _ _ wq)⟩, rfl, (by show 3 < 40000; decide), fun i x y hx hy => ?_⟩, q3⟩
        have E12 := e11.trans e12
        rcases i with _ | _ | _ | i
        · cases (Option.some.inj hx)
          cases (Option.some.inj hy)
          exact eqs_pair (E12 _ _ wq0) (e12 _ _ ws0) (EqS.ex (e10.trans E12) HR8)
        · cases (Option.some.inj hx)
          cases (Option.some.inj hy)
          exact eqs_pair (E12 _ _ wq1) (e12 _ _ ws1) (HM _ _)
        · cases (Option.some.inj hx)
          cases (Option.some.inj hy)
          exact eqs_pair (E12 _ _ wq2) (e12 _ _ ws2) (HM _ _)
        · simp at hx
      -- raised
      refine s_asgL (el_lst (ea_cons (ev_call (z := r) (ea_cons ev_c (ea_cons (ev_var rfl) ea_nil)) (fun H12 e12 Q3 q3 E3 => ⟨0, r, rfl, Or.inl rfl, q3⟩)) (ea_cons (ev_call (z := .int m) (ea_cons ev_c (ea_cons (ev_var rfl) ea_nil)) (fun H12 e12 Q3 q3 E3 => ⟨1, _, rfl, Or.inr (Or.inl rfl), q3⟩))
        (ea_cons (ev_call (z := .int m) (ea_cons ev_c (ea_cons (ev_var rfl) ea_nil)) (fun H12 e12 Q3 q3 E3 => ⟨2, _, rfl, Or.inr (Or.inr rfl), q3⟩)) ea_nil))) (by show 3 ≤ 100000; decide)) (fun p12 H12 n12 e12 w12 => ?_)
      refine s_ret (v := .bl true) (ev_callP (eap_cons (φ := fun v _ => v = .ref p12) (evp_of (ev_var rfl) fun _ _ => rfl) (eap_cons (evp_L (el_lst (ea_cons (ev_var rfl) (ea_cons (ev_var rfl) (ea_cons (ev_var rfl) ea_nil))) (by show 3 ≤ 100000; decide))) eap_nil)) (fun vs H13 e13 hP => ?_)) (fun H13 e13 => q H13 ?_)
      · obtain _ | ⟨rfl, _ | ⟨⟨q, rfl, wq⟩, ⟨⟩⟩⟩ := hP
        intro H14 e14 Q3 q3 E3
        refine ⟨_, _, rfl, Or.inr ⟨p12, q, _, _, rfl, rfl, Or.inl ⟨Or.inl (e14 _ _ (e13 _ _ w12)), Or.inl (e14 _ _ wq)⟩, rfl, (by show 3 < 40000; decide), fun i x y hx hy => ?_⟩, q3⟩
        rcases i with _ | _ | _ | i
        · cases (Option.some.inj hx)
          cases (Option.some.inj hy)
          exact EqS.ex ((((e10.trans e11).trans e12).trans e13).trans e14) (EqS.up HR8)
        · cases (Option.some.inj hx)
          cases (Option.some.inj hy)
          exact HM _ _
        · cases (Option.some.inj hx)
          cases (Option.some.inj hy)
          exact HM _ _
        · simp at hx
      · exact (e1.trans E18).trans (((e10.trans e11).trans e12).trans e13)
end
end Vx

set_option Elab.async false
set_option linter.all false
set_option maxRecDepth 100000
set_option maxHeartbeats 4000000
namespace Vx
open PySem PySem.Spec PyProof.Rows L2 Evl
abbrev sLaw : Stmt := top 22
def spLaw (K : PySem.W.Frag) : Sp := fun vs H Q _ => ∃ (a : Addr) (ns : List Int), vs = [.ref a] ∧ SqL K H a (ns.map V.int) ∧ ns.length ≤ 63 ∧ ∀ H', Q (.bl true) H'
theorem evp_U {te : TE} {σ : L2.St} {H : Hp} {xs : List V} (h : EvU te σ H xs) : EvP te σ H (fun v H' => ∃ p, v = .ref p ∧ H' p = some (.tup xs)) := fun H1 e Q q => h H1 e Q fun p H2 n e2 h2 => q _ H2 e2 fun H' _ b => ⟨p, rfl, b p _ n h2⟩
theorem evp_tup {ta : TA} {σ : L2.St} {H : Hp} {φs : List (V → Hp → Prop)} (h : EvAP ta σ H φs) (hz : φs.length ≤ 100000) : EvP (tTup ta) σ H (fun v H' => ∃ p vs, v = .ref p ∧ H' p = some (.tup vs) ∧ Paired (fun v φ => φ v H') vs φs) := fun H1 e Q q =>
  h H1 e _ fun vs H2 e2 k => ⟨sz_of (by rw [Paired.length (k.now e e2)]; exact hz), fun p hp => q _ _ (e2.trans (Ex.new hp)) fun H' a b =>
    ⟨p, vs, rfl, b p _ (fresh_back e2 hp) upd_same, k H' a fun c o n h => b c o n (by rw [upd_ne (ne_of_none h hp)]; exact h)⟩⟩
theorem ev_min2 {ta tb : TE} {σ : L2.St} {H : Hp} {i j : Int} (ha : Ev ta σ H (.int i)) (hb : Ev tb σ H (.int j)) : Ev (tCB (fun xs H Q => ∃ i j, xs = [.int i, .int j] ∧ Q (.int (if j < i then j else i)) H) (tCons ta (tCons tb tNil))) σ H (.int (if j < i then j else i)) := fun H1 e Q q =>
  ha H1 e _ fun H2 e2 => hb H2 (e.trans e2) _ fun H3 e3 => ⟨i, j, rfl, q H3 (e2.trans e3)⟩
/-- x = f(..), f by its promise -/
theorem s_asgC {sp : Sp} {E : XK} {ta : TA} {σ : L2.St} {H : Hp} {D : Ends} {i : Nat} {vs : List V} (h : EvA ta σ H vs) (k : ∀ H1, Ex H H1 → sp vs H1 (fun v H2 => D.nx (σ.set i (some v)) H2) E) : tAsg (tCall sp [] E ta) (gName i) D σ H :=
  h H (Ex.refl H) _ fun H1 e => by
    rw [List.append_nil]
    exact k H1 e
theorem Src.ex {H H' : Hp} {p : Addr} {n : Nat} (h : Src H p n) (e : Ex H H') : Src H' p n := by
  obtain ⟨a, b, c, h1, h2⟩ := h
  exact ⟨a, b, c, e _ _ h1, h2⟩
/-- a tuple of flat things -/
theorem eqs_flat {H : Hp} {p : Addr} {xs : List V} {n : Nat} (h : H p = some (.tup xs)) (hl : xs.length < 40000) (ha : xs.all atom = true) : EqS H (n + 1) (.ref p) (.ref p) :=
  Or.inr ⟨p, p, xs, xs, rfl, rfl, Or.inr ⟨Or.inl h, Or.inl h⟩, rfl, hl, fun i x y hx hy => by
    rw [hx] at hy
    cases hy
    have hm : atom x = true := List.all_eq_true.mp ha x (List.mem_of_getElem? hx)
    cases n with
    | zero => exact ⟨rfl, hm⟩
    | succ n => exact Or.inl ⟨rfl, hm⟩⟩
section
variable {P : Program} {w : World} {K : PySem.W.Frag} {mg : Str → Option Value} {base : Heap} {c : Nat → Addr}
theorem scLaw : FnScope ["script", "reasons", "k", "source", "turn", "number"] ["script"] (defScope sLaw) := ⟨rfl, rfl, rfl, by decide +kernel, rfl, by decide +kernel, by decide +kernel⟩
theorem ok_law {f : Addr} {fd : FuncData} (F : Fun K "law" "law" sLaw f fd) (T : Blt mg) (GS : Good P w K mg base 1 "_law_source" ["script", "k"] (spSource K)) (GP : Good P w K mg base 1 "_law_pick" ["source", "count"] spPick)
    (GR : Good P w K mg base 8 "_law_right" ["reason_given", "number"] spRight) : FnOk P w K mg base CX0 9 f fd ["script"] (spLaw K) := by
  refine F.ok scLaw (fun vs H Q E h => ?_) (fun cdv A outer s H vs Q E hr h => ?_)
  · obtain ⟨a, ns, rfl, _⟩ := h
    rfl
  · obtain ⟨a, ns, rfl, hS, hlen, q⟩ := h
    have hr1 : Room 1 _ := hr.mono (by decide)
    refine ⟨_, pss_cons (ps_set (i := 1) scLaw.nd rfl (Or.inl rfl) (pe_lst (pa_cons pe_non (pa_cons (pe_tup (pa_cons pe_str (pa_cons pe_str (pa_cons pe_int pa_nil)))) (pa_cons (pe_tup (pa_cons pe_str (pa_cons pe_str (pa_cons pe_int (pa_cons pe_str pa_nil)))))
        (pa_cons (pe_tup (pa_cons pe_str (pa_cons (pe_lst (pa_cons (pe_tup (pa_cons pe_str (pa_cons pe_int pa_nil))) (pa_cons (pe_tup (pa_cons pe_str (pa_cons pe_str pa_nil))) pa_nil))) pa_nil))) pa_nil))))))
      (pss_cons (ps_for PassesOwn.never rfl (pi_range1 rfl T.range (pa_cons (pe_callB (call_max2 rfl) (by rfl) T.max (by decide +kernel) (pa_cons pe_int (pa_cons (pe_callB (call_min2 rfl) (by rfl) T.min (by decide +kernel) (pa_cons pe_int (pa_cons (pe_callB call_len_seq (by rfl) T.len PySem.boot_len (pa_cons (pv 0) pa_nil)) pa_nil))) pa_nil))) pa_nil)) (pg_name (i := 2) scLaw.nd rfl (Or.inl rfl))
        (pss_cons (ps_set (i := 3) scLaw.nd rfl (Or.inl rfl) (pe_fn GS hr1 (pa_cons (pv 0) (pa_cons (pv 2) pa_nil))))
        (pss_one (ps_for PassesOwn.never rfl (pi_range1 rfl T.range (pa_cons pe_int pa_nil)) (pg_name (i := 4) scLaw.nd rfl (Or.inl rfl))
          (pss_cons (ps_set (i := 5) scLaw.nd rfl (Or.inl rfl) (pe_fn GP hr1 (pa_cons (pv 3) (pa_cons (pe_ix ix_list (pe_lst (pa_cons pe_int (pa_cons pe_int (pa_cons (pe_op op_pw pe_int pe_int) pa_nil)))) (pv 4) (fun _ _ => rfl)) pa_nil))))
          (pss_one (ps_if (pt_not (pt_val (pe_fn GR hr (pa_cons (pe_ix ix_list (pv 1) (pe_fn GP hr1 (pa_cons (pv 3) (pa_cons pe_int pa_nil))) (fun _ _ => rfl)) (pa_cons (pv 5) pa_nil))))) pss_never pss_nil)))))))
      (pss_one (ps_ret pe_bl))), ?_⟩
    refine s_asgLP (elp_lst (eap_cons (φ := fun v _ => v = .non) (evp_of ev_c fun _ _ => rfl) (eap_cons (evp_U (eu_tup (ea_cons ev_c (ea_cons ev_c (ea_cons ev_c ea_nil))) (by show 3 ≤ 100000; decide))) (eap_cons (evp_U (eu_tup (ea_cons ev_c (ea_cons ev_c (ea_cons ev_c (ea_cons ev_c ea_nil)))) (by show 4 ≤ 100000; decide)))
      (eap_cons (evp_tup (eap_cons (φ := fun v _ => v = .str "cycle") (evp_of ev_c fun _ _ => rfl) (eap_cons (evp_LP (elp_lst (eap_cons (evp_U (eu_tup (ea_cons ev_c (ea_cons ev_c ea_nil)) (by show 2 ≤ 100000; decide))) (eap_cons (evp_U (eu_tup (ea_cons ev_c (ea_cons ev_c ea_nil)) (by show 2 ≤ 100000; decide))) eap_nil)) (by show 2 ≤ 100000; decide))) eap_nil)) (by show 2 ≤ 100000; decide)) eap_nil)))) (by show 4 ≤ 100000; decide)) (fun p1 l1 H1 n1 e1 w1 k1 => ?_)
    obtain _ | ⟨rfl, _ | ⟨⟨t1, rfl, g1⟩, _ | ⟨⟨t2, rfl, g2⟩, _ | ⟨⟨t3, ls3, rfl, g3, _ | ⟨rfl, _ | ⟨⟨u, lu, rfl, gu, _ | ⟨⟨u0, rfl, h0⟩, _ | ⟨⟨u1, rfl, h1⟩, ⟨⟩⟩⟩⟩, ⟨⟩⟩⟩⟩, ⟨⟩⟩⟩⟩⟩ := k1.kn.now (Ex.refl H) e1
    have rs : ∀ (i : Nat) x, ([.non, .ref t1, .ref t2, .ref t3] : List V)[i]? = some x → EqS H1 4 x x := fun i x hx => by
      rcases i with _ | _ | _ | _ | i
      · cases (Option.some.inj hx)
        exact Or.inl ⟨rfl, rfl⟩
      · cases (Option.some.inj hx)
        exact eqs_flat g1 (by show 3 < 40000; decide) rfl
      · cases (Option.some.inj hx)
        exact eqs_flat g2 (by show 4 < 40000; decide) rfl
      · cases (Option.some.inj hx)
        refine Or.inr ⟨t3, t3, _, _, rfl, rfl, Or.inr ⟨Or.inl g3, Or.inl g3⟩, rfl, (by show 2 < 40000; decide), fun i x y hx hy => ?_⟩
        rw [hx] at hy
        cases hy
        rcases i with _ | _ | i
        · cases (Option.some.inj hx)
          exact Or.inl ⟨rfl, rfl⟩
        · cases (Option.some.inj hx)
          refine Or.inr ⟨u, u, _, _, rfl, rfl, Or.inl ⟨Or.inl gu, Or.inl gu⟩, rfl, (by show 2 < 40000; decide), fun i x y hx hy => ?_⟩
          rw [hx] at hy
          cases hy
          rcases i with _ | _ | i
          · cases (Option.some.inj hx)
            exact eqs_flat h0 (by show 2 < 40000; decide) rfl
          · cases (Option.some.inj hx)
            exact eqs_flat h1 (by show 2 < 40000; decide) rfl
          · simp at hx
        · simp at hx
      · simp at hx
    refine s_forR1 (n := if (if (ns.length : Int) < 3 then (ns.length : Int) else 3) > 1 then (if (ns.length : Int) < 3 then (ns.length : Int) else 3) else 1) (ea_cons (ev_max2 ev_c (ev_min2 ev_c (Evl.ev_is (ev_len (ev_var rfl) (ex_l e1 hS)) (by rw [List.length_map])))) ea_nil) (by constructor <;> (split <;> (try split) <;> omega))
      (fun _ σ' H' => ∃ v2 v3 v4 v5, σ' = [some (.ref a), some (.ref p1), v2, v3, v4, v5] ∧ Ex H1 H') (fun H' e => ⟨none, none, none, none, rfl, e⟩) (fun k σ' H2 hk => ?_) (fun σ' H2 => ?_)
    · rintro ⟨v2, v3, v4, v5, rfl, e2⟩
      have hk3 : (k : Int) < 3 := by
        split at hk <;> (try split at hk) <;> omega
      refine ⟨_, rfl, _, rfl, a, ns, (k : Int), rfl, ex_l (e1.trans e2) hS, by omega, by omega, fun p x y hp x0 y0 y1 => ?_⟩
      have s0 : Src (upd H2 p (.lst [.int x, .int y, .int 0])) p 0 := ⟨x, y, 0, upd_same, x0, y0, y1, by decide, by decide⟩
      refine s_forR1 (n := 3) (ea_cons ev_c ea_nil) (by decide) (fun t σ' H' => ∃ v4 v5, σ' = [some (.ref a), some (.ref p1), some (.int (k : Int)), some (.ref p), v4, v5] ∧ Ex H2 H' ∧ Src H' p (2 * t)) (fun H' e => ⟨_, _, rfl, (Ex.new hp).trans e, s0.ex e⟩) (fun t σ' H3 ht => ?_) (fun σ' H3 => ?_)
      · rintro ⟨v4, v5, rfl, e3, s3⟩
        have ht3 : t < 3 := by omega
        obtain ⟨m, hm, m0, m1⟩ : ∃ m : Int, atI ([.int 61, .int 20002, .int (10 ^ Int.toNat 60)] : List V) (t : Int) = some (.int m) ∧ 1 ≤ m ∧ m ≤ 10 ^ 60 := by
          rcases (show t = 0 ∨ t = 1 ∨ t = 2 by omega) with rfl | rfl | rfl
          · exact ⟨61, rfl, by decide, by decide⟩
          · exact ⟨20002, rfl, by decide, by decide⟩
          · exact ⟨10 ^ 60, rfl, by decide, by decide⟩
        have args : EvA (tCons (tVar 3) (tCons (tOp (rIxL K) (tLst (tCons (tC (.int 61)) (tCons (tC (.int 20002)) (tCons (tOp (rI CPw fun i j => .int (i ^ j.toNat)) (tC (.int 10)) (tC (.int 60))) tNil)))) (tVar 4)) tNil)) [some (.ref a), some (.ref p1), some (.int (k : Int)), some (.ref p), some (.int (t : Int)), v5] H3 [.ref p, .int m] :=
          ea_cons (ev_var rfl) (ea_cons (ev_opL1 (el_lst (ea_cons ev_c (ea_cons ev_c (ea_cons (ev_op ev_c ev_c (rv_I ⟨by decide, by decide, by decide⟩)) ea_nil))) (by show 3 ≤ 100000; decide)) (fun _ _ => ev_var rfl) (fun _ _ hq _ => rv_ixL (sq_of hq) hm)) ea_nil)
        refine s_asgC args fun H4 e4 => ⟨p, 2 * t, m, rfl, s3.ex e4, by omega, m0, m1, fun r xs r0 rm s5 => ?_⟩
        generalize hH5 : upd H4 p (.lst xs) = H5 at s5 ⊢
        have e5 : Ex H2 H5 := by
          rw [← hH5]
          exact Ex.mut (e3.trans e4) hp
        refine ⟨_, rfl, _, rfl, p, 2 * t + 1, 4, rfl, s5, by omega, by decide, by decide, fun r2 xs2 r20 r24 s6 => ?_⟩
        generalize hH6 : upd H5 p (.lst xs2) = H6 at s6 ⊢
        have e6 : Ex H2 H6 := by
          rw [← hH6]
          exact Ex.mut e5 hp
        have e16 := e2.trans e6
        obtain ⟨j, rfl⟩ : ∃ j : Nat, r2 = (j : Int) := ⟨r2.toNat, by omega⟩
        have hj : j < ([.non, .ref t1, .ref t2, .ref t3] : List V).length := by
          show j < 4
          omega
        have hx : ([.non, .ref t1, .ref t2, .ref t3] : List V)[j]? = some ([.non, .ref t1, .ref t2, .ref t3] : List V)[j] := List.getElem?_eq_getElem hj
        refine ⟨p1, _, _, _, rfl, rfl, sq_of (e16 _ _ w1), atI_nat hx, _, rfl, _, r, rfl, EqS.ex e16 (rs j _ hx), fun H7 e7 => ⟨true, rfl, ?_⟩⟩
        refine iteF ?_
        exact ⟨_, _, rfl, e6.trans e7, (s6.ex e7)⟩
      · rintro ⟨v4, v5, rfl, e3, s3⟩
        exact ⟨_, _, _, _, rfl, e2.trans e3⟩
    · rintro ⟨v2, v3, v4, v5, rfl, e2⟩
      exact q H2
end
end Vx

set_option Elab.async false
set_option linter.all false
set_option maxRecDepth 100000
set_option maxHeartbeats 4000000
namespace Vx
open PySem PySem.Spec PyProof.Rows L2 Evl
/-! what the top has written, as one truth value -/
def ecB (K : PySem.W.Frag) (D : Addr) : Bool :=
  decide (PySem.W.findIn K (.ref D) "__getattribute__" = some (some (.builtin "BaseException.__getattribute__"))) && (decide (PySem.W.findIn K (.ref D) "__getattr__" = some none) && (decide (PySem.W.subIn K (.ref D) (.type "BaseException") = some true) &&
  (PySem.W.hasDictIn K D && (decide (PySem.W.findIn K (.ref D) "__class__" = some (some (.builtin "object.__class__"))) && (decide (PySem.W.specialIn K (.builtin "object.__class__") "__get__" = some (some (.builtin "getset_descriptor.__get__"))) &&
  (decide (PySem.W.takesIn K (.builtin "object.__class__") = some true) && decide (PySem.W.mroIn K D (.type "object") = some true)))))))
theorem ecB_ok {K : PySem.W.Frag} {D : Addr} (h : ecB K D = true) : ExcC K D := by
  simp only [ecB, Bool.and_eq_true, decide_eq_true_eq] at h
  obtain ⟨h1, h2, h3, h4, h5, h6, h7, h8⟩ := h
  exact ⟨h1, h2, h3, h4, h5, h6, h7, h8⟩
def clB (K : PySem.W.Frag) (c : List Addr) : Bool :=
  ((List.range 12).all fun i => ecB K (c.getD i 0) && (((List.range 12).all fun j => decide (PySem.W.kitOne K (.ref (c.getD i 0)) (.ref (c.getD j 0)) = some (decide (i = j)))) && (decide (PySem.W.kitOne K (.ref (c.getD i 0)) (.ref (c.getD 12 0)) = some true) &&
    decide (PySem.W.kitOne K (.ref (c.getD i 0)) (.type "ValueError") = some true)))) &&
  ((List.range 9).all fun i => PySem.W.excIn K (c.getD i 0) [.type "ValueError", .type "Exception", .type "BaseException", .type "object"] "ValueError.__new__" && PySem.W.keepIn K (.ref (c.getD i 0)))
def xcB (K : PySem.W.Frag) (D b : Addr) (f : Str) : Bool :=
  decide (PySem.W.findIn K (.ref D) "__setattr__" = some (some (.builtin "object.__setattr__"))) && (decide (PySem.W.typeIn K (.ref D) = some (.type "type")) && (PySem.W.keepIn K (.ref D) && (decide (PySem.W.findIn K (.ref D) f = some none) && decide (PySem.W.exmOne K (.ref D) (.ref b) = some true))))
def nbB (K : PySem.W.Frag) : Bool := (["len", "max", "min", "abs", "all", "zip", "list", "tuple", "dict", "bool", "str", "range", "isinstance", "ValueError"] : List Str).all fun n => decide (PySem.W.nsIn K mainGlobals n = some none)
section
variable {P : Program} {w : World} {K : PySem.W.Frag} {mg : Str → Option Value} {base : Heap}
abbrev sIConflict : Stmt := inClass (top 11) 0
theorem scIConflict : FnScope ["self", "reason"] ["self", "reason"] (defScope sIConflict) := ⟨rfl, rfl, rfl, by decide +kernel, rfl, by decide +kernel, by decide +kernel⟩
theorem iniConflict {C fI b : Addr} {fd : FuncData} (F : Fun K "__init__" "Conflict.__init__" sIConflict fI fd) (g : mg "Conflict" = some (.ref C)) (ec : ExcC K C) (xb : xcB K C b "reason" = true) (iC : PySem.W.findIn K (.ref C) "__init__" = some (some (.ref fI))) (tI : PySem.W.typeIn K (.ref fI) = some (.type "function"))
    (cl : ∃ nm q N bs bm sn sub ab col dd k0 k1 k2 k3 k5, K.lookup C = some (excClassObj nm q C N bs bm true sn sub ab col dd k0 k1 k2 k3 k5 "ValueError.__new__") ∧ PySem.HandSPX.refsVE bm = true) : XCls P w K mg base "Conflict" C "reason" := by
  simp only [xcB, Bool.and_eq_true, decide_eq_true_eq] at xb
  obtain ⟨h1, h2, h3, h4, _⟩ := xb
  refine ⟨g, ⟨cl, h1, ec.hs, h2, h3⟩, ⟨ec.hg, ec.hk, ec.hs, ec.hd⟩, ec, h4, fI, fd, iC, tI, ?_, F.binds fun _ _ _ _ _ _ us hl => match us, hl with | [_, _], _ => rfl, ?_⟩
  · refine F.ok scIConflict (fun vs H Q E h => ?_) (fun cdv A outer s H vs Q E hr h => ?_)
    · obtain ⟨a, D, v, rfl, _⟩ := h
      rfl
    · obtain ⟨a, D, v, rfl, oe, no, ha, q⟩ := h
      refine ⟨_, pss_one (ps_ost (pv 0) (pv 1)), ?_⟩
      exact ⟨_, rfl, _, rfl, a, D, rfl, oe, no, Or.inl ⟨ha, fun dx hd ne => q dx hd ne⟩⟩
  · obtain ⟨oc, od, kV, doc, pm, an, cdv, ct, osl, rfl, lk, hcd⟩ := F.ex
    exact ⟨fun s us ws _ l1 l2 => match us, ws, l1, l2 with | [_], [_], _, _ => .of_eq rfl, fun r1 r2 => r1.append r2⟩
abbrev sITooMany : Stmt := inClass (top 12) 0
theorem scITooMany : FnScope ["self", "many"] ["self", "many"] (defScope sITooMany) := ⟨rfl, rfl, rfl, by decide +kernel, rfl, by decide +kernel, by decide +kernel⟩
theorem iniTooMany {C fI b : Addr} {fd : FuncData} (F : Fun K "__init__" "TooMany.__init__" sITooMany fI fd) (g : mg "TooMany" = some (.ref C)) (ec : ExcC K C) (xb : xcB K C b "many" = true) (iC : PySem.W.findIn K (.ref C) "__init__" = some (some (.ref fI))) (tI : PySem.W.typeIn K (.ref fI) = some (.type "function"))
    (cl : ∃ nm q N bs bm sn sub ab col dd k0 k1 k2 k3 k5, K.lookup C = some (excClassObj nm q C N bs bm true sn sub ab col dd k0 k1 k2 k3 k5 "ValueError.__new__") ∧ PySem.HandSPX.refsVE bm = true) : XCls P w K mg base "TooMany" C "many" := by
  simp only [xcB, Bool.and_eq_true, decide_eq_true_eq] at xb
  obtain ⟨h1, h2, h3, h4, _⟩ := xb
  refine ⟨g, ⟨cl, h1, ec.hs, h2, h3⟩, ⟨ec.hg, ec.hk, ec.hs, ec.hd⟩, ec, h4, fI, fd, iC, tI, ?_, F.binds fun _ _ _ _ _ _ us hl => match us, hl with | [_, _], _ => rfl, ?_⟩
  · refine F.ok scITooMany (fun vs H Q E h => ?_) (fun cdv A outer s H vs Q E hr h => ?_)
    · obtain ⟨a, D, v, rfl, _⟩ := h
      rfl
    · obtain ⟨a, D, v, rfl, oe, no, ha, q⟩ := h
      refine ⟨_, pss_one (ps_ost (pv 0) (pv 1)), ?_⟩
      exact ⟨_, rfl, _, rfl, a, D, rfl, oe, no, Or.inl ⟨ha, fun dx hd ne => q dx hd ne⟩⟩
  · obtain ⟨oc, od, kV, doc, pm, an, cdv, ct, osl, rfl, lk, hcd⟩ := F.ex
    exact ⟨fun s us ws _ l1 l2 => match us, ws, l1, l2 with | [_], [_], _, _ => .of_eq rfl, fun r1 r2 => r1.append r2⟩
abbrev sINoText : Stmt := inClass (top 13) 0
theorem scINoText : FnScope ["self", "at"] ["self", "at"] (defScope sINoText) := ⟨rfl, rfl, rfl, by decide +kernel, rfl, by decide +kernel, by decide +kernel⟩
theorem iniNoText {C fI b : Addr} {fd : FuncData} (F : Fun K "__init__" "NoText.__init__" sINoText fI fd) (g : mg "NoText" = some (.ref C)) (ec : ExcC K C) (xb : xcB K C b "at" = true) (iC : PySem.W.findIn K (.ref C) "__init__" = some (some (.ref fI))) (tI : PySem.W.typeIn K (.ref fI) = some (.type "function"))
    (cl : ∃ nm q N bs bm sn sub ab col dd k0 k1 k2 k3 k5, K.lookup C = some (excClassObj nm q C N bs bm true sn sub ab col dd k0 k1 k2 k3 k5 "ValueError.__new__") ∧ PySem.HandSPX.refsVE bm = true) : XCls P w K mg base "NoText" C "at" := by
  simp only [xcB, Bool.and_eq_true, decide_eq_true_eq] at xb
  obtain ⟨h1, h2, h3, h4, _⟩ := xb
  refine ⟨g, ⟨cl, h1, ec.hs, h2, h3⟩, ⟨ec.hg, ec.hk, ec.hs, ec.hd⟩, ec, h4, fI, fd, iC, tI, ?_, F.binds fun _ _ _ _ _ _ us hl => match us, hl with | [_, _], _ => rfl, ?_⟩
  · refine F.ok scINoText (fun vs H Q E h => ?_) (fun cdv A outer s H vs Q E hr h => ?_)
    · obtain ⟨a, D, v, rfl, _⟩ := h
      rfl
    · obtain ⟨a, D, v, rfl, oe, no, ha, q⟩ := h
      refine ⟨_, pss_one (ps_ost (pv 0) (pv 1)), ?_⟩
      exact ⟨_, rfl, _, rfl, a, D, rfl, oe, no, Or.inl ⟨ha, fun dx hd ne => q dx hd ne⟩⟩
  · obtain ⟨oc, od, kV, doc, pm, an, cdv, ct, osl, rfl, lk, hcd⟩ := F.ex
    exact ⟨fun s us ws _ l1 l2 => match us, ws, l1, l2 with | [_], [_], _, _ => .of_eq rfl, fun r1 r2 => r1.append r2⟩
theorem cl_ok {h : Heap} (X : K.In h) (G : h.Ns mainGlobals mg) {c0 c1 c2 c3 c4 c5 c6 c7 c8 c9 c10 c11 c12 : Addr} (a0 : PySem.W.nsIn K mainGlobals "NoLogs" = some (some (.ref c0))) (a1 : PySem.W.nsIn K mainGlobals "NoFacts" = some (some (.ref c1))) (a2 : PySem.W.nsIn K mainGlobals "NoRun" = some (some (.ref c2))) (a3 : PySem.W.nsIn K mainGlobals "NoWorker" = some (some (.ref c3))) (a4 : PySem.W.nsIn K mainGlobals "NoItem" = some (some (.ref c4))) (a5 : PySem.W.nsIn K mainGlobals "NoPlace" = some (some (.ref c5))) (a6 : PySem.W.nsIn K mainGlobals "NoNumber" = some (some (.ref c6))) (a7 : PySem.W.nsIn K mainGlobals "NoEntry" = some (some (.ref c7))) (a8 : PySem.W.nsIn K mainGlobals "Nothing" = some (some (.ref c8))) (a9 : PySem.W.nsIn K mainGlobals "Conflict" = some (some (.ref c9))) (a10 : PySem.W.nsIn K mainGlobals "TooMany" = some (some (.ref c10))) (a11 : PySem.W.nsIn K mainGlobals "NoText" = some (some (.ref c11))) (a12 : PySem.W.nsIn K mainGlobals "DequeError" = some (some (.ref c12))) (cb : clB K [c0, c1, c2, c3, c4, c5, c6, c7, c8, c9, c10, c11, c12] = true) (nb : nbB K = true) :
    Cl K mg (fun i => ([c0, c1, c2, c3, c4, c5, c6, c7, c8, c9, c10, c11, c12] : List Addr).getD i 0) ∧ Blt mg := by
  simp only [clB, Bool.and_eq_true, List.all_eq_true, List.mem_range, decide_eq_true_eq] at cb
  obtain ⟨h1, h2⟩ := cb
  have nn : ∀ n ∈ (["len", "max", "min", "abs", "all", "zip", "list", "tuple", "dict", "bool", "str", "range", "isinstance", "ValueError"] : List Str), PySem.W.nsIn K mainGlobals n = some none := fun n hn => of_decide_eq_true (List.all_eq_true.mp nb n hn)
  have mn : ∀ n ∈ (["len", "max", "min", "abs", "all", "zip", "list", "tuple", "dict", "bool", "str", "range", "isinstance", "ValueError"] : List Str), mg n = none := fun n hn => PySem.W.mg_none_of X G (nn n hn)
  refine ⟨⟨PySem.W.mg_of X G a0, PySem.W.mg_of X G a1, PySem.W.mg_of X G a2, PySem.W.mg_of X G a3, PySem.W.mg_of X G a4, PySem.W.mg_of X G a5, PySem.W.mg_of X G a6, PySem.W.mg_of X G a7, PySem.W.mg_of X G a8, PySem.W.mg_of X G a9, PySem.W.mg_of X G a10, PySem.W.mg_of X G a11, PySem.W.mg_of X G a12, mn _ (by simp), fun i j hi hj => (h1 i hi).2.1 j hj, fun i hi => (h1 i hi).2.2.1, fun i hi => (h1 i hi).2.2.2, fun i hi => ecB_ok (h1 i hi).1, fun i hi => (h2 i hi).1, fun i hi => (h2 i hi).2⟩, ⟨mn _ (by simp), mn _ (by simp), mn _ (by simp), mn _ (by simp), mn _ (by simp), mn _ (by simp), mn _ (by simp), mn _ (by simp), mn _ (by simp), mn _ (by simp), mn _ (by simp), mn _ (by simp), mn _ (by simp)⟩⟩
end
theorem all_mk {l : PySem.W.OpenLaw} {w : World} {K : PySem.W.Frag} {h : Heap} {mg : Str → Option Value} {fa : Addr} (X : K.In h) (G : h.Ns mainGlobals mg) (hfa : mg "law" = some (.ref fa))
    {c0 c1 c2 c3 c4 c5 c6 c7 c8 c9 c10 c11 c12 f1 f2 f3 f4 f5 f6 f7 f8 f9 f10 : Addr}
    {od1 an1 : Option Addr} {sl1 : Array (Option Value)} {oc1 kV1 dc1 pm1 cd1 ct1 : Value}
    {od2 an2 : Option Addr} {sl2 : Array (Option Value)} {oc2 kV2 dc2 pm2 cd2 ct2 : Value}
    {od3 an3 : Option Addr} {sl3 : Array (Option Value)} {oc3 kV3 dc3 pm3 cd3 ct3 : Value}
    {od4 an4 : Option Addr} {sl4 : Array (Option Value)} {oc4 kV4 dc4 pm4 cd4 ct4 : Value}
    {od5 an5 : Option Addr} {sl5 : Array (Option Value)} {oc5 kV5 dc5 pm5 cd5 ct5 : Value}
    {od6 an6 : Option Addr} {sl6 : Array (Option Value)} {oc6 kV6 dc6 pm6 cd6 ct6 : Value}
    {od7 an7 : Option Addr} {sl7 : Array (Option Value)} {oc7 kV7 dc7 pm7 cd7 ct7 : Value}
    {od8 an8 : Option Addr} {sl8 : Array (Option Value)} {oc8 kV8 dc8 pm8 cd8 ct8 : Value}
    {od9 an9 : Option Addr} {sl9 : Array (Option Value)} {oc9 kV9 dc9 pm9 cd9 ct9 : Value}
    {od10 an10 : Option Addr} {sl10 : Array (Option Value)} {oc10 kV10 dc10 pm10 cd10 ct10 : Value}
    (a0 : PySem.W.nsIn K mainGlobals "NoLogs" = some (some (.ref c0)))
    (a1 : PySem.W.nsIn K mainGlobals "NoFacts" = some (some (.ref c1)))
    (a2 : PySem.W.nsIn K mainGlobals "NoRun" = some (some (.ref c2)))
    (a3 : PySem.W.nsIn K mainGlobals "NoWorker" = some (some (.ref c3)))
    (a4 : PySem.W.nsIn K mainGlobals "NoItem" = some (some (.ref c4)))
    (a5 : PySem.W.nsIn K mainGlobals "NoPlace" = some (some (.ref c5)))
    (a6 : PySem.W.nsIn K mainGlobals "NoNumber" = some (some (.ref c6)))
    (a7 : PySem.W.nsIn K mainGlobals "NoEntry" = some (some (.ref c7)))
    (a8 : PySem.W.nsIn K mainGlobals "Nothing" = some (some (.ref c8)))
    (a9 : PySem.W.nsIn K mainGlobals "Conflict" = some (some (.ref c9)))
    (a10 : PySem.W.nsIn K mainGlobals "TooMany" = some (some (.ref c10)))
    (a11 : PySem.W.nsIn K mainGlobals "NoText" = some (some (.ref c11)))
    (a12 : PySem.W.nsIn K mainGlobals "DequeError" = some (some (.ref c12)))
    (cb : clB K [c0, c1, c2, c3, c4, c5, c6, c7, c8, c9, c10, c11, c12] = true) (nb : nbB K = true)
    (b1 : PySem.W.nsIn K mainGlobals "_law_source" = some (some (.ref f1))) (l1 : K.lookup f1 = some ⟨oc1, od1, .func (PySem.W.fnOf "_law_source" "_law_source" (defArgs sSource) (defBody sSource) (defScope sSource) .none kV1 dc1 pm1 an1 cd1 ct1), sl1⟩) (e1 : PySem.W.codeIn K cd1 "_law_source" = true) (k1 : PySem.W.keepIn K (.ref f1) = true)
    (b2 : PySem.W.nsIn K mainGlobals "_law_pick" = some (some (.ref f2))) (l2 : K.lookup f2 = some ⟨oc2, od2, .func (PySem.W.fnOf "_law_pick" "_law_pick" (defArgs sPick) (defBody sPick) (defScope sPick) .none kV2 dc2 pm2 an2 cd2 ct2), sl2⟩) (e2 : PySem.W.codeIn K cd2 "_law_pick" = true) (k2 : PySem.W.keepIn K (.ref f2) = true)
    (b3 : PySem.W.nsIn K mainGlobals "_law_same" = some (some (.ref f3))) (l3 : K.lookup f3 = some ⟨oc3, od3, .func (PySem.W.fnOf "_law_same" "_law_same" (defArgs sSame) (defBody sSame) (defScope sSame) .none kV3 dc3 pm3 an3 cd3 ct3), sl3⟩) (e3 : PySem.W.codeIn K cd3 "_law_same" = true) (k3 : PySem.W.keepIn K (.ref f3) = true)
    (b4 : PySem.W.nsIn K mainGlobals "_law_marks" = some (some (.ref f4))) (l4 : K.lookup f4 = some ⟨oc4, od4, .func (PySem.W.fnOf "_law_marks" "_law_marks" (defArgs sMarks) (defBody sMarks) (defScope sMarks) .none kV4 dc4 pm4 an4 cd4 ct4), sl4⟩) (e4 : PySem.W.codeIn K cd4 "_law_marks" = true) (k4 : PySem.W.keepIn K (.ref f4) = true)
    (b5 : PySem.W.nsIn K mainGlobals "_law_raised" = some (some (.ref f5))) (l5 : K.lookup f5 = some ⟨oc5, od5, .func (PySem.W.fnOf "_law_raised" "_law_raised" (defArgs sRaised) (defBody sRaised) (defScope sRaised) .none kV5 dc5 pm5 an5 cd5 ct5), sl5⟩) (e5 : PySem.W.codeIn K cd5 "_law_raised" = true) (k5 : PySem.W.keepIn K (.ref f5) = true)
    (b6 : PySem.W.nsIn K mainGlobals "_law_right" = some (some (.ref f6))) (l6 : K.lookup f6 = some ⟨oc6, od6, .func (PySem.W.fnOf "_law_right" "_law_right" (defArgs sRight) (defBody sRight) (defScope sRight) .none kV6 dc6 pm6 an6 cd6 ct6), sl6⟩) (e6 : PySem.W.codeIn K cd6 "_law_right" = true) (k6 : PySem.W.keepIn K (.ref f6) = true)
    (b7 : PySem.W.nsIn K mainGlobals "law" = some (some (.ref f7))) (l7 : K.lookup f7 = some ⟨oc7, od7, .func (PySem.W.fnOf "law" "law" (defArgs sLaw) (defBody sLaw) (defScope sLaw) .none kV7 dc7 pm7 an7 cd7 ct7), sl7⟩) (e7 : PySem.W.codeIn K cd7 "law" = true) (k7 : PySem.W.keepIn K (.ref f7) = true)
    (i8 : PySem.W.findIn K (.ref c9) "__init__" = some (some (.ref f8))) (t8 : PySem.W.typeIn K (.ref f8) = some (.type "function")) (l8 : K.lookup f8 = some ⟨oc8, od8, .func (PySem.W.fnOf "__init__" "Conflict.__init__" (defArgs sIConflict) (defBody sIConflict) (defScope sIConflict) .none kV8 dc8 pm8 an8 cd8 ct8), sl8⟩) (e8 : PySem.W.codeIn K cd8 "Conflict.__init__" = true) (k8 : PySem.W.keepIn K (.ref f8) = true) (x8 : xcB K c9 c12 "reason" = true)
    {nm8 q8 : Str} {N8 : Addr} {bs8 bm8 : List Value} {sn8 : List Str} {su8 : List Value} {ab8 : Bool} {co8 : Option Bool} {dd8 : Option Addr} {m08 m18 m28 m38 m58 : Option Value} (y8 : K.lookup c9 = some (excClassObj nm8 q8 c9 N8 bs8 bm8 true sn8 su8 ab8 co8 dd8 m08 m18 m28 m38 m58 "ValueError.__new__")) (v8 : PySem.HandSPX.refsVE bm8 = true)
    (i9 : PySem.W.findIn K (.ref c10) "__init__" = some (some (.ref f9))) (t9 : PySem.W.typeIn K (.ref f9) = some (.type "function")) (l9 : K.lookup f9 = some ⟨oc9, od9, .func (PySem.W.fnOf "__init__" "TooMany.__init__" (defArgs sITooMany) (defBody sITooMany) (defScope sITooMany) .none kV9 dc9 pm9 an9 cd9 ct9), sl9⟩) (e9 : PySem.W.codeIn K cd9 "TooMany.__init__" = true) (k9 : PySem.W.keepIn K (.ref f9) = true) (x9 : xcB K c10 c12 "many" = true)
    {nm9 q9 : Str} {N9 : Addr} {bs9 bm9 : List Value} {sn9 : List Str} {su9 : List Value} {ab9 : Bool} {co9 : Option Bool} {dd9 : Option Addr} {m09 m19 m29 m39 m59 : Option Value} (y9 : K.lookup c10 = some (excClassObj nm9 q9 c10 N9 bs9 bm9 true sn9 su9 ab9 co9 dd9 m09 m19 m29 m39 m59 "ValueError.__new__")) (v9 : PySem.HandSPX.refsVE bm9 = true)
    (i10 : PySem.W.findIn K (.ref c11) "__init__" = some (some (.ref f10))) (t10 : PySem.W.typeIn K (.ref f10) = some (.type "function")) (l10 : K.lookup f10 = some ⟨oc10, od10, .func (PySem.W.fnOf "__init__" "NoText.__init__" (defArgs sINoText) (defBody sINoText) (defScope sINoText) .none kV10 dc10 pm10 an10 cd10 ct10), sl10⟩) (e10 : PySem.W.codeIn K cd10 "NoText.__init__" = true) (k10 : PySem.W.keepIn K (.ref f10) = true) (x10 : xcB K c11 c12 "at" = true)
    {nm10 q10 : Str} {N10 : Addr} {bs10 bm10 : List Value} {sn10 : List Str} {su10 : List Value} {ab10 : Bool} {co10 : Option Bool} {dd10 : Option Addr} {m010 m110 m210 m310 m510 : Option Value} (y10 : K.lookup c11 = some (excClassObj nm10 q10 c11 N10 bs10 bm10 true sn10 su10 ab10 co10 dd10 m010 m110 m210 m310 m510 "ValueError.__new__")) (v10 : PySem.HandSPX.refsVE bm10 = true)
    : ∃ fd : FuncData, (∀ (s : Shared) (v : Value), BindsTo s fd ⟨[v], []⟩ [("script", v)]) ∧ ∀ base : Heap, K.In base → base.Ns mainGlobals mg → FnOk l.prog w K mg base CX0 9 fa fd ["script"] (spLaw K) := by
  have e := hfa.symm.trans (PySem.W.mg_of X G b7)
  cases e
  obtain ⟨C, T⟩ := cl_ok X G a0 a1 a2 a3 a4 a5 a6 a7 a8 a9 a10 a11 a12 cb nb
  have F1 := fun_mk (st := sSource) l1 e1 k1
  have D1 : Def K mg "_law_source" sSource ["script", "k"] := ⟨_, _, F1, PySem.W.mg_of X G b1, F1.binds fun _ _ _ _ _ _ us hl => match us, hl with | [_, _], _ => rfl⟩
  have F2 := fun_mk (st := sPick) l2 e2 k2
  have D2 : Def K mg "_law_pick" sPick ["source", "count"] := ⟨_, _, F2, PySem.W.mg_of X G b2, F2.binds fun _ _ _ _ _ _ us hl => match us, hl with | [_, _], _ => rfl⟩
  have F3 := fun_mk (st := sSame) l3 e3 k3
  have D3 : Def K mg "_law_same" sSame ["found", "due"] := ⟨_, _, F3, PySem.W.mg_of X G b3, F3.binds fun _ _ _ _ _ _ us hl => match us, hl with | [_, _], _ => rfl⟩
  have F4 := fun_mk (st := sMarks) l4 e4 k4
  have D4 : Def K mg "_law_marks" sMarks ["error"] := ⟨_, _, F4, PySem.W.mg_of X G b4, F4.binds fun _ _ _ _ _ _ us hl => match us, hl with | [_], _ => rfl⟩
  have F5 := fun_mk (st := sRaised) l5 e5 k5
  have D5 : Def K mg "_law_raised" sRaised ["error_kind", "value"] := ⟨_, _, F5, PySem.W.mg_of X G b5, F5.binds fun _ _ _ _ _ _ us hl => match us, hl with | [_, _], _ => rfl⟩
  have F6 := fun_mk (st := sRight) l6 e6 k6
  have D6 : Def K mg "_law_right" sRight ["reason_given", "number"] := ⟨_, _, F6, PySem.W.mg_of X G b6, F6.binds fun _ _ _ _ _ _ us hl => match us, hl with | [_, _], _ => rfl⟩
  have F7 := fun_mk (st := sLaw) l7 e7 k7
  have F8 := fun_mk (st := sIConflict) l8 e8 k8
  have F9 := fun_mk (st := sITooMany) l9 e9 k9
  have F10 := fun_mk (st := sINoText) l10 e10 k10
  refine ⟨PySem.W.fnOf "law" "law" (defArgs sLaw) (defBody sLaw) (defScope sLaw) .none kV7 dc7 pm7 an7 cd7 ct7, fun s v => .of_eq rfl, fun base _ _ => ?_⟩
  have ec := C.ec
  have X9 : XCls l.prog w K mg base "Conflict" c9 "reason" := iniConflict F8 (PySem.W.mg_of X G a9) (ec 9 (by decide)) x8 i8 t8 ⟨_, _, _, _, _, _, _, _, _, _, _, _, _, _, _, y8, v8⟩
  have X10 : XCls l.prog w K mg base "TooMany" c10 "many" := iniTooMany F9 (PySem.W.mg_of X G a10) (ec 10 (by decide)) x9 i9 t9 ⟨_, _, _, _, _, _, _, _, _, _, _, _, _, _, _, y9, v9⟩
  have X11 : XCls l.prog w K mg base "NoText" c11 "at" := iniNoText F10 (PySem.W.mg_of X G a11) (ec 11 (by decide)) x10 i10 t10 ⟨_, _, _, _, _, _, _, _, _, _, _, _, _, _, _, y10, v10⟩
  have xm : ∀ {C b : Addr} {f : Str}, xcB K C b f = true → PySem.W.exmOne K (.ref C) (.ref b) = some true := fun xb => by
    simp only [xcB, Bool.and_eq_true, decide_eq_true_eq] at xb
    exact xb.2.2.2.2
  have ex : ∀ i, 9 ≤ i → i < 12 → PySem.W.exmOne K (.ref (([c0, c1, c2, c3, c4, c5, c6, c7, c8, c9, c10, c11, c12] : List Addr).getD i 0)) (.ref (([c0, c1, c2, c3, c4, c5, c6, c7, c8, c9, c10, c11, c12] : List Addr).getD 12 0)) = some true := fun i h1 h2 => by
    rcases (show i = 9 ∨ i = 10 ∨ i = 11 by omega) with rfl | rfl | rfl
    · exact xm x8
    · exact xm x9
    · exact xm x10
  exact ok_law F7 T (ok_source D1 T) (ok_pick D2) (ok_right D6 T C X9 X10 X11 (ok_marks D4 T C) (ok_raised D5 C X9 X10 X11 ex) (ok_same D3 T 6))
theorem walk {l : PySem.W.OpenLaw} {q : Program} {loose : List Str} {XP : (Str → Option Value) → Heap → Prop} {YP : World → Heap → Prop} {d : DefRec} {K : Params → PySem.W.Frag} (hn : l.most = some 63) (hdf : d.params.defaults = [])
    (hY : ∀ (w : World) (h : Heap), YP w h → (K w.params).In h)
    (F : ∀ (w : World) (mg : Str → Option Value) (fa : Addr) (h : Heap), (K w.params).In h → h.Ns mainGlobals mg → mg d.name = some (.ref fa) →
      ∃ fd : FuncData, (∀ (s : Shared) (u : Value), BindsTo s fd ⟨[u], []⟩ [("script", u)]) ∧ ∀ base : Heap, (K w.params).In base → base.Ns mainGlobals mg → FnOk l.prog w (K w.params) mg base CX0 9 fa fd ["script"] (spLaw (K w.params))) :
    PySem.W.WalkO q loose XP YP l.row.toRowW d [] (fun f vs => PySem.call f vs) :=
  L2.walk_of (n := 63) (k := 9) (x := "script") (CX := fun _ => CX0) (sp := fun w => spLaw (K w.params)) hn (by decide) hdf ⟨rfl, by decide, by decide⟩ hY F (fun _ _ a ns hl _ hS => ⟨a, ns, rfl, hS, hl, fun _ => rfl⟩) fun _ _ _ _ _ z => z
end Vx

open PySem PySem.W PyProof.Rows
set_option Elab.async false
set_option maxRecDepth 100000 in
set_option maxHeartbeats 0 in
theorem PySem.Challenge.cw_dequelogs_k85_errors_made_directly_holds : PySem.Challenge.rw_dequelogs_k85_errors_made_directly.Holds := by
  w_on; o_law; k_head; (case hw => w_witness2)
  k_fill
  refine Vx.walk (l := PySem.Challenge.rw_dequelogs_k85_errors_made_directly) rfl rfl (fun w h Y => PySem.W.kIn_of Y) ?F
  case F =>
    intro w mg fa h KX G hmg
    refine' Vx.all_mk KX G hmg ?a0 ?a1 ?a2 ?a3 ?a4 ?a5 ?a6 ?a7 ?a8 ?a9 ?a10 ?a11 ?a12 ?cb ?nb ?b1 ?l1 ?e1 ?k1 ?b2 ?l2 ?e2 ?k2 ?b3 ?l3 ?e3 ?k3 ?b4 ?l4 ?e4 ?k4 ?b5 ?l5 ?e5 ?k5 ?b6 ?l6 ?e6 ?k6 ?b7 ?l7 ?e7 ?k7 ?i8 ?t8 ?l8 ?e8 ?k8 ?x8 ?y8 ?v8 ?i9 ?t9 ?l9 ?e9 ?k9 ?x9 ?y9 ?v9 ?i10 ?t10 ?l10 ?e10 ?k10 ?x10 ?y10 ?v10
    (case a0 => k_is)
    (case a1 => k_is)
    (case a2 => k_is)
    (case a3 => k_is)
    (case a4 => k_is)
    (case a5 => k_is)
    (case a6 => k_is)
    (case a7 => k_is)
    (case a8 => k_is)
    (case a9 => k_is)
    (case a10 => k_is)
    (case a11 => k_is)
    (case a12 => k_is)
    (case cb => kernel_rfl)
    (case nb => kernel_rfl)
    (case b1 => k_is)
    (case l1 => k_is)
    (case e1 => k_is)
    (case k1 => k_is)
    (case b2 => k_is)
    (case l2 => k_is)
    (case e2 => k_is)
    (case k2 => k_is)
    (case b3 => k_is)
    (case l3 => k_is)
    (case e3 => k_is)
    (case k3 => k_is)
    (case b4 => k_is)
    (case l4 => k_is)
    (case e4 => k_is)
    (case k4 => k_is)
    (case b5 => k_is)
    (case l5 => k_is)
    (case e5 => k_is)
    (case k5 => k_is)
    (case b6 => k_is)
    (case l6 => k_is)
    (case e6 => k_is)
    (case k6 => k_is)
    (case b7 => k_is)
    (case l7 => k_is)
    (case e7 => k_is)
    (case k7 => k_is)
    (case i8 => k_is)
    (case t8 => k_is)
    (case l8 => k_is)
    (case e8 => k_is)
    (case k8 => k_is)
    (case x8 => kernel_rfl)
    (case y8 => k_is)
    (case v8 => decide +kernel)
    (case i9 => k_is)
    (case t9 => k_is)
    (case l9 => k_is)
    (case e9 => k_is)
    (case k9 => k_is)
    (case x9 => kernel_rfl)
    (case y9 => k_is)
    (case v9 => decide +kernel)
    (case i10 => k_is)
    (case t10 => k_is)
    (case l10 => k_is)
    (case e10 => k_is)
    (case k10 => k_is)
    (case x10 => kernel_rfl)
    (case y10 => k_is)
    (case v10 => decide +kernel)
