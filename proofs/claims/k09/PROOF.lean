import PyProof.Rows.All
import Wide.All
import OpenK.AllK
import Wide.FinOn
import HandS.ForMost
import HandS.ForExc
import HandS.Wide
import HandS.Evl
import HandS.Zip
import HandS.IsInst
import HandS.Iter
import PySem.Challenge.RW_dequelogs_k09_whole_one_entry_more
import HandS.DictComp
import HandS.Dict
import HandS.More
import HandS.Strs
import HandS.Style
import PyProof.ReprRoads
import PyProof.ReprLen
import PyProof.P3Eq
import PyProof.Rows.SortShellAny
import HandS.Deep
import HandS.Conv
import HandS.SetFor
import PyProof.Rows.StrInSeq3
import HandS.NoneIn
import HandS.DeepEq
import HandS.ListItems
import HandS.TryOnly
import HandS.Small
set_option Elab.async false
set_option linter.all false
set_option maxRecDepth 100000
set_option maxHeartbeats 4000000
namespace Vx
open PySem PySem.Spec PyProof.Rows L2
/-- a def of the text that keeps its promise, where the module's name holds it -/
structure Good (P : Program) (w : World) (K : PySem.W.Frag) (mg : Str → Option Value) (base : Heap) (k : Nat) (x : Str) (ps : List Str) (sp : Sp) : Prop where
  ex : ∃ f fd, FnOk P w K mg base CX0 k f fd ps sp ∧ mg x = some (.ref f) ∧ PySem.W.keepIn K (.ref f) = true ∧ Binds K fd ps []
/-- a def as it stands behind the top -/
structure Def (K : PySem.W.Frag) (mg : Str → Option Value) (x : Str) (st : Stmt) (ps : List Str) : Prop where
  ex : ∃ f fd, Fun K x x st f fd ∧ mg x = some (.ref f) ∧ Binds K fd ps []
section
variable {P : Program} {w : World} {K : PySem.W.Frag} {mg : Str → Option Value} {base : Heap}
theorem Good.mono {j k : Nat} {x : Str} {ps : List Str} {sp : Sp} (g : Good P w K mg base j x ps sp) (h : j ≤ k) : Good P w K mg base k x ps sp := by
  obtain ⟨f, fd, F, m, kp, b⟩ := g.ex
  exact ⟨f, fd, F.mono h, m, kp, b⟩
theorem Good.imp {k : Nat} {x : Str} {ps : List Str} {sp sp' : Sp} (g : Good P w K mg base k x ps sp) (h : ∀ vs H Q E, sp' vs H Q E → sp vs H Q E) : Good P w K mg base k x ps sp' := by
  obtain ⟨f, fd, F, m, kp, b⟩ := g.ex
  exact ⟨f, fd, F.imp h, m, kp, b⟩
/-- THE RULE of a def that lets nothing out -/
theorem Def.good {x : Str} {st : Stmt} {N ps : List Str} {k : Nat} {sp : Sp} (D : Def K mg x st ps) (S : FnScope N ps (defScope st)) (len : ∀ vs H Q E, sp vs H Q E → vs.length = ps.length)
    (body : ∀ (f : Addr) (cdv : Value) (A : Around) (outer : List Env) (s : Shared) (H : Hp) (vs : List V) (Q : VK) (E : XK), Room k (A.deeper (envOfC x (defScope st) s.heap.objs.size f cdv)) → sp vs H Q E →
      ∃ t, PSs (cxOf CX0 P w K mg base N x (defScope st) f cdv A outer s H E).nox (defBody st) t ∧ t { nx := fun _ H' => Q .non H', rt := Q } (start N vs) H) : Good P w K mg base (k + 1) x ps sp := by
  obtain ⟨f, fd, F, m, b⟩ := D.ex
  exact ⟨f, fd, F.ok S len (fun cdv A outer s H vs Q E hr h => body f cdv A outer s H vs Q E hr h), m, F.kp, b⟩
end
section
variable {X : Cx} {k : Nat} {x : Str} {ps : List Str} {sp : Sp} {p pos : Pos} {e : Expr} {es : List Expr} {t : TA}
theorem pe_fn (g : Good X.prog X.w X.K X.mg X.base k x ps sp) (hr : Room k X.A) (ha : PA X (e :: es) t) (hg : Gl X x := by rfl)
    (hd : (x == ("__debug__" : Str)) = false := by decide) (he : starEach (e :: es) X.env = (false, eval e X.env) :: starEach es X.env := by rfl)
    (hp : (backTo pos (starEach es X.env)).any (·.1) = false := by rfl) : PE X (.Call (.Name x p) (e :: es) [] pos) (tCall sp [] E0 t) := by
  obtain ⟨f, fd, F, m, kp, b⟩ := g.ex
  exact pe_call F hr hg m kp b .nil pass0 ha (hdb := hd) (he := he) (hpl := hp)
end
/-! powers of great ints -/
def CPw (i j : Int) : Prop := 0 ≤ j ∧ j ≤ 100 ∧ i.natAbs < 2 ^ 200
theorem op_pw {X : Cx} : OpR X (binaryOp .Pow) (rI CPw fun i j => .int (i ^ j.toNat)) := opI fun i j _ _ _ _ _ hc q => by
  refine PyProof.Rows.pow_int hc.1 ?_ q
  have h1 : Builtin.Int.intBits i ≤ 201 := by
    have b : Builtin.Int.intBits i ≤ i.natAbs.log2 + 1 := by
      unfold Builtin.Int.intBits
      split <;> omega
    have := PySem.Flt.log2_lt_of (by decide : 0 < 200) hc.2.2
    omega
  have h2 := hc.1
  have h3 := hc.2.1
  have h4 : (Builtin.Int.intBits i : Int) * j ≤ 201 * 100 := by
    refine Int.le_trans (Int.mul_le_mul_of_nonneg_right (Int.ofNat_le.mpr h1) h2) ?_
    omega
  have h5 : (201 : Int) * 100 ≤ 2 ^ 27 := by decide
  omega
end Vx

set_option Elab.async false
set_option linter.all false
set_option maxRecDepth 100000
set_option maxHeartbeats 4000000
namespace Vx
open PySem PySem.Spec PyProof.Rows L2 Evl
/-! [e for a, b in zip(xs, ys)] -/
def rmap (n : Nat) (v : Nat → V) : List V := (List.range n).map v
theorem rmap_succ (n : Nat) (v : Nat → V) : rmap (n + 1) v = rmap n v ++ [v n] := by
  unfold rmap
  rw [List.range_succ, List.map_append]
  rfl
theorem rmap_len (n : Nat) (v : Nat → V) : (rmap n v).length = n := by
  unfold rmap
  rw [List.length_map, List.length_range]
/-- what the comprehension holds behind i turns -/
def Lw (H : Hp) (v : Nat → V) (Dl : Addr) (i : Nat) (H' : Hp) : Prop := H Dl = none ∧ Ex H H' ∧ H' Dl = some (.lst (rmap i v))
theorem lc_pairs {J : It} {g : TG} {te : TE} {vs : List Nat} {σ : L2.St} {H1 : Hp} {Dl : Addr} {Qd : Hp → Prop} {n : Nat} (v : Nat → V) (hn : n < 50000) (hD : H1 Dl = none)
    (hgo : ∀ i H, i < n → Ex H1 H → J.go i H) (hst : ∀ H, Ex H1 H → J.stop n H)
    (hy : ∀ i H x H', i < n → Ex H1 H → H Dl ≠ none → J.yld i H x H' → ∃ σ2, Ex H H' ∧ wipe σ2 vs = wipe σ vs ∧ (∀ Q : L2.St → Hp → Prop, (∀ H2, Ex H' H2 → Q σ2 H2) → g x (wipe σ vs) H' Q) ∧ Ev te σ2 H' (v i))
    (hd : ∀ H, Ex H1 H → H Dl = some (.lst (rmap n v)) → Qd H) :
    ∃ W : Nat → Nat → Hp → Prop, (∃ m, W 0 m (upd H1 Dl (.lst []))) ∧ ∀ i m H, W i m H →
      (J.stop i H ∧ Qd H) ∨ (J.go i H ∧ ∃ Nx : Hp → Prop, (∀ H', Nx H' → ∃ m', m' < m ∧ W (i + 1) m' H') ∧ ∀ x H', J.yld i H x H' → g x (wipe σ vs) H' fun σ2 H2 => wipe σ2 vs = wipe σ vs ∧ tYes σ2 H2 fun b H3 =>
        if b = true then te σ2 H3 fun y H4 => ∃ acc, H4 Dl = some (.lst acc) ∧ acc.length < sizeLine ∧ Nx (upd H4 Dl (.lst (acc ++ [y]))) else Nx H3) := by
  refine ⟨fun i m H => m = n - i ∧ i ≤ n ∧ Lw H1 v Dl i H, ⟨n, by simp, Nat.zero_le _, hD, Ex.new hD, upd_same⟩, ?_⟩
  rintro i m H ⟨rfl, hi, p1, p2, p3⟩
  by_cases hlt : i < n
  · refine .inr ⟨hgo i H hlt p2, Lw H1 v Dl (i + 1), fun H' p' => ⟨n - (i + 1), by omega, rfl, hlt, p'⟩, fun x H' y => ?_⟩
    obtain ⟨σ2, e1, hw, hg, he⟩ := hy i H x H' hlt p2 (by rw [p3]; exact fun z => nomatch z) y
    refine hg _ fun H2 e2 => ⟨hw, ?_⟩
    show te σ2 H2 fun y H4 => ∃ acc, H4 Dl = some (.lst acc) ∧ acc.length < sizeLine ∧ Lw H1 v Dl (i + 1) (upd H4 Dl (.lst (acc ++ [y])))
    refine he H2 e2 _ fun H4 e4 => ⟨rmap i v, e4 _ _ (e2 _ _ (e1 _ _ p3)), sz_lt (by rw [rmap_len]; omega), p1, Ex.mut ((p2.trans e1).trans (e2.trans e4)) p1, ?_⟩
    rw [rmap_succ]
    exact upd_same
  · have e : i = n := by omega
    subst e
    exact .inl ⟨hst H p2, hd H p2 p3⟩
theorem el_lcZ {K : PySem.W.Frag} {a b : Addr} {xs ys : List V} {ta : TA} {te : TE} {j1 j2 : Nat} {vs : List Nat} {σ : L2.St} {H : Hp} (v : Nat → V) (h : EvA ta σ H [.ref a, .ref b])
    (hx : (SqL K H a xs ∧ SqL K H b ys) ∨ (SqT K H a xs ∧ SqT K H b ys)) (hl : xs.length = ys.length) (hz : xs.length < 40000)
    (hw : ∀ x y, wipe (((wipe σ vs).set j1 (some x)).set j2 (some y)) vs = wipe σ vs)
    (he : ∀ i x y H1, Ex H H1 → xs[i]? = some x → ys[i]? = some y → Ev te (((wipe σ vs).set j1 (some x)).set j2 (some y)) H1 (v i)) :
    EvL (tLc (RZ.iZipA K ta) (gTup K 2 (gCons (gName j1) (gCons (gName j2) gNil))) tYes te vs) σ H (rmap xs.length v) := fun H0 e Q q => h H0 e _ fun H1 e1 => by
  have E1 := e.trans e1
  have get : ∀ i, i < xs.length → ∃ x y, xs[i]? = some x ∧ ys[i]? = some y := fun i hi =>
    ⟨_, _, List.getElem?_eq_getElem hi, List.getElem?_eq_getElem (by omega)⟩
  have tg : ∀ (T : Addr) (x y : V) (H' : Hp), H' T = some (.tup [x, y]) → ∀ Q : L2.St → Hp → Prop, (∀ H2, Ex H' H2 → Q (((wipe σ vs).set j1 (some x)).set j2 (some y)) H2) →
      gTup K 2 (gCons (gName j1) (gCons (gName j2) gNil)) (.ref T) (wipe σ vs) H' Q := fun T x y H' ht Q q =>
    ⟨T, [x, y], rfl, SqT.of ht, rfl, x, [y], rfl, y, [], rfl, rfl, q H' (Ex.refl H')⟩
  rcases hx with ⟨hx, hy⟩ | ⟨hx, hy⟩
  · refine ⟨a, b, xs, ys, rfl, Or.inl ⟨ex_l E1 hx, ex_l E1 hy, fun Dl hD => lc_pairs v (by omega) hD (fun i H2 hi e2 => ?_) (fun H2 e2 => ⟨xs, ys, ex_l (E1.trans e2) hx, ex_l (E1.trans e2) hy, Or.inl (Nat.le_refl _)⟩) (fun i H2 z H' hi e2 hDl hyl => ?_) (fun H2 e2 h2 => q Dl H2 (fresh_back e1 hD) (e1.trans e2) h2)⟩⟩
    · obtain ⟨x, y, g1, g2⟩ := get i hi
      exact ⟨xs, ys, x, y, ex_l (E1.trans e2) hx, ex_l (E1.trans e2) hy, g1, g2⟩
    · obtain ⟨T, x, y, rfl, hT, rfl, f1, f2⟩ := hyl
      have eT : Ex H2 (upd H2 T (.tup [x, y])) := Ex.new hT
      exact ⟨_, eT, hw x y, tg T x y _ upd_same, he i x y _ ((E1.trans e2).trans eT) (f1 xs (ex_l (E1.trans e2) hx)) (f2 ys (ex_l (E1.trans e2) hy))⟩
  · refine ⟨a, b, xs, ys, rfl, Or.inr ⟨ex_t E1 hx, ex_t E1 hy, fun Dl hD => lc_pairs v (by omega) hD (fun i H2 hi e2 => ?_) (fun H2 e2 => ⟨xs, ys, ex_t (E1.trans e2) hx, ex_t (E1.trans e2) hy, Or.inl (Nat.le_refl _)⟩) (fun i H2 z H' hi e2 hDl hyl => ?_) (fun H2 e2 h2 => q Dl H2 (fresh_back e1 hD) (e1.trans e2) h2)⟩⟩
    · obtain ⟨x, y, g1, g2⟩ := get i hi
      exact ⟨xs, ys, x, y, ex_t (E1.trans e2) hx, ex_t (E1.trans e2) hy, g1, g2⟩
    · obtain ⟨T, x, y, rfl, hT, rfl, f1, f2⟩ := hyl
      have eT : Ex H2 (upd H2 T (.tup [x, y])) := Ex.new hT
      exact ⟨_, eT, hw x y, tg T x y _ upd_same, he i x y _ ((E1.trans e2).trans eT) (f1 xs (ex_t (E1.trans e2) hx)) (f2 ys (ex_t (E1.trans e2) hy))⟩
end Vx

set_option Elab.async false
set_option linter.all false
set_option maxRecDepth 100000
set_option maxHeartbeats 4000000
namespace Vx
open PySem PySem.Spec PyProof.Rows L2 Evl
/-! types of values, isinstance -/
def TyN (K : PySem.W.Frag) (H : Hp) (x : V) (n : String) : Prop := ∀ H1, Ex H H1 → TyX K H1 x (.type n)
section
variable {K : PySem.W.Frag} {σ : L2.St} {H : Hp} {x : V} {i : Nat} {n : String}
theorem TyN.ex {H' : Hp} (h : TyN K H x n) (e : Ex H H') : TyN K H' x n := fun H1 e1 => h H1 (e.trans e1)
theorem ty_non : TyN K H .non "NoneType" := fun _ _ => .base .non
theorem ty_bl {b : Bool} : TyN K H (.bl b) "bool" := fun _ _ => .base (.bl b)
theorem ty_int {j : Int} : TyN K H (.int j) "int" := fun _ _ => .base (.int j)
theorem ty_str {z : Str} : TyN K H (.str z) "str" := fun _ _ => .base (.str z)
theorem ty_lst {p : Addr} {xs : List V} (h : Rd H p (.lst xs)) : TyN K H (.ref p) "list" := fun _ e => by
  rcases ex_rd e h with h | ⟨o, h⟩
  · exact .base (.lst h)
  · exact .base (.frz h)
theorem ty_tup {p : Addr} {xs : List V} (h : Rd H p (.tup xs)) : TyN K H (.ref p) "tuple" := fun _ e => by
  rcases ex_rd e h with h | ⟨o, h⟩
  · exact .base (.tup h)
  · exact .fTuple h
theorem ty_dict {p : Addr} {kvs : List (Key × V)} (h : Rd H p (.dK kvs)) : TyN K H (.ref p) "dict" := fun _ e => by
  rcases ex_rd e h with h | ⟨o, h⟩
  · exact .base (.dK h)
  · exact .fDict h
theorem ev_isI {b : Bool} {m : String} (hi : σ[i]? = some (some x)) (t : TyN K H x n) (h : kitB n m = some b) : Ev (tCB (rIsi K) (tCons (tVar i) (tCons (tC (.ty m)) tNil))) σ H (.bl b) :=
  ev_cb (ea_cons (ev_var hi) (ea_cons ev_c ea_nil)) fun H1 e1 Q q => ⟨x, .ty m, _, _, b, rfl, .ty m, t H1 e1, kit_ty h, q H1 (Ex.refl H1)⟩
theorem ev_isI2 {b1 b2 : Bool} {m1 m2 : String} (hi : σ[i]? = some (some x)) (t : TyN K H x n) (h1 : kitB n m1 = some b1) (h2 : kitB n m2 = some b2) :
    Ev (tCB (rIsiT K) (tCons (tVar i) (tCons (tTup (tCons (tC (.ty m1)) (tCons (tC (.ty m2)) tNil))) tNil))) σ H (.bl (b1 || b2)) := fun H1 e1 Q q =>
  ⟨x, hi, (by show 2 ≤ sizeLine; decide), fun p hp => ⟨x, p, [.ty m1, .ty m2], _, [.type m1, .type m2], b1 || b2, rfl, upd_same, .cons (.ty m1) (.cons (.ty m2) .nil), t _ (e1.trans (Ex.new hp)),
    kitAny_cons (kit_ty h1) (fun hb => kitAny_cons (kit_ty h2) (fun hc => by rw [hb, hc]; exact kitAny_nil) (fun hc => by rw [hb, hc]; rfl)) (fun hb => by rw [hb]; rfl), q _ (Ex.new hp)⟩⟩
/-- all(xs), xs a new list of bools -/
theorem ev_allN {ta : TE} {bs : List Bool} (ha : EvL ta σ H (bs.map V.bl)) : Ev (tCB (rAll K) (tCons ta tNil)) σ H (.bl (bs.all id)) := fun H1 e Q q =>
  ha H1 e _ fun p H2 _ e2 h2 => ⟨p, bs, rfl, sq_of h2, q H2 e2⟩
theorem rmap_true (n : Nat) : rmap n (fun _ => V.bl true) = (List.replicate n true).map V.bl := by
  unfold rmap
  rw [List.map_replicate, List.map_const', List.length_range]
theorem all_rep (n : Nat) : (List.replicate n true).all id = true := by
  rw [List.all_eq_true]
  intro b hb
  exact (List.mem_replicate.mp hb).2
theorem ev_lenA {ta : TE} {p : Addr} {xs : List V} (ha : Ev ta σ H (.ref p)) (h : SqL K H p xs ∨ SqT K H p xs) : Ev (tCB (rLenS K) (tCons ta tNil)) σ H (.int (xs.length : Int)) := fun H1 e Q q =>
  ha H1 e _ fun H2 e2 => ⟨p, xs, rfl, h.imp (ex_l (e.trans e2)) (ex_t (e.trans e2)), q H2 e2⟩
theorem rv_isN : RV (fun x y H Q => y = .non ∧ Q (.bl (decide (x = .non))) H) x .non H (.bl (decide (x = .non))) := fun H1 _ _ q => ⟨rfl, q H1 (Ex.refl H1)⟩
end
/-! two data that are equal at every depth -/
def atom : V → Bool
  | .non => true
  | .bl _ => true
  | .int _ => true
  | .str _ => true
  | _ => false
def EqS (H : Hp) : Nat → V → V → Prop
  | 0, x, y => x = y ∧ atom x = true
  | n + 1, x, y => (x = y ∧ atom x = true) ∨ ∃ p q xs ys, x = .ref p ∧ y = .ref q ∧ ((Rd H p (.lst xs) ∧ Rd H q (.lst ys)) ∨ (Rd H p (.tup xs) ∧ Rd H q (.tup ys))) ∧ xs.length = ys.length ∧ xs.length < 40000 ∧
      ∀ (i : Nat) (x' y' : V), xs[i]? = some x' → ys[i]? = some y' → EqS H n x' y'
theorem EqS.ex {H H' : Hp} (e : Ex H H') : ∀ {n : Nat} {x y : V}, EqS H n x y → EqS H' n x y
  | 0, _, _, h => h
  | n + 1, x, y, h => by
    rcases h with h | ⟨p, q, xs, ys, h1, h2, h3, h4, h5, h6⟩
    · exact Or.inl h
    · exact Or.inr ⟨p, q, xs, ys, h1, h2, h3.imp (fun z => ⟨ex_rd e z.1, ex_rd e z.2⟩) (fun z => ⟨ex_rd e z.1, ex_rd e z.2⟩), h4, h5, fun i x' y' a b => EqS.ex e (h6 i x' y' a b)⟩
theorem EqS.up {H : Hp} : ∀ {n : Nat} {x y : V}, EqS H n x y → EqS H (n + 1) x y
  | 0, _, _, h => Or.inl h
  | n + 1, x, y, h => by
    rcases h with h | ⟨p, q, xs, ys, h1, h2, h3, h4, h5, h6⟩
    · exact Or.inl h
    · exact Or.inr ⟨p, q, xs, ys, h1, h2, h3, h4, h5, fun i x' y' a b => EqS.up (h6 i x' y' a b)⟩
def spSame (n : Nat) : Sp := fun vs H Q _ => ∃ x y, vs = [x, y] ∧ EqS H n x y ∧ ∀ H', Ex H H' → Q (.bl true) H'
end Vx

set_option Elab.async false
set_option linter.all false
set_option maxRecDepth 100000
set_option maxHeartbeats 4000000
namespace Vx
open PySem PySem.Spec PyProof.Rows L2 Evl
/-! values that are known by what is true of them: of objects of the heap H, and of new ones -/
def Kn (H H1 H2 : Hp) (φ : Hp → Prop) : Prop := ∀ H', Ex H H' → (∀ b o, H1 b = none → H2 b = some o → H' b = some o) → φ H'
theorem Kn.now {H H1 H2 : Hp} {φ : Hp → Prop} (k : Kn H H1 H2 φ) (e : Ex H H1) (e2 : Ex H1 H2) : φ H2 := k H2 (e.trans e2) fun _ _ _ h => h
theorem Kn.ex {H H1 H2 H3 : Hp} {φ : Hp → Prop} (k : Kn H H1 H2 φ) (e : Ex H2 H3) : Kn H H1 H3 φ := fun H' a b => k H' a fun c o n h => b c o n (e _ _ h)
theorem Kn.pre {H H0 H1 H2 : Hp} {φ : Hp → Prop} (k : Kn H H1 H2 φ) (e : Ex H0 H1) : Kn H H0 H2 φ := fun H' a b => k H' a fun c o n h => b c o (fresh_back e n) h
theorem Kn.base {H H0 H1 H2 : Hp} {φ : Hp → Prop} (k : Kn H0 H1 H2 φ) (e : Ex H0 H) : Kn H H1 H2 φ := fun H' a b => k H' (e.trans a) b
theorem Kn.imp {H H1 H2 : Hp} {φ ψ : Hp → Prop} (k : Kn H H1 H2 φ) (h : ∀ H', Ex H H' → φ H' → ψ H') : Kn H H1 H2 ψ := fun H' a b => h H' a (k H' a b)
theorem Kn.of {H H1 H2 : Hp} {φ : Hp → Prop} (h : ∀ H', Ex H H' → φ H') : Kn H H1 H2 φ := fun H' a _ => h H' a
/-- .. apart from what stands at p -/
def KnX (p : Addr) (H H1 H2 : Hp) (φ : Hp → Prop) : Prop := ∀ H', Ex H H' → (∀ b o, b ≠ p → H1 b = none → H2 b = some o → H' b = some o) → φ H'
theorem KnX.kn {p : Addr} {H H1 H2 : Hp} {φ : Hp → Prop} (k : KnX p H H1 H2 φ) : Kn H H1 H2 φ := fun H' a b => k H' a fun c o _ n h => b c o n h
theorem KnX.ex {p : Addr} {H H1 H2 H3 : Hp} {φ : Hp → Prop} (k : KnX p H H1 H2 φ) (e : Ex H2 H3) : KnX p H H1 H3 φ := fun H' a b => k H' a fun c o z n h => b c o z n (e _ _ h)
theorem KnX.pre {p : Addr} {H H0 H1 H2 : Hp} {φ : Hp → Prop} (k : KnX p H H1 H2 φ) (e : Ex H0 H1) : KnX p H H0 H2 φ := fun H' a b => k H' a fun c o z n h => b c o z (fresh_back e n) h
theorem KnX.base {p : Addr} {H H0 H1 H2 : Hp} {φ : Hp → Prop} (k : KnX p H0 H1 H2 φ) (e : Ex H0 H) : KnX p H H1 H2 φ := fun H' a b => k H' (e.trans a) b
theorem KnX.imp {p : Addr} {H H1 H2 : Hp} {φ ψ : Hp → Prop} (k : KnX p H H1 H2 φ) (h : ∀ H', Ex H H' → φ H' → ψ H') : KnX p H H1 H2 ψ := fun H' a b => h H' a (k H' a b)
theorem KnX.of {p : Addr} {H H1 H2 : Hp} {φ : Hp → Prop} (h : ∀ H', Ex H H' → φ H') : KnX p H H1 H2 φ := fun H' a _ => h H' a
/-- the list itself is new: what is known holds without it -/
theorem Kn.out {p : Addr} {H H1 H2 : Hp} {o : HO} {φ : Hp → Prop} (k : Kn H H1 H2 φ) (hp : H2 p = none) : KnX p H H1 (upd H2 p o) φ := fun H' a b => k H' a fun c u n h => b c u (ne_of_none h hp) n (by rw [upd_ne (ne_of_none h hp)]; exact h)
def EvP (te : TE) (σ : L2.St) (H : Hp) (φ : V → Hp → Prop) : Prop := ∀ H1, Ex H H1 → ∀ Q : VK, (∀ v H2, Ex H1 H2 → Kn H H1 H2 (φ v) → Q v H2) → te σ H1 Q
def EvAP (ta : TA) (σ : L2.St) (H : Hp) (φs : List (V → Hp → Prop)) : Prop := ∀ H1, Ex H H1 → ∀ Q : List V → Hp → Prop, (∀ vs H2, Ex H1 H2 → Kn H H1 H2 (fun H' => Paired (fun v φ => φ v H') vs φs) → Q vs H2) → ta σ H1 Q
/-- a new list -/
def EvLP (te : TE) (σ : L2.St) (H : Hp) (P : List V → Hp → Prop) : Prop := ∀ H1, Ex H H1 → ∀ Q : VK, (∀ p vs H2, H1 p = none → Ex H1 H2 → H2 p = some (.lst vs) → KnX p H H1 H2 (P vs) → Q (.ref p) H2) → te σ H1 Q
section
variable {K : PySem.W.Frag} {σ : L2.St} {H H' : Hp} {te : TE} {ta tr : TA} {φ : V → Hp → Prop} {φs : List (V → Hp → Prop)} {P P' : List V → Hp → Prop}
theorem EvP.mono (e : Ex H H') (h : EvP te σ H φ) : EvP te σ H' φ := fun H1 a Q q => h H1 (e.trans a) Q fun v H2 e2 k => q v H2 e2 (k.base e)
theorem EvLP.mono (e : Ex H H') (h : EvLP te σ H P) : EvLP te σ H' P := fun H1 a Q q => h H1 (e.trans a) Q fun p vs H2 n e2 h2 k => q p vs H2 n e2 h2 (k.base e)
theorem evp_of {v : V} (h : Ev te σ H v) (hp : ∀ H', Ex H H' → φ v H') : EvP te σ H φ := fun H1 e Q q => h H1 e Q fun H2 e2 => q v H2 e2 (.of hp)
theorem evp_L {xs : List V} (h : EvL te σ H xs) : EvP te σ H (fun v H' => ∃ p, v = .ref p ∧ H' p = some (.lst xs)) := fun H1 e Q q => h H1 e Q fun p H2 n e2 h2 => q _ H2 e2 fun H' _ b => ⟨p, rfl, b p _ n h2⟩
theorem evp_LP (h : EvLP te σ H P) : EvP te σ H (fun v H' => ∃ p vs, v = .ref p ∧ H' p = some (.lst vs) ∧ P vs H') := fun H1 e Q q => h H1 e Q fun p vs H2 n e2 h2 k => q _ H2 e2 fun H' a b => ⟨p, vs, rfl, b p _ n h2, k.kn H' a b⟩
theorem elp_of {xs : List V} (h : EvL te σ H xs) (hp : ∀ H', Ex H H' → P xs H') : EvLP te σ H P := fun H1 e Q q => h H1 e Q fun p H2 n e2 h2 => q p xs H2 n e2 h2 (.of hp)
theorem EvLP.imp (h : EvLP te σ H P) (f : ∀ vs H', Ex H H' → P vs H' → P' vs H') : EvLP te σ H P' := fun H1 e Q q => h H1 e Q fun p vs H2 n e2 h2 k => q p vs H2 n e2 h2 (k.imp (f vs))
theorem EvP.imp {ψ : V → Hp → Prop} (h : EvP te σ H φ) (f : ∀ v H', Ex H H' → φ v H' → ψ v H') : EvP te σ H ψ := fun H1 e Q q => h H1 e Q fun v H2 e2 k => q v H2 e2 (k.imp (f v))
theorem eap_nil : EvAP tNil σ H [] := fun H1 _ _ q => q [] H1 (Ex.refl H1) fun _ _ _ => .nil
theorem eap_cons (h : EvP te σ H φ) (hr : EvAP tr σ H φs) : EvAP (tCons te tr) σ H (φ :: φs) := fun H1 e Q q =>
  h H1 e _ fun v H2 e2 k2 => hr H2 (e.trans e2) _ fun vs H3 e3 k3 => q _ H3 (e2.trans e3) fun H' a b => .cons ((k2.ex e3) H' a b) ((k3.pre e2) H' a b)
theorem elp_lst (h : EvAP ta σ H φs) (hz : φs.length ≤ 100000) : EvLP (tLst ta) σ H (fun vs H' => Paired (fun v φ => φ v H') vs φs) := fun H1 e Q q =>
  h H1 e _ fun vs H2 e2 k => ⟨sz_of (by rw [Paired.length (k.now e e2)]; exact hz), fun p hp => q p vs _ (fresh_back e2 hp) (e2.trans (Ex.new hp)) upd_same (k.out hp)⟩
theorem elp_cat {ta tb : TE} {l : Addr} {xs : List V} (ha : Ev ta σ H (.ref l)) (hl : H l = some (.lst xs)) (hb : EvLP tb σ H P) (hz : ∀ ys H', P ys H' → xs.length + ys.length ≤ 100000) :
    EvLP (tOp rCat ta tb) σ H (fun vs H' => ∃ ys, vs = xs ++ ys ∧ P ys H') := fun H1 e Q q =>
  ha H1 e _ fun H2 e2 => hb H2 (e.trans e2) _ fun r ys H3 hr e3 h3 k => ⟨l, r, xs, ys, rfl, rfl, e3 _ _ (e2 _ _ (e _ _ hl)), h3, sz_of (hz ys H3 (k.kn.now (e.trans e2) e3)), fun p hp =>
    q p _ _ (fresh_back (e2.trans e3) hp) ((e2.trans e3).trans (Ex.new hp)) upd_same (((k.kn.out hp).pre e2).imp fun H' _ z => ⟨ys, rfl, z⟩)⟩
end
section
variable {D : Ends} {te : TE} {σ : L2.St} {H : Hp} {P : List V → Hp → Prop} {φ : V → Hp → Prop} {i : Nat}
theorem s_asgLP (h : EvLP te σ H P) (k : ∀ p vs H1, H p = none → Ex H H1 → H1 p = some (.lst vs) → KnX p H H H1 (P vs) → D.nx (σ.set i (some (.ref p))) H1) : tAsg te (gName i) D σ H :=
  h H (Ex.refl H) _ fun p vs H1 n e h1 kn => k p vs H1 n e h1 kn
theorem s_asgP (h : EvP te σ H φ) (k : ∀ v H1, Ex H H1 → φ v H1 → D.nx (σ.set i (some v)) H1) : tAsg te (gName i) D σ H := h H (Ex.refl H) _ fun v H1 e kn => k v H1 e (kn.now (Ex.refl H) e)
theorem s_retP (h : EvP te σ H φ) (k : ∀ v H1, Ex H H1 → φ v H1 → D.rt v H1) : tRet te D σ H := h H (Ex.refl H) _ fun v H1 e kn => k v H1 e (kn.now (Ex.refl H) e)
end
/-! comprehensions -/
/-- what is known of H, and of what came between H0 and H1 -/
def mix (H H0 H1 : Hp) : Hp := fun b => match H0 b with | none => H1 b | some _ => H b
theorem mix_ex {H H0 H1 : Hp} (e : Ex H H0) : Ex H (mix H H0 H1) := fun b o h => by
  unfold mix
  rw [e b o h]
  exact h
theorem mix_in {H H0 H1 : Hp} (e : Ex H H0) (e1 : Ex H0 H1) : Ex (mix H H0 H1) H1 := fun b o h => by
  unfold mix at h
  cases q : H0 b with
  | none => rw [q] at h; exact h
  | some u => rw [q] at h; exact e1 _ _ (e _ _ h)
theorem Kn.at_mix {H H0 H1 : Hp} {φ : Hp → Prop} (k : Kn H H0 H1 φ) (e : Ex H H0) : φ (mix H H0 H1) := k _ (mix_ex e) fun b o n h => by
  unfold mix
  rw [n]
  exact h
theorem Kn.unmix {H H0 H1 H2 : Hp} {φ : Hp → Prop} (k : Kn (mix H H0 H1) H1 H2 φ) (e1 : Ex H0 H1) (e2 : Ex H1 H2) : Kn H H0 H2 φ := fun H' a b => by
  refine k H' (fun c o h => ?_) fun c o n h => b c o (fresh_back e1 n) h
  unfold mix at h
  cases q : H0 c with
  | none => rw [q] at h; exact b c o q (e2 _ _ h)
  | some u => rw [q] at h; exact a _ _ h
theorem KnX.unmix {p : Addr} {H H0 H1 H2 : Hp} {φ : Hp → Prop} (k : KnX p (mix H H0 H1) H1 H2 φ) (hp : H1 p = none) (e1 : Ex H0 H1) (e2 : Ex H1 H2) : KnX p H H0 H2 φ := fun H' a b => by
  refine k H' (fun c o h => ?_) fun c o z n h => b c o z (fresh_back e1 n) h
  unfold mix at h
  cases q : H0 c with
  | none => rw [q] at h; exact b c o (ne_of_none h hp) q (e2 _ _ h)
  | some u => rw [q] at h; exact a _ _ h
theorem lc_P {J : It} {g : TG} {te : TE} {vs : List Nat} {σ : L2.St} {B H1 : Hp} {Dl : Addr} {Qd : Hp → Prop} {n : Nat} (Φ : Nat → V → Hp → Prop) (hn : n < 50000) (e0 : Ex B H1) (hD : H1 Dl = none)
    (hgo : ∀ i H2, i < n → Ex H1 H2 → J.go i H2) (hst : ∀ H2, Ex H1 H2 → J.stop n H2)
    (hy : ∀ i H2 x H', i < n → Ex H1 H2 → J.yld i H2 x H' → ∃ σ2, Ex H2 H' ∧ wipe σ2 vs = wipe σ vs ∧ (∀ Q : L2.St → Hp → Prop, (∀ H3, Ex H' H3 → Q σ2 H3) → g x (wipe σ vs) H' Q) ∧ EvP te σ2 B (Φ i))
    (hd : ∀ xs H2, Ex H1 H2 → H2 Dl = some (.lst xs) → KnX Dl B H1 H2 (fun H' => xs.length = n ∧ ∀ i v, xs[i]? = some v → Φ i v H') → Qd H2) :
    ∃ W : Nat → Nat → Hp → Prop, (∃ m, W 0 m (upd H1 Dl (.lst []))) ∧ ∀ i m H2, W i m H2 →
      (J.stop i H2 ∧ Qd H2) ∨ (J.go i H2 ∧ ∃ Nx : Hp → Prop, (∀ H', Nx H' → ∃ m', m' < m ∧ W (i + 1) m' H') ∧ ∀ x H', J.yld i H2 x H' → g x (wipe σ vs) H' fun σ2 H3 => wipe σ2 vs = wipe σ vs ∧ tYes σ2 H3 fun b H4 =>
        if b = true then te σ2 H4 fun y H5 => ∃ acc, H5 Dl = some (.lst acc) ∧ acc.length < sizeLine ∧ Nx (upd H5 Dl (.lst (acc ++ [y]))) else Nx H4) := by
  let Iv : Nat → Hp → Prop := fun i H2 => Ex H1 H2 ∧ ∃ acc, H2 Dl = some (.lst acc) ∧ acc.length = i ∧ ∀ H', Ex B H' → (∀ b o, b ≠ Dl → H1 b = none → H2 b = some o → H' b = some o) → ∀ j v, acc[j]? = some v → Φ j v H'
  refine ⟨fun i m H => m = n - i ∧ i ≤ n ∧ Iv i H, ⟨n, by simp, Nat.zero_le _, Ex.new hD, [], upd_same, rfl, fun _ _ _ j v z => by simp at z⟩, ?_⟩
  rintro i m H2 ⟨rfl, hi, p2, acc, p3, pl, pk⟩
  by_cases hlt : i < n
  · refine .inr ⟨hgo i H2 hlt p2, Iv (i + 1), fun H' p' => ⟨n - (i + 1), by omega, rfl, hlt, p'⟩, fun x H' y => ?_⟩
    obtain ⟨σ2, e1, hw, hg, he⟩ := hy i H2 x H' hlt p2 y
    refine hg _ fun H3 e3 => ⟨hw, ?_⟩
    show te σ2 H3 fun y H5 => ∃ acc, H5 Dl = some (.lst acc) ∧ acc.length < sizeLine ∧ Iv (i + 1) (upd H5 Dl (.lst (acc ++ [y])))
    have E3 : Ex H2 H3 := e1.trans e3
    refine he H3 ((e0.trans p2).trans E3) _ fun v H5 e5 kn => ⟨acc, e5 _ _ (E3 _ _ p3), sz_lt (by omega), Ex.mut ((p2.trans E3).trans e5) hD, _, upd_same, by rw [List.length_append, pl]; rfl, fun Hq eq fr j u hj => ?_⟩
    have fr' : ∀ b o, b ≠ Dl → H1 b = none → H5 b = some o → Hq b = some o := fun b o nb n h => fr b o nb n (by rw [upd_ne nb]; exact h)
    by_cases hji : j < i
    · rw [List.getElem?_append_left (by omega)] at hj
      exact pk Hq eq (fun b o nb n h => fr' b o nb n (e5 _ _ (E3 _ _ h))) j u hj
    · rw [List.getElem?_append_right (by omega)] at hj
      have hz : j - acc.length = 0 := by
        have := (List.getElem?_eq_some_iff.mp hj).1
        simp at this
        omega
      rw [hz] at hj
      have hu : v = u := by simpa using hj
      have hjj : j = i := by omega
      subst hu hjj
      refine kn Hq eq fun b o n h => fr' b o (fun z => ?_) (fresh_back (p2.trans E3) n) h
      rw [z, E3 _ _ p3] at n
      cases n
  · have e : i = n := by omega
    subst e
    exact .inl ⟨hst H2 p2, hd acc H2 p2 p3 fun H' a b => ⟨pl, pk H' a b⟩⟩
section
variable {K : PySem.W.Frag} {σ : L2.St} {H : Hp} {te tl : TE} {P : List V → Hp → Prop} {vs : List Nat} {j : Nat}
/-- over a list that is known -/
theorem elp_lcL {a : Addr} {xs : List V} (Φ : Nat → V → Hp → Prop) (h : Ev tl σ H (.ref a)) (hx : SqL K H a xs) (hz : xs.length < 50000) (hw : ∀ x, wipe ((wipe σ vs).set j (some x)) vs = wipe σ vs)
    (he : ∀ i x, xs[i]? = some x → EvP te ((wipe σ vs).set j (some x)) H (Φ i)) : EvLP (tLc (iList K tl) (gName j) tYes te vs) σ H (fun ys H' => ys.length = xs.length ∧ ∀ i v, ys[i]? = some v → Φ i v H') := fun H0 e Q q => h H0 e _ fun H1 e1 =>
  ⟨a, rfl, ⟨xs, ex_l (e.trans e1) hx⟩, fun Dl hD => lc_P (B := H) Φ hz (e.trans e1) hD (fun i H2 hi e2 => ⟨xs, xs[i], ex_l ((e.trans e1).trans e2) hx, List.getElem?_eq_getElem hi⟩) (fun H2 e2 => ⟨xs, ex_l ((e.trans e1).trans e2) hx, Nat.le_refl _⟩)
    (fun i H2 x H' hi e2 y => by
      obtain ⟨rfl, y⟩ := y
      have hxi := y xs (ex_l ((e.trans e1).trans e2) hx)
      exact ⟨_, Ex.refl _, hw x, fun Q2 q2 => q2 _ (Ex.refl _), he i x hxi⟩)
    (fun ys H2 e2 h2 k => q Dl ys H2 (fresh_back e1 hD) (e1.trans e2) h2 (k.pre e1))⟩
/-- over a new list -/
theorem elp_lcN (Φ : List V → Nat → V → Hp → Prop) (h : EvLP tl σ H P) (hz : ∀ xs H', P xs H' → xs.length < 50000) (hw : ∀ x, wipe ((wipe σ vs).set j (some x)) vs = wipe σ vs)
    (he : ∀ xs B, Ex H B → P xs B → ∀ i x, xs[i]? = some x → EvP te ((wipe σ vs).set j (some x)) B (Φ xs i)) : EvLP (tLc (iList K tl) (gName j) tYes te vs) σ H (fun ys H' => ∃ xs, P xs H' ∧ ys.length = xs.length ∧ ∀ i v, ys[i]? = some v → Φ xs i v H') := fun H0 e Q q => h H0 e _ fun a xs H1 ha e1 hx kn =>
  ⟨a, rfl, ⟨xs, sq_of hx⟩, fun Dl hD => lc_P (B := mix H H0 H1) (Φ xs) (hz xs _ (kn.kn.now e e1)) (mix_in e e1) hD (fun i H2 hi e2 => ⟨xs, xs[i], ex_l e2 (sq_of hx), List.getElem?_eq_getElem hi⟩) (fun H2 e2 => ⟨xs, ex_l e2 (sq_of hx), Nat.le_refl _⟩)
    (fun i H2 x H' hi e2 y => by
      obtain ⟨rfl, y⟩ := y
      have hxi := y xs (ex_l e2 (sq_of hx))
      exact ⟨_, Ex.refl _, hw x, fun Q2 q2 => q2 _ (Ex.refl _), he xs _ (mix_ex e) (kn.kn.at_mix e) i x hxi⟩)
    (fun ys H2 e2 h2 k => q Dl ys H2 (fresh_back e1 hD) (e1.trans e2) h2 fun H' c d => ⟨xs, kn.kn H' c (fun b o n h => d b o (ne_of_none h hD) n (e2 _ _ h)), (k.unmix hD e1 e2) H' c d⟩)⟩
/-- over range(n) -/
theorem elp_lcR {ta : TA} {n : Nat} (Φ : Nat → V → Hp → Prop) (h : EvA ta σ H [.int (n : Int)]) (hz : n < 40000) (hw : ∀ x, wipe ((wipe σ vs).set j (some x)) vs = wipe σ vs)
    (he : ∀ i : Nat, i < n → EvP te ((wipe σ vs).set j (some (.int (i : Int)))) H (Φ i)) : EvLP (tLc (iRng1 ta) (gName j) tYes te vs) σ H (fun ys H' => ys.length = n ∧ ∀ i v, ys[i]? = some v → Φ i v H') := fun H0 e Q q => h H0 e _ fun H1 e1 =>
  ⟨(n : Int), rfl, by omega, by omega, fun Dl hD => lc_P (J := Itr 0 ((n : Int).toNat)) (B := H) Φ (by omega) (e.trans e1) hD (fun i H2 hi e2 => by show i < (n : Int).toNat; omega) (fun H2 e2 => by show (n : Int).toNat ≤ n; omega)
    (fun i H2 x H' hi e2 y => by
      obtain ⟨rfl, rfl⟩ := y
      have e0 : (0 : Int) + (i : Int) = (i : Int) := Int.zero_add _
      rw [e0]
      exact ⟨_, Ex.refl _, hw _, fun Q2 q2 => q2 _ (Ex.refl _), he i hi⟩)
    (fun ys H2 e2 h2 k => q Dl ys H2 (fresh_back e1 hD) (e1.trans e2) h2 (k.pre e1))⟩
/-- over range(n), the items' values -/
theorem el_lcRv {ta : TA} {n : Nat} (v : Nat → V) (h : EvA ta σ H [.int (n : Int)]) (hz : n < 40000) (hw : ∀ x, wipe ((wipe σ vs).set j (some x)) vs = wipe σ vs)
    (he : ∀ i : Nat, i < n → Ev te ((wipe σ vs).set j (some (.int (i : Int)))) H (v i)) : EvL (tLc (iRng1 ta) (gName j) tYes te vs) σ H (rmap n v) := fun H0 e Q q =>
  elp_lcR (fun i u _ => u = v i) h hz hw (fun i hi => evp_of (he i hi) fun _ _ => rfl) H0 e Q fun p ys H2 n2 e2 h2 k => by
    obtain ⟨l, kk⟩ := k.kn.now e e2
    have : ys = rmap n v := by
      refine List.ext_getElem? fun i => ?_
      by_cases hi : i < n
      · have h1 : ys[i]? = some ys[i] := List.getElem?_eq_getElem (by omega)
        rw [h1, kk i _ h1]
        unfold rmap
        rw [List.getElem?_map, List.getElem?_range hi]
        rfl
      · rw [List.getElem?_eq_none (by omega), List.getElem?_eq_none (by rw [rmap_len]; omega)]
    rw [this] at h2
    exact q p H2 n2 e2 h2
end
section
variable {K : PySem.W.Frag} {σ : L2.St} {H : Hp} {te : TE} {ta tb : TA} {D : Ends} {φ ψ : V → Hp → Prop}
/-- a, b = x, y -/
theorem s_parP {i j : Nat} (h : EvAP ta σ H [φ, ψ]) (k : ∀ v u H1, Ex H H1 → Kn H H H1 (fun H' => φ v H' ∧ ψ u H') → D.nx ((σ.set i (some v)).set j (some u)) H1) : tPar i j ta D σ H := h H (Ex.refl H) _ fun vs H1 e kn => by
  have z := kn.now (Ex.refl H) e
  cases z with
  | @cons v _ us _ _ zr =>
    cases zr with
    | @cons u _ us2 _ _ zr2 =>
      cases zr2
      refine ⟨v, u, rfl, k v u H1 e (kn.imp fun H' _ z => ?_)⟩
      cases z with
      | cons a zr =>
        cases zr with
        | cons b _ => exact ⟨a, b⟩
/-- l.append(e), l new since H0, e known by what is true of it without l -/
theorem s_appP {l : Addr} {xs : List V} {H0 : Hp} {tl : TE} (e0 : Ex H0 H) (n : H0 l = none) (hl : H l = some (.lst xs)) (ha : Ev tl σ H (.ref l)) (h : EvP te σ H0 φ) (hz : xs.length < 100000)
    (k : ∀ v H1, Ex H0 H1 → (∀ b o, b ≠ l → H b = some o → H1 b = some o) → H1 l = some (.lst (xs ++ [v])) → φ v H1 → D.nx σ H1) : tDrop (tBM K "list" rAppend tl (tCons te tNil)) D σ H := ha H (Ex.refl H) _ fun H1 e1 =>
  ⟨Or.inl ⟨rfl, xs, sq_of (e1 l _ hl)⟩, h H1 (e0.trans e1) _ fun v H2 e2 kn => ⟨l, xs, v, rfl, rfl, e2 l _ (e1 l _ hl), sz_lt hz, k v _ (Ex.mut ((e0.trans e1).trans e2) n)
    (fun b o nb hb => by rw [upd_ne nb]; exact e2 _ _ (e1 _ _ hb)) upd_same (kn _ (Ex.mut ((e0.trans e1).trans e2) n) fun b o nb hb => by
      have z : b ≠ l := fun z => by
        rw [z, e1 _ _ hl] at nb
        cases nb
      rw [upd_ne z]
      exact hb)⟩⟩
/-- a call, its arguments known by what is true of them -/
theorem ev_callP {sp : Sp} {E : XK} {φs : List (V → Hp → Prop)} {z : V} (h : EvAP ta σ H φs) (hs : ∀ vs H1, Ex H H1 → Paired (fun v φ => φ v H1) vs φs → SpV sp vs H1 z) : Ev (tCall sp [] E ta) σ H z := fun H1 e Q q =>
  h H1 e _ fun vs H2 e2 kn => by
    rw [List.append_nil]
    exact hs vs H2 (e.trans e2) (kn.now e e2) H2 (Ex.refl H2) Q (fun H3 e3 => q H3 (e2.trans e3)) E
/-- x != y of equal data, x a new list -/
theorem ev_neD {r : Addr} {P : List V → Hp → Prop} {tx ty : TE} (d : PyData) (ha : EvLP tx σ H P) (hb : ∀ H', Ex H H' → Ev ty σ H' (.ref r)) (hd : ∀ p vs H', Ex H H' → H' p = some (.lst vs) → P vs H' → Dp K H' (.ref p) d ∧ Dp K H' (.ref r) d)
    (h1 : SeqAt.shaped d = true) (h2 : PyData.eqv d d = true) : Ev (tOp (rNeD K) tx ty) σ H (.bl false) := fun H1 e Q q =>
  ha H1 e _ fun p vs H2 n e2 hp k => hb H2 (e.trans e2) H2 (Ex.refl H2) _ fun H3 e3 => by
    have z := hd p vs H3 ((e.trans e2).trans e3) (e3 _ _ hp) ((k.ex e3).kn.now e (e2.trans e3))
    refine ⟨d, d, z.1, z.2, h1, h1, ?_⟩
    rw [h2]
    exact q H3 (e2.trans e3)
theorem dpAll_of : ∀ {vs : List V} {ds : List PyData}, vs.length = ds.length → (∀ (i : Nat) v d, vs[i]? = some v → ds[i]? = some d → Dp K H v d) → DpAll K H vs ds
  | [], [], _, _ => .nil
  | [], _ :: _, h, _ => by cases h
  | _ :: _, [], h, _ => by cases h
  | v :: vs, d :: ds, h, f => .cons (f 0 v d rfl rfl) (dpAll_of (by simpa using h) fun i u e a b => f (i + 1) u e (by simpa using a) (by simpa using b))
/-- [x] * n -/
theorem el_rep {tl ti : TE} {xs : List V} {n : Nat} (ha : EvL tl σ H xs) (hb : ∀ H', Ex H H' → Ev ti σ H' (.int (n : Int))) (hn : n ≤ 1000) (hz : xs.length * n ≤ 100000) : EvL (tOp rRep tl ti) σ H (List.replicate n xs).flatten := fun H1 e Q q =>
  ha H1 e _ fun l H2 hl e2 h2 => hb H2 (e.trans e2) H2 (Ex.refl H2) _ fun H3 e3 => ⟨l, (n : Int), xs, rfl, rfl, e3 _ _ h2, by omega, by omega, sz_of (by simpa using hz), fun p hp => by
    have : (n : Int).toNat = n := by omega
    rw [this]
    exact q p _ (fresh_back (e2.trans e3) hp) ((e2.trans e3).trans (Ex.new hp)) upd_same⟩
end
end Vx

set_option Elab.async false
set_option linter.all false
set_option maxRecDepth 100000
namespace Vx
open PySem PySem.Spec PyProof.Rows L2
def top (i : Nat) : Stmt := PySem.Challenge.pw_dequelogs_k09_whole_one_entry_more.main.body.getD i (.Pass ⟨0, 0, 0, 0⟩)
abbrev s_DequeError : Stmt := top 1
abbrev s_NoLogs : Stmt := top 2
abbrev s_NoWorker : Stmt := top 3
abbrev s_NoPlace : Stmt := top 4
abbrev s_is_integer : Stmt := top 8
abbrev s_is_name : Stmt := top 9
abbrev s_is_size : Stmt := top 10
abbrev s_is_entry : Stmt := top 11
abbrev s_is_worker : Stmt := top 12
abbrev s_is_place : Stmt := top 13
abbrev s_check_worker : Stmt := top 14
abbrev s_check_place : Stmt := top 15
abbrev s_is_logs : Stmt := top 19
abbrev s_pushes : Stmt := top 20
abbrev s_removals : Stmt := top 21
abbrev s_left_items : Stmt := top 22
abbrev s_open_items : Stmt := top 23
abbrev s_stolen_items : Stmt := top 24
abbrev s_check_logs : Stmt := top 25
abbrev s_is_log : Stmt := top 26
abbrev s_items_fit : Stmt := top 27
abbrev s_removal_fits : Stmt := top 28
abbrev s_all_entries : Stmt := top 29
abbrev s_push_places : Stmt := top 30
abbrev s_steal_places : Stmt := top 31
abbrev s_removal_places : Stmt := top 32
abbrev s_pushed_items : Stmt := top 33
abbrev s_open_lists : Stmt := top 34
abbrev s_law_source : Stmt := top 36
abbrev s_law_pick : Stmt := top 37
abbrev s_law_shuffled : Stmt := top 38
abbrev s_law_words : Stmt := top 39
abbrev s_law_workers : Stmt := top 40
abbrev s_law_logs : Stmt := top 41
abbrev s_law_same : Stmt := top 42
abbrev s_law_told : Stmt := top 43
abbrev s_law_sorted : Stmt := top 44
abbrev s_law_after : Stmt := top 45
abbrev s_law_grown : Stmt := top 46
abbrev s_law : Stmt := top 47
end Vx

set_option Elab.async false
set_option linter.all false
set_option maxRecDepth 100000
set_option maxHeartbeats 4000000
namespace Vx
open PySem PySem.Spec PyProof.Rows L2 Evl
/-- the built-ins that the module leaves as they are -/
structure Bl (mg : Str → Option Value) : Prop where
  len : mg "len" = none
  max : mg "max" = none
  min : mg "min" = none
  abs : mg "abs" = none
  all : mg "all" = none
  zip : mg "zip" = none
  list : mg "list" = none
  tuple : mg "tuple" = none
  dict : mg "dict" = none
  bool : mg "bool" = none
  int : mg "int" = none
  str : mg "str" = none
  range : mg "range" = none
  isinstance : mg "isinstance" = none
  sorted : mg "sorted" = none
  set : mg "set" = none
  enumerate : mg "enumerate" = none
  repr : mg "repr" = none
section
variable {X : Cx} {K : PySem.W.Frag} {a b e : Expr} {ta tb te : TE} {p pos cpos apos : Pos}
theorem x_len (T : Bl X.mg) (ha : PE X a ta) (hK : X.K = K := by rfl) (hg : Gl X "len" := by rfl) (hs : starEach (a :: []) X.env = (false, eval a X.env) :: starEach [] X.env := by rfl) (hp : (backTo pos (starEach [] X.env)).any (·.1) = false := by rfl) : PE X (.Call (.Name "len" p) [a] [] pos) (tCB (rLenS K) (tCons ta tNil)) := by
  subst hK
  exact pe_callB (hc := call_len_seq) (hg := hg) (hm := T.len) (hv := PySem.boot_len) (ha := pa_cons ha pa_nil hs) (he := hs) (hpl := hp)
theorem x_ixl (ha : PE X a ta) (hb : PE X b tb) (hK : X.K = K := by rfl) (hs : PlainIx b := by exact fun _ _ => rfl) : PE X (.Subscript a b pos) (tOp (rIxL K) ta tb) := by
  subst hK
  exact pe_ix ix_list ha hb hs
theorem x_ixt (ha : PE X a ta) (hb : PE X b tb) (hK : X.K = K := by rfl) (hs : PlainIx b := by exact fun _ _ => rfl) : PE X (.Subscript a b pos) (tOp (rIxT K) ta tb) := by
  subst hK
  exact pe_ix ix_tup ha hb hs
theorem x_list (T : Bl X.mg) (ha : PE X a ta) (hK : X.K = K := by rfl) (hg : Gl X "list" := by rfl) (hs : starEach (a :: []) X.env = (false, eval a X.env) :: starEach [] X.env := by rfl) (hp : (backTo pos (starEach [] X.env)).any (·.1) = false := by rfl) : PE X (.Call (.Name "list" p) [a] [] pos) (tCB (rListS K) (tCons ta tNil)) := by
  subst hK
  exact pe_callTy (hc := call_list_of) (hg := hg) (hm := T.list) (hv := by decide +kernel) (ha := pa_cons ha pa_nil hs) (he := hs) (hpl := hp)
theorem x_all (T : Bl X.mg) (ha : PE X a ta) (hc : X.calm = true := by rfl) (hK : X.K = K := by rfl) (hg : Gl X "all" := by rfl) (hs : starEach (a :: []) X.env = (false, eval a X.env) :: starEach [] X.env := by rfl) (hp : (backTo pos (starEach [] X.env)).any (·.1) = false := by rfl) : PE X (.Call (.Name "all" p) [a] [] pos) (tCB (rAll K) (tCons ta tNil)) := by
  subst hK
  exact pe_callB (hc := cr_all hc) (hg := hg) (hm := T.all) (hv := by decide +kernel) (ha := pa_cons ha pa_nil hs) (he := hs) (hpl := hp)
/-- isinstance(e, T), T a built-in type -/
theorem x_isi (m : String) {x : Str} {p2 : Pos} (T : Bl X.mg) (ha : PE X a ta) (hm : X.mg x = none) (hv : bootBuiltins x = some (.type m) := by decide +kernel) (hK : X.K = K := by rfl) (hg : Gl X "isinstance" := by rfl) (hg2 : Gl X x := by rfl) (hx : x ≠ "__name__" := by decide) (hdx : (x == ("__debug__" : Str)) = false := by decide)
    (hs : starEach (a :: [.Name x p2]) X.env = (false, eval a X.env) :: starEach [.Name x p2] X.env := by rfl) (hs2 : starEach [.Name x p2] X.env = (false, eval (.Name x p2) X.env) :: starEach [] X.env := by rfl) (hp : (backTo pos (starEach [.Name x p2] X.env)).any (·.1) = false := by rfl) :
    PE X (.Call (.Name "isinstance" p) [a, .Name x p2] [] pos) (tCB (rIsi K) (tCons ta (tCons (tC (.ty m)) tNil))) := by
  subst hK
  exact pe_callB (hc := call_isi) (hg := hg) (hm := T.isinstance) (hv := by decide +kernel) (ha := pa_cons ha (pa_cons (pe_bltn hg2 hm hv rfl hx hdx) pa_nil hs2) hs) (he := hs) (hpl := hp)
theorem x_pil {tg : Expr} (ha : PE X a ta) (hK : X.K = K := by rfl) : PI X tg a (iList K ta) := by
  subst hK
  exact pi_list ha
theorem x_gt {es : List Expr} {k : Nat} {t : TGs} {n : Nat} {x1 : Pos} (h : PGs X es t) (hc : X.calm = true := by rfl) (hK : X.K = K := by rfl) (hn : (assignEach es X.env).length = n := by rfl) (hst : (assignEach es X.env).findIdx? (·.1) = none := by rfl) : PG X (.Tuple es k x1) (gTup K n t) := by
  subst hK
  exact pg_tup hc h hn hst
theorem x_enum {tpos : Pos} {elts : List Expr} {kk : Nat} (T : Bl X.mg) (ha : PE X a ta) (hK : X.K = K := by rfl) (hg : Gl X "enumerate" := by rfl) (hs : starEach [a] X.env = [(false, eval a X.env)] := by rfl) : PI X (.Tuple elts kk tpos) (.Call (.Name "enumerate" p) [a] [] pos) (iEnum K (tCons ta tNil)) := by
  subst hK
  exact pi_enum hg T.enumerate (pa_cons ha pa_nil hs) hs
theorem x_rng {tg : Expr} {t : TA} (T : Bl X.mg) (ha : PA X [a] t) (hg : Gl X "range" := by rfl) (hs : starEach [a] X.env = [(false, eval a X.env)] := by rfl) : PI X tg (.Call (.Name "range" p) [a] [] pos) (iRng1 t) := pi_range1 hg T.range ha hs
section
variable {o : Expr} {es : List Expr} {to : TE} {t : TA} {name : Str} {T id : String} {r : V → List V → Hp → VK → Prop}
theorem x_bm (pa : PlainAttrs T) (slot : Slot T name id) (hty : typeOf (.builtin id) = pure (.type "method_descriptor")) (hm : MtR X id r) (ho : PE X o to) (ha : PA X (e :: es) t) (hK : X.K = K := by rfl)
    (hb : attributeBase o name X.env (eval o X.env) = eval o X.env := by rfl)
    (hf : ((backTo cpos (starEach (e :: es) X.env)).all (fun x => !x.1) && (backToKw cpos (keywordEach [] X.env)).all (fun x => x.1.isSome) && decide ((e :: es).length + ([] : List Keyword).length + (if ([] : List Keyword).isEmpty then 0 else 1) < 30)) = true := by rfl)
    (hl : (apos.endLine == cpos.line) = true := by rfl) (hs : starEach (e :: es) X.env = (false, eval e X.env) :: starEach es X.env := by rfl) (hp : (backTo cpos (starEach es X.env)).any (·.1) = false := by rfl) :
    PE X (.Call (.Attribute o name apos) (e :: es) [] cpos) (tBM K T r to t) := by
  subst hK
  exact pe_bm pa slot hty hm ho ha hb hf hl hs hp
theorem x_bm0 (pa : PlainAttrs T) (slot : Slot T name id) (hty : typeOf (.builtin id) = pure (.type "method_descriptor")) (hm : MtR X id r) (ho : PE X o to) (hK : X.K = K := by rfl)
    (hb : attributeBase o name X.env (eval o X.env) = eval o X.env := by rfl) (hl : (apos.endLine == cpos.line) = true := by rfl) : PE X (.Call (.Attribute o name apos) [] [] cpos) (tBM0 K T r to) := by
  subst hK
  exact pe_bm0 pa slot hty hm ho hb hl
end
end
/-! what a call leaves that changes the list at p alone -/
def KB (p : Addr) (H H' : Hp) : Prop := ∀ b o, b ≠ p → H b = some o → H' b = some o
theorem KB.refl (p : Addr) (H : Hp) : KB p H H := fun _ _ _ h => h
theorem KB.trans {p : Addr} {H H1 H2 : Hp} (a : KB p H H1) (b : KB p H1 H2) : KB p H H2 := fun c o n h => b c o n (a c o n h)
theorem kb_ex {p : Addr} {H H' : Hp} (e : Ex H H') : KB p H H' := fun c o _ h => e c o h
theorem KB.upd {p : Addr} {H : Hp} {o : HO} : KB p H (upd H p o) := fun c u n h => by rw [upd_ne n]; exact h
theorem KB.ex {p : Addr} {H H' : Hp} (k : KB p H H') (h : H p = none) : Ex H H' := fun c o z => k c o (ne_of_none z h) z
/-- what is known without p stays known -/
theorem KB.base {p : Addr} {H0 H H' : Hp} (k : KB p H H') (e : Ex H0 H) (h : H0 p = none) : Ex H0 H' := fun c o z => k c o (ne_of_none z h) (e c o z)
end Vx

set_option Elab.async false
set_option linter.all false
set_option maxRecDepth 100000
set_option maxHeartbeats 4000000
namespace Vx
open PySem PySem.Spec PyProof.Rows L2 Evl
/-- a source of draws at p -/
def Src (H : Hp) (p : Addr) (n : Nat) : Prop := ∃ a b c : Int, H p = some (.lst [.int a, .int b, .int c]) ∧ 0 ≤ a ∧ 0 ≤ b ∧ b < 10 ^ 39 ∧ 0 ≤ c ∧ c ≤ (n : Int)
def spSource (K : PySem.W.Frag) : Sp := fun vs H Q _ => ∃ (a : Addr) (ns : List Int) (k : Int), vs = [.ref a, .int k] ∧ SqL K H a (ns.map V.int) ∧ 0 ≤ k ∧ k ≤ 1000 ∧
  ∀ p (x y : Int), H p = none → 0 ≤ x → 0 ≤ y → y < 10 ^ 39 → Q (.ref p) (upd H p (.lst [.int x, .int y, .int 0]))
def spPick : Sp := fun vs H Q _ => ∃ (p : Addr) (n : Nat) (m : Int), vs = [.ref p, .int m] ∧ Src H p n ∧ n ≤ 1000000000 ∧ 1 ≤ m ∧ m ≤ 10 ^ 60 ∧
  ∀ (r : Int) xs, 0 ≤ r → r < m → Src (upd H p (.lst xs)) p (n + 1) → Q (.int r) (upd H p (.lst xs))
theorem Src.ex {H H' : Hp} {p : Addr} {n : Nat} (h : Src H p n) (e : Ex H H') : Src H' p n := by
  obtain ⟨a, b, c, h1, h2⟩ := h
  exact ⟨a, b, c, e _ _ h1, h2⟩
theorem Src.le {H : Hp} {p : Addr} {n m : Nat} (h : Src H p n) (e : n ≤ m) : Src H p m := by
  obtain ⟨a, b, c, h1, h2, h3, h4, h5, h6⟩ := h
  exact ⟨a, b, c, h1, h2, h3, h4, h5, by omega⟩
theorem Src.at_ {H : Hp} {p : Addr} {n : Nat} (h : Src H p n) : ∃ xs, H p = some (.lst xs) := by
  obtain ⟨a, b, c, h1, h2⟩ := h
  exact ⟨_, h1⟩
theorem Src.upd {H : Hp} {p q : Addr} {o : HO} {n : Nat} (h : Src H p n) (e : p ≠ q) : Src (upd H q o) p n := by
  obtain ⟨a, b, c, h1, h2⟩ := h
  exact ⟨a, b, c, by rw [upd_ne e]; exact h1, h2⟩
theorem KB.updN {p b : Addr} {H H' : Hp} {o : HO} (k : KB p H H') (h : H b = none ∨ b = p) : KB p H (L2.upd H' b o) := fun c u n z => by
  rcases h with h | h
  · rw [upd_ne (ne_of_none z h)]
    exact k c u n z
  · rw [upd_ne (fun q => n (q.trans h))]
    exact k c u n z
theorem seqIx {r : Int} {n : Nat} (h0 : 0 ≤ r) (h : r < (n : Int)) : seqIndex? r n = some r.toNat := by
  unfold seqIndex?
  simp only [show ¬ r < 0 by omega, if_false]
  simp [h0, h]
theorem perm_erase {α : Type} {xs : List α} {i : Nat} (h : i < xs.length) : ([xs[i]] ++ xs.eraseIdx i).Perm xs := by
  have e : xs = xs.take i ++ xs[i] :: xs.drop (i + 1) := by
    rw [List.getElem_cons_drop, List.take_append_drop]
  rw [List.eraseIdx_eq_take_drop_succ]
  refine List.Perm.trans ?_ (List.Perm.of_eq e.symm)
  exact (List.perm_middle (l₁ := xs.take i) (l₂ := xs.drop (i + 1)) (a := xs[i])).symm
def spShuf (K : PySem.W.Frag) : Sp := fun vs H Q _ => ∃ (s r : Addr) (n : Nat) (row : List V), vs = [.ref s, .ref r] ∧ Src H s n ∧ n + row.length ≤ 1000000000 ∧ SqL K H r row ∧ row.length ≤ 10000 ∧
  ∀ p ys H', H p = none → KB s H H' → Src H' s (n + row.length) → H' p = some (.lst ys) → ys.Perm row → Q (.ref p) H'
section
variable {P : Program} {w : World} {K : PySem.W.Frag} {mg : Str → Option Value} {base : Heap}
theorem sc_law_source : FnScope ["script", "k", "cell"] ["script", "k"] (defScope s_law_source) := ⟨rfl, rfl, rfl, by decide +kernel, rfl, by decide +kernel, by decide +kernel⟩
theorem ok_law_source (D : Def K mg "_law_source" s_law_source ["script", "k"]) (T : Bl mg) : Good P w K mg base 1 "_law_source" ["script", "k"] (spSource K) := by
  refine D.good sc_law_source (fun vs H Q E h => ?_) (fun f cdv A outer s H vs Q E hr h => ?_)
  · obtain ⟨a, ns, k, rfl, _⟩ := h
    rfl
  · obtain ⟨a, ns, k, rfl, hS, k0, k1, q⟩ := h
    refine ⟨_, Evl.pss_cut (ps_set (i := 2) sc_law_source.nd rfl (Or.inl rfl) (pe_ifExp (pt_cmpR op_lt (pv 1) (pe_callB call_len_seq (by rfl) T.len PySem.boot_len (pa_cons (pv 0) pa_nil)) (nomark _)) (pe_ix ix_list (pv 0) (pv 1) (fun _ _ => rfl)) pe_int))
      (pss_one (ps_ret (pe_lst (pa_cons (pe_callB (call_max2 rfl) (by rfl) T.max (by decide +kernel) (pa_cons pe_int (pa_cons (pe_op op_sub (pe_callB call_abs (by rfl) T.abs (by decide +kernel) (pa_cons (pv 2) pa_nil)) (pe_op op_pw pe_int pe_int)) pa_nil)))
        (pa_cons (pe_op op_add (pe_op op_add (pe_op op_mul (pe_op op_mod (pe_callB call_abs (by rfl) T.abs (by decide +kernel) (pa_cons (pv 2) pa_nil)) (pe_op op_add (pe_op op_pw pe_int pe_int) pe_int)) pe_int) (pv 1)) pe_int)
          (pa_cons pe_int pa_nil)))))), ?_⟩
    refine ⟨fun σ' H' => ∃ c : Int, σ' = [some (.ref a), some (.int k), some (.int c)] ∧ H' = H, ?_, ?_⟩
    · refine ⟨_, rfl, _, rfl, a, _, rfl, Or.inl hS, _, _, rfl, rfl, _, rfl, ?_⟩
      rw [List.length_map]
      refine ite2 (fun hk => ?_) (fun _ => ⟨0, rfl, rfl⟩)
      have hk' : k < (ns.length : Int) := of_decide_eq_true hk
      obtain ⟨j, rfl⟩ : ∃ j : Nat, k = (j : Int) := ⟨k.toNat, by omega⟩
      have hj : j < ns.length := by omega
      refine ⟨_, rfl, _, rfl, a, _, _, V.int (ns[j]), rfl, rfl, hS, atI_nat (by rw [List.getElem?_map, List.getElem?_eq_getElem hj]; rfl), ⟨_, rfl, rfl⟩⟩
    · rintro σ' H' ⟨c, rfl, rfl⟩
      refine ⟨_, rfl, _, rfl, 10, 18, rfl, rfl, ⟨by decide, by decide, by decide⟩, _, _, rfl, rfl, _, _, rfl, ?_⟩
      refine ⟨_, rfl, _, rfl, 10, 36, rfl, rfl, ⟨by decide, by decide, by decide⟩, _, _, rfl, rfl, _, _, rfl, rfl, (show (0 : Int) < 10 ^ 36 + 67 by decide), ?_⟩
      refine ⟨_, _, rfl, rfl, Or.inr ⟨by decide, by decide⟩, _, rfl, _, _, rfl, rfl, _, _, rfl, rfl, (by show 3 ≤ sizeLine; decide), fun p hp => ?_⟩
      have e := Int.emod_lt_of_pos (if c < 0 then -c else c) (show (0 : Int) < 10 ^ 36 + 67 by decide)
      have e0 := Int.emod_nonneg (if c < 0 then -c else c) (show (10 : Int) ^ 36 + 67 ≠ 0 by decide)
      refine q p _ _ hp ?_ ?_ ?_
      · split <;> omega
      · generalize hz : (if c < 0 then -c else c) % (10 ^ 36 + 67) = z at e e0
        show (0 : Int) ≤ (if c < 0 then -c else c) % (10 ^ 36 + 67) * 128 + k + 5
        rw [hz]
        omega
      · generalize hz : (if c < 0 then -c else c) % (10 ^ 36 + 67) = z at e e0
        show (if c < 0 then -c else c) % (10 ^ 36 + 67) * 128 + k + 5 < 10 ^ 39
        rw [hz]
        omega
theorem sc_law_pick : FnScope ["source", "count", "found", "mixed"] ["source", "count"] (defScope s_law_pick) := ⟨rfl, rfl, rfl, by decide +kernel, rfl, by decide +kernel, by decide +kernel⟩
theorem ok_law_pick (D : Def K mg "_law_pick" s_law_pick ["source", "count"]) : Good P w K mg base 1 "_law_pick" ["source", "count"] spPick := by
  refine D.good sc_law_pick (fun vs H Q E h => ?_) (fun f cdv A outer s H vs Q E hr h => ?_)
  · obtain ⟨p, n, m, rfl, _⟩ := h
    rfl
  · obtain ⟨p, n, m, rfl, ⟨a, b, c, hp, a0, b0, b1, c0, c1⟩, hn, m0, m1, q⟩ := h
    refine ⟨_, pss_cons (ps_if (pt_cmpR op_gt (pe_ix ix_list (pv 0) pe_int (fun _ _ => rfl)) pe_int (nomark _))
        (pss_cons (ps_set (i := 2) sc_law_pick.nd rfl (Or.inl rfl) (pe_op op_mod (pe_ix ix_list (pv 0) pe_int (fun _ _ => rfl)) (pv 1)))
        (pss_cons (ps_asg (pe_op op_fdivW (pe_ix ix_list (pv 0) pe_int (fun _ _ => rfl)) (pv 1)) (pg_sub (pv 0) pe_int set_list))
        (pss_one (ps_ret (pv 2))))) pss_nil)
      (pss_cons (ps_asg (pe_op op_add (pe_ix ix_list (pv 0) pe_int (fun _ _ => rfl)) pe_int) (pg_sub (pv 0) pe_int set_list))
      (pss_cons (ps_set (i := 3) sc_law_pick.nd rfl (Or.inl rfl) (pe_op op_mod (pe_op op_pw (pe_op op_add (pe_ix ix_list (pv 0) pe_int (fun _ _ => rfl)) (pe_op op_mul pe_int (pe_ix ix_list (pv 0) pe_int (fun _ _ => rfl)))) pe_int) (pe_op op_add (pe_op op_pw pe_int pe_int) pe_int)))
      (pss_cons (ps_set (i := 3) sc_law_pick.nd rfl (Or.inl rfl) (pe_op op_mod (pe_op op_pw (pe_op op_add (pv 3) (pe_op op_mul pe_int (pe_ix ix_list (pv 0) pe_int (fun _ _ => rfl)))) pe_int) (pe_op op_add (pe_op op_pw pe_int pe_int) pe_int)))
      (pss_one (ps_ret (pe_op op_mod (pe_op op_fdiv (pv 3) pe_int) (pv 1))))))), ?_⟩
    refine ⟨_, rfl, p, _, _, V.int a, rfl, rfl, SqL.of hp, rfl, _, _, rfl, rfl, _, rfl, ?_⟩
    refine ite2 (fun ha => ?_) (fun _ => ?_)
    · have ha : 0 < a := of_decide_eq_true ha
      refine ⟨_, rfl, p, _, _, V.int a, rfl, rfl, SqL.of hp, rfl, _, rfl, a, m, rfl, rfl, (by omega), ?_⟩
      refine ⟨_, rfl, p, _, _, V.int a, rfl, rfl, SqL.of hp, rfl, _, rfl, a, m, rfl, rfl, wide_div (b := 200) (by omega) (by omega) (by decide) (by decide), ?_⟩
      refine ⟨_, rfl, p, _, _, 0, rfl, rfl, hp, rfl, _, rfl, ?_⟩
      refine q _ _ (Int.emod_nonneg _ (by omega)) (Int.emod_lt_of_pos _ (by omega)) ⟨_, b, c, upd_same, ?_, b0, b1, c0, by omega⟩
      exact Int.ediv_nonneg (by omega) (by omega)
    · refine ⟨_, rfl, p, _, _, V.int c, rfl, rfl, SqL.of hp, rfl, _, _, rfl, rfl, ?_⟩
      refine ⟨_, rfl, p, _, _, 2, rfl, rfl, hp, rfl, ?_⟩
      generalize hH : upd H p (.lst ([V.int a, V.int b, V.int c].set 2 (V.int (c + 1)))) = H1
      have h1 : H1 p = some (.lst [.int a, .int b, .int (c + 1)]) := by rw [← hH]; exact upd_same
      have pos1 : (0 : Int) < 10 ^ 38 + 133 := by decide
      have pos2 : (0 : Int) < 10 ^ 37 + 43 := by decide
      refine ⟨_, rfl, p, _, _, V.int b, rfl, rfl, SqL.of h1, rfl, _, rfl, p, _, _, V.int (c + 1), rfl, rfl, SqL.of h1, rfl, _, _, rfl, rfl, Or.inl ⟨by decide, by decide⟩, _, _, rfl, rfl, ?_⟩
      refine ⟨_, 3, rfl, rfl, ⟨by decide, by decide, by omega⟩, 10, 38, rfl, rfl, ⟨by decide, by decide, by decide⟩, _, _, rfl, rfl, _, _, rfl, rfl, pos1, ?_⟩
      generalize hx : ((b + 49979687 * (c + 1)) ^ Int.toNat 3 % (10 ^ Int.toNat 38 + 133)) = x
      have x0 : 0 ≤ x := by rw [← hx]; exact Int.emod_nonneg _ (by decide)
      have x1 : x < 10 ^ 38 + 133 := by rw [← hx]; exact Int.emod_lt_of_pos _ pos1
      refine ⟨_, rfl, _, rfl, p, _, _, V.int (c + 1), rfl, rfl, SqL.of h1, rfl, _, _, rfl, rfl, Or.inl ⟨by decide, by decide⟩, _, _, rfl, rfl, ?_⟩
      refine ⟨_, 3, rfl, rfl, ⟨by decide, by decide, by omega⟩, 10, 37, rfl, rfl, ⟨by decide, by decide, by decide⟩, _, _, rfl, rfl, _, _, rfl, rfl, pos2, ?_⟩
      refine ⟨_, rfl, _, _, rfl, rfl, ⟨by decide, by decide⟩, _, rfl, _, _, rfl, rfl, (show (0 : Int) < m by omega), ?_⟩
      rw [← hH]
      refine q _ _ (Int.emod_nonneg _ (by omega)) (Int.emod_lt_of_pos _ (by omega)) ⟨a, b, c + 1, upd_same, a0, b0, b1, by omega, by omega⟩
theorem sc_law_shuffled : FnScope ["source", "row", "left", "k"] ["source", "row"] (defScope s_law_shuffled) := ⟨rfl, rfl, rfl, by decide +kernel, rfl, by decide +kernel, by decide +kernel⟩
theorem ok_law_shuffled (D : Def K mg "_law_shuffled" s_law_shuffled ["source", "row"]) (T : Bl mg) (G_law_pick : Good P w K mg base 1 "_law_pick" ["source", "count"] spPick) : Good P w K mg base 2 "_law_shuffled" ["source", "row"] (spShuf K) := by
  refine D.good sc_law_shuffled (fun vs H Q E h => ?_) (fun f cdv A outer s H vs Q E hr h => ?_)
  · obtain ⟨s, r, n, row, rfl, _⟩ := h
    rfl
  · obtain ⟨s, r, n, row, rfl, hs, hn, hrow, hz, q⟩ := h
    have hu := hu_of hr
    refine ⟨_, (pss_cons (ps_set (i := 2) sc_law_shuffled.nd rfl (Or.inr rfl) (x_list (K := K) T (pv 1)))
      (pss_one (ps_ret (pe_lc (own := [("k", 3)]) (g := (gName 3)) (tt := tYes) rfl sc_law_shuffled.nd (x_rng T (pa_cons (x_len (K := K) T (pv 1)) pa_nil)) (blkOk_by (N := ["source", "row", "left", "k"]) (sc := (defScope s_law_shuffled)) (by decide +kernel)) (fun _ _ _ _ _ => (pg_name (i := 3) sc_law_shuffled.nd rfl (Or.inl rfl))) (fun _ _ _ _ _ => pts_nil) (fun _ _ _ _ _ => (x_bm (K := K) PySem.F.plainAttrs_list PySem.F.slot_list_pop PySem.F.type_list_pop mt_popAt (pv 2) (pa_cons (pe_fn G_law_pick hr (pa_cons (pv 0) (pa_cons (x_len (K := K) T (pv 2)) pa_nil))) pa_nil))))))), ?_⟩
    have rs : H r ≠ none ∨ True := Or.inr trivial
    refine s_asgL (el_list (ev_var rfl) hrow) (fun pl H1 n1 e1 w1 => ?_)
    have e2 := Ex.refl H1
    refine ⟨_, rfl, r, row, rfl, .inl (ex_l e1 hrow), (row.length : Int), rfl, by omega, by omega, fun Dl hD => ?_⟩
    have E2 := e1
    obtain ⟨xs0, hs0⟩ := hs.at_
    have nsl : s ≠ pl := ne_of_none hs0 n1
    have nDl : pl ≠ Dl := ne_of_none (e2 _ _ w1) hD
    have nDs : s ≠ Dl := ne_of_none (E2 _ _ hs0) hD
    have hDH : H Dl = none := fresh_back E2 hD
    refine lc_range (lo := 0) (n := (row.length : Int).toNat) (fun i H' => KB s H H' ∧ Src H' s (n + i) ∧ ∃ xs acc, H' pl = some (.lst xs) ∧ H' Dl = some (.lst acc) ∧ (acc ++ xs).Perm row ∧ acc.length = i)
      ⟨kb_ex (E2.trans (Ex.new hD)), (hs.ex E2).ex (Ex.new hD), row, [], by rw [upd_ne nDl]; exact e2 _ _ w1, upd_same, List.Perm.refl _, rfl⟩ (fun i H' hi p => ?_) (fun H' p => ?_)
    · obtain ⟨k1, s1, xs, acc, h1, h2, h3, h4⟩ := p
      have hlen := h3.length_eq
      rw [List.length_append] at hlen
      refine ⟨rfl, ?_⟩
      refine ⟨_, rfl, .inl ⟨rfl, _, SqL.of h1⟩, _, rfl, _, rfl, pl, xs, rfl, .inl (SqL.of h1), s, n + i, (xs.length : Int), rfl, s1, by omega, by omega, by omega, fun d ys d0 dm s2 => ?_⟩
      have hd : d.toNat < xs.length := by omega
      refine ⟨pl, xs, d, d.toNat, xs[d.toNat], rfl, rfl, by rw [upd_ne nsl.symm]; exact h1, by omega, by omega, seqIx d0 dm, List.getElem?_eq_getElem hd, acc, by rw [upd_ne nDl.symm, upd_ne nDs.symm]; exact h2, sz_lt (by omega), ?_⟩
      refine ⟨((k1.updN (Or.inr rfl)).updN (Or.inl n1)).updN (Or.inl hDH), ((s2.upd nsl).upd nDs), xs.eraseIdx d.toNat, acc ++ [xs[d.toNat]], by rw [upd_ne nDl, upd_same], upd_same, ?_, by rw [List.length_append, h4]; rfl⟩
      refine List.Perm.trans ?_ h3
      rw [List.append_assoc]
      refine List.Perm.append_left _ ?_
      exact perm_erase hd
    · obtain ⟨k1, s1, xs, acc, h1, h2, h3, h4⟩ := p
      have hlen := h3.length_eq
      rw [List.length_append] at hlen
      have hx : xs = [] := List.length_eq_zero_iff.mp (by omega)
      subst hx
      rw [List.append_nil] at h3
      refine q Dl acc H' hDH k1 (s1.le (by omega)) h2 h3
end
end Vx

set_option Elab.async false
set_option linter.all false
set_option maxRecDepth 100000
set_option maxHeartbeats 4000000
namespace Vx
open PySem PySem.Spec PyProof.Rows L2 Evl
/-! xs[a:] = ys -/
section
variable {prog : Program} {w : World} {A : Around} {E : Value → Shared → Prop} {s : Shared}
theorem bounds_tail {a n : Nat} (h : a ≤ n) : sliceBounds (some (a : Int)) none none n = ((a : Int), (n : Int), 1) := by
  obtain ⟨h1, h2, h3⟩ := slice_bounds (some (a : Int)) none n
  refine Prod.ext (h1.trans ?_) (Prod.ext (h2.trans ?_) h3)
  · simp only [HT.sIx]
    have hn : ¬ ((a : Int) < 0) := by omega
    simp only [hn, if_false]
    omega
  · rfl
theorem tail_store {p q sl : Addr} {old new : Array Value} {m m2 : Nat} {lo : Value} {a : Nat} {R : Unit → Shared → Prop}
    (hp : s.heap.get? p = some { cls := .type "list", data := .seq old m }) (hq : s.heap.get? q = some { cls := .type "list", data := .seq new m2 }) (hpq : p ≠ q)
    (hsl : s.heap.IsSliceOf sl lo .none .none) (hlo : IsPart lo (some (a : Int))) (ha : a ≤ old.size)
    (hz : old.size + new.size ≤ sizeLine) (fin : R () { s with heap := s.heap.update p (Obj.mapSeq fun vs => vs.extract 0 a ++ new ++ vs.extract old.size vs.size) }) :
    wpAny (model prog w) A (setItem (.ref p) (.ref sl) (.ref q)) R E s := by
  have lp : s.heap.IsList p old := PySem.IsL.isList hp
  have lq : s.heap.IsList q new := PySem.IsL.isList hq
  obtain ⟨os, gs, cs, ds⟩ := id hsl
  have isSl : s.TypeIs (.ref sl) "slice" := ⟨os, gs, cs⟩
  have other : Builtin.List.listSameRef (.ref p) (.ref q) = false := by unfold Builtin.List.listSameRef; exact beq_eq_false_iff_ne.mpr hpq
  have up : (max (a : Int) (old.size : Int)).toNat = old.size := by omega
  have hz2 : ((fun vs : Array Value => vs.extract 0 a ++ new ++ vs.extract old.size vs.size) old).size ≤ sizeLine + 1 := by simp only [Array.size_append, Array.size_extract]; omega
  unfold setItem; try with_reducible refine wpAny_holding ?_
  first | refine wpAny_bind (wpAny_pure ?_) | skip
  refine wpAny_bind (wpAny_sequenceKey lp.typeIs (by decide) ?_)
  refine wpAny_bind (wpAny_callSpecial?_slot (name := Str.ofString "__setitem__") lp.typeIs slot_list_setitem (wpAny_call_entry slot_list_setitem lp.typeIs entry_list_setitem ?_ (args_list_setitem _ _ _)))
  show wpAny _ _ (Builtin.List.listSubscript? (.ref sl) >>= _) _ _ s; refine wpAny_bind ?_
  unfold Builtin.List.listSubscript?; refine wpAny_bind (wpAny_specialOf isSl slice_no_index ?_)
  simp only [Option.isNone_none, if_true]; refine wpAny_pure ?_
  show wpAny _ _ (typeOf (.ref sl) >>= _) _ _ s; refine wpAny_bind (wpAny_typeOf isSl ?_)
  refine PySem.W.KFB.if_not (by decide) ?_; rw [listSliceParts_eq]
  refine wpAny_bind (wpAny_bind (wpAny_field gs ds (x := .none) rfl (wpAny_bind (wpAny_listPart .none ?_))))
  rw [if_neg (show ¬ ((rawPart none == rawInt 0) = true) from Bool.false_ne_true)]
  refine wpAny_bind (wpAny_field gs ds (x := lo) rfl (wpAny_bind (wpAny_listPart hlo ?_)))
  refine wpAny_bind (wpAny_field gs ds (x := .none) rfl (wpAny_bind (wpAny_listPart .none (wpAny_pure ?_))))
  first
    | simp only [other, Bool.false_eq_true, if_false]
    | refine PySem.W.KFB.if_not other ?_
    | (dsimp only; rw [if_neg (by rw [other]; exact Bool.false_ne_true)])
  refine wpAny_bind (m := Builtin.List.listAllItems (.ref q) "must assign iterable to extended slice") ?_
  unfold Builtin.List.listAllItems; refine wpAny_bind (wpAny_typeOf lq.typeIs ?_)
  refine PySem.W.KFB.if_so (by decide) ?_; unfold Builtin.List.listItems
  refine wpAny_bind (wpAny_seqItems hq rfl (wpAny_pure ?_)); refine wpAny_bind (wpAny_bind (wpAny_seqItems hp rfl (wpAny_pure ?_)))
  refine wpAny_bind (wpAny_of_eq ((sliceIndices_raw (some (a : Int)) none none old.size (by simp)).trans (congrArg (pure : Int × Int × Int → Sem (Int × Int × Int)) (bounds_tail ha))) ?_)
  show wpAny _ _ (if ((1 : Int) == 1) = true then _ else _) _ _ s; rw [if_pos (by decide)]
  refine wpAny_bind (wpAny_rule ?_)
  first
    | simp only [notLongL hz, Bool.false_eq_true, if_false]
    | refine PySem.W.KFB.if_not (notLongL hz) ?_
  first | refine wpAny_bind (wpAny_pure ?_) | skip
  show wpAny _ _ (updateSeq p (fun vs => vs.extract 0 ((a : Int)).toNat ++ new ++ vs.extract (max (a : Int) (old.size : Int)).toNat vs.size) >>= _) _ _ s
  rw [up, Int.toNat_natCast]
  refine wpAny_bind (wpAny_updateSeq (hz := Nat.le_trans (Nat.le_add_right _ _) hz) (_hz' := hz2) hp rfl ?_); refine wpAny_bind (wpAny_letGo ?_)
  first
    | exact wpAny_bind (wpAny_pure (wpAny_pure ⟨.none, rfl, wpAny_pure fin⟩))
    | exact wpAny_pure ⟨.none, rfl, wpAny_pure fin⟩
end
section
variable {X : Cx}
/-- o[lo:] = v, both lists -/
def gTail (to : TE) (tl : TO) : TG := fun v σ H Q => to σ H fun o H1 => tl σ H1 fun l H2 => ∃ p q xs ys a, o = .ref p ∧ v = .ref q ∧ l = some ((a : Nat) : Int) ∧ p ≠ q ∧ H2 p = some (.lst xs) ∧ H2 q = some (.lst ys) ∧ a ≤ xs.length ∧ xs.length + ys.length ≤ sizeLine ∧ Q σ (upd H2 p (.lst (xs.take a ++ ys)))
theorem pg_tail {o : Expr} {lo : Option Expr} {to : TE} {tl : TO} {pos p2 : Pos} (ho : PE X o to) (hl : PO X lo tl)
    (ha : ∀ v, assign (.Subscript o (.Slice lo none none p2) pos) X.env v = (do
      let x ← holding [v] (eval o X.env)
      let i ← holding [v, x] (eval (.Slice lo none none p2) X.env)
      standAt pos
      holding [v, x, i] (setItem x i v)
      release [i, v, x] []) := by intro _; rfl) : PG X (.Subscript o (.Slice lo none none p2) pos) (gTail to tl) := by
  refine ⟨fun pins s σ H v u Q I r h => ?_⟩
  rw [ha]
  refine wpAny_bind (wpAny_holding (thn (ho.run pins s σ H _ I h) fun ov s1 ⟨x, H1, I1, r1, q1⟩ => ?_))
  refine wpAny_bind (wpAny_holding (wpAny_Slice (thn (hl.run pins s1 σ H1 _ I1 q1) fun vl s2 ⟨l, H2, I2, pl, q2⟩ => ?_)))
  rw [evalPart_none]; refine wpAny_pure (wpAny_pure ?_)
  have I4 : Inv X pins σ H2 { s2 with heap := s2.heap.push { cls := .type "slice", data := .fields #[vl, .none, .none] } } := I2.kept (t' := s2.toks) fun b ob q => Heap.get?_push_of_some _ q
  obtain ⟨p, q, xs, ys, a, rfl, rfl, rfl, hpq, hp, hq, hle, hz, fin⟩ := q2
  cases r1
  cases r
  refine wpAny_bind (wpAny_standAt (wpAny_bind (wpAny_holding ?_)))
  obtain ⟨z, its, n, rv, hlen, e⟩ := I4.lstM hp
  obtain ⟨z2, its2, n2, rv2, hlen2, e2⟩ := I4.lstM hq
  refine tail_store (a := a) e e2 hpq (Heap.IsSliceOf.new ..) pl (by rw [List.size_toArray]; omega) (by rw [List.size_toArray, List.size_toArray]; omega) ?_
  refine wpAny_release ⟨σ, _, ?_, fin⟩
  refine I4.lset (its' := its.take a ++ its2) (t' := s2.toks) hp e ?_ (Vals.append (rv.take _) rv2) ?_
  · have h1 := splice_eq its its2 a its.toArray.size
    have h2 : its.drop its.toArray.size = [] := by rw [List.size_toArray]; exact List.drop_length
    rw [h2, List.append_nil] at h1
    exact h1
  · rw [List.length_append, List.length_take]
    omega
end
end Vx

set_option Elab.async false
set_option linter.all false
set_option maxRecDepth 100000
set_option maxHeartbeats 4000000
namespace Vx
open PySem PySem.Spec PyProof.Rows L2 Evl
/-! readings that draw from a source at s: B is what is known without it -/
theorem KB.fresh {s b : Addr} {H H' : Hp} (k : KB s H H') (h : ∃ xs, H' s = some (.lst xs)) (n : H' b = none) : H b = none := by
  obtain ⟨xs, h⟩ := h
  cases q : H b with
  | none => rfl
  | some o =>
    have nb : b ≠ s := fun z => by rw [z, h] at n; cases n
    rw [k b o nb q] at n
    cases n
def hid (s : Addr) (H : Hp) : Hp := fun b => if b = s then none else H b
theorem hid_s (s : Addr) (H : Hp) : hid s H s = none := if_pos rfl
theorem hid_ne {s b : Addr} {H : Hp} (h : b ≠ s) : hid s H b = H b := if_neg h
theorem hid_ex (s : Addr) (H : Hp) : Ex (hid s H) H := fun b o h => by
  unfold hid at h
  split at h
  · cases h
  · exact h
theorem KB.hid {s : Addr} {H H' : Hp} (k : KB s H H') : Ex (hid s H) H' := fun b o h => by
  unfold Vx.hid at h
  split at h
  · cases h
  · exact k b o (by assumption) h
theorem kb_of_hid {s : Addr} {H H' : Hp} (k : Ex (hid s H) H') : KB s H H' := fun b o n h => k b o (by rw [hid_ne n]; exact h)
def EvK (s : Addr) (c : Nat) (te : TE) (σ : L2.St) (B : Hp) (P : V → Prop) : Prop := ∀ (H1 : Hp) (n : Nat), Ex B H1 → Src H1 s n → n + c ≤ 1000000000 → ∀ Q : VK, (∀ v H2, KB s H1 H2 → Src H2 s (n + c) → P v → Q v H2) → te σ H1 Q
def EvKA (s : Addr) (c : Nat) (ta : TA) (σ : L2.St) (B : Hp) (Ps : List (V → Prop)) : Prop := ∀ (H1 : Hp) (n : Nat), Ex B H1 → Src H1 s n → n + c ≤ 1000000000 → ∀ Q : List V → Hp → Prop, (∀ vs H2, KB s H1 H2 → Src H2 s (n + c) → Paired (fun v P => P v) vs Ps → Q vs H2) → ta σ H1 Q
def EvKL (s : Addr) (c : Nat) (te : TE) (σ : L2.St) (B : Hp) (P : List V → Prop) : Prop := ∀ (H1 : Hp) (n : Nat), Ex B H1 → Src H1 s n → n + c ≤ 1000000000 → ∀ Q : VK, (∀ p vs H2, H1 p = none → KB s H1 H2 → Src H2 s (n + c) → H2 p = some (.lst vs) → P vs → Q (.ref p) H2) → te σ H1 Q
section
variable {K : PySem.W.Frag} {σ : L2.St} {B : Hp} {s : Addr} {c d : Nat} {te tf : TE} {ta : TA} {P P' : V → Prop} {Ps : List (V → Prop)}
theorem ek_of {v : V} (h : Ev te σ B v) (hp : P v) : EvK s 0 te σ B P := fun H1 n e S _ Q q => h H1 e _ fun H2 e2 => q v H2 (kb_ex e2) (S.ex e2) hp
theorem EvK.imp (h : EvK s c te σ B P) (f : ∀ v, P v → P' v) : EvK s c te σ B P' := fun H1 n e S b Q q => h H1 n e S b Q fun v H2 k S2 p => q v H2 k S2 (f v p)
theorem ek_pick {j : Nat} {m : Int} (hs : B s = none) (hj : σ[j]? = some (some (.ref s))) (he : EvK s c te σ B (fun v => v = .int m)) (h1 : 1 ≤ m) (h2 : m ≤ 10 ^ 60) :
    EvK s (c + 1) (tCall spPick [] E0 (tCons (tVar j) (tCons te tNil))) σ B (fun v => ∃ r : Int, v = .int r ∧ 0 ≤ r ∧ r < m) := fun H1 n e S b Q q =>
  ⟨.ref s, hj, he H1 n e S (by omega) _ fun v H2 k S2 p => by
    subst p
    refine ⟨s, n + c, m, rfl, S2, by omega, h1, h2, fun r xs r0 r1 S3 => q _ _ (k.trans KB.upd) S3 ⟨r, rfl, r0, r1⟩⟩⟩
theorem ek_op {r : R2} (hs : B s = none) (ha : EvK s c te σ B P) (hb : EvK s d tf σ B P') {P2 : V → Prop} (hr : ∀ x y, P x → P' y → ∃ z, P2 z ∧ RV r x y B z) : EvK s (c + d) (tOp r te tf) σ B P2 := fun H1 n e S b Q q =>
  ha H1 n e S (by omega) _ fun x H2 k S2 p => hb H2 (n + c) (k.base e hs) S2 (by omega) _ fun y H3 k3 S3 p' => by
    obtain ⟨z, pz, hz⟩ := hr x y p p'
    exact hz H3 (k3.base (k.base e hs) hs) _ fun H4 e4 => q z H4 ((k.trans k3).trans (kb_ex e4)) ((S3.ex e4).le (by omega)) pz
theorem eka_nil : EvKA s 0 tNil σ B [] := fun H1 n e S b Q q => q [] H1 (KB.refl _ _) S .nil
theorem eka_cons (hs : B s = none) (h : EvK s c te σ B P) (hr : EvKA s d ta σ B Ps) : EvKA s (c + d) (tCons te ta) σ B (P :: Ps) := fun H1 n e S b Q q =>
  h H1 n e S (by omega) _ fun x H2 k S2 p => hr H2 (n + c) (k.base e hs) S2 (by omega) _ fun vs H3 k3 S3 ps => q _ H3 (k.trans k3) (S3.le (by omega)) (.cons p ps)
theorem ekl_lst (hs : B s = none) (h : EvKA s c ta σ B Ps) (hz : Ps.length ≤ 100000) : EvKL s c (tLst ta) σ B (fun vs => Paired (fun v P => P v) vs Ps) := fun H1 n e S b Q q =>
  h H1 n e S b _ fun vs H2 k S2 ps => ⟨sz_of (by rw [Paired.length ps]; exact hz), fun p hp => by
    obtain ⟨xs, h2⟩ := S2.at_
    have np : p ≠ s := fun z => by rw [z, h2] at hp; cases hp
    exact q p vs _ (k.fresh ⟨xs, h2⟩ hp) (k.trans (kb_ex (Ex.new hp))) (S2.upd np.symm) upd_same ps⟩
/-- a new list at an int -/
theorem ek_ixL {PL : List V → Prop} (hs : B s = none) (ha : EvKL s c te σ B PL) (hb : EvK s d tf σ B P') {P2 : V → Prop} (hr : ∀ xs y, PL xs → P' y → ∃ i z, y = .int i ∧ atI xs i = some z ∧ P2 z) : EvK s (c + d) (tOp (rIxL K) te tf) σ B P2 := fun H1 n e S b Q q =>
  ha H1 n e S (by omega) _ fun p xs H2 np k S2 h2 pl => hb H2 (n + c) (k.base e hs) S2 (by omega) _ fun y H3 k3 S3 p' => by
    obtain ⟨i, z, rfl, hz, pz⟩ := hr xs y pl p'
    obtain ⟨ys, h1⟩ := S.at_
    have ne : p ≠ s := fun z => by rw [z, h1] at np; cases np
    exact ⟨p, xs, i, z, rfl, rfl, sq_of (k3 _ _ ne h2), hz, q z H3 (k.trans k3) (S3.le (by omega)) pz⟩
end
section
variable {D : Ends} {te : TE} {σ : L2.St} {H : Hp} {s : Addr} {c n : Nat} {P : V → Prop} {PL : List V → Prop} {i j : Nat} {ta : TA} {tz : TS}
/-- i = e -/
theorem sk_asg (hs : Src H s n) (h : EvK s c te σ (hid s H) P) (hn : n + c ≤ 1000000000) (k : ∀ v H1, KB s H H1 → Src H1 s (n + c) → P v → D.nx (σ.set i (some v)) H1) : tAsg te (gName i) D σ H :=
  h H n (hid_ex s H) hs hn _ fun v H1 kb S p => k v H1 kb S p
theorem sk_asgL (hs : Src H s n) (h : EvKL s c te σ (hid s H) PL) (hn : n + c ≤ 1000000000) (k : ∀ p vs H1, H p = none → KB s H H1 → Src H1 s (n + c) → H1 p = some (.lst vs) → PL vs → D.nx (σ.set i (some (.ref p))) H1) : tAsg te (gName i) D σ H :=
  h H n (hid_ex s H) hs hn _ fun p vs H1 np kb S h1 pl => k p vs H1 np kb S h1 pl
/-- i, j = e, f -/
theorem sk_par {P1 P2 : V → Prop} (hs : Src H s n) (h : EvKA s c ta σ (hid s H) [P1, P2]) (hn : n + c ≤ 1000000000) (k : ∀ v u H1, KB s H H1 → Src H1 s (n + c) → P1 v → P2 u → D.nx ((σ.set i (some v)).set j (some u)) H1) : tPar i j ta D σ H :=
  h H n (hid_ex s H) hs hn _ fun vs H1 kb S ps => by
    cases ps with
    | @cons v _ us _ p1 zr =>
      cases zr with
      | @cons u _ us2 _ p2 zr2 =>
        cases zr2
        exact ⟨v, u, rfl, k v u H1 kb S p1 p2⟩
end
/-! words -/
def IsNm (z : Str) : Prop := 1 ≤ z.length ∧ z.length ≤ 8 ∧ ∀ c ∈ z.cps.toList, 97 ≤ c ∧ c ≤ 122
def wd (st k : Nat) : List Nat := match st with
  | 0 => [97 + k / 26, 97 + k % 26]
  | 1 => [97, 98, 99, 100, 101, 102, 97 + k / 26, 97 + k % 26]
  | _ => if k ≤ 25 then [97 + k % 26] else [97 + (k / 26 - 1), 97 + k % 26]
def wdS (st k : Nat) : Str := ⟨(wd st k).toArray⟩
theorem wdS_cps (st k : Nat) : (wdS st k).cps.toList = wd st k := rfl
theorem wd_inj {st a b : Nat} (h : wd st a = wd st b) : a = b := by
  unfold wd at h
  split at h
  · simp only [List.cons.injEq, and_true] at h
    omega
  · simp only [List.cons.injEq, and_true, true_and] at h
    omega
  · split at h <;> split at h <;> simp only [List.cons.injEq, and_true, reduceCtorEq, and_false] at h <;> omega
theorem wdS_inj {st a b : Nat} (h : wdS st a = wdS st b) : a = b := wd_inj (by rw [← wdS_cps, ← wdS_cps, h])
theorem wdS_len (st k : Nat) : (wdS st k).length = 1 ∨ (wdS st k).length = 2 ∨ (wdS st k).length = 8 := by
  show (wd st k).toArray.size = 1 ∨ (wd st k).toArray.size = 2 ∨ (wd st k).toArray.size = 8
  rw [List.size_toArray]
  unfold wd
  split
  · exact Or.inr (Or.inl rfl)
  · exact Or.inr (Or.inr rfl)
  · split
    · exact Or.inl rfl
    · exact Or.inr (Or.inl rfl)
theorem wdS_nm {st k : Nat} (hk : k < 676) : IsNm (wdS st k) := by
  refine ⟨by rcases wdS_len st k with h | h | h <;> omega, by rcases wdS_len st k with h | h | h <;> omega, ?_⟩
  intro c hc
  rw [wdS_cps] at hc
  unfold wd at hc
  split at hc
  · simp only [List.mem_cons, List.mem_nil_iff, or_false] at hc
    omega
  · simp only [List.mem_cons, List.mem_nil_iff, or_false] at hc
    omega
  · split at hc <;> simp only [List.mem_cons, List.mem_nil_iff, or_false] at hc <;> omega
def wds (st m : Nat) : List Str := (List.range m).map (wdS st)
theorem wds_len (st m : Nat) : (wds st m).length = m := by
  unfold wds
  rw [List.length_map, List.length_range]
theorem wds_succ (st m : Nat) : wds st (m + 1) = wds st m ++ [wdS st m] := by
  unfold wds
  rw [List.range_succ, List.map_append]
  rfl
theorem wds_nd (st m : Nat) : (wds st m).Nodup := by
  unfold wds List.Nodup
  rw [List.pairwise_map]
  refine List.Pairwise.imp ?_ (List.pairwise_lt_range (n := m))
  intro a b h e
  have := wdS_inj e
  omega
theorem wds_nm {st m : Nat} (hm : m ≤ 676) : ∀ z ∈ wds st m, IsNm z := by
  intro z hz
  unfold wds at hz
  obtain ⟨k, hk, rfl⟩ := List.mem_map.mp hz
  exact wdS_nm (by have := List.mem_range.mp hk; omega)
def kw4 : List Str := ["steal", "push", "size", "pop"]
theorem wds_kw (st m a : Nat) : ((wds st m).take a ++ kw4).Nodup := by
  refine List.nodup_append.mpr ⟨(List.take_sublist _ _).nodup (wds_nd st m), by decide +kernel, ?_⟩
  intro x hx y hy e
  subst e
  have h1 := List.mem_of_mem_take hx
  unfold wds at h1
  obtain ⟨k, _, rfl⟩ := List.mem_map.mp h1
  have h2 : ∀ z ∈ kw4, z.length = 3 ∨ z.length = 4 ∨ z.length = 5 := by decide +kernel
  have := h2 _ hy
  rcases wdS_len st k with h | h | h <;> omega
theorem kw_nm : ∀ z ∈ kw4, IsNm z := by
  have h2 : ∀ z ∈ kw4, 1 ≤ z.length ∧ z.length ≤ 8 ∧ ∀ c ∈ z.cps.toList, 97 ≤ c ∧ c ≤ 122 := by decide +kernel
  exact h2
end Vx
namespace Vx
open PySem PySem.Spec PyProof.Rows L2 Evl
/-! tests that draw -/
def EvKT (s : Addr) (c : Nat) (t : TT) (σ : L2.St) (B : Hp) (P : Bool → Prop) : Prop := ∀ (H1 : Hp) (n : Nat), Ex B H1 → Src H1 s n → n + c ≤ 1000000000 → ∀ Q : Bool → Hp → Prop, (∀ b H2, KB s H1 H2 → Src H2 s (n + c) → P b → Q b H2) → t σ H1 Q
section
variable {σ : L2.St} {B : Hp} {s : Addr} {c d : Nat} {te : TE} {t u : TT} {P : V → Prop} {P1 P2 : Bool → Prop}
theorem ekt_test (h : EvK s c te σ B P) (hp : ∀ v, P v → ∃ b, v = .bl b ∧ P1 b) : EvKT s c (tTest te) σ B P1 := fun H1 n e S b Q q => h H1 n e S b _ fun v H2 k S2 p => by
  obtain ⟨b, rfl, pb⟩ := hp v p
  exact ⟨b, rfl, q b H2 k S2 pb⟩
theorem ekt_and {a : Bool} (h1 : EvT t σ B a) (h2 : a = true → EvKT s c u σ B P1) : EvKT s c (tAnd t u) σ B (fun b => b = true → a = true ∧ P1 true) := fun H1 n e S b Q q => h1 H1 e _ fun H2 e2 => by
  cases a with
  | true =>
    show u σ H2 Q
    exact h2 rfl H2 n (e.trans e2) (S.ex e2) b Q fun b H3 k3 S3 p => q b H3 ((kb_ex e2).trans k3) S3 fun z => ⟨rfl, by rw [← z]; exact p⟩
  | false =>
    show Q false H2
    exact q false H2 (kb_ex e2) ((S.ex e2).le (by omega)) (fun z => nomatch z)
theorem sk_if {D : Ends} {H : Hp} {n : Nat} {tu tw : TS} (hs : Src H s n) (h : EvKT s c t σ (hid s H) P1) (hn : n + c ≤ 1000000000) (h1 : ∀ H1, KB s H H1 → Src H1 s (n + c) → P1 true → tu D σ H1) (h2 : ∀ H1, KB s H H1 → Src H1 s (n + c) → P1 false → tw D σ H1) : tIfS t tu tw D σ H :=
  h H n (hid_ex s H) hs hn _ fun b H1 k S p => by
    cases b with
    | true =>
      show tu D σ H1
      exact h1 H1 k S p
    | false =>
      show tw D σ H1
      exact h2 H1 k S p
theorem rv_addS {H : Hp} {i j : Str} (h : i.length + j.length ≤ 100000) : RV (fun x y H Q => ∃ i j, x = V.str i ∧ y = V.str j ∧ i.length + j.length ≤ sizeLine ∧ Q (.str (i ++ j)) H) (.str i) (.str j) H (.str (i ++ j)) := fun H1 _ _ q => ⟨i, j, rfl, rfl, sz_of h, q H1 (Ex.refl H1)⟩
end
theorem strcat (a b : List Nat) : (⟨a.toArray⟩ : Str) ++ ⟨b.toArray⟩ = ⟨(a ++ b).toArray⟩ := by
  show Str.mk (a.toArray ++ b.toArray) = _
  simp
def abc : Str := "abcdefghijklmnopqrstuvwxyz"
theorem abc_cps : abc.cps.toList = (List.range 26).map (97 + ·) := by decide +kernel
theorem abc_at {i : Int} {j : Nat} (hj : j < 26) (e : i = (j : Int)) : atI abc.cps.toList i = some (97 + j) := by
  rw [e]
  refine atI_nat ?_
  rw [abc_cps, List.getElem?_map, List.getElem?_range hj]
  rfl
end Vx
namespace Vx
open PySem PySem.Spec PyProof.Rows L2 Evl
theorem Src.kb {H H' : Hp} {s p : Addr} {n : Nat} (h : Src H s n) (k : KB p H H') (e : s ≠ p) : Src H' s n := by
  obtain ⟨a, b, c, h1, h2⟩ := h
  exact ⟨a, b, c, k s _ e h1, h2⟩
end Vx

set_option Elab.async false
set_option linter.all false
set_option maxRecDepth 100000
set_option maxHeartbeats 4000000
namespace Vx
open PySem PySem.Spec PyProof.Rows L2 Evl
def spWords (K : PySem.W.Frag) : Sp := fun vs H Q _ => ∃ (s : Addr) (n m : Nat), vs = [.ref s, .int (m : Int)] ∧ Src H s n ∧ n + 2 ≤ 1000000000 ∧ m ≤ 676 ∧
  ∀ p (ws : List Str) H', H p = none → KB s H H' → Src H' s (n + 2) → H' p = some (.lst (ws.map V.str)) → ws.length = m → ws.Nodup → (∀ z ∈ ws, IsNm z) → Q (.ref p) H'
section
variable {P : Program} {w : World} {K : PySem.W.Frag} {mg : Str → Option Value} {base : Heap}
theorem sc_law_words : FnScope ["source", "size", "letters", "style", "found", "k", "short"] ["source", "size"] (defScope s_law_words) := ⟨rfl, rfl, rfl, by decide +kernel, rfl, by decide +kernel, by decide +kernel⟩
theorem ok_law_words (D : Def K mg "_law_words" s_law_words ["source", "size"]) (T : Bl mg) (G_law_pick : Good P w K mg base 1 "_law_pick" ["source", "count"] spPick) : Good P w K mg base 2 "_law_words" ["source", "size"] (spWords K) := by
  refine D.good sc_law_words (fun vs H Q E h => ?_) (fun f cdv A outer s H vs Q E hr h => ?_)
  · obtain ⟨s, n, m, rfl, _⟩ := h
    rfl
  · obtain ⟨s, n, m, rfl, hs, hn, hm, q⟩ := h
    have hu := hu_of hr
    refine ⟨_, (pss_cons (ps_set (i := 2) sc_law_words.nd rfl (Or.inl rfl) pe_str)
      (pss_cons (ps_set (i := 3) sc_law_words.nd rfl (Or.inl rfl) (pe_fn G_law_pick hr (pa_cons (pv 0) (pa_cons pe_int pa_nil))))
      (pss_cons (ps_set (i := 4) sc_law_words.nd rfl (Or.inl rfl) (pe_lst pa_nil))
      (pss_cons (ps_for PassesOwn.never rfl (x_rng T (pa_cons (pv 1) pa_nil)) (pg_name (i := 5) sc_law_words.nd rfl (Or.inl rfl)) (pss_cons (ps_set (i := 6) sc_law_words.nd rfl (Or.inl rfl) (pe_ix ix_str (pv 2) (pe_op op_mod (pv 5) pe_int) (fun _ _ => rfl)))
      (pss_cons (ps_if (pt_cmpR op_gt (pv 5) pe_int (nomark _)) (pss_one (ps_set (i := 6) sc_law_words.nd rfl (Or.inl rfl) (pe_op op_add_str (pe_ix ix_str (pv 2) (pe_op op_sub (pe_op op_fdiv (pv 5) pe_int) pe_int) (fun _ _ => rfl)) (pv 6)))) pss_nil)
      (pss_one (ps_expr (x_bm (K := K) PySem.F.plainAttrs_list PySem.F.slot_list_append PySem.F.type_list_append mt_append (pv 4) (pa_cons (x_ixl (K := K) (pe_lst (pa_cons (pe_op op_add_str (pe_ix ix_str (pv 2) (pe_op op_fdiv (pv 5) pe_int) (fun _ _ => rfl)) (pe_ix ix_str (pv 2) (pe_op op_mod (pv 5) pe_int) (fun _ _ => rfl))) (pa_cons (pe_op op_add_str (pe_op op_add_str pe_str (pe_ix ix_str (pv 2) (pe_op op_fdiv (pv 5) pe_int) (fun _ _ => rfl))) (pe_ix ix_str (pv 2) (pe_op op_mod (pv 5) pe_int) (fun _ _ => rfl))) (pa_cons (pv 6) pa_nil)))) (pv 3)) pa_nil)))))))
      (pss_cons (ps_if (pw_and (pt_cmpR op_gt (pv 1) pe_int (nomark _)) (pw_and1 (pt_cmpR op_eq (pe_fn G_law_pick hr (pa_cons (pv 0) (pa_cons pe_int pa_nil))) pe_int (nomark _)))).pt (pss_one (ps_asg (pe_lst (pa_cons pe_str (pa_cons pe_str (pa_cons pe_str (pa_cons pe_str pa_nil))))) (pg_tail (pv 4) (po_some (pe_op op_sub (pv 1) pe_int))))) pss_nil)
      (pss_one (ps_ret (pv 4)))))))), ?_⟩
    have ab : abc.length ≤ 100000 := by decide +kernel
    have le1 : ∀ a : Nat, (⟨#[a]⟩ : Str).length = 1 := fun _ => rfl
    refine q_asg (v := .str abc) ev_c fun H1 e1 => ?_
    refine sk_asg (c := 1) (hs.ex e1) (ek_pick (m := 3) (hid_s _ _) rfl (ek_of ev_c rfl) (by decide) (by decide)) (by omega) fun v H2 k2 S2 p2 => ?_
    obtain ⟨r, rfl, r0, r1⟩ := p2
    obtain ⟨st, rfl⟩ : ∃ st : Nat, r = (st : Int) := ⟨r.toNat, by omega⟩
    refine q_asgL (el_lst ea_nil (by decide)) fun pf H3 n3 e3 h3 => ?_
    have K3 : KB s H H3 := (kb_ex e1).trans (k2.trans (kb_ex e3))
    have S3 := S2.ex e3
    obtain ⟨xs2, hs2⟩ := S2.at_
    have nsf : s ≠ pf := ne_of_none hs2 n3
    have nH : H pf = none := fresh_back e1 (k2.fresh ⟨_, hs2⟩ n3)
    refine q_forR1 (ea_cons (ev_var rfl) ea_nil) ⟨by omega, by omega⟩ (fun i σ' H' => (∃ a b, σ' = [some (.ref s), some (.int m), some (.str abc), some (.int st), some (.ref pf), a, b]) ∧ KB pf H3 H' ∧ H' pf = some (.lst ((wds st i).map V.str)))
      (fun H4 e4 => ⟨⟨_, _, rfl⟩, kb_ex e4, e4 _ _ h3⟩) (fun i σ' H' hi p => ?_) (fun σ' H' p => ?_)
    · obtain ⟨⟨a, b, rfl⟩, kb, hf⟩ := p
      have hi : i < m := by omega
      have hdiv : i / 26 < 26 := by omega
      refine q_asg (v := .str ⟨#[97 + i % 26]⟩) (ev_op (ev_var rfl) (ev_op (ev_var rfl) ev_c (rv_I (by decide))) (rv_ixS ab (abc_at (by omega) (by omega)))) fun H4 e4 => ?_
      refine q_ifAsg (b := decide (25 < (i : Int))) (v := .str (wdS 2 i)) (et_test (ev_op (ev_var rfl) ev_c rv_I0)) (fun hb => ?_) (fun hb => ?_) fun H5 e5 => ?_
      · have hb : 25 < (i : Int) := of_decide_eq_true hb
        refine ev_is (ev_op (ev_op (ev_var rfl) (ev_op (ev_op (ev_var rfl) ev_c (rv_I ⟨by decide, by decide⟩)) ev_c rv_I0) (rv_ixS ab (abc_at (j := i / 26 - 1) (by omega) (by omega)))) (ev_var rfl) (rv_addS (by rw [le1, le1]; decide))) ?_
        rw [strcat [_] [_]]
        unfold wdS wd
        rw [if_neg (by omega)]
        rfl
      · have hb : ¬ 25 < (i : Int) := of_decide_eq_false hb
        have e : wdS 2 i = ⟨#[97 + i % 26]⟩ := by
          unfold wdS wd
          rw [if_pos (by omega)]
          rfl
        rw [e]
        rfl
      · have E5 := e4.trans e5
        have l26 : ∀ {σ : L2.St} {H : Hp}, σ[2]? = some (some (.str abc)) → σ[5]? = some (some (.int (i : Int))) → Ev (tOp rIxS (tVar 2) (tOp (rI CDiv fun i j => .int (i / j)) (tVar 5) (tC (.int 26)))) σ H (.str ⟨#[97 + i / 26]⟩) :=
          fun h1 h2 => ev_op (ev_var h1) (ev_op (ev_var h2) ev_c (rv_I ⟨by decide, by decide⟩)) (rv_ixS ab (abc_at hdiv (by omega)))
        have m26 : ∀ {σ : L2.St} {H : Hp}, σ[2]? = some (some (.str abc)) → σ[5]? = some (some (.int (i : Int))) → Ev (tOp rIxS (tVar 2) (tOp (rI (fun _ j => 0 < j) fun i j => .int (i % j)) (tVar 5) (tC (.int 26)))) σ H (.str ⟨#[97 + i % 26]⟩) :=
          fun h1 h2 => ev_op (ev_var h1) (ev_op (ev_var h2) ev_c (rv_I (by decide))) (rv_ixS ab (abc_at (by omega) (by omega)))
        have hz : ((wds st i).map V.str).length < 100000 := by rw [List.length_map, wds_len]; omega
        refine s_app (v := .str (wdS st i)) (E5 _ _ hf) (ev_var rfl) ?_ hz fun H6 e6 => ⟨⟨_, _, rfl⟩, (kb.trans (kb_ex (E5.trans e6))).trans KB.upd, ?_⟩
        · refine ev_opL1 (xs := [.str (wdS 0 i), .str (wdS 1 i), .str (wdS 2 i)]) (el_lst (ea_cons (ev_is (ev_op (l26 rfl rfl) (m26 rfl rfl) (rv_addS (by rw [le1, le1]; decide))) ?_) (ea_cons (ev_is (ev_op (ev_op ev_c (l26 rfl rfl) (rv_addS (by rw [le1]; decide +kernel))) (m26 rfl rfl) (rv_addS ?_)) ?_) (ea_cons (ev_var rfl) ea_nil))) (by show 3 ≤ 100000; decide)) (fun _ _ => ev_var rfl) fun p H7 h7 _ => rv_ixL (sq_of h7) ?_
          · rw [strcat [_] [_]]
            rfl
          · have : (("abcdef" : Str) ++ (⟨#[97 + i / 26]⟩ : Str)).length = 7 := by
              rw [PySem.Str.length_append, le1]
              decide +kernel
            rw [this, le1]
            decide
          · have e6 : ("abcdef" : Str) = ⟨[97, 98, 99, 100, 101, 102].toArray⟩ := by decide +kernel
            rw [e6, strcat _ [_], strcat _ [_]]
            rfl
          · refine atI_nat ?_
            rcases st with _ | _ | _ | st
            · rfl
            · rfl
            · rfl
            · omega
        · rw [wds_succ, List.map_append]
          exact upd_same
    · obtain ⟨⟨a, b, rfl⟩, kb, hf⟩ := p
      rw [Int.toNat_natCast] at hf
      have S4 : Src H' s (n + 1) := S3.kb kb nsf
      have K4 : KB s H H' := fun c o nc z => kb c o (ne_of_none z nH) (K3 c o nc z)
      refine sk_if (c := 1) (P1 := fun b => b = true → 7 < m) S4 ?_ (by omega) (fun H5 k5 S5 h7 => ?_) (fun H5 k5 S5 _ => ?_)
      · intro H1 n1 e1 S1 b1 Q q1
        exact ekt_and (P1 := fun _ => True) (et_test (ev_op (ev_var rfl) ev_c rv_I0)) (fun _ => ekt_test (ek_op (c := 1) (d := 0) (hid_s _ _) (ek_pick (m := 2) (hid_s _ _) rfl (ek_of ev_c rfl) (by decide) (by decide)) (ek_of (P := fun v => v = .int 0) ev_c rfl) (P2 := fun v => ∃ b, v = .bl b) (fun x y hx hy => by
          obtain ⟨r, rfl, _⟩ := hx
          subst hy
          exact ⟨_, ⟨_, rfl⟩, rv_eq rfl⟩)) (fun v hv => by
          obtain ⟨b, rfl⟩ := hv
          exact ⟨b, rfl, trivial⟩)) H1 n1 e1 S1 b1 Q fun b H2 k2 S2 p => q1 b H2 k2 S2 fun z => by
            have := of_decide_eq_true (p z).1
            omega
      · have h7 := h7 rfl
        have hf5 := k5 _ _ nsf.symm hf
        refine el_lst (ea_cons ev_c (ea_cons ev_c (ea_cons ev_c (ea_cons ev_c ea_nil)))) (by show 4 ≤ 100000; decide) H5 (Ex.refl _) _ fun p4 H6 n6 e6 h6 => ?_
        have np : pf ≠ p4 := ne_of_none hf5 n6
        refine ⟨_, rfl, _, rfl, _, _, rfl, rfl, (m : Int) - 4, rfl, pf, p4, _, _, m - 4, rfl, rfl, ?_, np, e6 _ _ hf5, h6, ?_, ?_, ?_⟩
        · congr 1
          omega
        · rw [List.length_map, wds_len]
          omega
        · rw [List.length_map, wds_len]
          exact sz_of (by show m + 4 ≤ 100000; omega)
        · refine ⟨.ref pf, rfl, ?_⟩
          refine q pf ((wds st m).take (m - 4) ++ kw4) _ nH ((K4.trans (k5.trans (kb_ex e6))).updN (Or.inl nH)) ((S5.ex e6).upd nsf) ?_ ?_ (wds_kw _ _ _) ?_
          · rw [upd_same, List.map_append, List.map_take]
            rfl
          · rw [List.length_append, List.length_take, wds_len]
            show min (m - 4) m + 4 = m
            omega
          · intro z hz
            rcases List.mem_append.mp hz with hz | hz
            · exact wds_nm hm z (List.mem_of_mem_take hz)
            · exact kw_nm z hz
      · refine ⟨.ref pf, rfl, ?_⟩
        exact q pf (wds st m) _ nH (K4.trans k5) S5 (k5 _ _ nsf.symm hf) (wds_len _ _) (wds_nd _ _) (wds_nm hm)
end
end Vx

set_option Elab.async false
set_option linter.all false
set_option maxRecDepth 100000
set_option maxHeartbeats 4000000
namespace Vx
open PySem PySem.Spec PyProof.Rows L2 Evl
def unS : V → Str
  | .str z => z
  | _ => ⟨#[]⟩
theorem perm_strs {ys : List V} {ws : List Str} (h : ys.Perm (ws.map V.str)) : ∃ zs : List Str, ys = zs.map V.str ∧ zs.Perm ws := by
  refine ⟨ys.map unS, ?_, ?_⟩
  · rw [List.map_map]
    refine (List.map_id ys).symm.trans (List.map_congr_left fun y hy => ?_)
    obtain ⟨z, _, rfl⟩ := List.mem_map.mp (h.mem_iff.mp hy)
    rfl
  · have := h.map unS
    rw [List.map_map] at this
    have e : (unS ∘ V.str) = id := rfl
    rw [e, List.map_id] at this
    exact this
def wk10 : List Str := ["a", "b", "zz", "worker", "abcdefgh", "x", "push", "pop", "size", "steal"]
def WkOk (ws : List Str) : Prop := 1 ≤ ws.length ∧ ws.length ≤ 6 ∧ ws.Nodup ∧ ∀ z ∈ ws, IsNm z
def spWorkers (K : PySem.W.Frag) : Sp := fun vs H Q _ => ∃ (s : Addr) (n : Nat), vs = [.ref s] ∧ Src H s n ∧ n + 11 ≤ 1000000000 ∧
  ∀ p (ws : List Str) H', H p = none → KB s H H' → Src H' s (n + 11) → H' p = some (.lst (ws.map V.str)) → WkOk ws → Q (.ref p) H'
section
variable {P : Program} {w : World} {K : PySem.W.Frag} {mg : Str → Option Value} {base : Heap}
theorem sc_law_workers : FnScope ["source", "names"] ["source"] (defScope s_law_workers) := ⟨rfl, rfl, rfl, by decide +kernel, rfl, by decide +kernel, by decide +kernel⟩
theorem ok_law_workers (D : Def K mg "_law_workers" s_law_workers ["source"]) (T : Bl mg) (G_law_pick : Good P w K mg base 1 "_law_pick" ["source", "count"] spPick) (G_law_shuffled : Good P w K mg base 2 "_law_shuffled" ["source", "row"] (spShuf K)) : Good P w K mg base 3 "_law_workers" ["source"] (spWorkers K) := by
  refine D.good sc_law_workers (fun vs H Q E h => ?_) (fun f cdv A outer s H vs Q E hr h => ?_)
  · obtain ⟨s, n, rfl, _⟩ := h
    rfl
  · obtain ⟨s, n, rfl, hs, hn, q⟩ := h
    have hu := hu_of hr
    refine ⟨_, (pss_cons (ps_set (i := 1) sc_law_workers.nd rfl (Or.inl rfl) (pe_lst (pa_cons pe_str (pa_cons pe_str (pa_cons pe_str (pa_cons pe_str (pa_cons pe_str (pa_cons pe_str (pa_cons pe_str (pa_cons pe_str (pa_cons pe_str (pa_cons pe_str pa_nil))))))))))))
      (pss_cons (ps_set (i := 1) sc_law_workers.nd rfl (Or.inl rfl) (pe_fn (G_law_shuffled.mono (by decide)) hr (pa_cons (pv 0) (pa_cons (pv 1) pa_nil))))
      (pss_one (ps_ret (pe_slice sl_list (pv 1) po_none (po_some (pe_op op_add pe_int (pe_fn (G_law_pick.mono (by decide)) hr (pa_cons (pv 0) (pa_cons pe_int pa_nil)))))))))), ?_⟩
    refine q_asgL (el_lst (ea_cons ev_c (ea_cons ev_c (ea_cons ev_c (ea_cons ev_c (ea_cons ev_c (ea_cons ev_c (ea_cons ev_c (ea_cons ev_c (ea_cons ev_c (ea_cons ev_c ea_nil)))))))))) (by show 10 ≤ 100000; decide)) fun p1 H1 n1 e1 h1 => ?_
    refine ⟨_, rfl, _, rfl, s, p1, n, wk10.map V.str, rfl, hs.ex e1, by show n + 10 ≤ 1000000000; omega, sq_of h1, by show 10 ≤ 10000; decide, fun p2 ys H2 n2 k2 S2 h2 pm => ?_⟩
    obtain ⟨zs, rfl, pz⟩ := perm_strs pm
    have zl : zs.length = 10 := pz.length_eq
    have S2 : Src H2 s (n + 10) := S2
    have K2 : KB s H H2 := (kb_ex e1).trans k2
    obtain ⟨xs0, hs2⟩ := S2.at_
    have ns2 : p2 ≠ s := fun z => by rw [z] at n2; obtain ⟨u, hu⟩ := (hs.ex e1).at_; rw [hu] at n2; cases n2
    refine ⟨.ref p2, rfl, eo_none _ (Ex.refl _) _ fun H3 e3 => ?_⟩
    have S3 := S2.ex e3
    refine ek_pick (c := 0) (m := 6) (hid_s s H3) rfl (ek_of ev_c rfl) (by decide) (by decide) H3 (n + 10) (hid_ex _ _) S3 (by omega) _ fun v H4 k4 S4 p4 => ?_
    obtain ⟨r, rfl, r0, r1⟩ := p4
    refine ⟨_, _, rfl, rfl, _, rfl, p2, zs.map V.str, rfl, sq_of (k4 _ _ ns2 (e3 _ _ h2)), fun p hp => ?_⟩
    obtain ⟨k, rfl⟩ : ∃ k : Nat, r = (k : Int) := ⟨r.toNat, by omega⟩
    have KA : KB s H H4 := K2.trans ((kb_ex e3).trans k4)
    obtain ⟨xs4, hs4⟩ := S4.at_
    have np : p ≠ s := fun z => by rw [z, hs4] at hp; cases hp
    refine q p (zs.take (1 + k)) _ (KA.fresh ⟨_, hs4⟩ hp) (KA.trans (kb_ex (Ex.new hp))) (S4.upd np.symm) ?_ ⟨?_, ?_, ?_, ?_⟩
    · rw [upd_same]
      have : (1 : Int) + (k : Int) = ((1 + k : Nat) : Int) := by omega
      rw [this]
      unfold cutV
      rw [HT.sIx_none, HT.sIx_nat, List.length_map, zl, List.drop_zero, List.map_take, Nat.sub_zero, Nat.min_eq_left (by omega)]
    · rw [List.length_take]
      omega
    · rw [List.length_take]
      omega
    · exact (List.take_sublist _ _).nodup (pz.nodup_iff.mpr (by decide +kernel))
    · intro z hz
      have h10 : ∀ z ∈ wk10, 1 ≤ z.length ∧ z.length ≤ 8 ∧ ∀ c ∈ z.cps.toList, 97 ≤ c ∧ c ≤ 122 := by decide +kernel
      exact h10 z (pz.mem_iff.mp (List.mem_of_mem_take hz))
end
end Vx

set_option Elab.async false
set_option linter.all false
set_option maxRecDepth 100000
set_option maxHeartbeats 4000000
namespace Vx
open PySem PySem.Spec PyProof.Rows L2
/-! logs as data -/
inductive En where
  | push (x : Str)
  | pop (x : Str)
  | size (k : Int)
  | steal (o x : Str)
def En.vs : En → List V
  | .push x => [.str "push", .str x]
  | .pop x => [.str "pop", .str x]
  | .size k => [.str "size", .int k]
  | .steal o x => [.str "steal", .str o, .str x]
def En.ok : En → Prop
  | .push x => IsNm x
  | .pop x => IsNm x
  | .size k => 0 ≤ k ∧ k ≤ 60
  | .steal o x => IsNm o ∧ IsNm x
def En.pu : En → List Str
  | .push x => [x]
  | _ => []
def En.re : En → List Str
  | .pop x => [x]
  | .steal _ x => [x]
  | _ => []
def pus (es : List En) : List Str := es.flatMap En.pu
def res (es : List En) : List Str := es.flatMap En.re
theorem pus_snoc (es : List En) (e : En) : pus (es ++ [e]) = pus es ++ e.pu := by simp [pus, List.flatMap_append]
theorem res_snoc (es : List En) (e : En) : res (es ++ [e]) = res es ++ e.re := by simp [res, List.flatMap_append]
theorem mem_pus {x : Str} {es : List En} : x ∈ pus es ↔ En.push x ∈ es := by
  unfold pus
  rw [List.mem_flatMap]
  constructor
  · rintro ⟨e, he, hx⟩
    cases e with
    | push y =>
      have : x = y := by simpa [En.pu] using hx
      rw [this]
      exact he
    | _ => simp [En.pu] at hx
  · exact fun h => ⟨_, h, by simp [En.pu]⟩
theorem pus_len (es : List En) : (pus es).length ≤ es.length := by
  induction es with
  | nil => exact Nat.le_refl _
  | cons e es ih =>
    have h1 : (pus (e :: es)).length = e.pu.length + (pus es).length := by
      unfold pus
      rw [List.flatMap_cons, List.length_append]
    have h2 : e.pu.length ≤ 1 := by cases e <;> simp [En.pu]
    rw [h1, List.length_cons]
    omega
/-- the flat sequence, one log longer -/
theorem flat_set {f : List En → List Str} {g : List Str} {es es' : List En} (hf : f es' = f es ++ g) : ∀ {L : List (List En)} {k : Nat}, L[k]? = some es → ((L.set k es').flatMap f).Perm (L.flatMap f ++ g)
  | [], k, h => by simp at h
  | a :: L, 0, h => by
    have : a = es := by simpa using h
    subst this
    rw [List.set_cons_zero, List.flatMap_cons, List.flatMap_cons, hf, List.append_assoc, List.append_assoc]
    exact List.Perm.append_left _ List.perm_append_comm
  | a :: L, k + 1, h => by
    rw [List.set_cons_succ, List.flatMap_cons, List.flatMap_cons, List.append_assoc]
    exact List.Perm.append_left _ (flat_set hf (by simpa using h))
theorem set_get {L : List (List En)} {k i : Nat} {es' es2 : List En} (h : (L.set k es')[i]? = some es2) : (i = k ∧ es2 = es') ∨ (i ≠ k ∧ L[i]? = some es2) := by
  by_cases e : k = i
  · subst e
    left
    refine ⟨rfl, ?_⟩
    have hl : k < (L.set k es').length := (List.getElem?_eq_some_iff.mp h).1
    rw [List.length_set] at hl
    rw [List.getElem?_set_self hl] at h
    exact (Option.some.inj h).symm
  · rw [List.getElem?_set_ne e] at h
    exact Or.inr ⟨fun z => e z.symm, h⟩
/-- o pushes x -/
def Has (ws : List Str) (L : List (List En)) (o x : Str) : Prop := ∃ (i : Nat) (es : List En), ws[i]? = some o ∧ L[i]? = some es ∧ En.push x ∈ es
theorem Has.set {ws : List Str} {L : List (List En)} {o x : Str} {k : Nat} {es : List En} {e : En} (h : Has ws L o x) (hk : L[k]? = some es) : Has ws (L.set k (es ++ [e])) o x := by
  obtain ⟨i, es2, h1, h2, h3⟩ := h
  by_cases z : k = i
  · subst z
    rw [hk] at h2
    have := Option.some.inj h2
    subst this
    exact ⟨k, es ++ [e], h1, List.getElem?_set_self (List.getElem?_eq_some_iff.mp hk).1, List.mem_append_left _ h3⟩
  · exact ⟨i, es2, h1, by rw [List.getElem?_set_ne z]; exact h2, h3⟩
/-- logs that are valid -/
structure Vlog (top : Nat) (ws : List Str) (L : List (List En)) : Prop where
  wk : WkOk ws
  len : L.length = ws.length
  ent : ∀ es ∈ L, es.length ≤ top ∧ ∀ e ∈ es, e.ok
  pu : (L.flatMap pus).Nodup
  re : (L.flatMap res).Nodup
  own : ∀ (i : Nat) (es : List En) (j : Nat) (x : Str), L[i]? = some es → es[j]? = some (.pop x) → ∃ j' : Nat, j' < j ∧ es[j']? = some (.push x)
  st : ∀ (i : Nat) (es : List En) (w o x : Str), L[i]? = some es → ws[i]? = some w → En.steal o x ∈ es → o ≠ w ∧ Has ws L o x
/-- .. while they are drawn -/
structure Dlog (top : Nat) (ws : List Str) (L : List (List En)) (fr : List Str) (pr : List (Str × Str)) : Prop where
  v : Vlog top ws L
  pf : (L.flatMap pus ++ fr).Nodup
  cnt : (L.flatMap pus).length + fr.length = 6 * top
  frn : ∀ z ∈ fr, IsNm z
  rp : (L.flatMap res ++ pr.map (·.1)).Nodup
  has : ∀ x o, (x, o) ∈ pr → Has ws L o x ∧ IsNm x
theorem flat_len {L : List (List En)} {top : Nat} (h : ∀ es ∈ L, es.length ≤ top) : (L.flatMap pus).length ≤ L.length * top := by
  induction L with
  | nil => simp
  | cons a L ih =>
    rw [List.flatMap_cons, List.length_append, List.length_cons, Nat.succ_mul]
    have h1 := pus_len a
    have h2 := h a (List.mem_cons_self ..)
    have h3 := ih fun es he => h es (List.mem_cons_of_mem _ he)
    omega
theorem flat_lt {L : List (List En)} {top k : Nat} {es : List En} (h : ∀ es ∈ L, es.length ≤ top) (hk : L[k]? = some es) (hl : es.length < top) : (L.flatMap pus).length < L.length * top := by
  have hp := flat_set (f := pus) (es' := es ++ [.push ""]) (g := [""]) (by rw [pus_snoc]; rfl) hk
  have h1 := hp.length_eq
  rw [List.length_append] at h1
  have h2 := flat_len (L := L.set k (es ++ [.push ""])) (top := top) fun es2 he => by
    obtain ⟨i, hi⟩ := List.mem_iff_getElem?.mp he
    rcases set_get hi with ⟨_, rfl⟩ | ⟨_, h3⟩
    · rw [List.length_append]
      exact hl
    · exact h es2 (List.mem_of_getElem? h3)
  rw [List.length_set] at h2
  have h3 : [("" : Str)].length = 1 := rfl
  omega
section
variable {top : Nat} {ws : List Str} {L : List (List En)} {fr : List Str} {pr : List (Str × Str)} {k : Nat} {es : List En} {e : En}
theorem Vlog.app (v : Vlog top ws L) (hk : L[k]? = some es) (hl : es.length < top) (he : e.ok) (hp : (L.flatMap pus ++ e.pu).Nodup) (hr : (L.flatMap res ++ e.re).Nodup)
    (ho : ∀ x, e = .pop x → En.push x ∈ es) (hs : ∀ w o x, ws[k]? = some w → e = .steal o x → o ≠ w ∧ Has ws L o x) : Vlog top ws (L.set k (es ++ [e])) := by
  refine ⟨v.wk, by rw [List.length_set]; exact v.len, ?_, ?_, ?_, ?_, ?_⟩
  · intro es2 h2
    obtain ⟨i, hi⟩ := List.mem_iff_getElem?.mp h2
    rcases set_get hi with ⟨_, rfl⟩ | ⟨_, h3⟩
    · refine ⟨by rw [List.length_append]; exact hl, fun e2 h4 => ?_⟩
      rcases List.mem_append.mp h4 with h5 | h5
      · exact (v.ent es (List.mem_of_getElem? hk)).2 e2 h5
      · rw [List.mem_singleton.mp h5]
        exact he
    · exact v.ent es2 (List.mem_of_getElem? h3)
  · exact (flat_set (pus_snoc es e) hk).nodup_iff.mpr hp
  · exact (flat_set (res_snoc es e) hk).nodup_iff.mpr hr
  · intro i es2 j x h2 h3
    rcases set_get h2 with ⟨_, rfl⟩ | ⟨_, h4⟩
    · by_cases hj : j < es.length
      · rw [List.getElem?_append_left hj] at h3
        obtain ⟨j', h5, h6⟩ := v.own k es j x hk h3
        exact ⟨j', h5, by rw [List.getElem?_append_left (by omega)]; exact h6⟩
      · rw [List.getElem?_append_right (by omega)] at h3
        have hz : j - es.length = 0 := by
          have := (List.getElem?_eq_some_iff.mp h3).1
          simp at this
          omega
        rw [hz] at h3
        have h7 : e = .pop x := by simpa using h3
        obtain ⟨j', h8⟩ := List.mem_iff_getElem?.mp (ho x h7)
        have h9 := (List.getElem?_eq_some_iff.mp h8).1
        exact ⟨j', by omega, by rw [List.getElem?_append_left h9]; exact h8⟩
    · exact v.own i es2 j x h4 h3
  · intro i es2 w o x h2 h3 h4
    rcases set_get h2 with ⟨rfl, rfl⟩ | ⟨_, h5⟩
    · rcases List.mem_append.mp h4 with h6 | h6
      · have := v.st i es w o x hk h3 h6
        exact ⟨this.1, this.2.set hk⟩
      · have := hs w o x h3 (List.mem_singleton.mp h6).symm
        exact ⟨this.1, this.2.set hk⟩
    · have := v.st i es2 w o x h5 h3 h4
      exact ⟨this.1, this.2.set hk⟩
theorem Dlog.size (d : Dlog top ws L fr pr) (hk : L[k]? = some es) (hl : es.length < top) {n : Int} (h0 : 0 ≤ n) (h1 : n ≤ 60) : Dlog top ws (L.set k (es ++ [.size n])) fr pr := by
  have p1 := flat_set (f := pus) (es' := es ++ [.size n]) (g := []) (by rw [pus_snoc]; rfl) hk
  have p2 := flat_set (f := res) (es' := es ++ [.size n]) (g := []) (by rw [res_snoc]; rfl) hk
  rw [List.append_nil] at p1 p2
  refine ⟨d.v.app hk hl ⟨h0, h1⟩ (by rw [show (En.size n).pu = [] from rfl, List.append_nil]; exact d.v.pu) (by rw [show (En.size n).re = [] from rfl, List.append_nil]; exact d.v.re) (fun _ z => nomatch z) (fun _ _ _ _ z => nomatch z), ?_, ?_, d.frn, ?_, ?_⟩
  · exact (p1.append_right fr).nodup_iff.mpr d.pf
  · rw [p1.length_eq]
    exact d.cnt
  · exact (p2.append_right _).nodup_iff.mpr d.rp
  · exact fun x o h => ⟨(d.has x o h).1.set hk, (d.has x o h).2⟩
theorem Dlog.push {x w : Str} (d : Dlog top ws L (fr ++ [x]) pr) (hk : L[k]? = some es) (hw : ws[k]? = some w) (hl : es.length < top) : Dlog top ws (L.set k (es ++ [.push x])) fr (pr ++ [(x, w)]) := by
  have p1 := flat_set (f := pus) (es' := es ++ [.push x]) (g := [x]) (by rw [pus_snoc]; rfl) hk
  have p2 := flat_set (f := res) (es' := es ++ [.push x]) (g := []) (by rw [res_snoc]; rfl) hk
  rw [List.append_nil] at p2
  have nm : IsNm x := d.frn x (List.mem_append_right _ (List.mem_singleton.mpr rfl))
  have q1 : (L.flatMap pus ++ [x] ++ fr).Nodup := by
    refine (List.Perm.nodup_iff ?_).mpr d.pf
    rw [List.append_assoc]
    exact List.Perm.append_left _ List.perm_append_comm
  have nx : ¬ x ∈ L.flatMap pus := fun z => by
    have := (List.nodup_append.mp (List.nodup_append.mp q1).1).2.2 x z x (List.mem_singleton.mpr rfl)
    exact this rfl
  refine ⟨d.v.app hk hl nm (List.nodup_append.mp q1).1 (by rw [show (En.push x).re = [] from rfl, List.append_nil]; exact d.v.re) (fun _ z => nomatch z) (fun _ _ _ _ z => nomatch z), ?_, ?_, ?_, ?_, ?_⟩
  · exact (p1.append_right fr).nodup_iff.mpr q1
  · rw [p1.length_eq]
    have := d.cnt
    rw [List.length_append] at this ⊢
    simp only [List.length_cons, List.length_nil] at this ⊢
    omega
  · exact fun z hz => d.frn z (List.mem_append_left _ hz)
  · refine (p2.append_right _).nodup_iff.mpr ?_
    rw [List.map_append, ← List.append_assoc]
    refine List.nodup_append.mpr ⟨d.rp, by simp, fun a ha b hb e => ?_⟩
    have hb : b = x := by simpa using hb
    subst hb e
    rcases List.mem_append.mp ha with h | h
    · obtain ⟨es2, h2, h3⟩ := List.mem_flatMap.mp h
      obtain ⟨i, hi⟩ := List.mem_iff_getElem?.mp h2
      unfold res at h3
      obtain ⟨e2, h4, h5⟩ := List.mem_flatMap.mp h3
      refine nx ?_
      cases e2 with
      | push _ => simp [En.re] at h5
      | size _ => simp [En.re] at h5
      | pop y =>
        have : a = y := by simpa [En.re] using h5
        subst this
        obtain ⟨j, hj⟩ := List.mem_iff_getElem?.mp h4
        obtain ⟨j', _, h6⟩ := d.v.own i es2 j a hi hj
        exact List.mem_flatMap.mpr ⟨es2, h2, mem_pus.mpr (List.mem_of_getElem? h6)⟩
      | steal o y =>
        have : a = y := by simpa [En.re] using h5
        subst this
        have hlt : i < ws.length := by rw [← d.v.len]; exact (List.getElem?_eq_some_iff.mp hi).1
        obtain ⟨_, i', es', _, h7, h8⟩ := d.v.st i es2 _ o a hi (List.getElem?_eq_getElem hlt) h4
        exact List.mem_flatMap.mpr ⟨es', List.mem_of_getElem? h7, mem_pus.mpr h8⟩
    · obtain ⟨⟨y, o⟩, h2, h3⟩ := List.mem_map.mp h
      subst h3
      obtain ⟨⟨i, es', _, h7, h8⟩, _⟩ := d.has y o h2
      exact nx (List.mem_flatMap.mpr ⟨es', List.mem_of_getElem? h7, mem_pus.mpr h8⟩)
  · intro y o h
    rcases List.mem_append.mp h with h | h
    · exact ⟨(d.has y o h).1.set hk, (d.has y o h).2⟩
    · have : y = x ∧ o = w := by simpa using h
      obtain ⟨rfl, rfl⟩ := this
      exact ⟨⟨k, _, hw, List.getElem?_set_self (List.getElem?_eq_some_iff.mp hk).1, by simp⟩, nm⟩
theorem Dlog.take {x o w : Str} {t : Nat} (d : Dlog top ws L fr pr) (hk : L[k]? = some es) (hw : ws[k]? = some w) (hl : es.length < top) (ht : pr[t]? = some (x, o))
    (he : (o = w ∧ e = .pop x) ∨ (o ≠ w ∧ e = .steal o x)) : Dlog top ws (L.set k (es ++ [e])) fr (pr.eraseIdx t) := by
  have hin := List.mem_of_getElem? ht
  obtain ⟨hx, nm⟩ := d.has x o hin
  have er : e.re = [x] := by rcases he with ⟨_, rfl⟩ | ⟨_, rfl⟩ <;> rfl
  have ep : e.pu = [] := by rcases he with ⟨_, rfl⟩ | ⟨_, rfl⟩ <;> rfl
  have p1 := flat_set (f := pus) (es' := es ++ [e]) (g := []) (by rw [pus_snoc, ep]) hk
  have p2 := flat_set (f := res) (es' := es ++ [e]) (g := [x]) (by rw [res_snoc, er]) hk
  rw [List.append_nil] at p1
  have pp : ([(x, o)] ++ pr.eraseIdx t).Perm pr := by
    have hlt := (List.getElem?_eq_some_iff.mp ht).1
    have := perm_erase hlt
    rw [(List.getElem?_eq_some_iff.mp ht).2] at this
    exact this
  have q : (L.flatMap res ++ [x] ++ (pr.eraseIdx t).map (·.1)).Nodup := by
    refine (List.Perm.nodup_iff ?_).mpr d.rp
    rw [List.append_assoc]
    exact List.Perm.append_left _ (pp.map Prod.fst)
  refine ⟨d.v.app hk hl ?_ (by rw [ep, List.append_nil]; exact d.v.pu) (by rw [er]; exact (List.nodup_append.mp q).1) ?_ ?_, ?_, ?_, d.frn, ?_, ?_⟩
  · rcases he with ⟨_, rfl⟩ | ⟨_, rfl⟩
    · exact nm
    · obtain ⟨i, es2, h1, _, _⟩ := hx
      exact ⟨d.v.wk.2.2.2 o (List.mem_of_getElem? h1), nm⟩
  · intro y hy
    rcases he with ⟨rfl, rfl⟩ | ⟨_, rfl⟩
    · cases hy
      obtain ⟨i, es2, h1, h2, h3⟩ := hx
      have hi : i = k :=
         (List.getElem?_inj (List.getElem?_eq_some_iff.mp h1).1 d.v.wk.2.2.1).mp (h1.trans hw.symm)
      subst hi
      rw [hk] at h2
      cases h2
      exact h3
    · cases hy
  · intro w2 o2 x2 h1 h2
    rcases he with ⟨_, rfl⟩ | ⟨hne, rfl⟩
    · cases h2
    · cases h2
      rw [hw] at h1
      cases h1
      exact ⟨hne, hx⟩
  · exact (p1.append_right fr).nodup_iff.mpr d.pf
  · rw [p1.length_eq]
    exact d.cnt
  · exact (p2.append_right _).nodup_iff.mpr q
  · intro y o2 h
    have h2 : (y, o2) ∈ pr := List.mem_of_mem_eraseIdx h
    exact ⟨(d.has y o2 h2).1.set hk, (d.has y o2 h2).2⟩
end
theorem flatMap_nil_rep {f : List En → List Str} (hf : f [] = []) : ∀ n : Nat, (List.replicate n ([] : List En)).flatMap f = []
  | 0 => rfl
  | n + 1 => by rw [List.replicate_succ, List.flatMap_cons, hf, flatMap_nil_rep hf n]; rfl
theorem Vlog.nil {top : Nat} {ws : List Str} (h : WkOk ws) : Vlog top ws (List.replicate ws.length []) := by
  refine ⟨h, by rw [List.length_replicate], ?_, by rw [flatMap_nil_rep rfl]; exact List.nodup_nil, by rw [flatMap_nil_rep rfl]; exact List.nodup_nil, ?_, ?_⟩
  · intro es he
    rw [(List.mem_replicate.mp he).2]
    exact ⟨Nat.zero_le _, fun e h => by cases h⟩
  · intro i es j x h1 h2
    rw [(List.mem_replicate.mp (List.mem_of_getElem? h1)).2] at h2
    simp at h2
  · intro i es w o x h1 _ h2
    rw [(List.mem_replicate.mp (List.mem_of_getElem? h1)).2] at h2
    cases h2
theorem Dlog.nil {top : Nat} {ws fr : List Str} (h : WkOk ws) (hl : fr.length = 6 * top) (hd : fr.Nodup) (hn : ∀ z ∈ fr, IsNm z) : Dlog top ws (List.replicate ws.length []) fr [] := by
  refine ⟨Vlog.nil h, by rw [flatMap_nil_rep rfl]; exact hd, by rw [flatMap_nil_rep rfl]; simpa using hl, hn, by rw [flatMap_nil_rep rfl]; exact List.nodup_nil, fun x o h => by cases h⟩
end Vx

set_option Elab.async false
set_option linter.all false
set_option maxRecDepth 100000
set_option maxHeartbeats 4000000
namespace Vx
open PySem PySem.Spec PyProof.Rows L2 Evl
/-! tuples stay -/
def TK (H H' : Hp) : Prop := ∀ a xs, H a = some (.tup xs) → H' a = some (.tup xs)
theorem TK.refl (H : Hp) : TK H H := fun _ _ h => h
theorem TK.trans {H H1 H2 : Hp} (a : TK H H1) (b : TK H1 H2) : TK H H2 := fun c x h => b c x (a c x h)
theorem tk_ex {H H' : Hp} (e : Ex H H') : TK H H' := fun a x h => e a _ h
theorem tk_kb {s : Addr} {H H' : Hp} {ys : List V} (k : KB s H H') (h : H s = some (.lst ys)) : TK H H' := fun a x z => k a _ (fun e => by rw [e, h] at z; cases z) z
theorem tk_upd {p : Addr} {H : Hp} {ys : List V} {o : HO} (h : H p = some (.lst ys)) : TK H (upd H p o) := fun a x z => by rw [upd_ne (fun e => by rw [e, h] at z; cases z)]; exact z
theorem tk_new {p : Addr} {H : Hp} {o : HO} (h : H p = none) : TK H (upd H p o) := tk_ex (Ex.new h)
/-- a list of tuples -/
def TL (H : Hp) (p : Addr) (ts : List (List V)) : Prop := ∃ as : List Addr, H p = some (.lst (as.map V.ref)) ∧ Paired (fun a t => H a = some (.tup t)) as ts
theorem paired_imp {α β : Type} {F G : α → β → Prop} (h : ∀ a b, F a b → G a b) : ∀ {xs : List α} {ys : List β}, Paired F xs ys → Paired G xs ys
  | _, _, .nil => .nil
  | _, _, .cons a t => .cons (h _ _ a) (paired_imp h t)
theorem paired_get {α β : Type} {F : α → β → Prop} : ∀ {xs : List α} {ys : List β}, Paired F xs ys → ∀ {i : Nat} {y : β}, ys[i]? = some y → ∃ x, xs[i]? = some x ∧ F x y
  | _, _, .nil, i, y, h => by simp at h
  | _, _, @Paired.cons _ _ _ x0 y0 _ _ a t, 0, y, h => by
    have e : y0 = y := by simpa using h
    subst e
    exact ⟨x0, rfl, a⟩
  | _, _, .cons a t, i + 1, y, h => by
    obtain ⟨x, h1, h2⟩ := paired_get t (i := i) (y := y) (by simpa using h)
    exact ⟨x, by simpa using h1, h2⟩
theorem paired_erase {α β : Type} {F : α → β → Prop} : ∀ {xs : List α} {ys : List β}, Paired F xs ys → ∀ i : Nat, Paired F (xs.eraseIdx i) (ys.eraseIdx i)
  | _, _, .nil, i => by simpa using Paired.nil
  | _, _, .cons a t, 0 => by simpa using t
  | _, _, .cons a t, i + 1 => by simpa using Paired.cons a (paired_erase t i)
theorem erase_map {α β : Type} (f : α → β) : ∀ (xs : List α) (i : Nat), (xs.map f).eraseIdx i = (xs.eraseIdx i).map f
  | [], i => by simp
  | _ :: _, 0 => by simp
  | x :: xs, i + 1 => by simp [erase_map f xs i]
theorem TL.keep {H H' : Hp} {p : Addr} {ts : List (List V)} (h : TL H p ts) (k : TK H H') (e : H' p = H p) : TL H' p ts := by
  obtain ⟨as, h1, h2⟩ := h
  exact ⟨as, e.trans h1, paired_imp (fun a t z => k a t z) h2⟩
theorem TL.kb {s : Addr} {H H' : Hp} {p : Addr} {ts : List (List V)} {ys : List V} (h : TL H p ts) (k : KB s H H') (hs : H s = some (.lst ys)) (n : p ≠ s) : TL H' p ts := by
  obtain ⟨as, h1, h2⟩ := id h
  exact h.keep (tk_kb k hs) (by rw [h1]; exact k _ _ n h1)
theorem TL.ex {H H' : Hp} {p : Addr} {ts : List (List V)} (h : TL H p ts) (e : Ex H H') : TL H' p ts := by
  obtain ⟨as, h1, h2⟩ := id h
  exact h.keep (tk_ex e) (by rw [h1]; exact e _ _ h1)
theorem TL.nil {H : Hp} {p : Addr} (h : H p = some (.lst [])) : TL H p [] := ⟨[], h, .nil⟩
theorem TL.at_ {H : Hp} {p : Addr} {ts : List (List V)} (h : TL H p ts) : ∃ vs, H p = some (.lst vs) ∧ vs.length = ts.length := by
  obtain ⟨as, h1, h2⟩ := h
  exact ⟨_, h1, by rw [List.length_map]; exact h2.length⟩
/-- a new tuple behind -/
theorem TL.app {H H' : Hp} {p a : Addr} {ts : List (List V)} {t : List V} {vs : List V} (h : TL H p ts) (k : TK H H') (hv : H p = some (.lst vs)) (h' : H' p = some (.lst (vs ++ [.ref a]))) (ha : H' a = some (.tup t)) : TL H' p (ts ++ [t]) := by
  obtain ⟨as, h1, h2⟩ := h
  rw [hv] at h1
  cases h1
  exact ⟨as ++ [a], by rw [h', List.map_append]; rfl, Paired.snoc (paired_imp (fun a t z => k a t z) h2) ha⟩
theorem TL.erase {H H' : Hp} {p : Addr} {ts : List (List V)} {vs : List V} {i : Nat} (h : TL H p ts) (k : TK H H') (hv : H p = some (.lst vs)) (h' : H' p = some (.lst (vs.eraseIdx i))) : TL H' p (ts.eraseIdx i) := by
  obtain ⟨as, h1, h2⟩ := h
  rw [hv] at h1
  cases h1
  refine ⟨as.eraseIdx i, by rw [h', erase_map], paired_erase (paired_imp (fun a t z => k a t z) h2) i⟩
theorem TL.get {H : Hp} {p : Addr} {ts : List (List V)} {vs : List V} (h : TL H p ts) (hv : H p = some (.lst vs)) {i : Nat} {t : List V} (ht : ts[i]? = some t) : ∃ a, vs[i]? = some (.ref a) ∧ H a = some (.tup t) := by
  obtain ⟨as, h1, h2⟩ := h
  rw [hv] at h1
  cases h1
  obtain ⟨a, ha, hb⟩ := paired_get h2 ht
  exact ⟨a, by rw [List.getElem?_map, ha]; rfl, hb⟩
/-! a dict of names to lists -/
def Dk (ws : List Str) (ps : List Addr) : List (Key × V) := (ws.zip ps).map fun x => (.inr x.1, .ref x.2)
theorem dk_len {ws : List Str} {ps : List Addr} (h : ps.length = ws.length) : (Dk ws ps).length = ws.length := by
  unfold Dk
  rw [List.length_map, List.length_zip]
  omega
theorem dk_keys : ∀ {ws : List Str} {ps : List Addr}, ps.length = ws.length → (Dk ws ps).map (·.1) = ws.map Sum.inr
  | [], _, _ => by simp [Dk]
  | _ :: _, [], h => by cases h
  | w :: ws, p :: ps, h => by
    have := dk_keys (ws := ws) (ps := ps) (by simpa using h)
    unfold Dk at this ⊢
    rw [List.zip_cons_cons, List.map_cons, List.map_cons, this]
    rfl
theorem dk_get : ∀ {ws : List Str} {ps : List Addr} {k : Nat} {x : Str} {p : Addr}, ws.Nodup → ws[k]? = some x → ps[k]? = some p → valV (Dk ws ps) (.inr x) = some (.ref p)
  | [], _, k, x, p, _, h, _ => by simp at h
  | _ :: _, [], k, x, p, _, _, h => by simp at h
  | w :: ws, q :: ps, 0, x, p, nd, h1, h2 => by
    have e1 : w = x := by simpa using h1
    have e2 : q = p := by simpa using h2
    subst e1 e2
    exact valV_pos (p := ((Sum.inr w : Key), V.ref q)) rfl
  | w :: ws, q :: ps, k + 1, x, p, nd, h1, h2 => by
    have h1' : ws[k]? = some x := by simpa using h1
    have h2' : ps[k]? = some p := by simpa using h2
    have n : ¬ w = x := fun e => (List.nodup_cons.mp nd).1 (by rw [e]; exact List.mem_of_getElem? h1')
    have : valV (Dk (w :: ws) (q :: ps)) (.inr x) = valV (Dk ws ps) (.inr x) := valV_neg (p := ((Sum.inr w : Key), V.ref q)) (fun e => n (Sum.inr.inj e))
    rw [this]
    exact dk_get (List.nodup_cons.mp nd).2 h1' h2'
theorem merge_new : ∀ (more acc : List (Key × V)), ((acc ++ more).map (·.1)).Nodup → mergeK acc more = acc ++ more
  | [], acc, _ => by rw [List.append_nil]; rfl
  | kv :: more, acc, nd => by
    have h1 : putK acc kv.1 kv.2 = acc ++ [kv] := by
      unfold putK
      rw [if_neg]
      intro z
      obtain ⟨x, hx, e⟩ := List.any_eq_true.mp z
      have e := of_decide_eq_true e
      rw [List.map_append, List.map_cons] at nd
      exact (List.nodup_append.mp nd).2.2 x.1 (List.mem_map.mpr ⟨x, hx, rfl⟩) kv.1 (List.mem_cons_self ..) e
    have h2 := merge_new more (acc ++ [kv]) (by rw [List.append_assoc]; exact nd)
    show mergeK (putK acc kv.1 kv.2) more = _
    rw [h1, h2, List.append_assoc]
    rfl
theorem merge_dk {ws : List Str} {ps : List Addr} (h : ps.length = ws.length) (nd : ws.Nodup) : mergeK [] (Dk ws ps) = Dk ws ps := by
  refine (merge_new _ _ ?_).trans (List.nil_append _)
  rw [List.nil_append, dk_keys h]
  unfold List.Nodup at nd ⊢
  rw [List.pairwise_map]
  exact nd.imp fun h e => h (Sum.inr.inj e)
abbrev rDictP (K : PySem.W.Frag) : List V → Hp → VK → Prop := fun xs H Q => ∃ (a : Addr) (ps : List Addr) (kvs : List (Key × V)), xs = [.ref a] ∧ SqL K H a (ps.map V.ref) ∧ Paired (fun p kv => SqT K H p [kV kv.1, kv.2]) ps kvs ∧ ∀ p, H p = none → Q (.ref p) (upd H p (.dK (mergeK [] kvs)))
/-- dict([(name, []) for name in names]) -/
def New (H H2 : Hp) (n : Nat) (ps : List Addr) : Prop := ps.length = n ∧ ps.Nodup ∧ ∀ p ∈ ps, H p = none ∧ H2 p = some (.lst [])
theorem ev_rows {K : PySem.W.Frag} {σ : L2.St} {H : Hp} {tl : TE} {j : Nat} {vs : List Nat} {pw : Addr} {ws : List Str} (h : Ev tl σ H (.ref pw)) (hw : H pw = some (.lst (ws.map V.str))) (hl : ws.length ≤ 1000) (nd : ws.Nodup)
    (hj : ∀ x, ((wipe σ vs).set j (some x))[j]? = some (some x)) (hwp : ∀ x, wipe ((wipe σ vs).set j (some x)) vs = wipe σ vs) :
    ∀ H1, Ex H H1 → ∀ Q : VK, (∀ d ps H2, H1 d = none → Ex H1 H2 → H2 d = some (.dK (Dk ws ps)) → New H1 H2 ws.length ps → Q (.ref d) H2) →
      tCB (rDictP K) (tCons (tLc (iList K tl) (gName j) tYes (tTup (tCons (tVar j) (tCons (tLst tNil) tNil))) vs) tNil) σ H1 Q := fun H0 e0 Q q => by
  refine h H0 e0 _ fun H1 e1 => ⟨pw, rfl, ⟨_, sq_of (e1 _ _ (e0 _ _ hw))⟩, fun Dl hD => ?_⟩
  have hw1 : H1 pw = some (.lst (ws.map V.str)) := e1 _ _ (e0 _ _ hw)
  have nwD : pw ≠ Dl := ne_of_none hw1 hD
  refine lc_list (xs := ws.map V.str) (fun i H' => Ex H1 H' ∧ ∃ as ps, H' Dl = some (.lst (as.map V.ref)) ∧ as.length = i ∧ New H1 H' i ps ∧ Paired (fun a (x : Key × V) => H' a = some (.tup [kV x.1, x.2])) as (Dk (ws.take i) ps))
    ⟨Ex.new hD, [], [], upd_same, rfl, ⟨rfl, List.nodup_nil, fun _ z => by cases z⟩, by simpa [Dk] using Paired.nil⟩ (fun i H' _ p => sq_of (p.1 _ _ hw1)) (fun i x H' hx p => ?_) (fun H' p => ?_)
  · obtain ⟨e2, as, ps, ha, hlen, ⟨n1, n2, n3⟩, hp⟩ := p
    rw [List.getElem?_map] at hx
    obtain ⟨z, hz, rfl⟩ := Option.map_eq_some_iff.mp hx
    have hi : i < ws.length := (List.getElem?_eq_some_iff.mp hz).1
    refine ⟨hwp _, ?_⟩
    refine ⟨_, hj _, (by show 0 ≤ sizeLine; decide), fun p0 hp0 => ⟨(by show 2 ≤ sizeLine; decide), fun t ht => ⟨as.map V.ref, ?_, ?_, ?_⟩⟩⟩
    all_goals have n0 : Dl ≠ p0 := ne_of_none ha hp0
    all_goals have n4 : Dl ≠ t := ne_of_none (by rw [upd_ne n0]; exact ha) ht
    · rw [upd_ne n4, upd_ne n0]
      exact ha
    · rw [List.length_map]
      exact sz_lt (by omega)
    · have n5 : p0 ≠ t := ne_of_none upd_same ht
      have tk : TK H' (upd (upd (upd H' p0 (.lst [])) t (.tup [.str z, .ref p0])) Dl (.lst (as.map V.ref ++ [.ref t]))) := ((tk_new hp0).trans (tk_new ht)).trans (tk_upd (by rw [upd_ne n4, upd_ne n0]; exact ha))
      have hD0 : H1 Dl = none := hD
      refine ⟨?_, as ++ [t], ps ++ [p0], by rw [upd_same, List.map_append]; rfl, by rw [List.length_append, hlen]; rfl, ⟨by rw [List.length_append, n1]; rfl, ?_, ?_⟩, ?_⟩
      · exact Ex.mut ((e2.trans (Ex.new hp0)).trans (Ex.new ht)) hD
      · refine List.nodup_append.mpr ⟨n2, by simp, fun a h1 b h2 e => ?_⟩
        have : b = p0 := by simpa using h2
        subst this e
        have := (n3 _ h1).2
        rw [hp0] at this
        cases this
      · intro p hpm
        rcases List.mem_append.mp hpm with h1 | h1
        · have h2 := n3 p h1
          refine ⟨h2.1, ?_⟩
          have na : p ≠ p0 := ne_of_none h2.2 hp0
          have nb : p ≠ t := ne_of_none (by rw [upd_ne na]; exact h2.2) ht
          have nc : p ≠ Dl := fun e => by
            rw [e, ha] at h2
            have h3 : as.map V.ref = [] := by injection (Option.some.inj h2.2)
            have h4 : as = [] := List.map_eq_nil_iff.mp h3
            have h5 : ps = [] := List.length_eq_zero_iff.mp (by rw [n1, ← hlen, h4]; rfl)
            rw [h5] at h1
            cases h1
          rw [upd_ne nc, upd_ne nb, upd_ne na]
          exact h2.2
        · have : p = p0 := by simpa using h1
          subst this
          refine ⟨fresh_back e2 hp0, ?_⟩
          rw [upd_ne n0.symm, upd_ne n5, upd_same]
      · have e5 : Dk (ws.take (i + 1)) (ps ++ [p0]) = Dk (ws.take i) ps ++ [(.inr z, .ref p0)] := by
          unfold Dk
          have : ws.take (i + 1) = ws.take i ++ [z] := by
            rw [List.take_add_one, hz]
            rfl
          rw [this, List.zip_append (by rw [List.length_take, n1]; omega), List.map_append]
          rfl
        rw [e5]
        refine Paired.snoc (paired_imp (fun a x z => tk _ _ z) hp) ?_
        rw [upd_ne n4.symm, upd_same]
        rfl
  · obtain ⟨e2, as, ps, ha, hlen, ⟨n1, n2, n3⟩, hp⟩ := p
    rw [List.length_map] at n1
    rw [List.length_map, List.take_length] at hp
    refine ⟨Dl, as, Dk ws ps, rfl, sq_of ha, paired_imp (fun a x z => st_of z) hp, fun d hd => ?_⟩
    rw [merge_dk n1 nd]
    refine q d ps _ (fresh_back (e1.trans e2) hd) ((e1.trans e2).trans (Ex.new hd)) upd_same ⟨n1, n2, fun p h1 => ?_⟩
    have h2 := n3 p h1
    have na : p ≠ d := ne_of_none h2.2 hd
    exact ⟨fresh_back e1 h2.1, by rw [upd_ne na]; exact h2.2⟩
end Vx
namespace Vx
open PySem PySem.Spec PyProof.Rows L2 Evl
/-- the logs L of the names ws, at ps, in the dict at d -/
structure HL (H : Hp) (d : Addr) (ws : List Str) (ps : List Addr) (L : List (List En)) : Prop where
  dk : H d = some (.dK (Dk ws ps))
  pl : ps.length = ws.length
  lg : ∀ (i : Nat) (p : Addr) (es : List En), ps[i]? = some p → L[i]? = some es → TL H p (es.map En.vs)
theorem HL.kb {s d : Addr} {H H' : Hp} {ws : List Str} {ps : List Addr} {L : List (List En)} {ys : List V} (h : HL H d ws ps L) (k : KB s H H') (hs : H s = some (.lst ys)) (n : ∀ p ∈ ps, p ≠ s) : HL H' d ws ps L :=
  ⟨k d _ (fun e => by have := h.dk; rw [e, hs] at this; cases this) h.dk, h.pl, fun i p es h1 h2 => (h.lg i p es h1 h2).kb k hs (n p (List.mem_of_getElem? h1))⟩
theorem HL.ex {d : Addr} {H H' : Hp} {ws : List Str} {ps : List Addr} {L : List (List En)} (h : HL H d ws ps L) (e : Ex H H') : HL H' d ws ps L :=
  ⟨e _ _ h.dk, h.pl, fun i p es h1 h2 => (h.lg i p es h1 h2).ex e⟩
theorem HL.set {d : Addr} {H H' : Hp} {ws : List Str} {ps : List Addr} {L : List (List En)} {k : Nat} {pk : Addr} {es : List En} {e : En} (h : HL H d ws ps L) (nd : ps.Nodup) (tk : TK H H') (hd : H' d = H d) (hk : ps[k]? = some pk)
    (hr : ∀ p ∈ ps, p ≠ pk → H' p = H p) (hn : TL H' pk ((es ++ [e]).map En.vs)) : HL H' d ws ps (L.set k (es ++ [e])) :=
  ⟨hd.trans h.dk, h.pl, fun i p es2 h1 h2 => by
    rcases set_get h2 with ⟨rfl, rfl⟩ | ⟨ne, h3⟩
    · rw [hk] at h1
      cases h1
      exact hn
    · refine (h.lg i p es2 h1 h3).keep tk (hr p (List.mem_of_getElem? h1) fun z => ne ?_)
      subst z
      exact (List.getElem?_inj (List.getElem?_eq_some_iff.mp h1).1 nd).mp (h1.trans hk.symm)⟩
theorem ev_dget {σ : L2.St} {H : Hp} {td ty : TE} {d : Addr} {kvs : List (Key × V)} {x : Str} {v : V} (h1 : Ev td σ H (.ref d)) (h2 : Ev ty σ H (.str x)) (hd : H d = some (.dK kvs)) (hv : valV kvs (.inr x) = some v) : Ev (tDGet td ty) σ H v := fun H1 e Q q =>
  h1 H1 e _ fun H2 e2 => h2 H2 (e.trans e2) _ fun H3 e3 => ⟨d, v, rfl, by
    have := DGet.k (k := .inr x) (e3 _ _ (e2 _ _ (e _ _ hd)))
    rw [hv] at this
    exact this, q H3 (e2.trans e3)⟩
theorem eu_if {σ : L2.St} {H : Hp} {t : TT} {ta tb : TE} {b : Bool} {xs : List V} (h : EvT t σ H b) (h1 : b = true → EvU ta σ H xs) (h2 : b = false → EvU tb σ H xs) : EvU (tIf t ta tb) σ H xs := fun H1 e Q q => h H1 e _ fun H2 e2 => by
  cases b with
  | true =>
    show ta σ H2 Q
    exact h1 rfl H2 (e.trans e2) Q fun p H3 n e3 h3 => q p H3 (fresh_back e2 n) (e2.trans e3) h3
  | false =>
    show tb σ H2 Q
    exact h2 rfl H2 (e.trans e2) Q fun p H3 n e3 h3 => q p H3 (fresh_back e2 n) (e2.trans e3) h3
def prv (x : Str × Str) : List V := [.str x.1, .str x.2]
end Vx
namespace Vx
open PySem PySem.Spec PyProof.Rows L2 Evl
theorem s_rows {K : PySem.W.Frag} {D : Ends} {σ : L2.St} {H : Hp} {tl : TE} {i j : Nat} {vs : List Nat} {pw : Addr} {ws : List Str} (h : Ev tl σ H (.ref pw)) (hw : H pw = some (.lst (ws.map V.str))) (hl : ws.length ≤ 1000) (nd : ws.Nodup)
    (hj : ∀ x, ((wipe σ vs).set j (some x))[j]? = some (some x)) (hwp : ∀ x, wipe ((wipe σ vs).set j (some x)) vs = wipe σ vs)
    (k : ∀ d ps H2, H d = none → Ex H H2 → H2 d = some (.dK (Dk ws ps)) → New H H2 ws.length ps → D.nx (σ.set i (some (.ref d))) H2) :
      tAsg (tCB (rDictP K) (tCons (tLc (iList K tl) (gName j) tYes (tTup (tCons (tVar j) (tCons (tLst tNil) tNil))) vs) tNil)) (gName i) D σ H :=
  ev_rows h hw hl nd hj hwp H (Ex.refl H) _ k
end Vx
namespace Vx
open PySem PySem.Spec PyProof.Rows L2 Evl
/-- l.append(e), e changes the heap -/
theorem s_appD {K : PySem.W.Frag} {D : Ends} {σ : L2.St} {H : Hp} {tl te : TE} {l : Addr} {xs : List V} (ha : Ev tl σ H (.ref l)) (hl : H l = some (.lst xs))
    (k : ∀ H1, Ex H H1 → te σ H1 fun v H2 => rAppend (.ref l) [v] H2 fun _ H3 => D.nx σ H3) : tDrop (tBM K "list" rAppend tl (tCons te tNil)) D σ H :=
  ha H (Ex.refl H) _ fun H1 e1 => ⟨Or.inl ⟨rfl, _, sq_of (e1 _ _ hl)⟩, k H1 e1⟩
end Vx
namespace Vx
theorem at_last {α : Type} {xs : List α} {n : Nat} {v : α} (hl : xs.length = n + 1) (h : xs[n]? = some v) : L2.atI xs (-1) = some v := by
  have e : L2.ixN xs.length (-1) = some n := by
    unfold L2.ixN
    rw [hl, if_neg (by decide), if_pos (by omega)]
    congr 1
    omega
  unfold L2.atI
  rw [e]
  exact h
end Vx
namespace Vx
open PySem PySem.Spec PyProof.Rows L2 Evl
theorem Evl_go {te : TE} {σ : L2.St} {H : Hp} {v : V} {Q : VK} (h : Ev te σ H v) (k : ∀ H1, Ex H H1 → Q v H1) : te σ H Q := h H (Ex.refl H) Q k
end Vx

set_option Elab.async false
set_option linter.all false
set_option maxRecDepth 100000
set_option maxHeartbeats 8000000
namespace Vx
open PySem PySem.Spec PyProof.Rows L2 Evl
def spLogs (K : PySem.W.Frag) : Sp := fun vs H Q _ => ∃ (s : Addr) (n m : Nat), vs = [.ref s, .int (m : Int)] ∧ Src H s n ∧ n + 4000 ≤ 1000000000 ∧ 1 ≤ m ∧ m ≤ 60 ∧
  ∀ (d : Addr) (ws : List Str) (ps : List Addr) (L : List (List En)) (H' : Hp), H d = none → KB s H H' → Src H' s (n + 4000) → HL H' d ws ps L → (∀ p ∈ ps, H p = none) → ps.Nodup → Vlog m ws L → Q (.ref d) H'
/-- the heap between two entries -/
structure LapH (s d pw pf pp : Addr) (ws : List Str) (ps : List Addr) (H H' : Hp) (n : Nat) (L : List (List En)) (fr : List Str) (pr : List (Str × Str)) : Prop where
  kb : KB s H H'
  src : Src H' s n
  hw : H' pw = some (.lst (ws.map V.str))
  hl : HL H' d ws ps L
  hf : H' pf = some (.lst (fr.map V.str))
  hp : TL H' pp (pr.map prv)
structure Apart (s d pw pf pp : Addr) (ps : List Addr) (H : Hp) : Prop where
  wf : pw ≠ pf
  wp : pw ≠ pp
  fp : pf ≠ pp
  nw : pw ≠ s
  nf : pf ≠ s
  np : pp ≠ s
  nd : ps.Nodup
  ps : ∀ p ∈ ps, p ≠ pw ∧ p ≠ pf ∧ p ≠ pp ∧ p ≠ s ∧ H p = none
  d0 : H d = none
  w0 : H pw = none
  f0 : H pf = none
  p0 : H pp = none
section
variable {s d pw pf pp : Addr} {ws : List Str} {ps : List Addr} {H H' H2 : Hp} {n n2 : Nat} {L : List (List En)} {fr : List Str} {pr : List (Str × Str)}
theorem LapH.turn (l : LapH s d pw pf pp ws ps H H' n L fr pr) (a : Apart s d pw pf pp ps H) (k : KB s H' H2) (S : Src H2 s n2) : LapH s d pw pf pp ws ps H H2 n2 L fr pr := by
  obtain ⟨ys, hs⟩ := l.src.at_
  exact ⟨l.kb.trans k, S, k _ _ a.nw l.hw, l.hl.kb k hs fun p hp => (a.ps p hp).2.2.2.1, k _ _ a.nf l.hf, l.hp.kb k hs a.np⟩
theorem LapH.ex (l : LapH s d pw pf pp ws ps H H' n L fr pr) (a : Apart s d pw pf pp ps H) (e : Ex H' H2) : LapH s d pw pf pp ws ps H H2 n L fr pr := l.turn a (kb_ex e) (l.src.ex e)
theorem LapH.le (l : LapH s d pw pf pp ws ps H H' n L fr pr) (h : n ≤ n2) : LapH s d pw pf pp ws ps H H' n2 L fr pr := ⟨l.kb, l.src.le h, l.hw, l.hl, l.hf, l.hp⟩
theorem LapH.nd (l : LapH s d pw pf pp ws ps H H' n L fr pr) {p : Addr} {vs : List V} (h : H' p = some (.lst vs)) : d ≠ p := fun z => by
  have := l.hl.dk
  rw [z, h] at this
  cases this
theorem LapH.app {k : Nat} {pk a : Addr} {es : List En} {e : En} {lv : List V} (l : LapH s d pw pf pp ws ps H H' n L fr pr) (ap : Apart s d pw pf pp ps H) (hpk : ps[k]? = some pk) (hes : L[k]? = some es) (hlv : H' pk = some (.lst lv))
    (ha : H' a = some (.tup e.vs)) : LapH s d pw pf pp ws ps H (upd H' pk (.lst (lv ++ [.ref a]))) n (L.set k (es ++ [e])) fr pr := by
  obtain ⟨a1, a2, a3, a4, a5⟩ := ap.ps pk (List.mem_of_getElem? hpk)
  have tk : TK H' (upd H' pk (.lst (lv ++ [.ref a]))) := tk_upd hlv
  refine ⟨l.kb.updN (Or.inl a5), l.src.upd a4.symm, by rw [upd_ne a1.symm]; exact l.hw, ?_, by rw [upd_ne a2.symm]; exact l.hf, l.hp.keep tk (upd_ne a3.symm)⟩
  refine l.hl.set ap.nd tk (upd_ne (l.nd hlv)) hpk (fun p _ h => upd_ne h) ?_
  rw [List.map_append]
  exact (l.hl.lg k pk es hpk hes).app tk hlv upd_same (tk _ _ ha)
theorem LapH.popF {x : Str} (l : LapH s d pw pf pp ws ps H H' n L (fr ++ [x]) pr) (ap : Apart s d pw pf pp ps H) : LapH s d pw pf pp ws ps H (upd H' pf (.lst ((fr ++ [x]).map V.str).dropLast)) n L fr pr := by
  have tk : TK H' (upd H' pf (.lst ((fr ++ [x]).map V.str).dropLast)) := tk_upd l.hf
  have nf : pf ≠ s := ap.nf
  refine ⟨l.kb.updN (Or.inl ap.f0), l.src.upd nf.symm, by rw [upd_ne ap.wf]; exact l.hw, ⟨by rw [upd_ne (l.nd l.hf)]; exact l.hl.dk, l.hl.pl, fun i p es h1 h2 => (l.hl.lg i p es h1 h2).keep tk (upd_ne (ap.ps p (List.mem_of_getElem? h1)).2.1)⟩, ?_, l.hp.keep tk (upd_ne ap.fp.symm)⟩
  rw [upd_same, List.map_append]
  have : (fr.map V.str ++ [x].map V.str).dropLast = fr.map V.str := List.dropLast_concat
  rw [this]
theorem LapH.putP {vs ws2 : List V} {pr2 : List (Str × Str)} (l : LapH s d pw pf pp ws ps H H' n L fr pr) (ap : Apart s d pw pf pp ps H) (hvs : H' pp = some (.lst vs)) (hn : TL (upd H' pp (.lst ws2)) pp (pr2.map prv)) :
    LapH s d pw pf pp ws ps H (upd H' pp (.lst ws2)) n L fr pr2 := by
  have tk : TK H' (upd H' pp (.lst ws2)) := tk_upd hvs
  have np : pp ≠ s := ap.np
  exact ⟨l.kb.updN (Or.inl ap.p0), l.src.upd np.symm, by rw [upd_ne ap.wp]; exact l.hw, ⟨by rw [upd_ne (l.nd hvs)]; exact l.hl.dk, l.hl.pl, fun i p es h1 h2 => (l.hl.lg i p es h1 h2).keep tk (upd_ne (ap.ps p (List.mem_of_getElem? h1)).2.2.1)⟩, by rw [upd_ne ap.fp]; exact l.hf, hn⟩
theorem LapH.appP {a : Addr} {vs : List V} {x : Str × Str} (l : LapH s d pw pf pp ws ps H H' n L fr pr) (ap : Apart s d pw pf pp ps H) (hvs : H' pp = some (.lst vs)) (ha : H' a = some (.tup (prv x))) :
    LapH s d pw pf pp ws ps H (upd H' pp (.lst (vs ++ [.ref a]))) n L fr (pr ++ [x]) := by
  refine l.putP ap hvs ?_
  rw [List.map_append]
  exact l.hp.app (tk_upd hvs) hvs upd_same (tk_upd hvs _ _ ha)
theorem LapH.popP {vs : List V} {i : Nat} (l : LapH s d pw pf pp ws ps H H' n L fr pr) (ap : Apart s d pw pf pp ps H) (hvs : H' pp = some (.lst vs)) : LapH s d pw pf pp ws ps H (upd H' pp (.lst (vs.eraseIdx i))) n L fr (pr.eraseIdx i) := by
  refine l.putP ap hvs ?_
  rw [← erase_map]
  exact l.hp.erase (tk_upd hvs) hvs upd_same
/-- x, o = (present + [('', '')])[spot] -/
theorem s_spot {K : PySem.W.Frag} {D : Ends} {σ : L2.St} {sp i5 i11 j1 j2 : Nat} (h5 : σ[i5]? = some (some (.ref pp))) (h11 : σ[i11]? = some (some (.int (sp : Int)))) (hv : TL H pp (pr.map prv)) (hsp : sp ≤ pr.length) (hz : pr.length ≤ 1000)
    (k : ∀ (x o : Str) H4, Ex H H4 → (o = "" ∨ pr[sp]? = some (x, o)) → D.nx ((σ.set j1 (some (.str x))).set j2 (some (.str o))) H4) :
    tAsg (tOp (rIxL K) (tOp rCat (tVar i5) (tLst (tCons (tTup (tCons (tC (.str "")) (tCons (tC (.str "")) tNil))) tNil))) (tVar i11)) (gTup K 2 (gCons (gName j1) (gCons (gName j2) gNil))) D σ H := by
  obtain ⟨vs, hvs, hvl⟩ := hv.at_
  rw [List.length_map] at hvl
  refine ⟨.ref pp, h5, (by show 2 ≤ sizeLine; decide), fun a ha => ⟨(by show 1 ≤ sizeLine; decide), fun b hb => ⟨pp, b, vs, [.ref a], rfl, rfl, ?_, upd_same, sz_of (by show vs.length + 1 ≤ 100000; omega), fun c hc => ?_⟩⟩⟩
  all_goals have na : pp ≠ a := ne_of_none hvs ha
  all_goals have nb : pp ≠ b := ne_of_none (by rw [upd_ne na]; exact hvs) hb
  · rw [upd_ne nb, upd_ne na]
    exact hvs
  · have E : Ex H (upd (upd (upd H a (.tup [.str "", .str ""])) b (.lst [.ref a])) c (.lst (vs ++ [.ref a]))) := ((Ex.new ha).trans (Ex.new hb)).trans (Ex.new hc)
    by_cases hlt : sp < pr.length
    · obtain ⟨x, o⟩ : ∃ z, pr[sp]? = some z := ⟨_, List.getElem?_eq_getElem hlt⟩
      obtain ⟨t, g1, g2⟩ := hv.get hvs (i := sp) (t := prv x) (by rw [List.getElem?_map, o]; rfl)
      refine ⟨_, h11, c, vs ++ [.ref a], (sp : Int), .ref t, rfl, rfl, sq_of upd_same, atI_nat (by rw [List.getElem?_append_left (by omega)]; exact g1), t, prv x, rfl, st_of (E _ _ g2), rfl, _, _, rfl, _, _, rfl, rfl, ?_⟩
      exact k x.1 x.2 _ E (Or.inr o)
    · have : sp = vs.length := by omega
      refine ⟨_, h11, c, vs ++ [.ref a], (sp : Int), .ref a, rfl, rfl, sq_of upd_same, atI_nat (by rw [this, List.getElem?_append_right (Nat.le_refl _), Nat.sub_self]; rfl), a, [.str "", .str ""], rfl, st_of ?_, rfl, _, _, rfl, _, _, rfl, rfl, ?_⟩
      · have n1 : a ≠ b := ne_of_none (H := upd H a (.tup [.str "", .str ""])) upd_same hb
        have n2 : a ≠ c := ne_of_none (by rw [upd_ne n1, upd_same]) hc
        rw [upd_ne n2, upd_ne n1, upd_same]
      · exact k "" "" _ E (Or.inl rfl)
end
section
variable {P : Program} {w : World} {K : PySem.W.Frag} {mg : Str → Option Value} {base : Heap}
theorem sc_law_logs : FnScope ["source", "top", "workers", "rows", "fresh", "present", "counts", "steps", "liking", "lap", "name", "spot", "way", "item", "owner", "number"] ["source", "top"] (defScope s_law_logs) := ⟨rfl, rfl, rfl, by decide +kernel, rfl, by decide +kernel, by decide +kernel⟩
theorem ok_law_logs (D : Def K mg "_law_logs" s_law_logs ["source", "top"]) (T : Bl mg) (G_law_pick : Good P w K mg base 1 "_law_pick" ["source", "count"] spPick) (G_law_words : Good P w K mg base 2 "_law_words" ["source", "size"] (spWords K)) (G_law_workers : Good P w K mg base 3 "_law_workers" ["source"] (spWorkers K)) : Good P w K mg base 4 "_law_logs" ["source", "top"] (spLogs K) := by
  refine D.good sc_law_logs (fun vs H Q E h => ?_) (fun f cdv A outer s H vs Q E hr h => ?_)
  · obtain ⟨s, n, m, rfl, _⟩ := h
    rfl
  · obtain ⟨s, n, m, rfl, hs, hn, hm0, hm, q⟩ := h
    have hu := hu_of hr
    refine ⟨_, (pss_cons (ps_set (i := 2) sc_law_logs.nd rfl (Or.inl rfl) (pe_fn (G_law_workers.mono (by decide)) hr (pa_cons (pv 0) pa_nil)))
      (pss_cons (ps_set (i := 3) sc_law_logs.nd rfl (Or.inl rfl) (pe_callTy (hc := call_dictP rfl) (hg := rfl) (hm := T.dict) (hv := by decide +kernel) (ha := pa_cons (pe_lc (own := [("name", 10)]) (g := (gName 10)) (tt := tYes) rfl sc_law_logs.nd (x_pil (K := K) (pv 2)) (blkOk_by (N := ["source", "top", "workers", "rows", "fresh", "present", "counts", "steps", "liking", "lap", "name", "spot", "way", "item", "owner", "number"]) (sc := (defScope s_law_logs)) (by decide +kernel)) (fun _ _ _ _ _ => (pg_name (i := 10) sc_law_logs.nd rfl (Or.inl rfl))) (fun _ _ _ _ _ => pts_nil) (fun _ _ _ _ _ => (pe_tup (pa_cons (pv 10) (pa_cons (pe_lst pa_nil) pa_nil))))) pa_nil)))
      (pss_cons (ps_par (i := 4) (j := 5) rfl sc_law_logs.nd rfl rfl (by decide) rfl rfl (pa_cons (pe_fn (G_law_words.mono (by decide)) hr (pa_cons (pv 0) (pa_cons (pe_op op_mul pe_int (pv 1)) pa_nil))) (pa_cons (pe_lst pa_nil) pa_nil)) (by rfl))
      (pss_cons (ps_set (i := 6) sc_law_logs.nd rfl (Or.inl rfl) (pe_lst (pa_cons (pe_fn (G_law_pick.mono (by decide)) hr (pa_cons (pv 0) (pa_cons pe_int pa_nil))) (pa_cons (pe_fn (G_law_pick.mono (by decide)) hr (pa_cons (pv 0) (pa_cons pe_int pa_nil))) (pa_cons (pe_fn (G_law_pick.mono (by decide)) hr (pa_cons (pv 0) (pa_cons (pe_op op_add (pe_op op_mul pe_int (pv 1)) pe_int) pa_nil))) (pa_cons (pe_op op_mul pe_int (pv 1)) pa_nil))))))
      (pss_cons (ps_par (i := 7) (j := 8) rfl sc_law_logs.nd rfl rfl (by decide) rfl rfl (pa_cons (x_ixl (K := K) (pv 6) (pe_fn (G_law_pick.mono (by decide)) hr (pa_cons (pv 0) (pa_cons pe_int pa_nil)))) (pa_cons (pe_op op_add pe_int (pe_fn (G_law_pick.mono (by decide)) hr (pa_cons (pv 0) (pa_cons pe_int pa_nil)))) pa_nil)) (by rfl))
      (pss_cons (ps_for PassesOwn.never rfl (x_rng T (pa_cons (pv 7) pa_nil)) (pg_name (i := 9) sc_law_logs.nd rfl (Or.inl rfl)) (pss_cons (ps_set (i := 10) sc_law_logs.nd rfl (Or.inl rfl) (x_ixl (K := K) (pv 2) (pe_fn (G_law_pick.mono (by decide)) hr (pa_cons (pv 0) (pa_cons (x_len (K := K) T (pv 2)) pa_nil)))))
      (pss_cons (ps_par (i := 11) (j := 12) rfl sc_law_logs.nd rfl rfl (by decide) rfl rfl (pa_cons (pe_fn (G_law_pick.mono (by decide)) hr (pa_cons (pv 0) (pa_cons (pe_op op_add (x_len (K := K) T (pv 5)) pe_int) pa_nil))) (pa_cons (pe_fn (G_law_pick.mono (by decide)) hr (pa_cons (pv 0) (pa_cons pe_int pa_nil))) pa_nil)) (by rfl))
      (pss_cons (ps_asg (x_ixl (K := K) (pe_op op_cat (pv 5) (pe_lst (pa_cons (pe_tup (pa_cons pe_str (pa_cons pe_str pa_nil))) pa_nil))) (pv 11)) (x_gt (K := K) (pgs_cons (pg_name (i := 13) sc_law_logs.nd rfl (Or.inl rfl)) (pgs_cons (pg_name (i := 14) sc_law_logs.nd rfl (Or.inl rfl)) pgs_nil))))
      (pss_cons (ps_set (i := 15) sc_law_logs.nd rfl (Or.inl rfl) (x_ixl (K := K) (pe_lst (pa_cons (pv 12) (pa_cons (pe_fn (G_law_pick.mono (by decide)) hr (pa_cons (pv 0) (pa_cons pe_int pa_nil))) pa_nil))) (pe_fn (G_law_pick.mono (by decide)) hr (pa_cons (pv 0) (pa_cons pe_int pa_nil)))))
      (pss_cons (ps_if (pt_cmpR op_eq (x_len (K := K) T (pe_dget hu (pv 3) (pv 10) (fun _ _ => rfl))) (pv 1) (nomark _)) (pss_one (ps_set (i := 12) sc_law_logs.nd rfl (Or.inl rfl) pe_int)) pss_nil)
      (pss_one (ps_if (pt_cmpR op_eq (pv 12) pe_int (nomark _)) (pss_one (ps_expr (x_bm (K := K) PySem.F.plainAttrs_list PySem.F.slot_list_append PySem.F.type_list_append mt_append (pe_dget hu (pv 3) (pv 10) (fun _ _ => rfl)) (pa_cons (pe_tup (pa_cons pe_str (pa_cons (pv 15) pa_nil))) pa_nil)))) (pss_one (ps_if (pw_and (pt_cmpR op_lt (pv 12) (pv 8) (nomark _)) (pw_and1 (pt_cmpR op_ne (pv 14) pe_str (nomark _)))).pt (pss_cons (ps_expr (x_bm (K := K) PySem.F.plainAttrs_list PySem.F.slot_list_append PySem.F.type_list_append mt_append (pe_dget hu (pv 3) (pv 10) (fun _ _ => rfl)) (pa_cons (pe_ifExp (pt_cmpR op_eq (pv 14) (pv 10) (nomark _)) (pe_tup (pa_cons pe_str (pa_cons (pv 13) pa_nil))) (pe_tup (pa_cons pe_str (pa_cons (pv 14) (pa_cons (pv 13) pa_nil))))) pa_nil)))
      (pss_one (ps_expr (x_bm (K := K) PySem.F.plainAttrs_list PySem.F.slot_list_pop PySem.F.type_list_pop mt_popAt (pv 5) (pa_cons (pv 11) pa_nil))))) (pss_one (ps_if (pt_cmpR op_lt (pv 12) pe_int (nomark _)) (pss_cons (ps_expr (x_bm (K := K) PySem.F.plainAttrs_list PySem.F.slot_list_append PySem.F.type_list_append mt_append (pe_dget hu (pv 3) (pv 10) (fun _ _ => rfl)) (pa_cons (pe_tup (pa_cons pe_str (pa_cons (x_bm0 (K := K) PySem.F.plainAttrs_list PySem.F.slot_list_pop PySem.F.type_list_pop mt_pop (pv 4)) pa_nil))) pa_nil)))
      (pss_one (ps_expr (x_bm (K := K) PySem.F.plainAttrs_list PySem.F.slot_list_append PySem.F.type_list_append mt_append (pv 5) (pa_cons (pe_tup (pa_cons (x_ixt (K := K) (x_ixl (K := K) (pe_dget hu (pv 3) (pv 10) (fun _ _ => rfl)) (pe_un un_neg pe_int)) pe_int) (pa_cons (pv 10) pa_nil))) pa_nil))))) pss_nil))))))))))))
      (pss_one (ps_ret (pv 3))))))))), ?_⟩
    refine ⟨_, rfl, s, n, rfl, hs, by omega, fun pw ws H1 n1 k1 S1 h1 wk => ?_⟩
    obtain ⟨ys0, hs0⟩ := hs.at_
    refine s_rows (ev_var rfl) h1 (by have := wk.2.1; omega) wk.2.2.1 (fun _ => rfl) (fun _ => rfl) fun d ps H2 n2 e2 hd new => ?_
    have S2 := S1.ex e2
    refine ⟨_, rfl, _, rfl, _, _, rfl, rfl, Or.inl ⟨by decide, by decide⟩, s, n + 11, 6 * m, by rw [Int.natCast_mul]; rfl, S2, by omega, by omega, fun pf fr H3 n3 k3 S3 h3 hfl hfd hfn => ?_⟩
    refine ⟨(by show 0 ≤ sizeLine; decide), fun pp hpp => ⟨_, _, rfl, ?_⟩⟩
    obtain ⟨ys1, hs1⟩ := S1.at_
    obtain ⟨ys2, hs2⟩ := S2.at_
    obtain ⟨ys3, hs3⟩ := S3.at_
    have nsw : pw ≠ s := fun z => by rw [z, hs0] at n1; cases n1
    have nsf : pf ≠ s := fun z => by rw [z, hs2] at n3; cases n3
    have nsp : pp ≠ s := fun z => by rw [z, hs3] at hpp; cases hpp
    have h12 := e2 _ _ h1
    have nwf : pw ≠ pf := ne_of_none h12 n3
    have h13 := k3 _ _ nsw h12
    have nwp : pw ≠ pp := ne_of_none h13 hpp
    have nfp : pf ≠ pp := ne_of_none h3 hpp
    have d1 : H1 d = none := n2
    have ap : Apart s d pw pf pp ps H := by
      refine ⟨nwf, nwp, nfp, nsw, nsf, nsp, new.2.1, fun p h => ?_, k1.fresh ⟨_, hs1⟩ n2, n1, k1.fresh ⟨_, hs1⟩ (fresh_back e2 n3), ?_⟩
      · obtain ⟨g1, g2⟩ := new.2.2 p h
        have ns : p ≠ s := fun z => by rw [z, hs1] at g1; cases g1
        exact ⟨fun z => (by rw [z, h1] at g1; cases g1), ne_of_none g2 n3, ne_of_none (k3 _ _ ns g2) hpp, ns, k1.fresh ⟨_, hs1⟩ g1⟩
      · exact k1.fresh ⟨_, hs1⟩ (fresh_back e2 (k3.fresh ⟨_, hs3⟩ hpp))
    have hl3 : HL (upd H3 pp (.lst [])) d ws ps (List.replicate ws.length []) := by
      refine ⟨Ex.new hpp _ _ (k3 _ _ (fun z => by rw [z, hs1] at n2; cases n2) hd), new.1, fun i p es g1 g2 => ?_⟩
      have g3 : es = [] := (List.mem_replicate.mp (List.mem_of_getElem? g2)).2
      subst g3
      have gm := List.mem_of_getElem? g1
      exact TL.nil (Ex.new hpp _ _ (k3 _ _ (ap.ps p gm).2.2.2.1 (new.2.2 p gm).2))
    have S4 : Src (upd H3 pp (.lst [])) s (n + 13) := S3.ex (Ex.new hpp)
    have lap0 : LapH s d pw pf pp ws ps H (upd H3 pp (.lst [])) (n + 13) (List.replicate ws.length []) fr [] :=
      ⟨((k1.trans (kb_ex e2)).trans k3).trans (kb_ex (Ex.new hpp)), S4, Ex.new hpp _ _ h13, hl3, Ex.new hpp _ _ h3, TL.nil upd_same⟩
    have dl0 := Dlog.nil (top := m) wk hfl hfd hfn
    generalize upd H3 pp (.lst []) = H4 at lap0 S4
    clear S3 S2
    -- counts
    have bnd : ∀ {a : Int}, a ≤ 721 → ∀ v : V, (∃ r : Int, v = .int r ∧ 0 ≤ r ∧ r < a) → ∃ r : Int, v = .int r ∧ 0 ≤ r ∧ r ≤ 720 := fun ha v h => by
      obtain ⟨r, h1, h2, h3⟩ := h
      exact ⟨r, h1, h2, by omega⟩
    refine sk_asgL (c := 3) S4 (ekl_lst (c := 3) (Ps := [_, _, _, _]) (hid_s _ _) (eka_cons (c := 1) (d := 2) (hid_s _ _) ((ek_pick (c := 0) (m := 4) (hid_s _ _) rfl (ek_of ev_c rfl) (by decide) (by decide)).imp (bnd (by decide)))
      (eka_cons (c := 1) (d := 1) (hid_s _ _) ((ek_pick (c := 0) (m := 40) (hid_s _ _) rfl (ek_of ev_c rfl) (by decide) (by decide)).imp (bnd (by decide)))
      (eka_cons (c := 1) (d := 0) (hid_s _ _) ((ek_pick (c := 0) (m := 6 * (m : Int) + 1) (hid_s _ _) rfl (ek_of (ev_op (ev_op ev_c (ev_var rfl) (rv_I (Or.inl ⟨by decide, by decide⟩))) ev_c rv_I0) rfl) (by omega) (by omega)).imp (bnd (by omega)))
      (eka_cons (c := 0) (d := 0) (hid_s _ _) (ek_of (P := fun v => ∃ r : Int, v = .int r ∧ 0 ≤ r ∧ r ≤ 720) (ev_op ev_c (ev_var rfl) (rv_I (Or.inl ⟨by decide, by decide⟩))) ⟨_, rfl, by omega, by omega⟩) eka_nil)))) (by show 4 ≤ 100000; decide)) (by omega) fun pc cs H5 n5 k5 S5 h5 hcs => ?_
    have hat : ∀ r : Int, 0 ≤ r → r < 4 → ∃ t : Int, atI cs r = some (.int t) ∧ 0 ≤ t ∧ t ≤ 720 := fun r r0 r1 => by
      obtain ⟨k, rfl⟩ : ∃ k : Nat, r = (k : Int) := ⟨r.toNat, by omega⟩
      have : ∃ v, cs[k]? = some v ∧ ∃ r : Int, v = .int r ∧ 0 ≤ r ∧ r ≤ 720 := by
        rcases k with _ | _ | _ | _ | k
        · exact paired_get hcs (i := 0) rfl
        · exact paired_get hcs (i := 1) rfl
        · exact paired_get hcs (i := 2) rfl
        · exact paired_get hcs (i := 3) rfl
        · omega
      obtain ⟨v, g1, t, rfl, g2, g3⟩ := this
      exact ⟨t, atI_nat g1, g2, g3⟩
    obtain ⟨ys4, hs4⟩ := S4.at_
    have npc : pc ≠ s := fun z => by rw [z, hs4] at n5; cases n5
    refine sk_par (c := 2) (P1 := fun v => ∃ t : Int, v = .int t ∧ 0 ≤ t ∧ t ≤ 720) (P2 := fun v => ∃ t : Int, v = .int t ∧ t ≤ 6) S5 (eka_cons (c := 1) (d := 1) (hid_s _ _) (ek_op (c := 0) (d := 1) (P := fun v => v = .ref pc) (hid_s _ _) (ek_of (ev_var rfl) rfl) (ek_pick (c := 0) (m := 4) (hid_s _ _) rfl (ek_of ev_c rfl) (by decide) (by decide)) (fun x y hx hy => by
        obtain ⟨r, rfl, r0, r1⟩ := hy
        subst hx
        obtain ⟨t, g1, g2, g3⟩ := hat r r0 r1
        exact ⟨_, ⟨t, rfl, g2, g3⟩, rv_ixL (sq_of ((hid_ne npc).trans h5)) g1⟩))
      (eka_cons (c := 1) (d := 0) (hid_s _ _) (ek_op (c := 0) (d := 1) (P := fun v => v = .int 2) (hid_s _ _) (ek_of ev_c rfl) (ek_pick (c := 0) (m := 5) (hid_s _ _) rfl (ek_of ev_c rfl) (by decide) (by decide)) (fun x y hx hy => by
        obtain ⟨r, rfl, r0, r1⟩ := hy
        subst hx
        exact ⟨_, ⟨_, rfl, by omega⟩, rv_I0⟩)) eka_nil)) (by omega) fun v1 v2 H6 k6 S6 p1 p2 => ?_
    obtain ⟨t, rfl, t0, t1⟩ := p1
    obtain ⟨lk, rfl, hlk⟩ := p2
    have lap6 := (lap0.turn ap k5 S5).turn ap k6 S6
    clear lap0 S4 S5 hat hcs bnd
    refine q_forR1 (ea_cons (ev_var rfl) ea_nil) ⟨t0, by omega⟩ (fun i σ' H' => ∃ L fr pr a9 a10 a11 a12 a13 a14 a15, σ' = [some (.ref s), some (.int m), some (.ref pw), some (.ref d), some (.ref pf), some (.ref pp), some (.ref pc), some (.int t), some (.int lk), a9, a10, a11, a12, a13, a14, a15] ∧ LapH s d pw pf pp ws ps H H' (n + 18 + 5 * i) L fr pr ∧ Dlog m ws L fr pr ∧ pr.length ≤ i)
      (fun H7 e7 => ⟨_, _, _, _, _, _, _, _, _, _, rfl, lap6.ex ap e7, dl0, Nat.le_refl _⟩) (fun i σ' H' hi p => ?_) (fun σ' H' p => ?_)
    · obtain ⟨L, fr, pr, a9, a10, a11, a12, a13, a14, a15, rfl, lap, dl, hpl⟩ := p
      have hi : i < 720 := by omega
      have wlen := dl.v.wk.2.1
      have w1 := dl.v.wk.1
      refine sk_asg (c := 1) (P := fun v => ∃ (k : Nat) (x : Str), v = .str x ∧ ws[k]? = some x) lap.src (ek_op (c := 0) (d := 1) (P := fun v => v = .ref pw) (hid_s _ _) (ek_of (ev_var rfl) rfl)
        (ek_pick (c := 0) (m := (ws.length : Int)) (hid_s _ _) rfl (ek_of (ev_is (ev_len (ev_var rfl) (sq_of ((hid_ne ap.nw).trans lap.hw))) (by rw [List.length_map])) rfl) (by omega) (by omega)) (fun x y hx hy => by
        obtain ⟨r, rfl, r0, r1⟩ := hy
        subst hx
        obtain ⟨k, rfl⟩ : ∃ k : Nat, r = (k : Int) := ⟨r.toNat, by omega⟩
        have hk : k < ws.length := by omega
        exact ⟨_, ⟨k, ws[k], rfl, List.getElem?_eq_getElem hk⟩, rv_ixL (sq_of ((hid_ne ap.nw).trans lap.hw)) (atI_nat (by rw [List.getElem?_map, List.getElem?_eq_getElem hk]; rfl))⟩)) (by omega) fun v HB kB SB p => ?_
      obtain ⟨k, x, rfl, hk⟩ := p
      have lapB := lap.turn ap kB SB
      obtain ⟨vs, hvs, hvl⟩ := lapB.hp.at_
      rw [List.length_map] at hvl
      refine sk_par (c := 2) (P1 := fun v => ∃ sp : Nat, v = .int (sp : Int) ∧ sp ≤ pr.length) (P2 := fun v => ∃ wy : Int, v = .int wy ∧ 0 ≤ wy ∧ wy < 7) SB (eka_cons (c := 1) (d := 1) (hid_s _ _) ((ek_pick (c := 0) (m := (vs.length : Int) + 1) (hid_s _ _) rfl (ek_of (ev_op (ev_len (ev_var rfl) (sq_of ((hid_ne ap.np).trans hvs))) ev_c rv_I0) rfl) (by omega) (by omega)).imp (fun v h => by
          obtain ⟨r, rfl, r0, r1⟩ := h
          exact ⟨r.toNat, by rw [Int.toNat_of_nonneg r0], by omega⟩))
        (eka_cons (c := 1) (d := 0) (hid_s _ _) (ek_pick (c := 0) (m := 7) (hid_s _ _) rfl (ek_of ev_c rfl) (by decide) (by decide)) eka_nil)) (by omega) fun v1 v2 HC kC SC p1 p2 => ?_
      obtain ⟨sp, rfl, hsp⟩ := p1
      obtain ⟨wy, rfl, wy0, wy1⟩ := p2
      have lapC := lapB.turn ap kC SC
      refine s_spot (D := { nx := _, rt := _, ct := _, bk := _ }) rfl rfl lapC.hp hsp (by omega) fun y o HD eD hyo => ?_
      have lapD := lapC.ex ap eD
      have SD := lapD.src
      refine sk_asg (c := 2) (P := fun v => ∃ nb : Int, v = .int nb ∧ 0 ≤ nb ∧ nb ≤ 60) SD (ek_ixL (c := 1) (d := 1) (hid_s _ _) (ekl_lst (c := 1) (Ps := [fun v => ∃ nb : Int, v = .int nb ∧ 0 ≤ nb ∧ nb ≤ 60, fun v => ∃ nb : Int, v = .int nb ∧ 0 ≤ nb ∧ nb ≤ 60]) (hid_s _ _) (eka_cons (c := 0) (d := 1) (hid_s _ _) (ek_of (ev_var rfl) ⟨wy, rfl, wy0, by omega⟩)
          (eka_cons (c := 1) (d := 0) (hid_s _ _) ((ek_pick (c := 0) (m := 61) (hid_s _ _) rfl (ek_of ev_c rfl) (by decide) (by decide)).imp (fun v h => by
            obtain ⟨r, rfl, r0, r1⟩ := h
            exact ⟨r, rfl, r0, by omega⟩)) eka_nil)) (by show 2 ≤ 100000; decide)) (ek_pick (c := 0) (m := 2) (hid_s _ _) rfl (ek_of ev_c rfl) (by decide) (by decide)) (fun xs u hxs hu => by
          obtain ⟨r, rfl, r0, r1⟩ := hu
          obtain ⟨j, rfl⟩ : ∃ j : Nat, r = (j : Int) := ⟨r.toNat, by omega⟩
          rcases j with _ | _ | j
          · obtain ⟨z, g1, g2⟩ := paired_get hxs (i := 0) rfl
            exact ⟨_, z, rfl, atI_nat g1, g2⟩
          · obtain ⟨z, g1, g2⟩ := paired_get hxs (i := 1) rfl
            exact ⟨_, z, rfl, atI_nat g1, g2⟩
          · omega)) (by omega) fun v HE kE SE p => ?_
      obtain ⟨nb, rfl, nb0, nb1⟩ := p
      have lapE := lapD.turn ap kE SE
      have hkL : k < L.length := by rw [dl.v.len]; exact (List.getElem?_eq_some_iff.mp hk).1
      have hkP : k < ps.length := by rw [lap.hl.pl]; exact (List.getElem?_eq_some_iff.mp hk).1
      obtain ⟨es, hes⟩ : ∃ es, L[k]? = some es := ⟨_, List.getElem?_eq_getElem hkL⟩
      obtain ⟨pk, hpk⟩ : ∃ pk, ps[k]? = some pk := ⟨_, List.getElem?_eq_getElem hkP⟩
      have hesm := (dl.v.ent es (List.mem_of_getElem? hes)).1
      obtain ⟨lv, hlv, hll⟩ := (lapE.hl.lg k pk es hpk hes).at_
      rw [List.length_map] at hll
      have dg : ∀ {σ : L2.St} {HX : Hp}, HX d = some (.dK (Dk ws ps)) → σ[3]? = some (some (.ref d)) → σ[10]? = some (some (.str x)) → Ev (tDGet (tVar 3) (tVar 10)) σ HX (.ref pk) := fun h1 h2 h3 => ev_dget (ev_var h2) (ev_var h3) h1 (dk_get dl.v.wk.2.2.1 hk hpk)
      refine q_ifAsg (v := .int (if lv.length = m then 9 else wy)) (et_test (ev_op (ev_lenA (dg lapE.hl.dk rfl rfl) (Or.inl (sq_of hlv))) (ev_var rfl) (rv_eq rfl))) (fun hb => ?_) (fun hb => ?_) fun HF eF => ?_
      · have hb : lv.length = m := by
          have := of_decide_eq_true hb
          injection this with h
          omega
        rw [if_pos hb]
        exact ev_c
      · have hb : ¬ lv.length = m := fun z => of_decide_eq_false hb (by rw [z])
        rw [if_neg hb]
        rfl
      have lapF := lapE.ex ap eF
      have hlvF := eF _ _ hlv
      generalize hwz : (if lv.length = m then (9 : Int) else wy) = wz
      have short : wz < 9 → es.length < m := fun h => by
        rw [← hll]
        rw [hll] at hwz
        by_cases e : es.length = m
        · rw [if_pos e] at hwz
          omega
        · omega
      have step : ∀ {H2 : Hp} {L2 : List (List En)} {fr2 : List Str} {pr2 : List (Str × Str)} {n2 : Nat}, LapH s d pw pf pp ws ps H H2 n2 L2 fr2 pr2 → n2 ≤ n + 18 + 5 * (i + 1) → LapH s d pw pf pp ws ps H H2 (n + 18 + 5 * (i + 1)) L2 fr2 pr2 := fun l h => l.le h
      refine s_if (b := decide (wz = 0)) (et_is (et_test (ev_op (ev_var rfl) ev_c (rv_eq rfl))) ?_) (fun hb HG eG => ?_) (fun hb HG eG => ?_)
      · by_cases e : wz = 0 <;> simp [e]
      · have hb := of_decide_eq_true hb
        have lapG := lapF.ex ap eG
        refine s_appU (xs := lv) (ys := (En.size nb).vs) (eG _ _ hlvF) (dg lapG.hl.dk rfl rfl) (eu_tup (ea_cons ev_c (ea_cons (ev_var rfl) ea_nil)) (by show 2 ≤ 100000; decide)) (by omega) fun a HI na eI hI => ?_
        have lapI := lapG.ex ap eI
        exact ⟨_, _, _, _, _, _, _, _, _, _, rfl, step (lapI.app ap hpk hes (eI _ _ (eG _ _ hlvF)) hI) (by omega), dl.size hes (short (by omega)) nb0 nb1, by omega⟩
      · have lapG := lapF.ex ap eG
        have hlvG := eG _ _ hlvF
        have hbn : ¬ wz = 0 := of_decide_eq_false hb
        refine s_if (b := decide (wz < lk) && decide (o ≠ "")) (et_is (et_and (et_test (ev_op (ev_var rfl) (ev_var rfl) rv_I0)) (fun _ => et_test (ev_op (ev_var rfl) ev_c (rv_ne rfl)))) ?_) (fun hc HI eI => ?_) (fun hc HI eI => ?_)
        · congr 1
          by_cases e : o = "" <;> simp [e]
        · rw [Bool.and_eq_true] at hc
          have c1 : wz < lk := of_decide_eq_true hc.1
          have c2 : o ≠ "" := of_decide_eq_true hc.2
          have hq : pr[sp]? = some (y, o) := by
            rcases hyo with h | h
            · exact absurd h c2
            · exact h
          have hlt := (List.getElem?_eq_some_iff.mp hq).1
          have lapI := lapG.ex ap eI
          have hlvI := eI _ _ hlvG
          refine q_appU (xs := lv) (ys := (if o = x then En.pop y else En.steal o y).vs) hlvI (dg lapI.hl.dk rfl rfl) (eu_if (b := decide (o = x)) (et_is (et_test (ev_op (ev_var rfl) (ev_var rfl) (rv_eq rfl))) ?_) (fun h => ?_) (fun h => ?_)) (by omega) fun a HJ na eJ hJ => ?_
          · by_cases e : o = x <;> simp [e]
          · rw [if_pos (of_decide_eq_true h)]
            exact eu_tup (ea_cons ev_c (ea_cons (ev_var rfl) ea_nil)) (by show 2 ≤ 100000; decide)
          · rw [if_neg (of_decide_eq_false h)]
            exact eu_tup (ea_cons ev_c (ea_cons (ev_var rfl) (ea_cons (ev_var rfl) ea_nil))) (by show 3 ≤ 100000; decide)
          have lapJ := (lapI.ex ap eJ).app ap hpk hes (eJ _ _ hlvI) hJ
          obtain ⟨us, hus, hul⟩ := lapJ.hp.at_
          rw [List.length_map] at hul
          refine ⟨_, rfl, .inl ⟨rfl, _, sq_of hus⟩, _, rfl, pp, us, (sp : Int), sp, us[sp], rfl, rfl, hus, by omega, by omega, seqIx (by omega) (by omega), List.getElem?_eq_getElem (by omega), ?_⟩
          refine ⟨_, _, _, _, _, _, _, _, _, _, rfl, step (lapJ.popP ap hus) (by omega), dl.take hes hk (short (by omega)) hq ?_, ?_⟩
          · by_cases e : o = x
            · left
              exact ⟨e, if_pos e⟩
            · right
              exact ⟨e, if_neg e⟩
          · have := List.length_eraseIdx_le pr sp
            omega
        · refine s_if (b := decide (wz < 9)) (et_test (ev_op (ev_var rfl) ev_c rv_I0)) (fun hd HJ eJ => ?_) (fun hd HJ eJ => ?_)
          · have hd := of_decide_eq_true hd
            have hsh := short hd
            have lapJ := (lapG.ex ap eI).ex ap eJ
            have hlvJ := eJ _ _ (eI _ _ hlvG)
            have hne : fr ≠ [] := fun z => by
              have h1 := dl.cnt
              have h2 := flat_lt (fun es he => (dl.v.ent es he).1) hes hsh
              rw [z] at h1
              simp only [List.length_nil, Nat.add_zero] at h1
              have h3 : L.length * m ≤ 6 * m := Nat.mul_le_mul_right _ (by rw [dl.v.len]; exact wlen)
              omega
            obtain ⟨fr', z, rfl⟩ : ∃ fr' z, fr = fr' ++ [z] := ⟨fr.dropLast, fr.getLast hne, (List.dropLast_concat_getLast hne).symm⟩
            refine s_appD (D := { nx := _, rt := _, ct := _, bk := _ }) (dg lapJ.hl.dk rfl rfl) hlvJ fun HK eK => ?_
            have lapK := lapJ.ex ap eK
            have lapM := lapK.popF ap
            have npf := (ap.ps pk (List.mem_of_getElem? hpk)).2.1
            have hlvM : (upd HK pf (.lst ((fr' ++ [z]).map V.str).dropLast)) pk = some (.lst lv) := by
              rw [upd_ne npf]
              exact eK _ _ hlvJ
            refine ⟨.ref pf, rfl, .inl ⟨rfl, _, sq_of lapK.hf⟩, pf, (fr' ++ [z]).map V.str, .str z, rfl, rfl, lapK.hf, ?_, (by show 2 ≤ sizeLine; decide), fun a ha => ⟨pk, lv, .ref a, rfl, rfl, Ex.new ha _ _ hlvM, sz_lt (by omega), ?_⟩⟩
            · rw [List.map_append, List.length_append]
              show (fr'.map V.str ++ [V.str z])[(fr'.map V.str).length + 1 - 1]? = _
              rw [Nat.add_sub_cancel, List.getElem?_append_right (Nat.le_refl _), Nat.sub_self]
              rfl
            · have lapN := (lapM.ex ap (Ex.new ha)).app (e := .push z) ap hpk hes (Ex.new ha _ _ hlvM) upd_same
              have eN : upd (upd (upd HK pf (.lst ((fr' ++ [z]).map V.str).dropLast)) a (.tup (En.push z).vs)) pk (.lst (lv ++ [.ref a])) = upd (upd (upd HK pf (.lst ((fr' ++ [z]).map V.str).dropLast)) a (.tup [.str "push", .str z])) pk (.lst (lv ++ [.ref a])) := rfl
              rw [eN] at lapN
              clear eN
              dsimp only
              generalize upd (upd (upd HK pf (.lst ((fr' ++ [z]).map V.str).dropLast)) a (.tup [.str "push", .str z])) pk (.lst (lv ++ [.ref a])) = HN at lapN ⊢
              obtain ⟨us, hus, hul⟩ := lapN.hp.at_
              rw [List.length_map] at hul
              have tl := lapN.hl.lg k pk (es ++ [.push z]) hpk (List.getElem?_set_self hkL)
              obtain ⟨lw, hlw, hlwl⟩ := tl.at_
              obtain ⟨a2, g1, g2⟩ := tl.get hlw (i := es.length) (t := [.str "push", .str z]) (by
                rw [List.map_append, List.getElem?_append_right (by rw [List.length_map]; exact Nat.le_refl _), List.length_map, Nat.sub_self]
                rfl)
              refine s_appU (xs := us) (ys := [.str z, .str x]) hus (ev_var rfl) ?_ (by omega) fun b HO nbO eO hO => ?_
              · refine eu_tup (ea_cons ?_ (ea_cons (ev_var rfl) ea_nil)) (by show 2 ≤ 100000; decide)
                exact ev_op (ev_op (dg lapN.hl.dk rfl rfl) (ev_un ev_c ru_neg) (rv_ixL (sq_of hlw) (at_last (n := es.length) (by rw [hlwl, List.length_map, List.length_append]; rfl) g1))) ev_c (rv_ixT (st_of g2) rfl)
              have lapO := lapN.ex ap eO
              exact ⟨_, _, _, _, _, _, _, _, _, _, rfl, step (lapO.appP (x := (z, x)) ap (eO _ _ hus) hO) (by omega), dl.push hes hk hsh, by rw [List.length_append]; show pr.length + 1 ≤ i + 1; omega⟩
          · have lapJ := (lapG.ex ap eI).ex ap eJ
            exact ⟨_, _, _, _, _, _, _, _, _, _, rfl, step lapJ (by omega), dl, by omega⟩
    · obtain ⟨L, fr, pr, a9, a10, a11, a12, a13, a14, a15, rfl, lap, dl, hpl⟩ := p
      refine ⟨.ref d, rfl, ?_⟩
      exact q d ws ps L H' ap.d0 lap.kb (lap.src.le (by omega)) lap.hl (fun p hp => (ap.ps p hp).2.2.2.2) ap.nd dl.v
end
end Vx

set_option Elab.async false
set_option linter.all false
set_option maxRecDepth 100000
set_option maxHeartbeats 4000000
namespace Vx
open PySem PySem.Spec PyProof.Rows L2 Evl
/-! the program: what it says of valid logs -/
structure Cs (mg : Str → Option Value) : Prop where
  MOST_LETTERS : ∃ t, mg "MOST_LETTERS" = some (.int 8 t)
  MOST_ITEMS : ∃ t, mg "MOST_ITEMS" = some (.int 60 t)
  MOST_WORKERS : ∃ t, mg "MOST_WORKERS" = some (.int 6 t)
  MOST_ENTRIES : ∃ t, mg "MOST_ENTRIES" = some (.int 60 t)
theorem x_gint {X : Cx} {x : Str} {i : Int} {pos : Pos} (h : ∃ t, X.mg x = some (.int i t)) (hg : Gl X x := by rfl) (hd : (x == ("__debug__" : Str)) = false := by decide) : PE X (.Name x pos) (tC (.int i)) := by
  obtain ⟨t, h⟩ := h
  exact pe_glob hg h ⟨t, rfl⟩ hd
theorem x_in {X : Cx} {K : PySem.W.Frag} (hK : X.K = K) : OpR X (compareOp .In) (rIn K false) := by
  subst hK
  exact op_in_seq
def Yes (H : Hp) (Q : VK) : Prop := ∀ H', Ex H H' → Q (.bl true) H'
def spInt : Sp := fun vs H Q _ => ∃ k : Int, vs = [.int k] ∧ Yes H Q
def spName : Sp := fun vs H Q _ => ∃ z : Str, vs = [.str z] ∧ IsNm z ∧ Yes H Q
def spSize : Sp := fun vs H Q _ => ∃ k : Int, vs = [.int k] ∧ (0 ≤ k ∧ k ≤ 60) ∧ Yes H Q
def spEntry : Sp := fun vs H Q _ => ∃ (a : Addr) (e : En), vs = [.ref a] ∧ H a = some (.tup e.vs) ∧ e.ok ∧ Yes H Q
def spIsLog : Sp := fun vs H Q _ => ∃ (p : Addr) (es : List En), vs = [.ref p] ∧ TL H p (es.map En.vs) ∧ (es.length ≤ 60 ∧ ∀ e ∈ es, e.ok) ∧ Yes H Q
theorem Yes.spv {sp : Sp} {vs : List V} {H : Hp} (h : ∀ H1, Ex H H1 → ∀ Q, Yes H1 Q → ∀ E, sp vs H1 Q E) : SpV sp vs H (.bl true) := fun H1 e Q q E => h H1 e Q q E
theorem ev_allT {K : PySem.W.Frag} {σ : L2.St} {H : Hp} {te : TE} (h : EvLP te σ H (fun vs _ => ∀ (i : Nat) v, vs[i]? = some v → v = .bl true)) : Ev (tCB (rAll K) (tCons te tNil)) σ H (.bl true) := fun H1 e Q q =>
  h H1 e _ fun p vs H2 n e2 h2 k => by
    have hv := k.kn.now e e2
    have : vs = (List.replicate vs.length true).map V.bl := by
      refine List.ext_getElem? fun i => ?_
      by_cases hi : i < vs.length
      · rw [List.getElem?_map, List.getElem?_replicate, if_pos hi, List.getElem?_eq_getElem hi, hv i _ (List.getElem?_eq_getElem hi)]
        rfl
      · rw [List.getElem?_eq_none (by omega), List.getElem?_eq_none (by rw [List.length_map, List.length_replicate]; omega)]
    refine ⟨p, List.replicate vs.length true, rfl, sq_of (by rw [← this]; exact h2), ?_⟩
    rw [all_rep]
    exact q H2 e2
/-- over the signs of a text -/
theorem elp_lcS {σ : L2.St} {H : Hp} {te tl : TE} {vs : List Nat} {j : Nat} {z : Str} (Φ : Nat → V → Hp → Prop) (h : Ev tl σ H (.str z)) (hz : z.length < 40000) (hw : ∀ x, wipe ((wipe σ vs).set j (some x)) vs = wipe σ vs)
    (he : ∀ (i c : Nat), z.cps.toList[i]? = some c → EvP te ((wipe σ vs).set j (some (.str ⟨#[c]⟩))) H (Φ i)) : EvLP (tLc (iStr tl) (gName j) tYes te vs) σ H (fun ys H' => ys.length = z.length ∧ ∀ i v, ys[i]? = some v → Φ i v H') := fun H0 e Q q => h H0 e _ fun H1 e1 =>
  ⟨z, rfl, fun Dl hD => lc_P (J := Its z) (B := H) (n := z.length) Φ (by omega) (e.trans e1) hD (fun i H2 hi e2 => hi) (fun H2 e2 => Nat.le_refl _)
    (fun i H2 x H' hi e2 y => by
      obtain ⟨rfl, c, hc, rfl⟩ := y
      exact ⟨_, Ex.refl _, hw _, fun Q2 q2 => q2 _ (Ex.refl _), he i c (by rw [Array.getElem?_toList]; exact hc)⟩)
    (fun ys H2 e2 h2 k => q Dl ys H2 (fresh_back e1 hD) (e1.trans e2) h2 (k.pre e1))⟩
theorem rv_leS {H : Hp} {i j : Str} : RV (fun x y H Q => ∃ i j, x = V.str i ∧ y = V.str j ∧ Q (.bl (!decide (j.cps.toList < i.cps.toList))) H) (.str i) (.str j) H (.bl (!decide (j.cps.toList < i.cps.toList))) := fun H1 _ _ q => ⟨i, j, rfl, rfl, q H1 (Ex.refl H1)⟩
theorem ev_chain {σ : L2.St} {H : Hp} {r r' : R2} {ta tb tc : TE} {x y z : V} {b : Bool} (ha : Ev ta σ H x) (hb : Ev tb σ H y) (hc : Ev tc σ H z) (h1 : RV r x y H (.bl true)) (h2 : RV r' y z H (.bl b)) : Ev (tChain r r' ta tb tc) σ H (.bl b) := fun H1 e Q q =>
  ha H1 e _ fun H2 e2 => hb H2 (e.trans e2) _ fun H3 e3 => h1 H3 ((e.trans e2).trans e3) _ fun H4 e4 => ⟨true, rfl, by
    rw [if_pos rfl]
    exact hc H4 (((e.trans e2).trans e3).trans e4) _ fun H5 e5 => h2 H5 ((((e.trans e2).trans e3).trans e4).trans e5) _ fun H6 e6 => q H6 ((((e2.trans e3).trans e4).trans e5).trans e6)⟩
theorem ev_lenS {σ : L2.St} {H : Hp} {te : TE} {r : List V → Hp → VK → Prop} {z : Str} (hr : ∀ H Q, Q (.int (z.length : Int)) H → r [.str z] H Q) (h : Ev te σ H (.str z)) : Ev (tCB r (tCons te tNil)) σ H (.int (z.length : Int)) := fun H1 e Q q => h H1 e _ fun H2 e2 => hr H2 Q (q H2 e2)
theorem lt1 {a b : Nat} : [a] < [b] ↔ a < b := by
  rw [List.cons_lt_cons_iff]
  simp
theorem rv_b {r : R2} {x y : V} {H : Hp} {b : Bool} (h : RV r x y H (.bl b)) (e : b = true) : RV r x y H (.bl true) := by
  rw [← e]
  exact h
theorem le_one {a b : Nat} {x y : Str} (hx : x.cps.toList = [a]) (hy : y.cps.toList = [b]) (h : a ≤ b) : (!decide (y.cps.toList < x.cps.toList)) = true := by
  rw [hx, hy]
  have : ¬ [b] < [a] := fun z => by
    have := lt1.mp z
    omega
  simp only [this, decide_false, Bool.not_false]
section
variable {P : Program} {w : World} {K : PySem.W.Frag} {mg : Str → Option Value} {base : Heap}
theorem sc_is_integer : FnScope ["thing"] ["thing"] (defScope s_is_integer) := ⟨rfl, rfl, rfl, by decide +kernel, rfl, by decide +kernel, by decide +kernel⟩
theorem ok_is_integer (D : Def K mg "is_integer" s_is_integer ["thing"]) (T : Bl mg) : Good P w K mg base 1 "is_integer" ["thing"] (spInt) := by
  refine D.good sc_is_integer (fun vs H Q E h => ?_) (fun f cdv A outer s H vs Q E hr h => ?_)
  · obtain ⟨k, rfl, _⟩ := h
    rfl
  · obtain ⟨k, rfl, q⟩ := h
    have hu := hu_of hr
    refine ⟨_, (pss_one (ps_ret (pe_and (x_isi (K := K) "int" T (pv 0) T.int) (pe_one (pe_not (x_isi (K := K) "bool" T (pv 0) T.bool)))))), ?_⟩
    exact s_ret (ev_andV (a := true) (b := true) (ev_isI rfl ty_int rfl) (fun _ => ev_notV (a := false) (ev_isI rfl ty_int rfl))) fun H1 e1 => q H1 e1
theorem sc_is_name : FnScope ["thing", "letter"] ["thing"] (defScope s_is_name) := ⟨rfl, rfl, rfl, by decide +kernel, rfl, by decide +kernel, by decide +kernel⟩
theorem ok_is_name (D : Def K mg "is_name" s_is_name ["thing"]) (T : Bl mg) (C : Cs mg) : Good P w K mg base 1 "is_name" ["thing"] (spName) := by
  refine D.good sc_is_name (fun vs H Q E h => ?_) (fun f cdv A outer s H vs Q E hr h => ?_)
  · obtain ⟨z, rfl, _⟩ := h
    rfl
  · obtain ⟨z, rfl, hz, q⟩ := h
    have hu := hu_of hr
    refine ⟨_, (pss_cons (ps_if (pw_or (pt_not (pt_val (x_isi (K := K) "str" T (pv 0) T.str))) (pw_or1 (pt_not (pt_chain op_le op_le pe_int (pe_callB call_len_str (by rfl) T.len PySem.boot_len (pa_cons (pv 0) pa_nil)) (x_gint C.MOST_LETTERS))))).pt (pss_one (ps_ret pe_bl)) pss_nil)
      (pss_one (ps_ret (x_all (K := K) T (pe_lc (own := [("letter", 1)]) (g := (gName 1)) (tt := tYes) rfl sc_is_name.nd (pi_str (pv 0)) (blkOk_by (N := ["thing", "letter"]) (sc := (defScope s_is_name)) (by decide +kernel)) (fun _ _ _ _ _ => (pg_name (i := 1) sc_is_name.nd rfl (Or.inl rfl))) (fun _ _ _ _ _ => pts_nil) (fun _ _ _ _ _ => (pe_chain op_le_str op_le_str pe_str (pv 1) pe_str))))))), ?_⟩
    refine s_if (b := false) (et_is (et_or (a := false) (et_not (a := true) (et_B (ev_isI rfl ty_str rfl))) (fun _ => et_not (a := true) (et_test (ev_chain ev_c (ev_lenS (fun H Q q => ?_) (ev_var rfl)) ev_c ?_ ?_)))) rfl) (fun z => nomatch z) (fun _ H1 e1 => ?_)
    · exact ⟨z, rfl, sz_of (by have := hz.2.1; omega), q⟩
    · exact rv_b rv_I0 (by have := hz.1; simp; omega)
    · exact rv_b rv_I0 (by have := hz.2.1; simp; omega)
    · refine s_ret (ev_allT ((elp_lcS (fun _ v _ => v = .bl true) (ev_var rfl) (by have := hz.2.1; omega) (fun _ => rfl) (fun i c hc => evp_of (ev_chain ev_c (ev_var rfl) ev_c ?_ ?_) fun _ _ => rfl)).imp fun _ _ _ h => h.2)) fun H2 e2 => q H2 (e1.trans e2)
      · exact rv_b rv_leS (le_one (a := 97) (b := c) (by decide +kernel) rfl (hz.2.2 c (List.mem_of_getElem? hc)).1)
      · exact rv_b rv_leS (le_one (a := c) (b := 122) rfl (by decide +kernel) (hz.2.2 c (List.mem_of_getElem? hc)).2)
theorem sc_is_size : FnScope ["thing"] ["thing"] (defScope s_is_size) := ⟨rfl, rfl, rfl, by decide +kernel, rfl, by decide +kernel, by decide +kernel⟩
theorem ok_is_size (D : Def K mg "is_size" s_is_size ["thing"]) (T : Bl mg) (C : Cs mg) (G_is_integer : Good P w K mg base 1 "is_integer" ["thing"] spInt) : Good P w K mg base 2 "is_size" ["thing"] (spSize) := by
  refine D.good sc_is_size (fun vs H Q E h => ?_) (fun f cdv A outer s H vs Q E hr h => ?_)
  · obtain ⟨z, rfl, _⟩ := h
    rfl
  · obtain ⟨k, rfl, hk, q⟩ := h
    have hu := hu_of hr
    refine ⟨_, (pss_one (ps_ret (pe_and (pe_fn (G_is_integer.mono (by decide)) hr (pa_cons (pv 0) pa_nil)) (pe_one (pe_chain op_le op_le pe_int (pv 0) (x_gint C.MOST_ITEMS)))))), ?_⟩
    have G := G_is_integer
    refine s_ret (ev_andV (a := true) (b := true) (ev_call (ea_cons (ev_var rfl) ea_nil) (Yes.spv fun H1 _ Q y E => ⟨k, rfl, y⟩)) (fun _ => ev_chain ev_c (ev_var rfl) ev_c (rv_b rv_I0 ?_) (rv_b rv_I0 ?_))) fun H1 e1 => q H1 e1
    · simp
      omega
    · simp
      omega
theorem sc_is_entry : FnScope ["thing"] ["thing"] (defScope s_is_entry) := ⟨rfl, rfl, rfl, by decide +kernel, rfl, by decide +kernel, by decide +kernel⟩
theorem ok_is_entry (D : Def K mg "is_entry" s_is_entry ["thing"]) (T : Bl mg) (C : Cs mg) (G_is_name : Good P w K mg base 1 "is_name" ["thing"] spName) (G_is_size : Good P w K mg base 2 "is_size" ["thing"] spSize) : Good P w K mg base 3 "is_entry" ["thing"] (spEntry) := by
  refine D.good sc_is_entry (fun vs H Q E h => ?_) (fun f cdv A outer s H vs Q E hr h => ?_)
  · obtain ⟨a, e, rfl, _⟩ := h
    rfl
  · obtain ⟨a, e, rfl, ha, ok, q⟩ := h
    have hu := hu_of hr
    refine ⟨_, (pss_cons (ps_if (pt_not (pt_val (x_isi (K := K) "tuple" T (pv 0) T.tuple))) pss_never pss_nil)
      (pss_cons (ps_if (pw_and (pt_cmpR op_eq (x_len (K := K) T (pv 0)) pe_int (nomark _)) (pw_and1 (pt_cmpR (x_in (K := K) rfl) (x_ixt (K := K) (pv 0) pe_int) (pe_tup (pa_cons pe_str (pa_cons pe_str pa_nil))) (by rfl)))).pt (pss_one (ps_ret (pe_fn (G_is_name.mono (by decide)) hr (pa_cons (x_ixt (K := K) (pv 0) pe_int) pa_nil)))) pss_nil)
      (pss_cons (ps_if (pw_and (pt_cmpR op_eq (x_len (K := K) T (pv 0)) pe_int (nomark _)) (pw_and1 (pt_cmpR op_eq (x_ixt (K := K) (pv 0) pe_int) pe_str (nomark _)))).pt (pss_one (ps_ret (pe_fn (G_is_size.mono (by decide)) hr (pa_cons (x_ixt (K := K) (pv 0) pe_int) pa_nil)))) pss_nil)
      (pss_cons (ps_if (pw_and (pt_cmpR op_eq (x_len (K := K) T (pv 0)) pe_int (nomark _)) (pw_and1 (pt_cmpR op_eq (x_ixt (K := K) (pv 0) pe_int) pe_str (nomark _)))).pt (pss_one (ps_ret (pe_and (pe_fn (G_is_name.mono (by decide)) hr (pa_cons (x_ixt (K := K) (pv 0) pe_int) pa_nil)) (pe_one (pe_fn (G_is_name.mono (by decide)) hr (pa_cons (x_ixt (K := K) (pv 0) pe_int) pa_nil)))))) pss_nil)
      (pss_one (ps_ret pe_bl)))))), ?_⟩
    have st : ∀ H1, Ex H H1 → SqT K H1 a e.vs := fun H1 e1 => st_of (e1 _ _ ha)
    have hty : ∀ H1, Ex H H1 → TyN K H1 (.ref a) "tuple" := fun H1 e1 => ty_tup (Or.inl (e1 _ _ ha))
    refine s_if (b := false) (et_not (a := true) (et_B (ev_isI rfl (hty H (Ex.refl H)) rfl))) (fun z => nomatch z) (fun _ H1 e1 => ?_)
    have nm : ∀ {σ : L2.St} {H2 : Hp} {i : Int} {z : Str}, Ex H H2 → σ[0]? = some (some (.ref a)) → atI e.vs i = some (.str z) → IsNm z → Ev (tCall spName [] E0 (tCons (tOp (rIxT K) (tVar 0) (tC (.int i))) tNil)) σ H2 (.bl true) :=
      fun e2 h0 hi hz => ev_call (ea_cons (ev_op (ev_var h0) ev_c (rv_ixT (st _ e2) hi)) ea_nil) (Yes.spv fun H3 _ Q y E => ⟨_, rfl, hz, y⟩)
    have tl : ∀ {σ : L2.St} {H2 : Hp} {n : Int} {b : Bool}, Ex H H2 → σ[0]? = some (some (.ref a)) → decide (V.int (e.vs.length : Int) = V.int n) = b → EvT (tTest (tOp rEq (tCB (rLenS K) (tCons (tVar 0) tNil)) (tC (.int n)))) σ H2 b :=
      fun e2 h0 hb => et_test (ev_is (ev_op (ev_lenA (ev_var h0) (Or.inr (st _ e2))) ev_c (rv_eq rfl)) (by rw [hb]))
    have tin : ∀ {σ : L2.St} {H2 : Hp} {hd : Str} {b : Bool}, Ex H H2 → σ[0]? = some (some (.ref a)) → atI e.vs 0 = some (.str hd) → inV (.str hd) [.str "push", .str "pop"] = b → EvT (tTest (tOp (rIn K false) (tOp (rIxT K) (tVar 0) (tC (.int 0))) (tTup (tCons (tC (.str "push")) (tCons (tC (.str "pop")) tNil))))) σ H2 b :=
      fun e2 h0 hi hb => et_test (ev_is (ev_inU (ev_op (ev_var h0) ev_c (rv_ixT (st _ e2) hi)) (eu_tup (ea_cons ev_c (ea_cons ev_c ea_nil)) (by show 2 ≤ 100000; decide)) rfl rfl) (by rw [hb]))
    have teq : ∀ {σ : L2.St} {H2 : Hp} {hd y : Str} {b : Bool}, Ex H H2 → σ[0]? = some (some (.ref a)) → atI e.vs 0 = some (.str hd) → decide (V.str hd = V.str y) = b → EvT (tTest (tOp rEq (tOp (rIxT K) (tVar 0) (tC (.int 0))) (tC (.str y)))) σ H2 b :=
      fun e2 h0 hi hb => et_test (ev_is (ev_op (ev_op (ev_var h0) ev_c (rv_ixT (st _ e2) hi)) ev_c (rv_eq rfl)) (by rw [hb]))
    cases e with
    | push x =>
      refine s_if (b := true) (et_is (et_and (tl (b := true) e1 rfl rfl) (fun _ => tin (b := true) (hd := "push") e1 rfl rfl (by decide +kernel))) rfl) (fun _ H2 e2 => ?_) (fun z => nomatch z)
      exact s_ret (nm (e1.trans e2) rfl rfl ok) fun H3 e3 => q H3 ((e1.trans e2).trans e3)
    | pop x =>
      refine s_if (b := true) (et_is (et_and (tl (b := true) e1 rfl rfl) (fun _ => tin (b := true) (hd := "pop") e1 rfl rfl (by decide +kernel))) rfl) (fun _ H2 e2 => ?_) (fun z => nomatch z)
      exact s_ret (nm (e1.trans e2) rfl rfl ok) fun H3 e3 => q H3 ((e1.trans e2).trans e3)
    | size k =>
      refine s_if (b := false) (et_is (et_and (tl (b := true) e1 rfl rfl) (fun _ => tin (b := false) (hd := "size") e1 rfl rfl (by decide +kernel))) rfl) (fun z => nomatch z) (fun _ H2 e2 => ?_)
      refine s_if (b := true) (et_is (et_and (tl (b := true) (e1.trans e2) rfl rfl) (fun _ => teq (b := true) (hd := "size") (e1.trans e2) rfl rfl (by decide +kernel))) rfl) (fun _ H3 e3 => ?_) (fun z => nomatch z)
      have E3 := (e1.trans e2).trans e3
      exact s_ret (ev_call (ea_cons (ev_op (ev_var rfl) ev_c (rv_ixT (st _ E3) rfl)) ea_nil) (Yes.spv fun H4 _ Q y E => ⟨_, rfl, ok, y⟩)) fun H4 e4 => q H4 (E3.trans e4)
    | steal o x =>
      refine s_if (b := false) (et_is (et_and (b := false) (tl (b := false) e1 rfl rfl) (fun z => nomatch z)) rfl) (fun z => nomatch z) (fun _ H2 e2 => ?_)
      refine s_if (b := false) (et_is (et_and (b := false) (tl (b := false) (e1.trans e2) rfl rfl) (fun z => nomatch z)) rfl) (fun z => nomatch z) (fun _ H3 e3 => ?_)
      have E3 := (e1.trans e2).trans e3
      refine s_if (b := true) (et_is (et_and (tl (b := true) E3 rfl rfl) (fun _ => teq (b := true) (hd := "steal") E3 rfl rfl (by decide +kernel))) rfl) (fun _ H4 e4 => ?_) (fun z => nomatch z)
      have E4 := E3.trans e4
      exact s_ret (ev_andV (a := true) (b := true) (nm E4 rfl rfl ok.1) (fun _ => nm E4 rfl rfl ok.2)) fun H5 e5 => q H5 (E4.trans e5)
theorem sc_is_log : FnScope ["thing", "entry"] ["thing"] (defScope s_is_log) := ⟨rfl, rfl, rfl, by decide +kernel, rfl, by decide +kernel, by decide +kernel⟩
theorem ok_is_log (D : Def K mg "is_log" s_is_log ["thing"]) (T : Bl mg) (C : Cs mg) (G_is_entry : Good P w K mg base 3 "is_entry" ["thing"] spEntry) : Good P w K mg base 4 "is_log" ["thing"] (spIsLog) := by
  refine D.good sc_is_log (fun vs H Q E h => ?_) (fun f cdv A outer s H vs Q E hr h => ?_)
  · obtain ⟨p, es, rfl, _⟩ := h
    rfl
  · obtain ⟨p, es, rfl, hp, hes, q⟩ := h
    have hu := hu_of hr
    refine ⟨_, (pss_cons (ps_if (pw_or (pt_not (pt_val (x_isi (K := K) "list" T (pv 0) T.list))) (pw_or1 (pt_cmpR op_gt (x_len (K := K) T (pv 0)) (x_gint C.MOST_ENTRIES) (nomark _)))).pt pss_never pss_nil)
      (pss_one (ps_ret (x_all (K := K) T (pe_lc (own := [("entry", 1)]) (g := (gName 1)) (tt := tYes) rfl sc_is_log.nd (x_pil (K := K) (pv 0)) (blkOk_by (N := ["thing", "entry"]) (sc := (defScope s_is_log)) (by decide +kernel)) (fun _ _ _ _ _ => (pg_name (i := 1) sc_is_log.nd rfl (Or.inl rfl))) (fun _ _ _ _ _ => pts_nil) (fun _ _ _ _ _ => (pe_fn (G_is_entry.mono (by decide)) hr (pa_cons (pv 1) pa_nil)))))))), ?_⟩
    obtain ⟨as, hp1, hp2⟩ := hp
    have asl : as.length = es.length := by rw [hp2.length, List.length_map]
    refine s_if (b := false) (et_is (et_or (a := false) (et_not (a := true) (et_B (ev_isI rfl (ty_lst (Or.inl hp1)) rfl))) (fun _ => et_test (ev_op (ev_lenA (ev_var rfl) (Or.inl (sq_of hp1))) ev_c rv_I0))) ?_) (fun z => nomatch z) (fun _ H1 e1 => ?_)
    · rw [List.length_map, asl]
      have := hes.1
      simp
      omega
    · refine s_ret (ev_allT ((elp_lcL (fun _ v _ => v = .bl true) (ev_var rfl) (ex_l e1 (sq_of hp1)) (by rw [List.length_map]; have := hes.1; omega) (fun _ => rfl) (fun i x hx => evp_of (ev_call (ea_cons (ev_var rfl) ea_nil) (Yes.spv fun H3 e3 Q y E => ?_)) fun _ _ => rfl)).imp fun _ _ _ h => h.2)) fun H2 e2 => q H2 (e1.trans e2)
      rw [List.getElem?_map] at hx
      obtain ⟨b, hb, rfl⟩ := Option.map_eq_some_iff.mp hx
      have hi : i < es.length := by rw [← asl]; exact (List.getElem?_eq_some_iff.mp hb).1
      obtain ⟨c, hc, hd⟩ := paired_get hp2 (i := i) (y := (es[i]).vs) (by rw [List.getElem?_map, List.getElem?_eq_getElem hi]; rfl)
      rw [hb] at hc
      cases hc
      exact ⟨b, es[i], rfl, e3 _ _ (e1 _ _ hd), hes.2 _ (List.getElem_mem hi), y⟩
end
end Vx

set_option Elab.async false
set_option linter.all false
set_option maxRecDepth 100000
set_option maxHeartbeats 4000000
namespace Vx
open PySem PySem.Spec PyProof.Rows L2 Evl
/-! comprehensions over lists that are known -/
theorem given_list {α : Type} (R : List α) (d : α) (p : α → Bool) (g : α → V) : given R.length (fun i => p (R.getD i d)) (fun i => g (R.getD i d)) = (R.filter p).map g := by
  have e : R = (List.range R.length).map (fun i => R.getD i d) := by
    refine List.ext_getElem? fun i => ?_
    rw [List.getElem?_map]
    by_cases h : i < R.length
    · rw [List.getElem?_range h, List.getElem?_eq_getElem h]
      simp [List.getD, List.getElem?_eq_getElem h]
    · rw [List.getElem?_eq_none (by omega), List.getElem?_eq_none (by rw [List.length_range]; omega)]
      rfl
  have e2 : (R.filter p).map g = (((List.range R.length).map (fun i => R.getD i d)).filter p).map g := by rw [← e]
  rw [e2, List.filter_map, List.map_map]
  rfl
theorem getD_at {α : Type} {R : List α} {d x : α} {i : Nat} (h : R[i]? = some x) : R.getD i d = x := by
  simp [List.getD, h]
section
variable {K : PySem.W.Frag} {a : Addr} {xs : List V} {g : TG} {te tk tv : TE} {t : TT} {vs : List Nat} {σ : L2.St} {H1 : Hp} {Q : VK}
theorem lc_given (f : Nat → Bool) (v : Nat → V) (s2 : Nat → L2.St) (hx : SqL K H1 a xs) (hz : xs.length ≤ 40000)
    (hg : ∀ (i : Nat) x, xs[i]? = some x → wipe (s2 i) vs = wipe σ vs ∧ ∀ H2, Ex H1 H2 → ∀ Q' : L2.St → Hp → Prop, (∀ H3, Ex H2 H3 → Q' (s2 i) H3) → g x (wipe σ vs) H2 Q')
    (ht : ∀ (i : Nat) x, xs[i]? = some x → EvT t (s2 i) H1 (f i)) (he : ∀ (i : Nat) x, xs[i]? = some x → f i = true → Ev te (s2 i) H1 (v i))
    (q : ∀ Dl H2, H1 Dl = none → Ex H1 H2 → H2 Dl = some (.lst (given xs.length f v)) → Q (.ref Dl) H2) :
    ∀ Dl, H1 Dl = none → ∃ W : Nat → Nat → Hp → Prop, (∃ m, W 0 m (upd H1 Dl (.lst []))) ∧ ∀ i m H, W i m H →
      ((Itl K a).stop i H ∧ Q (.ref Dl) H) ∨ ((Itl K a).go i H ∧ ∃ Nx : Hp → Prop, (∀ H', Nx H' → ∃ m', m' < m ∧ W (i + 1) m' H') ∧ ∀ x H', (Itl K a).yld i H x H' → g x (wipe σ vs) H' fun σ2 H2 => wipe σ2 vs = wipe σ vs ∧ t σ2 H2 fun b H3 =>
        if b = true then te σ2 H3 fun y H4 => ∃ acc, H4 Dl = some (.lst acc) ∧ acc.length < sizeLine ∧ Nx (upd H4 Dl (.lst (acc ++ [y]))) else Nx H3) := fun Dl hD =>
  lc_list (xs := xs) (Cw H1 f v Dl) ⟨hD, Ex.new hD, upd_same⟩ (fun i H' _ p => ex_l p.2.1 hx)
    (fun i x H' hi p => (hg i x hi).2 H' p.2.1 _ fun H3 e3 => ⟨(hg i x hi).1, cw_turn ⟨p.1, p.2.1.trans e3, e3 _ _ p.2.2⟩ (by have := (List.getElem?_eq_some_iff.mp hi).1; omega) (ht i x hi) (he i x hi)⟩)
    (fun H' p => q Dl H' p.1 p.2.1 p.2.2)
/-- .. of pairs: what a dict gets -/
def dgiven (n : Nat) (f : Nat → Bool) (k : Nat → Key) (v : Nat → V) : List (Key × V) := ((List.range n).filter f).map fun i => (k i, v i)
theorem dgiven_yes {n : Nat} {f : Nat → Bool} {k : Nat → Key} {v : Nat → V} (h : f n = true) : dgiven (n + 1) f k v = dgiven n f k v ++ [(k n, v n)] := by
  unfold dgiven
  rw [List.range_succ, List.filter_append, List.map_append, List.filter_cons, if_pos h]
  rfl
theorem dgiven_no {n : Nat} {f : Nat → Bool} {k : Nat → Key} {v : Nat → V} (h : f n = false) : dgiven (n + 1) f k v = dgiven n f k v := by
  unfold dgiven
  rw [List.range_succ, List.filter_append, List.map_append, List.filter_cons, if_neg (by rw [h]; decide)]
  exact List.append_nil _
theorem dgiven_len (n : Nat) (f : Nat → Bool) (k : Nat → Key) (v : Nat → V) : (dgiven n f k v).length ≤ n := by
  unfold dgiven
  rw [List.length_map]
  have h := List.length_filter_le f (List.range n)
  rw [List.length_range] at h
  exact h
theorem put_new {kvs : List (Key × V)} {k : Key} {v : V} (h : ∀ p ∈ kvs, p.1 ≠ k) : putK kvs k v = kvs ++ [(k, v)] := by
  unfold putK
  rw [if_neg]
  intro z
  obtain ⟨x, hx, e⟩ := List.any_eq_true.mp z
  exact h x hx (of_decide_eq_true e)
theorem dc_given (f : Nat → Bool) (k : Nat → Key) (v : Nat → V) (s2 : Nat → L2.St) (hx : SqL K H1 a xs) (hz : xs.length ≤ 40000)
    (hg : ∀ (i : Nat) x, xs[i]? = some x → wipe (s2 i) vs = wipe σ vs ∧ ∀ H2, Ex H1 H2 → ∀ Q' : L2.St → Hp → Prop, (∀ H3, Ex H2 H3 → Q' (s2 i) H3) → g x (wipe σ vs) H2 Q')
    (ht : ∀ (i : Nat) x, xs[i]? = some x → EvT t (s2 i) H1 (f i)) (hk : ∀ (i : Nat) x, xs[i]? = some x → f i = true → Ev tk (s2 i) H1 (kV (k i))) (hv : ∀ (i : Nat) x, xs[i]? = some x → f i = true → Ev tv (s2 i) H1 (v i))
    (hd : ∀ i j, j < i → i < xs.length → f i = true → f j = true → k j ≠ k i)
    (q : ∀ Dl H2, H1 Dl = none → Ex H1 H2 → H2 Dl = some (.dK (dgiven xs.length f k v)) → Q (.ref Dl) H2) :
    ∀ Dl, H1 Dl = none → ∃ W : Nat → Nat → Hp → Prop, (∃ m, W 0 m (upd H1 Dl (.dK []))) ∧ ∀ i m H, W i m H →
      ((Itl K a).stop i H ∧ Q (.ref Dl) H) ∨ ((Itl K a).go i H ∧ ∃ Nx : Hp → Prop, (∀ H', Nx H' → ∃ m', m' < m ∧ W (i + 1) m' H') ∧ ∀ x H', (Itl K a).yld i H x H' → g x (wipe σ vs) H' fun σ2 H2 => wipe σ2 vs = wipe σ vs ∧ t σ2 H2 fun b H3 =>
        if b = true then tk σ2 H3 fun y H4 => tv σ2 H4 fun z H5 => ∃ kvs k, y = kV k ∧ H5 Dl = some (.dK kvs) ∧ kvs.length < sizeLine ∧ Nx (upd H5 Dl (.dK (putK kvs k z))) else Nx H3) := fun Dl hD => by
  let I : Nat → Hp → Prop := fun i H => Ex H1 H ∧ H Dl = some (.dK (dgiven i f k v))
  refine ⟨fun i m H => m = xs.length - i ∧ i ≤ xs.length ∧ I i H, ⟨xs.length, rfl, Nat.zero_le _, Ex.new hD, upd_same⟩, ?_⟩
  rintro i m H ⟨rfl, hi, p⟩
  have sq := ex_l p.1 hx
  rcases Nat.lt_or_ge i xs.length with hlt | hge
  · have hxi : xs[i]? = some xs[i] := List.getElem?_eq_getElem hlt
    refine .inr ⟨⟨xs, xs[i], sq, hxi⟩, I (i + 1), fun H' p' => ⟨xs.length - (i + 1), by omega, rfl, hlt, p'⟩, fun x H' y => ?_⟩
    obtain ⟨rfl, y⟩ := y
    have hxx := y xs sq
    refine (hg i x hxx).2 H' p.1 _ fun H3 e3 => ⟨(hg i x hxx).1, ?_⟩
    refine ht i x hxx H3 (p.1.trans e3) _ fun H4 e4 => ?_
    cases hf : f i with
    | true =>
      show tk (s2 i) H4 fun y H4 => tv (s2 i) H4 fun z H5 => ∃ kvs k, y = kV k ∧ H5 Dl = some (.dK kvs) ∧ kvs.length < sizeLine ∧ I (i + 1) (upd H5 Dl (.dK (putK kvs k z)))
      have E4 := (p.1.trans e3).trans e4
      refine hk i x hxx hf H4 E4 _ fun H5 e5 => hv i x hxx hf H5 (E4.trans e5) _ fun H6 e6 => ⟨dgiven i f k v, k i, rfl, e6 _ _ (e5 _ _ (e4 _ _ (e3 _ _ p.2))), sz_lt (by have := dgiven_len i f k v; omega), Ex.mut ((E4.trans e5).trans e6) hD, ?_⟩
      rw [upd_same, dgiven_yes hf, put_new]
      intro z hzm
      unfold dgiven at hzm
      obtain ⟨j, hj, rfl⟩ := List.mem_map.mp hzm
      have hj2 := List.mem_filter.mp hj
      exact hd i j (List.mem_range.mp hj2.1) hlt hf hj2.2
    | false =>
      show I (i + 1) H4
      refine ⟨(p.1.trans e3).trans e4, ?_⟩
      rw [dgiven_no hf]
      exact e4 _ _ (e3 _ _ p.2)
  · have e : i = xs.length := by omega
    subst e
    exact .inl ⟨⟨xs, sq, Nat.le_refl _⟩, q Dl H hD p.1 p.2⟩
theorem el_lcG {tl : TE} {H : Hp} (f : Nat → Bool) (v : Nat → V) (s2 : Nat → L2.St) (h : Ev tl σ H (.ref a)) (hx : SqL K H a xs) (hz : xs.length ≤ 40000)
    (hg : ∀ (i : Nat) x, xs[i]? = some x → wipe (s2 i) vs = wipe σ vs ∧ ∀ H2, Ex H H2 → ∀ Q' : L2.St → Hp → Prop, (∀ H3, Ex H2 H3 → Q' (s2 i) H3) → g x (wipe σ vs) H2 Q')
    (ht : ∀ (i : Nat) x, xs[i]? = some x → EvT t (s2 i) H (f i)) (he : ∀ (i : Nat) x, xs[i]? = some x → f i = true → Ev te (s2 i) H (v i)) : EvL (tLc (iList K tl) g t te vs) σ H (given xs.length f v) := fun H0 e Q q => h H0 e _ fun H1 e1 =>
  ⟨a, rfl, ⟨xs, ex_l (e.trans e1) hx⟩, lc_given f v s2 (ex_l (e.trans e1) hx) hz (fun i x hi => ⟨(hg i x hi).1, fun H2 e2 => (hg i x hi).2 H2 ((e.trans e1).trans e2)⟩) (fun i x hi => (ht i x hi).mono (e.trans e1)) (fun i x hi hf => (he i x hi hf).mono (e.trans e1))
    fun Dl H2 n e2 h2 => q Dl H2 (fresh_back e1 n) (e1.trans e2) h2⟩
end
end Vx
namespace Vx
open PySem PySem.Spec PyProof.Rows L2 Evl
section
variable {K : PySem.W.Frag} {xs : List V} {g : TG} {te tl : TE} {t : TT} {vs : List Nat} {σ : L2.St} {H : Hp}
/-- over a new list, any target -/
theorem el_lcNG (f : Nat → Bool) (v : Nat → V) (s2 : Nat → L2.St) (h : EvL tl σ H xs) (hz : xs.length ≤ 40000)
    (hg : ∀ (i : Nat) x, xs[i]? = some x → wipe (s2 i) vs = wipe σ vs ∧ ∀ H2, Ex H H2 → ∀ Q' : L2.St → Hp → Prop, (∀ H3, Ex H2 H3 → Q' (s2 i) H3) → g x (wipe σ vs) H2 Q')
    (ht : ∀ (i : Nat) x, xs[i]? = some x → EvT t (s2 i) H (f i)) (he : ∀ (i : Nat) x, xs[i]? = some x → f i = true → Ev te (s2 i) H (v i)) : EvL (tLc (iList K tl) g t te vs) σ H (given xs.length f v) := fun H0 e Q q => h H0 e _ fun a H1 na e1 h1 =>
  ⟨a, rfl, ⟨xs, sq_of h1⟩, lc_given f v s2 (sq_of h1) hz (fun i x hi => ⟨(hg i x hi).1, fun H2 e2 => (hg i x hi).2 H2 ((e.trans e1).trans e2)⟩) (fun i x hi => (ht i x hi).mono (e.trans e1)) (fun i x hi hf => (he i x hi hf).mono (e.trans e1))
    fun Dl H2 n e2 h2 => q Dl H2 (fresh_back e1 n) (e1.trans e2) h2⟩
end
end Vx

set_option Elab.async false
set_option linter.all false
set_option maxRecDepth 100000
set_option maxHeartbeats 4000000
namespace Vx
open PySem PySem.Spec PyProof.Rows L2 Evl
def En.hd : En → Str
  | .push _ => "push"
  | .pop _ => "pop"
  | .size _ => "size"
  | .steal _ _ => "steal"
def En.isPu : En → Bool
  | .push _ => true
  | _ => false
def En.isRe : En → Bool
  | .pop _ => true
  | .steal _ _ => true
  | _ => false
/-- the item -/
def En.it : En → Str
  | .push x => x
  | .pop x => x
  | .size _ => ""
  | .steal _ x => x
theorem En.at0 (e : En) : atI e.vs 0 = some (.str e.hd) := by cases e <;> rfl
theorem hdT : ∀ a ∈ ([("push", "push", true), ("pop", "push", false), ("size", "push", false), ("steal", "push", false), ("push", "pop", false), ("pop", "pop", true), ("size", "pop", false), ("steal", "pop", false)] : List (Str × Str × Bool)), decide (V.str a.1 = V.str a.2.1) = a.2.2 := by decide +kernel
theorem hdR : ∀ a ∈ ([("push", false), ("pop", true), ("size", false), ("steal", true)] : List (Str × Bool)), inV (V.str a.1) [.str "pop", .str "steal"] = a.2 := by decide +kernel
theorem En.isPu_eq (e : En) : decide (V.str e.hd = V.str "push") = e.isPu := by
  cases e
  · exact hdT ("push", "push", true) (by simp)
  · exact hdT ("pop", "push", false) (by simp)
  · exact hdT ("size", "push", false) (by simp)
  · exact hdT ("steal", "push", false) (by simp)
def En.isPo : En → Bool
  | .pop _ => true
  | _ => false
theorem En.isPo_eq (e : En) : decide (V.str e.hd = V.str "pop") = e.isPo := by
  cases e
  · exact hdT ("push", "pop", false) (by simp)
  · exact hdT ("pop", "pop", true) (by simp)
  · exact hdT ("size", "pop", false) (by simp)
  · exact hdT ("steal", "pop", false) (by simp)
theorem En.isRe_eq (e : En) : inV (V.str e.hd) [.str "pop", .str "steal"] = e.isRe := by
  cases e
  · exact hdR ("push", false) (by simp)
  · exact hdR ("pop", true) (by simp)
  · exact hdR ("size", false) (by simp)
  · exact hdR ("steal", true) (by simp)
theorem En.at1 {e : En} (h : e.isPu = true) : atI e.vs 1 = some (.str e.it) := by cases e <;> first | rfl | cases h
theorem En.atL {e : En} (h : e.isRe = true) : atI e.vs (-1) = some (.str e.it) := by cases e <;> first | rfl | cases h
theorem pus_eq (es : List En) : pus es = (es.filter En.isPu).map En.it := by
  induction es with
  | nil => rfl
  | cons e es ih =>
    have : pus (e :: es) = e.pu ++ pus es := by unfold pus; rw [List.flatMap_cons]
    rw [this, ih]
    cases e <;> rfl
theorem res_eq (es : List En) : res es = (es.filter En.isRe).map En.it := by
  induction es with
  | nil => rfl
  | cons e es ih =>
    have : res (e :: es) = e.re ++ res es := by unfold res; rw [List.flatMap_cons]
    rw [this, ih]
    cases e <;> rfl
def spPushed : Sp := fun vs H Q _ => ∃ (p : Addr) (es : List En), vs = [.ref p] ∧ TL H p (es.map En.vs) ∧ es.length ≤ 60 ∧ ∀ r H', H r = none → Ex H H' → H' r = some (.lst ((pus es).map V.str)) → Q (.ref r) H'
section
variable {P : Program} {w : World} {K : PySem.W.Frag} {mg : Str → Option Value} {base : Heap}
theorem sc_pushed_items : FnScope ["log", "entry"] ["log"] (defScope s_pushed_items) := ⟨rfl, rfl, rfl, by decide +kernel, rfl, by decide +kernel, by decide +kernel⟩
theorem ok_pushed_items (D : Def K mg "pushed_items" s_pushed_items ["log"]) (T : Bl mg) : Good P w K mg base 1 "pushed_items" ["log"] (spPushed) := by
  refine D.good sc_pushed_items (fun vs H Q E h => ?_) (fun f cdv A outer s H vs Q E hr h => ?_)
  · obtain ⟨p, es, rfl, _⟩ := h
    rfl
  · obtain ⟨p, es, rfl, hp, hes, q⟩ := h
    have hu := hu_of hr
    refine ⟨_, (pss_one (ps_ret (pe_lc (own := [("entry", 1)]) (g := (gName 1))  rfl sc_pushed_items.nd (x_pil (K := K) (pv 0)) (blkOk_by (N := ["log", "entry"]) (sc := (defScope s_pushed_items)) (by decide +kernel)) (fun _ _ _ _ _ => (pg_name (i := 1) sc_pushed_items.nd rfl (Or.inl rfl))) (fun _ _ _ _ _ => (pts_one (pt_cmpR op_eq (x_ixt (K := K) (pv 1) pe_int) pe_str (nomark _)))) (fun _ _ _ _ _ => (x_ixt (K := K) (pv 1) pe_int))))), ?_⟩
    obtain ⟨as, hp1, hp2⟩ := hp
    have asl : as.length = es.length := by rw [hp2.length, List.length_map]
    have hat : ∀ (i : Nat) x, (as.map V.ref)[i]? = some x → ∃ (b : Addr) (e : En), x = .ref b ∧ es[i]? = some e ∧ H b = some (.tup e.vs) := fun i x hx => by
      rw [List.getElem?_map] at hx
      obtain ⟨b, hb, rfl⟩ := Option.map_eq_some_iff.mp hx
      have hi : i < es.length := by rw [← asl]; exact (List.getElem?_eq_some_iff.mp hb).1
      obtain ⟨c, hc, hd⟩ := paired_get hp2 (i := i) (y := (es[i]).vs) (by rw [List.getElem?_map, List.getElem?_eq_getElem hi]; rfl)
      rw [hb] at hc
      cases hc
      exact ⟨b, es[i], rfl, List.getElem?_eq_getElem hi, hd⟩
    refine s_retL (xs := (pus es).map V.str) ?_ fun r H1 n1 e1 h1 => q r H1 n1 e1 h1
    have key : given (as.map V.ref).length (fun i => (es.getD i (.size 0)).isPu) (fun i => V.str (es.getD i (.size 0)).it) = (pus es).map V.str := by
      rw [List.length_map, asl, given_list es (.size 0) En.isPu (fun e => V.str e.it), pus_eq, List.map_map]
      rfl
    rw [← key]
    refine el_lcL _ _ (ev_var rfl) (sq_of hp1) (by rw [List.length_map]; omega) (fun _ => rfl) (fun i x H1 e1 hx => ?_) (fun i x H1 e1 hx hf => ?_)
    · obtain ⟨b, e, rfl, he, hb⟩ := hat i x hx
      refine et_is (et_test (ev_op (ev_op (ev_var rfl) ev_c (rv_ixT (st_of (e1 _ _ hb)) e.at0)) ev_c (rv_eq rfl))) ?_
      rw [getD_at he, e.isPu_eq]
    · obtain ⟨b, e, rfl, he, hb⟩ := hat i x hx
      rw [getD_at he] at hf ⊢
      exact ev_op (ev_var rfl) ev_c (rv_ixT (st_of (e1 _ _ hb)) (e.at1 hf))
end
end Vx

set_option Elab.async false
set_option linter.all false
set_option maxRecDepth 100000
set_option maxHeartbeats 4000000
namespace Vx
open PySem PySem.Spec PyProof.Rows L2 Evl
/-- logs that are read: the dict may be locked, while something else that changes is at hand -/
structure HLr (H : Hp) (d : Addr) (ws : List Str) (ps : List Addr) (L : List (List En)) : Prop where
  dk : H d = some (.dK (Dk ws ps)) ∨ (∃ od, H d = some (.frz od (.dK (Dk ws ps)))) ∧ ∃ (z : Addr) (xs : List V), H z = some (.lst xs) ∧ z ∉ ps
  pl : ps.length = ws.length
  lg : ∀ (i : Nat) (p : Addr) (es : List En), ps[i]? = some p → L[i]? = some es → TL H p (es.map En.vs)
theorem HL.r {H : Hp} {d : Addr} {ws : List Str} {ps : List Addr} {L : List (List En)} (h : HL H d ws ps L) : HLr H d ws ps L := ⟨Or.inl h.dk, h.pl, h.lg⟩
theorem HLr.rd {H : Hp} {d : Addr} {ws : List Str} {ps : List Addr} {L : List (List En)} (h : HLr H d ws ps L) : Rd H d (.dK (Dk ws ps)) := h.dk.imp id fun z => z.1
theorem HLr.ex {H H' : Hp} {d : Addr} {ws : List Str} {ps : List Addr} {L : List (List En)} (h : HLr H d ws ps L) (e : Ex H H') : HLr H' d ws ps L := by
  refine ⟨h.dk.imp (fun z => e _ _ z) (fun ⟨⟨od, a⟩, z, xs, b, c⟩ => ⟨⟨od, e _ _ a⟩, z, xs, e _ _ b, c⟩), h.pl, fun i p es h1 h2 => (h.lg i p es h1 h2).ex e⟩
theorem dget_r {H : Hp} {a : Addr} {kvs : List (Key × V)} {k : Key} (e : Rd H a (.dK kvs)) : DGet H a (kV k) (valV kvs k) := .inl ⟨kvs, k, e, rfl, rfl⟩
theorem ev_dgetQ {σ : L2.St} {H : Hp} {td ty : TE} {d : Addr} {kvs : List (Key × V)} {x : Str} {v : V} (h1 : Evl.Ev td σ H (.ref d)) (h2 : Evl.Ev ty σ H (.str x)) (hd : Rd H d (.dK kvs)) (hv : valV kvs (.inr x) = some v) : Evl.Ev (tDGet td ty) σ H v := fun H1 e Q q =>
  h1 H1 e _ fun H2 e2 => h2 H2 (e.trans e2) _ fun H3 e3 => ⟨d, v, rfl, .inl ⟨kvs, .inr x, ex_rd (e.trans (e2.trans e3)) hd, rfl, hv.symm⟩, q H3 (e2.trans e3)⟩
theorem call_lenR {X : Cx} : CallR X (.builtin "len") (fun xs H Q => ∃ (a : Addr) (kvs : List (Key × V)), xs = [.ref a] ∧ Rd H a (.dK kvs) ∧ Q (.int kvs.length) H) := fun pins s σ H xs us Q I r ⟨a, kvs, e, ha, q⟩ => by
  subst e
  obtain ⟨u, rfl, ru⟩ := vals1 r
  cases ru
  exact d_len I ha fun t s' I' => ⟨.int kvs.length, H, I', ⟨t, rfl⟩, q⟩
theorem TL.frzL {z p : Addr} {H : Hp} {xs : List V} {o : HO} {ts : List (List V)} (t : TL H p ts) (h : H z = some (.lst xs)) (n : p ≠ z) : TL (upd H z o) p ts := t.keep (fun a x w => by rw [upd_ne (fun e => by rw [e, h] at w; cases w)]; exact w) (upd_ne n)
end Vx

set_option Elab.async false
set_option linter.all false
set_option maxRecDepth 100000
set_option maxHeartbeats 4000000
namespace Vx
open PySem PySem.Spec PyProof.Rows L2 Evl
/-! all entries, in the order of the workers -/
structure RowA where
  w : Str
  i : Nat
  e : En
  b : Addr
  c : Addr
def RowAt (H : Hp) (a : Addr) (r : RowA) : Prop := H a = some (.tup [.ref r.b, .ref r.c]) ∧ H r.b = some (.tup [.str r.w, .int (r.i : Int)]) ∧ H r.c = some (.tup r.e.vs)
theorem RowAt.tk {H H' : Hp} {a : Addr} {r : RowA} (h : RowAt H a r) (k : TK H H') : RowAt H' a r := ⟨k _ _ h.1, k _ _ h.2.1, k _ _ h.2.2⟩
abbrev Tri := Str × Nat × En
def RowA.tri (r : RowA) : Tri := (r.w, r.i, r.e)
abbrev Lg := Str × Addr × List En
def rw1 (z : Lg) : List Tri := z.2.2.zipIdx.map fun x => (z.1, x.2, x.1)
def Rw (zs : List Lg) : List Tri := zs.flatMap rw1
theorem rw1_at {z : Lg} {j : Nat} {e : En} (h : z.2.2[j]? = some e) : (rw1 z)[j]? = some (z.1, j, e) := by
  unfold rw1
  rw [List.getElem?_map, List.getElem?_zipIdx, h]
  simp
theorem rw1_len (z : Lg) : (rw1 z).length = z.2.2.length := by
  unfold rw1
  rw [List.length_map, List.length_zipIdx]
theorem perm_lift {α β : Type} (f : α → β) : ∀ {ys l : List β}, ys.Perm l → ∀ {T : List α}, T.map f = l → ∃ zs : List α, zs.Perm T ∧ zs.map f = ys := by
  intro ys l h
  induction h with
  | nil => exact fun {T} e => ⟨T, List.Perm.refl _, e⟩
  | cons x h ih =>
    intro T e
    cases T with
    | nil => cases e
    | cons t T =>
      rw [List.map_cons] at e
      injection e with e1 e2
      obtain ⟨zs, p1, p2⟩ := ih e2
      exact ⟨t :: zs, List.Perm.cons _ p1, by rw [List.map_cons, p2, e1]⟩
  | swap x y l =>
    intro T e
    match T, e with
    | t1 :: t2 :: T, e =>
      rw [List.map_cons, List.map_cons] at e
      injection e with e1 e2
      injection e2 with e2 e3
      exact ⟨t2 :: t1 :: T, List.Perm.swap _ _ _, by rw [List.map_cons, List.map_cons, e1, e2, e3]⟩
  | trans h1 h2 ih1 ih2 =>
    intro T e
    obtain ⟨zs, p1, p2⟩ := ih2 e
    obtain ⟨us, p3, p4⟩ := ih1 p2
    exact ⟨us, p3.trans p1, p4⟩
/-- the logs, each with its name and its place -/
def lgs (ws : List Str) (ps : List Addr) (L : List (List En)) : List Lg := ws.zip (ps.zip L)
theorem lgs_names {ws : List Str} {ps : List Addr} {L : List (List En)} (h1 : ps.length = ws.length) (h2 : L.length = ws.length) : (lgs ws ps L).map (·.1) = ws := by
  unfold lgs
  exact List.map_fst_zip (by rw [List.length_zip]; omega)
theorem lgs_at {ws : List Str} {ps : List Addr} {L : List (List En)} {z : Lg} (h : z ∈ lgs ws ps L) : ∃ k : Nat, ws[k]? = some z.1 ∧ ps[k]? = some z.2.1 ∧ L[k]? = some z.2.2 := by
  obtain ⟨k, hk⟩ := List.mem_iff_getElem?.mp h
  unfold lgs at hk
  rw [List.getElem?_zip_eq_some] at hk
  obtain ⟨h1, h2⟩ := hk
  rw [List.getElem?_zip_eq_some] at h2
  exact ⟨k, h1, h2.1, h2.2⟩
def spRows (K : PySem.W.Frag) : Sp := fun vs H Q _ => ∃ (d : Addr) (ws : List Str) (ps : List Addr) (L : List (List En)), vs = [.ref d] ∧ HLr H d ws ps L ∧ ws.Nodup ∧ ws.length ≤ 6 ∧ L.length = ws.length ∧ (∀ es ∈ L, es.length ≤ 60) ∧
  ∀ p (as : List Addr) (R : List RowA) (zs : List Lg) H', H p = none → Ex H H' → H' p = some (.lst (as.map V.ref)) → Paired (RowAt H') as R → zs.Perm (lgs ws ps L) → sortedS (zs.map (·.1)) = true → R.map RowA.tri = Rw zs → as.length ≤ 360 → Q (.ref p) H'
section
variable {P : Program} {w : World} {K : PySem.W.Frag} {mg : Str → Option Value} {base : Heap}
theorem sc_all_entries : FnScope ["logs", "worker", "index", "entry"] ["logs"] (defScope s_all_entries) := ⟨rfl, rfl, rfl, by decide +kernel, rfl, by decide +kernel, by decide +kernel⟩
theorem ok_all_entries (D : Def K mg "all_entries" s_all_entries ["logs"]) (T : Bl mg) : Good P w K mg base 1 "all_entries" ["logs"] (spRows K) := by
  refine D.good sc_all_entries (fun vs H Q E h => ?_) (fun f cdv A outer s H vs Q E hr h => ?_)
  · obtain ⟨d, ws, ps, L, rfl, _⟩ := h
    rfl
  · obtain ⟨d, ws, ps, L, rfl, hl, nd, wl, ll, el, q⟩ := h
    have hu := hu_of hr
    refine ⟨_, (pss_one (ps_ret (pe_lc2 (own := [("worker", 1), ("index", 2), ("entry", 3)]) (vs1 := [2, 3]) (g := (gName 1)) (g1 := (gTup K 2 (gCons (gName 2) (gCons (gName 3) gNil)))) (tt := tYes) (tt1 := tYes) rfl sc_all_entries.nd (x_pil (K := K) (pe_callB (call_sortedD rfl) (by rfl) T.sorted (by decide +kernel) (pa_cons (pv 0) pa_nil))) (blkOk_by (N := ["logs", "worker", "index", "entry"]) (sc := (defScope s_all_entries)) (by decide +kernel)) (by decide) (fun _ _ _ _ _ => (pg_name (i := 1) sc_all_entries.nd rfl (Or.inl rfl))) (fun _ _ _ _ _ => pts_nil) (fun _ _ _ _ _ => (x_enum (K := K) T (pe_dget hu (pv 0) (pv 1) (fun _ _ => rfl)))) (fun _ _ _ _ _ => (x_gt (K := K) (pgs_cons (pg_name (i := 2) sc_all_entries.nd rfl (Or.inl rfl)) (pgs_cons (pg_name (i := 3) sc_all_entries.nd rfl (Or.inl rfl)) pgs_nil)))) (fun _ _ _ _ _ => pts_nil) (fun _ _ _ _ _ => (pe_tup (pa_cons (pe_tup (pa_cons (pv 1) (pa_cons (pv 2) pa_nil))) (pa_cons (pv 3) pa_nil))))))), ?_⟩
    have hkeys := dk_keys (ws := ws) hl.pl
    refine ⟨.ref d, rfl, d, Dk ws ps, ws, rfl, hl.rd, hkeys, by omega, fun ys p0 hpm hso n0 => ?_⟩
    obtain ⟨zs, hz1, hz2⟩ := perm_lift (fun z : Lg => z.1) hpm (lgs_names hl.pl ll)
    subst hz2
    have zl : zs.length ≤ 6 := by
      have := hpm.length_eq
      rw [List.length_map] at this
      omega
    have e0 : Ex H (upd H p0 (.lst ((zs.map (·.1)).map V.str))) := Ex.new n0
    generalize hH0 : upd H p0 (.lst ((zs.map (·.1)).map V.str)) = H0 at e0
    have h0 : H0 p0 = some (.lst ((zs.map (·.1)).map V.str)) := by rw [← hH0]; exact upd_same
    clear hH0
    refine ⟨p0, rfl, ⟨_, sq_of h0⟩, fun Dl hD => ?_⟩
    have nD : p0 ≠ Dl := ne_of_none h0 hD
    let Iv : Nat → Nat → List Tri → Hp → Prop := fun i j done H' => Ex H0 H' ∧ ∃ (as : List Addr) (R : List RowA), H' Dl = some (.lst (as.map V.ref)) ∧ as.length ≤ 60 * i + j ∧ Paired (RowAt H') as R ∧ R.map RowA.tri = done
    refine ⟨fun i m H' => m = zs.length - i ∧ i ≤ zs.length ∧ Iv i 0 (Rw (zs.take i)) H', ⟨zs.length, rfl, Nat.zero_le _, Ex.new hD, [], [], upd_same, Nat.zero_le _, .nil, rfl⟩, ?_⟩
    rintro i m H1 ⟨rfl, hi, e1, as, R, ha, hal, hR, hRt⟩
    rcases Nat.lt_or_ge i zs.length with hlt | hge
    · have hzi : zs[i]? = some zs[i] := List.getElem?_eq_getElem hlt
      generalize zs[i] = z at hzi
      have hxi : ((zs.map (·.1)).map V.str)[i]? = some (.str z.1) := by rw [List.getElem?_map, List.getElem?_map, hzi]; rfl
      obtain ⟨k, k1, k2, k3⟩ := lgs_at (hz1.mem_iff.mp (List.mem_of_getElem? hzi))
      have tl := (hl.ex e0).lg k _ _ k2 k3
      have es60 := el _ (List.mem_of_getElem? k3)
      refine .inr ⟨⟨_, _, sq_of (e1 _ _ h0), hxi⟩, fun H' => Iv (i + 1) 0 (Rw (zs.take (i + 1))) H', fun H' p' => ⟨zs.length - (i + 1), by omega, rfl, hlt, p'⟩, fun x H1 y => ?_⟩
      obtain ⟨rfl, y⟩ := y
      have hx := y _ (sq_of (e1 _ _ h0))
      rw [hxi] at hx
      cases hx
      have hT : Rw (zs.take (i + 1)) = Rw (zs.take i) ++ rw1 z := by
        have : zs.take (i + 1) = zs.take i ++ [z] := by
          rw [List.take_add_one, hzi]
          rfl
        rw [this]
        unfold Rw
        rw [List.flatMap_append, List.flatMap_cons, List.flatMap_nil, List.append_nil]
      refine ⟨rfl, ?_⟩
      have hl1 := hl.ex (e0.trans e1)
      have dg := dget_r (k := .inr z.1) hl1.rd
      rw [dk_get nd k1 k2] at dg
      obtain ⟨cs, hcs, hcp⟩ := tl
      have csl : cs.length = z.2.2.length := by rw [hcp.length, List.length_map]
      refine ⟨.ref d, rfl, _, rfl, d, .ref z.2.1, rfl, dg, z.2.1, cs.map V.ref, rfl, sq_of (e1 _ _ hcs), ?_⟩
      refine ⟨fun j m H' => m = cs.length - j ∧ j ≤ cs.length ∧ Iv i j (Rw (zs.take i) ++ (rw1 z).take j) H', ⟨cs.length, rfl, Nat.zero_le _, e1, as, R, ha, hal, hR, by rw [hRt]; simp⟩, ?_⟩
      rintro j m H2 ⟨rfl, hj, e12, as2, R2, ha2, hal2, hR2, hRt2⟩
      rcases Nat.lt_or_ge j cs.length with jlt | jge
      · have hcj : (cs.map V.ref)[j]? = some (.ref cs[j]) := by rw [List.getElem?_map, List.getElem?_eq_getElem jlt]; rfl
        obtain ⟨e, he⟩ : ∃ e, z.2.2[j]? = some e := ⟨_, List.getElem?_eq_getElem (by omega)⟩
        obtain ⟨c, hc1, hc2⟩ := paired_get hcp (i := j) (y := e.vs) (by rw [List.getElem?_map, he]; rfl)
        rw [List.getElem?_eq_getElem jlt] at hc1
        have hc1 := Option.some.inj hc1
        refine .inr ⟨⟨_, _, sq_of (e12 _ _ hcs), hcj⟩, fun H' => Iv i (j + 1) (Rw (zs.take i) ++ (rw1 z).take (j + 1)) H', fun H' p' => ⟨cs.length - (j + 1), by omega, rfl, jlt, p'⟩, fun x H' y => ?_⟩
        obtain ⟨T, x, rfl, hT0, rfl, y⟩ := y
        have hx := y _ (sq_of (e12 _ _ hcs))
        rw [hcj] at hx
        cases hx
        refine ⟨T, _, rfl, st_of upd_same, rfl, _, _, rfl, _, _, rfl, rfl, rfl, ?_⟩
        have e3 : Ex H2 (upd H2 T (.tup [.int (j : Nat), .ref cs[j]])) := Ex.new hT0
        have ha3 := e3 _ _ ha2
        generalize hH3 : upd H2 T (.tup [.int (j : Nat), .ref cs[j]]) = H3 at e3 ha3
        clear hH3
        refine ⟨_, rfl, _, rfl, (by show 2 ≤ sizeLine; decide), fun b hb => ⟨_, rfl, (by show 2 ≤ sizeLine; decide), fun t ht => ?_⟩⟩
        have n1 : Dl ≠ b := ne_of_none ha3 hb
        have e4 : Ex H3 (upd H3 b (.tup [.str z.1, .int (j : Nat)])) := Ex.new hb
        have n2 : Dl ≠ t := ne_of_none (e4 _ _ ha3) ht
        have nbt : b ≠ t := ne_of_none (H := upd H3 b (.tup [.str z.1, .int (j : Nat)])) upd_same ht
        have hD4 : (upd (upd H3 b (.tup [.str z.1, .int (j : Nat)])) t (.tup [.ref b, .ref cs[j]])) Dl = some (.lst (as2.map V.ref)) := by
          rw [upd_ne n2, upd_ne n1]
          exact ha3
        refine ⟨as2.map V.ref, hD4, by rw [List.length_map]; exact sz_lt (by omega), ?_⟩
        have e5 : Ex H2 (upd (upd H3 b (.tup [.str z.1, .int (j : Nat)])) t (.tup [.ref b, .ref cs[j]])) := e3.trans (e4.trans (Ex.new ht))
        have tk := (tk_ex e5).trans (tk_upd (o := .lst (as2.map V.ref ++ [.ref t])) hD4)
        refine ⟨?_, as2 ++ [t], R2 ++ [⟨z.1, j, e, b, cs[j]⟩], by rw [upd_same, List.map_append]; rfl, by rw [List.length_append]; show as2.length + 1 ≤ _; omega, Paired.snoc (paired_imp (fun a r h => RowAt.tk h tk) hR2) ⟨?_, ?_, ?_⟩, ?_⟩
        · exact Ex.mut (e12.trans e5) hD
        · rw [upd_ne n2.symm, upd_same]
        · rw [upd_ne n1.symm, upd_ne nbt, upd_same]
        · refine tk _ _ (e12 _ _ ?_)
          rw [hc1]
          exact hc2
        · rw [List.map_append, hRt2, List.append_assoc]
          congr 1
          rw [List.take_add_one, rw1_at he]
          rfl
      · have : j = cs.length := by omega
        subst this
        refine .inl ⟨⟨_, sq_of (e12 _ _ hcs), by rw [List.length_map]; exact Nat.le_refl _⟩, e12, as2, R2, ha2, by omega, hR2, ?_⟩
        rw [hRt2, hT, csl, ← rw1_len, List.take_length]
    · have : i = zs.length := by omega
      subst this
      refine .inl ⟨⟨_, sq_of (e1 _ _ h0), by rw [List.length_map, List.length_map]; exact Nat.le_refl _⟩, ?_⟩
      rw [List.take_length] at hRt
      exact q Dl as R zs H1 (fresh_back e0 hD) (e0.trans e1) ha hR hz1 hso hRt (by omega)
end
end Vx

set_option Elab.async false
set_option linter.all false
set_option maxRecDepth 100000
set_option maxHeartbeats 4000000
namespace Vx
open PySem PySem.Spec PyProof.Rows L2 Evl
theorem perm_flat {α β : Type} {f : α → List β} {xs ys : List α} (h : xs.Perm ys) : (xs.flatMap f).Perm (ys.flatMap f) := by
  induction h with
  | nil => exact List.Perm.refl _
  | cons x h ih =>
    rw [List.flatMap_cons, List.flatMap_cons]
    exact List.Perm.append_left _ ih
  | swap x y l =>
    rw [List.flatMap_cons, List.flatMap_cons, List.flatMap_cons, List.flatMap_cons, ← List.append_assoc, ← List.append_assoc]
    exact List.Perm.append_right _ List.perm_append_comm
  | trans h1 h2 i1 i2 => exact i1.trans i2
theorem lgs_logs {ws : List Str} {ps : List Addr} {L : List (List En)} (h1 : ps.length = ws.length) (h2 : L.length = ws.length) : (lgs ws ps L).map (·.2.2) = L := by
  unfold lgs
  have e1 : ((ws.zip (ps.zip L)).map (·.2)) = ps.zip L := List.map_snd_zip (by rw [List.length_zip]; omega)
  have e2 : ((ps.zip L).map (·.2)) = L := List.map_snd_zip (by omega)
  have : (ws.zip (ps.zip L)).map (fun z => z.2.2) = ((ws.zip (ps.zip L)).map (·.2)).map (·.2) := by
    rw [List.map_map]
    rfl
  rw [this, e1, e2]
theorem rw1_es (z : Lg) : (rw1 z).map (·.2.2) = z.2.2 := by
  unfold rw1
  rw [List.map_map]
  have : ((fun x : Tri => x.2.2) ∘ fun x : En × Nat => (z.1, x.2, x.1)) = Prod.fst := rfl
  rw [this, List.zipIdx_map_fst]
theorem rows_es {R : List RowA} {zs : List Lg} (h : R.map RowA.tri = Rw zs) : R.map (·.e) = zs.flatMap (·.2.2) := by
  have e1 : R.map (·.e) = (R.map RowA.tri).map (·.2.2) := by
    rw [List.map_map]
    rfl
  rw [e1, h]
  unfold Rw
  rw [List.map_flatMap]
  congr 1
  funext z
  exact rw1_es z
theorem rows_pus {R : List RowA} {zs : List Lg} (h : R.map RowA.tri = Rw zs) : (R.filter (·.e.isPu)).map (·.e.it) = zs.flatMap (fun z => pus z.2.2) := by
  have e1 : (R.filter (·.e.isPu)).map (·.e.it) = pus (R.map (·.e)) := by
    rw [pus_eq, List.filter_map, List.map_map]
    rfl
  rw [e1, rows_es h]
  unfold pus
  rw [List.flatMap_assoc]
theorem rows_res {R : List RowA} {zs : List Lg} (h : R.map RowA.tri = Rw zs) : (R.filter (·.e.isRe)).map (·.e.it) = zs.flatMap (fun z => res z.2.2) := by
  have e1 : (R.filter (·.e.isRe)).map (·.e.it) = res (R.map (·.e)) := by
    rw [res_eq, List.filter_map, List.map_map]
    rfl
  rw [e1, rows_es h]
  unfold res
  rw [List.flatMap_assoc]
theorem flat_lgs {f : List En → List Str} {ws : List Str} {ps : List Addr} {L : List (List En)} {zs : List Lg} (h1 : ps.length = ws.length) (h2 : L.length = ws.length) (h : zs.Perm (lgs ws ps L)) : (zs.flatMap (fun z => f z.2.2)).Perm (L.flatMap f) := by
  refine (perm_flat h).trans (List.Perm.of_eq ?_)
  have : (lgs ws ps L).flatMap (fun z => f z.2.2) = ((lgs ws ps L).map (·.2.2)).flatMap f := by rw [List.flatMap_map]
  rw [this, lgs_logs h1 h2]
theorem nd_apart {α β : Type} {R : List α} {p : α → Bool} {g : α → β} (h : ((R.filter p).map g).Nodup) {i j : Nat} {a b : α} (hij : j < i) (hi : R[i]? = some a) (hj : R[j]? = some b) (pa : p a = true) (pb : p b = true) : g b ≠ g a := by
  unfold List.Nodup at h
  rw [List.pairwise_map, List.pairwise_filter, List.pairwise_iff_getElem] at h
  obtain ⟨h1, h2⟩ := List.getElem?_eq_some_iff.mp hi
  obtain ⟨h3, h4⟩ := List.getElem?_eq_some_iff.mp hj
  have := h j i h3 h1 hij
  rw [h2, h4] at this
  exact this pb pa
theorem dgiven_list {α : Type} (R : List α) (d : α) (p : α → Bool) (k : α → Key) (g : α → V) : dgiven R.length (fun i => p (R.getD i d)) (fun i => k (R.getD i d)) (fun i => g (R.getD i d)) = (R.filter p).map fun r => (k r, g r) := by
  have e : R = (List.range R.length).map (fun i => R.getD i d) := by
    refine List.ext_getElem? fun i => ?_
    rw [List.getElem?_map]
    by_cases h : i < R.length
    · rw [List.getElem?_range h, List.getElem?_eq_getElem h]
      simp [List.getD, List.getElem?_eq_getElem h]
    · rw [List.getElem?_eq_none (by omega), List.getElem?_eq_none (by rw [List.length_range]; omega)]
      rfl
  have e2 : (R.filter p).map (fun r => (k r, g r)) = (((List.range R.length).map (fun i => R.getD i d)).filter p).map (fun r => (k r, g r)) := by rw [← e]
  rw [e2, List.filter_map, List.map_map]
  rfl
def row0 : RowA := ⟨"", 0, .size 0, 0, 0⟩
theorem row_at {H : Hp} {as : List Addr} {R : List RowA} (hR : Paired (RowAt H) as R) {i : Nat} {x : V} (hx : (as.map V.ref)[i]? = some x) : ∃ (a : Addr) (r : RowA), x = .ref a ∧ R[i]? = some r ∧ RowAt H a r := by
  rw [List.getElem?_map] at hx
  obtain ⟨a, ha, rfl⟩ := Option.map_eq_some_iff.mp hx
  have hi : i < R.length := by rw [← hR.length]; exact (List.getElem?_eq_some_iff.mp ha).1
  obtain ⟨c, hc, hd⟩ := paired_get hR (i := i) (y := R[i]) (List.getElem?_eq_getElem hi)
  rw [ha] at hc
  cases hc
  exact ⟨a, R[i], rfl, List.getElem?_eq_getElem hi, hd⟩
structure LgOk (ws : List Str) (L : List (List En)) : Prop where
  nd : ws.Nodup
  wl : ws.length ≤ 6
  ll : L.length = ws.length
  el : ∀ es ∈ L, es.length ≤ 60
theorem Vlog.ok {top : Nat} {ws : List Str} {L : List (List En)} (v : Vlog top ws L) (h : top ≤ 60) : LgOk ws L := ⟨v.wk.2.2.1, v.wk.2.1, v.len, fun es he => Nat.le_trans (v.ent es he).1 h⟩
/-- the places of the items that p holds -/
def Plc (p : En → Bool) (R : List RowA) : List (Key × V) := (R.filter fun r => p r.e).map fun r => (.inr r.e.it, .ref r.b)
def spPlc (p : En → Bool) (fl : List En → List Str) : Sp := fun vs H Q _ => ∃ (d : Addr) (ws : List Str) (ps : List Addr) (L : List (List En)), vs = [.ref d] ∧ HLr H d ws ps L ∧ LgOk ws L ∧ (L.flatMap fl).Nodup ∧
  ∀ q (as : List Addr) (R : List RowA) (zs : List Lg) H', H q = none → Ex H H' → H' q = some (.dK (Plc p R)) → Paired (RowAt H') as R → zs.Perm (lgs ws ps L) → sortedS (zs.map (·.1)) = true → R.map RowA.tri = Rw zs → Q (.ref q) H'
section
variable {P : Program} {w : World} {K : PySem.W.Frag} {mg : Str → Option Value} {base : Heap}
theorem sc_push_places : FnScope ["logs", "place", "entry"] ["logs"] (defScope s_push_places) := ⟨rfl, rfl, rfl, by decide +kernel, rfl, by decide +kernel, by decide +kernel⟩
theorem ok_push_places (D : Def K mg "push_places" s_push_places ["logs"]) (T : Bl mg) (G_all_entries : Good P w K mg base 1 "all_entries" ["logs"] (spRows K)) : Good P w K mg base 2 "push_places" ["logs"] (spPlc En.isPu pus) := by
  refine D.good sc_push_places (fun vs H Q E h => ?_) (fun f cdv A outer s H vs Q E hr h => ?_)
  · obtain ⟨d, ws, ps, L, rfl, _⟩ := h
    rfl
  · obtain ⟨d, ws, ps, L, rfl, hl, ok, hn, q⟩ := h
    have hu := hu_of hr
    refine ⟨_, (pss_one (ps_ret (pe_dc (own := [("place", 1), ("entry", 2)]) (g := (gTup K 2 (gCons (gName 1) (gCons (gName 2) gNil)))) rfl sc_push_places.nd (x_pil (K := K) (pe_fn (G_all_entries.mono (by decide)) hr (pa_cons (pv 0) pa_nil))) (blkOk_by (N := ["logs", "place", "entry"]) (sc := (defScope s_push_places)) (by decide +kernel)) (fun _ _ _ _ _ => (x_gt (K := K) (pgs_cons (pg_name (i := 1) sc_push_places.nd rfl (Or.inl rfl)) (pgs_cons (pg_name (i := 2) sc_push_places.nd rfl (Or.inl rfl)) pgs_nil)))) (fun _ _ _ _ _ => (pts_one (pt_cmpR op_eq (x_ixt (K := K) (pv 2) pe_int) pe_str (nomark _)))) (fun _ _ _ _ _ => (x_ixt (K := K) (pv 2) pe_int)) (fun _ _ _ _ _ => (pv 1))))), ?_⟩
    refine ⟨_, rfl, d, ws, ps, L, rfl, hl, ok.nd, ok.wl, ok.ll, ok.el, fun p as R zs H1 n1 e1 h1 hR hz hso hRt hal => ⟨p, rfl, ⟨_, sq_of h1⟩, ?_⟩⟩
    have ndp : ((R.filter (·.e.isPu)).map (·.e.it)).Nodup := by
      rw [rows_pus hRt]
      exact (flat_lgs (f := pus) hl.pl ok.ll hz).nodup_iff.mpr hn
    refine dc_given (fun i => (R.getD i row0).e.isPu) (fun i => .inr (R.getD i row0).e.it) (fun i => .ref (R.getD i row0).b) (fun i => [some (.ref d), some (.ref (R.getD i row0).b), some (.ref (R.getD i row0).c)]) (sq_of h1) (by rw [List.length_map]; omega) (fun i x hx => ?_) (fun i x hx => ?_) (fun i x hx hf => ?_) (fun i x hx hf => ?_) (fun i j hji hi hfi hfj => ?_) (fun Dl H2 n2 e2 h2 => ?_)
    · obtain ⟨a, r, rfl, hr, ha, hb, hc⟩ := row_at hR hx
      rw [getD_at hr]
      exact ⟨rfl, fun H2 e2 Q' q' => ⟨a, _, rfl, st_of (e2 _ _ ha), rfl, _, _, rfl, _, _, rfl, rfl, q' H2 (Ex.refl H2)⟩⟩
    · obtain ⟨a, r, rfl, hr, ha, hb, hc⟩ := row_at hR hx
      rw [getD_at hr]
      exact et_is (et_test (ev_op (ev_op (ev_var rfl) ev_c (rv_ixT (st_of hc) r.e.at0)) ev_c (rv_eq rfl))) r.e.isPu_eq
    · obtain ⟨a, r, rfl, hr, ha, hb, hc⟩ := row_at hR hx
      rw [getD_at hr] at hf ⊢
      exact ev_op (ev_var rfl) ev_c (rv_ixT (st_of hc) (r.e.at1 hf))
    · obtain ⟨a, r, rfl, hr, ha, hb, hc⟩ := row_at hR hx
      rw [getD_at hr]
      exact ev_var rfl
    · rw [List.length_map, hR.length] at hi
      have g1 := List.getElem?_eq_getElem hi
      have g2 := List.getElem?_eq_getElem (show j < R.length by omega)
      rw [getD_at g1] at hfi ⊢
      rw [getD_at g2] at hfj ⊢
      exact fun e => nd_apart (g := fun r : RowA => r.e.it) ndp hji g1 g2 hfi hfj (Sum.inr.inj e)
    · rw [List.length_map, hR.length] at h2
      have := dgiven_list R row0 (fun r => r.e.isPu) (fun r => .inr r.e.it) (fun r => .ref r.b)
      rw [this] at h2
      exact q Dl as R zs H2 (fresh_back e1 n2) (e1.trans e2) h2 (paired_imp (fun a r h => RowAt.tk h (tk_ex e2)) hR) hz hso hRt
theorem sc_removal_places : FnScope ["logs", "place", "entry"] ["logs"] (defScope s_removal_places) := ⟨rfl, rfl, rfl, by decide +kernel, rfl, by decide +kernel, by decide +kernel⟩
theorem ok_removal_places (D : Def K mg "removal_places" s_removal_places ["logs"]) (T : Bl mg) (G_all_entries : Good P w K mg base 1 "all_entries" ["logs"] (spRows K)) : Good P w K mg base 2 "removal_places" ["logs"] (spPlc En.isRe res) := by
  refine D.good sc_removal_places (fun vs H Q E h => ?_) (fun f cdv A outer s H vs Q E hr h => ?_)
  · obtain ⟨d, ws, ps, L, rfl, _⟩ := h
    rfl
  · obtain ⟨d, ws, ps, L, rfl, hl, ok, hn, q⟩ := h
    have hu := hu_of hr
    refine ⟨_, (pss_one (ps_ret (pe_dc (own := [("place", 1), ("entry", 2)]) (g := (gTup K 2 (gCons (gName 1) (gCons (gName 2) gNil)))) rfl sc_removal_places.nd (x_pil (K := K) (pe_fn (G_all_entries.mono (by decide)) hr (pa_cons (pv 0) pa_nil))) (blkOk_by (N := ["logs", "place", "entry"]) (sc := (defScope s_removal_places)) (by decide +kernel)) (fun _ _ _ _ _ => (x_gt (K := K) (pgs_cons (pg_name (i := 1) sc_removal_places.nd rfl (Or.inl rfl)) (pgs_cons (pg_name (i := 2) sc_removal_places.nd rfl (Or.inl rfl)) pgs_nil)))) (fun _ _ _ _ _ => (pts_one (pt_cmpR (x_in (K := K) rfl) (x_ixt (K := K) (pv 2) pe_int) (pe_tup (pa_cons pe_str (pa_cons pe_str pa_nil))) (by rfl)))) (fun _ _ _ _ _ => (x_ixt (K := K) (pv 2) (pe_un un_neg pe_int))) (fun _ _ _ _ _ => (pv 1))))), ?_⟩
    refine ⟨_, rfl, d, ws, ps, L, rfl, hl, ok.nd, ok.wl, ok.ll, ok.el, fun p as R zs H1 n1 e1 h1 hR hz hso hRt hal => ⟨p, rfl, ⟨_, sq_of h1⟩, ?_⟩⟩
    have ndp : ((R.filter (·.e.isRe)).map (·.e.it)).Nodup := by
      rw [rows_res hRt]
      exact (flat_lgs (f := res) hl.pl ok.ll hz).nodup_iff.mpr hn
    refine dc_given (fun i => (R.getD i row0).e.isRe) (fun i => .inr (R.getD i row0).e.it) (fun i => .ref (R.getD i row0).b) (fun i => [some (.ref d), some (.ref (R.getD i row0).b), some (.ref (R.getD i row0).c)]) (sq_of h1) (by rw [List.length_map]; omega) (fun i x hx => ?_) (fun i x hx => ?_) (fun i x hx hf => ?_) (fun i x hx hf => ?_) (fun i j hji hi hfi hfj => ?_) (fun Dl H2 n2 e2 h2 => ?_)
    · obtain ⟨a, r, rfl, hr, ha, hb, hc⟩ := row_at hR hx
      rw [getD_at hr]
      exact ⟨rfl, fun H2 e2 Q' q' => ⟨a, _, rfl, st_of (e2 _ _ ha), rfl, _, _, rfl, _, _, rfl, rfl, q' H2 (Ex.refl H2)⟩⟩
    · obtain ⟨a, r, rfl, hr, ha, hb, hc⟩ := row_at hR hx
      rw [getD_at hr]
      exact et_is (et_test (ev_inU (ev_op (ev_var rfl) ev_c (rv_ixT (st_of hc) r.e.at0)) (eu_tup (ea_cons ev_c (ea_cons ev_c ea_nil)) (by show 2 ≤ 100000; decide)) rfl rfl)) r.e.isRe_eq
    · obtain ⟨a, r, rfl, hr, ha, hb, hc⟩ := row_at hR hx
      rw [getD_at hr] at hf ⊢
      exact ev_op (ev_var rfl) (ev_un ev_c ru_neg) (rv_ixT (st_of hc) (r.e.atL hf))
    · obtain ⟨a, r, rfl, hr, ha, hb, hc⟩ := row_at hR hx
      rw [getD_at hr]
      exact ev_var rfl
    · rw [List.length_map, hR.length] at hi
      have g1 := List.getElem?_eq_getElem hi
      have g2 := List.getElem?_eq_getElem (show j < R.length by omega)
      rw [getD_at g1] at hfi ⊢
      rw [getD_at g2] at hfj ⊢
      exact fun e => nd_apart (g := fun r : RowA => r.e.it) ndp hji g1 g2 hfi hfj (Sum.inr.inj e)
    · rw [List.length_map, hR.length] at h2
      have := dgiven_list R row0 (fun r => r.e.isRe) (fun r => .inr r.e.it) (fun r => .ref r.b)
      rw [this] at h2
      exact q Dl as R zs H2 (fresh_back e1 n2) (e1.trans e2) h2 (paired_imp (fun a r h => RowAt.tk h (tk_ex e2)) hR) hz hso hRt
end
end Vx

set_option Elab.async false
set_option linter.all false
set_option maxRecDepth 100000
set_option maxHeartbeats 4000000
namespace Vx
open PySem PySem.Spec PyProof.Rows L2 Evl
theorem x_ni {X : Cx} {K : PySem.W.Frag} (hK : X.K = K) : OpR X (compareOp .NotIn) (rIn K true) := by
  subst hK
  exact op_notIn_seq
theorem ev_dni {σ : L2.St} {H : Hp} {td ty : TE} {d : Addr} {kvs : List (Key × V)} {x : Str} {r : Option V} (h1 : Ev ty σ H (.str x)) (h2 : Ev td σ H (.ref d)) (hd : H d = some (.dK kvs)) (hv : valV kvs (.inr x) = r) : Ev (tDNotIn ty td) σ H (.bl (!r.isSome)) := fun H1 e Q q =>
  h1 H1 e _ fun H2 e2 => h2 H2 (e.trans e2) _ fun H3 e3 => ⟨d, r, rfl, by
    have := DGet.k (k := .inr x) (e3 _ _ (e2 _ _ (e _ _ hd)))
    rw [hv] at this
    exact this, q H3 (e2.trans e3)⟩
theorem s_unpack {K : PySem.W.Frag} {D : Ends} {σ : L2.St} {H : Hp} {te : TE} {a : Addr} {x y : V} {i j : Nat} (h : Ev te σ H (.ref a)) (ha : H a = some (.tup [x, y])) (k : ∀ H1, Ex H H1 → D.nx ((σ.set i (some x)).set j (some y)) H1) :
    tAsg te (gTup K 2 (gCons (gName i) (gCons (gName j) gNil))) D σ H := h H (Ex.refl H) _ fun H1 e1 => ⟨a, _, rfl, st_of (e1 _ _ ha), rfl, _, _, rfl, _, _, rfl, rfl, k H1 e1⟩
theorem En.isRe_not (e : En) : (!inV (V.str e.hd) [.str "pop", .str "steal"]) = !e.isRe := by rw [e.isRe_eq]
/-- what the removal e of the log w at i asks of the place of its item -/
def Fits (e : En) (w : Str) (i : Nat) (w' : Str) (i' : Nat) : Prop := match e with
  | .pop _ => w' = w ∧ i' < i
  | .steal o _ => w' = o ∧ o ≠ w
  | _ => True
def spFits : Sp := fun vs H Q _ => ∃ (pd b c : Addr) (kvs : List (Key × V)) (x : Str) (i : Nat) (e : En), vs = [.ref pd, .ref b, .ref c] ∧ H pd = some (.dK kvs) ∧ H b = some (.tup [.str x, .int (i : Int)]) ∧ H c = some (.tup e.vs) ∧
  (e.isRe = true → ∃ (b' : Addr) (x' : Str) (i' : Nat), valV kvs (.inr e.it) = some (.ref b') ∧ H b' = some (.tup [.str x', .int (i' : Int)]) ∧ Fits e x i x' i') ∧ Yes H Q
section
variable {P : Program} {w : World} {K : PySem.W.Frag} {mg : Str → Option Value} {base : Heap}
theorem sc_removal_fits : FnScope ["places", "place", "entry", "owner", "index"] ["places", "place", "entry"] (defScope s_removal_fits) := ⟨rfl, rfl, rfl, by decide +kernel, rfl, by decide +kernel, by decide +kernel⟩
theorem ok_removal_fits (D : Def K mg "removal_fits" s_removal_fits ["places", "place", "entry"]) (T : Bl mg) : Good P w K mg base 1 "removal_fits" ["places", "place", "entry"] (spFits) := by
  refine D.good sc_removal_fits (fun vs H Q E h => ?_) (fun f cdv A outer s H vs Q E hr h => ?_)
  · obtain ⟨pd, b, c, kvs, x, i, e, rfl, _⟩ := h
    rfl
  · obtain ⟨pd, b, c, kvs, x, i, e, rfl, hd, hb, hc, hf, q⟩ := h
    have hu := hu_of hr
    refine ⟨_, (pss_cons (ps_if (pt_cmpR (x_ni (K := K) rfl) (x_ixt (K := K) (pv 2) pe_int) (pe_tup (pa_cons pe_str (pa_cons pe_str pa_nil))) (by rfl)) (pss_one (ps_ret pe_bl)) pss_nil)
      (pss_cons (ps_if (pt_cmp (pc_dnotin hu (x_ixt (K := K) (pv 2) (pe_un un_neg pe_int)) (pv 0))) (pss_one (ps_ret pe_bl)) pss_nil)
      (pss_cons (ps_asg (pe_dget hu (pv 0) (x_ixt (K := K) (pv 2) (pe_un un_neg pe_int)) (fun _ _ => rfl)) (x_gt (K := K) (pgs_cons (pg_name (i := 3) sc_removal_fits.nd rfl (Or.inl rfl)) (pgs_cons (pg_name (i := 4) sc_removal_fits.nd rfl (Or.inl rfl)) pgs_nil))))
      (pss_cons (ps_if (pt_cmpR op_eq (x_ixt (K := K) (pv 2) pe_int) pe_str (nomark _)) (pss_one (ps_ret (pe_and (pe_cmpR op_eq (pv 3) (x_ixt (K := K) (pv 1) pe_int) (nomark _)) (pe_one (pe_cmpR op_lt (pv 4) (x_ixt (K := K) (pv 1) pe_int) (nomark _)))))) pss_nil)
      (pss_one (ps_ret (pe_and (pe_cmpR op_eq (pv 3) (x_ixt (K := K) (pv 2) pe_int) (nomark _)) (pe_one (pe_cmpR op_ne (pv 3) (x_ixt (K := K) (pv 1) pe_int) (nomark _)))))))))), ?_⟩
    refine s_if (b := !e.isRe) (et_is (et_test (ev_niU (ev_op (ev_var rfl) ev_c (rv_ixT (st_of hc) e.at0)) (eu_tup (ea_cons ev_c (ea_cons ev_c ea_nil)) (by show 2 ≤ 100000; decide)) rfl rfl)) e.isRe_not) (fun _ H1 e1 => ?_) (fun hn H1 e1 => ?_)
    · exact s_ret ev_c fun H2 e2 => q H2 (e1.trans e2)
    have hre : e.isRe = true := by
      cases h : e.isRe with
      | true => rfl
      | false => rw [h] at hn; cases hn
    obtain ⟨b', x', i', hv, hb', hfit⟩ := hf hre
    have last : ∀ {σ : L2.St} {H2 : Hp}, Ex H H2 → σ[2]? = some (some (.ref c)) → Ev (tOp (rIxT K) (tVar 2) (tUn (rU fun i => .int (-i)) (tC (.int 1)))) σ H2 (.str e.it) := fun e2 h => ev_op (ev_var h) (ev_un ev_c ru_neg) (rv_ixT (st_of (e2 _ _ hc)) (e.atL hre))
    refine s_if (b := false) (et_B (ev_is (ev_dni (last e1 rfl) (ev_var rfl) (e1 _ _ hd) hv) rfl)) (fun z => nomatch z) (fun _ H2 e2 => ?_)
    have E2 := e1.trans e2
    refine s_unpack (ev_dget (ev_var rfl) (last E2 rfl) (E2 _ _ hd) hv) (E2 _ _ hb') fun H3 e3 => ?_
    have E3 := E2.trans e3
    refine s_if (b := e.isPo) (et_is (et_test (ev_op (ev_op (ev_var rfl) ev_c (rv_ixT (st_of (E3 _ _ hc)) e.at0)) ev_c (rv_eq rfl))) e.isPo_eq) (fun hp H4 e4 => ?_) (fun hp H4 e4 => ?_)
    · have E4 := E3.trans e4
      cases e with
      | pop y =>
        obtain ⟨f1, f2⟩ : x' = x ∧ i' < i := hfit
        subst f1
        exact s_ret (ev_andV (a := true) (b := true) (ev_is (ev_op (ev_var rfl) (ev_op (ev_var rfl) ev_c (rv_ixT (st_of (E4 _ _ hb)) rfl)) (rv_eq rfl)) (by simp)) (fun _ => ev_is (ev_op (ev_var rfl) (ev_op (ev_var rfl) ev_c (rv_ixT (st_of (E4 _ _ hb)) rfl)) rv_I0) (by simp; omega))) fun H5 e5 => q H5 (E4.trans e5)
      | push y => cases hp
      | size k => cases hp
      | steal o y => cases hp
    · have E4 := E3.trans e4
      cases e with
      | steal o y =>
        obtain ⟨f1, f2⟩ : x' = o ∧ o ≠ x := hfit
        subst f1
        exact s_ret (ev_andV (a := true) (b := true) (ev_is (ev_op (ev_var rfl) (ev_op (ev_var rfl) ev_c (rv_ixT (st_of (E4 _ _ hc)) rfl)) (rv_eq rfl)) (by simp)) (fun _ => ev_is (ev_op (ev_var rfl) (ev_op (ev_var rfl) ev_c (rv_ixT (st_of (E4 _ _ hb)) rfl)) (rv_ne rfl)) (by simp [f2]))) fun H5 e5 => q H5 (E4.trans e5)
      | push y => cases hre
      | size k => cases hre
      | pop y => cases hp
end
end Vx

set_option Elab.async false
set_option linter.all false
set_option maxRecDepth 100000
set_option maxHeartbeats 4000000
namespace Vx
open PySem PySem.Spec PyProof.Rows L2
/-! set(xs), xs a list of distinct keys of any kind -/
section
variable {prog : Program} {w : World} {A : Around} {R : Result → Shared → Prop} {I : Addr} {fp wr : List Addr} {G : Array GenState → Array GenState → Prop} {n : Nat} {P : Nat → Value → Prop} {St : Nat → Shared → Prop}
variable {K : Type} [DecidableEq K] [BEq K] [LawfulBEq K] {knd : KeyKind prog w K}
/-- the keys so far -/
def Sofar (key : Nat → K) (c : Nat) (x : K) : Bool := (List.range c).any fun j => decide (key j = x)
theorem sofar_no {key : Nat → K} {c : Nat} (h : ∀ j, j < c → key j ≠ key c) : Sofar key c (key c) = false := by
  unfold Sofar
  rw [List.any_eq_false]
  intro j hj
  simp [h j (List.mem_range.mp hj)]
theorem sofar_succ (key : Nat → K) (c : Nat) (x : K) : Sofar key (c + 1) x = (Sofar key c x || decide (x = key c)) := by
  unfold Sofar
  rw [List.range_succ, List.any_append]
  congr 1
  simp [eq_comm]
/-- one key more: the turns of the walk W from c on -/
theorem set_turns (W : WalksS prog w A.in1 I fp wr G n P St) {T : Addr} (hT : T ∉ fp) {key : Nat → K} (hkey : ∀ c v, P c v → knd.is (key c) v = true ∧ v.scannable = true)
    (apart : ∀ j c, j < c → c < n → key j ≠ key c) (room : n + 1 < scanBound) : ∀ (left c : Nat) (s : Shared), c + left = n → St c s → s.heap.SetOf knd T (Sofar key c) c →
      (∀ s2, Moved (T :: wr) G s s2 → s2.heap.SetOf knd T (Sofar key n) n → R (.ok (.ret .none)) s2) → codeAny (model prog w) A (.builtin "set.update.loop" ⟨[.ref T, .ref I], []⟩) R s := by
  have nT : T ∉ wr := fun z => hT (W.sub _ z)
  have up : ∀ {s1 s2 : Shared}, Moved wr G s1 s2 → Moved (T :: wr) G s1 s2 := fun m => m.mono fun b hb => List.mem_cons_of_mem _ hb
  have keep : ∀ {s1 s2 : Shared} {S : K → Bool} {c : Nat}, Moved wr G s1 s2 → s1.heap.SetOf knd T S c → s2.heap.SetOf knd T S c := fun m so => by
    obtain ⟨ob, es, ep, tb, at_, more⟩ := so
    exact ⟨ob, es, ep, tb, m.heap T _ nT at_, more⟩
  intro left
  induction left with
  | zero =>
    intro c s hc st so out
    obtain rfl : c = n := by omega
    refine codeAny_builtin PyProof.Rows.F.entry_set_update_loop ?_; rw [Around.under_plainId PyProof.Rows.F.plain_set_update_loop _]
    refine wpAny_bind (m := pyNext (.ref I)) (W.done s _ _ st fun s2 m => ?_)
    exact wpAny_pure (out s2 (up m) (keep m so))
  | succ left ih =>
    intro c s hc st so out
    have hlt : c < n := by omega
    refine codeAny_builtin PyProof.Rows.F.entry_set_update_loop ?_; rw [Around.under_plainId PyProof.Rows.F.plain_set_update_loop _]
    refine wpAny_bind (m := pyNext (.ref I)) (W.item c s _ _ hlt st fun v s2 pv st2 m => ?_)
    obtain ⟨isv, scv⟩ := hkey c v pv
    refine wpAny_bind (m := holding [v] (setAdd T v)) (wpAny_holding ?_)
    have so2 := keep m so
    unfold setAdd; refine wpAny_holding (wpAny_bind (knd.pyHash isv ?_))
    refine wpAny_setAddHashed_of (s := { s2 with toks := s2.toks + 1 }) isv scv so2 (by omega) fun h3 only so3 => ?_
    rw [if_neg (by rw [sofar_no fun j hj => apart j c hj hlt]; exact Bool.false_ne_true)] at so3
    have so4 : h3.SetOf knd T (Sofar key (c + 1)) (c + 1) := SetOf_congr so3 (fun x => (sofar_succ key c x).symm) rfl
    have other : ∀ b ∈ fp, b ≠ T := fun b hb z => hT (z ▸ hb)
    refine wpAny_pure ⟨plainId_quiet PyProof.Rows.F.plain_set_update_loop _, ih (c + 1) _ (by omega) (W.frame _ s2 _ _ st2 (Nat.le_succ _) fun b hb o e => (only.2 b (other b hb)).trans e) so4 fun s5 m5 so5 => ?_⟩
    exact out s5 (Moved.trans W.gtrans ((up m).then_heap (Nat.le_succ _) fun b o hb e => (only.2 b fun z => hb (z ▸ List.mem_cons_self)).trans e) m5) so5
end
end Vx
namespace Vx
open PySem PySem.Spec PyProof.Rows L2
section
variable {prog : Program} {w : World} {A : Around} {E : Value → Shared → Prop} {s : Shared}
variable {K : Type} [DecidableEq K] [BEq K] [LawfulBEq K] {knd : KeyKind prog w K}
def set0 (led : Bool) : Obj := { cls := .type "set", dict := none, data := .set #[] 0 (.fresh 0 0 led) }
theorem set_of_list {l : Addr} {its : Array Value} {key : Nat → K} {Q : Value → Shared → Prop} (quiet : A.handled = none) (hl : s.heap.IsList l its) (hkey : ∀ c v, its[c]? = some v → knd.is (key c) v = true ∧ v.scannable = true)
    (apart : ∀ j c, j < c → c < its.size → key j ≠ key c) (room : its.size + 1 < scanBound)
    (out : ∀ (h2 : Heap) (tk : Nat), h2.SetOf knd s.heap.objs.size (Sofar key its.size) its.size → (∀ b o, b < s.heap.objs.size → s.heap.get? b = some o → h2.get? b = some o) → Q (.ref s.heap.objs.size) { s with heap := h2, toks := tk }) :
    wpAny (model prog w) A (call (.type "set") [.ref l]) Q E s := by
  obtain ⟨cc, rest, mro⟩ := PySem.F.called_set.mro
  have a1 := PySem.F.called_set.made; have a2 := PySem.F.called_set.sub; have a3 := PySem.F.called_set.notType; have a4 := PySem.F.called_set.canCreate
  have a5 := PySem.F.typeCall_set_1 (.ref l)
  refine wpAny_call (codeAny_of_tree ?_); show wpAny _ _ (callAny (.type "set") _) _ _ _
  refine wpAny_pure ⟨Code.quiet_builtin _ (by decide +kernel), codeAny_builtin PySem.F.entry_type_call ?_⟩
  rw [Around.under_plain (weight_type_call_type "set" [.ref l] []) rfl]
  have h1 := a3; have h2 := a4; have hct := a5; have hmade := a1; have hsub := a2; have hmro := mro
  repeat (any_goals (first | assumption | wp_step))
  refine codeAny_mono (code_set_new_1 (.ref l) (E := E) (Q₁ := fun v s1 => ∃ led, v = .ref s.heap.objs.size ∧ s1 = { s with heap := s.heap.push (set0 led) }) fun led => ⟨led, rfl, rfl⟩) fun r s1 hr => ?_
  rcases r with e | fl
  · exact hr
  cases fl with
  | ret v =>
    obtain ⟨led, rfl, rfl⟩ := hr
    have at0 : (s.heap.push (set0 led)).get? s.heap.objs.size = some (set0 led) := Heap.get?_push_size _ rfl
    have hT : Shared.TypeIs { s with heap := s.heap.push (set0 led) } (.ref s.heap.objs.size) "set" := ⟨_, at0, rfl⟩
    have hli := PySem.F.called_set.init.lookup; have hbi := PySem.F.called_set.init.bind (.ref s.heap.objs.size)
    repeat (any_goals (first | assumption | wp_step))
    refine codeAny_mono (codeAny_call_builtin (R := wants (fun r s2 => r = .none ∧ ∃ h2 tk, s2 = { s with heap := h2, toks := tk } ∧ h2.SetOf knd s.heap.objs.size (Sofar key its.size) its.size ∧ ∀ b o, b < s.heap.objs.size → s.heap.get? b = some o → h2.get? b = some o) E)
      PySem.F.called_set.init.plain PySem.F.entry_set_init (check_set_init_1 hT ?_)) fun r2 s2 hr2 => ?_
    · obtain ⟨⟨_, od, _, osl⟩, at1, rfl, nl, rfl⟩ := hl
      have inl : (s.heap.push (set0 led)).IsList l its := ⟨_, Heap.get?_push_of_some _ at1, rfl, nl, rfl⟩
      have hol' : (s.heap.push (set0 led)).get? l = some { cls := .type "list", dict := od, data := .seq its nl, slots := osl } := Heap.get?_push_of_some _ at1
      have b1 := PySem.F.sub_list_set; have b2 := PySem.F.sub_list_frozenset
      have b3 : (Value.type "list" == Value.type "dict") = false := by decide
      unfold Builtin.«set.__init__» noKeywords Builtin.Frozenset.updateFrom
      generalize hit : pyIter = it0
      wp_walk
      subst hit
      refine wpAny_pyIter_list inl (wpAny_bind (wpAny_runValue ?_))
      have below : l < s.heap.objs.size := Heap.lt_size at1
      have sz : (s.heap.push (set0 led)).objs.size = s.heap.objs.size + 1 := Heap.size_push ..
      refine set_turns (knd := knd) (key := key) (n := its.size) ((Walks.list (by simp [quiet]) _ l (by rw [sz]; exact Nat.ne_of_lt (Nat.lt_succ_of_lt below)) its).toS) (by
        rw [sz]
        intro z
        rcases List.mem_cons.mp z with z | z
        · exact Nat.ne_of_lt (Nat.lt_succ_self _) z
        · exact Nat.ne_of_gt below (List.mem_singleton.mp z)) hkey apart room its.size 0 _ (by omega) ⟨⟨_, Heap.get?_push_size _ rfl, rfl, rfl⟩, inl.push _⟩ ?_ fun s5 m so => ?_
      · exact SetOf_congr ((setObjOf_fresh (knd := knd) led).setOf (Heap.get?_push_of_some _ at0) (by unfold scanBound; omega)) (fun _ => rfl) rfl
      · obtain ⟨h5, g5, d5, t5, o5⟩ := s5
        obtain rfl : g5 = s.gens := m.gens
        obtain rfl : d5 = s.drawn := m.drawn
        obtain rfl : o5 = s.os := m.os
        refine wpAny_pure (wpAny_pure ⟨rfl, h5, t5, rfl, so, fun b o hb e => m.heap b o ?_ (Heap.get?_push_of_some _ (Heap.get?_push_of_some _ e))⟩)
        rw [sz]
        intro z
        rcases List.mem_cons.mp z with z | z
        · exact Nat.ne_of_lt hb z
        · exact Nat.ne_of_lt (Nat.lt_succ_of_lt hb) (List.mem_singleton.mp z)
    · rcases r2 with e | f2
      · exact hr2
      cases f2 with
      | ret v =>
        obtain ⟨rfl, h5, t5, rfl, so, kp⟩ := hr2
        repeat (any_goals (first | assumption | wp_step))
        exact out _ _ so kp
      | _ => exact hr2.elim
  | _ => exact hr.elim
end
end Vx

set_option Elab.async false
set_option linter.all false
set_option maxRecDepth 100000
set_option maxHeartbeats 4000000
namespace Vx
open PySem PySem.Spec PyProof.Rows L2 Evl
/-- len(set(xs)), xs a list of distinct texts -/
def tLenTx (K : PySem.W.Frag) (ta : TE) : TE := fun σ H Q => ta σ H fun x H1 => ∃ (l : Addr) (xs : List Str), x = .ref l ∧ SqL K H1 l (xs.map V.str) ∧ xs.Nodup ∧ xs.length ≤ 4000 ∧ Q (.int (xs.length : Int)) H1
theorem pe_lenTx {X : Cx} {K : PySem.W.Frag} {a : Expr} {ta : TE} {p p2 pos pos2 : Pos} (hK : X.K = K) (calm : X.calm = true) (g1 : Gl X "len") (m1 : X.mg "len" = none) (g2 : Gl X "set") (m2 : X.mg "set" = none) (ha : PE X a ta)
    (st : starEach [a] X.env = (false, eval a X.env) :: starEach [] X.env := by rfl) : PE X (.Call (.Name "len" p) [.Call (.Name "set" p2) [a] [] pos2] [] pos) (tLenTx K ta) := by
  subst hK
  refine ⟨fun pins s σ H Q I hq => ?_⟩
  refine Call_ (ld_blt I g1 m1 PySem.boot_len (callWith_builtin1 (args_cons (Call_ (ld_blt I g2 m2 boot_set (callWith_type1 (args_cons (thn (ha.run pins s σ H _ I hq) fun v s1 ⟨x, H1, I1, r1, q1⟩ => args_nil ?_) st) st rfl))) rfl) rfl rfl))
  obtain ⟨l, xs, rfl, sq, nd, hz, q1⟩ := q1
  cases r1
  obtain ⟨its, r, pl, _⟩ := I1.list sq
  have sa := strsAre_of r
  have len : its.toArray.size = xs.length := by rw [List.size_toArray, ← r.length, List.length_map]
  have bound : its.toArray.size + 1 < scanBound := by rw [len]; unfold scanBound; omega
  refine set_of_list (knd := PySem.strKind X.prog X.w) (key := fun c => xs.getD c Str.empty) (I1.ok.hd calm) pl.isList (fun c v hv => ?_) (fun j c hj hc => ?_) bound fun h2 tk so kp => ?_
  · rw [← Array.getElem?_toList] at hv
    obtain ⟨t, rfl⟩ := SS.strs_at sa c v hv
    exact ⟨PySem.strKind_is _ _ _ _, rfl⟩
  · rw [len] at hc
    intro z
    have e1 := List.getElem?_eq_getElem hc
    have e2 := List.getElem?_eq_getElem (show j < xs.length by omega)
    rw [getD_at e1, getD_at e2] at z
    have := (List.getElem?_inj (show j < xs.length by omega) nd (j := c)).mp (by rw [e1, e2, z])
    omega
  · refine args_nil ?_
    obtain ⟨ob, es, ep, tb, at_, ex, dd, _, _, _, fits, num⟩ := so
    have I2 : Inv X pins σ H1 { s1 with heap := h2, toks := tk } := I1.kept fun b o e => kp b o (Heap.lt_size e) e
    exact call_len_set at_ ex dd fits (by rw [num, len]; omega) ⟨.int xs.length, H1, I2.tok _, ⟨_, by rw [num, len]⟩, q1⟩
end Vx

set_option Elab.async false
set_option linter.all false
set_option maxRecDepth 100000
set_option maxHeartbeats 8000000
namespace Vx
open PySem PySem.Spec PyProof.Rows L2 Evl
theorem mem_Rw {zs : List Lg} {x : Str} {i : Nat} {e : En} : (x, i, e) ∈ Rw zs ↔ ∃ z ∈ zs, z.1 = x ∧ z.2.2[i]? = some e := by
  unfold Rw
  rw [List.mem_flatMap]
  constructor
  · rintro ⟨z, hz, h⟩
    obtain ⟨j, hj⟩ := List.mem_iff_getElem?.mp h
    have hl : j < z.2.2.length := by rw [← rw1_len]; exact (List.getElem?_eq_some_iff.mp hj).1
    have := rw1_at (List.getElem?_eq_getElem hl)
    rw [this] at hj
    injection hj with hj
    injection hj with h1 h2
    injection h2 with h2 h3
    subst h1 h2 h3
    exact ⟨z, hz, rfl, List.getElem?_eq_getElem hl⟩
  · rintro ⟨z, hz, rfl, h⟩
    exact ⟨z, hz, List.mem_of_getElem? (rw1_at h)⟩
theorem valV_mem : ∀ {kvs : List (Key × V)} {k : Key} {v : V}, (kvs.map (·.1)).Nodup → (k, v) ∈ kvs → valV kvs k = some v
  | [], _, _, _, h => by cases h
  | p :: kvs, k, v, nd, h => by
    rw [List.map_cons, List.nodup_cons] at nd
    rcases List.mem_cons.mp h with rfl | h
    · exact valV_pos rfl
    · rw [valV_neg (fun e => nd.1 (by rw [e]; exact List.mem_map.mpr ⟨_, h, rfl⟩))]
      exact valV_mem nd.2 h
theorem lgs_mem {ws : List Str} {ps : List Addr} {L : List (List En)} {k : Nat} {x : Str} {p : Addr} {es : List En} (h1 : ws[k]? = some x) (h2 : ps[k]? = some p) (h3 : L[k]? = some es) : (x, p, es) ∈ lgs ws ps L := by
  refine List.mem_of_getElem? (i := k) ?_
  unfold lgs
  rw [List.getElem?_zip_eq_some]
  refine ⟨h1, ?_⟩
  rw [List.getElem?_zip_eq_some]
  exact ⟨h2, h3⟩
/-- the removals of valid logs fit the places of the pushes -/
theorem Vlog.fits {top : Nat} {ws : List Str} {ps : List Addr} {L : List (List En)} (v : Vlog top ws L) (pl : ps.length = ws.length) {zs zs2 : List Lg} (hz : zs.Perm (lgs ws ps L)) (hz2 : zs2.Perm (lgs ws ps L)) {R2 : List RowA} (h2 : R2.map RowA.tri = Rw zs2)
    {x : Str} {i : Nat} {e : En} (h : (x, i, e) ∈ Rw zs) (hre : e.isRe = true) : ∃ r2 ∈ R2, valV (Plc En.isPu R2) (.inr e.it) = some (.ref r2.b) ∧ Fits e x i r2.w r2.i := by
  have ndk : ((Plc En.isPu R2).map (·.1)).Nodup := by
    have : (Plc En.isPu R2).map (·.1) = ((R2.filter (·.e.isPu)).map (·.e.it)).map Sum.inr := by
      unfold Plc
      rw [List.map_map, List.map_map]
      rfl
    rw [this, rows_pus h2]
    have nd := (flat_lgs (f := pus) pl v.len hz2).nodup_iff.mpr v.pu
    unfold List.Nodup at nd ⊢
    rw [List.pairwise_map]
    exact nd.imp fun h e => h (Sum.inr.inj e)
  have got : ∀ {o y : Str} {j : Nat} {z2 : Lg}, z2 ∈ lgs ws ps L → z2.1 = o → z2.2.2[j]? = some (.push y) → ∃ r2 ∈ R2, valV (Plc En.isPu R2) (.inr y) = some (.ref r2.b) ∧ r2.w = o ∧ r2.i = j := fun {o y j z2} hm ho hj => by
    have h3 : (o, j, En.push y) ∈ R2.map RowA.tri := by
      rw [h2]
      exact mem_Rw.mpr ⟨z2, hz2.mem_iff.mpr hm, ho, hj⟩
    obtain ⟨r2, hr2, ht⟩ := List.mem_map.mp h3
    unfold RowA.tri at ht
    injection ht with t1 t2
    injection t2 with t2 t3
    refine ⟨r2, hr2, valV_mem ndk ?_, t1, t2⟩
    unfold Plc
    refine List.mem_map.mpr ⟨r2, List.mem_filter.mpr ⟨hr2, by simp [t3, En.isPu]⟩, ?_⟩
    rw [t3]
    rfl
  obtain ⟨z, hzm, rfl, hzi⟩ := mem_Rw.mp h
  have hzl := hz.mem_iff.mp hzm
  obtain ⟨k, k1, k2, k3⟩ := lgs_at hzl
  cases e with
  | push y => cases hre
  | size n => cases hre
  | pop y =>
    obtain ⟨j, hj, hp⟩ := v.own k _ i y k3 hzi
    obtain ⟨r2, m, g1, g2, g3⟩ := got hzl rfl hp
    exact ⟨r2, m, g1, g2, by omega⟩
  | steal o y =>
    obtain ⟨hne, k', es', c1, c2, c3⟩ := v.st k _ _ o y k3 k1 (List.mem_of_getElem? hzi)
    obtain ⟨j, hj⟩ := List.mem_iff_getElem?.mp c3
    have hk' : k' < ps.length := by rw [pl]; exact (List.getElem?_eq_some_iff.mp c1).1
    obtain ⟨r2, m, g1, g2, g3⟩ := got (lgs_mem c1 (List.getElem?_eq_getElem hk') c2) rfl hj
    exact ⟨r2, m, g1, g2, hne⟩
theorem given_all (n : Nat) : given n (fun _ => true) (fun _ => V.bl true) = (List.replicate n true).map V.bl := by
  unfold given
  rw [List.filter_eq_self.mpr (fun _ _ => rfl), List.map_const', List.length_range, List.map_replicate]
theorem et_yes {σ : L2.St} {H : Hp} : EvT tYes σ H true := fun H1 _ _ q => q H1 (Ex.refl H1)
theorem ev_lenTx {K : PySem.W.Frag} {σ : L2.St} {H : Hp} {te : TE} {l : Addr} {xs : List Str} (h : Ev te σ H (.ref l)) (hl : SqL K H l (xs.map V.str)) (nd : xs.Nodup) (hz : xs.length ≤ 4000) : Ev (tLenTx K te) σ H (.int (xs.length : Int)) := fun H1 e Q q =>
  h H1 e _ fun H2 e2 => ⟨l, xs, rfl, ex_l (e.trans e2) hl, nd, hz, q H2 e2⟩
def spFit : Sp := fun vs H Q _ => ∃ (d : Addr) (ws : List Str) (ps : List Addr) (L : List (List En)), vs = [.ref d] ∧ HLr H d ws ps L ∧ Vlog 60 ws L ∧ Yes H Q
section
variable {P : Program} {w : World} {K : PySem.W.Frag} {mg : Str → Option Value} {base : Heap}
theorem sc_items_fit : FnScope ["logs", "rows", "pushed", "removed", "places", "place", "entry"] ["logs"] (defScope s_items_fit) := ⟨rfl, rfl, rfl, by decide +kernel, rfl, by decide +kernel, by decide +kernel⟩
theorem ok_items_fit (D : Def K mg "items_fit" s_items_fit ["logs"]) (T : Bl mg) (G_all_entries : Good P w K mg base 1 "all_entries" ["logs"] (spRows K)) (G_push_places : Good P w K mg base 2 "push_places" ["logs"] (spPlc En.isPu pus)) (G_removal_fits : Good P w K mg base 1 "removal_fits" ["places", "place", "entry"] spFits) : Good P w K mg base 3 "items_fit" ["logs"] (spFit) := by
  refine D.good sc_items_fit (fun vs H Q E h => ?_) (fun f cdv A outer s H vs Q E hr h => ?_)
  · obtain ⟨d, ws, ps, L, rfl, _⟩ := h
    rfl
  · obtain ⟨d, ws, ps, L, rfl, hl, v, q⟩ := h
    have hu := hu_of hr
    refine ⟨_, (pss_cons (ps_set (i := 1) sc_items_fit.nd rfl (Or.inl rfl) (pe_fn (G_all_entries.mono (by decide)) hr (pa_cons (pv 0) pa_nil)))
      (pss_cons (ps_setLc (i := 2) (own := [("place", 5), ("entry", 6)]) (g := (gTup K 2 (gCons (gName 5) (gCons (gName 6) gNil))))  rfl sc_items_fit.nd rfl rfl (sw_true rfl rfl rfl (by decide +kernel)) (x_pil (K := K) (pv 1)) (blkOk_by (N := ["logs", "rows", "pushed", "removed", "places", "place", "entry"]) (sc := (defScope s_items_fit)) (by decide +kernel)) (fun _ _ _ _ _ => (x_gt (K := K) (pgs_cons (pg_name (i := 5) sc_items_fit.nd rfl (Or.inl rfl)) (pgs_cons (pg_name (i := 6) sc_items_fit.nd rfl (Or.inl rfl)) pgs_nil)))) (fun _ _ _ _ _ => (pts_one (pt_cmpR op_eq (x_ixt (K := K) (pv 6) pe_int) pe_str (nomark _)))) (fun _ _ _ _ _ => (x_ixt (K := K) (pv 6) pe_int)))
      (pss_cons (ps_setLc (i := 3) (own := [("place", 5), ("entry", 6)]) (g := (gTup K 2 (gCons (gName 5) (gCons (gName 6) gNil))))  rfl sc_items_fit.nd rfl rfl (sw_true rfl rfl rfl (by decide +kernel)) (x_pil (K := K) (pv 1)) (blkOk_by (N := ["logs", "rows", "pushed", "removed", "places", "place", "entry"]) (sc := (defScope s_items_fit)) (by decide +kernel)) (fun _ _ _ _ _ => (x_gt (K := K) (pgs_cons (pg_name (i := 5) sc_items_fit.nd rfl (Or.inl rfl)) (pgs_cons (pg_name (i := 6) sc_items_fit.nd rfl (Or.inl rfl)) pgs_nil)))) (fun _ _ _ _ _ => (pts_one (pt_cmpR (x_in (K := K) rfl) (x_ixt (K := K) (pv 6) pe_int) (pe_tup (pa_cons pe_str (pa_cons pe_str pa_nil))) (by rfl)))) (fun _ _ _ _ _ => (x_ixt (K := K) (pv 6) (pe_un un_neg pe_int))))
      (pss_cons (ps_if (pw_or (pt_cmpR op_lt (pe_lenTx (K := K) rfl rfl (by rfl) T.len (by rfl) T.set (pv 2)) (x_len (K := K) T (pv 2)) (nomark _)) (pw_or1 (pt_cmpR op_lt (pe_lenTx (K := K) rfl rfl (by rfl) T.len (by rfl) T.set (pv 3)) (x_len (K := K) T (pv 3)) (nomark _)))).pt pss_never pss_nil)
      (pss_cons (ps_set (i := 4) sc_items_fit.nd rfl (Or.inr rfl) (pe_fn (G_push_places.mono (by decide)) hr (pa_cons (pv 0) pa_nil)))
      (pss_one (ps_ret (x_all (K := K) T (pe_lc (own := [("place", 5), ("entry", 6)]) (g := (gTup K 2 (gCons (gName 5) (gCons (gName 6) gNil)))) (tt := tYes) rfl sc_items_fit.nd (x_pil (K := K) (pv 1)) (blkOk_by (N := ["logs", "rows", "pushed", "removed", "places", "place", "entry"]) (sc := (defScope s_items_fit)) (by decide +kernel)) (fun _ _ _ _ _ => (x_gt (K := K) (pgs_cons (pg_name (i := 5) sc_items_fit.nd rfl (Or.inl rfl)) (pgs_cons (pg_name (i := 6) sc_items_fit.nd rfl (Or.inl rfl)) pgs_nil)))) (fun _ _ _ _ _ => pts_nil) (fun _ _ _ _ _ => (pe_fn (G_removal_fits.mono (by decide)) hr (pa_cons (pv 4) (pa_cons (pv 5) (pa_cons (pv 6) pa_nil)))))))))))))), ?_⟩
    have ok := v.ok (Nat.le_refl _)
    refine ⟨_, rfl, d, ws, ps, L, rfl, hl, ok.nd, ok.wl, ok.ll, ok.el, fun p as R zs H1 n1 e1 h1 hR hz hso hRt hal => ?_⟩
    have tup : ∀ {H2 : Hp}, Ex H1 H2 → ∀ (i : Nat) (x : V), (as.map V.ref)[i]? = some x → ∃ (a : Addr) (r : RowA), x = .ref a ∧ R[i]? = some r ∧ RowAt H2 a r := fun e2 i x hx => by
      obtain ⟨a, r, rfl, hr, ha⟩ := row_at hR hx
      exact ⟨a, r, rfl, hr, ha.tk (tk_ex e2)⟩
    have kPu : given (as.map V.ref).length (fun i => (R.getD i row0).e.isPu) (fun i => V.str (R.getD i row0).e.it) = (zs.flatMap fun z => pus z.2.2).map V.str := by
      rw [List.length_map, hR.length, given_list R row0 (fun r => r.e.isPu) (fun r => V.str r.e.it), ← rows_pus hRt, List.map_map]
      rfl
    have kRe : given (as.map V.ref).length (fun i => (R.getD i row0).e.isRe) (fun i => V.str (R.getD i row0).e.it) = (zs.flatMap fun z => res z.2.2).map V.str := by
      rw [List.length_map, hR.length, given_list R row0 (fun r => r.e.isRe) (fun r => V.str r.e.it), ← rows_res hRt, List.map_map]
      rfl
    have ndPu := (flat_lgs (f := pus) hl.pl ok.ll hz).nodup_iff.mpr v.pu
    have ndRe := (flat_lgs (f := res) hl.pl ok.ll hz).nodup_iff.mpr v.re
    have lenR : R.length ≤ 360 := by rw [← hR.length]; exact hal
    have lPu : (zs.flatMap fun z => pus z.2.2).length ≤ 4000 := by
      rw [← rows_pus hRt, List.length_map]
      have := List.length_filter_le (fun r : RowA => r.e.isPu) R
      omega
    have lRe : (zs.flatMap fun z => res z.2.2).length ≤ 4000 := by
      rw [← rows_res hRt, List.length_map]
      have := List.length_filter_le (fun r : RowA => r.e.isRe) R
      omega
    have hasl : (as.map V.ref).length ≤ 40000 := by rw [List.length_map]; omega
    dsimp only [gName]
    refine q_asgL (xs := (zs.flatMap fun z => pus z.2.2).map V.str) ?_ fun pl H2 n2 e2 h2 => ?_
    · rw [← kPu]
      refine el_lcG _ _ (fun i => [some (.ref d), some (.ref p), none, none, none, some (.ref (R.getD i row0).b), some (.ref (R.getD i row0).c)]) (ev_var rfl) (sq_of h1) hasl (fun i x hx => ?_) (fun i x hx => ?_) (fun i x hx hf => ?_)
      · obtain ⟨a, r, rfl, hr, ha, hb, hc⟩ := tup (Ex.refl H1) i x hx
        rw [getD_at hr]
        exact ⟨rfl, fun H3 e3 Q' q' => ⟨a, _, rfl, st_of (e3 _ _ ha), rfl, _, _, rfl, _, _, rfl, rfl, q' H3 (Ex.refl H3)⟩⟩
      · obtain ⟨a, r, rfl, hr, ha, hb, hc⟩ := tup (Ex.refl H1) i x hx
        rw [getD_at hr]
        exact et_is (et_test (ev_op (ev_op (ev_var rfl) ev_c (rv_ixT (st_of hc) r.e.at0)) ev_c (rv_eq rfl))) r.e.isPu_eq
      · obtain ⟨a, r, rfl, hr, ha, hb, hc⟩ := tup (Ex.refl H1) i x hx
        rw [getD_at hr] at hf ⊢
        exact ev_op (ev_var rfl) ev_c (rv_ixT (st_of hc) (r.e.at1 hf))
    refine q_asgL (xs := (zs.flatMap fun z => res z.2.2).map V.str) ?_ fun rl H3 n3 e3 h3 => ?_
    · rw [← kRe]
      refine el_lcG _ _ (fun i => [some (.ref d), some (.ref p), some (.ref pl), none, none, some (.ref (R.getD i row0).b), some (.ref (R.getD i row0).c)]) (ev_var rfl) (sq_of (e2 _ _ h1)) hasl (fun i x hx => ?_) (fun i x hx => ?_) (fun i x hx hf => ?_)
      · obtain ⟨a, r, rfl, hr, ha, hb, hc⟩ := tup e2 i x hx
        rw [getD_at hr]
        exact ⟨rfl, fun H3 e3 Q' q' => ⟨a, _, rfl, st_of (e3 _ _ ha), rfl, _, _, rfl, _, _, rfl, rfl, q' H3 (Ex.refl H3)⟩⟩
      · obtain ⟨a, r, rfl, hr, ha, hb, hc⟩ := tup e2 i x hx
        rw [getD_at hr]
        exact et_is (et_test (ev_inU (ev_op (ev_var rfl) ev_c (rv_ixT (st_of hc) r.e.at0)) (eu_tup (ea_cons ev_c (ea_cons ev_c ea_nil)) (by show 2 ≤ 100000; decide)) rfl rfl)) r.e.isRe_eq
      · obtain ⟨a, r, rfl, hr, ha, hb, hc⟩ := tup e2 i x hx
        rw [getD_at hr] at hf ⊢
        exact ev_op (ev_var rfl) (ev_un ev_c ru_neg) (rv_ixT (st_of hc) (r.e.atL hf))
    have h23 := e3 _ _ h2
    refine q_if (b := false) (et_is (et_or (a := false) (b := false) (et_test (ev_is (ev_op (ev_lenTx (ev_var rfl) (sq_of h23) ndPu lPu) (ev_lenA (ev_var rfl) (Or.inl (sq_of h23))) rv_I0) (by rw [List.length_map]; simp)))
      (fun _ => et_test (ev_is (ev_op (ev_lenTx (ev_var rfl) (sq_of h3) ndRe lRe) (ev_lenA (ev_var rfl) (Or.inl (sq_of h3))) rv_I0) (by rw [List.length_map]; simp)))) rfl) (fun z => nomatch z) (fun _ H4 e4 => ?_)
    have E4 := (e2.trans e3).trans e4
    refine ⟨_, rfl, d, ws, ps, L, rfl, hl.ex (e1.trans E4), ok, v.pu, fun pd as2 R2 zs2 H5 n5 e5 h5 hR2 hz2 hso2 hRt2 => ?_⟩
    have E5 := E4.trans e5
    dsimp only [gName]
    refine s_ret (v := .bl true) (ev_is (ev_allN (bs := List.replicate (as.map V.ref).length true) ?_) (by rw [all_rep])) fun H6 e6 => q H6 ((e1.trans E5).trans e6)
    rw [← given_all]
    refine el_lcG _ _ (fun i => [some (.ref d), some (.ref p), some (.ref pl), some (.ref rl), some (.ref pd), some (.ref (R.getD i row0).b), some (.ref (R.getD i row0).c)]) (ev_var rfl) (sq_of (E5 _ _ h1)) hasl (fun i x hx => ?_) (fun i x hx => et_yes) (fun i x hx hf => ?_)
    · obtain ⟨a, r, rfl, hr, ha, hb, hc⟩ := tup E5 i x hx
      rw [getD_at hr]
      exact ⟨rfl, fun H3 e3 Q' q' => ⟨a, _, rfl, st_of (e3 _ _ ha), rfl, _, _, rfl, _, _, rfl, rfl, q' H3 (Ex.refl H3)⟩⟩
    · obtain ⟨a, r, rfl, hr, ha, hb, hc⟩ := tup E5 i x hx
      rw [getD_at hr]
      refine ev_call (ea_cons (ev_var rfl) (ea_cons (ev_var rfl) (ea_cons (ev_var rfl) ea_nil))) (Yes.spv fun H7 e7 Q7 y E => ⟨pd, r.b, r.c, Plc En.isPu R2, r.w, r.i, r.e, rfl, e7 _ _ h5, e7 _ _ hb, e7 _ _ hc, fun hre => ?_, y⟩)
      have hmem : (r.w, r.i, r.e) ∈ Rw zs := by
        rw [← hRt]
        exact List.mem_map.mpr ⟨r, List.mem_of_getElem? hr, rfl⟩
      obtain ⟨r2, m2, g1, g2⟩ := v.fits hl.pl hz hz2 hRt2 hmem hre
      obtain ⟨j, hj⟩ := List.mem_iff_getElem?.mp m2
      obtain ⟨a2, _, f1, f2, f3⟩ := paired_get hR2 hj
      exact ⟨r2.b, r2.w, r2.i, g1, e7 _ _ f2, g2⟩
end
end Vx

set_option Elab.async false
set_option linter.all false
set_option maxRecDepth 100000
set_option maxHeartbeats 8000000
namespace Vx
open PySem PySem.Spec PyProof.Rows L2 Evl
theorem tk_frz {d : Addr} {H : Hp} {kvs : List (Key × V)} {o : HO} (h : H d = some (.dK kvs)) : TK H (upd H d o) := fun a x z => by rw [upd_ne (fun e => by rw [e, h] at z; cases z)]; exact z
theorem TL.frz {d p : Addr} {H : Hp} {kvs : List (Key × V)} {o : HO} {ts : List (List V)} (t : TL H p ts) (h : H d = some (.dK kvs)) : TL (upd H d o) p ts := by
  obtain ⟨as, h1, _⟩ := id t
  exact t.keep (tk_frz h) (upd_ne fun e => by rw [e, h] at h1; cases h1)
/-- all([e for k, v in d.items()]) -/
theorem ev_allItems {K : PySem.W.Frag} {σ : L2.St} {H : Hp} {tl te : TE} {d : Addr} {kvs : List (Key × V)} {j1 j2 : Nat} {vs : List Nat} (hl : ∀ H', Ev tl σ H' (.ref d)) (hd : H d = some (.dK kvs)) (hz : kvs.length < 1000)
    (hw : ∀ x y, wipe (((wipe σ vs).set j1 (some x)).set j2 (some y)) vs = wipe σ vs) (hv : ∀ {H' : Hp}, H' d = H' d → tl (σ) H' = tl σ H')
    (he : ∀ H1, Ex H H1 → ∀ od (i : Nat) k v, kvs[i]? = some (k, v) → Ev te (((wipe σ vs).set j1 (some (kV k))).set j2 (some v)) (upd H1 d (.frz od (.dK kvs))) (.bl true)) :
    Ev (tCB (rAll K) (tCons (tLockE (tLc (iItems tl) (gTup K 2 (gCons (gName j1) (gCons (gName j2) gNil))) tYes te vs)) tNil)) σ H (.bl true) := fun H1 e1 Q q => by
  have hd1 := e1 _ _ hd
  refine ⟨d, .dK kvs, hd1, trivial, fun od => ?_⟩
  have nin : ∀ b o, H1 b = some o → b ≠ d → (upd H1 d (.frz od (.dK kvs))) b = some o := fun b o h n => by rw [upd_ne n]; exact h
  refine hl _ _ (Ex.refl _) _ fun H2 e2 => ⟨d, od, kvs, rfl, e2 _ _ upd_same, fun Dl hD => ?_⟩
  have hf2 : H2 d = some (.frz od (.dK kvs)) := e2 _ _ upd_same
  refine lc_P (B := upd H1 d (.frz od (.dK kvs))) (J := Iti d od kvs) (n := kvs.length) (fun _ v _ => v = .bl true) (by omega) e2 hD (fun i H3 hi e3 => ⟨e3 _ _ hf2, hi⟩) (fun H3 e3 => ⟨e3 _ _ hf2, Nat.le_refl _⟩) (fun i H3 x H4 hi e3 y => ?_) (fun xs H3 e3 h3 kn => ?_)
  · obtain ⟨T, k, v, hkv, rfl, hT, rfl⟩ := y
    exact ⟨_, Ex.new hT, hw _ _, fun Q2 q2 => ⟨T, _, rfl, st_of upd_same, rfl, _, _, rfl, _, _, rfl, rfl, q2 _ (Ex.refl _)⟩, evp_of (he H1 e1 od i k v hkv) fun _ _ => rfl⟩
  · have hx := kn.kn.now e2 e3
    have hf3 := e3 _ _ hf2
    have nD : Dl ≠ d := fun z => by rw [z, hf2] at hD; cases hD
    have : xs = (List.replicate kvs.length true).map V.bl := by
      refine List.ext_getElem? fun i => ?_
      by_cases hi : i < kvs.length
      · have hi2 : i < xs.length := by rw [hx.1]; exact hi
        rw [List.getElem?_map, List.getElem?_replicate, if_pos hi, List.getElem?_eq_getElem hi2, hx.2 i _ (List.getElem?_eq_getElem hi2)]
        rfl
      · rw [List.getElem?_eq_none (by rw [hx.1]; omega), List.getElem?_eq_none (by rw [List.length_map, List.length_replicate]; omega)]
    refine ⟨hf3, Dl, List.replicate kvs.length true, rfl, sq_of ?_, ?_⟩
    · rw [upd_ne nD, ← this]
      exact h3
    · rw [all_rep]
      refine q _ fun b o h => ?_
      by_cases z : b = d
      · rw [z, hd1] at h
        rw [z, upd_same]
        exact h
      · rw [upd_ne z]
        exact e3 _ _ (e2 _ _ (nin b o h z))
/-- the same over a dict that is locked: something else is locked here -/
theorem ev_allItemsZ {K : PySem.W.Frag} {σ : L2.St} {H : Hp} {tl te : TE} {d : Addr} {kvs : List (Key × V)} {j1 j2 : Nat} {vs : List Nat} (hl : ∀ H', Ev tl σ H' (.ref d)) {z : Addr} {zs : List V} {oz : Obj} (hd : H d = some (.frz oz (.dK kvs))) (hzz : H z = some (.lst zs)) (hz : kvs.length < 1000)
    (hw : ∀ x y, wipe (((wipe σ vs).set j1 (some x)).set j2 (some y)) vs = wipe σ vs) (hv : ∀ {H' : Hp}, H' d = H' d → tl (σ) H' = tl σ H')
    (he : ∀ H1, Ex H H1 → ∀ od (i : Nat) k v, kvs[i]? = some (k, v) → Ev te (((wipe σ vs).set j1 (some (kV k))).set j2 (some v)) (upd H1 z (.frz od (.lst zs))) (.bl true)) :
    Ev (tCB (rAll K) (tCons (tLockE (tLc (iItems tl) (gTup K 2 (gCons (gName j1) (gCons (gName j2) gNil))) tYes te vs)) tNil)) σ H (.bl true) := fun H1 e1 Q q => by
  have hd1 := e1 _ _ hd
  have hz1 := e1 _ _ hzz
  have ndz : d ≠ z := fun e => by rw [e, hz1] at hd1; cases hd1
  refine ⟨z, .lst zs, hz1, trivial, fun od => ?_⟩
  have nin : ∀ b o, H1 b = some o → b ≠ z → (upd H1 z (.frz od (.lst zs))) b = some o := fun b o h n => by rw [upd_ne n]; exact h
  refine hl _ _ (Ex.refl _) _ fun H2 e2 => ⟨d, oz, kvs, rfl, e2 _ _ (nin _ _ hd1 ndz), fun Dl hD => ?_⟩
  have hf2 : H2 d = some (.frz oz (.dK kvs)) := e2 _ _ (nin _ _ hd1 ndz)
  have hfz : H2 z = some (.frz od (.lst zs)) := e2 _ _ upd_same
  refine lc_P (B := upd H1 z (.frz od (.lst zs))) (J := Iti d oz kvs) (n := kvs.length) (fun _ v _ => v = .bl true) (by omega) e2 hD (fun i H3 hi e3 => ⟨e3 _ _ hf2, hi⟩) (fun H3 e3 => ⟨e3 _ _ hf2, Nat.le_refl _⟩) (fun i H3 x H4 hi e3 y => ?_) (fun xs H3 e3 h3 kn => ?_)
  · obtain ⟨T, k, v, hkv, rfl, hT, rfl⟩ := y
    exact ⟨_, Ex.new hT, hw _ _, fun Q2 q2 => ⟨T, _, rfl, st_of upd_same, rfl, _, _, rfl, _, _, rfl, rfl, q2 _ (Ex.refl _)⟩, evp_of (he H1 e1 od i k v hkv) fun _ _ => rfl⟩
  · have hx := kn.kn.now e2 e3
    have hf3 := e3 _ _ hfz
    have nD : Dl ≠ z := fun e => by rw [e, hfz] at hD; cases hD
    have : xs = (List.replicate kvs.length true).map V.bl := by
      refine List.ext_getElem? fun i => ?_
      by_cases hi : i < kvs.length
      · have hi2 : i < xs.length := by rw [hx.1]; exact hi
        rw [List.getElem?_map, List.getElem?_replicate, if_pos hi, List.getElem?_eq_getElem hi2, hx.2 i _ (List.getElem?_eq_getElem hi2)]
        rfl
      · rw [List.getElem?_eq_none (by rw [hx.1]; omega), List.getElem?_eq_none (by rw [List.length_map, List.length_replicate]; omega)]
    refine ⟨hf3, Dl, List.replicate kvs.length true, rfl, sq_of ?_, ?_⟩
    · rw [upd_ne nD, ← this]
      exact h3
    · rw [all_rep]
      refine q _ fun b o h => ?_
      by_cases c : b = z
      · rw [c, hz1] at h
        rw [c, upd_same]
        exact h
      · rw [upd_ne c]
        exact e3 _ _ (e2 _ _ (nin b o h c))
def spLogsOk : Sp := fun vs H Q _ => ∃ (d : Addr) (ws : List Str) (ps : List Addr) (L : List (List En)), vs = [.ref d] ∧ HLr H d ws ps L ∧ Vlog 60 ws L ∧ Yes H Q
def spCheck : Sp := fun vs H Q _ => ∃ (d : Addr) (ws : List Str) (ps : List Addr) (L : List (List En)), vs = [.ref d] ∧ HLr H d ws ps L ∧ Vlog 60 ws L ∧ ∀ H', Ex H H' → Q .non H'
theorem dk_at : ∀ {ws : List Str} {ps : List Addr} {i : Nat} {k : Key} {v : V}, (Dk ws ps)[i]? = some (k, v) → ∃ (x : Str) (p : Addr), ws[i]? = some x ∧ ps[i]? = some p ∧ k = .inr x ∧ v = .ref p := by
  intro ws ps i k v h
  unfold Dk at h
  rw [List.getElem?_map] at h
  obtain ⟨z, hz, e⟩ := Option.map_eq_some_iff.mp h
  rw [List.getElem?_zip_eq_some] at hz
  injection e with e1 e2
  exact ⟨z.1, z.2, hz.1, hz.2, e1.symm, e2.symm⟩
section
variable {P : Program} {w : World} {K : PySem.W.Frag} {mg : Str → Option Value} {base : Heap}
theorem sc_is_logs : FnScope ["thing", "worker", "log"] ["thing"] (defScope s_is_logs) := ⟨rfl, rfl, rfl, by decide +kernel, rfl, by decide +kernel, by decide +kernel⟩
theorem ok_is_logs (D : Def K mg "is_logs" s_is_logs ["thing"]) (T : Bl mg) (C : Cs mg) (G_is_name : Good P w K mg base 1 "is_name" ["thing"] spName) (G_is_log : Good P w K mg base 4 "is_log" ["thing"] spIsLog) (G_items_fit : Good P w K mg base 3 "items_fit" ["logs"] spFit) : Good P w K mg base 5 "is_logs" ["thing"] (spLogsOk) := by
  refine D.good sc_is_logs (fun vs H Q E h => ?_) (fun f cdv A outer s H vs Q E hr h => ?_)
  · obtain ⟨d, ws, ps, L, rfl, _⟩ := h
    rfl
  · obtain ⟨d, ws, ps, L, rfl, hl, v, q⟩ := h
    have hu := hu_of hr
    refine ⟨_, (pss_cons (ps_if (pw_or (pt_not (pt_val (x_isi (K := K) "dict" T (pv 0) T.dict))) (pw_or1 (pt_not (pt_chain op_le op_le pe_int (pe_callB call_lenR (by rfl) T.len PySem.boot_len (pa_cons (pv 0) pa_nil)) (x_gint C.MOST_WORKERS))))).pt pss_never pss_nil)
      (pss_cons (ps_if (pt_not (pt_val (x_all (K := K) T (pe_lock (pe_lc (own := [("worker", 1), ("log", 2)]) (g := (gTup K 2 (gCons (gName 1) (gCons (gName 2) gNil)))) (tt := tYes) rfl sc_is_logs.nd (pi_items (pv 0)) (blkOk_by (N := ["thing", "worker", "log"]) (sc := (defScope s_is_logs)) (by decide +kernel)) (fun _ _ _ _ _ => (x_gt (K := K) (pgs_cons (pg_name (i := 1) sc_is_logs.nd rfl (Or.inl rfl)) (pgs_cons (pg_name (i := 2) sc_is_logs.nd rfl (Or.inl rfl)) pgs_nil)))) (fun _ _ _ _ _ => pts_nil) (fun _ _ _ _ _ => (pe_and (pe_fn (G_is_name.mono (by decide)) hr (pa_cons (pv 1) pa_nil)) (pe_one (pe_fn (G_is_log.mono (by decide)) hr (pa_cons (pv 2) pa_nil)))))))))) pss_never pss_nil)
      (pss_one (ps_ret (pe_fn (G_items_fit.mono (by decide)) hr (pa_cons (pv 0) pa_nil)))))), ?_⟩
    have dl : (Dk ws ps).length = ws.length := dk_len hl.pl
    have lenD : ∀ {σ : L2.St} {H2 : Hp}, Ex H H2 → σ[0]? = some (some (.ref d)) → Ev (tCB (fun xs H Q => ∃ (a : Addr) (kvs : List (Key × V)), xs = [V.ref a] ∧ Rd H a (.dK kvs) ∧ Q (.int kvs.length) H) (tCons (tVar 0) tNil)) σ H2 (.int (ws.length : Int)) := fun e2 h0 H3 e3 Q3 q3 =>
      ⟨_, h0, d, _, rfl, ex_rd (e2.trans e3) hl.rd, by rw [dl]; exact q3 H3 (Ex.refl _)⟩
    refine s_if (b := false) (et_is (et_or (a := false) (b := false) (et_not (a := true) (et_B (ev_isI rfl (ty_dict (hl.rd)) rfl))) (fun _ => et_not (a := true) (et_test (ev_chain ev_c (lenD (Ex.refl H) rfl) ev_c (rv_b rv_I0 ?_) (rv_b rv_I0 ?_))))) rfl) (fun z => nomatch z) (fun _ H1 e1 => ?_)
    · have := v.wk.1
      simp
      omega
    · have := v.wk.2.1
      simp
      omega
    have hl1 := hl.ex e1
    have body : ∀ {H2 HF : Hp} {i : Nat} {k : Key} {u : V}, (Dk ws ps)[i]? = some (k, u) → (∀ p es, ps[i]? = some p → L[i]? = some es → TL HF p (es.map En.vs)) → Ev (tAndV (tCall spName [] E0 (tCons (tVar 1) tNil)) (tCall spIsLog [] E0 (tCons (tVar 2) tNil))) [some (.ref d), some (kV k), some u] HF (.bl true) := fun {H2 HF i k u} hk ht => by
      obtain ⟨x, p, g1, g2, rfl, rfl⟩ := dk_at hk
      have hiL : i < L.length := by rw [v.len]; exact (List.getElem?_eq_some_iff.mp g1).1
      have g3 := List.getElem?_eq_getElem hiL
      have tl := ht p _ g2 g3
      exact ev_andV (a := true) (b := true) (ev_call (ea_cons (ev_var rfl) ea_nil) (Yes.spv fun H3 e3 Q3 y E => ⟨x, rfl, v.wk.2.2.2 x (List.mem_of_getElem? g1), y⟩)) (fun _ => ev_call (ea_cons (ev_var rfl) ea_nil) (Yes.spv fun H3 e3 Q3 y E => ⟨p, L[i], rfl, tl.ex e3, v.ent _ (List.mem_of_getElem? g3), y⟩))
    have z1000 : (Dk ws ps).length < 1000 := by rw [dl]; have := v.wk.2.1; omega
    have all : Ev (tCB (rAll K) (tCons (tLockE (tLc (iItems (tVar 0)) (gTup K 2 (gCons (gName 1) (gCons (gName 2) gNil))) tYes (tAndV (tCall spName [] E0 (tCons (tVar 1) tNil)) (tCall spIsLog [] E0 (tCons (tVar 2) tNil))) [1, 2])) tNil)) [some (.ref d), none, none] H1 (.bl true) := by
      rcases hl1.dk with hd | ⟨⟨oz, hd⟩, z, zs, hz, nz⟩
      · exact ev_allItems (fun _ => ev_var rfl) hd z1000 (fun _ _ => rfl) (fun _ => rfl) (fun H2 e2 od i k u hk => body (H2 := H2) hk fun p es a b => ((hl1.ex e2).lg i p es a b).frz (e2 _ _ hd))
      · exact ev_allItemsZ (fun _ => ev_var rfl) hd hz z1000 (fun _ _ => rfl) (fun _ => rfl) (fun H2 e2 od i k u hk => body (H2 := H2) hk fun p es a b => ((hl1.ex e2).lg i p es a b).frzL (e2 _ _ hz) fun e => nz (by rw [← e]; exact List.mem_of_getElem? a))
    refine s_if (b := false) (et_not (a := true) (et_B all)) (fun z => nomatch z) (fun _ H2 e2 => ?_)
    exact s_ret (ev_call (ea_cons (ev_var rfl) ea_nil) (Yes.spv fun H3 e3 Q3 y E => ⟨d, ws, ps, L, rfl, (hl1.ex e2).ex e3, v, y⟩)) fun H3 e3 => q H3 ((e1.trans e2).trans e3)
theorem sc_check_logs : FnScope ["logs"] ["logs"] (defScope s_check_logs) := ⟨rfl, rfl, rfl, by decide +kernel, rfl, by decide +kernel, by decide +kernel⟩
theorem ok_check_logs (D : Def K mg "check_logs" s_check_logs ["logs"]) (T : Bl mg) (G_is_logs : Good P w K mg base 5 "is_logs" ["thing"] spLogsOk) : Good P w K mg base 6 "check_logs" ["logs"] (spCheck) := by
  refine D.good sc_check_logs (fun vs H Q E h => ?_) (fun f cdv A outer s H vs Q E hr h => ?_)
  · obtain ⟨d, ws, ps, L, rfl, _⟩ := h
    rfl
  · obtain ⟨d, ws, ps, L, rfl, hl, v, q⟩ := h
    have hu := hu_of hr
    refine ⟨_, (pss_one (ps_if (pt_not (pt_val (pe_fn (G_is_logs.mono (by decide)) hr (pa_cons (pv 0) pa_nil)))) pss_never pss_nil)), ?_⟩
    exact s_if (b := false) (et_not (a := true) (et_B (ev_call (ea_cons (ev_var rfl) ea_nil) (Yes.spv fun H3 e3 Q3 y E => ⟨d, ws, ps, L, rfl, hl.ex e3, v, y⟩)))) (fun z => nomatch z) (fun _ H1 e1 => q H1 e1)
end
end Vx

set_option Elab.async false
set_option linter.all false
set_option maxRecDepth 100000
set_option maxHeartbeats 8000000
namespace Vx
open PySem PySem.Spec PyProof.Rows L2 Evl
def lastScope (b : List Stmt) (outer : Scope) : Scope := match b.getLast? with
  | some (.Return (some (.DictComp _ _ _ sc _)) _) => { sc with names := sc.names.map fun (n, k) => if (k == NameKind.free && outer.kind == .function && outer.names.lookup n == some .cell) then (n, NameKind.cell) else (n, k) }
  | _ => outer
/-- the items of a log that no entry removes -/
def leftOf (L : List (List En)) (es : List En) : List Str := (pus es).filter fun x => decide (¬ x ∈ L.flatMap res)
def spLeft : Sp := fun vs H Q _ => ∃ (d : Addr) (ws : List Str) (ps : List Addr) (L : List (List En)), vs = [.ref d] ∧ HLr H d ws ps L ∧ Vlog 60 ws L ∧
  ∀ (f : Addr) (zs : List Lg) (qs : List Addr) H', H f = none → Ex H H' → zs.Perm (lgs ws ps L) → sortedS (zs.map (·.1)) = true → H' f = some (.dK (Dk (zs.map (·.1)) qs)) → qs.length = zs.length → qs.Nodup → (∀ r ∈ qs, H r = none) →
    (∀ (i : Nat) z r, zs[i]? = some z → qs[i]? = some r → H' r = some (.lst ((leftOf L z.2.2).map V.str))) → Q (.ref f) H'
theorem plc_has {p : En → Bool} {R : List RowA} {x : Str} : (valV (Plc p R) (.inr x)).isSome = decide (x ∈ (R.filter fun r => p r.e).map (·.e.it)) := by
  rw [← valV_any]
  have : (Plc p R).any (fun kv => decide (kv.1 = Sum.inr x)) = true ↔ x ∈ (R.filter fun r => p r.e).map (·.e.it) := by
    rw [List.any_eq_true]
    constructor
    · rintro ⟨kv, h1, h2⟩
      unfold Plc at h1
      obtain ⟨r, h3, rfl⟩ := List.mem_map.mp h1
      have h2 := Sum.inr.inj (of_decide_eq_true h2)
      exact List.mem_map.mpr ⟨r, h3, h2⟩
    · intro h
      obtain ⟨r, h3, h4⟩ := List.mem_map.mp h
      exact ⟨_, List.mem_map.mpr ⟨r, h3, rfl⟩, by simp [h4]⟩
  cases h : (Plc p R).any (fun kv => decide (kv.1 = Sum.inr x)) with
  | true => exact (decide_eq_true (this.mp h)).symm
  | false => exact (decide_eq_false (fun z => by rw [this.mpr z] at h; cases h)).symm
theorem dk_snoc {ws : List Str} {ps : List Addr} {x : Str} {p : Addr} (h : ps.length = ws.length) : Dk (ws ++ [x]) (ps ++ [p]) = Dk ws ps ++ [(.inr x, .ref p)] := by
  unfold Dk
  rw [List.zip_append h.symm, List.map_append]
  rfl
section
variable {P : Program} {w : World} {K : PySem.W.Frag} {mg : Str → Option Value} {base : Heap}
theorem sc_left_items : FnScope ["logs", "places", "worker", "item"] ["logs"] (defScope s_left_items) := ⟨rfl, rfl, rfl, by decide +kernel, rfl, by decide +kernel, by decide +kernel⟩
theorem ok_left_items (D : Def K mg "left_items" s_left_items ["logs"]) (T : Bl mg) (G_check_logs : Good P w K mg base 6 "check_logs" ["logs"] spCheck) (G_removal_places : Good P w K mg base 2 "removal_places" ["logs"] (spPlc En.isRe res)) (G_pushed_items : Good P w K mg base 1 "pushed_items" ["log"] spPushed) : Good P w K mg base 7 "left_items" ["logs"] (spLeft) := by
  refine D.good sc_left_items (fun vs H Q E h => ?_) (fun f cdv A outer s H vs Q E hr h => ?_)
  · obtain ⟨d, ws, ps, L, rfl, _⟩ := h
    rfl
  · obtain ⟨d, ws, ps, L, rfl, hl, v, q⟩ := h
    have hu := hu_of hr
    refine ⟨_, (pss_cons (ps_expr (pe_fn (G_check_logs.mono (by decide)) hr (pa_cons (pv 0) pa_nil)))
      (pss_cons (ps_set (i := 1) sc_left_items.nd rfl (Or.inr rfl) (pe_fn (G_removal_places.mono (by decide)) hr (pa_cons (pv 0) pa_nil)))
      (pss_one (ps_ret (pe_dc (own := [("worker", 2)]) (g := (gName 2)) (tt := tYes) rfl sc_left_items.nd (x_pil (K := K) (pe_callB (call_sortedD rfl) (by rfl) T.sorted (by decide +kernel) (pa_cons (pv 0) pa_nil))) (blkOk_by (N := ["logs", "places", "worker", "item"]) (sc := (defScope s_left_items)) (by decide +kernel)) (fun _ _ _ _ _ => (pg_name (i := 2) sc_left_items.nd rfl (Or.inl rfl))) (fun _ _ _ _ _ => pts_nil) (fun _ _ _ _ _ => (pv 2)) (fun _ _ _ _ _ => (pe_lc (own := [("item", 3)]) (g := (gName 3))  rfl sc_left_items.nd (x_pil (K := K) (pe_fn (G_pushed_items.mono (by decide)) hr (pa_cons (pe_dget hu (pv 0) (pv 2) (fun _ _ => rfl)) pa_nil))) (blkOk_by (N := ["logs", "places", "worker", "item"]) (sc := (lastScope (defBody s_left_items) (defScope s_left_items))) (by decide +kernel)) (fun _ _ _ _ _ => (pg_name (i := 3) sc_left_items.nd rfl (Or.inl rfl))) (fun _ _ _ _ _ => (pts_one (pt_cmp (pc_dnotin hu (pv 3) (pv 1))))) (fun _ _ _ _ _ => (pv 3))))))))), ?_⟩
    have ok := v.ok (Nat.le_refl _)
    refine ⟨_, rfl, d, ws, ps, L, rfl, hl, v, fun H1 e1 => ?_⟩
    refine ⟨_, rfl, d, ws, ps, L, rfl, hl.ex e1, ok, v.re, fun pd as R zs1 H2 n2 e2 hpd hR hz1 hso1 hRt1 => ?_⟩
    have hrem : ∀ x, (valV (Plc En.isRe R) (.inr x)).isSome = decide (x ∈ L.flatMap res) := fun x => by
      rw [plc_has, rows_res hRt1]
      have := (flat_lgs (f := res) hl.pl ok.ll hz1).mem_iff (a := x)
      exact decide_eq_decide.mpr this
    have hl2 := hl.ex (e1.trans e2)
    have hkeys := dk_keys (ws := ws) hl.pl
    refine ⟨.ref d, rfl, d, Dk ws ps, ws, rfl, hl2.rd, hkeys, by have := ok.wl; omega, fun ys p0 hpm hso n0 => ?_⟩
    obtain ⟨zs, hz, hz2⟩ := perm_lift (fun z : Lg => z.1) hpm (lgs_names hl.pl ok.ll)
    subst hz2
    have zl : zs.length ≤ 6 := by
      have := hpm.length_eq
      rw [List.length_map] at this
      have := ok.wl
      omega
    have znd : (zs.map (·.1)).Nodup := hpm.nodup_iff.mpr ok.nd
    have e0 : Ex H2 (upd H2 p0 (.lst ((zs.map (·.1)).map V.str))) := Ex.new n0
    generalize hH0 : upd H2 p0 (.lst ((zs.map (·.1)).map V.str)) = H0 at e0
    have h0 : H0 p0 = some (.lst ((zs.map (·.1)).map V.str)) := by rw [← hH0]; exact upd_same
    clear hH0
    have EH0 := (e1.trans e2).trans e0
    refine ⟨p0, rfl, ⟨_, sq_of h0⟩, fun Dl hD => ?_⟩
    let Iv : Nat → Hp → Prop := fun i H' => Ex H0 H' ∧ ∃ qs : List Addr, H' Dl = some (.dK (Dk ((zs.take i).map (·.1)) qs)) ∧ qs.length = i ∧ qs.Nodup ∧ (∀ r ∈ qs, H0 r = none) ∧
      ∀ (j : Nat) z r, zs[j]? = some z → qs[j]? = some r → H' r = some (.lst ((leftOf L z.2.2).map V.str))
    refine ⟨fun i m H' => m = zs.length - i ∧ i ≤ zs.length ∧ Iv i H', ⟨zs.length, rfl, Nat.zero_le _, Ex.new hD, [], upd_same, rfl, List.nodup_nil, fun _ h => (by cases h), fun j z r _ h => (by simp at h)⟩, ?_⟩
    rintro i m H3 ⟨rfl, hi, e3, qs, hDl, hql, hqn, hq0, hqv⟩
    rcases Nat.lt_or_ge i zs.length with hlt | hge
    · have hzi : zs[i]? = some zs[i] := List.getElem?_eq_getElem hlt
      generalize zs[i] = z at hzi
      have hxi : ((zs.map (·.1)).map V.str)[i]? = some (.str z.1) := by rw [List.getElem?_map, List.getElem?_map, hzi]; rfl
      obtain ⟨k, k1, k2, k3⟩ := lgs_at (hz.mem_iff.mp (List.mem_of_getElem? hzi))
      have es60 := ok.el _ (List.mem_of_getElem? k3)
      refine .inr ⟨⟨_, _, sq_of (e3 _ _ h0), hxi⟩, fun H' => Iv (i + 1) H', fun H' p' => ⟨zs.length - (i + 1), by omega, rfl, hlt, p'⟩, fun x H3 y => ?_⟩
      obtain ⟨rfl, y⟩ := y
      have hx := y _ (sq_of (e3 _ _ h0))
      rw [hxi] at hx
      cases hx
      have hl3 := hl.ex (EH0.trans e3)
      have dg := dget_r (k := .inr z.1) hl3.rd
      rw [dk_get ok.nd k1 k2] at dg
      have pl60 : (pus z.2.2).length ≤ 60 := Nat.le_trans (pus_len _) es60
      refine ⟨rfl, ?_⟩
      have xat : ∀ (j : Nat) x, ((pus z.2.2).map V.str)[j]? = some x → ∃ y : Str, x = .str y ∧ (pus z.2.2)[j]? = some y := fun j x hx => by
        rw [List.getElem?_map] at hx
        obtain ⟨y, hy, rfl⟩ := Option.map_eq_some_iff.mp hx
        exact ⟨y, rfl, hy⟩
      have hpd3 : H3 pd = some (.dK (Plc En.isRe R)) := e3 _ _ (e0 _ _ hpd)
      have key : given ((pus z.2.2).map V.str).length (fun j => decide (¬ (pus z.2.2).getD j "" ∈ L.flatMap res)) (fun j => V.str ((pus z.2.2).getD j "")) = (leftOf L z.2.2).map V.str := by
        rw [List.length_map]
        exact given_list (pus z.2.2) "" (fun x => decide (¬ x ∈ L.flatMap res)) V.str
      have hev : EvL (tLc (iList K (tCall spPushed [] E0 (tCons (tDGet (tVar 0) (tVar 2)) tNil))) (gName 3) (tB (tDNotIn (tVar 3) (tVar 1))) (tVar 3) [3]) [some (.ref d), some (.ref pd), some (.str z.1), none] H3 ((leftOf L z.2.2).map V.str) := by
        rw [← key]
        refine el_lcNG (fun j => decide (¬ (pus z.2.2).getD j "" ∈ L.flatMap res)) (fun j => .str ((pus z.2.2).getD j "")) (fun j => [some (.ref d), some (.ref pd), some (.str z.1), some (.str ((pus z.2.2).getD j ""))]) ?_ (by rw [List.length_map]; omega) (fun j x hx => ?_) (fun j x hx => ?_) (fun j x hx hf => ?_)
        · exact el_call (vs := [.ref z.2.1]) (ea_cons (ev_dgetQ (ev_var rfl) (ev_var rfl) hl3.rd (dk_get ok.nd k1 k2)) ea_nil) fun H4 e4 Q4 q4 E4 => ⟨z.2.1, z.2.2, rfl, (hl3.lg k _ _ k2 k3).ex e4, es60, fun r H5 n5 e5 h5 => q4 r H5 n5 e5 h5⟩
        · obtain ⟨y, rfl, hy⟩ := xat j x hx
          rw [getD_at hy]
          exact ⟨rfl, fun H6 e6 Q' q' => q' H6 (Ex.refl _)⟩
        · obtain ⟨y, rfl, hy⟩ := xat j x hx
          rw [getD_at hy]
          refine et_is (et_B (ev_dni (ev_var rfl) (ev_var rfl) hpd3 rfl)) ?_
          rw [hrem, decide_not]
        · obtain ⟨y, rfl, hy⟩ := xat j x hx
          rw [getD_at hy]
          exact ev_var rfl
      refine ⟨_, rfl, hev H3 (Ex.refl _) _ fun r H5 n5 e35 h5 => ?_⟩
      · have n35 : H3 r = none := n5
        have hD5 := e35 _ _ hDl
        have nr : r ≠ Dl := fun z2 => by rw [z2, hDl] at n35; cases n35
        have take1 : (zs.take (i + 1)).map (·.1) = (zs.take i).map (·.1) ++ [z.1] := by
          have : zs.take (i + 1) = zs.take i ++ [z] := by
            rw [List.take_add_one, hzi]
            rfl
          rw [this, List.map_append]
          rfl
        have lenq : qs.length = ((zs.take i).map (·.1)).length := by rw [List.length_map, List.length_take, hql]; omega
        have nnew : ¬ z.1 ∈ (zs.take i).map (·.1) := fun hm => by
          have h6 : ((zs.take (i + 1)).map (·.1)).Nodup := by
            rw [List.map_take]
            exact (List.take_sublist _ _).nodup znd
          rw [take1] at h6
          exact (List.nodup_append.mp h6).2.2 _ hm _ (List.mem_singleton.mpr rfl) rfl
        refine ⟨Dk ((zs.take i).map (·.1)) qs, .inr z.1, rfl, hD5, sz_lt (by rw [dk_len lenq, ← lenq, hql]; omega), ?_⟩
        rw [put_new (fun p hp e => by
          have h7 : p.1 ∈ (Dk ((zs.take i).map (·.1)) qs).map (·.1) := List.mem_map.mpr ⟨p, hp, rfl⟩
          rw [dk_keys lenq, e] at h7
          obtain ⟨x, hx, hx2⟩ := List.mem_map.mp h7
          exact nnew (by rw [← Sum.inr.inj hx2]; exact hx))]
        refine ⟨Ex.mut (e3.trans e35) hD, qs ++ [r], by rw [upd_same, take1, dk_snoc lenq], by rw [List.length_append, hql]; rfl, ?_, ?_, ?_⟩
        · refine List.nodup_append.mpr ⟨hqn, by simp, fun a ha b hb e => ?_⟩
          have hb : b = r := by simpa using hb
          subst hb e
          obtain ⟨j, hj⟩ := List.mem_iff_getElem?.mp ha
          have hj2 : j < zs.length := by have := (List.getElem?_eq_some_iff.mp hj).1; omega
          have := hqv j _ _ (List.getElem?_eq_getElem hj2) hj
          rw [n35] at this
          cases this
        · intro b hb
          rcases List.mem_append.mp hb with hb | hb
          · exact hq0 b hb
          · have : b = r := by simpa using hb
            subst this
            exact fresh_back e3 n35
        · intro j z2 r2 h6 h7
          by_cases hj : j < qs.length
          · rw [List.getElem?_append_left hj] at h7
            have h8 := hqv j z2 r2 h6 h7
            have n8 : r2 ≠ Dl := fun z3 => by rw [z3, hDl] at h8; cases h8
            rw [upd_ne n8]
            exact e35 _ _ h8
          · rw [List.getElem?_append_right (by omega)] at h7
            have hz0 : j - qs.length = 0 := by
              have := (List.getElem?_eq_some_iff.mp h7).1
              simp at this
              omega
            rw [hz0] at h7
            have h9 : r = r2 := by simpa using h7
            subst h9
            have hji : j = i := by omega
            subst hji
            rw [hzi] at h6
            cases h6
            rw [upd_ne nr]
            exact h5
    · have : i = zs.length := by omega
      subst this
      rw [List.take_length] at hDl
      refine .inl ⟨⟨_, sq_of (e3 _ _ h0), by rw [List.length_map, List.length_map]; exact Nat.le_refl _⟩, ?_⟩
      exact q Dl zs qs H3 (fresh_back EH0 hD) (EH0.trans e3) hz hso hDl hql hqn (fun r hr => fresh_back EH0 (hq0 r hr)) hqv
end
end Vx

set_option Elab.async false
set_option linter.all false
set_option maxRecDepth 100000
set_option maxHeartbeats 8000000
namespace Vx
open PySem PySem.Spec PyProof.Rows L2 Evl
/-- dict([(name, e) for name in names]), e a new list -/
theorem ev_rowsC {K : PySem.W.Frag} {σ : L2.St} {H : Hp} {tl te2 : TE} {j : Nat} {vs : List Nat} {Q : VK} (F : Addr → List Str → Hp → Prop) (C : Str → List V)
    (htl : ∀ R : VK, (∀ pw names H1, F pw names H1 → H1 pw = some (.lst (names.map V.str)) → names.Nodup → names.length ≤ 1000 → R (.ref pw) H1) → tl σ H R)
    (hj : ∀ x, ((wipe σ vs).set j (some x))[j]? = some (some x)) (hwp : ∀ x, wipe ((wipe σ vs).set j (some x)) vs = wipe σ vs)
    (he : ∀ pw names H1, F pw names H1 → ∀ (i : Nat) x, names[i]? = some x → EvL te2 ((wipe σ vs).set j (some (.str x))) H1 (C x))
    (q : ∀ pw names H1 d ps H2, F pw names H1 → H1 d = none → Ex H1 H2 → H2 d = some (.dK (Dk names ps)) → ps.length = names.length → ps.Nodup → (∀ (i : Nat) p x, ps[i]? = some p → names[i]? = some x → H1 p = none ∧ H2 p = some (.lst (C x))) → Q (.ref d) H2) :
    tCB (rDictP K) (tCons (tLc (iList K tl) (gName j) tYes (tTup (tCons (tVar j) (tCons te2 tNil))) vs) tNil) σ H Q := by
  refine htl _ fun pw names H1 hF hw1 nd hl => ⟨pw, rfl, ⟨_, sq_of hw1⟩, fun Dl hD => ?_⟩
  have nwD : pw ≠ Dl := ne_of_none hw1 hD
  refine lc_list (xs := names.map V.str) (fun i H' => Ex H1 H' ∧ ∃ as ps : List Addr, H' Dl = some (.lst (as.map V.ref)) ∧ as.length = i ∧ ps.length = i ∧ ps.Nodup ∧ (∀ (k : Nat) p x, ps[k]? = some p → names[k]? = some x → H1 p = none ∧ p ≠ Dl ∧ H' p = some (.lst (C x))) ∧ Paired (fun a (x : Key × V) => H' a = some (.tup [kV x.1, x.2])) as (Dk (names.take i) ps))
    ⟨Ex.new hD, [], [], upd_same, rfl, rfl, List.nodup_nil, fun _ _ _ z => (by simp at z), by simpa [Dk] using Paired.nil⟩ (fun i H' _ p => sq_of (p.1 _ _ hw1)) (fun i x H' hx p => ?_) (fun H' p => ?_)
  · obtain ⟨e2, as, ps, ha, hlen, n1, n2, n3, hp⟩ := p
    rw [List.getElem?_map] at hx
    obtain ⟨z, hz, rfl⟩ := Option.map_eq_some_iff.mp hx
    have hi : i < names.length := (List.getElem?_eq_some_iff.mp hz).1
    refine ⟨hwp _, ?_⟩
    refine ⟨_, hj _, he pw names H1 hF i z hz H' e2 _ fun p0 H3 hp0 e3 h3 => ⟨(by show 2 ≤ sizeLine; decide), fun t ht => ⟨as.map V.ref, ?_, ?_, ?_⟩⟩⟩
    all_goals have n0 : Dl ≠ p0 := ne_of_none ha hp0
    all_goals have n4 : Dl ≠ t := ne_of_none (e3 _ _ ha) ht
    · rw [upd_ne n4]
      exact e3 _ _ ha
    · rw [List.length_map]
      exact sz_lt (by omega)
    · have n5 : p0 ≠ t := ne_of_none h3 ht
      have tk : TK H' (upd (upd H3 t (.tup [.str z, .ref p0])) Dl (.lst (as.map V.ref ++ [.ref t]))) := ((tk_ex e3).trans (tk_new ht)).trans (tk_upd (by rw [upd_ne n4]; exact e3 _ _ ha))
      refine ⟨Ex.mut ((e2.trans e3).trans (Ex.new ht)) hD, as ++ [t], ps ++ [p0], by rw [upd_same, List.map_append]; rfl, by rw [List.length_append, hlen]; rfl, by rw [List.length_append, n1]; rfl, ?_, ?_, ?_⟩
      · refine List.nodup_append.mpr ⟨n2, by simp, fun a h1 b h2 e => ?_⟩
        have : b = p0 := by simpa using h2
        subst this e
        obtain ⟨k, hk⟩ := List.mem_iff_getElem?.mp h1
        have hk2 : k < names.length := by have := (List.getElem?_eq_some_iff.mp hk).1; omega
        have := (n3 k _ _ hk (List.getElem?_eq_getElem hk2)).2.2
        rw [hp0] at this
        cases this
      · intro k p x hk hx2
        by_cases hkl : k < ps.length
        · rw [List.getElem?_append_left hkl] at hk
          obtain ⟨g1, g2, g3⟩ := n3 k p x hk hx2
          have g4 := e3 _ _ g3
          refine ⟨g1, g2, ?_⟩
          rw [upd_ne g2, upd_ne (ne_of_none g4 ht)]
          exact g4
        · rw [List.getElem?_append_right (by omega)] at hk
          have hz0 : k - ps.length = 0 := by
            have := (List.getElem?_eq_some_iff.mp hk).1
            simp at this
            omega
          rw [hz0] at hk
          have hp2 : p0 = p := by simpa using hk
          subst hp2
          have hki : k = i := by omega
          subst hki
          rw [hz] at hx2
          cases hx2
          refine ⟨fresh_back e2 hp0, n0.symm, ?_⟩
          rw [upd_ne n0.symm, upd_ne n5]
          exact h3
      · have e5 : Dk (names.take (i + 1)) (ps ++ [p0]) = Dk (names.take i) ps ++ [(.inr z, .ref p0)] := by
          have : names.take (i + 1) = names.take i ++ [z] := by
            rw [List.take_add_one, hz]
            rfl
          rw [this, dk_snoc (by rw [List.length_take, n1]; omega)]
        rw [e5]
        refine Paired.snoc (paired_imp (fun a x z => tk _ _ z) hp) ?_
        rw [upd_ne n4.symm, upd_same]
        rfl
  · obtain ⟨e2, as, ps, ha, hlen, n1, n2, n3, hp⟩ := p
    rw [List.length_map] at n1
    rw [List.length_map, List.take_length] at hp
    refine ⟨Dl, as, Dk names ps, rfl, sq_of ha, paired_imp (fun a x z => st_of z) hp, fun d hd => ?_⟩
    rw [merge_dk n1 nd]
    refine q pw names H1 d ps _ hF (fresh_back e2 hd) (e2.trans (Ex.new hd)) upd_same n1 n2 fun k p x hk hx => ?_
    obtain ⟨g1, g2, g3⟩ := n3 k p x hk hx
    exact ⟨g1, by rw [upd_ne (ne_of_none g3 hd)]; exact g3⟩
theorem s_rowsC {K : PySem.W.Frag} {D : Ends} {σ : L2.St} {H : Hp} {tl te2 : TE} {j : Nat} {vs : List Nat} (F : Addr → List Str → Hp → Prop) (C : Str → List V)
    (htl : ∀ R : VK, (∀ pw names H1, F pw names H1 → H1 pw = some (.lst (names.map V.str)) → names.Nodup → names.length ≤ 1000 → R (.ref pw) H1) → tl σ H R)
    (hj : ∀ x, ((wipe σ vs).set j (some x))[j]? = some (some x)) (hwp : ∀ x, wipe ((wipe σ vs).set j (some x)) vs = wipe σ vs)
    (he : ∀ pw names H1, F pw names H1 → ∀ (i : Nat) x, names[i]? = some x → EvL te2 ((wipe σ vs).set j (some (.str x))) H1 (C x))
    (q : ∀ pw names H1 d ps H2, F pw names H1 → H1 d = none → Ex H1 H2 → H2 d = some (.dK (Dk names ps)) → ps.length = names.length → ps.Nodup → (∀ (i : Nat) p x, ps[i]? = some p → names[i]? = some x → H1 p = none ∧ H2 p = some (.lst (C x))) → D.rt (.ref d) H2) :
    tRet (tCB (rDictP K) (tCons (tLc (iList K tl) (gName j) tYes (tTup (tCons (tVar j) (tCons te2 tNil))) vs) tNil)) D σ H := ev_rowsC F C htl hj hwp he q
/-- what stands in the log of x -/
def cont (H : Hp) (ws : List Str) (ps : List Addr) (x : Str) : List V := match valV (Dk ws ps) (.inr x) with
  | some (.ref p) => (match H p with | some (.lst xs) => xs | _ => [])
  | _ => []
theorem zip_self {α β : Type} : ∀ T : List (α × β), (T.map (·.1)).zip (T.map (·.2)) = T
  | [] => rfl
  | t :: T => by
    rw [List.map_cons, List.map_cons, List.zip_cons_cons, zip_self T]
/-- logs the same, the names in another order -/
def Same (ws : List Str) (L : List (List En)) (ws2 : List Str) (L2 : List (List En)) : Prop := ws2.length = ws.length ∧ L2.length = ws2.length ∧ (ws2.zip L2).Perm (ws.zip L)
def spTurned (K : PySem.W.Frag) : Sp := fun vs H Q _ => ∃ (s d : Addr) (n : Nat) (ws : List Str) (ps : List Addr) (L : List (List En)), vs = [.ref s, .ref d] ∧ Src H s n ∧ n + 10 ≤ 1000000000 ∧ HL H d ws ps L ∧ (∀ p ∈ ps, p ≠ s) ∧ LgOk ws L ∧
  ∀ d2 ws2 ps2 L2 H', H d2 = none → KB s H H' → Src H' s (n + 10) → HL H' d2 ws2 ps2 L2 → (∀ p ∈ ps2, H p = none) → ps2.Nodup → Same ws L ws2 L2 → Q (.ref d2) H'
section
variable {P : Program} {w : World} {K : PySem.W.Frag} {mg : Str → Option Value} {base : Heap}
end
end Vx

set_option Elab.async false
set_option linter.all false
set_option maxRecDepth 100000
set_option maxHeartbeats 8000000
namespace Vx
open PySem PySem.Spec PyProof.Rows L2 Evl
theorem ev_dgetR {σ : L2.St} {H : Hp} {td ty : TE} {d : Addr} {kvs : List (Key × V)} {x : Str} {v : V} (h1 : Ev td σ H (.ref d)) (h2 : Ev ty σ H (.str x)) (hd : Rd H d (.dK kvs)) (hv : valV kvs (.inr x) = some v) : Ev (tDGet td ty) σ H v := fun H1 e Q q =>
  h1 H1 e _ fun H2 e2 => h2 H2 (e.trans e2) _ fun H3 e3 => ⟨d, v, rfl, .inl ⟨kvs, .inr x, ex_rd (e.trans (e2.trans e3)) hd, rfl, hv.symm⟩, q H3 (e2.trans e3)⟩
def spDue : Sp := fun vs H Q _ => ∃ (d : Addr) (ws : List Str) (ps : List Addr) (L : List (List En)), vs = [.ref d] ∧ HL H d ws ps L ∧ LgOk ws L ∧
  ∀ (f : Addr) (zs : List Lg) (qs : List Addr) H', H f = none → Ex H H' → zs.Perm (lgs ws ps L) → sortedS (zs.map (·.1)) = true → H' f = some (.dK (Dk (zs.map (·.1)) qs)) → qs.length = zs.length →
    (∀ (i : Nat) z r, zs[i]? = some z → qs[i]? = some r → H' r = some (.lst ((leftOf L z.2.2).map V.str))) → Q (.ref f) H'
theorem inV_strs (y : Str) (xs : List Str) : inV (V.str y) (xs.map V.str) = decide (y ∈ xs) := by
  unfold inV
  rw [List.any_map]
  by_cases h : y ∈ xs
  · rw [decide_eq_true h, List.any_eq_true]
    exact ⟨y, h, by show (y == y) = true; simp⟩
  · rw [decide_eq_false h, List.any_eq_false]
    intro z hz
    show ¬ (z == y) = true
    intro e
    have : z = y := by simpa using e
    exact h (this ▸ hz)
theorem flat_strs (xs : List Str) : (xs.map V.str).all flatV = true := by
  rw [List.all_map, List.all_eq_true]
  intro x _
  rfl
theorem En.atN {e : En} (h : e.isRe = true) : atI e.vs ((e.vs.length : Int) - 1) = some (.str e.it) := by cases e <;> first | rfl | cases h
theorem res_len (es : List En) : (res es).length ≤ es.length := by
  rw [res_eq, List.length_map]
  exact List.length_filter_le _ _
theorem tl_at {H : Hp} {p : Addr} {es : List En} {as : List Addr} (h2 : Paired (fun a t => H a = some (.tup t)) as (es.map En.vs)) {i : Nat} {x : V} (hx : (as.map V.ref)[i]? = some x) : ∃ (a : Addr) (e : En), x = .ref a ∧ es[i]? = some e ∧ H a = some (.tup e.vs) := by
  rw [List.getElem?_map] at hx
  obtain ⟨b, hb, rfl⟩ := Option.map_eq_some_iff.mp hx
  have hi : i < es.length := by
    have := (List.getElem?_eq_some_iff.mp hb).1
    rw [h2.length, List.length_map] at this
    exact this
  obtain ⟨c, hc, hd⟩ := paired_get h2 (i := i) (y := (es[i]).vs) (by rw [List.getElem?_map, List.getElem?_eq_getElem hi]; rfl)
  rw [hb] at hc
  cases hc
  exact ⟨b, es[i], rfl, List.getElem?_eq_getElem hi, hd⟩
theorem Rd_frz {H : Hp} {d : Addr} {od : Obj} {o : HO} (h : H d = some (.frz od o)) : Rd H d o := Or.inr ⟨od, h⟩
theorem Rd.of {H : Hp} {d : Addr} {o : HO} (h : H d = some o) : Rd H d o := Or.inl h
/-- the comprehensions of the law's own reading -/
theorem el_gone {K : PySem.W.Frag} {σ : L2.St} {H : Hp} {tl : TE} {p : Addr} {es : List En} {j : Nat} (h : Ev tl σ H (.ref p)) (hp : TL H p (es.map En.vs)) (hz : es.length ≤ 60) (hj : ∀ x, ((wipe σ [j]).set j (some x))[j]? = some (some x)) (hw : ∀ x, wipe ((wipe σ [j]).set j (some x)) [j] = wipe σ [j]) :
    EvL (tLc (iList K tl) (gName j) (tTest (tOp (rIn K false) (tOp (rIxT K) (tVar j) (tC (.int 0))) (tLst (tCons (tC (.str "pop")) (tCons (tC (.str "steal")) tNil))))) (tOp (rIxT K) (tVar j) (tOp (rI0 fun i j => .int (i - j)) (tCB (rLenS K) (tCons (tVar j) tNil)) (tC (.int 1)))) [j]) σ H ((res es).map V.str) := by
  obtain ⟨as, h1, h2⟩ := hp
  have asl : as.length = es.length := by rw [h2.length, List.length_map]
  have key : given (as.map V.ref).length (fun i => (es.getD i (.size 0)).isRe) (fun i => V.str (es.getD i (.size 0)).it) = (res es).map V.str := by
    rw [List.length_map, asl, given_list es (.size 0) En.isRe (fun e => V.str e.it), res_eq, List.map_map]
    rfl
  rw [← key]
  refine el_lcL _ _ h (sq_of h1) (by rw [List.length_map]; omega) hw (fun i x H1 e1 hx => ?_) (fun i x H1 e1 hx hf => ?_)
  · obtain ⟨b, e, rfl, he, hb⟩ := tl_at (p := p) h2 hx
    rw [getD_at he]
    exact et_is (et_test (ev_opL (ev_op (ev_var (hj _)) ev_c (rv_ixT (st_of (e1 _ _ hb)) e.at0)) (el_lst (ea_cons ev_c (ea_cons ev_c ea_nil)) (by show 2 ≤ 100000; decide)) fun p H3 h3 _ => rv_isL (sq_of h3) rfl rfl)) e.isRe_eq
  · obtain ⟨b, e, rfl, he, hb⟩ := tl_at (p := p) h2 hx
    rw [getD_at he] at hf ⊢
    exact ev_op (ev_var (hj _)) (ev_op (ev_lenA (ev_var (hj _)) (Or.inr (st_of (e1 _ _ hb)))) ev_c rv_I0) (rv_ixT (st_of (e1 _ _ hb)) (e.atN hf))
theorem el_pushed {K : PySem.W.Frag} {σ : L2.St} {H : Hp} {tl : TE} {p : Addr} {es : List En} {j : Nat} (h : Ev tl σ H (.ref p)) (hp : TL H p (es.map En.vs)) (hz : es.length ≤ 60) (hj : ∀ x, ((wipe σ [j]).set j (some x))[j]? = some (some x)) (hw : ∀ x, wipe ((wipe σ [j]).set j (some x)) [j] = wipe σ [j]) :
    EvL (tLc (iList K tl) (gName j) (tTest (tOp rEq (tOp (rIxT K) (tVar j) (tC (.int 0))) (tC (.str "push")))) (tOp (rIxT K) (tVar j) (tC (.int 1))) [j]) σ H ((pus es).map V.str) := by
  obtain ⟨as, h1, h2⟩ := hp
  have asl : as.length = es.length := by rw [h2.length, List.length_map]
  have key : given (as.map V.ref).length (fun i => (es.getD i (.size 0)).isPu) (fun i => V.str (es.getD i (.size 0)).it) = (pus es).map V.str := by
    rw [List.length_map, asl, given_list es (.size 0) En.isPu (fun e => V.str e.it), pus_eq, List.map_map]
    rfl
  rw [← key]
  refine el_lcL _ _ h (sq_of h1) (by rw [List.length_map]; omega) hw (fun i x H1 e1 hx => ?_) (fun i x H1 e1 hx hf => ?_)
  · obtain ⟨b, e, rfl, he, hb⟩ := tl_at (p := p) h2 hx
    rw [getD_at he]
    exact et_is (et_test (ev_op (ev_op (ev_var (hj _)) ev_c (rv_ixT (st_of (e1 _ _ hb)) e.at0)) ev_c (rv_eq rfl))) e.isPu_eq
  · obtain ⟨b, e, rfl, he, hb⟩ := tl_at (p := p) h2 hx
    rw [getD_at he] at hf ⊢
    exact ev_op (ev_var (hj _)) ev_c (rv_ixT (st_of (e1 _ _ hb)) (e.at1 hf))
theorem el_stay {K : PySem.W.Frag} {σ : L2.St} {H : Hp} {tl : TE} {p pg : Addr} {xs gs : List Str} {j jg : Nat} (h : Ev tl σ H (.ref p)) (hp : H p = some (.lst (xs.map V.str))) (hz : xs.length ≤ 60) (hg : H pg = some (.lst (gs.map V.str)))
    (hjg : ∀ x, ((wipe σ [j]).set j (some x))[jg]? = some (some (.ref pg))) (hj : ∀ x, ((wipe σ [j]).set j (some x))[j]? = some (some x)) (hw : ∀ x, wipe ((wipe σ [j]).set j (some x)) [j] = wipe σ [j]) :
    EvL (tLc (iList K tl) (gName j) (tTest (tOp (rIn K true) (tVar j) (tVar jg))) (tVar j) [j]) σ H ((xs.filter fun x => decide (¬ x ∈ gs)).map V.str) := by
  have key : given (xs.map V.str).length (fun i => decide (¬ xs.getD i "" ∈ gs)) (fun i => V.str (xs.getD i "")) = (xs.filter fun x => decide (¬ x ∈ gs)).map V.str := by
    rw [List.length_map]
    exact given_list xs "" (fun x => decide (¬ x ∈ gs)) V.str
  rw [← key]
  have at_ : ∀ {i : Nat} {x : V}, (xs.map V.str)[i]? = some x → ∃ y : Str, x = .str y ∧ xs[i]? = some y := fun {i x} hx => by
    rw [List.getElem?_map] at hx
    obtain ⟨y, hy, rfl⟩ := Option.map_eq_some_iff.mp hx
    exact ⟨y, rfl, hy⟩
  refine el_lcL _ _ h (sq_of hp) (by rw [List.length_map]; omega) hw (fun i x H1 e1 hx => ?_) (fun i x H1 e1 hx hf => ?_)
  · obtain ⟨y, rfl, hy⟩ := at_ hx
    rw [getD_at hy]
    refine et_is (et_test (ev_op (ev_var (hj _)) (ev_var (hjg _)) (rv_niL (sq_of (e1 _ _ hg)) rfl (flat_strs gs)))) ?_
    rw [inV_strs, decide_not]
  · obtain ⟨y, rfl, hy⟩ := at_ hx
    rw [getD_at hy]
    exact ev_var (hj _)
section
variable {P : Program} {w : World} {K : PySem.W.Frag} {mg : Str → Option Value} {base : Heap}
end
end Vx

set_option Elab.async false
set_option linter.all false
set_option maxRecDepth 100000
set_option maxHeartbeats 8000000
namespace Vx
open PySem PySem.Spec PyProof.Rows L2 Evl
/-- equal data: atoms, sequences, and dicts of dict-free values -/
def EqG (H : Hp) : Nat → V → V → Prop
  | 0, x, y => x = y ∧ atom x = true
  | n + 1, x, y => (x = y ∧ atom x = true) ∨ (∃ p q xs ys, x = .ref p ∧ y = .ref q ∧ ((Rd H p (.lst xs) ∧ Rd H q (.lst ys)) ∨ (Rd H p (.tup xs) ∧ Rd H q (.tup ys))) ∧ xs.length = ys.length ∧ xs.length < 40000 ∧
      ∀ (i : Nat) (x' y' : V), xs[i]? = some x' → ys[i]? = some y' → EqG H n x' y') ∨
    ∃ p q names ps qs, x = .ref p ∧ y = .ref q ∧ H p = some (.dK (Dk names ps)) ∧ H q = some (.dK (Dk names qs)) ∧ ps.length = names.length ∧ qs.length = names.length ∧ names.Nodup ∧ names.length < 1000 ∧ 1 ≤ n ∧
      ∀ (i : Nat) (u v : Addr), ps[i]? = some u → qs[i]? = some v → EqS H n (.ref u) (.ref v)
theorem EqG.ex {H H' : Hp} (e : Ex H H') : ∀ {n : Nat} {x y : V}, EqG H n x y → EqG H' n x y
  | 0, _, _, h => h
  | n + 1, x, y, h => by
    rcases h with h | ⟨p, q, xs, ys, h1, h2, h3, h4, h5, h6⟩ | ⟨p, q, names, ps, qs, h1, h2, h3, h4, h5, h6, h7, h8, h9, h10⟩
    · exact Or.inl h
    · exact Or.inr (Or.inl ⟨p, q, xs, ys, h1, h2, h3.imp (fun z => ⟨ex_rd e z.1, ex_rd e z.2⟩) (fun z => ⟨ex_rd e z.1, ex_rd e z.2⟩), h4, h5, fun i x' y' a b => EqG.ex e (h6 i x' y' a b)⟩)
    · exact Or.inr (Or.inr ⟨p, q, names, ps, qs, h1, h2, e _ _ h3, e _ _ h4, h5, h6, h7, h8, h9, fun i u v a b => (h10 i u v a b).ex e⟩)
theorem EqS.g {H : Hp} : ∀ {n : Nat} {x y : V}, EqS H n x y → EqG H n x y
  | 0, _, _, h => h
  | n + 1, x, y, h => by
    rcases h with h | ⟨p, q, xs, ys, h1, h2, h3, h4, h5, h6⟩
    · exact Or.inl h
    · exact Or.inr (Or.inl ⟨p, q, xs, ys, h1, h2, h3, h4, h5, fun i x' y' a b => EqS.g (h6 i x' y' a b)⟩)
theorem rd_frz {H : Hp} {d b : Addr} {kvs : List (Key × V)} {o u : HO} (h : H d = some (.dK kvs)) (hu : u ≠ .dK kvs) (r : Rd H b u) : Rd (upd H d o) b u := by
  have n : b ≠ d := fun z => by
    rcases r with r | ⟨od, r⟩
    · rw [z, h] at r
      exact hu (Option.some.inj r).symm
    · rw [z, h] at r
      cases Option.some.inj r
  rcases r with r | ⟨od, r⟩
  · exact Or.inl (by rw [upd_ne n]; exact r)
  · exact Or.inr ⟨od, by rw [upd_ne n]; exact r⟩
theorem EqS.frz {H : Hp} {d : Addr} {kvs : List (Key × V)} {o : HO} (h : H d = some (.dK kvs)) : ∀ {n : Nat} {x y : V}, EqS H n x y → EqS (upd H d o) n x y
  | 0, _, _, z => z
  | n + 1, x, y, z => by
    rcases z with z | ⟨p, q, xs, ys, h1, h2, h3, h4, h5, h6⟩
    · exact Or.inl z
    · exact Or.inr ⟨p, q, xs, ys, h1, h2, h3.imp (fun z => ⟨rd_frz h (fun e => nomatch e) z.1, rd_frz h (fun e => nomatch e) z.2⟩) (fun z => ⟨rd_frz h (fun e => nomatch e) z.1, rd_frz h (fun e => nomatch e) z.2⟩), h4, h5, fun i x' y' a b => EqS.frz h (h6 i x' y' a b)⟩
theorem eqs_atom {H : Hp} {x : V} (h : atom x = true) : ∀ n : Nat, EqS H n x x
  | 0 => ⟨rfl, h⟩
  | _ + 1 => Or.inl ⟨rfl, h⟩
theorem eqs_strs {H : Hp} {p q : Addr} {xs : List Str} {n : Nat} (h1 : Rd H p (.lst (xs.map V.str))) (h2 : Rd H q (.lst (xs.map V.str))) (hz : xs.length < 40000) (hn : 1 ≤ n) : EqS H n (.ref p) (.ref q) := by
  obtain ⟨m, rfl⟩ : ∃ m, n = m + 1 := ⟨n - 1, by omega⟩
  refine Or.inr ⟨p, q, _, _, rfl, rfl, Or.inl ⟨h1, h2⟩, rfl, by rw [List.length_map]; exact hz, fun i x y a b => ?_⟩
  rw [a] at b
  cases b
  rw [List.getElem?_map] at a
  obtain ⟨z, _, rfl⟩ := Option.map_eq_some_iff.mp a
  exact eqs_atom rfl m
/-- all([e for k in d]) -/
theorem ev_allKeys {K : PySem.W.Frag} {σ : L2.St} {H : Hp} {tl te : TE} {d : Addr} {kvs : List (Key × V)} {j : Nat} {vs : List Nat} (hl : ∀ H', Ev tl σ H' (.ref d)) (hd : H d = some (.dK kvs)) (hz : kvs.length < 1000)
    (hw : ∀ x, wipe ((wipe σ vs).set j (some x)) vs = wipe σ vs)
    (he : ∀ H1, Ex H H1 → ∀ od (i : Nat) k v, kvs[i]? = some (k, v) → Ev te ((wipe σ vs).set j (some (kV k))) (upd H1 d (.frz od (.dK kvs))) (.bl true)) :
    Ev (tCB (rAll K) (tCons (tLockE (tLc (iKeys tl) (gName j) tYes te vs)) tNil)) σ H (.bl true) := fun H1 e1 Q q => by
  have hd1 := e1 _ _ hd
  refine ⟨d, .dK kvs, hd1, trivial, fun od => ?_⟩
  have nin : ∀ b o, H1 b = some o → b ≠ d → (upd H1 d (.frz od (.dK kvs))) b = some o := fun b o h n => by rw [upd_ne n]; exact h
  refine hl _ _ (Ex.refl _) _ fun H2 e2 => ⟨d, od, rfl, Or.inl ⟨kvs, e2 _ _ upd_same, fun Dl hD => ?_⟩⟩
  have hf2 : H2 d = some (.frz od (.dK kvs)) := e2 _ _ upd_same
  refine lc_P (B := upd H1 d (.frz od (.dK kvs))) (J := Itk d od kvs) (n := kvs.length) (fun _ v _ => v = .bl true) (by omega) e2 hD (fun i H3 hi e3 => ⟨e3 _ _ hf2, hi⟩) (fun H3 e3 => ⟨e3 _ _ hf2, Nat.le_refl _⟩) (fun i H3 x H4 hi e3 y => ?_) (fun xs H3 e3 h3 kn => ?_)
  · obtain ⟨rfl, k, v, hkv, rfl⟩ := y
    exact ⟨_, Ex.refl _, hw _, fun Q2 q2 => q2 _ (Ex.refl _), evp_of (he H1 e1 od i k v hkv) fun _ _ => rfl⟩
  · have hx := kn.kn.now e2 e3
    have hf3 := e3 _ _ hf2
    have nD : Dl ≠ d := fun z => by rw [z, hf2] at hD; cases hD
    have : xs = (List.replicate kvs.length true).map V.bl := by
      refine List.ext_getElem? fun i => ?_
      by_cases hi : i < kvs.length
      · have hi2 : i < xs.length := by rw [hx.1]; exact hi
        rw [List.getElem?_map, List.getElem?_replicate, if_pos hi, List.getElem?_eq_getElem hi2, hx.2 i _ (List.getElem?_eq_getElem hi2)]
        rfl
      · rw [List.getElem?_eq_none (by rw [hx.1]; omega), List.getElem?_eq_none (by rw [List.length_map, List.length_replicate]; omega)]
    refine ⟨hf3, Dl, List.replicate kvs.length true, rfl, sq_of ?_, ?_⟩
    · rw [upd_ne nD, ← this]
      exact h3
    · rw [all_rep]
      refine q _ fun b o h => ?_
      by_cases z : b = d
      · rw [z, hd1] at h
        rw [z, upd_same]
        exact h
      · rw [upd_ne z]
        exact e3 _ _ (e2 _ _ (nin b o h z))
def spSameG (n : Nat) : Sp := fun vs H Q _ => ∃ x y, vs = [x, y] ∧ EqG H n x y ∧ ∀ H', Ex H H' → Q (.bl true) H'
section
variable {P : Program} {w : World} {K : PySem.W.Frag} {mg : Str → Option Value} {base : Heap}
theorem sc_law_same : FnScope ["found", "due", "one", "two"] ["found", "due"] (defScope s_law_same) := ⟨rfl, rfl, rfl, by decide +kernel, rfl, by decide +kernel, by decide +kernel⟩
theorem ok_same1 {k n : Nat} {sp : Sp} (D : Def K mg "_law_same" s_law_same ["found", "due"]) (T : Bl mg) (G : Good P w K mg base k "_law_same" ["found", "due"] sp)
    (hn : n = 0 ∨ sp = spSameG (n - 1)) : Good P w K mg base (k + 1) "_law_same" ["found", "due"] (spSameG n) := by
  refine D.good sc_law_same (fun vs H Q E h => ?_) (fun f cdv A outer s H vs Q E hr h => ?_)
  · obtain ⟨x, y, rfl, _⟩ := h
    rfl
  · obtain ⟨x, y, rfl, h, q⟩ := h
    have hu := hu_of hr
    refine ⟨_, (pss_cons (ps_if (pt_val (pe_callB call_isiT (by rfl) T.isinstance (by decide +kernel) (pa_cons (pv 1) (pa_cons (pe_tup (pa_cons (pe_bltn (v := .ty "list") (by rfl) T.list (by decide +kernel) rfl) (pa_cons (pe_bltn (v := .ty "tuple") (by rfl) T.tuple (by decide +kernel) rfl) pa_nil))) pa_nil)))) (pss_cons (ps_if (pw_or (pt_not (pt_val (pe_callB call_isiT (by rfl) T.isinstance (by decide +kernel) (pa_cons (pv 0) (pa_cons (pe_tup (pa_cons (pe_bltn (v := .ty "list") (by rfl) T.list (by decide +kernel) rfl) (pa_cons (pe_bltn (v := .ty "tuple") (by rfl) T.tuple (by decide +kernel) rfl) pa_nil))) pa_nil))))) (pw_or1 (pt_cmpR op_ne (x_isi (K := K) "list" T (pv 0) T.list) (x_isi (K := K) "list" T (pv 1) T.list) (nomark _)))).pt pss_never pss_nil)
      (pss_one (ps_ret (pe_and (pe_cmpR op_eq (x_len (K := K) T (pv 0)) (x_len (K := K) T (pv 1)) (nomark _)) (pe_one (x_all (K := K) T (pe_lc (own := [("one", 2), ("two", 3)]) (g := (gTup K 2 (gCons (gName 2) (gCons (gName 3) gNil)))) (tt := tYes) rfl sc_law_same.nd (RZ.pi_zipA (by rfl) T.zip (pa_cons (pv 0) (pa_cons (pv 1) pa_nil))) (blkOk_by (N := ["found", "due", "one", "two"]) (sc := (defScope s_law_same)) (by decide +kernel)) (fun _ _ _ _ _ => (x_gt (K := K) (pgs_cons (pg_name (i := 2) sc_law_same.nd rfl (Or.inl rfl)) (pgs_cons (pg_name (i := 3) sc_law_same.nd rfl (Or.inl rfl)) pgs_nil)))) (fun _ _ _ _ _ => pts_nil) (fun _ _ _ _ _ => (pe_fn G hr (pa_cons (pv 2) (pa_cons (pv 3) pa_nil))))))))))) pss_nil)
      (pss_cons (ps_if (pt_val (x_isi (K := K) "dict" T (pv 1) T.dict)) (pss_cons (ps_if (pw_or (pt_not (pt_val (x_isi (K := K) "dict" T (pv 0) T.dict))) (pw_or1 (pt_not (pt_val (pe_fn G hr (pa_cons (pe_callTy (hc := call_listD rfl) (hg := by rfl) (hm := T.list) (hv := by decide +kernel) (ha := pa_cons (pv 0) pa_nil)) (pa_cons (pe_callTy (hc := call_listD rfl) (hg := by rfl) (hm := T.list) (hv := by decide +kernel) (ha := pa_cons (pv 1) pa_nil)) pa_nil))))))).pt pss_never pss_nil)
      (pss_one (ps_ret (x_all (K := K) T (pe_lock (pe_lc (own := [("one", 2)]) (g := (gName 2)) (tt := tYes) rfl sc_law_same.nd (pi_keys (pv 1)) (blkOk_by (N := ["found", "due", "one", "two"]) (sc := (defScope s_law_same)) (by decide +kernel)) (fun _ _ _ _ _ => (pg_name (i := 2) sc_law_same.nd rfl (Or.inl rfl))) (fun _ _ _ _ _ => pts_nil) (fun _ _ _ _ _ => (pe_fn G hr (pa_cons (pe_dget hu (pv 0) (pv 2) (fun _ _ => rfl)) (pa_cons (pe_dget hu (pv 1) (pv 2) (fun _ _ => rfl)) pa_nil)))))))))) pss_nil)
      (pss_cons (ps_if (pw_or (pt_cmpR op_isN (pv 1) pe_non (nomark _)) (pw_or1 (pt_cmpR op_isN (pv 0) pe_non (nomark _)))).pt (pss_one (ps_ret (pe_and (pe_cmpR op_isN (pv 1) pe_non (nomark _)) (pe_one (pe_cmpR op_isN (pv 0) pe_non (nomark _)))))) pss_nil)
      (pss_cons (ps_if (pw_or (pt_cmpR op_ne (x_isi (K := K) "bool" T (pv 0) T.bool) (x_isi (K := K) "bool" T (pv 1) T.bool) (nomark _)) (pw_or1 (pt_cmpR op_ne (x_isi (K := K) "str" T (pv 0) T.str) (x_isi (K := K) "str" T (pv 1) T.str) (nomark _)))).pt pss_never pss_nil)
      (pss_one (ps_ret (pe_cmpR op_eq (pv 0) (pv 1) (nomark _)))))))), ?_⟩
    have cut : (∃ p q xs ys, x = .ref p ∧ y = .ref q ∧ ((Rd H p (.lst xs) ∧ Rd H q (.lst ys)) ∨ (Rd H p (.tup xs) ∧ Rd H q (.tup ys))) ∧ xs.length = ys.length ∧ xs.length < 40000 ∧
        ∀ (i : Nat) (x' y' : V), xs[i]? = some x' → ys[i]? = some y' → SpV sp [x', y'] H (.bl true)) ∨ (∃ m p q names ps qs, sp = spSameG m ∧ 1 ≤ m ∧ x = .ref p ∧ y = .ref q ∧ H p = some (.dK (Dk names ps)) ∧ H q = some (.dK (Dk names qs)) ∧ ps.length = names.length ∧ qs.length = names.length ∧ names.Nodup ∧ names.length < 1000 ∧
        ∀ (i : Nat) (u v : Addr), ps[i]? = some u → qs[i]? = some v → EqS H m (.ref u) (.ref v)) ∨ (x = y ∧ atom x = true) := by
      cases n with
      | zero => exact Or.inr (Or.inr h)
      | succ n =>
        have hsp : sp = spSameG n := by
          rcases hn with z | z
          · cases z
          · exact z
        rcases h with h | ⟨p, r, xs, ys, h1, h2, h3, h4, h5, h6⟩ | ⟨p, r, names, ps, qs, h1, h2, h3, h4, h5, h6, h7, h8, h9, h10⟩
        · exact Or.inr (Or.inr h)
        · refine Or.inl ⟨p, r, xs, ys, h1, h2, h3, h4, h5, fun i x' y' a b H1 e Q2 q2 E2 => ?_⟩
          rw [hsp]
          exact ⟨x', y', rfl, EqG.ex e (h6 i x' y' a b), q2⟩
        · exact Or.inr (Or.inl ⟨n, p, r, names, ps, qs, hsp, h9, h1, h2, h3, h4, h5, h6, h7, h8, h10⟩)
    rcases cut with ⟨p, r, xs, ys, rfl, rfl, hh, hl, hz, hrec⟩ | ⟨m, p, r, names, ps, qs, hsp, hm, rfl, rfl, hp, hr2, hpl, hql, nd, hz, hv⟩ | ⟨rfl, ha⟩
    · obtain ⟨m, b1, b2, t1, t2, k1, k2, kb, hs⟩ : ∃ (m : String) (b1 b2 : Bool), TyN K H (.ref p) m ∧ TyN K H (.ref r) m ∧ kitB m "list" = some b1 ∧ kitB m "tuple" = some b2 ∧ (b1 || b2) = true ∧ ((SqL K H p xs ∧ SqL K H r ys) ∨ (SqT K H p xs ∧ SqT K H r ys)) := by
        rcases hh with ⟨h1, h2⟩ | ⟨h1, h2⟩
        · exact ⟨"list", true, false, ty_lst h1, ty_lst h2, by decide +kernel, by decide +kernel, rfl, Or.inl ⟨Or.inl h1, Or.inl h2⟩⟩
        · exact ⟨"tuple", false, true, ty_tup h1, ty_tup h2, by decide +kernel, by decide +kernel, rfl, Or.inr ⟨Or.inl h1, Or.inl h2⟩⟩
      have hp : ∀ H', Ex H H' → SqL K H' p xs ∨ SqT K H' p xs := fun H' e => hs.imp (fun z => ex_l e z.1) (fun z => ex_t e z.1)
      have hr' : ∀ H', Ex H H' → SqL K H' r ys ∨ SqT K H' r ys := fun H' e => hs.imp (fun z => ex_l e z.2) (fun z => ex_t e z.2)
      refine s_if (et_B (ev_isI2 (i := 1) rfl t2 k1 k2)) (fun _ H1 e1 => ?_) (fun z => by rw [kb] at z; cases z)
      refine s_if (b := false) (et_is (et_or (et_not (et_B (ev_isI2 (i := 0) rfl (t1.ex e1) k1 k2))) (fun _ => et_test (ev_op (ev_isI (i := 0) rfl (t1.ex e1) k1) (ev_isI (i := 1) rfl (t2.ex e1) k1) (rv_ne rfl)))) (by rw [kb]; simp)) (fun z => nomatch z) (fun _ H2 e2 => ?_)
      refine s_ret (v := .bl true) (ev_is (ev_andV (ev_op (ev_lenA (ev_var rfl) (hp H2 (e1.trans e2))) (ev_lenA (ev_var rfl) (hr' H2 (e1.trans e2))) (rv_eq rfl)) (fun _ => ev_allN (bs := List.replicate xs.length true) ?_)) ?_) (fun H3 e3 => q H3 ((e1.trans e2).trans e3))
      · rw [← rmap_true]
        refine el_lcZ (xs := xs) (ys := ys) _ (ea_cons (ev_var rfl) (ea_cons (ev_var rfl) ea_nil)) (hs.imp (fun z => ⟨ex_l (e1.trans e2) z.1, ex_l (e1.trans e2) z.2⟩) (fun z => ⟨ex_t (e1.trans e2) z.1, ex_t (e1.trans e2) z.2⟩)) hl hz (fun _ _ => rfl) (fun i x y H4 e4 gx gy => ?_)
        exact ev_call (ea_cons (ev_var rfl) (ea_cons (ev_var rfl) ea_nil)) (fun H5 e5 => hrec i x y gx gy H5 (((e1.trans e2).trans e4).trans e5))
      · rw [all_rep, hl]
        simp
    · have tp := ty_dict (K := K) (Or.inl hp)
      have tr := ty_dict (K := K) (Or.inl hr2)
      have keysP : (Dk names ps).map (fun kv => kV kv.1) = names.map V.str := by
        have := congrArg (List.map kV) (dk_keys (ws := names) hpl)
        rw [List.map_map, List.map_map] at this
        exact this
      have keysQ : (Dk names qs).map (fun kv => kV kv.1) = names.map V.str := by
        have := congrArg (List.map kV) (dk_keys (ws := names) hql)
        rw [List.map_map, List.map_map] at this
        exact this
      refine s_if (b := false) (et_B (ev_isI2 (i := 1) (b1 := false) (b2 := false) rfl tr (by decide +kernel) (by decide +kernel))) (fun z => nomatch z) (fun _ H1 e1 => ?_)
      refine s_if (b := true) (et_B (ev_isI (i := 1) rfl (tr.ex e1) (by decide +kernel))) (fun _ H2 e2 => ?_) (fun z => nomatch z)
      have E2 := e1.trans e2
      have lk : ∀ {σ : L2.St} {i : Nat} {H3 : Hp} {d : Addr} {kvs : List (Key × V)}, σ[i]? = some (some (.ref d)) → H3 d = some (.dK kvs) → kvs.map (fun kv => kV kv.1) = names.map V.str → EvL (tCB (fun xs H Q => ∃ (a : Addr) (kvs : List (Key × V)), xs = [.ref a] ∧ Rd H a (.dK kvs) ∧ ∀ p, H p = none → Q (.ref p) (upd H p (.lst (kvs.map fun kv => kV kv.1)))) (tCons (tVar i) tNil)) σ H3 (names.map V.str) := fun hi hd hk H4 e4 Q4 q4 =>
        ⟨_, hi, _, _, rfl, Or.inl (e4 _ _ hd), fun p0 hp0 => by
          rw [hk]
          exact q4 p0 _ hp0 (Ex.new hp0) upd_same⟩
      refine s_if (b := false) (et_is (et_or (a := false) (b := false) (et_not (a := true) (et_B (ev_isI (i := 0) rfl (tp.ex E2) (by decide +kernel)))) (fun _ => et_not (a := true) (et_B (ev_callP (eap_cons (evp_L (lk (i := 0) rfl (E2 _ _ hp) keysP)) (eap_cons (evp_L (lk (i := 1) rfl (E2 _ _ hr2) keysQ)) eap_nil)) (fun vs H3 e3 pr => ?_))))) rfl) (fun z => nomatch z) (fun _ H3 e3 => ?_)
      · rcases pr with _ | ⟨⟨a, rfl, ha⟩, _ | ⟨⟨b, rfl, hb⟩, ⟨⟩⟩⟩
        rw [hsp]
        exact fun H4 e4 Q4 q4 E4 => ⟨_, _, rfl, (eqs_strs (Or.inl (e4 _ _ ha)) (Or.inl (e4 _ _ hb)) (by omega) hm).g, q4⟩
      · have E3 := E2.trans e3
        refine s_ret (v := .bl true) (ev_allKeys (fun _ => ev_var rfl) (E3 _ _ hr2) (by rw [dk_len hql]; exact hz) (fun _ => rfl) (fun H4 e4 od i k u hk => ?_)) fun H4 e4 => q H4 (E3.trans e4)
        obtain ⟨x, v, g1, g2, rfl, rfl⟩ := dk_at hk
        have E4 := E3.trans e4
        have hr4 := E4 _ _ hr2
        have hp4 := E4 _ _ hp
        have g3 := List.getElem?_eq_getElem (show i < ps.length by rw [hpl]; exact (List.getElem?_eq_some_iff.mp g1).1)
        have rp : Rd (upd H4 r (.frz od (.dK (Dk names qs)))) p (.dK (Dk names ps)) := by
          by_cases z : p = r
          · subst z
            rw [hr4] at hp4
            injection Option.some.inj hp4 with z2
            rw [← z2]
            exact Or.inr ⟨od, upd_same⟩
          · exact Or.inl (by rw [upd_ne z]; exact hp4)
        rw [hsp]
        refine ev_call (ea_cons (ev_dgetR (ev_var rfl) (ev_var rfl) rp (dk_get nd g1 g3)) (ea_cons (ev_dgetR (ev_var rfl) (ev_var rfl) (Or.inr ⟨od, upd_same⟩) (dk_get nd g1 g2)) ea_nil)) (fun H5 e5 Q5 q5 E5 => ⟨_, _, rfl, EqG.ex e5 (EqS.g (EqS.frz hr4 ((hv i _ v g3 g2).ex E4))), q5⟩)
    · obtain ⟨m, b1, b2, t, k1, k2, k3, k4, k5, sc⟩ : ∃ (m : String) (b1 b2 : Bool), TyN K H x m ∧ kitB m "list" = some false ∧ kitB m "tuple" = some false ∧ kitB m "dict" = some false ∧ kitB m "bool" = some b1 ∧ kitB m "str" = some b2 ∧ scal x x = true := by
        cases x with
        | non => exact ⟨_, false, false, ty_non, by decide +kernel, by decide +kernel, by decide +kernel, by decide +kernel, by decide +kernel, rfl⟩
        | bl b => exact ⟨_, true, false, ty_bl, by decide +kernel, by decide +kernel, by decide +kernel, by decide +kernel, by decide +kernel, rfl⟩
        | int b => exact ⟨_, false, false, ty_int, by decide +kernel, by decide +kernel, by decide +kernel, by decide +kernel, by decide +kernel, rfl⟩
        | str b => exact ⟨_, false, true, ty_str, by decide +kernel, by decide +kernel, by decide +kernel, by decide +kernel, by decide +kernel, rfl⟩
        | byt _ => cases ha
        | flt _ => cases ha
        | ref _ => cases ha
        | ty _ => cases ha
      refine s_if (b := false) (et_B (ev_isI2 (i := 1) rfl t k1 k2)) (fun z => nomatch z) (fun _ H1 e1 => ?_)
      refine s_if (b := false) (et_B (ev_isI (i := 1) rfl (t.ex e1) k3)) (fun z => nomatch z) (fun _ H2 e2 => ?_)
      have en : ∀ {H' : Hp} {i : Nat}, ([some x, some x, none, none] : L2.St)[i]? = some (some x) → Ev (tOp (fun x y H Q => y = .non ∧ Q (.bl (decide (x = .non))) H) (tVar i) (tC .non)) [some x, some x, none, none] H' (.bl (decide (x = .non))) := fun hi => ev_op (ev_var hi) ev_c rv_isN
      by_cases hx : x = .non
      · refine s_if (b := true) (et_is (et_or (et_test (en (i := 1) rfl)) (fun _ => et_test (en (i := 0) rfl))) (by simp [hx])) (fun _ H3 e3 => ?_) (fun z => nomatch z)
        exact s_ret (v := .bl true) (ev_is (ev_andV (en (i := 1) rfl) (fun _ => en (i := 0) rfl)) (by simp [hx])) (fun H4 e4 => q H4 ((e1.trans e2).trans (e3.trans e4)))
      · refine s_if (b := false) (et_is (et_or (et_test (en (i := 1) rfl)) (fun _ => et_test (en (i := 0) rfl))) (by simp [hx])) (fun z => nomatch z) (fun _ H3 e3 => ?_)
        have E3 := (e1.trans e2).trans e3
        refine s_if (b := false) (et_is (et_or (et_test (ev_op (ev_isI (i := 0) rfl (t.ex E3) k4) (ev_isI (i := 1) rfl (t.ex E3) k4) (rv_ne rfl))) (fun _ => et_test (ev_op (ev_isI (i := 0) rfl (t.ex E3) k5) (ev_isI (i := 1) rfl (t.ex E3) k5) (rv_ne rfl)))) (by simp)) (fun z => nomatch z) (fun _ H4 e4 => ?_)
        exact s_ret (v := .bl true) (ev_is (ev_op (ev_var rfl) (ev_var rfl) (rv_eq sc)) (by simp)) (fun H5 e5 => q H5 (E3.trans (e4.trans e5)))
theorem ok_same (D : Def K mg "_law_same" s_law_same ["found", "due"]) (T : Bl mg) : ∀ n : Nat, Good P w K mg base (n + 1) "_law_same" ["found", "due"] (spSameG n)
  | 0 => ok_same1 (sp := fun _ _ _ _ => False) D T (by
      obtain ⟨f, fd, F, m, b⟩ := D.ex
      exact ⟨f, fd, ⟨fun _ _ _ _ h => h.elim, fun _ _ _ _ _ _ _ _ _ _ _ _ _ h => h.elim⟩, m, F.kp, b⟩) (Or.inl rfl)
  | n + 1 => ok_same1 D T (ok_same D T n) (Or.inr rfl)
end
end Vx

set_option Elab.async false
set_option linter.all false
set_option maxRecDepth 100000
set_option maxHeartbeats 4000000
namespace Vx
open PySem PySem.Spec PyProof.Rows L2
/-- logs of a run while it is played: the deques hold what is pushed and not removed -/
structure Plog (top : Nat) (ws : List Str) (L : List (List En)) (fr : List Str) (q : List (List Str)) : Prop where
  v : Vlog top ws L
  pf : (L.flatMap pus ++ fr).Nodup
  cnt : (L.flatMap pus).length + fr.length = 6 * top
  frn : ∀ z ∈ fr, IsNm z
  ql : q.length = ws.length
  dq : ∀ (k : Nat) es, L[k]? = some es → q[k]? = some (leftOf L es)
theorem leftOf_mem {L : List (List En)} {es : List En} {x : Str} : x ∈ leftOf L es ↔ x ∈ pus es ∧ ¬ x ∈ L.flatMap res := by
  unfold leftOf
  rw [List.mem_filter]
  simp only [decide_eq_true_eq]
theorem filter_ne_last {q : List Str} {x : Str} (h : (q ++ [x]).Nodup) : (q ++ [x]).filter (fun y => decide (y ≠ x)) = q := by
  have h2 := (List.nodup_append.mp h).2.2
  rw [List.filter_append, List.filter_eq_self.mpr (fun y hy => by simpa using h2 y hy x (List.mem_singleton.mpr rfl))]
  simp
theorem filter_ne_first {q : List Str} {x : Str} (h : (x :: q).Nodup) : (x :: q).filter (fun y => decide (y ≠ x)) = q := by
  rw [List.filter_cons]
  simp only [ne_eq, not_true_eq_false, decide_false, Bool.false_eq_true, if_false]
  refine List.filter_eq_self.mpr fun y hy => ?_
  have := (List.nodup_cons.mp h).1
  simp only [ne_eq, decide_eq_true_eq]
  exact fun e => this (e ▸ hy)
theorem filter_ne_not {q : List Str} {x : Str} (h : ¬ x ∈ q) : q.filter (fun y => decide (y ≠ x)) = q :=
  List.filter_eq_self.mpr fun y hy => by
    simp only [ne_eq, decide_eq_true_eq]
    exact fun e => h (e ▸ hy)
/-- one removal more -/
theorem leftOf_rem {L L2 : List (List En)} {es : List En} {x : Str} (h : (L2.flatMap res).Perm (L.flatMap res ++ [x])) : leftOf L2 es = (leftOf L es).filter fun y => decide (y ≠ x) := by
  unfold leftOf
  rw [List.filter_filter]
  congr 1
  funext y
  have : y ∈ L2.flatMap res ↔ y ∈ L.flatMap res ∨ y = x := by rw [h.mem_iff, List.mem_append, List.mem_singleton]
  rw [Bool.eq_iff_iff]
  simp only [decide_eq_true_eq, Bool.and_eq_true, this, not_or, ne_eq]
  exact ⟨fun ⟨a, b⟩ => ⟨b, a⟩, fun ⟨a, b⟩ => ⟨b, a⟩⟩
theorem leftOf_same {L L2 : List (List En)} {es : List En} (h : (L2.flatMap res).Perm (L.flatMap res)) : leftOf L2 es = leftOf L es := by
  unfold leftOf
  congr 1
  funext y
  rw [Bool.eq_iff_iff]
  simp only [decide_eq_true_eq, h.mem_iff]
section
variable {top : Nat} {ws : List Str} {L : List (List En)} {fr : List Str} {q : List (List Str)} {k : Nat} {es : List En} {e : En}
theorem Plog.nd (d : Plog top ws L fr q) (hk : L[k]? = some es) : (pus es).Nodup := by
  have := d.v.pu
  obtain ⟨l1, l2, rfl⟩ := List.append_of_mem (List.mem_of_getElem? hk)
  rw [List.flatMap_append, List.flatMap_cons] at this
  exact (List.nodup_append.mp (List.nodup_append.mp this).2.1).1
/-- the pushes of two logs are apart -/
theorem Plog.apart (d : Plog top ws L fr q) {i : Nat} {es2 : List En} (hk : L[k]? = some es) (hi : L[i]? = some es2) (n : i ≠ k) {x : Str} (hx : x ∈ pus es) : ¬ x ∈ pus es2 := fun h2 => by
  have nd := d.v.pu
  unfold List.Nodup at nd
  rw [List.pairwise_flatMap] at nd
  obtain ⟨_, ap⟩ := nd
  rw [List.pairwise_iff_getElem] at ap
  obtain ⟨a1, a2⟩ := List.getElem?_eq_some_iff.mp hk
  obtain ⟨b1, b2⟩ := List.getElem?_eq_some_iff.mp hi
  rcases Nat.lt_or_ge i k with h | h
  · have := ap i k b1 a1 h
    rw [a2, b2] at this
    exact this x h2 x hx rfl
  · have := ap k i a1 b1 (by omega)
    rw [a2, b2] at this
    exact this x hx x h2 rfl
theorem Plog.size (d : Plog top ws L fr q) (hk : L[k]? = some es) (hl : es.length < top) {n : Int} (h0 : 0 ≤ n) (h1 : n ≤ 60) : Plog top ws (L.set k (es ++ [.size n])) fr q := by
  have p1 := flat_set (f := pus) (es' := es ++ [.size n]) (g := []) (by rw [pus_snoc]; rfl) hk
  have p2 := flat_set (f := res) (es' := es ++ [.size n]) (g := []) (by rw [res_snoc]; rfl) hk
  rw [List.append_nil] at p1 p2
  refine ⟨d.v.app hk hl ⟨h0, h1⟩ (by rw [show (En.size n).pu = [] from rfl, List.append_nil]; exact d.v.pu) (by rw [show (En.size n).re = [] from rfl, List.append_nil]; exact d.v.re) (fun _ z => nomatch z) (fun _ _ _ _ z => nomatch z), (p1.append_right fr).nodup_iff.mpr d.pf, ?_, d.frn, d.ql, ?_⟩
  · rw [p1.length_eq]
    exact d.cnt
  · intro i es2 h
    rw [leftOf_same p2]
    rcases set_get h with ⟨rfl, rfl⟩ | ⟨_, h3⟩
    · rw [d.dq i es hk]
      unfold leftOf
      rw [pus_snoc]
      simp [En.pu]
    · exact d.dq i es2 h3
theorem Plog.push {x w : Str} (d : Plog top ws L (fr ++ [x]) q) (hk : L[k]? = some es) (hl : es.length < top) : Plog top ws (L.set k (es ++ [.push x])) fr (q.set k (leftOf L es ++ [x])) := by
  have p1 := flat_set (f := pus) (es' := es ++ [.push x]) (g := [x]) (by rw [pus_snoc]; rfl) hk
  have p2 := flat_set (f := res) (es' := es ++ [.push x]) (g := []) (by rw [res_snoc]; rfl) hk
  rw [List.append_nil] at p2
  have nm : IsNm x := d.frn x (List.mem_append_right _ (List.mem_singleton.mpr rfl))
  have q1 : (L.flatMap pus ++ [x] ++ fr).Nodup := by
    refine (List.Perm.nodup_iff ?_).mpr d.pf
    rw [List.append_assoc]
    exact List.Perm.append_left _ List.perm_append_comm
  have nx : ¬ x ∈ L.flatMap pus := fun z => (List.nodup_append.mp (List.nodup_append.mp q1).1).2.2 x z x (List.mem_singleton.mpr rfl) rfl
  have nr : ¬ x ∈ L.flatMap res := fun h => by
    obtain ⟨es2, h2, h3⟩ := List.mem_flatMap.mp h
    obtain ⟨i, hi⟩ := List.mem_iff_getElem?.mp h2
    unfold res at h3
    obtain ⟨e2, h4, h5⟩ := List.mem_flatMap.mp h3
    refine nx ?_
    cases e2 with
    | push _ => simp [En.re] at h5
    | size _ => simp [En.re] at h5
    | pop y =>
      have : x = y := by simpa [En.re] using h5
      subst this
      obtain ⟨j, hj⟩ := List.mem_iff_getElem?.mp h4
      obtain ⟨j', _, h6⟩ := d.v.own i es2 j x hi hj
      exact List.mem_flatMap.mpr ⟨es2, h2, mem_pus.mpr (List.mem_of_getElem? h6)⟩
    | steal o y =>
      have : x = y := by simpa [En.re] using h5
      subst this
      have hlt : i < ws.length := by rw [← d.v.len]; exact (List.getElem?_eq_some_iff.mp hi).1
      obtain ⟨_, i', es', _, h7, h8⟩ := d.v.st i es2 _ o x hi (List.getElem?_eq_getElem hlt) h4
      exact List.mem_flatMap.mpr ⟨es', List.mem_of_getElem? h7, mem_pus.mpr h8⟩
  refine ⟨d.v.app hk hl nm (List.nodup_append.mp q1).1 (by rw [show (En.push x).re = [] from rfl, List.append_nil]; exact d.v.re) (fun _ z => nomatch z) (fun _ _ _ _ z => nomatch z), (p1.append_right fr).nodup_iff.mpr q1, ?_, fun z hz => d.frn z (List.mem_append_left _ hz), by rw [List.length_set]; exact d.ql, ?_⟩
  · rw [p1.length_eq]
    have := d.cnt
    rw [List.length_append] at this ⊢
    simp only [List.length_cons, List.length_nil] at this ⊢
    omega
  · intro i es2 h
    rw [leftOf_same p2]
    rcases set_get h with ⟨rfl, rfl⟩ | ⟨n, h3⟩
    · have hq : i < q.length := (List.getElem?_eq_some_iff.mp (d.dq i es hk)).1
      rw [List.getElem?_set_self hq]
      congr 1
      unfold leftOf
      rw [pus_snoc, List.filter_append]
      congr 1
      simp only [En.pu, List.filter_cons, List.filter_nil, decide_eq_true_eq]
      rw [if_pos nr]
    · rw [List.getElem?_set_ne (fun z => n z.symm)]
      exact d.dq i es2 h3
/-- an entry e of the log k removes x, which stands in the deque j -/
theorem Plog.rem {x w o : Str} {j : Nat} {ej : List En} {q' : List Str} (d : Plog top ws L fr q) (hk : L[k]? = some es) (hw : ws[k]? = some w) (hl : es.length < top) (hj : L[j]? = some ej) (ho : ws[j]? = some o) (hx : x ∈ leftOf L ej)
    (he : (j = k ∧ e = .pop x) ∨ (j ≠ k ∧ e = .steal o x)) (hq : q' = (leftOf L ej).filter fun y => decide (y ≠ x)) : Plog top ws (L.set k (es ++ [e])) fr (q.set j q') := by
  obtain ⟨x1, x2⟩ := leftOf_mem.mp hx
  have er : e.re = [x] := by rcases he with ⟨_, rfl⟩ | ⟨_, rfl⟩ <;> rfl
  have ep : e.pu = [] := by rcases he with ⟨_, rfl⟩ | ⟨_, rfl⟩ <;> rfl
  have p1 := flat_set (f := pus) (es' := es ++ [e]) (g := []) (by rw [pus_snoc, ep]) hk
  have p2 := flat_set (f := res) (es' := es ++ [e]) (g := [x]) (by rw [res_snoc, er]) hk
  rw [List.append_nil] at p1
  have xnm : IsNm x := by
    have := (d.v.ent ej (List.mem_of_getElem? hj)).2 _ (mem_pus.mp x1)
    exact this
  have onm : IsNm o := d.v.wk.2.2.2 o (List.mem_of_getElem? ho)
  have ndr : (L.flatMap res ++ [x]).Nodup := List.nodup_append.mpr ⟨d.v.re, by simp, fun a ha b hb e => x2 (by rw [← List.mem_singleton.mp hb, ← e]; exact ha)⟩
  refine ⟨d.v.app hk hl ?_ (by rw [ep, List.append_nil]; exact d.v.pu) (by rw [er]; exact ndr) ?_ ?_, (p1.append_right fr).nodup_iff.mpr d.pf, by rw [p1.length_eq]; exact d.cnt, d.frn, by rw [List.length_set]; exact d.ql, ?_⟩
  · rcases he with ⟨_, rfl⟩ | ⟨_, rfl⟩
    · exact xnm
    · exact ⟨onm, xnm⟩
  · intro y hy
    rcases he with ⟨rfl, rfl⟩ | ⟨_, rfl⟩
    · cases hy
      rw [hj] at hk
      cases hk
      exact mem_pus.mp x1
    · cases hy
  · intro w2 o2 y h1 h2
    rcases he with ⟨_, rfl⟩ | ⟨hne, rfl⟩
    · cases h2
    · cases h2
      rw [hw] at h1
      cases h1
      refine ⟨fun z => hne ?_, j, ej, ho, hj, mem_pus.mp x1⟩
      subst z
      exact (List.getElem?_inj (List.getElem?_eq_some_iff.mp ho).1 d.v.wk.2.2.1).mp (ho.trans hw.symm)
  · intro i es2 h
    have step : ∀ {i : Nat} {e3 : List En}, L[i]? = some e3 → (q.set j q')[i]? = some (leftOf (L.set k (es ++ [e])) e3) := fun {i e3} h3 => by
      rw [leftOf_rem p2]
      by_cases hij : i = j
      · subst hij
        rw [hj] at h3
        cases h3
        rw [List.getElem?_set_self (List.getElem?_eq_some_iff.mp (d.dq i ej hj)).1, hq]
      · rw [List.getElem?_set_ne (fun z => hij z.symm), d.dq i e3 h3]
        congr 1
        exact (filter_ne_not fun z => d.apart hj h3 hij x1 (leftOf_mem.mp z).1).symm
    rcases set_get h with ⟨rfl, rfl⟩ | ⟨_, h3⟩
    · have := step hk
      rw [this]
      congr 1
      unfold leftOf
      rw [pus_snoc, ep, List.append_nil]
    · exact step h3
theorem Plog.nil (h : WkOk ws) (hl : fr.length = 6 * top) (hd : fr.Nodup) (hn : ∀ z ∈ fr, IsNm z) : Plog top ws (List.replicate ws.length []) fr (List.replicate ws.length []) := by
  refine ⟨Vlog.nil h, by rw [flatMap_nil_rep rfl]; exact hd, by rw [flatMap_nil_rep rfl]; simpa using hl, hn, by rw [List.length_replicate], fun k es h1 => ?_⟩
  have h2 := (List.mem_replicate.mp (List.mem_of_getElem? h1)).2
  subst h2
  have h3 : k < ws.length := by
    have := (List.getElem?_eq_some_iff.mp h1).1
    rw [List.length_replicate] at this
    exact this
  rw [List.getElem?_replicate, if_pos h3]
  rfl
end
end Vx

set_option Elab.async false
set_option linter.all false
set_option maxRecDepth 100000
set_option maxHeartbeats 8000000
namespace Vx
open PySem PySem.Spec PyProof.Rows L2 Evl
theorem x_neD {X : Cx} {K : PySem.W.Frag} (hK : X.K = K) (hu : X.A.units + 64 < cLine) : OpR X (compareOp .NotEq) (rNeD K) := by
  subst hK
  exact op_neD hu
def spPlayed (K : PySem.W.Frag) : Sp := fun vs H Q _ => ∃ (s : Addr) (n m : Nat), vs = [.ref s, .int (m : Int)] ∧ Src H s n ∧ n + 4000 ≤ 1000000000 ∧ 1 ≤ m ∧ m ≤ 60 ∧
  ∀ (p d1 d2 po : Addr) (ws : List Str) (ps qs : List Addr) (L : List (List En)) (H' : Hp), H p = none → KB s H H' → Src H' s (n + 4000) → H' p = some (.lst [.ref d1, .ref d2, .ref po]) → HL H' d1 ws ps L → (∀ p ∈ ps, H p = none) → ps.Nodup →
    H' d2 = some (.dK (Dk ws qs)) → qs.length = ws.length → (∀ (k : Nat) r es, qs[k]? = some r → L[k]? = some es → H' r = some (.lst ((leftOf L es).map V.str))) → Vlog m ws L → Q (.ref p) H'
structure Ap2 (s pw pf po : Addr) (ps qs : List Addr) (H : Hp) : Prop where
  wf : pw ≠ pf
  wo : pw ≠ po
  fo : pf ≠ po
  nw : pw ≠ s
  nf : pf ≠ s
  no : po ≠ s
  al : ∀ p ∈ ps ++ qs, p ≠ pw ∧ p ≠ pf ∧ p ≠ po ∧ p ≠ s ∧ H p = none
  pq : ∀ p ∈ ps, ∀ r ∈ qs, p ≠ r
  pn : ps.Nodup
  qn : qs.Nodup
  f0 : H pf = none
  o0 : H po = none
structure PlH (s d1 d2 pw pf po : Addr) (ws : List Str) (ps qs : List Addr) (H H' : Hp) (n : Nat) (L : List (List En)) (fr : List Str) (q : List (List Str)) (os : List Str) : Prop where
  kb : KB s H H'
  src : Src H' s n
  hw : H' pw = some (.lst (ws.map V.str))
  hl : HL H' d1 ws ps L
  dd : H' d2 = some (.dK (Dk ws qs))
  ql : qs.length = ws.length
  qv : ∀ (k : Nat) r x, qs[k]? = some r → q[k]? = some x → H' r = some (.lst (x.map V.str))
  hf : H' pf = some (.lst (fr.map V.str))
  ho : H' po = some (.lst (os.map V.str))
section
variable {s d1 d2 pw pf po : Addr} {ws : List Str} {ps qs : List Addr} {H H' H2 : Hp} {n n2 : Nat} {L : List (List En)} {fr : List Str} {q : List (List Str)} {os : List Str}
theorem Ap2.inP (a : Ap2 s pw pf po ps qs H) {p : Addr} (h : p ∈ ps) : p ≠ pw ∧ p ≠ pf ∧ p ≠ po ∧ p ≠ s ∧ H p = none := a.al p (List.mem_append_left _ h)
theorem Ap2.inQ (a : Ap2 s pw pf po ps qs H) {p : Addr} (h : p ∈ qs) : p ≠ pw ∧ p ≠ pf ∧ p ≠ po ∧ p ≠ s ∧ H p = none := a.al p (List.mem_append_right _ h)
theorem PlH.nd1 (l : PlH s d1 d2 pw pf po ws ps qs H H' n L fr q os) {p : Addr} {vs : List V} (h : H' p = some (.lst vs)) : d1 ≠ p := fun z => by
  have := l.hl.dk
  rw [z, h] at this
  cases this
theorem PlH.nd2 (l : PlH s d1 d2 pw pf po ws ps qs H H' n L fr q os) {p : Addr} {vs : List V} (h : H' p = some (.lst vs)) : d2 ≠ p := fun z => by
  have := l.dd
  rw [z, h] at this
  cases this
theorem PlH.turn (l : PlH s d1 d2 pw pf po ws ps qs H H' n L fr q os) (a : Ap2 s pw pf po ps qs H) (k : KB s H' H2) (S : Src H2 s n2) : PlH s d1 d2 pw pf po ws ps qs H H2 n2 L fr q os := by
  obtain ⟨ys, hs⟩ := l.src.at_
  exact ⟨l.kb.trans k, S, k _ _ a.nw l.hw, l.hl.kb k hs fun p hp => (a.inP hp).2.2.2.1, k _ _ (l.nd2 hs) l.dd, l.ql, fun i r x h1 h2 => k _ _ (a.inQ (List.mem_of_getElem? h1)).2.2.2.1 (l.qv i r x h1 h2), k _ _ a.nf l.hf, k _ _ a.no l.ho⟩
theorem PlH.ex (l : PlH s d1 d2 pw pf po ws ps qs H H' n L fr q os) (a : Ap2 s pw pf po ps qs H) (e : Ex H' H2) : PlH s d1 d2 pw pf po ws ps qs H H2 n L fr q os := l.turn a (kb_ex e) (l.src.ex e)
theorem PlH.le (l : PlH s d1 d2 pw pf po ws ps qs H H' n L fr q os) (h : n ≤ n2) : PlH s d1 d2 pw pf po ws ps qs H H' n2 L fr q os := ⟨l.kb, l.src.le h, l.hw, l.hl, l.dd, l.ql, l.qv, l.hf, l.ho⟩
theorem PlH.app {k : Nat} {pk a : Addr} {es : List En} {e : En} {lv : List V} (l : PlH s d1 d2 pw pf po ws ps qs H H' n L fr q os) (ap : Ap2 s pw pf po ps qs H) (hpk : ps[k]? = some pk) (hes : L[k]? = some es) (hlv : H' pk = some (.lst lv))
    (ha : H' a = some (.tup e.vs)) : PlH s d1 d2 pw pf po ws ps qs H (upd H' pk (.lst (lv ++ [.ref a]))) n (L.set k (es ++ [e])) fr q os := by
  have pm := List.mem_of_getElem? hpk
  obtain ⟨a1, a2, a3, a4, a5⟩ := ap.inP pm
  have tk : TK H' (upd H' pk (.lst (lv ++ [.ref a]))) := tk_upd hlv
  refine ⟨l.kb.updN (Or.inl a5), l.src.upd a4.symm, by rw [upd_ne a1.symm]; exact l.hw, ?_, by rw [upd_ne (l.nd2 hlv)]; exact l.dd, l.ql, fun i r x h1 h2 => by rw [upd_ne (ap.pq pk pm r (List.mem_of_getElem? h1)).symm]; exact l.qv i r x h1 h2, by rw [upd_ne a2.symm]; exact l.hf, by rw [upd_ne a3.symm]; exact l.ho⟩
  refine l.hl.set ap.pn tk (upd_ne (l.nd1 hlv)) hpk (fun p _ h => upd_ne h) ?_
  rw [List.map_append]
  exact (l.hl.lg k pk es hpk hes).app tk hlv upd_same (tk _ _ ha)
theorem PlH.setQ {k : Nat} {rk : Addr} {x y : List Str} (l : PlH s d1 d2 pw pf po ws ps qs H H' n L fr q os) (ap : Ap2 s pw pf po ps qs H) (hrk : qs[k]? = some rk) (hx : q[k]? = some x) : PlH s d1 d2 pw pf po ws ps qs H (upd H' rk (.lst (y.map V.str))) n L fr (q.set k y) os := by
  have rm := List.mem_of_getElem? hrk
  have old := l.qv k rk x hrk hx
  obtain ⟨a1, a2, a3, a4, a5⟩ := ap.inQ rm
  have tk : TK H' (upd H' rk (.lst (y.map V.str))) := tk_upd old
  refine ⟨l.kb.updN (Or.inl a5), l.src.upd a4.symm, by rw [upd_ne a1.symm]; exact l.hw, ⟨by rw [upd_ne (l.nd1 old)]; exact l.hl.dk, l.hl.pl, fun i p es h1 h2 => (l.hl.lg i p es h1 h2).keep tk (upd_ne (ap.pq p (List.mem_of_getElem? h1) rk rm))⟩, by rw [upd_ne (l.nd2 old)]; exact l.dd, l.ql, fun i r z h1 h2 => ?_, by rw [upd_ne a2.symm]; exact l.hf, by rw [upd_ne a3.symm]; exact l.ho⟩
  by_cases e : k = i
  · subst e
    rw [hrk] at h1
    cases h1
    rw [List.getElem?_set_self (List.getElem?_eq_some_iff.mp hx).1] at h2
    cases h2
    exact upd_same
  · rw [List.getElem?_set_ne e] at h2
    have : r ≠ rk := fun z2 => e (by
      subst z2
      exact (List.getElem?_inj (List.getElem?_eq_some_iff.mp hrk).1 ap.qn).mp (hrk.trans h1.symm))
    rw [upd_ne this]
    exact l.qv i r z h1 h2
theorem PlH.popF {x : Str} (l : PlH s d1 d2 pw pf po ws ps qs H H' n L (fr ++ [x]) q os) (ap : Ap2 s pw pf po ps qs H) : PlH s d1 d2 pw pf po ws ps qs H (upd H' pf (.lst ((fr ++ [x]).map V.str).dropLast)) n L fr q os := by
  have tk : TK H' (upd H' pf (.lst ((fr ++ [x]).map V.str).dropLast)) := tk_upd l.hf
  refine ⟨l.kb.updN (Or.inl ap.f0), l.src.upd ap.nf.symm, by rw [upd_ne ap.wf]; exact l.hw, ⟨by rw [upd_ne (l.nd1 l.hf)]; exact l.hl.dk, l.hl.pl, fun i p es h1 h2 => (l.hl.lg i p es h1 h2).keep tk (upd_ne (ap.inP (List.mem_of_getElem? h1)).2.1)⟩, by rw [upd_ne (l.nd2 l.hf)]; exact l.dd, l.ql, fun i r x h1 h2 => by rw [upd_ne (ap.inQ (List.mem_of_getElem? h1)).2.1]; exact l.qv i r x h1 h2, ?_, by rw [upd_ne ap.fo.symm]; exact l.ho⟩
  rw [upd_same, List.map_append]
  have : (fr.map V.str ++ [x].map V.str).dropLast = fr.map V.str := List.dropLast_concat
  rw [this]
theorem PlH.appO {x : Str} (l : PlH s d1 d2 pw pf po ws ps qs H H' n L fr q os) (ap : Ap2 s pw pf po ps qs H) : PlH s d1 d2 pw pf po ws ps qs H (upd H' po (.lst (os.map V.str ++ [.str x]))) n L fr q (os ++ [x]) := by
  have tk : TK H' (upd H' po (.lst (os.map V.str ++ [.str x]))) := tk_upd l.ho
  refine ⟨l.kb.updN (Or.inl ap.o0), l.src.upd ap.no.symm, by rw [upd_ne ap.wo]; exact l.hw, ⟨by rw [upd_ne (l.nd1 l.ho)]; exact l.hl.dk, l.hl.pl, fun i p es h1 h2 => (l.hl.lg i p es h1 h2).keep tk (upd_ne (ap.inP (List.mem_of_getElem? h1)).2.2.1)⟩, by rw [upd_ne (l.nd2 l.ho)]; exact l.dd, l.ql, fun i r x h1 h2 => by rw [upd_ne (ap.inQ (List.mem_of_getElem? h1)).2.2.1]; exact l.qv i r x h1 h2, by rw [upd_ne ap.fo]; exact l.hf, by rw [upd_same, List.map_append]; rfl⟩
end
theorem dp_strs {K : PySem.W.Frag} {H : Hp} : ∀ q : List Str, DpAll K H (q.map V.str) (q.map PyData.str)
  | [] => .nil
  | x :: q => .cons (.str x) (dp_strs q)
theorem deep_strs : ∀ q : List Str, PyData.depthAll (q.map PyData.str) = 0
  | [] => rfl
  | x :: q => by
    rw [List.map_cons]
    simp only [PyData.depthAll, PyData.depth, deep_strs q]
    decide
theorem IsNm.strOk {x : Str} (h : IsNm x) : PyData.strOk x = true := by
  unfold PyData.strOk
  rw [← Array.all_toList, List.all_eq_true]
  intro c hc
  have := (h.2.2 c hc).2
  simp only [decide_eq_true_eq]
  omega
theorem lay_strs : ∀ q : List Str, (∀ x ∈ q, IsNm x) → PyData.canLayAll0 (q.map PyData.str) = true
  | [], _ => rfl
  | x :: q, h => by
    rw [List.map_cons]
    simp only [PyData.canLayAll0, PyData.canLay0, lay_strs q (fun y hy => h y (List.mem_cons_of_mem _ hy)), (h x (List.mem_cons_self ..)).strOk]
    decide
theorem shaped_strs (q : List Str) (h : ∀ x ∈ q, IsNm x) : SeqAt.shaped (.list (q.map PyData.str)) = true := by
  unfold SeqAt.shaped
  simp only [PyData.depth, PyData.canLay0, deep_strs, lay_strs q h]
  decide
theorem ev_neE {K : PySem.W.Frag} {σ : L2.St} {H : Hp} {te : TE} {p : Addr} {q : List Str} (h : Ev te σ H (.ref p)) (hp : H p = some (.lst (q.map V.str))) (hn : ∀ x ∈ q, IsNm x) : Ev (tOp (rNeD K) te (tLst tNil)) σ H (.bl (!decide (q = []))) :=
  ev_opL h (el_lst ea_nil (by decide)) fun r H1 h1 e1 H2 e2 Q q2 => ⟨.list (q.map PyData.str), .list [], .lst (sq_of (e2 _ _ (e1 _ _ hp))) (dp_strs q), .lst (sq_of (e2 _ _ h1)) .nil, shaped_strs q hn, rfl, by
    have : PyData.eqv (.list (q.map PyData.str)) (.list []) = decide (q = []) := by
      cases q with
      | nil => rfl
      | cons x q => rfl
    rw [this]
    exact q2 H2 (Ex.refl _)⟩
theorem te_rows {K : PySem.W.Frag} {σ : L2.St} {H : Hp} {tl : TE} {j : Nat} {vs : List Nat} {pw : Addr} {ws : List Str} {Q : VK} (h : Ev tl σ H (.ref pw)) (hw : H pw = some (.lst (ws.map V.str))) (hl : ws.length ≤ 1000) (nd : ws.Nodup)
    (hj : ∀ x, ((wipe σ vs).set j (some x))[j]? = some (some x)) (hwp : ∀ x, wipe ((wipe σ vs).set j (some x)) vs = wipe σ vs)
    (k : ∀ d ps H2, H d = none → Ex H H2 → H2 d = some (.dK (Dk ws ps)) → New H H2 ws.length ps → Q (.ref d) H2) :
      tCB (rDictP K) (tCons (tLc (iList K tl) (gName j) tYes (tTup (tCons (tVar j) (tCons (tLst tNil) tNil))) vs) tNil) σ H Q :=
  ev_rows h hw hl nd hj hwp H (Ex.refl H) Q k
theorem te_pop {K : PySem.W.Frag} {σ : L2.St} {H : Hp} {to : TE} {a y : V} {r : Addr} {xs : List V} {Q : VK} (h : Ev to σ H (.ref r)) (hr : H r = some (.lst xs)) (hy : xs[xs.length - 1]? = some y)
    (k : ∀ H1, Ex H H1 → ∀ t, (upd H1 r (.lst xs.dropLast)) t = none → Q (.ref t) (upd (upd H1 r (.lst xs.dropLast)) t (.tup [a, y]))) : tTup (tCons (tC a) (tCons (tBM0 K "list" rPop to) tNil)) σ H Q :=
  h H (Ex.refl H) _ fun H1 e1 => ⟨.inl ⟨rfl, _, sq_of (e1 _ _ hr)⟩, r, xs, y, rfl, rfl, e1 _ _ hr, hy, (by show 2 ≤ sizeLine; decide), fun t ht => k H1 e1 t ht⟩
theorem te_first {K : PySem.W.Frag} {σ : L2.St} {H : Hp} {to : TE} {a b y : V} {j : Nat} {r : Addr} {xs : List V} {Q : VK} (hb : σ[j]? = some (some b)) (h : Ev to σ H (.ref r)) (hr : H r = some (.lst (y :: xs)))
    (k : ∀ H1, Ex H H1 → ∀ t, (upd H1 r (.lst xs)) t = none → Q (.ref t) (upd (upd H1 r (.lst xs)) t (.tup [a, b, y]))) : tTup (tCons (tC a) (tCons (tVar j) (tCons (tBM K "list" rPopAt to (tCons (tC (.int 0)) tNil)) tNil))) σ H Q :=
  ⟨b, hb, h H (Ex.refl H) _ fun H1 e1 => ⟨.inl ⟨rfl, _, sq_of (e1 _ _ hr)⟩, r, y :: xs, 0, 0, y, rfl, rfl, e1 _ _ hr, by decide, by decide, seqIx (by decide) (by rw [List.length_cons]; omega), rfl, (by show 3 ≤ sizeLine; decide), fun t ht => k H1 e1 t ht⟩⟩
theorem s_rows2 {K : PySem.W.Frag} {D : Ends} {σ : L2.St} {H : Hp} {tl : TE} {i i2 i3 j : Nat} {vs : List Nat} {pw : Addr} {ws : List Str} (h : ∀ H', Ev tl σ H' (.ref pw)) (hw : H pw = some (.lst (ws.map V.str))) (hl : ws.length ≤ 1000) (nd : ws.Nodup)
    (hj : ∀ x, ((wipe σ vs).set j (some x))[j]? = some (some x)) (hwp : ∀ x, wipe ((wipe σ vs).set j (some x)) vs = wipe σ vs)
    (k : ∀ d1 ps H2 d2 qs H3 po, H d1 = none → Ex H H2 → H2 d1 = some (.dK (Dk ws ps)) → New H H2 ws.length ps → H2 d2 = none → Ex H2 H3 → H3 d2 = some (.dK (Dk ws qs)) → New H2 H3 ws.length qs → H3 po = none → D.nx (((σ.set i (some (.ref d1))).set i2 (some (.ref d2))).set i3 (some (.ref po))) (upd H3 po (.lst []))) :
      tPar3 i i2 i3 (tCons (tCB (rDictP K) (tCons (tLc (iList K tl) (gName j) tYes (tTup (tCons (tVar j) (tCons (tLst tNil) tNil))) vs) tNil)) (tCons (tCB (rDictP K) (tCons (tLc (iList K tl) (gName j) tYes (tTup (tCons (tVar j) (tCons (tLst tNil) tNil))) vs) tNil)) (tCons (tLst tNil) tNil))) D σ H := by
  unfold tPar3
  refine ev_rows (h H) hw hl nd hj hwp H (Ex.refl H) _ fun d1 ps H2 n2 e2 hd1 new => ?_
  refine ev_rows (h H2) (e2 _ _ hw) hl nd hj hwp H2 (Ex.refl H2) _ fun d2 qs H3 n3 e3 hd2 new2 => ?_
  exact ⟨(by show 0 ≤ sizeLine; decide), fun po hpo => ⟨_, _, _, rfl, k d1 ps H2 d2 qs H3 po n2 e2 hd1 new n3 e3 hd2 new2 hpo⟩⟩
section
variable {P : Program} {w : World} {K : PySem.W.Frag} {mg : Str → Option Value} {base : Heap}
end
end Vx

set_option Elab.async false
set_option linter.all false
set_option maxRecDepth 100000
set_option maxHeartbeats 4000000
namespace Vx
open PySem PySem.Spec PyProof.Rows L2 Evl
/-! defs that are called where no repr is under way -/
structure FnG (P : Program) (w : World) (K : PySem.W.Frag) (mg : Str → Option Value) (base : Heap) (k : Nat) (f : Addr) (fd : FuncData) (ps : List Str) (sp : Sp) : Prop where
  len : ∀ vs H Q E, sp vs H Q E → vs.length = ps.length
  run : ∀ (A : Around) (outer : List Env) (s : Shared) (H : Hp) (args : Args) (us : List Value) (vs : List V) (Q : VK) (E : XK), A.guards = some [] → Room k A → Env0 P w K mg base A outer s H → BindsTo s fd args (ps.zip us) → Vals vs us → sp vs H Q E →
    codeAny (model P w) A (.call (.ref f) args) (CR CX0 outer P w H s Q E) s
section
variable {P : Program} {w : World} {K : PySem.W.Frag} {mg : Str → Option Value} {base : Heap}
theorem fun_okG {x qual : Str} {st : Stmt} {f : Addr} {fd : FuncData} {N ps : List Str} {k : Nat} {sp : Sp} (F : Fun K x qual st f fd) (S : FnScope N ps (defScope st)) (len : ∀ vs H Q E, sp vs H Q E → vs.length = ps.length)
    (body : ∀ (cdv : Value) (A : Around) (outer : List Env) (s : Shared) (H : Hp) (vs : List V) (Q : VK) (E : XK), A.guards = some [] → Room k (A.deeper (envOfC qual (defScope st) s.heap.objs.size f cdv)) → sp vs H Q E →
      ∃ t, PSs (cxOf CX0 P w K mg base N qual (defScope st) f cdv A outer s H E).nox (defBody st) t ∧ t { nx := fun _ H' => Q .non H', rt := Q } (start N vs) H) : FnG P w K mg base (k + 1) f fd ps sp := by
  obtain ⟨oc, od, kV, doc, pm, an, cdv, ct, osl, rfl, look, code⟩ := F.ex
  refine ⟨len, fun A outer s H args us vs Q E quiet room e0 bind rel hs => ?_⟩
  have here : ∀ b o, base.get? b = some o → s.heap.get? b = some o := fun b o e => (e0.bs b o e).1
  have kin : K.In s.heap := e0.mod.kin.keeps here
  have kinds : ∀ y ∈ ps.zip us, (defScope st).names.lookup y.1 = some .local ∨ ((defScope st).names.lookup y.1 = some .cell ∧ ((cellsFrom (s.heap.objs.size + 1) (defScope st).names []).lookup y.1).isSome = true) := by
    rintro ⟨nm, v⟩ hy
    exact (S.par nm (List.of_mem_zip hy).1).imp id fun z => ⟨z, PySem.W.cellsFrom_some _ _ _ (.inl z)⟩
  refine codeAny_call_function room.depth (kin _ _ look) rfl S.co S.gen rfl (PySem.W.codeRec_of kin code) (bind _ _ _ _ (wpAny_newFunctionEnv_cells S.kind kinds ?_))
  rintro env rfl s1 made
  refine ⟨(e0.mod.nolimit.keeps here).keeps made.toInCall.keep, codeAny_func ?_⟩
  obtain ⟨t, reads, holds⟩ := body cdv A outer s H vs Q E quiet (room.deeper _) hs
  have I := inv_start (CX := CX0) (K := K) (mg := mg) (base := base) (E := E) S room.hd e0 (len _ _ _ _ hs) rel made
  refine wpAny_mono (reads.nox.run [] s1 (start N vs) H _ I holds) (fun fl s2 z => ?_) fun e s2 z => z
  cases fl with
  | ret u =>
    obtain ⟨v, σ2, H2, J, rv, q⟩ := z
    exact ⟨v, H2, J.os, J.bare, J.base, J.hok, rv, q⟩
  | next =>
    obtain ⟨σ2, H2, J, q⟩ := z
    exact ⟨.non, H2, J.os, J.bare, J.base, J.hok, rfl, q⟩
  | brk => exact z.elim fun _ z => z.elim fun _ z => z.2.elim
  | cont => exact z.elim fun _ z => z.elim fun _ z => z.2.elim
structure GoodG (P : Program) (w : World) (K : PySem.W.Frag) (mg : Str → Option Value) (base : Heap) (k : Nat) (x : Str) (ps : List Str) (sp : Sp) : Prop where
  ex : ∃ f fd, FnG P w K mg base k f fd ps sp ∧ mg x = some (.ref f) ∧ PySem.W.keepIn K (.ref f) = true ∧ Binds K fd ps []
theorem Def.goodG {x : Str} {st : Stmt} {N ps : List Str} {k : Nat} {sp : Sp} (D : Def K mg x st ps) (S : FnScope N ps (defScope st)) (len : ∀ vs H Q E, sp vs H Q E → vs.length = ps.length)
    (body : ∀ (f : Addr) (cdv : Value) (A : Around) (outer : List Env) (s : Shared) (H : Hp) (vs : List V) (Q : VK) (E : XK), A.guards = some [] → Room k (A.deeper (envOfC x (defScope st) s.heap.objs.size f cdv)) → sp vs H Q E →
      ∃ t, PSs (cxOf CX0 P w K mg base N x (defScope st) f cdv A outer s H E).nox (defBody st) t ∧ t { nx := fun _ H' => Q .non H', rt := Q } (start N vs) H) : GoodG P w K mg base (k + 1) x ps sp := by
  obtain ⟨f, fd, F, m, b⟩ := D.ex
  exact ⟨f, fd, fun_okG F S len fun cdv A outer s H vs Q E qu hr h => body f cdv A outer s H vs Q E qu hr h, m, F.kp, b⟩
end
section
variable {X : Cx} {k : Nat} {x : Str} {ps : List Str} {sp : Sp} {p pos : Pos} {e : Expr} {es : List Expr} {t : TA}
theorem pe_fnG (g : GoodG X.prog X.w X.K X.mg X.base k x ps sp) (quiet : X.A.guards = some []) (room : Room k X.A) (ha : PA X (e :: es) t) (hg : Gl X x := by rfl)
    (hd : (x == ("__debug__" : Str)) = false := by decide) (he : starEach (e :: es) X.env = (false, eval e X.env) :: starEach es X.env := by rfl)
    (hp : (backTo pos (starEach es X.env)).any (·.1) = false := by rfl) : PE X (.Call (.Name x p) (e :: es) [] pos) (tCall sp [] E0 t) := by
  obtain ⟨f, fd, F, m, kp, b⟩ := g.ex
  refine ⟨fun pins s σ H Q I h => wpAny_Call_Name_kw (ld_glob I hg m (PySem.W.callWith_K (h₀ := X.base) I.ok.mod.kin kp (thn (ha.run pos pins s σ H _ I h) fun us s1 ⟨vs, H1, I1, r, q⟩ => ⟨I1.kIn, ?_⟩) he hp) hd)⟩
  have q : sp (vs ++ []) H1 Q E0 := q
  rw [List.append_nil] at q
  show wpAny (model X.prog X.w) X.A (call (.ref f) us) (EP X pins σ Q) X.xe s1
  have b2 := b s1 us I1.kIn (by rw [List.append_nil, ← r.length]; exact F.len _ _ _ _ q)
  rw [List.append_nil] at b2
  refine wpAny_call (codeAny_mono (F.run X.A X.stack s1 H1 ⟨us, []⟩ us vs Q E0 quiet room I1.env0 b2 r q) fun r2 s2 z => ?_)
  rcases r2 with e2 | fl
  · exact pass0 (X := X) pins σ H1 s1 e2 s2 I1 z
  cases fl with
  | ret u => exact I1.after z
  | next => exact False.elim z
  | brk => exact False.elim z
  | cont => exact False.elim z
end
end Vx

set_option Elab.async false
set_option linter.all false
set_option maxRecDepth 100000
set_option maxHeartbeats 4000000
namespace Vx
open PySem PySem.Spec PyProof.Rows L2
section
variable {P : Program} {w : World} {K : PySem.W.Frag} {mg mb : Str → Option Value} {a : Addr} {s1 : Shared} {vs : List Value} {ns : List Int} {H : Hp}
/-- the heap behind the top, the script hidden -/
theorem head_env (kin : K.In s1.heap) (gl : s1.heap.Ns mainGlobals mg) (bi : s1.heap.Ns builtinsNs mb) (bb : ∀ x : Str, x ≠ "__name__" → mb x = bootBuiltins x) (lim : s1.heap.NoLimit) (gens : s1.gens = #[])
    (ha : s1.heap.get? a = some { cls := .type "list", data := .seq vs.toArray }) (hok : HOk P w H s1.heap) (onlyA : ∀ b, H b ≠ none → b = a) (offK : H a ≠ none → K.lookup a = none) (sm : ∃ mm, s1.heap.Ns sysModules mm) :
    Env0 P w K mg (hidT s1.heap H) callerA [] s1 H ∧ K.In (hidT s1.heap H) ∧ (hidT s1.heap H).Ns mainGlobals mg ∧ ∃ o, (hidT s1.heap H).get? sysModules = some o := by
  have seen : ∀ {b : Addr} {o : Obj}, s1.heap.get? b = some o → (b = a → H a = none) → (hidT s1.heap H).get? b = some o := fun {b o} e n => hidT_get e (by
    cases q : H b with
    | none => rfl
    | some u =>
      have ba := onlyA b (fun z => by rw [z] at q; cases q)
      rw [ba, n ba] at q
      cases q)
  have names : ∀ {b : Addr} {m : Str → Option Value}, s1.heap.Ns b m → (hidT s1.heap H).Ns b m := fun ⟨o, es, ep, e, d, r⟩ => ⟨o, es, ep, seen e fun ba => (by
    rw [ba, ha] at e
    have eo := Option.some.inj e
    rw [← eo] at d
    cases d), d, r⟩
  have kb : K.In (hidT s1.heap H) := fun b o e => seen (kin b o e) fun ba => by
    cases q : H a with
    | none => rfl
    | some u =>
      rw [ba, offK fun z => (by rw [z] at q; cases q)] at e
      cases e
  obtain ⟨mc, l1, l2⟩ := lim
  exact ⟨⟨rfl, ⟨kb, names gl, ⟨mb, names bi, bb⟩, ⟨mc, names l1, l2⟩⟩, fun b o e => of_hidT e, Nat.le_of_eq (hidT_size _ _), trivial, fun b hb => absurd (show b ∈ ([] : List Addr) from hb) (by simp), hok, .of_eq gens⟩, kb, names gl, by
    obtain ⟨mm, hm⟩ := sm
    obtain ⟨o, es, ep, e, _⟩ := names hm
    exact ⟨o, e⟩⟩
theorem head_run {k : Nat} {fa : Addr} {fd : FuncData} {x : Str} {sp : Sp} (kin : K.In s1.heap) (gl : s1.heap.Ns mainGlobals mg) (bi : s1.heap.Ns builtinsNs mb) (bb : ∀ x : Str, x ≠ "__name__" → mb x = bootBuiltins x) (lim : s1.heap.NoLimit) (gens : s1.gens = #[])
    (ha : s1.heap.get? a = some { cls := .type "list", data := .seq vs.toArray }) (hin : IntsAre vs ns) (size : ns.length ≤ sizeLine) (room : Room k callerA)
    (sm : ∃ mm, s1.heap.Ns sysModules mm) (F : ∀ base : Heap, K.In base → base.Ns mainGlobals mg → (∃ o, base.get? sysModules = some o) → FnG P w K mg base k fa fd [x] sp) (bind : ∀ (s : Shared) (u : Value), BindsTo s fd ⟨[u], []⟩ [(x, u)])
    (say : ∀ H : Hp, SqL K H a (ns.map V.int) → sp [.ref a] H (fun v _ => v = .bl true) E0) :
    codeAny (model P w) callerA (.call (.ref fa) ⟨[.ref a], []⟩) (fun r s2 => r = .ok (.ret (.bool true)) ∧ OldK s1.heap s2.heap ∧ s2.os = s1.os ∧ AllBare s2.gens) s1 := by
  have rel := vals_ints hin
  have go : ∀ H : Hp, Only H → SqL K H a (ns.map V.int) → HOk P w H s1.heap → (∀ b, H b ≠ none → b = a) → (H a ≠ none → K.lookup a = none) →
      codeAny (model P w) callerA (.call (.ref fa) ⟨[.ref a], []⟩) (fun r s2 => r = .ok (.ret (.bool true)) ∧ OldK s1.heap s2.heap ∧ s2.os = s1.os ∧ AllBare s2.gens) s1 := fun H only sq hok onlyA offK => by
    obtain ⟨e0, kb, glb, smb⟩ := head_env kin gl bi bb lim gens ha hok onlyA offK sm
    refine codeAny_mono ((F _ kb glb smb).run callerA [] s1 H ⟨[.ref a], []⟩ [.ref a] [.ref a] _ _ rfl room e0 (bind s1 (.ref a)) (.cons rfl .nil) (say H sq)) fun r s2 h => ?_
    rcases r with e | fl
    · exact False.elim h
    cases fl with
    | ret u =>
      obtain ⟨v, H2, os, bare, un, hok2, rv, rfl⟩ := h
      obtain rfl : u = Value.bool true := rv
      refine ⟨rfl, OldK.of_keep fun b o e => ?_, os, bare⟩
      rcases only b with z | ⟨ob, xs, z⟩
      · exact un.keep b o e z (fun hb => absurd (show b ∈ ([] : List Addr) from hb) (by simp)) (by simp)
      · have g1 := (hok b _ z).1
        have g2 := (hok2 b _ (un.frzs b ob _ z)).1
        rw [e] at g1
        rw [Option.some.inj g1]
        exact g2
    | next => exact False.elim h
    | brk => exact False.elim h
    | cont => exact False.elim h
  cases look : K.lookup a with
  | some o =>
    have eo := kin a o look
    rw [ha] at eo
    obtain rfl := Option.some.inj eo
    exact go (fun _ => none) (fun _ => .inl rfl) (.inr ⟨_, vs.toArray, _, look, rfl, rfl, rfl, by rw [List.size_toArray, hin.length]; exact size, by simpa using rel⟩) (fun b u z => nomatch (show (none : Option HO) = some u from z)) (fun b z => absurd rfl z) (fun z => absurd rfl z)
  | none =>
    let H0 : Hp := fun b => if b = a then some (.frz { cls := .type "list", data := .seq vs.toArray } (.lst (ns.map V.int))) else none
    have at0 : H0 a = some (.frz { cls := .type "list", data := .seq vs.toArray } (.lst (ns.map V.int))) := if_pos rfl
    have off0 : ∀ b, b ≠ a → H0 b = none := fun b h => if_neg h
    refine go H0 (fun b => ?_) (.inl (.inr ⟨_, at0⟩)) (fun b u z => ?_) (fun b z => Classical.byContradiction fun h => z (off0 b h)) fun _ => look
    · by_cases h : b = a
      · exact .inr ⟨_, _, by rw [h]; exact at0⟩
      · exact .inl (off0 b h)
    · by_cases h : b = a
      · rw [h, at0] at z
        rw [h]
        obtain rfl := Option.some.inj z
        exact ⟨ha, by rw [List.length_map]; exact size, vs, _, rel, ha⟩
      · rw [off0 b h] at z
        cases z
end
theorem walkG {l : PySem.W.OpenLaw} {n k : Nat} {q : Program} {loose : List Str} {XP : (Str → Option Value) → Heap → Prop} {YP : World → Heap → Prop} {d : DefRec} {K : Params → PySem.W.Frag} {sp : PySem.W.Frag → Sp} {x : Str}
    (hq : importsNone q = true) (hn : l.most = some n) (hn2 : n ≤ sizeLine) (hdf : d.params.defaults = []) (room : Room k callerA) (hY : ∀ (w : World) (h : Heap), YP w h → (K w.params).In h)
    (F : ∀ (w : World) (mg : Str → Option Value) (fa : Addr) (h : Heap), (K w.params).In h → h.Ns mainGlobals mg → mg d.name = some (.ref fa) →
      ∃ fd : FuncData, (∀ (s : Shared) (u : Value), BindsTo s fd ⟨[u], []⟩ [(x, u)]) ∧ ∀ base : Heap, (K w.params).In base → base.Ns mainGlobals mg → (∃ o, base.get? sysModules = some o) → FnG l.prog w (K w.params) mg base k fa fd [x] (sp (K w.params)))
    (say : ∀ (K : PySem.W.Frag) (H : Hp) (a : Addr) (ns : List Int), ns.length ≤ n → SqL K H a (ns.map V.int) → sp K [.ref a] H (fun v _ => v = .bl true) E0) :
    PySem.W.WalkO q loose XP YP l.row.toRowW d [] (fun f vs => PySem.call f vs) := by
  refine Att.attach_call hn hdf fun w s₀ s1 mg mb fa o pm cd doc a vs ns G Y ho hd hcd hmg hobj hints hlen hg => ?_
  have kin := hY w _ Y
  obtain ⟨fd, bind, hF⟩ := F w mg fa _ kin G.T.g hmg
  exact head_run kin G.T.g G.T.b G.T.builtins G.T.nolimit hg hobj hints (Nat.le_trans hlen hn2) room (let ⟨mm, h1, _⟩ := (G.T.seer hq).mods; ⟨mm, h1⟩) hF bind fun H sq => say _ H a ns hlen sq
end Vx

set_option Elab.async false
set_option linter.all false
set_option maxRecDepth 100000
set_option maxHeartbeats 4000000
namespace Vx
open PySem PySem.Spec PyProof.Rows L2
/-! repr of logs -/
def vD : V → PyData
  | .str x => .str x
  | .int i => .int i
  | _ => .none
def flat2 : V → Prop
  | .str _ => True
  | .int _ => True
  | _ => False
def En.data (e : En) : PyData := .tuple (e.vs.map vD)
def logD (es : List En) : PyData := .list (es.map En.data)
def rowD (x : Str × List En) : PyData × PyData := (.str x.1, logD x.2)
def rowsD (ws : List Str) (L : List (List En)) : PyData := .dict ((ws.zip L).map rowD)
section
variable {X : Cx} {pins : List (Addr × Obj)} {σ : L2.St} {H : Hp} {s : Shared}
theorem reads_flat {h : Heap} : ∀ {vs : List V} {us : List Value}, Vals vs us → (∀ v ∈ vs, flat2 v) → ReadsAll h us (vs.map vD) []
  | _, _, .nil, _ => .nil
  | v :: vs, u :: us, .cons r t, f => by
    have hv := f v (List.mem_cons_self ..)
    have ht := reads_flat (h := h) t fun w hw => f w (List.mem_cons_of_mem _ hw)
    cases v with
    | str x =>
      obtain ⟨k, rfl⟩ := r
      exact ReadsAll.cons (as := []) (.str x k) ht
    | int i =>
      obtain ⟨k, rfl⟩ := r
      exact ReadsAll.cons (as := []) (.int i k) ht
    | _ => exact hv.elim
theorem En.flat (e : En) : ∀ v ∈ e.vs, flat2 v := by
  cases e <;> (intro v hv; simp only [En.vs, List.mem_cons, List.mem_nil_iff, or_false] at hv)
  · rcases hv with rfl | rfl <;> trivial
  · rcases hv with rfl | rfl <;> trivial
  · rcases hv with rfl | rfl <;> trivial
  · rcases hv with rfl | rfl | rfl <;> trivial
theorem reads_en (I : L2.Inv X pins σ H s) {a : Addr} {e : En} (h : H a = some (.tup e.vs)) : Reads s.heap (.ref a) e.data [] := by
  obtain ⟨its, r, ⟨o, g1, g2, n, g3⟩, _⟩ := I.tuple (X := X) (Or.inl (Or.inl h))
  exact Reads.tuple g1 g2 g3 (by simpa using reads_flat r e.flat)
theorem reads_ens (I : L2.Inv X pins σ H s) : ∀ {as : List Addr} {es : List En}, Paired (fun a t => H a = some (.tup t)) as (es.map En.vs) → ReadsAll s.heap (as.map Value.ref) (es.map En.data) []
  | [], [], _ => .nil
  | a :: as, e :: es, .cons h t => ReadsAll.cons (as := []) (reads_en I h) (reads_ens I t)
theorem reads_log (I : L2.Inv X pins σ H s) {p : Addr} {es : List En} (h : TL H p (es.map En.vs)) : Reads s.heap (.ref p) (logD es) [p] := by
  obtain ⟨as, h1, h2⟩ := h
  obtain ⟨its, n, r, g, _⟩ := I.lst h1
  have e := refs_at r
  subst e
  exact Reads.list g rfl rfl (by simpa using reads_ens I h2)
theorem reads_rows (I : L2.Inv X pins σ H s) : ∀ {ws : List Str} {ps : List Addr} {L : List (List En)} {vs : List (Key × Value)} {es : List DictEntry}, ps.length = ws.length → L.length = ws.length → KV (Dk ws ps) vs → Pairs (mixKind X.prog X.w) es vs →
      (∀ (i : Nat) p e, ps[i]? = some p → L[i]? = some e → TL H p (e.map En.vs)) → ReadsAll s.heap (es.map (·.key)) (((ws.zip L).map rowD).map (·.1)) [] ∧ ReadsAll s.heap (es.map (·.val)) (((ws.zip L).map rowD).map (·.2)) ps
  | [], [], [], vs, es, _, _, kv, pr, _ => by
    cases kv
    cases pr
    exact ⟨.nil, .nil⟩
  | w :: ws, p :: ps, e :: L, vs, es, h1, h2, kv, pr, lg => by
    cases kv with
    | @cons _ q _ qs k t =>
      cases pr with
      | @cons en _ es _ ks vv pr =>
        obtain ⟨k1, k2⟩ := k
        obtain ⟨r1, r2⟩ := reads_rows I (ws := ws) (ps := ps) (L := L) (by simpa using h1) (by simpa using h2) t pr fun i p e a b => lg (i + 1) p e (by simpa using a) (by simpa using b)
        have hk : keyIs q.1 en.key = true := ks
        have k1' : (Sum.inr w : Key) = q.1 := k1
        rw [← k1'] at hk
        rcases keyIs_shape hk with ⟨i, t2, z, _⟩ | ⟨x, t2, z, hx⟩
        · cases z
        · have z2 : w = x := Sum.inr.inj z
          subst z2
          have hv : en.val = .ref p := vv.trans k2
          refine ⟨?_, ?_⟩
          · show ReadsAll s.heap (en.key :: es.map (·.key)) (PyData.str w :: ((ws.zip L).map rowD).map (·.1)) []
            rw [hx]
            exact ReadsAll.cons (as := []) (.str w t2) r1
          · show ReadsAll s.heap (en.val :: es.map (·.val)) (logD e :: ((ws.zip L).map rowD).map (·.2)) (p :: ps)
            rw [hv]
            exact ReadsAll.cons (as := [p]) (reads_log I (lg 0 p e rfl rfl)) r2
theorem reads_dict (I : L2.Inv X pins σ H s) {d : Addr} {ws : List Str} {ps : List Addr} {L : List (List En)} (hl : HL H d ws ps L) (ll : L.length = ws.length) : Reads s.heap (.ref d) (rowsD ws L) (d :: ps) := by
  obtain ⟨_, _, vs, kv, o, es, ep, g1, g2, g3, _, pr, _⟩ := dk_rd I.hok (Or.inl hl.dk)
  obtain ⟨r1, r2⟩ := reads_rows I hl.pl ll kv pr hl.lg
  exact Reads.dict (as := []) g1 g2.1 g3 r1 r2
end
theorem sign_strs {x : Str} (h : IsNm x) : (x.cps.toList.all fun c => decide (c < 16 ^ 8)) = true := by
  rw [List.all_eq_true]
  intro c hc
  have := (h.2.2 c hc).2
  simp only [decide_eq_true_eq]
  omega
theorem kw_nms : ∀ z ∈ (["push", "pop", "size", "steal"] : List Str), 1 ≤ z.length ∧ z.length ≤ 8 ∧ ∀ c ∈ z.cps.toList, 97 ≤ c ∧ c ≤ 122 := by decide +kernel
theorem nmP : IsNm "push" := kw_nms _ (by simp)
theorem nmO : IsNm "pop" := kw_nms _ (by simp)
theorem nmS : IsNm "size" := kw_nms _ (by simp)
theorem nmT : IsNm "steal" := kw_nms _ (by simp)
structure Small (d : PyData) (dp wt : Nat) : Prop where
  sh : d.showable = true
  sl : PyData.leavesShort 13 d = true
  dp : d.depth ≤ dp
  wt : d.weight ≤ wt
structure SmallAll (ds : List PyData) (dp wt : Nat) : Prop where
  sh : PyData.showableAll ds = true
  sl : PyData.leavesShortAll 13 ds = true
  dp : PyData.depthAll ds ≤ dp
  wt : PyData.weightAll ds ≤ wt
theorem small_str {x : Str} (h : IsNm x) : Small (.str x) 0 8 := ⟨by simp only [PyData.showable], by simp only [PyData.leavesShort]; exact sign_strs h, by simp only [PyData.depth]; exact Nat.le_refl _, by simp only [PyData.weight]; exact h.2.1⟩
theorem small_int {i : Int} (h0 : 0 ≤ i) (h1 : i ≤ 60) : Small (.int i) 0 8 := by
  have hl : i.natAbs.log2 ≤ 5 := by
    have := PySem.Flt.log2_lt_of (by decide : 0 < 6) (show i.natAbs < 2 ^ 6 by omega)
    omega
  refine ⟨by simp only [PyData.showable, decide_eq_true_eq]; omega, by simp only [PyData.leavesShort, decide_eq_true_eq]; exact PyData.shown_int_le (by omega), by simp only [PyData.depth]; exact Nat.le_refl _, ?_⟩
  simp only [PyData.weight]
  split <;> omega
theorem small_nil : SmallAll [] 0 0 := ⟨rfl, rfl, Nat.le_refl _, Nat.le_refl _⟩
theorem small_cons {x : PyData} {xs : List PyData} {dp w1 w2 : Nat} (h : Small x dp w1) (t : SmallAll xs dp w2) : SmallAll (x :: xs) dp (w1 + 1 + w2) :=
  ⟨by simp only [PyData.showableAll, h.sh, t.sh, Bool.and_self], by simp only [PyData.leavesShortAll, h.sl, t.sl, Bool.and_self], by simp only [PyData.depthAll]; exact Nat.max_le.mpr ⟨h.dp, t.dp⟩, by simp only [PyData.weightAll]; have := h.wt; have := t.wt; omega⟩
theorem SmallAll.tuple {xs : List PyData} {dp wt : Nat} (h : SmallAll xs dp wt) : Small (.tuple xs) (dp + 1) wt :=
  ⟨by simp only [PyData.showable]; exact h.sh, by simp only [PyData.leavesShort]; exact h.sl, by simp only [PyData.depth]; have := h.dp; omega, by simp only [PyData.weight]; exact h.wt⟩
theorem SmallAll.list {xs : List PyData} {dp wt : Nat} (h : SmallAll xs dp wt) : Small (.list xs) (dp + 1) wt :=
  ⟨by simp only [PyData.showable]; exact h.sh, by simp only [PyData.leavesShort]; exact h.sl, by simp only [PyData.depth]; have := h.dp; omega, by simp only [PyData.weight]; exact h.wt⟩
theorem SmallAll.le {xs : List PyData} {d1 d2 w1 w2 : Nat} (h : SmallAll xs d1 w1) (a : d1 ≤ d2) (b : w1 ≤ w2) : SmallAll xs d2 w2 := ⟨h.sh, h.sl, Nat.le_trans h.dp a, Nat.le_trans h.wt b⟩
theorem Small.le {x : PyData} {d1 d2 w1 w2 : Nat} (h : Small x d1 w1) (a : d1 ≤ d2) (b : w1 ≤ w2) : Small x d2 w2 := ⟨h.sh, h.sl, Nat.le_trans h.dp a, Nat.le_trans h.wt b⟩
theorem small_en {e : En} (h : e.ok) : Small e.data 1 30 := by
  cases e with
  | push x => exact (small_cons (small_str nmP) (small_cons (small_str (show IsNm x from h)) small_nil)).tuple.le (Nat.le_refl _) (by decide)
  | pop x => exact (small_cons (small_str nmO) (small_cons (small_str (show IsNm x from h)) small_nil)).tuple.le (Nat.le_refl _) (by decide)
  | size k => exact (small_cons (small_str nmS) (small_cons (small_int h.1 h.2) small_nil)).tuple.le (Nat.le_refl _) (by decide)
  | steal o x => exact (small_cons (small_str nmT) (small_cons (small_str h.1) (small_cons (small_str h.2) small_nil))).tuple.le (Nat.le_refl _) (by decide)
theorem small_ens : ∀ {es : List En}, (∀ e ∈ es, e.ok) → SmallAll (es.map En.data) 1 (31 * es.length)
  | [], _ => small_nil.le (by decide) (by decide)
  | e :: es, h => (small_cons (small_en (h e (List.mem_cons_self ..))) (small_ens fun x hx => h x (List.mem_cons_of_mem _ hx))).le (Nat.le_refl _) (by rw [List.length_cons]; omega)
theorem small_rows : ∀ {ws : List Str} {L : List (List En)}, (∀ x ∈ ws, IsNm x) → (∀ es ∈ L, es.length ≤ 60 ∧ ∀ e ∈ es, e.ok) → ws.length ≤ 6 →
    PyData.showableKv ((ws.zip L).map rowD) = true ∧ PyData.leavesShortKv 13 ((ws.zip L).map rowD) = true ∧ PyData.depthKv ((ws.zip L).map rowD) ≤ 2 ∧ PyData.weightKv ((ws.zip L).map rowD) ≤ 2000 * ws.length
  | [], L, _, _, _ => ⟨rfl, rfl, by show 0 ≤ 2; omega, by show 0 ≤ _; omega⟩
  | w :: ws, [], _, _, _ => ⟨rfl, rfl, by show 0 ≤ 2; omega, by show 0 ≤ _; omega⟩
  | w :: ws, es :: L, hw, hL, hl => by
    obtain ⟨a1, a2, a3, a4⟩ := small_rows (ws := ws) (L := L) (fun x hx => hw x (List.mem_cons_of_mem _ hx)) (fun e he => hL e (List.mem_cons_of_mem _ he)) (by rw [List.length_cons] at hl; omega)
    have k := small_str (hw w (List.mem_cons_self ..))
    have oe := hL es (List.mem_cons_self ..)
    have v : Small (logD es) 2 (31 * es.length) := (small_ens oe.2).list
    have e1 : (w :: ws).zip (es :: L) = (w, es) :: ws.zip L := rfl
    rw [e1, List.map_cons]
    show PyData.showableKv ((.str w, logD es) :: _) = true ∧ PyData.leavesShortKv 13 ((.str w, logD es) :: _) = true ∧ PyData.depthKv ((.str w, logD es) :: _) ≤ 2 ∧ PyData.weightKv ((.str w, logD es) :: _) ≤ _
    refine ⟨by simp only [PyData.showableKv, k.sh, v.sh, a1, Bool.and_self], by simp only [PyData.leavesShortKv, k.sl, v.sl, a2, Bool.and_self], ?_, ?_⟩
    · simp only [PyData.depthKv]
      have := k.dp
      have := v.dp
      omega
    · simp only [PyData.weightKv]
      have := k.wt
      have := v.wt
      have := oe.1
      rw [List.length_cons]
      omega
/-- repr(rows) of logs -/
def rReprL (K : PySem.W.Frag) : List V → Hp → VK → Prop := fun xs H Q => ∃ (d : Addr) (ws : List Str) (ps : List Addr) (L : List (List En)), xs = [.ref d] ∧ HL H d ws ps L ∧ Vlog 60 ws L ∧ Q (.str (rowsD ws L).shown) H
theorem call_reprL {X : Cx} {K : PySem.W.Frag} (hK : X.K = K) (quiet : X.A.guards = some []) (room : X.A.units + 64 < cLine) (hs : ∃ o, X.base.get? sysModules = some o) : CallR X (.builtin "repr") (rReprL K) := by
  intro pins s σ H xs us Q I r h
  obtain ⟨d, ws, ps, L, rfl, hl, v, q⟩ := h
  obtain ⟨u, rfl, ru⟩ := vals1 r
  cases ru
  obtain ⟨o, ho⟩ := hs
  have off : H sysModules = none := (I.bs _ _ ho).2
  obtain ⟨a1, a2, a3, a4⟩ := small_rows v.wk.2.2.2 v.ent v.wk.2.1
  have wl := v.wk.2.1
  have rd := reads_dict I hl v.len
  refine repr_of_reads' (h₀ := s.heap) rd (by simp only [rowsD, PyData.showable]; exact a1) (fun _ hm => ?_) quiet (by simp only [rowsD, PyData.depth]; omega) (fun _ _ e => e) (fun h2 t tk kp => ⟨.str (rowsD ws L).shown, H, I.kept kp, ⟨t, rfl⟩, q⟩)
    (PyData.shown_fits (B := 13) (by decide) (by decide) (by simp only [rowsD, PyData.leavesShort]; exact a2) (by simp only [rowsD, PyData.weight]; omega))
  rcases List.mem_cons.mp hm with e | hm
  · have := hl.dk
    rw [← e, off] at this
    cases this
  · obtain ⟨i, hi⟩ := List.mem_iff_getElem?.mp hm
    have hiL : i < L.length := by rw [v.len, ← hl.pl]; exact (List.getElem?_eq_some_iff.mp hi).1
    obtain ⟨as, g1, _⟩ := hl.lg i _ _ hi (List.getElem?_eq_getElem hiL)
    rw [off] at g1
    cases g1
end Vx

set_option Elab.async false
set_option linter.all false
set_option maxRecDepth 100000
set_option maxHeartbeats 8000000
namespace Vx
open PySem PySem.Spec PyProof.Rows L2 Evl
/-! f(k = v) -/
structure GoodK (P : Program) (w : World) (K : PySem.W.Frag) (mg : Str → Option Value) (base : Heap) (k : Nat) (x p1 : Str) (sp : Sp) : Prop where
  ex : ∃ f fd, FnOk P w K mg base CX0 k f fd [p1] sp ∧ mg x = some (.ref f) ∧ PySem.W.keepIn K (.ref f) = true ∧ ∀ (s : Shared) (u : Value), BindsTo s fd ⟨[], [(p1, u)]⟩ [(p1, u)]
section
variable {X : Cx} {k : Nat} {x p1 : Str} {sp : Sp} {p pos : Pos} {kws : List Keyword} {te : TE}
theorem pe_fnK0 (g : GoodK X.prog X.w X.K X.mg X.base k x p1 sp) (room : Room k X.A) (hkw : PK X kws (tCons te tNil)) (hg : Gl X x := by rfl) (hd : (x == ("__debug__" : Str)) = false := by decide)
    (hall : (backToKw pos (keywordEach kws X.env)).all (·.1.isSome) = true := by rfl) (hks : (backToKw pos (keywordEach kws X.env)).filterMap (·.1) = [p1] := by rfl)
    (hpl : ((backTo pos (starEach [] X.env)).any (·.1) || (backToKw pos (keywordEach kws X.env)).any (·.1.isNone)) = false := by rfl) : PE X (.Call (.Name x p) [] kws pos) (tCall sp [] E0 (tCons te tNil)) := by
  obtain ⟨f, fd, F, m, kp, b⟩ := g.ex
  refine ⟨fun pins s σ H Q I h => wpAny_Call_Name_kw (ld_glob I hg m (PySem.W.callWith_KW0 (h₀ := X.base) I.ok.mod.kin kp hall (thn (hkw.run pos pins s σ H _ I h) fun us s1 ⟨vs, H1, I1, r, q⟩ => ⟨I1.kIn, ?_⟩) hpl) hd)⟩
  have q : sp (vs ++ []) H1 Q E0 := q
  rw [List.append_nil] at q
  rw [hks]
  have hl := F.len _ _ _ _ q
  obtain ⟨v, rfl⟩ : ∃ v, vs = [v] := by
    match vs, hl with
    | [v], _ => exact ⟨v, rfl⟩
  obtain ⟨u, rfl, _⟩ := vals1 r
  show wpAny (model X.prog X.w) X.A (call (.ref f) [] [(p1, u)]) (EP X pins σ Q) X.xe s1
  refine wpAny_call (codeAny_mono (F.run X.A X.stack s1 H1 ⟨[], [(p1, u)]⟩ [u] [v] Q E0 room I1.env0 (b s1 u) r q) fun r2 s2 z => ?_)
  rcases r2 with e2 | fl
  · exact pass0 (X := X) pins σ H1 s1 e2 s2 I1 z
  cases fl with
  | ret u => exact I1.after z
  | next => exact False.elim z
  | brk => exact False.elim z
  | cont => exact False.elim z
end
end Vx
namespace Vx
open PySem PySem.Spec PyProof.Rows L2 Evl
def leS (a b : Str) : Prop := ltCps b.cps.toList a.cps.toList = false
theorem leS_iff {a b : Str} : leS a b ↔ ¬ b.cps.toList < a.cps.toList := by
  unfold leS
  rw [ltCps_eq]
  simp
theorem leS_trans {a b c : Str} (h1 : leS a b) (h2 : leS b c) : leS a c := by
  rw [leS_iff, List.not_lt] at *
  exact List.le_trans h1 h2
theorem leS_anti {a b : Str} (h1 : leS a b) (h2 : leS b a) : a = b := by
  rw [leS_iff, List.not_lt] at *
  have := List.le_antisymm h1 h2
  cases a
  cases b
  congr 1
  exact Array.toList_inj.mp this
theorem rising_pw : ∀ (xs : List Str) (p : Str), risingS p xs = true → (p :: xs).Pairwise leS
  | [], p, _ => by simp
  | x :: xs, p, h => by
    unfold risingS at h
    rw [Bool.and_eq_true] at h
    have h1 : leS p x := by
      unfold leS
      simpa using h.1
    have ih := rising_pw xs x h.2
    refine List.pairwise_cons.mpr ⟨fun y hy => ?_, ih⟩
    rcases List.mem_cons.mp hy with rfl | hy
    · exact h1
    · exact leS_trans h1 ((List.pairwise_cons.mp ih).1 y hy)
theorem sorted_pw {xs : List Str} (h : sortedS xs = true) : xs.Pairwise leS := by
  cases xs with
  | nil => exact List.Pairwise.nil
  | cons x xs => exact rising_pw xs x h
theorem sorted_one {xs ys : List Str} (p : xs.Perm ys) (h1 : sortedS xs = true) (h2 : sortedS ys = true) : xs = ys :=
  p.eq_of_pairwise (fun _ _ _ _ a b => leS_anti a b) (sorted_pw h1) (sorted_pw h2)
theorem map_one {α β : Type} {f : α → β} : ∀ {xs ys T : List α}, (T.map f).Nodup → (∀ x ∈ xs, x ∈ T) → (∀ y ∈ ys, y ∈ T) → xs.map f = ys.map f → xs = ys
  | [], [], _, _, _, _, _ => rfl
  | [], _ :: _, _, _, _, _, h => by cases h
  | _ :: _, [], _, _, _, _, h => by cases h
  | x :: xs, y :: ys, T, nd, hx, hy, h => by
    rw [List.map_cons, List.map_cons] at h
    injection h with h1 h2
    have e : x = y := by
      have a := hx x (List.mem_cons_self ..)
      have b := hy y (List.mem_cons_self ..)
      obtain ⟨i, hi⟩ := List.mem_iff_getElem?.mp a
      obtain ⟨j, hj⟩ := List.mem_iff_getElem?.mp b
      have g1 : (T.map f)[i]? = some (f x) := by rw [List.getElem?_map, hi]; rfl
      have g2 : (T.map f)[j]? = some (f x) := by rw [List.getElem?_map, hj, h1]; rfl
      have := (List.getElem?_inj (List.getElem?_eq_some_iff.mp g1).1 nd).mp (g1.trans g2.symm)
      subst this
      rw [hi] at hj
      exact Option.some.inj hj
    rw [e, map_one nd (fun z hz => hx z (List.mem_cons_of_mem _ hz)) (fun z hz => hy z (List.mem_cons_of_mem _ hz)) h2]
/-- the sorted logs are one list -/
theorem lgs_one {ws : List Str} {ps : List Addr} {L : List (List En)} {zs ys : List Lg} (nd : ws.Nodup) (h1 : ps.length = ws.length) (h2 : L.length = ws.length) (pz : zs.Perm (lgs ws ps L)) (py : ys.Perm (lgs ws ps L)) (sz : sortedS (zs.map (·.1)) = true) (sy : sortedS (ys.map (·.1)) = true) : zs = ys := by
  have n1 := lgs_names h1 h2
  refine map_one (f := fun z : Lg => z.1) (T := lgs ws ps L) (by rw [n1]; exact nd) (fun z hz => pz.mem_iff.mp hz) (fun z hz => py.mem_iff.mp hz) ?_
  exact sorted_one ((pz.trans py.symm).map _) sz sy
end Vx
namespace Vx
open PySem PySem.Spec PyProof.Rows L2 Evl
theorem el_cat {ta tb : TE} {σ : L2.St} {H : Hp} {l : Addr} {xs ys : List V} (ha : Ev ta σ H (.ref l)) (hl : H l = some (.lst xs)) (hb : EvL tb σ H ys) (hz : xs.length + ys.length ≤ 100000) : EvL (tOp rCat ta tb) σ H (xs ++ ys) := fun H1 e Q q =>
  ha H1 e _ fun H2 e2 => hb H2 (e.trans e2) _ fun r H3 hr e3 h3 => ⟨l, r, xs, ys, rfl, rfl, e3 _ _ (e2 _ _ (e _ _ hl)), h3, sz_of hz, fun p hp => q p _ (fresh_back (e2.trans e3) hp) ((e2.trans e3).trans (Ex.new hp)) upd_same⟩
theorem rv_neS {K : PySem.W.Frag} {H : Hp} {p q : Addr} {xs : List Str} (hp : Rd H p (.lst (xs.map V.str))) (hq : Rd H q (.lst (xs.map V.str))) (hn : ∀ x ∈ xs, IsNm x) : RV (rNeD K) (.ref p) (.ref q) H (.bl false) := fun H1 e1 Q qq =>
  ⟨.list (xs.map PyData.str), .list (xs.map PyData.str), .lst (Or.inl (ex_rd e1 hp)) (dp_strs xs), .lst (Or.inl (ex_rd e1 hq)) (dp_strs xs), shaped_strs xs hn, shaped_strs xs hn, by
    rw [PySem.SeqAt.eqv_refl (.list (xs.map PyData.str)) (by simp only [PyData.canLay0]; exact lay_strs xs hn)]
    exact qq H1 (Ex.refl _)⟩
/-- [e for k in d if t], t never so -/
theorem el_keysNone {σ : L2.St} {H : Hp} {tl te : TE} {t : TT} {d : Addr} {kvs : List (Key × V)} {j : Nat} {vs : List Nat} (hl : ∀ H', Ev tl σ H' (.ref d)) (hd : H d = some (.dK kvs)) (hw : ∀ x, wipe ((wipe σ vs).set j (some x)) vs = wipe σ vs)
    (ht : ∀ H1, Ex H H1 → ∀ od (i : Nat) k v, kvs[i]? = some (k, v) → EvT t ((wipe σ vs).set j (some (kV k))) (upd H1 d (.frz od (.dK kvs))) false) : EvL (tLockE (tLc (iKeys tl) (gName j) t te vs)) σ H [] := fun H1 e1 Q q => by
  have hd1 := e1 _ _ hd
  refine ⟨d, .dK kvs, hd1, trivial, fun od => ?_⟩
  refine hl _ _ (Ex.refl _) _ fun H2 e2 => ⟨d, od, rfl, Or.inl ⟨kvs, e2 _ _ upd_same, fun Dl hD => ?_⟩⟩
  have hf2 : H2 d = some (.frz od (.dK kvs)) := e2 _ _ upd_same
  have nD : Dl ≠ d := fun z => by rw [z, hf2] at hD; cases hD
  refine ⟨fun i m H3 => m = kvs.length - i ∧ i ≤ kvs.length ∧ Ex H2 H3 ∧ H3 Dl = some (.lst []), ⟨kvs.length, rfl, Nat.zero_le _, Ex.new hD, upd_same⟩, ?_⟩
  rintro i m H3 ⟨rfl, hi, e3, h3⟩
  have hf3 := e3 _ _ hf2
  rcases Nat.lt_or_ge i kvs.length with hlt | hge
  · refine .inr ⟨⟨hf3, hlt⟩, fun H' => Ex H2 H' ∧ H' Dl = some (.lst []), fun H' p => ⟨kvs.length - (i + 1), by omega, rfl, hlt, p⟩, fun x H' y => ?_⟩
    obtain ⟨rfl, k, v, hkv, rfl⟩ := y
    refine ⟨hw _, ht H1 e1 od i k v hkv _ (e2.trans e3) _ fun H4 e4 => ?_⟩
    show Ex H2 H4 ∧ H4 Dl = some (.lst [])
    exact ⟨e3.trans e4, e4 _ _ h3⟩
  · refine .inl ⟨⟨hf3, hge⟩, hf3, q Dl _ ?_ (fun b o h => ?_) (by rw [upd_ne nD]; exact h3)⟩
    · have := fresh_back e2 hD
      rw [upd_ne nD] at this
      exact this
    · by_cases z : b = d
      · rw [z, hd1] at h
        rw [z, upd_same]
        exact h
      · rw [upd_ne z]
        exact e3 _ _ (e2 _ _ (by rw [upd_ne z]; exact h))
theorem same2 {H : Hp} {a b f g r s : Addr} (ha : H a = some (.lst [.ref f, .ref g])) (hb : H b = some (.lst [.ref r, .ref s])) (h1 : EqG H 2 (.ref f) (.ref r)) (h2 : EqG H 2 (.ref g) (.ref s)) : EqG H 3 (.ref a) (.ref b) :=
  Or.inr (Or.inl ⟨a, b, _, _, rfl, rfl, Or.inl ⟨Or.inl ha, Or.inl hb⟩, rfl, (by show 2 < 40000; decide), fun i x y hx hy => by
    rcases i with _ | _ | i
    · cases (Option.some.inj hx)
      cases (Option.some.inj hy)
      exact h1
    · cases (Option.some.inj hx)
      cases (Option.some.inj hy)
      exact h2
    · simp at hx⟩)
theorem eqd {H : Hp} {f r : Addr} {zs : List Lg} {qs dq : List Addr} {L : List (List En)} (nd : (zs.map (·.1)).Nodup) (zl : zs.length ≤ 6) (hf : H f = some (.dK (Dk (zs.map (·.1)) qs))) (hr : H r = some (.dK (Dk (zs.map (·.1)) dq))) (ql : qs.length = zs.length) (dl : dq.length = zs.length) (el : ∀ z ∈ zs, z.2.2.length ≤ 60)
    (hq : ∀ (i : Nat) z p, zs[i]? = some z → qs[i]? = some p → H p = some (.lst ((leftOf L z.2.2).map V.str))) (hd : ∀ (i : Nat) z p, zs[i]? = some z → dq[i]? = some p → H p = some (.lst ((leftOf L z.2.2).map V.str))) : EqG H 2 (.ref f) (.ref r) :=
  Or.inr (Or.inr ⟨f, r, _, qs, dq, rfl, rfl, hf, hr, by rw [List.length_map]; exact ql, by rw [List.length_map]; exact dl, nd, by rw [List.length_map]; omega, Nat.le_refl _, fun i u v a b => by
    have hi : i < zs.length := by rw [← ql]; exact (List.getElem?_eq_some_iff.mp a).1
    have hz := List.getElem?_eq_getElem hi
    refine eqs_strs (Or.inl (hq i _ u hz a)) (Or.inl (hd i _ v hz b)) ?_ (Nat.le_refl _)
    have h1 : (leftOf L zs[i].2.2).length ≤ (pus zs[i].2.2).length := List.length_filter_le _ _
    have h2 := pus_len zs[i].2.2
    have h3 := el _ (List.getElem_mem hi)
    omega⟩)
end Vx

set_option Elab.async false
set_option linter.all false
set_option maxRecDepth 100000
set_option maxHeartbeats 4000000
namespace Vx
open PySem PySem.Spec PyProof.Rows L2
/-- sorted(d), the keys texts, any number of them -/
abbrev rSortDk : List V → Hp → VK → Prop := fun vs H Q => ∃ (d : Addr) (kvs : List (Key × V)) (ks : List Str), vs = [.ref d] ∧ Rd H d (.dK kvs) ∧ kvs.map (·.1) = ks.map Sum.inr ∧ ks.length ≤ 1000 ∧
  ∀ ys p, ys.Perm ks → sortedS ys = true → H p = none → Q (.ref p) (upd H p (.lst (ys.map V.str)))
theorem thousand {n : Nat} (h : n ≤ 1000) : n ≤ sizeLine := Nat.le_trans h (by decide)
theorem call_sortDk {X : Cx} (calm : X.calm = true) : CallR X (.builtin "sorted") rSortDk := fun pins s σ H vs us Q I rel ⟨d, kvs, ks, ev, hd, hks, hn, q⟩ => by
  subst ev
  obtain ⟨u0, eu, ru⟩ := vals1 rel
  subst eu
  cases ru
  obtain ⟨zz, lay, its, rkv, dd⟩ := dk_rd I.hok hd
  obtain ⟨ep, at0⟩ := dd.dictAt
  have keys : its.map (·.1) = ks.map Sum.inr := by rw [← hks]; exact rkv.keys.symm
  have len : its.length = ks.length := by
    have := congrArg List.length keys
    simpa using this
  refine Calls.call_function_entry PyProof.Rows.kind_sorted PyProof.Rows.plain_sorted PyProof.Rows.entry_sorted (PyProof.Rows.args_sorted1 _) (show wpAny _ _ (Builtin.«sorted» _) _ _ _ from ?_)
  unfold Builtin.«sorted»
  refine wpAny_bind (m := checkCount "sorted" 1 1 _) (wpAny_pure (wpAny_bind (PySem.W.kdu_collect (A := X.A.in1) (PySem.W.kdl_dict (knd := mixKind X.prog X.w) (kvs := its) (ep := ep) lay) (I.ok.hd calm) at0 (by rw [len]; exact thousand hn) fun h1 tk got kept hgot => ?_)))
  have alen : got.toList.length = ks.length := by rw [Array.length_toList, hgot.1, len]
  have sks : StrsAre got.toList ks := strs_at alen fun j v e => by
    obtain ⟨k, x, e1, e2⟩ := hgot.2 j v (by rw [← Array.getElem?_toList]; exact e)
    have e3 : (its.map (·.1))[j]? = some k := by rw [List.getElem?_map, e1]; rfl
    rw [keys, List.getElem?_map] at e3
    obtain ⟨y, e4, e5⟩ := Option.map_eq_some_iff.mp e3
    subst e5
    obtain ⟨t, hv⟩ := Value.isStrOf_shape (x := y) (v := v) e2
    exact ⟨y, t, e4, hv⟩
  have I1 : Inv X pins σ H { s with heap := h1, toks := tk } := I.kept kept
  refine wpAny_bind (wpAny_newList ?_ (by rw [alen]; exact thousand hn))
  have new1 : (h1.push (seqObj "list" got.toList.toArray 0)).get? h1.objs.size = some (seqObj "list" got.toList.toArray 0) := Heap.get?_push_size _ rfl
  show wpAny _ _ _ _ _ { s with heap := h1.push (seqObj "list" got.toList.toArray 0), toks := tk }
  refine wpAny_bind (wpAny_holding (wpAny_call_entry PyProof.Rows.slot_list_sort ⟨_, new1, rfl⟩ PyProof.Rows.entry_list_sort (list_sort_treeKAny strKind_oneLt new1 sks.keysOf (fun a b r e => keyKind_strs (by rw [← e]; exact sks)) (by rw [alen]; exact thousand hn) fun st hp hs => ⟨_, rfl, ?_⟩) (PyProof.Rows.args_list_sort _)))
  obtain ⟨ys, g1, g2, g3⟩ := sorted_out_str sks hp hs
  obtain ⟨ep2, at2⟩ := PyProof.Rows.sortedHeap_at (vs := got.toList) (out := (arrOf st).map (·.2)) new1
  have small : (ys.map V.str).length ≤ sizeLine := by rw [List.length_map, g2.length_eq]; exact thousand hn
  refine wpAny_pure ⟨_, rfl, .ref h1.objs.size, upd H h1.objs.size (.lst (ys.map V.str)), I1.laid (t' := tk) (fun b u e => ?_) (Nat.le_refl _)
    (by show ObjOk X.prog X.w _ _ _ (.lst (ys.map V.str)); exact ⟨small, ((arrOf st).map (·.2)).toList, ep2, vals_of_strs g1, by rw [Array.toArray_toList]; exact at2⟩), rfl, q ys _ g2 g3 (I1.hok.fresh (Nat.le_refl _))⟩
  have hlt : b < h1.objs.size := Heap.lt_size e
  rw [PyProof.Rows.sortedHeap_old (Nat.ne_of_lt hlt) (by rw [size_push']; exact Nat.lt_succ_of_lt hlt)]
  exact Heap.get?_push_of_some _ e
end Vx

set_option Elab.async false
set_option linter.all false
set_option maxRecDepth 100000
set_option maxHeartbeats 8000000
namespace Vx
open PySem PySem.Spec PyProof.Rows L2 Evl
def En.isSt : En → Bool
  | .steal _ _ => true
  | _ => false
def En.sti : En → List Str
  | .steal _ x => [x]
  | _ => []
def sts (es : List En) : List Str := es.flatMap En.sti
theorem sts_eq (es : List En) : sts es = (es.filter En.isSt).map En.it := by
  induction es with
  | nil => rfl
  | cons e es ih =>
    have : sts (e :: es) = e.sti ++ sts es := by unfold sts; rw [List.flatMap_cons]
    rw [this, ih]
    cases e <;> rfl
theorem rows_sts {R : List RowA} {zs : List Lg} (h : R.map RowA.tri = Rw zs) : (R.filter (·.e.isSt)).map (·.e.it) = zs.flatMap (fun z => sts z.2.2) := by
  have e1 : (R.filter (·.e.isSt)).map (·.e.it) = sts (R.map (·.e)) := by
    rw [sts_eq, List.filter_map, List.map_map]
    rfl
  rw [e1, rows_es h]
  unfold sts
  rw [List.flatMap_assoc]
theorem hdS : ∀ a ∈ ([("push", false), ("pop", false), ("size", false), ("steal", true)] : List (Str × Bool)), decide (V.str a.1 = V.str "steal") = a.2 := by decide +kernel
theorem En.isSt_eq (e : En) : decide (V.str e.hd = V.str "steal") = e.isSt := by
  cases e
  · exact hdS ("push", false) (by simp)
  · exact hdS ("pop", false) (by simp)
  · exact hdS ("size", false) (by simp)
  · exact hdS ("steal", true) (by simp)
theorem En.at2 {e : En} (h : e.isSt = true) : atI e.vs 2 = some (.str e.it) := by
  cases e with
  | steal o x => rfl
  | _ => cases h
section
variable {P : Program} {w : World} {K : PySem.W.Frag} {mg : Str → Option Value} {base : Heap}
theorem sc_steal_places : FnScope ["logs", "place", "entry"] ["logs"] (defScope s_steal_places) := ⟨rfl, rfl, rfl, by decide +kernel, rfl, by decide +kernel, by decide +kernel⟩
theorem ok_steal_places (D : Def K mg "steal_places" s_steal_places ["logs"]) (T : Bl mg) (G_all_entries : Good P w K mg base 1 "all_entries" ["logs"] (spRows K)) : Good P w K mg base 2 "steal_places" ["logs"] (spPlc En.isSt sts) := by
  refine D.good sc_steal_places (fun vs H Q E h => ?_) (fun f cdv A outer s H vs Q E hr h => ?_)
  · obtain ⟨d, ws, ps, L, rfl, _⟩ := h
    rfl
  · obtain ⟨d, ws, ps, L, rfl, hl, ok, hn, q⟩ := h
    have hu := hu_of hr
    refine ⟨_, (pss_one (ps_ret (pe_dc (own := [("place", 1), ("entry", 2)]) (g := (gTup K 2 (gCons (gName 1) (gCons (gName 2) gNil)))) rfl sc_steal_places.nd (x_pil (K := K) (pe_fn (G_all_entries.mono (by decide)) hr (pa_cons (pv 0) pa_nil))) (blkOk_by (N := ["logs", "place", "entry"]) (sc := (defScope s_steal_places)) (by decide +kernel)) (fun _ _ _ _ _ => (x_gt (K := K) (pgs_cons (pg_name (i := 1) sc_steal_places.nd rfl (Or.inl rfl)) (pgs_cons (pg_name (i := 2) sc_steal_places.nd rfl (Or.inl rfl)) pgs_nil)))) (fun _ _ _ _ _ => (pts_one (pt_cmpR op_eq (x_ixt (K := K) (pv 2) pe_int) pe_str (nomark _)))) (fun _ _ _ _ _ => (x_ixt (K := K) (pv 2) pe_int)) (fun _ _ _ _ _ => (pv 1))))), ?_⟩
    refine ⟨_, rfl, d, ws, ps, L, rfl, hl, ok.nd, ok.wl, ok.ll, ok.el, fun p as R zs H1 n1 e1 h1 hR hz hso hRt hal => ⟨p, rfl, ⟨_, sq_of h1⟩, ?_⟩⟩
    have ndp : ((R.filter (·.e.isSt)).map (·.e.it)).Nodup := by
      rw [rows_sts hRt]
      exact (flat_lgs (f := sts) hl.pl ok.ll hz).nodup_iff.mpr hn
    refine dc_given (fun i => (R.getD i row0).e.isSt) (fun i => .inr (R.getD i row0).e.it) (fun i => .ref (R.getD i row0).b) (fun i => [some (.ref d), some (.ref (R.getD i row0).b), some (.ref (R.getD i row0).c)]) (sq_of h1) (by rw [List.length_map]; omega) (fun i x hx => ?_) (fun i x hx => ?_) (fun i x hx hf => ?_) (fun i x hx hf => ?_) (fun i j hji hi hfi hfj => ?_) (fun Dl H2 n2 e2 h2 => ?_)
    · obtain ⟨a, r, rfl, hr, ha, hb, hc⟩ := row_at hR hx
      rw [getD_at hr]
      exact ⟨rfl, fun H2 e2 Q' q' => ⟨a, _, rfl, st_of (e2 _ _ ha), rfl, _, _, rfl, _, _, rfl, rfl, q' H2 (Ex.refl H2)⟩⟩
    · obtain ⟨a, r, rfl, hr, ha, hb, hc⟩ := row_at hR hx
      rw [getD_at hr]
      exact et_is (et_test (ev_op (ev_op (ev_var rfl) ev_c (rv_ixT (st_of hc) r.e.at0)) ev_c (rv_eq rfl))) r.e.isSt_eq
    · obtain ⟨a, r, rfl, hr, ha, hb, hc⟩ := row_at hR hx
      rw [getD_at hr] at hf ⊢
      exact ev_op (ev_var rfl) ev_c (rv_ixT (st_of hc) (En.at2 hf))
    · obtain ⟨a, r, rfl, hr, ha, hb, hc⟩ := row_at hR hx
      rw [getD_at hr]
      exact ev_var rfl
    · rw [List.length_map, hR.length] at hi
      have g1 := List.getElem?_eq_getElem hi
      have g2 := List.getElem?_eq_getElem (show j < R.length by omega)
      rw [getD_at g1] at hfi ⊢
      rw [getD_at g2] at hfj ⊢
      exact fun e => nd_apart (g := fun r : RowA => r.e.it) ndp hji g1 g2 hfi hfj (Sum.inr.inj e)
    · rw [List.length_map, hR.length] at h2
      have := dgiven_list R row0 (fun r => r.e.isSt) (fun r => .inr r.e.it) (fun r => .ref r.b)
      rw [this] at h2
      exact q Dl as R zs H2 (fresh_back e1 n2) (e1.trans e2) h2 (paired_imp (fun a r h => RowAt.tk h (tk_ex e2)) hR) hz hso hRt
end
end Vx

set_option Elab.async false
set_option linter.all false
set_option maxRecDepth 100000
set_option maxHeartbeats 8000000
namespace Vx
open PySem PySem.Spec PyProof.Rows L2 Evl
/-- what stands at a place: the push, the removal of an item -/
def AtP (p : En → Bool) (ws : List Str) (L : List (List En)) (H : Hp) (y : Str) (v : V) : Prop := ∃ (b : Addr) (k i : Nat) (w : Str) (es : List En) (e : En), v = .ref b ∧ ws[k]? = some w ∧ L[k]? = some es ∧ es[i]? = some e ∧ p e = true ∧ e.it = y ∧ H b = some (.tup [.str w, .int (i : Int)])
theorem AtP.tk {p : En → Bool} {ws : List Str} {L : List (List En)} {H H' : Hp} {y : Str} {v : V} (h : AtP p ws L H y v) (k : TK H H') : AtP p ws L H' y v := by
  obtain ⟨b, j, i, w, es, e, h1, h2, h3, h4, h5, h6, h7⟩ := h
  exact ⟨b, j, i, w, es, e, h1, h2, h3, h4, h5, h6, k _ _ h7⟩
theorem AtP.ex {p : En → Bool} {ws : List Str} {L : List (List En)} {H H' : Hp} {y : Str} {v : V} (h : AtP p ws L H y v) (e : Ex H H') : AtP p ws L H' y v := h.tk (tk_ex e)
theorem valV_pair : ∀ {kvs : List (Key × V)} {k : Key} {v : V}, valV kvs k = some v → (k, v) ∈ kvs
  | [], _, _, h => by cases h
  | p :: r, k, v, h => by
    by_cases e : p.1 = k
    · rw [valV_pos e] at h
      have h := Option.some.inj h
      subst e h
      exact List.mem_cons_self ..
    · rw [valV_neg e] at h
      exact List.mem_cons_of_mem _ (valV_pair h)
theorem rw_at {zs : List Lg} {t : Tri} (h : t ∈ Rw zs) : ∃ z ∈ zs, z.1 = t.1 ∧ z.2.2[t.2.1]? = some t.2.2 := by
  unfold Rw at h
  obtain ⟨z, hz, h2⟩ := List.mem_flatMap.mp h
  unfold rw1 at h2
  obtain ⟨x, hx, rfl⟩ := List.mem_map.mp h2
  refine ⟨z, hz, rfl, ?_⟩
  have := List.mem_zipIdx_iff_getElem?.mp hx
  exact this
theorem plc_at {p : En → Bool} {R : List RowA} {as : List Addr} {zs : List Lg} {ws : List Str} {ps : List Addr} {L : List (List En)} {H : Hp} (hR : Paired (RowAt H) as R) (hz : zs.Perm (lgs ws ps L)) (hRt : R.map RowA.tri = Rw zs) {y : Str} {v : V}
    (h : valV (Plc p R) (.inr y) = some v) : AtP p ws L H y v := by
  have hm := valV_pair h
  unfold Plc at hm
  obtain ⟨r, hr, e⟩ := List.mem_map.mp hm
  obtain ⟨hrR, hp⟩ := List.mem_filter.mp hr
  obtain ⟨j, hj⟩ := List.mem_iff_getElem?.mp hrR
  obtain ⟨a, _, _, hb, _⟩ := paired_get hR hj
  obtain ⟨z, zz, e1, e2⟩ := rw_at (t := r.tri) (by rw [← hRt]; exact List.mem_map.mpr ⟨r, hrR, rfl⟩)
  obtain ⟨k, k1, _, k3⟩ := lgs_at (hz.mem_iff.mp zz)
  have e3 := Prod.mk.inj e
  refine ⟨r.b, k, r.i, r.w, z.2.2, r.e, e3.2.symm, ?_, k3, e2, hp, Sum.inr.inj e3.1, hb⟩
  rw [k1, e1]
  rfl
theorem plc_keys {p : En → Bool} {R : List RowA} : (Plc p R).map (·.1) = ((R.filter fun r => p r.e).map (·.e.it)).map Sum.inr := by
  unfold Plc
  rw [List.map_map, List.map_map]
  rfl
def valO (kvs : List (Key × V)) (y : Str) : V := (valV kvs (.inr y)).getD .non
def KsV (ys : List Str) (val : Str → V) : List (Key × V) := ys.map fun y => (.inr y, val y)
theorem dgiven_all (ys : List Str) (val : Str → V) : dgiven ys.length (fun _ => true) (fun i => .inr (ys.getD i "")) (fun i => val (ys.getD i "")) = KsV ys val := by
  have := dgiven_list ys "" (fun _ => true) (fun y => .inr y) val
  rw [this]
  unfold KsV
  congr 1
  exact List.filter_eq_self.mpr fun _ _ => rfl
theorem flat_le {f : List En → List Str} (hf : ∀ es, (f es).length ≤ es.length) {ws : List Str} {L : List (List En)} (ok : LgOk ws L) : (L.flatMap f).length ≤ 360 := by
  have : ∀ (L : List (List En)), (∀ es ∈ L, es.length ≤ 60) → (L.flatMap f).length ≤ L.length * 60 := fun L => by
    induction L with
    | nil => intro _; simp
    | cons a L ih =>
      intro h
      rw [List.flatMap_cons, List.length_append, List.length_cons, Nat.succ_mul]
      have h1 := hf a
      have h2 := h a (List.mem_cons_self ..)
      have h3 := ih fun es he => h es (List.mem_cons_of_mem _ he)
      omega
  have h1 := this L ok.el
  have h2 := ok.ll
  have h3 := ok.wl
  omega
def spPushes : Sp := fun vs H Q _ => ∃ (d : Addr) (ws : List Str) (ps : List Addr) (L : List (List En)), vs = [.ref d] ∧ HLr H d ws ps L ∧ Vlog 60 ws L ∧
  ∀ (f : Addr) (ys : List Str) (val : Str → V) H', H f = none → Ex H H' → ys.Perm (L.flatMap pus) → sortedS ys = true → H' f = some (.dK (KsV ys val)) → (∀ y ∈ ys, AtP En.isPu ws L H' y (val y)) → Q (.ref f) H'
def spRemovals : Sp := fun vs H Q _ => ∃ (d : Addr) (ws : List Str) (ps : List Addr) (L : List (List En)), vs = [.ref d] ∧ HLr H d ws ps L ∧ Vlog 60 ws L ∧
  ∀ (f : Addr) (ys : List Str) (val : Str → V) H', H f = none → Ex H H' → ys.Perm (L.flatMap pus) → sortedS ys = true → H' f = some (.dK (KsV ys val)) → (∀ y ∈ ys, (¬ y ∈ L.flatMap res ∧ val y = .non) ∨ AtP En.isRe ws L H' y (val y)) → Q (.ref f) H'
section
variable {P : Program} {w : World} {K : PySem.W.Frag} {mg : Str → Option Value} {base : Heap}
theorem sc_pushes : FnScope ["logs", "places", "item"] ["logs"] (defScope s_pushes) := ⟨rfl, rfl, rfl, by decide +kernel, rfl, by decide +kernel, by decide +kernel⟩
theorem ok_pushes (D : Def K mg "pushes" s_pushes ["logs"]) (T : Bl mg) (G_check_logs : Good P w K mg base 6 "check_logs" ["logs"] spCheck) (G_push_places : Good P w K mg base 2 "push_places" ["logs"] (spPlc En.isPu pus)) : Good P w K mg base 7 "pushes" ["logs"] (spPushes) := by
  refine D.good sc_pushes (fun vs H Q E h => ?_) (fun f cdv A outer s H vs Q E hr h => ?_)
  · obtain ⟨d, ws, ps, L, rfl, _⟩ := h
    rfl
  · obtain ⟨d, ws, ps, L, rfl, hl, v, q⟩ := h
    have hu := hu_of hr
    refine ⟨_, (pss_cons (ps_expr (pe_fn (G_check_logs.mono (by decide)) hr (pa_cons (pv 0) pa_nil)))
      (pss_cons (ps_set (i := 1) sc_pushes.nd rfl (Or.inr rfl) (pe_fn (G_push_places.mono (by decide)) hr (pa_cons (pv 0) pa_nil)))
      (pss_one (ps_ret (pe_dc (own := [("item", 2)]) (g := (gName 2)) (tt := tYes) rfl sc_pushes.nd (x_pil (K := K) (pe_callB (call_sortDk rfl) (by rfl) T.sorted (by decide +kernel) (pa_cons (pv 1) pa_nil))) (blkOk_by (N := ["logs", "places", "item"]) (sc := (defScope s_pushes)) (by decide +kernel)) (fun _ _ _ _ _ => (pg_name (i := 2) sc_pushes.nd rfl (Or.inl rfl))) (fun _ _ _ _ _ => pts_nil) (fun _ _ _ _ _ => (pv 2)) (fun _ _ _ _ _ => (pe_dget hu (pv 1) (pv 2) (fun _ _ => rfl)))))))), ?_⟩
    have ok := v.ok (Nat.le_refl _)
    refine ⟨_, rfl, d, ws, ps, L, rfl, hl, v, fun H1 e1 => ?_⟩
    refine ⟨_, rfl, d, ws, ps, L, rfl, hl.ex e1, ok, v.pu, fun pd as R zs H2 n2 e2 hpd hR hz hso hRt => ?_⟩
    have kp : ((R.filter fun r => En.isPu r.e).map (·.e.it)).Perm (L.flatMap pus) := by
      rw [rows_pus hRt]
      exact flat_lgs (f := pus) hl.pl ok.ll hz
    have klen := kp.length_eq
    have k360 := flat_le pus_len ok
    refine ⟨.ref pd, rfl, pd, Plc En.isPu R, _, rfl, Or.inl hpd, plc_keys, by omega, fun ys p0 hpm hsy n0 => ⟨p0, rfl, ⟨_, sq_of upd_same⟩, ?_⟩⟩
    have e0 : Ex H2 (upd H2 p0 (.lst (ys.map V.str))) := Ex.new n0
    have h0 : (upd H2 p0 (.lst (ys.map V.str))) p0 = some (.lst (ys.map V.str)) := upd_same
    generalize upd H2 p0 (.lst (ys.map V.str)) = H3 at e0 h0 ⊢
    have ynd : ys.Nodup := (hpm.trans kp).nodup_iff.mpr v.pu
    have hv : ∀ y ∈ ys, valV (Plc En.isPu R) (.inr y) = some (valO (Plc En.isPu R) y) := fun y hy => by
      have := plc_has (p := En.isPu) (R := R) (x := y)
      rw [decide_eq_true (hpm.mem_iff.mp hy)] at this
      obtain ⟨u, hu2⟩ := Option.isSome_iff_exists.mp this
      unfold valO
      rw [hu2]
      rfl
    have yat : ∀ (i : Nat) x, (ys.map V.str)[i]? = some x → ∃ y : Str, x = .str y ∧ ys[i]? = some y ∧ y ∈ ys := fun i x hx => by
      rw [List.getElem?_map] at hx
      obtain ⟨y, hy, rfl⟩ := Option.map_eq_some_iff.mp hx
      exact ⟨y, rfl, hy, List.mem_of_getElem? hy⟩
    refine dc_given (fun _ => true) (fun i => .inr (ys.getD i "")) (fun i => valO (Plc En.isPu R) (ys.getD i "")) (fun i => [some (.ref d), some (.ref pd), some (.str (ys.getD i ""))]) (sq_of h0) (by rw [List.length_map, hpm.length_eq]; omega) (fun i x hx => ?_) (fun i x hx => ?_) (fun i x hx hf => ?_) (fun i x hx hf => ?_) (fun i j hji hi hfi hfj => ?_) (fun Dl H4 n4 e4 h4 => ?_)
    · obtain ⟨y, rfl, hy, ym⟩ := yat i x hx
      rw [getD_at hy]
      exact ⟨rfl, fun H6 e6 Q' q' => q' H6 (Ex.refl _)⟩
    · exact et_yes
    · obtain ⟨y, rfl, hy, ym⟩ := yat i x hx
      rw [getD_at hy]
      exact ev_var rfl
    · obtain ⟨y, rfl, hy, ym⟩ := yat i x hx
      rw [getD_at hy]
      exact ev_dget (ev_var rfl) (ev_var rfl) (e0 _ _ hpd) (hv y ym)
    · rw [List.length_map] at hi
      have g1 := List.getElem?_eq_getElem hi
      have g2 := List.getElem?_eq_getElem (show j < ys.length by omega)
      rw [getD_at g1, getD_at g2]
      intro e
      have e := Sum.inr.inj e
      have := (List.getElem?_inj (show j < ys.length by omega) ynd).mp (by rw [g1, g2, e])
      omega
    · rw [List.length_map, dgiven_all] at h4
      have E := ((e1.trans e2).trans e0).trans e4
      exact q Dl ys _ H4 (fresh_back ((e1.trans e2).trans e0) n4) E (hpm.trans kp) hsy h4 fun y hy => (plc_at hR hz hRt (hv y hy)).ex (e0.trans e4)
end
end Vx

set_option Elab.async false
set_option linter.all false
set_option maxRecDepth 100000
set_option maxHeartbeats 8000000
namespace Vx
open PySem PySem.Spec PyProof.Rows L2 Evl
theorem ev_dget1 {σ : L2.St} {H : Hp} {td ty : TE} {d : Addr} {kvs : List (Key × V)} {x : Str} (h1 : Ev td σ H (.ref d)) (h2 : Ev ty σ H (.str x)) (hd : H d = some (.dK kvs)) : Ev (tDGet1 td ty) σ H (valO kvs x) := fun H1 e Q q =>
  h1 H1 e _ fun H2 e2 => ⟨d, rfl, Or.inl ⟨kvs, Or.inl (e2 _ _ (e _ _ hd))⟩, h2 H2 (e.trans e2) _ fun H3 e3 => ⟨_, DGet.k (k := .inr x) (e3 _ _ (e2 _ _ (e _ _ hd))), q H3 (e2.trans e3)⟩⟩
section
variable {P : Program} {w : World} {K : PySem.W.Frag} {mg : Str → Option Value} {base : Heap}
theorem sc_removals : FnScope ["logs", "places", "item"] ["logs"] (defScope s_removals) := ⟨rfl, rfl, rfl, by decide +kernel, rfl, by decide +kernel, by decide +kernel⟩
theorem ok_removals (D : Def K mg "removals" s_removals ["logs"]) (T : Bl mg) (G_check_logs : Good P w K mg base 6 "check_logs" ["logs"] spCheck) (G_push_places : Good P w K mg base 2 "push_places" ["logs"] (spPlc En.isPu pus)) (G_removal_places : Good P w K mg base 2 "removal_places" ["logs"] (spPlc En.isRe res)) : Good P w K mg base 7 "removals" ["logs"] (spRemovals) := by
  refine D.good sc_removals (fun vs H Q E h => ?_) (fun f cdv A outer s H vs Q E hr h => ?_)
  · obtain ⟨d, ws, ps, L, rfl, _⟩ := h
    rfl
  · obtain ⟨d, ws, ps, L, rfl, hl, v, q⟩ := h
    have hu := hu_of hr
    refine ⟨_, (pss_cons (ps_expr (pe_fn (G_check_logs.mono (by decide)) hr (pa_cons (pv 0) pa_nil)))
      (pss_cons (ps_set (i := 1) sc_removals.nd rfl (Or.inr rfl) (pe_fn (G_removal_places.mono (by decide)) hr (pa_cons (pv 0) pa_nil)))
      (pss_one (ps_ret (pe_dc (own := [("item", 2)]) (g := (gName 2)) (tt := tYes) rfl sc_removals.nd (x_pil (K := K) (pe_callB (call_sortDk rfl) (by rfl) T.sorted (by decide +kernel) (pa_cons (pe_fn (G_push_places.mono (by decide)) hr (pa_cons (pv 0) pa_nil)) pa_nil))) (blkOk_by (N := ["logs", "places", "item"]) (sc := (defScope s_removals)) (by decide +kernel)) (fun _ _ _ _ _ => (pg_name (i := 2) sc_removals.nd rfl (Or.inl rfl))) (fun _ _ _ _ _ => pts_nil) (fun _ _ _ _ _ => (pv 2)) (fun _ _ _ _ _ => (pe_dget1 hu (pv 1) (pv 2) ⟨by rfl, by rfl, by rfl, by rfl⟩))))))), ?_⟩
    have ok := v.ok (Nat.le_refl _)
    refine ⟨_, rfl, d, ws, ps, L, rfl, hl, v, fun H1 e1 => ?_⟩
    refine ⟨_, rfl, d, ws, ps, L, rfl, hl.ex e1, ok, v.re, fun rd as R zs H2 n2 e2 hrd hR hz hso hRt => ?_⟩
    refine ⟨_, rfl, d, ws, ps, L, rfl, hl.ex (e1.trans e2), ok, v.pu, fun pd as2 R2 zs2 H2b n2b e2b hpd hR2 hz2 hso2 hRt2 => ?_⟩
    have kp : ((R2.filter fun r => En.isPu r.e).map (·.e.it)).Perm (L.flatMap pus) := by
      rw [rows_pus hRt2]
      exact flat_lgs (f := pus) hl.pl ok.ll hz2
    have rp : ((R.filter fun r => En.isRe r.e).map (·.e.it)).Perm (L.flatMap res) := by
      rw [rows_res hRt]
      exact flat_lgs (f := res) hl.pl ok.ll hz
    have klen := kp.length_eq
    have k360 := flat_le pus_len ok
    refine ⟨pd, Plc En.isPu R2, _, rfl, Or.inl hpd, plc_keys, by omega, fun ys p0 hpm hsy n0 => ⟨p0, rfl, ⟨_, sq_of upd_same⟩, ?_⟩⟩
    have e0 : Ex H2b (upd H2b p0 (.lst (ys.map V.str))) := Ex.new n0
    have h0 : (upd H2b p0 (.lst (ys.map V.str))) p0 = some (.lst (ys.map V.str)) := upd_same
    generalize upd H2b p0 (.lst (ys.map V.str)) = H3 at e0 h0 ⊢
    have ynd : ys.Nodup := (hpm.trans kp).nodup_iff.mpr v.pu
    have yat : ∀ (i : Nat) x, (ys.map V.str)[i]? = some x → ∃ y : Str, x = .str y ∧ ys[i]? = some y ∧ y ∈ ys := fun i x hx => by
      rw [List.getElem?_map] at hx
      obtain ⟨y, hy, rfl⟩ := Option.map_eq_some_iff.mp hx
      exact ⟨y, rfl, hy, List.mem_of_getElem? hy⟩
    refine dc_given (fun _ => true) (fun i => .inr (ys.getD i "")) (fun i => valO (Plc En.isRe R) (ys.getD i "")) (fun i => [some (.ref d), some (.ref rd), some (.str (ys.getD i ""))]) (sq_of h0) (by rw [List.length_map, hpm.length_eq]; omega) (fun i x hx => ?_) (fun i x hx => ?_) (fun i x hx hf => ?_) (fun i x hx hf => ?_) (fun i j hji hi hfi hfj => ?_) (fun Dl H4 n4 e4 h4 => ?_)
    · obtain ⟨y, rfl, hy, ym⟩ := yat i x hx
      rw [getD_at hy]
      exact ⟨rfl, fun H6 e6 Q' q' => q' H6 (Ex.refl _)⟩
    · exact et_yes
    · obtain ⟨y, rfl, hy, ym⟩ := yat i x hx
      rw [getD_at hy]
      exact ev_var rfl
    · obtain ⟨y, rfl, hy, ym⟩ := yat i x hx
      rw [getD_at hy]
      exact ev_dget1 (ev_var rfl) (ev_var rfl) (e0 _ _ (e2b _ _ hrd))
    · rw [List.length_map] at hi
      have g1 := List.getElem?_eq_getElem hi
      have g2 := List.getElem?_eq_getElem (show j < ys.length by omega)
      rw [getD_at g1, getD_at g2]
      intro e
      have e := Sum.inr.inj e
      have := (List.getElem?_inj (show j < ys.length by omega) ynd).mp (by rw [g1, g2, e])
      omega
    · rw [List.length_map, dgiven_all] at h4
      have E := (((e1.trans e2).trans e2b).trans e0).trans e4
      refine q Dl ys _ H4 (fresh_back (((e1.trans e2).trans e2b).trans e0) n4) E (hpm.trans kp) hsy h4 fun y hy => ?_
      have hh := plc_has (p := En.isRe) (R := R) (x := y)
      cases hvv : valV (Plc En.isRe R) (.inr y) with
      | none =>
        rw [hvv] at hh
        refine Or.inl ⟨fun hm => ?_, by unfold valO; rw [hvv]; rfl⟩
        have := of_decide_eq_false hh.symm
        exact this (rp.mem_iff.mpr hm)
      | some u =>
        refine Or.inr ?_
        have : valO (Plc En.isRe R) y = u := by unfold valO; rw [hvv]; rfl
        rw [this]
        exact (plc_at hR hz hRt hvv).ex ((e2b.trans e0).trans e4)
end
end Vx

set_option Elab.async false
set_option linter.all false
set_option maxRecDepth 100000
set_option maxHeartbeats 8000000
namespace Vx
open PySem PySem.Spec PyProof.Rows L2 Evl
def spIsW : Sp := fun vs H Q _ => ∃ (d : Addr) (kvs : List (Key × V)) (x : Str) (v : V), vs = [.ref d, .str x] ∧ Rd H d (.dK kvs) ∧ valV kvs (.inr x) = some v ∧ Yes H Q
def spCheckW : Sp := fun vs H Q _ => ∃ (d : Addr) (kvs : List (Key × V)) (x : Str) (v : V), vs = [.ref d, .str x] ∧ Rd H d (.dK kvs) ∧ valV kvs (.inr x) = some v ∧ ∀ H', Ex H H' → Q .non H'
def spIsP (K : PySem.W.Frag) : Sp := fun vs H Q _ => ∃ (d : Addr) (kvs : List (Key × V)) (x : Str) (p t : Addr) (xs : List V) (i : Int), vs = [.ref d, .ref t] ∧ Rd H d (.dK kvs) ∧ valV kvs (.inr x) = some (.ref p) ∧ H t = some (.tup [.str x, .int i]) ∧ SqL K H p xs ∧ 0 ≤ i ∧ i < xs.length ∧ Yes H Q
def spCheckP (K : PySem.W.Frag) : Sp := fun vs H Q _ => ∃ (d : Addr) (kvs : List (Key × V)) (x : Str) (p t : Addr) (xs : List V) (i : Int), vs = [.ref d, .ref t] ∧ Rd H d (.dK kvs) ∧ valV kvs (.inr x) = some (.ref p) ∧ H t = some (.tup [.str x, .int i]) ∧ SqL K H p xs ∧ 0 ≤ i ∧ i < xs.length ∧ ∀ H', Ex H H' → Q .non H'
def stolenOf (L : List (List En)) (es : List En) : List Str := (pus es).filter fun y => decide (y ∈ L.flatMap sts)
def spStolen : Sp := fun vs H Q _ => ∃ (d : Addr) (ws : List Str) (ps : List Addr) (L : List (List En)) (k : Nat) (x : Str) (es : List En), vs = [.ref d, .str x] ∧ HLr H d ws ps L ∧ Vlog 60 ws L ∧ ws[k]? = some x ∧ L[k]? = some es ∧ RetL ((stolenOf L es).map V.str) H Q
theorem ev_din {σ : L2.St} {H : Hp} {td ty : TE} {d : Addr} {kvs : List (Key × V)} {x : Str} {r : Option V} (h1 : Ev ty σ H (.str x)) (h2 : Ev td σ H (.ref d)) (hd : Rd H d (.dK kvs)) (hv : valV kvs (.inr x) = r) : Ev (tDIn ty td) σ H (.bl r.isSome) := fun H1 e Q q =>
  h1 H1 e _ fun H2 e2 => h2 H2 (e.trans e2) _ fun H3 e3 => ⟨d, r, rfl, by
    have := dget_r (k := .inr x) (ex_rd (e.trans (e2.trans e3)) hd)
    rw [hv] at this
    exact this, q H3 (e2.trans e3)⟩
theorem sts_res (es : List En) : (sts es).Sublist (res es) := by
  induction es with
  | nil => exact List.Sublist.refl _
  | cons e es ih =>
    unfold sts res at *
    rw [List.flatMap_cons, List.flatMap_cons]
    cases e with
    | push x => exact ih
    | size k => exact ih
    | pop x => exact ih.cons _
    | steal o x => exact ih.cons_cons _
theorem stl_res : ∀ L : List (List En), (L.flatMap sts).Sublist (L.flatMap res)
  | [] => List.Sublist.refl _
  | es :: L => by
    rw [List.flatMap_cons, List.flatMap_cons]
    exact (sts_res es).append (stl_res L)
section
variable {P : Program} {w : World} {K : PySem.W.Frag} {mg : Str → Option Value} {base : Heap}
theorem sc_is_worker : FnScope ["logs", "thing"] ["logs", "thing"] (defScope s_is_worker) := ⟨rfl, rfl, rfl, by decide +kernel, rfl, by decide +kernel, by decide +kernel⟩
theorem ok_is_worker (D : Def K mg "is_worker" s_is_worker ["logs", "thing"]) (T : Bl mg) : Good P w K mg base 1 "is_worker" ["logs", "thing"] (spIsW) := by
  refine D.good sc_is_worker (fun vs H Q E h => ?_) (fun f cdv A outer s H vs Q E hr h => ?_)
  · obtain ⟨d, kvs, x, v, rfl, _⟩ := h
    rfl
  · obtain ⟨d, kvs, x, v, rfl, hd, hv, q⟩ := h
    have hu := hu_of hr
    refine ⟨_, (pss_one (ps_ret (pe_and (x_isi (K := K) "str" T (pv 1) T.str) (pe_one (pe_cmp (pc_din hu (pv 1) (pv 0))))))), ?_⟩
    exact s_ret (ev_andV (a := true) (b := true) (ev_isI rfl ty_str rfl) (fun _ => ev_is (ev_din (ev_var rfl) (ev_var rfl) hd hv) rfl)) fun H1 e1 => q H1 e1
theorem sc_is_place : FnScope ["logs", "thing", "worker", "index"] ["logs", "thing"] (defScope s_is_place) := ⟨rfl, rfl, rfl, by decide +kernel, rfl, by decide +kernel, by decide +kernel⟩
theorem ok_is_place (D : Def K mg "is_place" s_is_place ["logs", "thing"]) (T : Bl mg) (G_is_integer : Good P w K mg base 1 "is_integer" ["thing"] spInt) (G_is_worker : Good P w K mg base 1 "is_worker" ["logs", "thing"] spIsW) : Good P w K mg base 2 "is_place" ["logs", "thing"] (spIsP K) := by
  refine D.good sc_is_place (fun vs H Q E h => ?_) (fun f cdv A outer s H vs Q E hr h => ?_)
  · obtain ⟨d, kvs, x, p, t, xs, i, rfl, _⟩ := h
    rfl
  · obtain ⟨d, kvs, x, p, t, xs, i, rfl, hd, hv, ht, hp, h0, h1, q⟩ := h
    have hu := hu_of hr
    refine ⟨_, (pss_cons (ps_if (pw_or (pt_not (pt_val (x_isi (K := K) "tuple" T (pv 1) T.tuple))) (pw_or1 (pt_cmpR op_ne (x_len (K := K) T (pv 1)) pe_int (nomark _)))).pt pss_never pss_nil)
      (pss_cons (ps_asg (pv 1) (x_gt (K := K) (pgs_cons (pg_name (i := 2) sc_is_place.nd rfl (Or.inl rfl)) (pgs_cons (pg_name (i := 3) sc_is_place.nd rfl (Or.inl rfl)) pgs_nil))))
      (pss_cons (ps_if (pw_or (pt_not (pt_val (pe_fn (G_is_worker.mono (by decide)) hr (pa_cons (pv 0) (pa_cons (pv 2) pa_nil))))) (pw_or1 (pt_not (pt_val (pe_fn (G_is_integer.mono (by decide)) hr (pa_cons (pv 3) pa_nil)))))).pt pss_never pss_nil)
      (pss_one (ps_ret (pe_chain op_le op_lt pe_int (pv 3) (x_len (K := K) T (pe_dget hu (pv 0) (pv 2) (fun _ _ => rfl))))))))), ?_⟩
    refine s_if (b := false) (et_is (et_or (a := false) (et_not (a := true) (et_B (ev_isI rfl (ty_tup (Or.inl ht)) rfl))) (fun _ => et_test (ev_op (ev_lenA (ev_var rfl) (Or.inr (st_of ht))) ev_c (rv_ne rfl)))) rfl) (fun z => nomatch z) (fun _ H1 e1 => ?_)
    refine s_unpack (ev_var rfl) (e1 _ _ ht) fun H2 e2 => ?_
    have E2 := e1.trans e2
    refine s_if (b := false) (et_is (et_or (a := false) (et_not (a := true) (et_B (ev_call (ea_cons (ev_var rfl) (ea_cons (ev_var rfl) ea_nil)) (Yes.spv fun H3 e3 Q3 y E => ⟨d, kvs, x, _, rfl, ex_rd (E2.trans e3) hd, hv, y⟩)))) (fun _ => et_not (a := true) (et_B (ev_call (ea_cons (ev_var rfl) ea_nil) (Yes.spv fun H3 e3 Q3 y E => ⟨i, rfl, y⟩))))) rfl) (fun z => nomatch z) (fun _ H3 e3 => ?_)
    have E3 := E2.trans e3
    refine s_ret (ev_chain ev_c (ev_var rfl) (ev_len (ev_dgetQ (ev_var rfl) (ev_var rfl) (ex_rd E3 hd) hv) (ex_l E3 hp)) (rv_b rv_I0 ?_) (rv_b rv_I0 ?_)) fun H4 e4 => q H4 (E3.trans e4)
    · simp
      omega
    · simp
      omega
theorem sc_check_worker : FnScope ["logs", "worker"] ["logs", "worker"] (defScope s_check_worker) := ⟨rfl, rfl, rfl, by decide +kernel, rfl, by decide +kernel, by decide +kernel⟩
theorem ok_check_worker (D : Def K mg "check_worker" s_check_worker ["logs", "worker"]) (T : Bl mg) (G_is_worker : Good P w K mg base 1 "is_worker" ["logs", "thing"] spIsW) : Good P w K mg base 2 "check_worker" ["logs", "worker"] (spCheckW) := by
  refine D.good sc_check_worker (fun vs H Q E h => ?_) (fun f cdv A outer s H vs Q E hr h => ?_)
  · obtain ⟨d, kvs, x, v, rfl, _⟩ := h
    rfl
  · obtain ⟨d, kvs, x, v, rfl, hd, hv, q⟩ := h
    have hu := hu_of hr
    refine ⟨_, (pss_one (ps_if (pt_not (pt_val (pe_fn (G_is_worker.mono (by decide)) hr (pa_cons (pv 0) (pa_cons (pv 1) pa_nil))))) pss_never pss_nil)), ?_⟩
    exact s_if (b := false) (et_not (a := true) (et_B (ev_call (ea_cons (ev_var rfl) (ea_cons (ev_var rfl) ea_nil)) (Yes.spv fun H3 e3 Q3 y E => ⟨d, kvs, x, v, rfl, ex_rd e3 hd, hv, y⟩)))) (fun z => nomatch z) (fun _ H1 e1 => q H1 e1)
theorem sc_check_place : FnScope ["logs", "place"] ["logs", "place"] (defScope s_check_place) := ⟨rfl, rfl, rfl, by decide +kernel, rfl, by decide +kernel, by decide +kernel⟩
theorem ok_check_place (D : Def K mg "check_place" s_check_place ["logs", "place"]) (T : Bl mg) (G_is_place : Good P w K mg base 2 "is_place" ["logs", "thing"] (spIsP K)) : Good P w K mg base 3 "check_place" ["logs", "place"] (spCheckP K) := by
  refine D.good sc_check_place (fun vs H Q E h => ?_) (fun f cdv A outer s H vs Q E hr h => ?_)
  · obtain ⟨d, kvs, x, p, t, xs, i, rfl, _⟩ := h
    rfl
  · obtain ⟨d, kvs, x, p, t, xs, i, rfl, hd, hv, ht, hp, h0, h1, q⟩ := h
    have hu := hu_of hr
    refine ⟨_, (pss_one (ps_if (pt_not (pt_val (pe_fn (G_is_place.mono (by decide)) hr (pa_cons (pv 0) (pa_cons (pv 1) pa_nil))))) pss_never pss_nil)), ?_⟩
    exact s_if (b := false) (et_not (a := true) (et_B (ev_call (ea_cons (ev_var rfl) (ea_cons (ev_var rfl) ea_nil)) (Yes.spv fun H3 e3 Q3 y E => ⟨d, kvs, x, p, t, xs, i, rfl, ex_rd e3 hd, hv, e3 _ _ ht, ex_l e3 hp, h0, h1, y⟩)))) (fun z => nomatch z) (fun _ H1 e1 => q H1 e1)
theorem sc_stolen_items : FnScope ["logs", "worker", "places", "item"] ["logs", "worker"] (defScope s_stolen_items) := ⟨rfl, rfl, rfl, by decide +kernel, rfl, by decide +kernel, by decide +kernel⟩
theorem ok_stolen_items (D : Def K mg "stolen_items" s_stolen_items ["logs", "worker"]) (T : Bl mg) (G_check_logs : Good P w K mg base 6 "check_logs" ["logs"] spCheck) (G_check_worker : Good P w K mg base 2 "check_worker" ["logs", "worker"] spCheckW) (G_steal_places : Good P w K mg base 2 "steal_places" ["logs"] (spPlc En.isSt sts)) (G_pushed_items : Good P w K mg base 1 "pushed_items" ["log"] spPushed) : Good P w K mg base 7 "stolen_items" ["logs", "worker"] (spStolen) := by
  refine D.good sc_stolen_items (fun vs H Q E h => ?_) (fun f cdv A outer s H vs Q E hr h => ?_)
  · obtain ⟨d, ws, ps, L, k, x, es, rfl, _⟩ := h
    rfl
  · obtain ⟨d, ws, ps, L, k, x, es, rfl, hl, v, hk, hes, q⟩ := h
    have hu := hu_of hr
    refine ⟨_, (pss_cons (ps_expr (pe_fn (G_check_logs.mono (by decide)) hr (pa_cons (pv 0) pa_nil)))
      (pss_cons (ps_expr (pe_fn (G_check_worker.mono (by decide)) hr (pa_cons (pv 0) (pa_cons (pv 1) pa_nil))))
      (pss_cons (ps_set (i := 2) sc_stolen_items.nd rfl (Or.inr rfl) (pe_fn (G_steal_places.mono (by decide)) hr (pa_cons (pv 0) pa_nil)))
      (pss_one (ps_ret (pe_lc (own := [("item", 3)]) (g := (gName 3))  rfl sc_stolen_items.nd (x_pil (K := K) (pe_fn (G_pushed_items.mono (by decide)) hr (pa_cons (pe_dget hu (pv 0) (pv 1) (fun _ _ => rfl)) pa_nil))) (blkOk_by (N := ["logs", "worker", "places", "item"]) (sc := (defScope s_stolen_items)) (by decide +kernel)) (fun _ _ _ _ _ => (pg_name (i := 3) sc_stolen_items.nd rfl (Or.inl rfl))) (fun _ _ _ _ _ => (pts_one (pt_cmp (pc_din hu (pv 3) (pv 2))))) (fun _ _ _ _ _ => (pv 3)))))))), ?_⟩
    have ok := v.ok (Nat.le_refl _)
    have hkl := (List.getElem?_eq_some_iff.mp hk).1
    obtain ⟨b, hb⟩ : ∃ b, ps[k]? = some b := ⟨_, List.getElem?_eq_getElem (by rw [hl.pl]; exact hkl)⟩
    refine ⟨_, rfl, d, ws, ps, L, rfl, hl, v, fun H1 e1 => ?_⟩
    refine ⟨_, rfl, _, rfl, d, Dk ws ps, x, _, rfl, (hl.ex e1).rd, dk_get ok.nd hk hb, fun H2 e2 => ?_⟩
    have E2 := e1.trans e2
    refine ⟨_, rfl, d, ws, ps, L, rfl, hl.ex E2, ok, (stl_res L).nodup v.re, fun rd as R zs H3 n3 e3 hrd hR hz hso hRt => ?_⟩
    have E3 := E2.trans e3
    have hl3 := hl.ex E3
    have rp : ((R.filter fun r => En.isSt r.e).map (·.e.it)).Perm (L.flatMap sts) := by
      rw [rows_sts hRt]
      exact flat_lgs (f := sts) hl.pl ok.ll hz
    have hrem : ∀ y, (valV (Plc En.isSt R) (.inr y)).isSome = decide (y ∈ L.flatMap sts) := fun y => by
      rw [plc_has]
      exact decide_eq_decide.mpr rp.mem_iff
    have es60 := ok.el _ (List.mem_of_getElem? hes)
    have pl60 : (pus es).length ≤ 60 := Nat.le_trans (pus_len _) es60
    have xat : ∀ (j : Nat) x, ((pus es).map V.str)[j]? = some x → ∃ y : Str, x = .str y ∧ (pus es)[j]? = some y := fun j x hx => by
      rw [List.getElem?_map] at hx
      obtain ⟨y, hy, rfl⟩ := Option.map_eq_some_iff.mp hx
      exact ⟨y, rfl, hy⟩
    have key : given ((pus es).map V.str).length (fun j => decide ((pus es).getD j "" ∈ L.flatMap sts)) (fun j => V.str ((pus es).getD j "")) = (stolenOf L es).map V.str := by
      rw [List.length_map]
      exact given_list (pus es) "" (fun y => decide (y ∈ L.flatMap sts)) V.str
    dsimp only [gName]
    refine s_retL (D := { nx := fun _ H' => Q .non H', rt := Q }) ?_ fun p H4 n4 e4 h4 => q p H4 (fresh_back E3 n4) (E3.trans e4) h4
    rw [← key]
    refine el_lcNG (fun j => decide ((pus es).getD j "" ∈ L.flatMap sts)) (fun j => .str ((pus es).getD j "")) (fun j => [some (.ref d), some (.str x), some (.ref rd), some (.str ((pus es).getD j ""))]) ?_ (by rw [List.length_map]; omega) (fun j x hx => ?_) (fun j x hx => ?_) (fun j x hx hf => ?_)
    · exact el_call (vs := [.ref b]) (ea_cons (ev_dgetQ (ev_var rfl) (ev_var rfl) hl3.rd (dk_get ok.nd hk hb)) ea_nil) fun H4 e4 Q4 q4 E4 => ⟨b, es, rfl, (hl3.lg k _ _ hb hes).ex e4, es60, fun r H5 n5 e5 h5 => q4 r H5 n5 e5 h5⟩
    · obtain ⟨y, rfl, hy⟩ := xat j x hx
      rw [getD_at hy]
      exact ⟨rfl, fun H6 e6 Q' q' => q' H6 (Ex.refl _)⟩
    · obtain ⟨y, rfl, hy⟩ := xat j x hx
      rw [getD_at hy]
      exact et_is (et_B (ev_din (ev_var rfl) (ev_var rfl) (Or.inl hrd) rfl)) (hrem y)
    · obtain ⟨y, rfl, hy⟩ := xat j x hx
      rw [getD_at hy]
      exact ev_var rfl
end
end Vx

set_option Elab.async false
set_option linter.all false
set_option maxRecDepth 100000
set_option maxHeartbeats 4000000
namespace Vx
open PySem PySem.Spec PyProof.Rows L2 Evl
section
variable {top : Nat} {ws ws2 : List Str} {L L2 : List (List En)}
theorem Same.names (v : L.length = ws.length) (h : Same ws L ws2 L2) : ws2.Perm ws := by
  have := h.2.2.map Prod.fst
  rw [List.map_fst_zip (by have := h.2.1; omega), List.map_fst_zip (by omega)] at this
  exact this
theorem Same.logs (v : L.length = ws.length) (h : Same ws L ws2 L2) : L2.Perm L := by
  have := h.2.2.map Prod.snd
  rw [List.map_snd_zip (by have := h.2.1; omega), List.map_snd_zip (by omega)] at this
  exact this
theorem Same.at_ (h : Same ws L ws2 L2) {i : Nat} {w : Str} {es : List En} (h1 : ws2[i]? = some w) (h2 : L2[i]? = some es) : ∃ k : Nat, ws[k]? = some w ∧ L[k]? = some es := by
  have hm : (w, es) ∈ ws2.zip L2 := List.mem_of_getElem? (i := i) (by rw [List.getElem?_zip_eq_some]; exact ⟨h1, h2⟩)
  obtain ⟨k, hk⟩ := List.mem_iff_getElem?.mp (h.2.2.mem_iff.mp hm)
  rw [List.getElem?_zip_eq_some] at hk
  exact ⟨k, hk.1, hk.2⟩
theorem Same.back (h : Same ws L ws2 L2) {i : Nat} {w : Str} {es : List En} (h1 : ws[i]? = some w) (h2 : L[i]? = some es) : ∃ k : Nat, ws2[k]? = some w ∧ L2[k]? = some es := by
  have hm : (w, es) ∈ ws.zip L := List.mem_of_getElem? (i := i) (by rw [List.getElem?_zip_eq_some]; exact ⟨h1, h2⟩)
  obtain ⟨k, hk⟩ := List.mem_iff_getElem?.mp (h.2.2.mem_iff.mpr hm)
  rw [List.getElem?_zip_eq_some] at hk
  exact ⟨k, hk.1, hk.2⟩
theorem Vlog.same (v : Vlog top ws L) (h : Same ws L ws2 L2) : Vlog top ws2 L2 := by
  have pn := h.names v.len
  have pl := h.logs v.len
  refine ⟨⟨by rw [h.1]; exact v.wk.1, by rw [h.1]; exact v.wk.2.1, pn.nodup_iff.mpr v.wk.2.2.1, fun z hz => v.wk.2.2.2 z (pn.mem_iff.mp hz)⟩, h.2.1, fun es he => v.ent es (pl.mem_iff.mp he), (perm_flat pl).nodup_iff.mpr v.pu, (perm_flat pl).nodup_iff.mpr v.re, fun i es j x h1 h2 => ?_, fun i es w o x h1 h2 h3 => ?_⟩
  · obtain ⟨k, hk⟩ := List.mem_iff_getElem?.mp (pl.mem_iff.mp (List.mem_of_getElem? h1))
    exact v.own k es j x hk h2
  · obtain ⟨k, k1, k2⟩ := h.at_ h2 h1
    obtain ⟨n, i', es', g1, g2, g3⟩ := v.st k es w o x k2 k1 h3
    obtain ⟨k', c1, c2⟩ := h.back g1 g2
    exact ⟨n, k', es', c1, c2, g3⟩
theorem leftOf_perm (h : L2.Perm L) (es : List En) : leftOf L2 es = leftOf L es := leftOf_same (perm_flat h)
/-- an entry less, not a push -/
theorem Vlog.drop {k : Nat} {es : List En} {e : En} (v : Vlog top ws L) (hk : L[k]? = some (es ++ [e])) (he : e.isPu = false) : Vlog top ws (L.set k es) := by
  have hkl := (List.getElem?_eq_some_iff.mp hk).1
  have hk2 : (L.set k es)[k]? = some es := List.getElem?_set_self hkl
  have back : (L.set k es).set k (es ++ [e]) = L := by
    rw [List.set_set]
    refine List.ext_getElem? fun i => ?_
    by_cases h : k = i
    · subst h
      rw [List.getElem?_set_self hkl, hk]
    · rw [List.getElem?_set_ne h]
  have pn : e.pu = [] := by cases e <;> first | rfl | cases he
  have p1 := flat_set (pus_snoc es e) hk2
  have p2 := flat_set (res_snoc es e) hk2
  rw [back] at p1 p2
  rw [pn, List.append_nil] at p1
  have not : ∀ x, En.push x ∈ es ++ [e] → En.push x ∈ es := fun x h => by
    rcases List.mem_append.mp h with h | h
    · exact h
    · have := List.mem_singleton.mp h
      subst this
      cases he
  have has : ∀ o x, Has ws L o x → Has ws (L.set k es) o x := fun o x ⟨i, es2, h1, h2, h3⟩ => by
    by_cases z : k = i
    · subst z
      rw [hk] at h2
      cases h2
      exact ⟨k, es, h1, hk2, not x h3⟩
    · exact ⟨i, es2, h1, by rw [List.getElem?_set_ne z]; exact h2, h3⟩
  refine ⟨v.wk, by rw [List.length_set]; exact v.len, fun es2 h2 => ?_, p1.nodup_iff.mp v.pu, (List.nodup_append.mp (p2.nodup_iff.mp v.re)).1, fun i es2 j x h1 h2 => ?_, fun i es2 w o x h1 h2 h3 => ?_⟩
  · obtain ⟨i, hi⟩ := List.mem_iff_getElem?.mp h2
    rcases set_get hi with ⟨_, rfl⟩ | ⟨_, h3⟩
    · obtain ⟨a, b⟩ := v.ent _ (List.mem_of_getElem? hk)
      rw [List.length_append] at a
      exact ⟨by omega, fun y hy => b y (List.mem_append_left _ hy)⟩
    · exact v.ent es2 (List.mem_of_getElem? h3)
  · rcases set_get h1 with ⟨rfl, rfl⟩ | ⟨_, h3⟩
    · have hj := (List.getElem?_eq_some_iff.mp h2).1
      obtain ⟨j', a, b⟩ := v.own i _ j x hk (by rw [List.getElem?_append_left hj]; exact h2)
      rw [List.getElem?_append_left (by omega)] at b
      exact ⟨j', a, b⟩
    · exact v.own i es2 j x h3 h2
  · rcases set_get h1 with ⟨rfl, rfl⟩ | ⟨_, h4⟩
    · have := v.st i _ w o x hk h2 (List.mem_append_left _ h3)
      exact ⟨this.1, has o x this.2⟩
    · have := v.st i es2 w o x h4 h2 h3
      exact ⟨this.1, has o x this.2⟩
end
end Vx

set_option Elab.async false
set_option linter.all false
set_option maxRecDepth 100000
set_option maxHeartbeats 8000000
namespace Vx
open PySem PySem.Spec PyProof.Rows L2 Evl
/-- dict([(name, e) for name in names]), e an object that is there -/
theorem ev_rowsR {K : PySem.W.Frag} {σ : L2.St} {H : Hp} {tl te2 : TE} {j : Nat} {vs : List Nat} {Q : VK} (F : Addr → List Str → Hp → Prop) (C : Str → Addr)
    (htl : ∀ R : VK, (∀ pw names H1, F pw names H1 → H1 pw = some (.lst (names.map V.str)) → names.Nodup → names.length ≤ 1000 → R (.ref pw) H1) → tl σ H R)
    (hj : ∀ x, ((wipe σ vs).set j (some x))[j]? = some (some x)) (hwp : ∀ x, wipe ((wipe σ vs).set j (some x)) vs = wipe σ vs)
    (he : ∀ pw names H1, F pw names H1 → ∀ (i : Nat) x, names[i]? = some x → Ev te2 ((wipe σ vs).set j (some (.str x))) H1 (.ref (C x)))
    (q : ∀ pw names H1 d H2, F pw names H1 → H1 d = none → Ex H1 H2 → H2 d = some (.dK (Dk names (names.map C))) → Q (.ref d) H2) :
    tCB (rDictP K) (tCons (tLc (iList K tl) (gName j) tYes (tTup (tCons (tVar j) (tCons te2 tNil))) vs) tNil) σ H Q := by
  refine htl _ fun pw names H1 hF hw1 nd hl => ⟨pw, rfl, ⟨_, sq_of hw1⟩, fun Dl hD => ?_⟩
  refine lc_list (xs := names.map V.str) (fun i H' => Ex H1 H' ∧ ∃ as : List Addr, H' Dl = some (.lst (as.map V.ref)) ∧ as.length = i ∧ Paired (fun a (x : Key × V) => H' a = some (.tup [kV x.1, x.2])) as (Dk (names.take i) ((names.take i).map C)))
    ⟨Ex.new hD, [], upd_same, rfl, by simpa [Dk] using Paired.nil⟩ (fun i H' _ p => sq_of (p.1 _ _ hw1)) (fun i x H' hx p => ?_) (fun H' p => ?_)
  · obtain ⟨e2, as, ha, hlen, hp⟩ := p
    rw [List.getElem?_map] at hx
    obtain ⟨z, hz, rfl⟩ := Option.map_eq_some_iff.mp hx
    have hi : i < names.length := (List.getElem?_eq_some_iff.mp hz).1
    refine ⟨hwp _, ?_⟩
    refine ⟨_, hj _, he pw names H1 hF i z hz H' e2 _ fun H3 e3 => ⟨(by show 2 ≤ sizeLine; decide), fun t ht => ⟨as.map V.ref, ?_, ?_, ?_⟩⟩⟩
    all_goals have n4 : Dl ≠ t := ne_of_none (e3 _ _ ha) ht
    · rw [upd_ne n4]
      exact e3 _ _ ha
    · rw [List.length_map]
      exact sz_lt (by omega)
    · have tk : TK H' (upd (upd H3 t (.tup [.str z, .ref (C z)])) Dl (.lst (as.map V.ref ++ [.ref t]))) := ((tk_ex e3).trans (tk_new ht)).trans (tk_upd (by rw [upd_ne n4]; exact e3 _ _ ha))
      refine ⟨Ex.mut ((e2.trans e3).trans (Ex.new ht)) hD, as ++ [t], by rw [upd_same, List.map_append]; rfl, by rw [List.length_append, hlen]; rfl, ?_⟩
      have e5 : Dk (names.take (i + 1)) ((names.take (i + 1)).map C) = Dk (names.take i) ((names.take i).map C) ++ [(.inr z, .ref (C z))] := by
        have : names.take (i + 1) = names.take i ++ [z] := by
          rw [List.take_add_one, hz]
          rfl
        rw [this, List.map_append]
        exact dk_snoc (by rw [List.length_map])
      rw [e5]
      refine Paired.snoc (paired_imp (fun a x z => tk _ _ z) hp) ?_
      rw [upd_ne n4.symm, upd_same]
      rfl
  · obtain ⟨e2, as, ha, hlen, hp⟩ := p
    rw [List.length_map, List.take_length] at hp
    refine ⟨Dl, as, Dk names (names.map C), rfl, sq_of ha, paired_imp (fun a x z => st_of z) hp, fun d hd => ?_⟩
    rw [merge_dk (by rw [List.length_map]) nd]
    exact q pw names H1 d _ hF (fresh_back e2 hd) (e2.trans (Ex.new hd)) upd_same
theorem s_rowsR {K : PySem.W.Frag} {D : Ends} {σ : L2.St} {H : Hp} {tl te2 : TE} {i j : Nat} {vs : List Nat} (F : Addr → List Str → Hp → Prop) (C : Str → Addr)
    (htl : ∀ R : VK, (∀ pw names H1, F pw names H1 → H1 pw = some (.lst (names.map V.str)) → names.Nodup → names.length ≤ 1000 → R (.ref pw) H1) → tl σ H R)
    (hj : ∀ x, ((wipe σ vs).set j (some x))[j]? = some (some x)) (hwp : ∀ x, wipe ((wipe σ vs).set j (some x)) vs = wipe σ vs)
    (he : ∀ pw names H1, F pw names H1 → ∀ (i : Nat) x, names[i]? = some x → Ev te2 ((wipe σ vs).set j (some (.str x))) H1 (.ref (C x)))
    (q : ∀ pw names H1 d H2, F pw names H1 → H1 d = none → Ex H1 H2 → H2 d = some (.dK (Dk names (names.map C))) → D.nx (σ.set i (some (.ref d))) H2) :
    tAsg (tCB (rDictP K) (tCons (tLc (iList K tl) (gName j) tYes (tTup (tCons (tVar j) (tCons te2 tNil))) vs) tNil)) (gName i) D σ H := ev_rowsR F C htl hj hwp he q
/-- the last entry of a log taken away -/
theorem TL.dropLast {H H' : Hp} {p : Addr} {ts : List (List V)} {t : List V} {vs : List V} (h : TL H p (ts ++ [t])) (k : TK H H') (hv : H p = some (.lst vs)) (h' : H' p = some (.lst vs.dropLast)) : TL H' p ts := by
  have hl : vs.length = ts.length + 1 := by
    obtain ⟨us, h1, h2⟩ := h.at_
    rw [hv] at h1
    cases h1
    rw [h2, List.length_append]
    rfl
  have e1 : vs.dropLast = vs.eraseIdx ts.length := by
    rw [List.dropLast_eq_take, List.eraseIdx_eq_take_drop_succ, hl, Nat.add_sub_cancel, List.drop_eq_nil_of_le (by omega), List.append_nil]
  have := h.erase (i := ts.length) k hv (by rw [h', e1])
  rw [List.eraseIdx_append_of_length_le (Nat.le_refl _), Nat.sub_self] at this
  simpa using this
theorem HL.drop {d : Addr} {H : Hp} {ws : List Str} {ps : List Addr} {L : List (List En)} {k : Nat} {pk : Addr} {es : List En} {e : En} {lv : List V} (h : HL H d ws ps L) (nd : ps.Nodup) (hk : ps[k]? = some pk) (hes : L[k]? = some (es ++ [e])) (hv : H pk = some (.lst lv)) :
    HL (upd H pk (.lst lv.dropLast)) d ws ps (L.set k es) := by
  have tk : TK H (upd H pk (.lst lv.dropLast)) := tk_upd hv
  have ndp : d ≠ pk := fun z => by have := h.dk; rw [z, hv] at this; cases this
  refine ⟨by rw [upd_ne ndp]; exact h.dk, h.pl, fun i p es2 h1 h2 => ?_⟩
  rcases set_get h2 with ⟨rfl, rfl⟩ | ⟨ne, h3⟩
  · rw [hk] at h1
    cases h1
    have := h.lg i pk _ hk hes
    rw [List.map_append] at this
    exact TL.dropLast this tk hv upd_same
  · exact (h.lg i p es2 h1 h3).keep tk (upd_ne fun z => ne (by
      subst z
      exact (List.getElem?_inj (List.getElem?_eq_some_iff.mp h1).1 nd).mp (h1.trans hk.symm)))
/-- rows[name] != [] -/
theorem lay_en {e : En} (h : e.ok) : PyData.canLay0 e.data = true := by
  have st : ∀ {x : Str}, IsNm x → PyData.canLay0 (.str x) = true := fun hx => by simp only [PyData.canLay0, hx.strOk]
  cases e with
  | push x => simp only [En.data, En.vs, List.map, vD, PyData.canLay0, PyData.canLayAll0, nmP.strOk, (show IsNm x from h).strOk, Bool.and_self]
  | pop x => simp only [En.data, En.vs, List.map, vD, PyData.canLay0, PyData.canLayAll0, nmO.strOk, (show IsNm x from h).strOk, Bool.and_self]
  | size k => simp only [En.data, En.vs, List.map, vD, PyData.canLay0, PyData.canLayAll0, nmS.strOk, Bool.and_self]
  | steal o x => simp only [En.data, En.vs, List.map, vD, PyData.canLay0, PyData.canLayAll0, nmT.strOk, h.1.strOk, h.2.strOk, Bool.and_self]
theorem lay_ens : ∀ {es : List En}, (∀ e ∈ es, e.ok) → PyData.canLayAll0 (es.map En.data) = true
  | [], _ => rfl
  | e :: es, h => by
    rw [List.map_cons]
    simp only [PyData.canLayAll0, lay_en (h e (List.mem_cons_self ..)), lay_ens fun x hx => h x (List.mem_cons_of_mem _ hx), Bool.and_self]
theorem shaped_log {es : List En} (h : ∀ e ∈ es, e.ok) : SeqAt.shaped (logD es) = true := by
  unfold SeqAt.shaped logD
  rw [Bool.and_eq_true]
  refine ⟨by simp only [PyData.canLay0]; exact lay_ens h, decide_eq_true ?_⟩
  have := (small_ens h).dp
  simp only [PyData.depth]
  omega
theorem dp_en {K : PySem.W.Frag} {H : Hp} {a : Addr} {e : En} (h : H a = some (.tup e.vs)) : Dp K H (.ref a) e.data := by
  refine .tup (st_of h) ?_
  cases e with
  | push x => exact .cons (.str _) (.cons (.str _) .nil)
  | pop x => exact .cons (.str _) (.cons (.str _) .nil)
  | size k => exact .cons (.str _) (.cons (.int _) .nil)
  | steal o x => exact .cons (.str _) (.cons (.str _) (.cons (.str _) .nil))
theorem dp_ens {K : PySem.W.Frag} {H : Hp} : ∀ {as : List Addr} {es : List En}, Paired (fun a t => H a = some (.tup t)) as (es.map En.vs) → DpAll K H (as.map V.ref) (es.map En.data)
  | [], [], _ => .nil
  | a :: as, e :: es, .cons h t => .cons (dp_en h) (dp_ens t)
theorem ev_neL {K : PySem.W.Frag} {σ : L2.St} {H : Hp} {te : TE} {p : Addr} {es : List En} (h : Ev te σ H (.ref p)) (hp : TL H p (es.map En.vs)) (ok : ∀ e ∈ es, e.ok) : Ev (tOp (rNeD K) te (tLst tNil)) σ H (.bl (match es with | [] => false | _ :: _ => true)) :=
  ev_opL h (el_lst ea_nil (by decide)) fun r H1 h1 e1 H2 e2 Q q2 => by
    obtain ⟨as, g1, g2⟩ := (hp.ex e1).ex e2
    refine ⟨logD es, .list [], .lst (sq_of g1) (dp_ens g2), .lst (sq_of (e2 _ _ h1)) .nil, shaped_log ok, rfl, ?_⟩
    cases es with
    | nil => exact q2 H2 (Ex.refl _)
    | cons x es => exact q2 H2 (Ex.refl _)
end Vx

set_option Elab.async false
set_option linter.all false
set_option maxRecDepth 100000
set_option maxHeartbeats 8000000
namespace Vx
open PySem PySem.Spec PyProof.Rows L2 Evl
/-! xs[:] = ys -/
section
variable {prog : Program} {w : World} {A : Around} {E : Value → Shared → Prop} {s : Shared}
theorem bounds_all {n : Nat} : sliceBounds none none none n = (((0 : Nat) : Int), (n : Int), 1) := by
  obtain ⟨h1, h2, h3⟩ := slice_bounds none none n
  exact Prod.ext (h1.trans rfl) (Prod.ext (h2.trans rfl) h3)
theorem all_store {p q sl : Addr} {old new : Array Value} {m m2 : Nat} {R : Unit → Shared → Prop}
    (hp : s.heap.get? p = some { cls := .type "list", data := .seq old m }) (hq : s.heap.get? q = some { cls := .type "list", data := .seq new m2 }) (hpq : p ≠ q)
    (hsl : s.heap.IsSliceOf sl .none .none .none)
    (hz : old.size + new.size ≤ sizeLine) (fin : R () { s with heap := s.heap.update p (Obj.mapSeq fun vs => vs.extract 0 0 ++ new ++ vs.extract old.size vs.size) }) :
    wpAny (model prog w) A (setItem (.ref p) (.ref sl) (.ref q)) R E s := by
  have lp : s.heap.IsList p old := PySem.IsL.isList hp
  have lq : s.heap.IsList q new := PySem.IsL.isList hq
  obtain ⟨os, gs, cs, ds⟩ := id hsl
  have isSl : s.TypeIs (.ref sl) "slice" := ⟨os, gs, cs⟩
  have other : Builtin.List.listSameRef (.ref p) (.ref q) = false := by unfold Builtin.List.listSameRef; exact beq_eq_false_iff_ne.mpr hpq
  have up : (max ((0 : Nat) : Int) (old.size : Int)).toNat = old.size := by omega
  have hz2 : ((fun vs : Array Value => vs.extract 0 0 ++ new ++ vs.extract old.size vs.size) old).size ≤ sizeLine + 1 := by simp only [Array.size_append, Array.size_extract]; omega
  unfold setItem; try with_reducible refine wpAny_holding ?_
  first | refine wpAny_bind (wpAny_pure ?_) | skip
  refine wpAny_bind (wpAny_sequenceKey lp.typeIs (by decide) ?_)
  refine wpAny_bind (wpAny_callSpecial?_slot (name := Str.ofString "__setitem__") lp.typeIs slot_list_setitem (wpAny_call_entry slot_list_setitem lp.typeIs entry_list_setitem ?_ (args_list_setitem _ _ _)))
  show wpAny _ _ (Builtin.List.listSubscript? (.ref sl) >>= _) _ _ s; refine wpAny_bind ?_
  unfold Builtin.List.listSubscript?; refine wpAny_bind (wpAny_specialOf isSl slice_no_index ?_)
  simp only [Option.isNone_none, if_true]; refine wpAny_pure ?_
  show wpAny _ _ (typeOf (.ref sl) >>= _) _ _ s; refine wpAny_bind (wpAny_typeOf isSl ?_)
  refine PySem.W.KFB.if_not (by decide) ?_; rw [listSliceParts_eq]
  refine wpAny_bind (wpAny_bind (wpAny_field gs ds (x := .none) rfl (wpAny_bind (wpAny_listPart .none ?_))))
  rw [if_neg (show ¬ ((rawPart none == rawInt 0) = true) from Bool.false_ne_true)]
  refine wpAny_bind (wpAny_field gs ds (x := .none) rfl (wpAny_bind (wpAny_listPart .none ?_)))
  refine wpAny_bind (wpAny_field gs ds (x := .none) rfl (wpAny_bind (wpAny_listPart .none (wpAny_pure ?_))))
  first
    | simp only [other, Bool.false_eq_true, if_false]
    | refine PySem.W.KFB.if_not other ?_
    | (dsimp only; rw [if_neg (by rw [other]; exact Bool.false_ne_true)])
  refine wpAny_bind (m := Builtin.List.listAllItems (.ref q) "must assign iterable to extended slice") ?_
  unfold Builtin.List.listAllItems; refine wpAny_bind (wpAny_typeOf lq.typeIs ?_)
  refine PySem.W.KFB.if_so (by decide) ?_; unfold Builtin.List.listItems
  refine wpAny_bind (wpAny_seqItems hq rfl (wpAny_pure ?_)); refine wpAny_bind (wpAny_bind (wpAny_seqItems hp rfl (wpAny_pure ?_)))
  refine wpAny_bind (wpAny_of_eq ((sliceIndices_raw none none none old.size (by simp)).trans (congrArg (pure : Int × Int × Int → Sem (Int × Int × Int)) bounds_all)) ?_)
  show wpAny _ _ (if ((1 : Int) == 1) = true then _ else _) _ _ s; rw [if_pos (by decide)]
  refine wpAny_bind (wpAny_rule ?_)
  first
    | simp only [notLongL hz, Bool.false_eq_true, if_false]
    | refine PySem.W.KFB.if_not (notLongL hz) ?_
  first | refine wpAny_bind (wpAny_pure ?_) | skip
  show wpAny _ _ (updateSeq p (fun vs => vs.extract 0 (((0 : Nat) : Int)).toNat ++ new ++ vs.extract (max ((0 : Nat) : Int) (old.size : Int)).toNat vs.size) >>= _) _ _ s
  rw [up, Int.toNat_natCast]
  refine wpAny_bind (wpAny_updateSeq (hz := Nat.le_trans (Nat.le_add_right _ _) hz) (_hz' := hz2) hp rfl ?_); refine wpAny_bind (wpAny_letGo ?_)
  first
    | exact wpAny_bind (wpAny_pure (wpAny_pure ⟨.none, rfl, wpAny_pure fin⟩))
    | exact wpAny_pure ⟨.none, rfl, wpAny_pure fin⟩
end
section
variable {X : Cx}
/-- o[:] = v, both lists -/
def gAll (to : TE) : TG := fun v σ H Q => to σ H fun o H2 => ∃ p q xs ys, o = .ref p ∧ v = .ref q ∧ p ≠ q ∧ H2 p = some (.lst xs) ∧ H2 q = some (.lst ys) ∧ xs.length + ys.length ≤ sizeLine ∧ Q σ (upd H2 p (.lst ys))
theorem pg_all {o : Expr} {to : TE} {pos p2 : Pos} (ho : PE X o to)
    (ha : ∀ v, assign (.Subscript o (.Slice none none none p2) pos) X.env v = (do
      let x ← holding [v] (eval o X.env)
      let i ← holding [v, x] (eval (.Slice none none none p2) X.env)
      standAt pos
      holding [v, x, i] (setItem x i v)
      release [i, v, x] []) := by intro _; rfl) : PG X (.Subscript o (.Slice none none none p2) pos) (gAll to) := by
  refine ⟨fun pins s σ H v u Q I r h => ?_⟩
  rw [ha]
  refine wpAny_bind (wpAny_holding (thn (ho.run pins s σ H _ I h) fun ov s1 ⟨x, H1, I1, r1, q1⟩ => ?_))
  refine wpAny_bind (wpAny_holding (wpAny_Slice ?_))
  rw [evalPart_none]; refine wpAny_pure (wpAny_pure (wpAny_pure ?_))
  have I4 : Inv X pins σ H1 { s1 with heap := s1.heap.push { cls := .type "slice", data := .fields #[.none, .none, .none] } } := I1.kept (t' := s1.toks) fun b ob q => Heap.get?_push_of_some _ q
  obtain ⟨p, q, xs, ys, rfl, rfl, hpq, hp, hq, hz, fin⟩ := q1
  cases r1
  cases r
  refine wpAny_bind (wpAny_standAt (wpAny_bind (wpAny_holding ?_)))
  obtain ⟨z, its, n, rv, hlen, e⟩ := I4.lstM hp
  obtain ⟨z2, its2, n2, rv2, hlen2, e2⟩ := I4.lstM hq
  refine all_store e e2 hpq (Heap.IsSliceOf.new ..) (by rw [List.size_toArray, List.size_toArray]; omega) ?_
  refine wpAny_release ⟨σ, _, ?_, fin⟩
  refine I4.lset (its' := its2) (t' := s1.toks) hp e ?_ rv2 ?_
  · have h1 := splice_eq its its2 0 its.toArray.size
    have h2 : its.drop its.toArray.size = [] := by rw [List.size_toArray]; exact List.drop_length
    rw [h2, List.append_nil, List.take_zero, List.nil_append] at h1
    exact h1
  · omega
end
end Vx

namespace Vx
open PySem PySem.Spec PyProof.Rows L2 Evl
/-! f(q = v, p = u): two keywords, the other way round -/
structure GoodB (P : Program) (w : World) (K : PySem.W.Frag) (mg : Str → Option Value) (base : Heap) (k : Nat) (x p1 p2 : Str) (sp : Sp) : Prop where
  ex : ∃ f fd, FnOk P w K mg base CX0 k f fd [p1, p2] sp ∧ mg x = some (.ref f) ∧ PySem.W.keepIn K (.ref f) = true ∧ Binds K fd [p1, p2] [] ∧ ∀ (s : Shared) (u1 u2 : Value), BindsTo s fd ⟨[], [(p2, u2), (p1, u1)]⟩ [(p1, u1), (p2, u2)]
theorem GoodB.good {P : Program} {w : World} {K : PySem.W.Frag} {mg : Str → Option Value} {base : Heap} {k : Nat} {x p1 p2 : Str} {sp : Sp} (g : GoodB P w K mg base k x p1 p2 sp) : Good P w K mg base k x [p1, p2] sp := by
  obtain ⟨f, fd, F, m, kp, b, _⟩ := g.ex
  exact ⟨f, fd, F, m, kp, b⟩
theorem Def.goodB {P : Program} {w : World} {K : PySem.W.Frag} {mg : Str → Option Value} {base : Heap} {x p1 p2 : Str} {st : Stmt} {N : List Str} {k : Nat} {sp : Sp} (D : Def K mg x st [p1, p2]) (hb : ∀ (kV doc pm : Value) (an : Option Addr) (cdv ct : Value) (s : Shared) (u1 u2 : Value), BindsTo s (PySem.W.fnOf x x (defArgs st) (defBody st) (defScope st) .none kV doc pm an cdv ct) ⟨[], [(p2, u2), (p1, u1)]⟩ [(p1, u1), (p2, u2)])
    (S : FnScope N [p1, p2] (defScope st)) (len : ∀ vs H Q E, sp vs H Q E → vs.length = [p1, p2].length)
    (body : ∀ (f : Addr) (cdv : Value) (A : Around) (outer : List Env) (s : Shared) (H : Hp) (vs : List V) (Q : VK) (E : XK), Room k (A.deeper (envOfC x (defScope st) s.heap.objs.size f cdv)) → sp vs H Q E →
      ∃ t, PSs (cxOf CX0 P w K mg base N x (defScope st) f cdv A outer s H E).nox (defBody st) t ∧ t { nx := fun _ H' => Q .non H', rt := Q } (start N vs) H) : GoodB P w K mg base (k + 1) x p1 p2 sp := by
  obtain ⟨f, fd, F, m, b⟩ := D.ex
  obtain ⟨oc, od, kV, doc, pm, an, cdv, ct, osl, e, _⟩ := F.ex
  refine ⟨f, fd, F.ok S len (fun cdv A outer s H vs Q E hr h => body f cdv A outer s H vs Q E hr h), m, F.kp, b, fun s u1 u2 => ?_⟩
  rw [e]
  exact hb kV doc pm an cdv ct s u1 u2
def tCallR (sp : Sp) (ta : TA) : TE := fun σ H Q => ta σ H fun vs H1 => sp vs.reverse H1 Q E0
section
variable {X : Cx} {k : Nat} {x p1 p2 : Str} {sp : Sp} {p pos : Pos} {kws : List Keyword} {t1 t2 : TE}
theorem pe_fnK2 (g : GoodB X.prog X.w X.K X.mg X.base k x p1 p2 sp) (room : Room k X.A) (hkw : PK X kws (tCons t2 (tCons t1 tNil))) (hg : Gl X x := by rfl) (hd : (x == ("__debug__" : Str)) = false := by decide)
    (hall : (backToKw pos (keywordEach kws X.env)).all (·.1.isSome) = true := by rfl) (hks : (backToKw pos (keywordEach kws X.env)).filterMap (·.1) = [p2, p1] := by rfl)
    (hpl : ((backTo pos (starEach [] X.env)).any (·.1) || (backToKw pos (keywordEach kws X.env)).any (·.1.isNone)) = false := by rfl) : PE X (.Call (.Name x p) [] kws pos) (tCallR sp (tCons t2 (tCons t1 tNil))) := by
  obtain ⟨f, fd, F, m, kp, _, b⟩ := g.ex
  refine ⟨fun pins s σ H Q I h => wpAny_Call_Name_kw (ld_glob I hg m (PySem.W.callWith_KW0 (h₀ := X.base) I.ok.mod.kin kp hall (thn (hkw.run pos pins s σ H _ I h) fun us s1 ⟨vs, H1, I1, r, q⟩ => ⟨I1.kIn, ?_⟩) hpl) hd)⟩
  have q : sp vs.reverse H1 Q E0 := q
  rw [hks]
  have hl := F.len _ _ _ _ q
  rw [List.length_reverse] at hl
  obtain ⟨v2, v1, rfl⟩ : ∃ v2 v1, vs = [v2, v1] := by
    match vs, hl with
    | [v2, v1], _ => exact ⟨v2, v1, rfl⟩
  obtain ⟨u2, u1, rfl, r2, r1⟩ : ∃ u2 u1, us = [u2, u1] ∧ RelV v2 u2 ∧ RelV v1 u1 := by
    cases r with
    | cons a t => cases t with
      | cons b t => cases t with
        | nil => exact ⟨_, _, rfl, a, b⟩
  show wpAny (model X.prog X.w) X.A (call (.ref f) [] [(p2, u2), (p1, u1)]) (EP X pins σ Q) X.xe s1
  refine wpAny_call (codeAny_mono (F.run X.A X.stack s1 H1 ⟨[], [(p2, u2), (p1, u1)]⟩ [u1, u2] [v1, v2] Q E0 room I1.env0 (b s1 u1 u2) (.cons r1 (.cons r2 .nil)) q) fun r2 s2 z => ?_)
  rcases r2 with e2 | fl
  · exact pass0 (X := X) pins σ H1 s1 e2 s2 I1 z
  cases fl with
  | ret u => exact I1.after z
  | next => exact False.elim z
  | brk => exact False.elim z
  | cont => exact False.elim z
end
theorem x_inD {X : Cx} {K : PySem.W.Frag} (hK : X.K = K) {k : Nat} (hr : Room k X.A) : OpR X (compareOp .In) (rInD K) := by
  subst hK
  exact op_inD (by have := hr.un; omega)
theorem x_eqD {X : Cx} {K : PySem.W.Frag} (hK : X.K = K) (hu : X.A.units + 64 < cLine) : OpR X (compareOp .Eq) (rEqD K) := by
  subst hK
  exact op_eqD hu
end Vx

set_option Elab.async false
set_option linter.all false
set_option maxRecDepth 100000
set_option maxHeartbeats 4000000
namespace Vx
open PySem PySem.Spec PyProof.Rows L2 Evl
/-! logs without steals, and steals put elsewhere -/
def nst (es : List En) : List En := es.filter fun e => !e.isSt
def stf (es : List En) : List En := es.filter En.isSt
def Own (es : List En) : Prop := ∀ A x B, es = A ++ En.pop x :: B → En.push x ∈ A
theorem own_iff {es : List En} : (∀ (j : Nat) x, es[j]? = some (.pop x) → ∃ j' : Nat, j' < j ∧ es[j']? = some (.push x)) ↔ Own es := by
  constructor
  · intro h A x B e
    obtain ⟨j', h1, h2⟩ := h A.length x (by rw [e]; simp)
    rw [e, List.getElem?_append_left h1] at h2
    exact List.mem_of_getElem? h2
  · intro h j x hj
    obtain ⟨hl, h2⟩ := List.getElem?_eq_some_iff.mp hj
    have e : es = es.take j ++ En.pop x :: es.drop (j + 1) := by
      rw [← h2, List.getElem_cons_drop, List.take_append_drop]
    obtain ⟨i, hi⟩ := List.mem_iff_getElem?.mp (h _ _ _ e)
    have hi2 := (List.getElem?_eq_some_iff.mp hi).1
    rw [List.length_take] at hi2
    refine ⟨i, by omega, ?_⟩
    rw [List.getElem?_take_of_lt (by omega)] at hi
    exact hi
theorem own_nst {es : List En} : Own (nst es) ↔ Own es := by
  constructor
  · intro h A x B e
    have e2 : nst es = nst A ++ En.pop x :: nst B := by
      rw [e]
      unfold nst
      rw [List.filter_append, List.filter_cons]
      rfl
    exact (List.mem_filter.mp (h _ _ _ e2)).1
  · intro h A x B e
    unfold nst at e
    obtain ⟨l1, l2, e1, e2, e3⟩ := List.filter_eq_append_iff.mp e
    obtain ⟨c1, c2, e4, n, _, e5⟩ := List.filter_eq_cons_iff.mp e3
    have := h (l1 ++ c1) x c2 (by rw [e1, e4, List.append_assoc])
    rcases List.mem_append.mp this with m | m
    · rw [← e2]
      exact List.mem_filter.mpr ⟨m, rfl⟩
    · exact absurd rfl (n _ m)
theorem pus_cons (e : En) (es : List En) : pus (e :: es) = e.pu ++ pus es := List.flatMap_cons
theorem res_cons (e : En) (es : List En) : res (e :: es) = e.re ++ res es := List.flatMap_cons
theorem pus_app (a b : List En) : pus (a ++ b) = pus a ++ pus b := List.flatMap_append
theorem res_app (a b : List En) : res (a ++ b) = res a ++ res b := List.flatMap_append
theorem nst_cons (e : En) (es : List En) : nst (e :: es) = if e.isSt then nst es else e :: nst es := by
  unfold nst
  rw [List.filter_cons]
  cases e <;> rfl
theorem stf_cons (e : En) (es : List En) : stf (e :: es) = if e.isSt then e :: stf es else stf es := by
  unfold stf
  rw [List.filter_cons]
theorem pus_nst : ∀ es : List En, pus (nst es) = pus es
  | [] => rfl
  | e :: es => by
    rw [nst_cons, pus_cons]
    cases e with
    | steal o x => exact pus_nst es
    | push x => exact (pus_cons _ _).trans (by rw [pus_nst es])
    | pop x => exact (pus_cons _ _).trans (by rw [pus_nst es])
    | size x => exact (pus_cons _ _).trans (by rw [pus_nst es])
theorem res_nst : ∀ es : List En, (res es).Perm (res (nst es) ++ res (stf es))
  | [] => List.Perm.refl _
  | e :: es => by
    have ih := res_nst es
    rw [nst_cons, stf_cons, res_cons]
    cases e with
    | steal o x =>
      show ([x] ++ res es).Perm (res (nst es) ++ res (En.steal o x :: stf es))
      rw [res_cons]
      show ([x] ++ res es).Perm (res (nst es) ++ ([x] ++ res (stf es)))
      refine (List.Perm.append_left _ ih).trans ?_
      rw [← List.append_assoc, ← List.append_assoc]
      exact List.Perm.append_right _ List.perm_append_comm
    | push x =>
      show (res es).Perm (res (En.push x :: nst es) ++ res (stf es))
      rw [res_cons]
      exact ih
    | pop x =>
      show ([x] ++ res es).Perm (res (En.pop x :: nst es) ++ res (stf es))
      rw [res_cons, List.append_assoc]
      exact List.Perm.append_left _ ih
    | size x =>
      show (res es).Perm (res (En.size x :: nst es) ++ res (stf es))
      rw [res_cons]
      exact ih
theorem nst_mem {e : En} {es : List En} (h : e ∈ nst es) : e ∈ es := (List.mem_filter.mp h).1
theorem nst_in {e : En} {es : List En} (h : e ∈ es) (n : e.isSt = false) : e ∈ nst es := List.mem_filter.mpr ⟨h, by rw [n]; rfl⟩
theorem nst_len (es : List En) : (nst es).length ≤ es.length := List.length_filter_le _ _
theorem nst_none {es : List En} {o x : Str} : ¬ En.steal o x ∈ nst es := fun h => by
  have := (List.mem_filter.mp h).2
  cases this
/-- some logs without their steals -/
def Fl (a b : List En) : Prop := a = b ∨ a = nst b
theorem Fl.mem {a b : List En} {e : En} (h : Fl a b) (he : e ∈ a) : e ∈ b := by
  rcases h with rfl | rfl
  · exact he
  · exact nst_mem he
theorem Fl.in {a b : List En} {e : En} (h : Fl a b) (he : e ∈ b) (n : e.isSt = false) : e ∈ a := by
  rcases h with rfl | rfl
  · exact he
  · exact nst_in he n
theorem Fl.pus {a b : List En} (h : Fl a b) : Vx.pus a = Vx.pus b := by
  rcases h with rfl | rfl
  · rfl
  · exact pus_nst _
theorem Fl.res {a b : List En} (h : Fl a b) : ∃ g, (Vx.res b).Perm (Vx.res a ++ g) := by
  rcases h with rfl | rfl
  · exact ⟨[], by rw [List.append_nil]⟩
  · exact ⟨_, res_nst _⟩
theorem Fl.own {a b : List En} (h : Fl a b) (o : Own b) : Own a := by
  rcases h with rfl | rfl
  · exact o
  · exact own_nst.mpr o
theorem Fl.len {a b : List En} (h : Fl a b) : a.length ≤ b.length := by
  rcases h with rfl | rfl
  · exact Nat.le_refl _
  · exact nst_len _
theorem fl_pus : ∀ {L' L : List (List En)}, Paired Fl L' L → L'.flatMap pus = L.flatMap pus
  | _, _, .nil => rfl
  | _, _, .cons h t => by rw [List.flatMap_cons, List.flatMap_cons, fl_pus t, h.pus]
theorem fl_res : ∀ {L' L : List (List En)}, Paired Fl L' L → ∃ g, (L.flatMap res).Perm (L'.flatMap res ++ g)
  | _, _, .nil => ⟨[], List.Perm.refl _⟩
  | _, _, .cons h t => by
    obtain ⟨g, hg⟩ := fl_res t
    obtain ⟨g2, hg2⟩ := h.res
    refine ⟨g2 ++ g, ?_⟩
    rw [List.flatMap_cons, List.flatMap_cons]
    refine (hg2.append hg).trans ?_
    rw [List.append_assoc, List.append_assoc]
    refine List.Perm.append_left _ ?_
    rw [← List.append_assoc, ← List.append_assoc]
    exact List.Perm.append_right _ List.perm_append_comm
theorem paired_back {α β : Type} {F : α → β → Prop} {xs : List α} {ys : List β} (p : Paired F xs ys) {i : Nat} {x : α} (h : xs[i]? = some x) : ∃ y, ys[i]? = some y ∧ F x y := by
  have hi : i < ys.length := by rw [← p.length]; exact (List.getElem?_eq_some_iff.mp h).1
  obtain ⟨x', h1, h2⟩ := paired_get p (List.getElem?_eq_getElem hi)
  rw [h] at h1
  cases h1
  exact ⟨_, List.getElem?_eq_getElem hi, h2⟩
theorem Has.fl {ws : List Str} {L L' : List (List En)} {o x : Str} (p : Paired Fl L' L) (h : Has ws L o x) : Has ws L' o x := by
  obtain ⟨i, es, h1, h2, h3⟩ := h
  obtain ⟨es', g1, g2⟩ := paired_get p h2
  exact ⟨i, es', h1, g1, g2.in h3 rfl⟩
theorem Vlog.fl {top : Nat} {ws : List Str} {L L' : List (List En)} (v : Vlog top ws L) (p : Paired Fl L' L) : Vlog top ws L' := by
  refine ⟨v.wk, p.length.trans v.len, fun es he => ?_, by rw [fl_pus p]; exact v.pu, ?_, fun i es j x h1 h2 => ?_, fun i es w o x h1 h2 h3 => ?_⟩
  · obtain ⟨i, hi⟩ := List.mem_iff_getElem?.mp he
    obtain ⟨es2, g1, g2⟩ := paired_back p hi
    obtain ⟨a, b⟩ := v.ent es2 (List.mem_of_getElem? g1)
    exact ⟨Nat.le_trans g2.len a, fun e he => b e (g2.mem he)⟩
  · obtain ⟨g, hg⟩ := fl_res p
    exact (List.nodup_append.mp (hg.nodup_iff.mp v.re)).1
  · obtain ⟨es2, g1, g2⟩ := paired_back p h1
    exact own_iff.mpr (g2.own (own_iff.mp fun j x h => v.own i es2 j x g1 h)) j x h2
  · obtain ⟨es2, g1, g2⟩ := paired_back p h1
    obtain ⟨a, b⟩ := v.st i es2 w o x g1 h2 (g2.mem h3)
    exact ⟨a, b.fl p⟩
theorem paired_same {α : Type} {F : α → α → Prop} (h : ∀ x, F x x) : ∀ xs : List α, Paired F xs xs
  | [] => .nil
  | x :: xs => .cons (h x) (paired_same h xs)
theorem fl_set : ∀ {L : List (List En)} {k : Nat} {es : List En}, L[k]? = some es → Paired Fl (L.set k (nst es)) L
  | [], k, es, h => by simp at h
  | a :: L, 0, es, h => by
    have : a = es := by simpa using h
    subst this
    exact .cons (Or.inr rfl) (paired_same (F := Fl) (fun x => Or.inl rfl) L)
  | a :: L, k + 1, es, h => .cons (Or.inl rfl) (fl_set (by simpa using h))
theorem fl_map : ∀ L : List (List En), Paired Fl (L.map nst) L
  | [] => .nil
  | a :: L => .cons (Or.inr rfl) (fl_map L)
/-- an entry put in -/
def insAt (es : List En) (p : Nat) (e : En) : List En := es.take p ++ [e] ++ es.drop p
theorem ins_len (es : List En) (p : Nat) (e : En) : (insAt es p e).length = es.length + 1 := by
  unfold insAt
  rw [List.length_append, List.length_append, List.length_take, List.length_drop, List.length_singleton]
  omega
theorem ins_mem {es : List En} {p : Nat} {e y : En} (h : y ∈ insAt es p e) : y = e ∨ y ∈ es := by
  unfold insAt at h
  rcases List.mem_append.mp h with h | h
  · rcases List.mem_append.mp h with h | h
    · exact Or.inr (List.mem_of_mem_take h)
    · exact Or.inl (List.mem_singleton.mp h)
  · exact Or.inr (List.mem_of_mem_drop h)
theorem ins_in {es : List En} {p : Nat} {e y : En} (h : y ∈ es) : y ∈ insAt es p e := by
  rw [← List.take_append_drop p es] at h
  unfold insAt
  rcases List.mem_append.mp h with h | h
  · exact List.mem_append_left _ (List.mem_append_left _ h)
  · exact List.mem_append_right _ h
theorem nst_app (a b : List En) : nst (a ++ b) = nst a ++ nst b := List.filter_append ..
theorem ins_nst (es : List En) (p : Nat) (o x : Str) : nst (insAt es p (.steal o x)) = nst es := by
  unfold insAt
  rw [nst_app, nst_app, show nst [En.steal o x] = [] from rfl, List.append_nil, ← nst_app, List.take_append_drop]
theorem ins_pus (es : List En) (p : Nat) (o x : Str) : pus (insAt es p (.steal o x)) = pus es := by
  rw [← pus_nst, ins_nst, pus_nst]
theorem ins_res (es : List En) (p : Nat) (o x : Str) : (res (insAt es p (.steal o x))).Perm (res es ++ [x]) := by
  have e : res es = res (es.take p) ++ res (es.drop p) := by rw [← res_app, List.take_append_drop]
  unfold insAt
  rw [res_app, res_app, e, List.append_assoc, List.append_assoc]
  exact List.Perm.append_left _ List.perm_append_comm
theorem flat_setP {f : List En → List Str} {g : List Str} {es es' : List En} (hf : (f es').Perm (f es ++ g)) : ∀ {L : List (List En)} {k : Nat}, L[k]? = some es → ((L.set k es').flatMap f).Perm (L.flatMap f ++ g)
  | [], k, h => by simp at h
  | a :: L, 0, h => by
    have : a = es := by simpa using h
    subst this
    rw [List.set_cons_zero, List.flatMap_cons, List.flatMap_cons]
    refine (List.Perm.append_right _ hf).trans ?_
    rw [List.append_assoc, List.append_assoc]
    exact List.Perm.append_left _ List.perm_append_comm
  | a :: L, k + 1, h => by
    rw [List.set_cons_succ, List.flatMap_cons, List.flatMap_cons, List.append_assoc]
    exact List.Perm.append_left _ (flat_setP hf (by simpa using h))
theorem Has.ins {ws : List Str} {L : List (List En)} {o x : Str} {k p : Nat} {es : List En} {e : En} (h : Has ws L o x) (hk : L[k]? = some es) : Has ws (L.set k (insAt es p e)) o x := by
  obtain ⟨i, es2, h1, h2, h3⟩ := h
  by_cases z : k = i
  · subst z
    rw [hk] at h2
    have := Option.some.inj h2
    subst this
    exact ⟨k, _, h1, List.getElem?_set_self (List.getElem?_eq_some_iff.mp hk).1, ins_in h3⟩
  · exact ⟨i, es2, h1, by rw [List.getElem?_set_ne z]; exact h2, h3⟩
theorem Vlog.ins {top : Nat} {ws : List Str} {L : List (List En)} {k p : Nat} {es : List En} {o x w : Str} (v : Vlog top ws L) (hk : L[k]? = some es) (hw : ws[k]? = some w) (hl : es.length < top) (ow : o ≠ w) (has : Has ws L o x) (no : IsNm o) (nx : IsNm x)
    (fresh : x ∉ L.flatMap res) : Vlog top ws (L.set k (insAt es p (.steal o x))) := by
  have p1 := flat_setP (f := pus) (g := []) (es' := insAt es p (.steal o x)) (by rw [ins_pus, List.append_nil]) hk
  have p2 := flat_setP (f := res) (g := [x]) (ins_res es p o x) hk
  rw [List.append_nil] at p1
  refine ⟨v.wk, by rw [List.length_set]; exact v.len, fun es2 h2 => ?_, p1.nodup_iff.mpr v.pu, p2.nodup_iff.mpr ?_, fun i es2 j y h1 h2 => ?_, fun i es2 w2 o2 y h1 h2 h3 => ?_⟩
  · obtain ⟨i, hi⟩ := List.mem_iff_getElem?.mp h2
    rcases set_get hi with ⟨_, rfl⟩ | ⟨_, h3⟩
    · refine ⟨by rw [ins_len]; omega, fun y hy => ?_⟩
      rcases ins_mem hy with rfl | hy
      · exact ⟨no, nx⟩
      · exact (v.ent _ (List.mem_of_getElem? hk)).2 y hy
    · exact v.ent es2 (List.mem_of_getElem? h3)
  · refine List.nodup_append.mpr ⟨v.re, by simp, fun a ha b hb e => ?_⟩
    have : b = x := List.mem_singleton.mp hb
    subst this e
    exact fresh ha
  · rcases set_get h1 with ⟨rfl, rfl⟩ | ⟨_, h3⟩
    · exact own_iff.mpr (own_nst.mp (by rw [ins_nst]; exact own_nst.mpr (own_iff.mp fun j x h => v.own i es j x hk h))) j y h2
    · exact v.own i es2 j y h3 h2
  · rcases set_get h1 with ⟨rfl, rfl⟩ | ⟨_, h4⟩
    · rcases ins_mem h3 with e | h3
      · cases e
        rw [hw] at h2
        cases h2
        exact ⟨ow, has.ins hk⟩
      · have := v.st i es w2 o2 y hk h2 h3
        exact ⟨this.1, this.2.ins hk⟩
    · have := v.st i es2 w2 o2 y h4 h2 h3
      exact ⟨this.1, this.2.ins hk⟩
/-! what is stolen, by the law's own reading -/
theorem mem_sts {x : Str} {es : List En} : x ∈ sts es ↔ ∃ o, En.steal o x ∈ es := by
  unfold sts
  rw [List.mem_flatMap]
  constructor
  · rintro ⟨e, he, hx⟩
    cases e with
    | steal o y =>
      have : x = y := by simpa [En.sti] using hx
      subst this
      exact ⟨o, he⟩
    | _ => simp [En.sti] at hx
  · exact fun ⟨o, h⟩ => ⟨_, h, by simp [En.sti]⟩
theorem push_one {L : List (List En)} (nd : (L.flatMap pus).Nodup) : ∀ {i j : Nat} {a b : List En} {x : Str}, L[i]? = some a → L[j]? = some b → En.push x ∈ a → En.push x ∈ b → i = j := by
  induction L with
  | nil => intro i j a b x h; simp at h
  | cons e L ih =>
    intro i j a b x h1 h2 m1 m2
    rw [List.flatMap_cons] at nd
    obtain ⟨n1, n2, n3⟩ := List.nodup_append.mp nd
    cases i with
    | zero => cases j with
      | zero => rfl
      | succ j =>
        have ea : e = a := by simpa using h1
        subst ea
        have h2 : L[j]? = some b := by simpa using h2
        exact absurd rfl (n3 x (mem_pus.mpr m1) x (List.mem_flatMap.mpr ⟨b, List.mem_of_getElem? h2, mem_pus.mpr m2⟩))
    | succ i => cases j with
      | zero =>
        have ea : e = b := by simpa using h2
        subst ea
        have h1 : L[i]? = some a := by simpa using h1
        exact absurd rfl (n3 x (mem_pus.mpr m2) x (List.mem_flatMap.mpr ⟨a, List.mem_of_getElem? h1, mem_pus.mpr m1⟩))
      | succ j => exact congrArg (· + 1) (ih n2 (by simpa using h1) (by simpa using h2) m1 m2)
theorem Vlog.stolen {top : Nat} {ws : List Str} {L : List (List En)} {k : Nat} {es : List En} {w x : Str} (v : Vlog top ws L) (hk : L[k]? = some es) (hw : ws[k]? = some w) (hx : En.push x ∈ es) : x ∈ L.flatMap sts ↔ ∃ es' ∈ L, En.steal w x ∈ es' := by
  constructor
  · intro h
    obtain ⟨es', h1, h2⟩ := List.mem_flatMap.mp h
    obtain ⟨o, h3⟩ := mem_sts.mp h2
    obtain ⟨i, hi⟩ := List.mem_iff_getElem?.mp h1
    have hil : i < ws.length := by rw [← v.len]; exact (List.getElem?_eq_some_iff.mp hi).1
    obtain ⟨_, j, es2, g1, g2, g3⟩ := v.st i es' _ o x hi (List.getElem?_eq_getElem hil) h3
    have := push_one v.pu g2 hk g3 hx
    subst this
    rw [hw] at g1
    cases g1
    exact ⟨es', h1, h3⟩
  · rintro ⟨es', h1, h2⟩
    exact List.mem_flatMap.mpr ⟨es', h1, mem_sts.mpr ⟨_, h2⟩⟩
/-! the second value of an entry -/
def En.snd : En → V
  | .push x => .str x
  | .pop x => .str x
  | .size k => .int k
  | .steal o _ => .str o
theorem En.at1' (e : En) : atI e.vs 1 = some e.snd := by cases e <;> rfl
def tgt (w : Str) (v : V) : PyData := .tuple [.str "steal", .str w, vD v]
def Hit (L : List (List En)) (w : Str) (v : V) : Bool := L.any fun es => es.any fun e => PyData.eqv e.data (tgt w v)
theorem eqv_st {e : En} {w x : Str} : PyData.eqv e.data (tgt w (.str x)) = true ↔ e = .steal w x := by
  cases e with
  | push y =>
    simp only [En.data, En.vs, tgt, List.map, vD, PyData.eqv, PyData.eqvAll]
    simp
  | pop y =>
    simp only [En.data, En.vs, tgt, List.map, vD, PyData.eqv, PyData.eqvAll]
    simp
  | size y =>
    simp only [En.data, En.vs, tgt, List.map, vD, PyData.eqv, PyData.eqvAll]
    simp
  | steal o y =>
    simp only [En.data, En.vs, tgt, List.map, vD, PyData.eqv, PyData.eqvAll]
    simp
theorem hit_iff {L : List (List En)} {w x : Str} : Hit L w (.str x) = true ↔ ∃ es' ∈ L, En.steal w x ∈ es' := by
  unfold Hit
  rw [List.any_eq_true]
  constructor
  · rintro ⟨es, h1, h2⟩
    obtain ⟨e, h3, h4⟩ := List.any_eq_true.mp h2
    have := eqv_st.mp h4
    subst this
    exact ⟨es, h1, h3⟩
  · rintro ⟨es, h1, h2⟩
    exact ⟨es, h1, List.any_eq_true.mpr ⟨_, h2, eqv_st.mpr rfl⟩⟩
theorem pus_filter (g : Str → Bool) : ∀ es : List En, ((es.filter fun e => e.isPu && g e.it).map En.it) = (pus es).filter g
  | [] => rfl
  | e :: es => by
    have ih := pus_filter g es
    rw [pus_cons, List.filter_cons, List.filter_append, ← ih]
    cases e with
    | push x =>
      show (if g x = true then _ else _ : List En).map En.it = [x].filter g ++ _
      cases h : g x <;> simp [h, En.it]
    | pop x => rfl
    | size x => rfl
    | steal o x => rfl
theorem stolen_eq {top : Nat} {ws : List Str} {L : List (List En)} {k : Nat} {es : List En} {w : Str} (v : Vlog top ws L) (hk : L[k]? = some es) (hw : ws[k]? = some w) : ((es.filter fun e => e.isPu && Hit L w (.str e.it)).map En.it) = stolenOf L es := by
  rw [pus_filter (fun y => Hit L w (.str y))]
  unfold stolenOf
  refine List.filter_congr fun y hy => ?_
  have := v.stolen hk hw (mem_pus.mp hy)
  by_cases h : y ∈ L.flatMap sts
  · rw [decide_eq_true h]
    exact hit_iff.mpr (this.mp h)
  · rw [decide_eq_false h]
    cases hh : Hit L w (.str y) with
    | false => rfl
    | true => exact absurd (this.mpr (hit_iff.mp hh)) h
end Vx

set_option Elab.async false
set_option linter.all false
set_option maxRecDepth 100000
set_option maxHeartbeats 8000000
namespace Vx
open PySem PySem.Spec PyProof.Rows L2 Evl
theorem lc_keys {d : Addr} {od : Obj} {kvs : List (Key × V)} {g : TG} {tt : TT} {te : TE} {vs : List Nat} {σ : L2.St} {H1 : Hp} {D : Addr} {Qd : Hp → Prop} (Pv : Nat → Hp → Prop) (h0 : Pv 0 (upd H1 D (.lst []))) (hf : ∀ i H, i ≤ kvs.length → Pv i H → H d = some (.frz od (.dK kvs)))
    (hs : ∀ i k v H, kvs[i]? = some (k, v) → Pv i H → g (kV k) (wipe σ vs) H fun σ2 H2 => wipe σ2 vs = wipe σ vs ∧ tt σ2 H2 fun b H3 => if b = true then te σ2 H3 fun y H4 => ∃ acc, H4 D = some (.lst acc) ∧ acc.length < sizeLine ∧ Pv (i + 1) (upd H4 D (.lst (acc ++ [y]))) else Pv (i + 1) H3) (hd : ∀ H, Pv kvs.length H → Qd H) :
    ∃ W : Nat → Nat → Hp → Prop, (∃ m, W 0 m (upd H1 D (.lst []))) ∧ ∀ i m H, W i m H → ((Itk d od kvs).stop i H ∧ Qd H) ∨ ((Itk d od kvs).go i H ∧ ∃ Nx : Hp → Prop, (∀ H', Nx H' → ∃ m', m' < m ∧ W (i + 1) m' H') ∧ ∀ x H', (Itk d od kvs).yld i H x H' → g x (wipe σ vs) H' fun σ2 H2 => wipe σ2 vs = wipe σ vs ∧ tt σ2 H2 fun b H3 =>
      if b = true then te σ2 H3 fun y H4 => ∃ acc, H4 D = some (.lst acc) ∧ acc.length < sizeLine ∧ Nx (upd H4 D (.lst (acc ++ [y]))) else Nx H3) := by
  refine ⟨fun i m H => m = kvs.length - i ∧ i ≤ kvs.length ∧ Pv i H, ⟨kvs.length, rfl, Nat.zero_le _, h0⟩, ?_⟩
  rintro i m H ⟨rfl, hi, p⟩
  have q := hf i H hi p
  rcases Nat.lt_or_ge i kvs.length with hlt | hge
  · refine .inr ⟨⟨q, hlt⟩, Pv (i + 1), fun H' p' => ⟨kvs.length - (i + 1), by omega, rfl, hlt, p'⟩, fun x H' y => ?_⟩
    obtain ⟨rfl, k, v, hkv, rfl⟩ := y
    exact hs i k v _ hkv p
  · have : i = kvs.length := by omega
    subst this
    exact .inl ⟨⟨q, Nat.le_refl _⟩, hd H p⟩
theorem dk_put {ws : List Str} {ps : List Addr} {i : Nat} {k : Key} {v : V} (h : (Dk ws ps)[i]? = some (k, v)) : ∃ x, ws[i]? = some x ∧ k = .inr x := by
  obtain ⟨x, p, a, _, b, _⟩ := dk_at h
  exact ⟨x, a, b⟩
/-- logs in a dict that is locked -/
structure HLf (H : Hp) (d : Addr) (od : Obj) (ws : List Str) (ps : List Addr) (L : List (List En)) : Prop where
  dk : H d = some (.frz od (.dK (Dk ws ps)))
  pl : ps.length = ws.length
  lg : ∀ (i : Nat) (p : Addr) (es : List En), ps[i]? = some p → L[i]? = some es → TL H p (es.map En.vs)
theorem HLf.ex {H H' : Hp} {d : Addr} {od : Obj} {ws : List Str} {ps : List Addr} {L : List (List En)} (h : HLf H d od ws ps L) (e : Ex H H') : HLf H' d od ws ps L :=
  ⟨e _ _ h.dk, h.pl, fun i p es h1 h2 => (h.lg i p es h1 h2).ex e⟩
/-- [k for k in d if t], d locked, another list at hand -/
theorem el_keysF {σ : L2.St} {H : Hp} {tl : TE} {t : TT} {d : Addr} {od : Obj} {ws : List Str} {ps : List Addr} {j : Nat} {vs : List Nat} {z : Addr} {xs : List V} (f : Nat → Bool) (hte : ∀ H', Ev tl σ H' (.ref d)) (hd : H d = some (.frz od (.dK (Dk ws ps)))) (hz : H z = some (.lst xs)) (pl : ps.length = ws.length) (hl : ws.length ≤ 1000)
    (hj : ∀ x, ((wipe σ vs).set j (some x))[j]? = some (some x)) (hwp : ∀ x, wipe ((wipe σ vs).set j (some x)) vs = wipe σ vs)
    (ht : ∀ H1, (∀ b o, b ≠ z → H b = some o → H1 b = some o) → ∀ (i : Nat) x, ws[i]? = some x → EvT t ((wipe σ vs).set j (some (.str x))) H1 (f i)) :
    EvL (tLockE (tLc (iKeys tl) (gName j) t (tVar j) vs)) σ H (given ws.length f (fun i => .str (ws.getD i ""))) := fun H1 e1 Q q => by
  have hz1 := e1 _ _ hz
  have hd1 := e1 _ _ hd
  have ndz : d ≠ z := fun e => by rw [e, hz1] at hd1; cases hd1
  refine ⟨z, .lst xs, hz1, trivial, fun oz => hte _ _ (Ex.refl _) _ fun H2 e2 => ⟨d, od, rfl, Or.inl ⟨_, e2 _ _ (by rw [upd_ne ndz]; exact hd1), fun Dl hD => ?_⟩⟩⟩
  have fz : H2 d = some (.frz od (.dK (Dk ws ps))) := e2 _ _ (by rw [upd_ne ndz]; exact hd1)
  have fzz : H2 z = some (.frz oz (.lst xs)) := e2 _ _ upd_same
  have nzD : z ≠ Dl := ne_of_none fzz hD
  have dl : (Dk ws ps).length = ws.length := dk_len pl
  have old : ∀ b o, b ≠ z → H b = some o → H2 b = some o := fun b o n h => e2 _ _ (by rw [upd_ne n]; exact e1 _ _ h)
  refine lc_keys (kvs := Dk ws ps) (fun i H' => Ex H2 H' ∧ H' Dl = some (.lst (given i f (fun i => .str (ws.getD i ""))))) ⟨Ex.new hD, upd_same⟩ (fun i H' _ p => p.1 _ _ fz) (fun i k v H' hkv p => ?_) (fun H' p => ?_)
  · obtain ⟨x, hx, rfl⟩ := dk_put hkv
    have hi : i < ws.length := (List.getElem?_eq_some_iff.mp hx).1
    refine ⟨hwp _, ht H' (fun b o n h => p.1 _ _ (old b o n h)) i x hx H' (Ex.refl _) _ fun H3 e3 => ?_⟩
    cases hf : f i with
    | false =>
      rw [if_neg (by decide)]
      exact ⟨p.1.trans e3, by rw [given_no hf]; exact e3 _ _ p.2⟩
    | true =>
      rw [if_pos rfl]
      refine ⟨_, hj _, _, e3 _ _ p.2, sz_lt (Nat.lt_of_le_of_lt (given_len ..) (by omega)), Ex.mut (p.1.trans e3) hD, ?_⟩
      rw [upd_same, given_yes hf, getD_at hx]
      rfl
  · rw [dl] at p
    have fz2 := p.1 _ _ fzz
    refine ⟨fz2, q Dl _ ?_ (fun b o h => ?_) (by rw [upd_ne nzD.symm]; exact p.2)⟩
    · have := fresh_back e2 hD
      rw [upd_ne nzD.symm] at this
      exact this
    · by_cases c : b = z
      · rw [c, hz1] at h
        rw [c, upd_same]
        exact h
      · rw [upd_ne c]
        exact p.1 _ _ (e2 _ _ (by rw [upd_ne c]; exact h))
theorem q_keysF {tz : TS} {D : Ends} {i : Nat} {σ : L2.St} {H : Hp} {tl : TE} {t : TT} {d : Addr} {od : Obj} {ws : List Str} {ps : List Addr} {j : Nat} {vs : List Nat} {z : Addr} {xs : List V} (f : Nat → Bool) (hte : ∀ H', Ev tl σ H' (.ref d)) (hd : H d = some (.frz od (.dK (Dk ws ps)))) (hz : H z = some (.lst xs)) (pl : ps.length = ws.length) (hl : ws.length ≤ 1000)
    (hj : ∀ x, ((wipe σ vs).set j (some x))[j]? = some (some x)) (hwp : ∀ x, wipe ((wipe σ vs).set j (some x)) vs = wipe σ vs)
    (ht : ∀ H1, (∀ b o, b ≠ z → H b = some o → H1 b = some o) → ∀ (i : Nat) x, ws[i]? = some x → EvT t ((wipe σ vs).set j (some (.str x))) H1 (f i))
    (k : ∀ p H1, H p = none → Ex H H1 → H1 p = some (.lst (given ws.length f (fun i => .str (ws.getD i "")))) → tz D (σ.set i (some (.ref p))) H1) : tSeq (tLock (tAsg (tLc (iKeys tl) (gName j) t (tVar j) vs) (gName i))) tz D σ H := by
  obtain ⟨z', u, h1, h2, h3⟩ := el_keysF f hte hd hz pl hl hj hwp ht H (Ex.refl _) (fun v H' => tz D (σ.set i (some v)) H') k
  exact ⟨z', u, h1, h2, h3⟩
theorem given_strs {ws : List Str} {f : Nat → Bool} {n : Nat} (hn : n ≤ ws.length) : ∃ xs : List Str, given n f (fun i => .str (ws.getD i "")) = xs.map V.str ∧ (∀ x ∈ xs, x ∈ ws) ∧ (xs = [] ↔ ∀ i, i < n → f i = false) ∧ xs.length ≤ n := by
  refine ⟨((List.range n).filter f).map (fun i => ws.getD i ""), by unfold given; rw [List.map_map]; rfl, fun x hx => ?_, ?_, ?_⟩
  · obtain ⟨i, hi, rfl⟩ := List.mem_map.mp hx
    have := List.mem_range.mp (List.mem_filter.mp hi).1
    rw [List.getD_eq_getElem?_getD, List.getElem?_eq_getElem (by omega)]
    exact List.getElem_mem _
  · rw [List.map_eq_nil_iff, List.filter_eq_nil_iff]
    exact ⟨fun h i hi => by simpa using h i (List.mem_range.mpr hi), fun h i hi => by rw [h i (List.mem_range.mp hi)]; decide⟩
  · rw [List.length_map]
    exact Nat.le_trans (List.length_filter_le _ _) (by simp)
theorem shaped_tgt {w : Str} {e : En} (hw : IsNm w) (h : e.ok) : SeqAt.shaped (tgt w e.snd) = true := by
  have st : ∀ {x : Str}, IsNm x → PyData.canLay0 (.str x) = true := fun hx => by simp only [PyData.canLay0, hx.strOk]
  unfold SeqAt.shaped tgt
  rw [Bool.and_eq_true]
  refine ⟨?_, decide_eq_true ?_⟩
  · cases e with
    | push x => simp only [En.snd, vD, PyData.canLay0, PyData.canLayAll0, nmT.strOk, hw.strOk, (show IsNm x from h).strOk, Bool.and_self]
    | pop x => simp only [En.snd, vD, PyData.canLay0, PyData.canLayAll0, nmT.strOk, hw.strOk, (show IsNm x from h).strOk, Bool.and_self]
    | size k => simp only [En.snd, vD, PyData.canLay0, PyData.canLayAll0, nmT.strOk, hw.strOk, Bool.and_self]
    | steal o x => simp only [En.snd, vD, PyData.canLay0, PyData.canLayAll0, nmT.strOk, hw.strOk, h.1.strOk, Bool.and_self]
  · cases e <;> simp [En.snd, vD, PyData.depth, PyData.depthAll]
/-- ('steal', w, e[1]) in log -/
theorem ev_inLog {K : PySem.W.Frag} {σ : L2.St} {H : Hp} {tn tx tg : TE} {w : Str} {e : En} {p : Addr} {es : List En} (h1 : Ev tn σ H (.str w)) (h2 : Ev tx σ H e.snd) (h3 : Ev tg σ H (.ref p)) (hp : TL H p (es.map En.vs)) (ok : ∀ e ∈ es, e.ok) (hw : IsNm w) (he : e.ok) :
    Ev (tOp (rInD K) (tTup (tCons (tC (.str "steal")) (tCons tn (tCons tx tNil)))) tg) σ H (.bl (es.any fun e' => PyData.eqv e'.data (tgt w e.snd))) := fun H1 e1 Q q =>
  h1 H1 e1 _ fun H2 e2 => h2 H2 (e1.trans e2) _ fun H3 e3 => ⟨(by show 3 ≤ sizeLine; decide), fun t ht => by
    have e4 : Ex H3 (upd H3 t (.tup [.str "steal", .str w, e.snd])) := Ex.new ht
    have h4 : (upd H3 t (.tup [.str "steal", .str w, e.snd])) t = some (.tup [.str "steal", .str w, e.snd]) := upd_same
    generalize upd H3 t (.tup [.str "steal", .str w, e.snd]) = H4 at e4 h4 ⊢
    have E4 := e1.trans (e2.trans (e3.trans e4))
    refine h3 H4 E4 _ fun H5 e5 => ?_
    obtain ⟨as, g1, g2⟩ := hp.ex (E4.trans e5)
    refine ⟨tgt w e.snd, es.map En.data, .tup (st_of (e5 _ _ h4)) (.cons (.str _) (.cons (.str _) (.cons ?_ .nil))), .lst (sq_of g1) (dp_ens g2), shaped_tgt hw he, shaped_log ok, ?_⟩
    · cases e with
      | push x => exact .str _
      | pop x => exact .str _
      | size k => exact .int _
      | steal o x => exact .str _
    · have : ((es.map En.data).any fun z => PyData.eqv z (tgt w e.snd)) = es.any fun e' => PyData.eqv e'.data (tgt w e.snd) := by rw [List.any_map]; rfl
      rw [this]
      exact q H5 ((e2.trans e3).trans (e4.trans e5))⟩
theorem HLf.kb {s d : Addr} {od : Obj} {H H' : Hp} {ws : List Str} {ps : List Addr} {L : List (List En)} {ys : List V} (h : HLf H d od ws ps L) (k : KB s H H') (hs : H s = some (.lst ys)) (n : ∀ p ∈ ps, p ≠ s) : HLf H' d od ws ps L :=
  ⟨k d _ (fun e => by have := h.dk; rw [e, hs] at this; cases this) h.dk, h.pl, fun i p es h1 h2 => (h.lg i p es h1 h2).kb k hs (n p (List.mem_of_getElem? h1))⟩
theorem ev_neSn {K : PySem.W.Frag} {σ : L2.St} {H : Hp} {te : TE} {p : Addr} {xs : List Str} (h : Ev te σ H (.ref p)) (hp : H p = some (.lst (xs.map V.str))) (hn : ∀ x ∈ xs, IsNm x) : Ev (tOp (rNeD K) te (tLst tNil)) σ H (.bl (!xs.isEmpty)) :=
  ev_opL h (el_lst ea_nil (by decide)) fun r H1 h1 e1 H2 e2 Q q2 => by
    refine ⟨.list (xs.map PyData.str), .list [], .lst (sq_of (e2 _ _ (e1 _ _ hp))) (dp_strs xs), .lst (sq_of (e2 _ _ h1)) .nil, shaped_strs xs hn, rfl, ?_⟩
    cases xs with
    | nil => exact q2 H2 (Ex.refl _)
    | cons x xs => exact q2 H2 (Ex.refl _)
theorem hit_range {L : List (List En)} {ws : List Str} {w : Str} {v : V} (hl : L.length = ws.length) : (∀ i, i < ws.length → ((L.getD i []).any fun e' => PyData.eqv e'.data (tgt w v)) = false) ↔ Hit L w v = false := by
  unfold Hit
  rw [List.any_eq_false]
  constructor
  · intro h es hes
    obtain ⟨i, hi⟩ := List.mem_iff_getElem?.mp hes
    have := h i (by rw [← hl]; exact (List.getElem?_eq_some_iff.mp hi).1)
    rw [getD_at hi] at this
    rw [this]
    decide
  · intro h i hi
    have g := List.getElem?_eq_getElem (show i < L.length by omega)
    rw [getD_at g]
    have := h _ (List.getElem_mem (show i < L.length by omega))
    simpa using this
/-- for k in d, nothing leaves the loop -/
theorem q_forDk {te : TE} {tu : TS} {tz : TS} {D : Ends} {σ : L2.St} {H : Hp} {j : Nat} {d : Addr} {kvs : List (Key × V)} (hd : H d = some (.dK kvs)) (hte : ∀ H', Ev te σ H' (.ref d)) (Pv : Nat → L2.St → Hp → Prop) (h0 : ∀ od H1, Ex (upd H d (.frz od (.dK kvs))) H1 → Pv 0 σ H1)
    (hs : ∀ (od : Obj) (D' : Ends) (i : Nat) k v σ' H', kvs[i]? = some (k, v) → H' d = some (.frz od (.dK kvs)) → Pv i σ' H' → (∀ σ2 H2, H2 d = some (.frz od (.dK kvs)) → Pv (i + 1) σ2 H2 → D'.nx σ2 H2) → tu D' (σ'.set j (some (kV k))) H')
    (hend : ∀ od σ' H', H' d = some (.frz od (.dK kvs)) → Pv kvs.length σ' H' → tz D σ' (upd H' d (.dK kvs))) : tSeq (tLock (tFor (iKeys te) (gName j) tu)) tz D σ H := by
  refine ⟨d, .dK kvs, hd, trivial, fun od => hte _ _ (Ex.refl _) _ fun H1 e1 => ⟨d, od, rfl, Or.inl ⟨kvs, e1 _ _ upd_same, ?_⟩⟩⟩
  refine ⟨fun i m σ' H' => m = kvs.length - i ∧ i ≤ kvs.length ∧ H' d = some (.frz od (.dK kvs)) ∧ Pv i σ' H', ⟨kvs.length, rfl, Nat.zero_le _, e1 _ _ upd_same, h0 od H1 e1⟩, ?_⟩
  rintro i m σ' H' ⟨rfl, hi, hf, p⟩
  rcases Nat.lt_or_ge i kvs.length with hlt | hge
  · refine .inr ⟨⟨hf, hlt⟩, fun σ2 H2 => H2 d = some (.frz od (.dK kvs)) ∧ Pv (i + 1) σ2 H2, fun σ2 H2 p2 => ⟨kvs.length - (i + 1), by omega, rfl, hlt, p2.1, p2.2⟩, fun x H2 y => ?_⟩
    obtain ⟨rfl, k, u, hku, rfl⟩ := y
    exact hs od _ i k u σ' H2 hku hf p fun σ2 H3 a b => ⟨a, b⟩
  · have : i = kvs.length := by omega
    subst this
    exact .inl ⟨⟨hf, Nat.le_refl _⟩, hf, hend od σ' H' hf p⟩
theorem dk_mem0 {ws : List Str} {ps : List Addr} {p : Key × V} (h : p ∈ Dk ws ps) : ∃ (i : Nat) (x : Str) (r : Addr), ws[i]? = some x ∧ ps[i]? = some r ∧ p = (.inr x, .ref r) := by
  unfold Dk at h
  obtain ⟨z, hz, rfl⟩ := List.mem_map.mp h
  obtain ⟨i, hi⟩ := List.mem_iff_getElem?.mp hz
  obtain ⟨a, b⟩ := List.getElem?_zip_eq_some.mp hi
  exact ⟨i, z.1, z.2, a, b, rfl⟩
theorem s_forDk {te : TE} {tu : TS} {D : Ends} {σ : L2.St} {H : Hp} {j : Nat} {d : Addr} {kvs : List (Key × V)} (hd : H d = some (.dK kvs)) (hte : ∀ H', Ev te σ H' (.ref d)) (Pv : Nat → L2.St → Hp → Prop) (h0 : ∀ od H1, Ex (upd H d (.frz od (.dK kvs))) H1 → Pv 0 σ H1)
    (hs : ∀ (od : Obj) (D' : Ends) (i : Nat) k v σ' H', kvs[i]? = some (k, v) → H' d = some (.frz od (.dK kvs)) → Pv i σ' H' → (∀ σ2 H2, H2 d = some (.frz od (.dK kvs)) → Pv (i + 1) σ2 H2 → D'.nx σ2 H2) → tu D' (σ'.set j (some (kV k))) H')
    (hend : ∀ od σ' H', H' d = some (.frz od (.dK kvs)) → Pv kvs.length σ' H' → D.nx σ' (upd H' d (.dK kvs))) : tLock (tFor (iKeys te) (gName j) tu) D σ H := by
  have := q_forDk (tz := tNext) (D := D) hd hte Pv h0 hs hend
  exact this
theorem HL.lockF {H : Hp} {d : Addr} {od : Obj} {ws : List Str} {ps : List Addr} {L : List (List En)} (h : HL H d ws ps L) : HLf (upd H d (.frz od (.dK (Dk ws ps)))) d od ws ps L :=
  ⟨upd_same, h.pl, fun i p es h1 h2 => (h.lg i p es h1 h2).keep (fun a t w => by rw [upd_ne (fun z => by rw [z, h.dk] at w; cases w)]; exact w) (upd_ne (fun z => by
    obtain ⟨as, ha, _⟩ := h.lg i p es h1 h2
    rw [z, h.dk] at ha
    cases ha))⟩
theorem HLf.fresh {H : Hp} {d z : Addr} {od : Obj} {ws : List Str} {ps : List Addr} {L : List (List En)} (h : HLf H d od ws ps L) (ll : L.length = ws.length) (n : H z = none) : z ∉ ps := fun hz => by
  obtain ⟨i, hi⟩ := List.mem_iff_getElem?.mp hz
  have hi2 : i < L.length := by rw [ll, ← h.pl]; exact (List.getElem?_eq_some_iff.mp hi).1
  obtain ⟨as, g1, _⟩ := h.lg i z _ hi (List.getElem?_eq_getElem hi2)
  rw [n] at g1
  cases g1
theorem HLf.r {H : Hp} {d z : Addr} {od : Obj} {ws : List Str} {ps : List Addr} {L : List (List En)} {xs : List V} (h : HLf H d od ws ps L) (hz : H z = some (.lst xs)) (n : z ∉ ps) : HLr H d ws ps L := ⟨Or.inr ⟨⟨od, h.dk⟩, z, xs, hz, n⟩, h.pl, h.lg⟩
theorem HLf.of {H H' : Hp} {d : Addr} {od od' : Obj} {ws : List Str} {ps : List Addr} {L : List (List En)} (h : HLf H d od ws ps L) (e : H d = some (.frz od' (.dK (Dk ws ps)))) : od = od' := by
  have := h.dk
  rw [e] at this
  injection Option.some.inj this with a
  exact a.symm
theorem unlock_ex {H H' : Hp} {d : Addr} {od : Obj} {o : HO} (h : H d = some o) (e : Ex (upd H d (.frz od o)) H') : Ex H (upd H' d o) := fun b u g => by
  by_cases z : b = d
  · subst z
    rw [h] at g
    rw [upd_same]
    exact g
  · rw [upd_ne z]
    exact e _ _ (by rw [upd_ne z]; exact g)
abbrev LSt := L2.St
def nestScope (b : List Stmt) (m : Nat) (outer : Scope) : Scope := match b[m]? with
  | some (.Assign _ (.Call _ [.ListComp _ _ sc _] _ _) _) => { sc with names := sc.names.map fun (n, k) => if (k == NameKind.free && outer.kind == .function && outer.names.lookup n == some .cell) then (n, NameKind.cell) else (n, k) }
  | _ => outer
/-- dict([(name, e) for name in d]), e a new list -/
theorem ev_rowsKC {K : PySem.W.Frag} {σ : L2.St} {H : Hp} {tl te2 : TE} {j : Nat} {vs : List Nat} {d : Addr} {ws : List Str} {ps : List Addr} {Q : VK} (C : Nat → List V) (hte : ∀ H', Ev tl σ H' (.ref d)) (hdd : H d = some (.dK (Dk ws ps))) (pl : ps.length = ws.length) (hl : ws.length ≤ 1000) (nd : ws.Nodup)
    (hj : ∀ x, ((wipe σ vs).set j (some x))[j]? = some (some x)) (hwp : ∀ x, wipe ((wipe σ vs).set j (some x)) vs = wipe σ vs)
    (he : ∀ od H1, Ex (upd H d (.frz od (.dK (Dk ws ps)))) H1 → ∀ (i : Nat) x, ws[i]? = some x → EvL te2 ((wipe σ vs).set j (some (.str x))) H1 (C i))
    (q : ∀ f qs H2, H f = none → Ex H H2 → H2 f = some (.dK (Dk ws qs)) → qs.length = ws.length → qs.Nodup → (∀ (i : Nat) p, qs[i]? = some p → H p = none ∧ H2 p = some (.lst (C i))) → Q (.ref f) H2) :
    tCB (rDictP K) (tCons (tLockE (tLc (iKeys tl) (gName j) tYes (tTup (tCons (tVar j) (tCons te2 tNil))) vs)) tNil) σ H Q := by
  refine ⟨d, .dK (Dk ws ps), hdd, trivial, fun od => hte _ _ (Ex.refl _) _ fun H1 e1 => ⟨d, od, rfl, Or.inl ⟨_, e1 _ _ upd_same, fun Dl hD => ?_⟩⟩⟩
  have fz : H1 d = some (.frz od (.dK (Dk ws ps))) := e1 _ _ upd_same
  have old : ∀ b o, b ≠ d → H b = some o → H1 b = some o := fun b o n h => e1 _ _ (by rw [upd_ne n]; exact h)
  have dl : (Dk ws ps).length = ws.length := dk_len pl
  refine lc_keys (kvs := Dk ws ps) (fun i H' => Ex H1 H' ∧ ∃ as rs : List Addr, H' Dl = some (.lst (as.map V.ref)) ∧ as.length = i ∧ rs.length = i ∧ rs.Nodup ∧ (∀ (k : Nat) p, rs[k]? = some p → H1 p = none ∧ p ≠ Dl ∧ H' p = some (.lst (C k))) ∧ Paired (fun a (x : Key × V) => H' a = some (.tup [kV x.1, x.2])) as (Dk (ws.take i) rs))
    ⟨Ex.new hD, [], [], upd_same, rfl, rfl, List.nodup_nil, fun _ _ z => (by simp at z), by simpa [Dk] using Paired.nil⟩ (fun i H' _ p => p.1 _ _ fz) (fun i k v H' hkv p => ?_) (fun H' p => ?_)
  · obtain ⟨e2, as, rs, ha, hlen, n1, n2, n3, hp⟩ := p
    obtain ⟨z, hz, rfl⟩ := dk_put hkv
    have hi : i < ws.length := (List.getElem?_eq_some_iff.mp hz).1
    refine ⟨hwp _, ?_⟩
    refine ⟨_, hj _, he od H1 e1 i z hz H' e2 _ fun p0 H3 hp0 e3 h3 => ⟨(by show 2 ≤ sizeLine; decide), fun t ht => ⟨as.map V.ref, ?_, ?_, ?_⟩⟩⟩
    all_goals have n0 : Dl ≠ p0 := ne_of_none ha hp0
    all_goals have n4 : Dl ≠ t := ne_of_none (e3 _ _ ha) ht
    · rw [upd_ne n4]
      exact e3 _ _ ha
    · rw [List.length_map]
      exact sz_lt (by omega)
    · have n5 : p0 ≠ t := ne_of_none h3 ht
      have tk : TK H' (upd (upd H3 t (.tup [.str z, .ref p0])) Dl (.lst (as.map V.ref ++ [.ref t]))) := ((tk_ex e3).trans (tk_new ht)).trans (tk_upd (by rw [upd_ne n4]; exact e3 _ _ ha))
      refine ⟨Ex.mut ((e2.trans e3).trans (Ex.new ht)) hD, as ++ [t], rs ++ [p0], by rw [upd_same, List.map_append]; rfl, by rw [List.length_append, hlen]; rfl, by rw [List.length_append, n1]; rfl, ?_, ?_, ?_⟩
      · refine List.nodup_append.mpr ⟨n2, by simp, fun a h1 b h2 e => ?_⟩
        have : b = p0 := by simpa using h2
        subst this e
        obtain ⟨k, hk⟩ := List.mem_iff_getElem?.mp h1
        have := (n3 k _ hk).2.2
        rw [hp0] at this
        cases this
      · intro k p hk
        by_cases hkl : k < rs.length
        · rw [List.getElem?_append_left hkl] at hk
          obtain ⟨g1, g2, g3⟩ := n3 k p hk
          have g4 := e3 _ _ g3
          refine ⟨g1, g2, ?_⟩
          rw [upd_ne g2, upd_ne (ne_of_none g4 ht)]
          exact g4
        · rw [List.getElem?_append_right (by omega)] at hk
          have hz0 : k - rs.length = 0 := by
            have := (List.getElem?_eq_some_iff.mp hk).1
            simp at this
            omega
          rw [hz0] at hk
          have hp2 : p0 = p := by simpa using hk
          subst hp2
          have hki : k = i := by omega
          subst hki
          refine ⟨fresh_back e2 hp0, n0.symm, ?_⟩
          rw [upd_ne n0.symm, upd_ne n5]
          exact h3
      · have e5 : Dk (ws.take (i + 1)) (rs ++ [p0]) = Dk (ws.take i) rs ++ [(.inr z, .ref p0)] := by
          have : ws.take (i + 1) = ws.take i ++ [z] := by
            rw [List.take_add_one, hz]
            rfl
          rw [this]
          exact dk_snoc (by rw [List.length_take, n1]; omega)
        rw [e5]
        refine Paired.snoc (paired_imp (fun a x z => tk _ _ z) hp) ?_
        rw [upd_ne n4.symm, upd_same]
  · obtain ⟨e2, as, rs, ha, hlen, n1, n2, n3, hp⟩ := p
    rw [dl] at n1
    rw [dl, List.take_length] at hp
    have fz2 := e2 _ _ fz
    refine ⟨fz2, ?_⟩
    have nD : Dl ≠ d := fun z => by rw [z, fz] at hD; cases hD
    have tk : ∀ b o, b ≠ d → H' b = some o → (upd H' d (.dK (Dk ws ps))) b = some o := fun b o n h => by rw [upd_ne n]; exact h
    have EX : Ex H (upd H' d (.dK (Dk ws ps))) := fun b o h => by
      by_cases z : b = d
      · rw [z, hdd] at h
        rw [z, upd_same]
        exact h
      · exact tk b o z (e2 _ _ (old b o z h))
    refine ⟨Dl, as, Dk ws rs, rfl, sq_of (tk _ _ nD ha), paired_imp (fun a x z => st_of (tk _ _ (fun e => by rw [e, fz2] at z; cases z) z)) hp, fun f hf => ?_⟩
    rw [merge_dk n1 nd]
    refine q f rs _ (fresh_back EX hf) (EX.trans (Ex.new hf)) upd_same n1 n2 fun i p h1 => ?_
    obtain ⟨g1, _, g3⟩ := n3 i p h1
    have npd : p ≠ d := fun e => by rw [e, fz] at g1; cases g1
    have h3 := tk _ _ npd g3
    refine ⟨?_, by rw [upd_ne (ne_of_none h3 hf)]; exact h3⟩
    cases hh : H p with
    | none => rfl
    | some o =>
      have := old p o npd hh
      rw [g1] at this
      cases this
/-- the entries of a log that a test keeps, with their values -/
def kept (xs : List V) (es : List En) (g : En → Bool) : List (V × En) := (xs.zip es).filter fun t => g t.2
def At (H : Hp) (t : V × En) : Prop := ∃ a, t.1 = .ref a ∧ H a = some (.tup t.2.vs)
theorem At.tk {H H' : Hp} {t : V × En} (h : At H t) (k : TK H H') : At H' t := by
  obtain ⟨a, h1, h2⟩ := h
  exact ⟨a, h1, k _ _ h2⟩
theorem kept_of {H : Hp} (g : En → Bool) : ∀ {as : List Addr} {es : List En}, Paired (fun a t => H a = some (.tup t)) as (es.map En.vs) → (∀ t ∈ kept (as.map V.ref) es g, At H t ∧ t.2 ∈ es ∧ g t.2 = true) ∧ (kept (as.map V.ref) es g).map (·.2) = es.filter g ∧
    ∃ as', (kept (as.map V.ref) es g).map (·.1) = as'.map V.ref ∧ Paired (fun a t => H a = some (.tup t)) as' ((es.filter g).map En.vs)
  | [], [], _ => ⟨fun _ h => (by cases h), rfl, [], rfl, .nil⟩
  | a :: as, e :: es, .cons h t => by
    obtain ⟨i1, i2, as', i3, i4⟩ := kept_of g t
    have e1 : kept ((a :: as).map V.ref) (e :: es) g = if g e = true then (V.ref a, e) :: kept (as.map V.ref) es g else kept (as.map V.ref) es g := by
      unfold kept
      rw [List.map_cons, List.zip_cons_cons, List.filter_cons]
    rw [e1, List.filter_cons]
    cases hg : g e with
    | false =>
      rw [if_neg (by decide), if_neg (by decide)]
      exact ⟨fun t ht => ⟨(i1 t ht).1, List.mem_cons_of_mem _ (i1 t ht).2.1, (i1 t ht).2.2⟩, i2, as', i3, i4⟩
    | true =>
      rw [if_pos rfl, if_pos rfl]
      refine ⟨fun t ht => ?_, by rw [List.map_cons, i2], a :: as', by rw [List.map_cons, i3]; rfl, .cons h i4⟩
      rcases List.mem_cons.mp ht with rfl | ht
      · exact ⟨⟨a, rfl, h⟩, List.mem_cons_self .., hg⟩
      · exact ⟨(i1 t ht).1, List.mem_cons_of_mem _ (i1 t ht).2.1, (i1 t ht).2.2⟩
theorem kept_len {xs : List V} {es : List En} {g : En → Bool} : (kept xs es g).length ≤ es.length := by
  refine Nat.le_trans (List.length_filter_le _ _) ?_
  rw [List.length_zip]
  omega
theorem el_ents {K : PySem.W.Frag} {σ : L2.St} {H : Hp} {tl : TE} {r : R2} {p : Addr} {as : List Addr} {es : List En} {j : Nat} (g : En → Bool) (h : Ev tl σ H (.ref p)) (ha : H p = some (.lst (as.map V.ref))) (hpa : Paired (fun a t => H a = some (.tup t)) as (es.map En.vs)) (hz : es.length ≤ 60) (hr : ∀ e H', RV r (.str e.hd) (.str "steal") H' (.bl (g e)))
    (hj : ∀ x, ((wipe σ [j]).set j (some x))[j]? = some (some x)) (hw : ∀ x, wipe ((wipe σ [j]).set j (some x)) [j] = wipe σ [j]) :
    EvL (tLc (iList K tl) (gName j) (tTest (tOp r (tOp (rIxT K) (tVar j) (tC (.int 0))) (tC (.str "steal")))) (tVar j) [j]) σ H ((kept (as.map V.ref) es g).map (·.1)) := by
  have asl : as.length = es.length := by simpa using hpa.length
  have zl : ((as.map V.ref).zip es).length = (as.map V.ref).length := by rw [List.length_zip, List.length_map]; omega
  have key : given (as.map V.ref).length (fun i => g (((as.map V.ref).zip es).getD i (.non, .size 0)).2) (fun i => (((as.map V.ref).zip es).getD i (.non, .size 0)).1) = (kept (as.map V.ref) es g).map (·.1) := by
    rw [← zl]
    exact given_list ((as.map V.ref).zip es) (.non, .size 0) (fun t => g t.2) (fun t => t.1)
  rw [← key]
  have at_ : ∀ {i : Nat} {x : V}, (as.map V.ref)[i]? = some x → ∃ (a : Addr) (e : En), x = .ref a ∧ H a = some (.tup e.vs) ∧ ((as.map V.ref).zip es).getD i (.non, .size 0) = (x, e) := fun {i x} hx => by
    obtain ⟨a, e, rfl, he, hat⟩ := tl_at (p := p) hpa hx
    exact ⟨a, e, rfl, hat, getD_at (by rw [List.getElem?_zip_eq_some]; exact ⟨hx, he⟩)⟩
  refine el_lcL _ _ h (sq_of ha) (by rw [List.length_map]; omega) hw (fun i x H1 e1 hx => ?_) (fun i x H1 e1 hx hf => ?_)
  · obtain ⟨a, e, rfl, hat, hd⟩ := at_ hx
    rw [hd]
    exact et_test (ev_op (ev_op (ev_var (hj _)) ev_c (rv_ixT (st_of (e1 _ _ hat)) e.at0)) ev_c (hr e _))
  · obtain ⟨a, e, rfl, hat, hd⟩ := at_ hx
    rw [hd]
    exact ev_var (hj _)
theorem go_pick {σ : L2.St} {H : Hp} {te : TE} {s : Addr} {n i : Nat} {m : Int} {Q : VK} (h0 : σ[i]? = some (some (.ref s))) (he : Ev te σ H (.int m)) (S : Src H s n) (hn : n ≤ 1000000000) (h1 : 1 ≤ m) (h2 : m ≤ 10 ^ 60) (k : ∀ (r : Int) H1, 0 ≤ r → r < m → KB s H H1 → Src H1 s (n + 1) → Q (.int r) H1) :
    tCall spPick [] E0 (tCons (tVar i) (tCons te tNil)) σ H Q := ⟨_, h0, he H (Ex.refl _) _ fun H1 e1 => ⟨s, n, m, rfl, S.ex e1, hn, h1, h2, fun r zs r0 rm S2 => k r _ r0 rm ((kb_ex e1).trans KB.upd) S2⟩⟩
theorem paired_take {α β : Type} {F : α → β → Prop} : ∀ {xs : List α} {ys : List β}, Paired F xs ys → ∀ i : Nat, Paired F (xs.take i) (ys.take i)
  | _, _, .nil, i => by simpa using Paired.nil
  | _, _, .cons a t, 0 => by simpa using Paired.nil
  | _, _, .cons a t, i + 1 => by simpa using Paired.cons a (paired_take t i)
theorem paired_drop {α β : Type} {F : α → β → Prop} : ∀ {xs : List α} {ys : List β}, Paired F xs ys → ∀ i : Nat, Paired F (xs.drop i) (ys.drop i)
  | _, _, .nil, i => by simpa using Paired.nil
  | _, _, .cons a t, 0 => by simpa using Paired.cons a t
  | _, _, .cons a t, i + 1 => by simpa using paired_drop t i
theorem paired_app {α β : Type} {F : α → β → Prop} : ∀ {xs : List α} {ys : List β} {us : List α} {vs : List β}, Paired F xs ys → Paired F us vs → Paired F (xs ++ us) (ys ++ vs)
  | _, _, _, _, .nil, h => h
  | _, _, _, _, .cons a t, h => .cons a (paired_app t h)
theorem TL.ins {H H' : Hp} {p a : Addr} {es : List En} {e : En} {lv : List V} {i : Nat} (h : TL H p (es.map En.vs)) (k : TK H H') (hv : H p = some (.lst lv)) (h' : H' p = some (.lst (lv.take i ++ [.ref a] ++ lv.drop i))) (ha : H' a = some (.tup e.vs)) : TL H' p ((insAt es i e).map En.vs) := by
  obtain ⟨as, h1, h2⟩ := h
  rw [hv] at h1
  cases h1
  refine ⟨as.take i ++ [a] ++ as.drop i, by rw [h', List.map_append, List.map_append, List.map_take, List.map_drop]; rfl, ?_⟩
  have h3 := paired_imp (fun a t z => k a t z) h2
  unfold insAt
  rw [List.map_append, List.map_append, List.map_take, List.map_drop]
  exact paired_app (paired_app (paired_take h3 i) (.cons ha .nil)) (paired_drop h3 i)
theorem HL.ins {d : Addr} {H : Hp} {ws : List Str} {ps : List Addr} {L : List (List En)} {k : Nat} {pk a : Addr} {es : List En} {e : En} {lv : List V} {j : Nat} (h : HL H d ws ps L) (nd : ps.Nodup) (hk : ps[k]? = some pk) (hes : L[k]? = some es) (hv : H pk = some (.lst lv)) (ha : H a = some (.tup e.vs)) :
    HL (upd H pk (.lst (lv.take j ++ [.ref a] ++ lv.drop j))) d ws ps (L.set k (insAt es j e)) := by
  have tk : TK H (upd H pk (.lst (lv.take j ++ [.ref a] ++ lv.drop j))) := tk_upd hv
  have ndp : d ≠ pk := fun z => by have := h.dk; rw [z, hv] at this; cases this
  refine ⟨by rw [upd_ne ndp]; exact h.dk, h.pl, fun i p es2 h1 h2 => ?_⟩
  rcases set_get h2 with ⟨rfl, rfl⟩ | ⟨ne, h3⟩
  · rw [hk] at h1
    cases h1
    exact (h.lg i _ es hk hes).ins tk hv upd_same (tk _ _ ha)
  · exact (h.lg i p es2 h1 h3).keep tk (upd_ne fun z => ne (by
      subst z
      exact (List.getElem?_inj (List.getElem?_eq_some_iff.mp h1).1 nd).mp (h1.trans hk.symm)))
theorem q_rowsKC {K : PySem.W.Frag} {tz : TS} {D : Ends} {σ : L2.St} {H : Hp} {tl te2 : TE} {j m : Nat} {vs : List Nat} {d : Addr} {ws : List Str} {ps : List Addr} (C : Nat → List V) (hte : ∀ H', Ev tl σ H' (.ref d)) (hdd : H d = some (.dK (Dk ws ps))) (pl : ps.length = ws.length) (hl : ws.length ≤ 1000) (nd : ws.Nodup)
    (hj : ∀ x, ((wipe σ vs).set j (some x))[j]? = some (some x)) (hwp : ∀ x, wipe ((wipe σ vs).set j (some x)) vs = wipe σ vs)
    (he : ∀ od H1, Ex (upd H d (.frz od (.dK (Dk ws ps)))) H1 → ∀ (i : Nat) x, ws[i]? = some x → EvL te2 ((wipe σ vs).set j (some (.str x))) H1 (C i))
    (q : ∀ f qs H2, H f = none → Ex H H2 → H2 f = some (.dK (Dk ws qs)) → qs.length = ws.length → qs.Nodup → (∀ (i : Nat) p, qs[i]? = some p → H p = none ∧ H2 p = some (.lst (C i))) → tz D (σ.set m (some (.ref f))) H2) :
    tSeq (tAsg (tCB (rDictP K) (tCons (tLockE (tLc (iKeys tl) (gName j) tYes (tTup (tCons (tVar j) (tCons te2 tNil))) vs)) tNil)) (gName m)) tz D σ H :=
  ev_rowsKC (Q := fun v H' => tz D (σ.set m (some v)) H') C hte hdd pl hl nd hj hwp he q
theorem rv_neSt (e : En) (H : Hp) : RV rNe (.str e.hd) (.str "steal") H (.bl (!e.isSt)) := by
  rw [← En.isSt_eq e]
  exact rv_ne rfl
theorem rv_eqSt (e : En) (H : Hp) : RV rEq (.str e.hd) (.str "steal") H (.bl e.isSt) := by
  rw [← En.isSt_eq e]
  exact rv_eq rfl
def vals (H : Hp) (p : Addr) : List V := match H p with
  | some (.lst xs) => xs
  | _ => []
theorem HL.vals {H : Hp} {d : Addr} {ws : List Str} {ps : List Addr} {L : List (List En)} (h : HL H d ws ps L) {i : Nat} {p : Addr} {es : List En} (h1 : ps[i]? = some p) (h2 : L[i]? = some es) : ∃ as : List Addr, H p = some (.lst (as.map V.ref)) ∧ Vx.vals H p = as.map V.ref ∧ Paired (fun a t => H a = some (.tup t)) as (es.map En.vs) := by
  obtain ⟨as, g1, g2⟩ := h.lg i p es h1 h2
  refine ⟨as, g1, ?_, g2⟩
  unfold Vx.vals
  rw [g1]
theorem flat_congr {α β : Type} {f g : α → List β} : ∀ {zs : List α}, (∀ z ∈ zs, f z = g z) → zs.flatMap f = zs.flatMap g
  | [], _ => rfl
  | z :: zs, h => by rw [List.flatMap_cons, List.flatMap_cons, h z (List.mem_cons_self ..), flat_congr fun y hy => h y (List.mem_cons_of_mem _ hy)]
theorem cont_at {H : Hp} {ws : List Str} {qs : List Addr} {y : Str} {k : Nat} {b : Addr} {xs : List V} (nd : ws.Nodup) (hk : ws[k]? = some y) (hb : qs[k]? = some b) (h : H b = some (.lst xs)) : cont H ws qs y = xs := by
  unfold cont
  rw [dk_get nd hk hb]
  show (match H b with | some (.lst xs) => xs | _ => []) = xs
  rw [h]
/-! written logs -/
def EvE (te : TE) (σ : L2.St) (H : Hp) (es : List En) : Prop := ∀ H1, Ex H H1 → ∀ Q : VK, (∀ p H2, H1 p = none → Ex H1 H2 → TL H2 p (es.map En.vs) → Q (.ref p) H2) → te σ H1 Q
theorem ee_nil {σ : L2.St} {H : Hp} : EvE (tLst tNil) σ H [] := fun H1 e Q q => ⟨(by show 0 ≤ sizeLine; decide), fun p hp => q p _ hp (Ex.new hp) (TL.nil upd_same)⟩
theorem ee_one {σ : L2.St} {H : Hp} {t : TE} {e : En} (h : EvU t σ H e.vs) : EvE (tLst (tCons t tNil)) σ H [e] := fun H1 e1 Q q =>
  h H1 e1 _ fun a H2 na e2 ha => ⟨(by show 1 ≤ sizeLine; decide), fun p hp => q p _ (fresh_back e2 hp) (e2.trans (Ex.new hp)) ⟨[a], upd_same, .cons ((Ex.new hp) _ _ ha) .nil⟩⟩
theorem ee_two {σ : L2.St} {H : Hp} {t u : TE} {e f : En} (h : EvU t σ H e.vs) (h2 : EvU u σ H f.vs) : EvE (tLst (tCons t (tCons u tNil))) σ H [e, f] := fun H1 e1 Q q =>
  h H1 e1 _ fun a H2 na e2 ha => h2 H2 (e1.trans e2) _ fun b H3 nb e3 hb => ⟨(by show 2 ≤ sizeLine; decide), fun p hp => q p _ (fresh_back (e2.trans e3) hp) ((e2.trans e3).trans (Ex.new hp)) ⟨[a, b], upd_same, .cons ((Ex.new hp) _ _ (e3 _ _ ha)) (.cons ((Ex.new hp) _ _ hb) .nil)⟩⟩
theorem go_disp2 {σ : L2.St} {H : Hp} {Q : VK} {k1 k2 : Str} {t1 t2 : TE} {es1 es2 : List En} (h1 : ∀ H, EvE t1 σ H es1) (h2 : ∀ H, EvE t2 σ H es2) (nd : [k1, k2].Nodup) (k : ∀ d p1 p2 H', Ex H H' → HL H' d [k1, k2] [p1, p2] [es1, es2] → Q (.ref d) H') : tDisp [(tC (.str k1), t1), (tC (.str k2), t2)] σ H Q := fun d hd => by
  refine h1 _ _ (Ex.refl _) _ fun p1 H1 n1 e1 g1 => h2 _ _ (Ex.refl _) _ fun p2 H2 n2 e2 g2 => ?_
  have hd2 : H2 d = some (.dK []) := e2 _ _ (e1 _ _ upd_same)
  have tk : TK H2 (upd H2 d (.dK (Dk [k1, k2] [p1, p2]))) := fun a xs w => by rw [upd_ne (fun z => by rw [z, hd2] at w; cases w)]; exact w
  have nl : ∀ {p ts}, TL H2 p ts → p ≠ d := fun h z => by
    obtain ⟨as, g, _⟩ := h
    rw [z, hd2] at g
    cases g
  refine ⟨hd2, [((.inr k1 : Key), V.ref p1), (.inr k2, .ref p2)], rfl, (by show 2 ≤ 15; decide), ?_⟩
  have e : mergeK [] [((.inr k1 : Key), V.ref p1), (.inr k2, .ref p2)] = Dk [k1, k2] [p1, p2] := merge_dk (ws := [k1, k2]) (ps := [p1, p2]) rfl nd
  rw [e]
  have g1' := g1.ex e2
  refine k d p1 p2 _ (fun b o h => ?_) ⟨upd_same, rfl, fun i p es c1 c2 => ?_⟩
  · have nb : b ≠ d := fun z => by rw [z, hd] at h; cases h
    rw [upd_ne nb]
    exact e2 _ _ (e1 _ _ (by rw [upd_ne nb]; exact h))
  · rcases i with _ | _ | i
    · cases Option.some.inj c1
      cases Option.some.inj c2
      exact g1'.keep tk (upd_ne (nl g1'))
    · cases Option.some.inj c1
      cases Option.some.inj c2
      exact g2.keep tk (upd_ne (nl g2))
    · simp at c1
theorem el_stolenD {σ : L2.St} {H : Hp} {k1 k2 : Str} {t1 t2 : TE} {es1 es2 : List En} (h1 : ∀ H, EvE t1 σ H es1) (h2 : ∀ H, EvE t2 σ H es2) (v : Vlog 60 [k1, k2] [es1, es2]) : EvL (tCall spStolen [] E0 (tCons (tDisp [(tC (.str k1), t1), (tC (.str k2), t2)]) (tCons (tC (.str k1)) tNil))) σ H ((stolenOf [es1, es2] es1).map V.str) := fun H1 e1 Q q =>
  go_disp2 (Q := fun v H2 => (tCons (tC (.str k1)) tNil) σ H2 (fun vs H3 => spStolen ((v :: vs) ++ []) H3 Q E0)) h1 h2 v.wk.2.2.1 fun d p1 p2 H2 e2 hl => ⟨d, [k1, k2], [p1, p2], [es1, es2], 0, k1, es1, rfl, hl.r, v, rfl, rfl, fun p H3 n3 e3 h3 => q p H3 (fresh_back e2 n3) (e2.trans e3) h3⟩
theorem nm_k : ∀ z ∈ (["a", "b", "x", "y", "push", "steal"] : List Str), 1 ≤ z.length ∧ z.length ≤ 8 ∧ ∀ c ∈ z.cps.toList, 97 ≤ c ∧ c ≤ 122 := by decide +kernel
theorem ev_neSS {K : PySem.W.Frag} {σ : L2.St} {H : Hp} {tx ty : TE} {q : List Str} (h1 : EvL tx σ H (q.map V.str)) (h2 : EvL ty σ H (q.map V.str)) (hn : ∀ x ∈ q, IsNm x) : Ev (tOp (rNeD K) tx ty) σ H (.bl false) := fun H1 e Q qq =>
  h1 H1 e _ fun p H2 np e2 hp => h2 H2 (e.trans e2) _ fun p2 H3 n3 e3 hp3 => by
    have s := shaped_strs q hn
    refine ⟨.list (q.map PyData.str), .list (q.map PyData.str), .lst (sq_of (e3 _ _ hp)) (dp_strs q), .lst (sq_of hp3) (dp_strs q), s, s, ?_⟩
    rw [PySem.SeqAt.eqv_refl (.list (q.map PyData.str)) (by simp only [PyData.canLay0]; exact lay_strs q hn)]
    exact qq H3 (e2.trans e3)
theorem ev_eqSS {K : PySem.W.Frag} {σ : L2.St} {H : Hp} {tx ty : TE} {q : List Str} (h1 : EvL tx σ H (q.map V.str)) (h2 : EvL ty σ H (q.map V.str)) (hn : ∀ x ∈ q, IsNm x) : Ev (tOp (rEqD K) tx ty) σ H (.bl true) := fun H1 e Q qq =>
  h1 H1 e _ fun p H2 np e2 hp => h2 H2 (e.trans e2) _ fun p2 H3 n3 e3 hp3 => by
    have s := shaped_strs q hn
    refine ⟨.list (q.map PyData.str), .list (q.map PyData.str), .lst (sq_of (e3 _ _ hp)) (dp_strs q), .lst (sq_of hp3) (dp_strs q), s, s, ?_⟩
    rw [PySem.SeqAt.eqv_refl (.list (q.map PyData.str)) (by simp only [PyData.canLay0]; exact lay_strs q hn)]
    exact qq H3 (e2.trans e3)
theorem Vlog.up {top t2 : Nat} {ws : List Str} {L : List (List En)} (v : Vlog top ws L) (h : top ≤ t2) : Vlog t2 ws L := ⟨v.wk, v.len, fun es he => ⟨Nat.le_trans (v.ent es he).1 h, (v.ent es he).2⟩, v.pu, v.re, v.own, v.st⟩
theorem ev_mn2 {ta tb : TE} {σ : L2.St} {H : Hp} {i j : Int} (ha : Ev ta σ H (.int i)) (hb : Ev tb σ H (.int j)) : Ev (tCB (fun xs H Q => ∃ i j, xs = [.int i, .int j] ∧ Q (.int (if j < i then j else i)) H) (tCons ta (tCons tb tNil))) σ H (.int (if j < i then j else i)) := fun H1 e Q q =>
  ha H1 e _ fun H2 e2 => hb H2 (e.trans e2) _ fun H3 e3 => ⟨i, j, rfl, q H3 (e2.trans e3)⟩
theorem ev_lenDk {te : TE} {σ : L2.St} {H : Hp} {d : Addr} {kvs : List (Key × V)} (h : Ev te σ H (.ref d)) (hd : H d = some (.dK kvs)) : Ev (tCB (fun xs H Q => ∃ (a : Addr) (kvs : List (Key × V)), xs = [V.ref a] ∧ Rd H a (.dK kvs) ∧ Q (.int kvs.length) H) (tCons te tNil)) σ H (.int (kvs.length : Int)) := fun H1 e Q q =>
  h H1 e _ fun H2 e2 => ⟨d, kvs, rfl, Or.inl (e2 _ _ (e _ _ hd)), q H2 e2⟩
/-- a log that lost its steals -/
theorem HL.nst {d : Addr} {H : Hp} {ws : List Str} {ps : List Addr} {L : List (List En)} {k : Nat} {pk : Addr} {es : List En} {as : List Addr} (h : HL H d ws ps L) (nd : ps.Nodup) (hk : ps[k]? = some pk) (hes : L[k]? = some es) (hv : H pk = some (.lst (as.map V.ref))) (hpa : Paired (fun a t => H a = some (.tup t)) as (es.map En.vs)) :
    HL (upd H pk (.lst ((kept (as.map V.ref) es (fun e => !e.isSt)).map (·.1)))) d ws ps (L.set k (Vx.nst es)) := by
  have tk : TK H (upd H pk (.lst ((kept (as.map V.ref) es (fun e => !e.isSt)).map (·.1)))) := tk_upd hv
  have ndp : d ≠ pk := fun z => by have := h.dk; rw [z, hv] at this; cases this
  obtain ⟨_, _, as', k3, k4⟩ := kept_of (fun e => !e.isSt) hpa
  refine ⟨by rw [upd_ne ndp]; exact h.dk, h.pl, fun i p es2 h1 h2 => ?_⟩
  rcases set_get h2 with ⟨rfl, rfl⟩ | ⟨ne, h3⟩
  · rw [hk] at h1
    cases h1
    exact ⟨as', by rw [upd_same, k3], paired_imp (fun a t h => tk _ _ h) k4⟩
  · exact (h.lg i p es2 h1 h3).keep tk (upd_ne fun z => ne (by
      subst z
      exact (List.getElem?_inj (List.getElem?_eq_some_iff.mp h1).1 nd).mp (h1.trans hk.symm)))
theorem q_all {tz : TS} {D : Ends} {σ : L2.St} {H : Hp} {te to : TE} {p : Addr} {xs ys : List V} (h : EvL te σ H ys) (ho : Ev to σ H (.ref p)) (hp : H p = some (.lst xs)) (hz : xs.length + ys.length ≤ 100000) (k : ∀ H1, Ex H H1 → tz D σ (upd H1 p (.lst ys))) : tSeq (tAsg te (gAll to)) tz D σ H :=
  h H (Ex.refl _) _ fun r H1 n1 e1 h1 => ho H1 e1 _ fun H2 e2 => ⟨p, r, xs, ys, rfl, rfl, (fun z => by rw [← z, hp] at n1; cases n1), e2 _ _ (e1 _ _ hp), e2 _ _ h1, sz_of hz, k H2 (e1.trans e2)⟩
end Vx

set_option Elab.async false
set_option linter.all false
set_option maxRecDepth 100000
set_option maxHeartbeats 8000000
namespace Vx
open PySem PySem.Spec PyProof.Rows L2 Evl
theorem ks_keys (names : List Str) (f : Str → V) : (KsV names f).map (fun kv => kV kv.1) = names.map V.str := by
  unfold KsV
  rw [List.map_map]
  rfl
theorem ks_key (names : List Str) (f : Str → V) : (KsV names f).map (·.1) = names.map Sum.inr := by
  unfold KsV
  rw [List.map_map]
  rfl
theorem ks_len (names : List Str) (f : Str → V) : (KsV names f).length = names.length := List.length_map ..
theorem ks_at {names : List Str} {f : Str → V} {i : Nat} {k : Key} {v : V} (h : (KsV names f)[i]? = some (k, v)) : ∃ x, names[i]? = some x ∧ k = .inr x ∧ v = f x := by
  unfold KsV at h
  rw [List.getElem?_map] at h
  obtain ⟨x, hx, e⟩ := Option.map_eq_some_iff.mp h
  exact ⟨x, hx, (Prod.mk.inj e).1.symm, (Prod.mk.inj e).2.symm⟩
theorem ks_get {names : List Str} {f : Str → V} {x : Str} (nd : names.Nodup) (h : x ∈ names) : valV (KsV names f) (.inr x) = some (f x) := by
  refine valV_mem ?_ (List.mem_map.mpr ⟨x, h, rfl⟩)
  rw [ks_key]
  unfold List.Nodup at nd ⊢
  rw [List.pairwise_map]
  exact nd.imp fun h e => h (Sum.inr.inj e)
/-- equal data: atoms, sequences, and dicts of dict-free values -/
def EqH (H : Hp) : Nat → V → V → Prop
  | 0, x, y => x = y ∧ atom x = true
  | n + 1, x, y => (x = y ∧ atom x = true) ∨ (∃ p q xs ys, x = .ref p ∧ y = .ref q ∧ ((Rd H p (.lst xs) ∧ Rd H q (.lst ys)) ∨ (Rd H p (.tup xs) ∧ Rd H q (.tup ys))) ∧ xs.length = ys.length ∧ xs.length < 40000 ∧
      ∀ (i : Nat) (x' y' : V), xs[i]? = some x' → ys[i]? = some y' → EqH H n x' y') ∨
    ∃ (p q : Addr) (names : List Str) (f g : Str → V), x = .ref p ∧ y = .ref q ∧ H p = some (.dK (KsV names f)) ∧ H q = some (.dK (KsV names g)) ∧ names.Nodup ∧ names.length < 1000 ∧ 1 ≤ n ∧ ∀ z ∈ names, EqS H n (f z) (g z)
theorem EqH.ex {H H' : Hp} (e : Ex H H') : ∀ {n : Nat} {x y : V}, EqH H n x y → EqH H' n x y
  | 0, _, _, h => h
  | n + 1, x, y, h => by
    rcases h with h | ⟨p, q, xs, ys, h1, h2, h3, h4, h5, h6⟩ | ⟨p, q, names, f, g, h1, h2, h3, h4, h7, h8, h9, h10⟩
    · exact Or.inl h
    · exact Or.inr (Or.inl ⟨p, q, xs, ys, h1, h2, h3.imp (fun z => ⟨ex_rd e z.1, ex_rd e z.2⟩) (fun z => ⟨ex_rd e z.1, ex_rd e z.2⟩), h4, h5, fun i x' y' a b => EqH.ex e (h6 i x' y' a b)⟩)
    · exact Or.inr (Or.inr ⟨p, q, names, f, g, h1, h2, e _ _ h3, e _ _ h4, h7, h8, h9, fun z hz => (h10 z hz).ex e⟩)
theorem EqS.h {H : Hp} : ∀ {n : Nat} {x y : V}, EqS H n x y → EqH H n x y
  | 0, _, _, h => h
  | n + 1, x, y, h => by
    rcases h with h | ⟨p, q, xs, ys, h1, h2, h3, h4, h5, h6⟩
    · exact Or.inl h
    · exact Or.inr (Or.inl ⟨p, q, xs, ys, h1, h2, h3, h4, h5, fun i x' y' a b => EqS.h (h6 i x' y' a b)⟩)
def spSame8 (n : Nat) : Sp := fun vs H Q _ => ∃ x y, vs = [x, y] ∧ EqH H n x y ∧ ∀ H', Ex H H' → Q (.bl true) H'
section
variable {P : Program} {w : World} {K : PySem.W.Frag} {mg : Str → Option Value} {base : Heap}
theorem sc8_law_same : FnScope ["found", "due", "one", "two"] ["found", "due"] (defScope s_law_same) := ⟨rfl, rfl, rfl, by decide +kernel, rfl, by decide +kernel, by decide +kernel⟩
theorem ok_same18 {k n : Nat} {sp : Sp} (D : Def K mg "_law_same" s_law_same ["found", "due"]) (T : Bl mg) (G : Good P w K mg base k "_law_same" ["found", "due"] sp)
    (hn : n = 0 ∨ sp = spSame8 (n - 1)) : Good P w K mg base (k + 1) "_law_same" ["found", "due"] (spSame8 n) := by
  refine D.good sc8_law_same (fun vs H Q E h => ?_) (fun f cdv A outer s H vs Q E hr h => ?_)
  · obtain ⟨x, y, rfl, _⟩ := h
    rfl
  · obtain ⟨x, y, rfl, h, q⟩ := h
    have hu := hu_of hr
    refine ⟨_, (pss_cons (ps_if (pt_val (pe_callB call_isiT (by rfl) T.isinstance (by decide +kernel) (pa_cons (pv 1) (pa_cons (pe_tup (pa_cons (pe_bltn (v := .ty "list") (by rfl) T.list (by decide +kernel) rfl) (pa_cons (pe_bltn (v := .ty "tuple") (by rfl) T.tuple (by decide +kernel) rfl) pa_nil))) pa_nil)))) (pss_cons (ps_if (pw_or (pt_not (pt_val (pe_callB call_isiT (by rfl) T.isinstance (by decide +kernel) (pa_cons (pv 0) (pa_cons (pe_tup (pa_cons (pe_bltn (v := .ty "list") (by rfl) T.list (by decide +kernel) rfl) (pa_cons (pe_bltn (v := .ty "tuple") (by rfl) T.tuple (by decide +kernel) rfl) pa_nil))) pa_nil))))) (pw_or1 (pt_cmpR op_ne (x_isi (K := K) "list" T (pv 0) T.list) (x_isi (K := K) "list" T (pv 1) T.list) (nomark _)))).pt pss_never pss_nil)
      (pss_one (ps_ret (pe_and (pe_cmpR op_eq (x_len (K := K) T (pv 0)) (x_len (K := K) T (pv 1)) (nomark _)) (pe_one (x_all (K := K) T (pe_lc (own := [("one", 2), ("two", 3)]) (g := (gTup K 2 (gCons (gName 2) (gCons (gName 3) gNil)))) (tt := tYes) rfl sc8_law_same.nd (RZ.pi_zipA (by rfl) T.zip (pa_cons (pv 0) (pa_cons (pv 1) pa_nil))) (blkOk_by (N := ["found", "due", "one", "two"]) (sc := (defScope s_law_same)) (by decide +kernel)) (fun _ _ _ _ _ => (x_gt (K := K) (pgs_cons (pg_name (i := 2) sc8_law_same.nd rfl (Or.inl rfl)) (pgs_cons (pg_name (i := 3) sc8_law_same.nd rfl (Or.inl rfl)) pgs_nil)))) (fun _ _ _ _ _ => pts_nil) (fun _ _ _ _ _ => (pe_fn G hr (pa_cons (pv 2) (pa_cons (pv 3) pa_nil))))))))))) pss_nil)
      (pss_cons (ps_if (pt_val (x_isi (K := K) "dict" T (pv 1) T.dict)) (pss_cons (ps_if (pw_or (pt_not (pt_val (x_isi (K := K) "dict" T (pv 0) T.dict))) (pw_or1 (pt_not (pt_val (pe_fn G hr (pa_cons (pe_callTy (hc := call_listD rfl) (hg := by rfl) (hm := T.list) (hv := by decide +kernel) (ha := pa_cons (pv 0) pa_nil)) (pa_cons (pe_callTy (hc := call_listD rfl) (hg := by rfl) (hm := T.list) (hv := by decide +kernel) (ha := pa_cons (pv 1) pa_nil)) pa_nil))))))).pt pss_never pss_nil)
      (pss_one (ps_ret (x_all (K := K) T (pe_lock (pe_lc (own := [("one", 2)]) (g := (gName 2)) (tt := tYes) rfl sc8_law_same.nd (pi_keys (pv 1)) (blkOk_by (N := ["found", "due", "one", "two"]) (sc := (defScope s_law_same)) (by decide +kernel)) (fun _ _ _ _ _ => (pg_name (i := 2) sc8_law_same.nd rfl (Or.inl rfl))) (fun _ _ _ _ _ => pts_nil) (fun _ _ _ _ _ => (pe_fn G hr (pa_cons (pe_dget hu (pv 0) (pv 2) (fun _ _ => rfl)) (pa_cons (pe_dget hu (pv 1) (pv 2) (fun _ _ => rfl)) pa_nil)))))))))) pss_nil)
      (pss_cons (ps_if (pw_or (pt_cmpR op_isN (pv 1) pe_non (nomark _)) (pw_or1 (pt_cmpR op_isN (pv 0) pe_non (nomark _)))).pt (pss_one (ps_ret (pe_and (pe_cmpR op_isN (pv 1) pe_non (nomark _)) (pe_one (pe_cmpR op_isN (pv 0) pe_non (nomark _)))))) pss_nil)
      (pss_cons (ps_if (pw_or (pt_cmpR op_ne (x_isi (K := K) "bool" T (pv 0) T.bool) (x_isi (K := K) "bool" T (pv 1) T.bool) (nomark _)) (pw_or1 (pt_cmpR op_ne (x_isi (K := K) "str" T (pv 0) T.str) (x_isi (K := K) "str" T (pv 1) T.str) (nomark _)))).pt pss_never pss_nil)
      (pss_one (ps_ret (pe_cmpR op_eq (pv 0) (pv 1) (nomark _)))))))), ?_⟩
    have cut : (∃ p q xs ys, x = .ref p ∧ y = .ref q ∧ ((Rd H p (.lst xs) ∧ Rd H q (.lst ys)) ∨ (Rd H p (.tup xs) ∧ Rd H q (.tup ys))) ∧ xs.length = ys.length ∧ xs.length < 40000 ∧
        ∀ (i : Nat) (x' y' : V), xs[i]? = some x' → ys[i]? = some y' → SpV sp [x', y'] H (.bl true)) ∨ (∃ (m : Nat) (p q : Addr) (names : List Str) (f g : Str → V), sp = spSame8 m ∧ 1 ≤ m ∧ x = .ref p ∧ y = .ref q ∧ H p = some (.dK (KsV names f)) ∧ H q = some (.dK (KsV names g)) ∧ names.Nodup ∧ names.length < 1000 ∧ ∀ z ∈ names, EqS H m (f z) (g z)) ∨ (x = y ∧ atom x = true) := by
      cases n with
      | zero => exact Or.inr (Or.inr h)
      | succ n =>
        have hsp : sp = spSame8 n := by
          rcases hn with z | z
          · cases z
          · exact z
        rcases h with h | ⟨p, r, xs, ys, h1, h2, h3, h4, h5, h6⟩ | ⟨p, r, names, f1, g1, h1, h2, h3, h4, h7, h8, h9, h10⟩
        · exact Or.inr (Or.inr h)
        · refine Or.inl ⟨p, r, xs, ys, h1, h2, h3, h4, h5, fun i x' y' a b H1 e Q2 q2 E2 => ?_⟩
          rw [hsp]
          exact ⟨x', y', rfl, EqH.ex e (h6 i x' y' a b), q2⟩
        · exact Or.inr (Or.inl ⟨n, p, r, names, f1, g1, hsp, h9, h1, h2, h3, h4, h7, h8, h10⟩)
    rcases cut with ⟨p, r, xs, ys, rfl, rfl, hh, hl, hz, hrec⟩ | ⟨m, p, r, names, f1, g1, hsp, hm, rfl, rfl, hp, hr2, nd, hz, hv⟩ | ⟨rfl, ha⟩
    · obtain ⟨m, b1, b2, t1, t2, k1, k2, kb, hs⟩ : ∃ (m : String) (b1 b2 : Bool), TyN K H (.ref p) m ∧ TyN K H (.ref r) m ∧ kitB m "list" = some b1 ∧ kitB m "tuple" = some b2 ∧ (b1 || b2) = true ∧ ((SqL K H p xs ∧ SqL K H r ys) ∨ (SqT K H p xs ∧ SqT K H r ys)) := by
        rcases hh with ⟨h1, h2⟩ | ⟨h1, h2⟩
        · exact ⟨"list", true, false, ty_lst h1, ty_lst h2, by decide +kernel, by decide +kernel, rfl, Or.inl ⟨Or.inl h1, Or.inl h2⟩⟩
        · exact ⟨"tuple", false, true, ty_tup h1, ty_tup h2, by decide +kernel, by decide +kernel, rfl, Or.inr ⟨Or.inl h1, Or.inl h2⟩⟩
      have hp : ∀ H', Ex H H' → SqL K H' p xs ∨ SqT K H' p xs := fun H' e => hs.imp (fun z => ex_l e z.1) (fun z => ex_t e z.1)
      have hr' : ∀ H', Ex H H' → SqL K H' r ys ∨ SqT K H' r ys := fun H' e => hs.imp (fun z => ex_l e z.2) (fun z => ex_t e z.2)
      refine s_if (et_B (ev_isI2 (i := 1) rfl t2 k1 k2)) (fun _ H1 e1 => ?_) (fun z => by rw [kb] at z; cases z)
      refine s_if (b := false) (et_is (et_or (et_not (et_B (ev_isI2 (i := 0) rfl (t1.ex e1) k1 k2))) (fun _ => et_test (ev_op (ev_isI (i := 0) rfl (t1.ex e1) k1) (ev_isI (i := 1) rfl (t2.ex e1) k1) (rv_ne rfl)))) (by rw [kb]; simp)) (fun z => nomatch z) (fun _ H2 e2 => ?_)
      refine s_ret (v := .bl true) (ev_is (ev_andV (ev_op (ev_lenA (ev_var rfl) (hp H2 (e1.trans e2))) (ev_lenA (ev_var rfl) (hr' H2 (e1.trans e2))) (rv_eq rfl)) (fun _ => ev_allN (bs := List.replicate xs.length true) ?_)) ?_) (fun H3 e3 => q H3 ((e1.trans e2).trans e3))
      · rw [← rmap_true]
        refine el_lcZ (xs := xs) (ys := ys) _ (ea_cons (ev_var rfl) (ea_cons (ev_var rfl) ea_nil)) (hs.imp (fun z => ⟨ex_l (e1.trans e2) z.1, ex_l (e1.trans e2) z.2⟩) (fun z => ⟨ex_t (e1.trans e2) z.1, ex_t (e1.trans e2) z.2⟩)) hl hz (fun _ _ => rfl) (fun i x y H4 e4 gx gy => ?_)
        exact ev_call (ea_cons (ev_var rfl) (ea_cons (ev_var rfl) ea_nil)) (fun H5 e5 => hrec i x y gx gy H5 (((e1.trans e2).trans e4).trans e5))
      · rw [all_rep, hl]
        simp
    · have tp := ty_dict (K := K) (Or.inl hp)
      have tr := ty_dict (K := K) (Or.inl hr2)
      have keysP := ks_keys names f1
      have keysQ := ks_keys names g1
      refine s_if (b := false) (et_B (ev_isI2 (i := 1) (b1 := false) (b2 := false) rfl tr (by decide +kernel) (by decide +kernel))) (fun z => nomatch z) (fun _ H1 e1 => ?_)
      refine s_if (b := true) (et_B (ev_isI (i := 1) rfl (tr.ex e1) (by decide +kernel))) (fun _ H2 e2 => ?_) (fun z => nomatch z)
      have E2 := e1.trans e2
      have lk : ∀ {σ : L2.St} {i : Nat} {H3 : Hp} {d : Addr} {kvs : List (Key × V)}, σ[i]? = some (some (.ref d)) → H3 d = some (.dK kvs) → kvs.map (fun kv => kV kv.1) = names.map V.str → EvL (tCB (fun xs H Q => ∃ (a : Addr) (kvs : List (Key × V)), xs = [.ref a] ∧ Rd H a (.dK kvs) ∧ ∀ p, H p = none → Q (.ref p) (upd H p (.lst (kvs.map fun kv => kV kv.1)))) (tCons (tVar i) tNil)) σ H3 (names.map V.str) := fun hi hd hk H4 e4 Q4 q4 =>
        ⟨_, hi, _, _, rfl, Or.inl (e4 _ _ hd), fun p0 hp0 => by
          rw [hk]
          exact q4 p0 _ hp0 (Ex.new hp0) upd_same⟩
      refine s_if (b := false) (et_is (et_or (a := false) (b := false) (et_not (a := true) (et_B (ev_isI (i := 0) rfl (tp.ex E2) (by decide +kernel)))) (fun _ => et_not (a := true) (et_B (ev_callP (eap_cons (evp_L (lk (i := 0) rfl (E2 _ _ hp) keysP)) (eap_cons (evp_L (lk (i := 1) rfl (E2 _ _ hr2) keysQ)) eap_nil)) (fun vs H3 e3 pr => ?_))))) rfl) (fun z => nomatch z) (fun _ H3 e3 => ?_)
      · rcases pr with _ | ⟨⟨a, rfl, ha⟩, _ | ⟨⟨b, rfl, hb⟩, ⟨⟩⟩⟩
        rw [hsp]
        exact fun H4 e4 Q4 q4 E4 => ⟨_, _, rfl, (eqs_strs (Or.inl (e4 _ _ ha)) (Or.inl (e4 _ _ hb)) (by omega) hm).h, q4⟩
      · have E3 := E2.trans e3
        refine s_ret (v := .bl true) (ev_allKeys (fun _ => ev_var rfl) (E3 _ _ hr2) (by rw [ks_len]; exact hz) (fun _ => rfl) (fun H4 e4 od i k u hk => ?_)) fun H4 e4 => q H4 (E3.trans e4)
        obtain ⟨x, g2, rfl, rfl⟩ := ks_at hk
        have xm := List.mem_of_getElem? g2
        have E4 := E3.trans e4
        have hr4 := E4 _ _ hr2
        have hp4 := E4 _ _ hp
        have rp : Rd (upd H4 r (.frz od (.dK (KsV names g1)))) p (.dK (KsV names f1)) := by
          by_cases z : p = r
          · subst z
            rw [hr4] at hp4
            injection Option.some.inj hp4 with z2
            rw [← z2]
            exact Or.inr ⟨od, upd_same⟩
          · exact Or.inl (by rw [upd_ne z]; exact hp4)
        rw [hsp]
        refine ev_call (ea_cons (ev_dgetR (ev_var rfl) (ev_var rfl) rp (ks_get nd xm)) (ea_cons (ev_dgetR (ev_var rfl) (ev_var rfl) (Or.inr ⟨od, upd_same⟩) (ks_get nd xm)) ea_nil)) (fun H5 e5 Q5 q5 E5 => ⟨_, _, rfl, EqH.ex e5 (EqS.h (EqS.frz hr4 ((hv x xm).ex E4))), q5⟩)
    · obtain ⟨m, b1, b2, t, k1, k2, k3, k4, k5, sc⟩ : ∃ (m : String) (b1 b2 : Bool), TyN K H x m ∧ kitB m "list" = some false ∧ kitB m "tuple" = some false ∧ kitB m "dict" = some false ∧ kitB m "bool" = some b1 ∧ kitB m "str" = some b2 ∧ scal x x = true := by
        cases x with
        | non => exact ⟨_, false, false, ty_non, by decide +kernel, by decide +kernel, by decide +kernel, by decide +kernel, by decide +kernel, rfl⟩
        | bl b => exact ⟨_, true, false, ty_bl, by decide +kernel, by decide +kernel, by decide +kernel, by decide +kernel, by decide +kernel, rfl⟩
        | int b => exact ⟨_, false, false, ty_int, by decide +kernel, by decide +kernel, by decide +kernel, by decide +kernel, by decide +kernel, rfl⟩
        | str b => exact ⟨_, false, true, ty_str, by decide +kernel, by decide +kernel, by decide +kernel, by decide +kernel, by decide +kernel, rfl⟩
        | byt _ => cases ha
        | flt _ => cases ha
        | ref _ => cases ha
        | ty _ => cases ha
      refine s_if (b := false) (et_B (ev_isI2 (i := 1) rfl t k1 k2)) (fun z => nomatch z) (fun _ H1 e1 => ?_)
      refine s_if (b := false) (et_B (ev_isI (i := 1) rfl (t.ex e1) k3)) (fun z => nomatch z) (fun _ H2 e2 => ?_)
      have en : ∀ {H' : Hp} {i : Nat}, ([some x, some x, none, none] : L2.St)[i]? = some (some x) → Ev (tOp (fun x y H Q => y = .non ∧ Q (.bl (decide (x = .non))) H) (tVar i) (tC .non)) [some x, some x, none, none] H' (.bl (decide (x = .non))) := fun hi => ev_op (ev_var hi) ev_c rv_isN
      by_cases hx : x = .non
      · refine s_if (b := true) (et_is (et_or (et_test (en (i := 1) rfl)) (fun _ => et_test (en (i := 0) rfl))) (by simp [hx])) (fun _ H3 e3 => ?_) (fun z => nomatch z)
        exact s_ret (v := .bl true) (ev_is (ev_andV (en (i := 1) rfl) (fun _ => en (i := 0) rfl)) (by simp [hx])) (fun H4 e4 => q H4 ((e1.trans e2).trans (e3.trans e4)))
      · refine s_if (b := false) (et_is (et_or (et_test (en (i := 1) rfl)) (fun _ => et_test (en (i := 0) rfl))) (by simp [hx])) (fun z => nomatch z) (fun _ H3 e3 => ?_)
        have E3 := (e1.trans e2).trans e3
        refine s_if (b := false) (et_is (et_or (et_test (ev_op (ev_isI (i := 0) rfl (t.ex E3) k4) (ev_isI (i := 1) rfl (t.ex E3) k4) (rv_ne rfl))) (fun _ => et_test (ev_op (ev_isI (i := 0) rfl (t.ex E3) k5) (ev_isI (i := 1) rfl (t.ex E3) k5) (rv_ne rfl)))) (by simp)) (fun z => nomatch z) (fun _ H4 e4 => ?_)
        exact s_ret (v := .bl true) (ev_is (ev_op (ev_var rfl) (ev_var rfl) (rv_eq sc)) (by simp)) (fun H5 e5 => q H5 (E3.trans (e4.trans e5)))
theorem ok_same8 (D : Def K mg "_law_same" s_law_same ["found", "due"]) (T : Bl mg) : ∀ n : Nat, Good P w K mg base (n + 1) "_law_same" ["found", "due"] (spSame8 n)
  | 0 => ok_same18 (sp := fun _ _ _ _ => False) D T (by
      obtain ⟨f, fd, F, m, b⟩ := D.ex
      exact ⟨f, fd, ⟨fun _ _ _ _ h => h.elim, fun _ _ _ _ _ _ _ _ _ _ _ _ _ h => h.elim⟩, m, F.kp, b⟩) (Or.inl rfl)
  | n + 1 => ok_same18 D T (ok_same8 D T n) (Or.inr rfl)
end
end Vx

set_option Elab.async false
set_option linter.all false
set_option maxRecDepth 100000
set_option maxHeartbeats 4000000
namespace Vx
open PySem PySem.Spec PyProof.Rows L2
/-- xs.remove(y), texts, y there -/
abbrev rRemS : V → List V → Hp → VK → Prop := fun x xs H Q => ∃ (l : Addr) (zs : List Str) (y : Str) (j : Nat), x = .ref l ∧ xs = [.str y] ∧ H l = some (.lst (zs.map V.str)) ∧ zs[j]? = some y ∧ (∀ m : Nat, m < j → zs[m]? ≠ some y) ∧ Q .non (upd H l (.lst ((zs.eraseIdx j).map V.str)))
theorem er_map {α β : Type} (f : α → β) : ∀ (xs : List α) (i : Nat), (xs.map f).eraseIdx i = (xs.eraseIdx i).map f
  | [], i => by simp
  | _ :: _, 0 => by simp
  | x :: xs, i + 1 => by simp [er_map f xs i]
theorem stAt {us : List Value} {zs : List Str} (r : StrsAre us zs) : ∀ {i : Nat} {z : Str}, zs[i]? = some z → ∃ t, us[i]? = some (.str z t) := by
  induction r with
  | nil => intro i z h; simp at h
  | cons n t h ih =>
    intro i z hz
    cases i with
    | zero => exact ⟨t, by simpa using hz⟩
    | succ i => exact ih (by simpa using hz)
theorem mt_removeS {X : Cx} : MtM X "list.remove" rRemS := fun pins s σ H x xs v us Q I rx rxs ⟨l, zs, y, j, ex, exs, hl, hj, first, q⟩ => by
  subst ex exs
  cases rx
  obtain ⟨u, eu, ru⟩ := rxs.one
  subst eu
  obtain ⟨t, rfl⟩ := ru
  obtain ⟨small, its, n, rel, len, ob⟩ := I.lstM hl
  have st := rel.strs
  rw [List.length_map] at len small
  have jlt := (List.getElem?_eq_some_iff.mp hj).1
  refine call_meets PySem.F.slot_list_remove ⟨_, ob, rfl⟩ PySem.F.entry_list_remove (PySem.F.args_list_remove_2 _ _) (MeetsSeq.list_remove l its.toArray n (.str y t) (isStrOf y) (fun z hz => eq_isStrOf y t st z (by simpa using hz)) j (by rw [List.size_toArray]; omega) ?_ ?_ (by rw [List.size_toArray]; omega)) ⟨ob, ?_⟩
  · obtain ⟨u, hu⟩ := stAt st hj
    have := (List.getElem?_eq_some_iff.mp hu).2
    rw [show its.toArray[j]'(by rw [List.size_toArray]; omega) = .str y u by simpa using this]
    exact beq_self_eq_true y
  · intro m hm mj
    have mlt : m < zs.length := by omega
    obtain ⟨u, hu⟩ := stAt st (List.getElem?_eq_getElem mlt)
    have := (List.getElem?_eq_some_iff.mp hu).2
    rw [show its.toArray[m] = .str zs[m] u by simpa using this]
    exact beq_eq_false_iff_ne.mpr fun e => first m mj (by rw [List.getElem?_eq_getElem mlt, e])
  · have r2 := rel.eraseIdx j
    rw [er_map] at r2
    refine ⟨.non, _, I.lset (its' := its.eraseIdx j) (t' := s.toks) hl ob (by rw [List.eraseIdxIfInBounds_toArray]) r2 ?_, rfl, q⟩
    have := len_erase zs j
    rw [List.length_map]
    omega
end Vx

set_option Elab.async false
set_option linter.all false
set_option maxRecDepth 100000
set_option maxHeartbeats 8000000
namespace Vx
open PySem PySem.Spec PyProof.Rows L2 Evl
/-- the open items behind the entries -/
def opS (q : List Str) : En → List Str
  | .push x => q ++ [x]
  | .pop x => q.erase x
  | .size _ => q
  | .steal _ _ => q
def opn (es : List En) : List Str := es.foldl opS []
theorem opn_snoc (es : List En) (e : En) : opn (es ++ [e]) = opS (opn es) e := by
  unfold opn
  rw [List.foldl_append]
  rfl
theorem opn_len (es : List En) : (opn es).length ≤ es.length := by
  suffices h : ∀ (es : List En) (q : List Str), (es.foldl opS q).length ≤ q.length + es.length by
    have := h es []
    simpa [opn] using this
  intro es
  induction es with
  | nil => intro q; simp
  | cons e es ih =>
    intro q
    have h1 := ih (opS q e)
    have h2 : (opS q e).length ≤ q.length + 1 := by
      cases e with
      | push x => simp [opS]
      | pop x => exact Nat.le_succ_of_le (List.length_erase_le)
      | size k => exact Nat.le_succ _
      | steal o x => exact Nat.le_succ _
    rw [List.foldl_cons, List.length_cons]
    omega
theorem first_of {zs : List Str} {y : Str} (h : y ∈ zs) : ∃ j, zs[j]? = some y ∧ (∀ m, m < j → zs[m]? ≠ some y) ∧ zs.eraseIdx j = zs.erase y := by
  induction zs with
  | nil => cases h
  | cons z zs ih =>
    by_cases e : z = y
    · subst e
      exact ⟨0, rfl, fun m hm => absurd hm (Nat.not_lt_zero m), by simp⟩
    · obtain ⟨j, h1, h2, h3⟩ := ih (by
        rcases List.mem_cons.mp h with h | h
        · exact absurd h.symm e
        · exact h)
      refine ⟨j + 1, by simpa using h1, fun m hm => ?_, ?_⟩
      · cases m with
        | zero => simpa using e
        | succ m => simpa using h2 m (by omega)
      · rw [List.eraseIdx_cons_succ, h3, List.erase_cons_tail (by simpa using e)]
/-- lists of texts, at qs -/
def LsAt (H : Hp) (qs : List Addr) (f : Nat → List Str) : Prop := ∀ (j : Nat) q, qs[j]? = some q → H q = some (.lst ((f j).map V.str))
def spOpenL : Sp := fun vs H Q _ => ∃ (p : Addr) (es : List En), vs = [.ref p] ∧ TL H p (es.map En.vs) ∧ es.length ≤ 60 ∧ (∀ (j : Nat) x, es[j]? = some (.pop x) → x ∈ opn (es.take j)) ∧
  ∀ (r : Addr) (qs : List Addr) H', H r = none → Ex H H' → H' r = some (.lst (qs.map V.ref)) → qs.length = es.length → (∀ q ∈ qs, H q = none) → LsAt H' qs (fun j => opn (es.take j)) → Q (.ref r) H'
def spOpen : Sp := fun vs H Q _ => ∃ (d : Addr) (ws : List Str) (ps : List Addr) (L : List (List En)) (k : Nat) (x : Str) (es : List En) (i : Nat), vs = [.ref d, .str x, .int (i : Int)] ∧ HLr H d ws ps L ∧ Vlog 60 ws L ∧ ws[k]? = some x ∧ L[k]? = some es ∧ i < es.length ∧ RetL ((opn (es.take i)).map V.str) H Q
theorem hdO : ∀ a ∈ ([("push", false), ("pop", true), ("size", false), ("steal", false)] : List (Str × Bool)), decide (V.str a.1 = V.str "pop") = a.2 := by decide +kernel
theorem En.isPo_eq2 (e : En) : decide (V.str e.hd = V.str "pop") = e.isPo := by
  cases e
  · exact hdO ("push", false) (by simp)
  · exact hdO ("pop", true) (by simp)
  · exact hdO ("size", false) (by simp)
  · exact hdO ("steal", false) (by simp)
section
variable {P : Program} {w : World} {K : PySem.W.Frag} {mg : Str → Option Value} {base : Heap}
theorem sc_open_lists : FnScope ["log", "lists", "held", "entry"] ["log"] (defScope s_open_lists) := ⟨rfl, rfl, rfl, by decide +kernel, rfl, by decide +kernel, by decide +kernel⟩
theorem ok_open_lists (D : Def K mg "open_lists" s_open_lists ["log"]) (T : Bl mg) : Good P w K mg base 1 "open_lists" ["log"] (spOpenL) := by
  refine D.good sc_open_lists (fun vs H Q E h => ?_) (fun f cdv A outer s H vs Q E hr h => ?_)
  · obtain ⟨p, es, rfl, _⟩ := h
    rfl
  · obtain ⟨p, es, rfl, hp, h60, own, q⟩ := h
    have hu := hu_of hr
    refine ⟨_, (pss_cons (ps_set (i := 1) sc_open_lists.nd rfl (Or.inl rfl) (pe_lst pa_nil))
      (pss_cons (ps_set (i := 2) sc_open_lists.nd rfl (Or.inl rfl) (pe_lst pa_nil))
      (pss_cons (ps_for PassesOwn.never rfl (x_pil (K := K) (pv 0)) (pg_name (i := 3) sc_open_lists.nd rfl (Or.inl rfl)) (pss_cons (ps_expr (x_bm (K := K) PySem.F.plainAttrs_list PySem.F.slot_list_append PySem.F.type_list_append mt_append (pv 1) (pa_cons (x_list (K := K) T (pv 2)) pa_nil)))
      (pss_one (ps_if (pt_cmpR op_eq (x_ixt (K := K) (pv 3) pe_int) pe_str (nomark _)) (pss_one (ps_expr (x_bm (K := K) PySem.F.plainAttrs_list PySem.F.slot_list_append PySem.F.type_list_append mt_append (pv 2) (pa_cons (x_ixt (K := K) (pv 3) pe_int) pa_nil)))) (pss_one (ps_if (pt_cmpR op_eq (x_ixt (K := K) (pv 3) pe_int) pe_str (nomark _)) (pss_one (ps_expr (x_bm (K := K) PySem.F.plainAttrs_list PySem.F.slot_list_remove PySem.F.type_list_remove mt_removeS (pv 2) (pa_cons (x_ixt (K := K) (pv 3) pe_int) pa_nil)))) pss_nil))))))
      (pss_one (ps_ret (pv 1)))))), ?_⟩
    obtain ⟨as, ha, hpa⟩ := id hp
    have asl : as.length = es.length := by rw [hpa.length, List.length_map]
    refine q_asgL (el_lst ea_nil (by decide)) fun l H1 nl e1 hl1 => ?_
    refine q_asgL (el_lst ea_nil (by decide)) fun h H2 nh e2 hh2 => ?_
    have nlh : l ≠ h := ne_of_none hl1 nh
    have nlH : H l = none := nl
    have nhH : H h = none := fresh_back e1 nh
    refine q_forLn (ev_var rfl) (ex_l (e1.trans e2) (sq_of ha)) (fun i σ' H' => ∃ b3, σ' = [some (.ref p), some (.ref l), some (.ref h), b3] ∧ Ex H H' ∧ H' h = some (.lst ((opn (es.take i)).map V.str)) ∧
      ∃ qs : List Addr, H' l = some (.lst (qs.map V.ref)) ∧ qs.length = i ∧ (∀ q ∈ qs, H q = none ∧ q ≠ l ∧ q ≠ h) ∧ LsAt H' qs (fun j => opn (es.take j))) (fun H3 e3 => ⟨_, rfl, (e1.trans e2).trans e3, e3 _ _ hh2, [], e3 _ _ (e2 _ _ hl1), rfl, fun _ z => (by cases z), fun j q z => (by simp at z)⟩) (fun i σ' H' _ p => sq_of (p.choose_spec.2.1 _ _ ha)) (fun i x σ' H' hx pv => ?_) (fun σ' H' pv => ?_)
    · obtain ⟨b3, rfl, eH, hh, qs, hlq, hql, hq0, hqv⟩ := pv
      rw [List.getElem?_map] at hx
      obtain ⟨a, hai, rfl⟩ := Option.map_eq_some_iff.mp hx
      have hi : i < es.length := by rw [← asl]; exact (List.getElem?_eq_some_iff.mp hai).1
      obtain ⟨e, he⟩ : ∃ e, es[i]? = some e := ⟨_, List.getElem?_eq_getElem hi⟩
      obtain ⟨a', ha', hav⟩ := paired_get hpa (i := i) (y := e.vs) (by rw [List.getElem?_map, he]; rfl)
      rw [hai] at ha'
      cases ha'
      have hav' := eH _ _ hav
      have tk1 : es.take (i + 1) = es.take i ++ [e] := by rw [List.take_add_one, he]; rfl
      have opl := opn_len (es.take i)
      rw [List.length_take] at opl
      dsimp only [List.set]
      refine q_appL hlq (ev_var rfl) (el_list (ev_var rfl) (sq_of hh)) (by rw [List.length_map]; omega) fun q H3 nq e3 hq3 => ?_
      have nql : q ≠ l := fun z => by rw [z, hlq] at nq; cases nq
      have nqh : q ≠ h := fun z => by rw [z, hh] at nq; cases nq
      have naq : a ≠ l := fun z => by rw [z, nlH] at hav; cases hav
      have nah : a ≠ h := fun z => by rw [z, nhH] at hav; cases hav
      have E4 : Ex H (upd H3 l (.lst (qs.map V.ref ++ [.ref q]))) := Ex.mut (eH.trans e3) nlH
      have h4l : (upd H3 l (.lst (qs.map V.ref ++ [.ref q]))) l = some (.lst ((qs ++ [q]).map V.ref)) := by rw [upd_same, List.map_append]; rfl
      have h4h : (upd H3 l (.lst (qs.map V.ref ++ [.ref q]))) h = some (.lst ((opn (es.take i)).map V.str)) := by rw [upd_ne nlh.symm]; exact e3 _ _ hh
      have h4a : (upd H3 l (.lst (qs.map V.ref ++ [.ref q]))) a = some (.tup e.vs) := by rw [upd_ne naq]; exact e3 _ _ hav'
      have q4 : ∀ z ∈ qs ++ [q], H z = none ∧ z ≠ l ∧ z ≠ h := fun z hz => by
        rcases List.mem_append.mp hz with hz | hz
        · exact hq0 z hz
        · rw [List.mem_singleton.mp hz]
          exact ⟨fresh_back eH nq, nql, nqh⟩
      have v4 : LsAt (upd H3 l (.lst (qs.map V.ref ++ [.ref q]))) (qs ++ [q]) (fun j => opn (es.take j)) := fun j z hz => by
        rw [upd_ne (q4 z (List.mem_of_getElem? hz)).2.1]
        by_cases hj : j < qs.length
        · rw [List.getElem?_append_left hj] at hz
          exact e3 _ _ (hqv j z hz)
        · rw [List.getElem?_append_right (by omega)] at hz
          have hj0 : j - qs.length = 0 := by
            have := (List.getElem?_eq_some_iff.mp hz).1
            simp at this
            omega
          rw [hj0] at hz
          have : q = z := by simpa using hz
          subst this
          have : j = i := by omega
          subst this
          exact hq3
      have l4 : (qs ++ [q]).length = i + 1 := by rw [List.length_append, hql]; rfl
      generalize upd H3 l (.lst (qs.map V.ref ++ [.ref q])) = H4 at E4 h4l h4h h4a v4 ⊢
      have same : ∀ {H5 : Hp}, Ex H4 H5 → opn (es.take (i + 1)) = opn (es.take i) → ∃ b3, [some (V.ref p), some (.ref l), some (.ref h), some (.ref a)] = [some (V.ref p), some (.ref l), some (.ref h), b3] ∧ Ex H H5 ∧ H5 h = some (.lst ((opn (es.take (i + 1))).map V.str)) ∧
          ∃ qs : List Addr, H5 l = some (.lst (qs.map V.ref)) ∧ qs.length = i + 1 ∧ (∀ q ∈ qs, H q = none ∧ q ≠ l ∧ q ≠ h) ∧ LsAt H5 qs (fun j => opn (es.take j)) := fun {H5} e5 hop =>
        ⟨_, rfl, E4.trans e5, by rw [hop]; exact e5 _ _ h4h, qs ++ [q], e5 _ _ h4l, l4, q4, fun j z hz => e5 _ _ (v4 j z hz)⟩
      have other : ∀ {H5 : Hp} {zs : List Str}, Ex H4 H5 → opn (es.take (i + 1)) = zs → ∃ b3, [some (V.ref p), some (.ref l), some (.ref h), some (.ref a)] = [some (V.ref p), some (.ref l), some (.ref h), b3] ∧ Ex H (upd H5 h (.lst (zs.map V.str))) ∧ (upd H5 h (.lst (zs.map V.str))) h = some (.lst ((opn (es.take (i + 1))).map V.str)) ∧
          ∃ qs : List Addr, (upd H5 h (.lst (zs.map V.str))) l = some (.lst (qs.map V.ref)) ∧ qs.length = i + 1 ∧ (∀ q ∈ qs, H q = none ∧ q ≠ l ∧ q ≠ h) ∧ LsAt (upd H5 h (.lst (zs.map V.str))) qs (fun j => opn (es.take j)) := fun {H5 zs} e5 hop =>
        ⟨_, rfl, Ex.mut (E4.trans e5) nhH, by rw [hop]; exact upd_same, qs ++ [q], by rw [upd_ne nlh]; exact e5 _ _ h4l, l4, q4, fun j z hz => by rw [upd_ne (q4 z (List.mem_of_getElem? hz)).2.2]; exact e5 _ _ (v4 j z hz)⟩
      refine s_if (b := e.isPu) (et_is (et_test (ev_op (ev_op (ev_var rfl) ev_c (rv_ixT (st_of h4a) e.at0)) ev_c (rv_eq rfl))) e.isPu_eq) (fun hpu H5 e5 => ?_) (fun hpu H5 e5 => ?_)
      · cases e with
        | push x =>
          refine s_app (e5 _ _ h4h) (ev_var rfl) (ev_op (ev_var rfl) ev_c (rv_ixT (st_of (e5 _ _ h4a)) rfl)) (by rw [List.length_map]; omega) fun H6 e6 => ?_
          have := other (H5 := H6) (zs := opn (es.take i) ++ [x]) (e5.trans e6) (by rw [tk1, opn_snoc]; rfl)
          rw [List.map_append] at this
          exact this
        | _ => cases hpu
      · refine s_if (b := e.isPo) (et_is (et_test (ev_op (ev_op (ev_var rfl) ev_c (rv_ixT (st_of (e5 _ _ h4a)) e.at0)) ev_c (rv_eq rfl))) e.isPo_eq2) (fun hpo H6 e6 => ?_) (fun hpo H6 e6 => ?_)
        · cases e with
          | pop x =>
            obtain ⟨j, j1, j2, j3⟩ := first_of (own i x he)
            have e56 := e5.trans e6
            refine ⟨_, rfl, Or.inl ⟨rfl, _, sq_of (e56 _ _ h4h)⟩, ?_⟩
            refine (ev_op (ev_var rfl) ev_c (rv_ixT (st_of (e56 _ _ h4a)) rfl)) H6 (Ex.refl _) _ fun H7 e7 => ?_
            refine ⟨h, _, x, j, rfl, rfl, e7 _ _ (e56 _ _ h4h), j1, j2, ?_⟩
            exact other (H5 := H7) (zs := (opn (es.take i)).eraseIdx j) (e56.trans e7) (by rw [tk1, opn_snoc, j3]; rfl)
          | _ => cases hpo
        · exact same (e5.trans e6) (by
            rw [tk1, opn_snoc]
            cases e with
            | push x => cases hpu
            | pop x => cases hpo
            | size k => rfl
            | steal o x => rfl)
    · obtain ⟨b3, rfl, eH, hh, qs, hlq, hql, hq0, hqv⟩ := pv
      rw [List.length_map] at hql
      exact s_ret (ev_var rfl) fun H4 e4 => q l qs H4 nlH (eH.trans e4) (e4 _ _ hlq) (hql.trans asl) (fun z hz => (hq0 z hz).1) fun j z hz => e4 _ _ (hqv j z hz)
end
end Vx

set_option Elab.async false
set_option linter.all false
set_option maxRecDepth 100000
set_option maxHeartbeats 8000000
namespace Vx
open PySem PySem.Spec PyProof.Rows L2 Evl
theorem opn_keep {x : Str} : ∀ (es : List En) (q : List Str), (x ∈ q ∨ En.push x ∈ es) → En.pop x ∉ es → x ∈ es.foldl opS q
  | [], q, h, _ => by
    rcases h with h | h
    · exact h
    · cases h
  | e :: es, q, h, n => by
    rw [List.foldl_cons]
    have n2 : En.pop x ∉ es := fun z => n (List.mem_cons_of_mem _ z)
    by_cases hp : En.push x ∈ es
    · exact opn_keep es _ (Or.inr hp) n2
    · refine opn_keep es _ (Or.inl ?_) n2
      rcases h with h | h
      · cases e with
        | push y => exact List.mem_append_left _ h
        | size k => exact h
        | steal o y => exact h
        | pop y =>
          have : x ≠ y := fun z => n (by rw [z]; exact List.mem_cons_self ..)
          exact (List.mem_erase_of_ne this).mpr h
      · rcases List.mem_cons.mp h with h | h
        · rw [← h]
          exact List.mem_append_right _ (List.mem_singleton.mpr rfl)
        · exact absurd h hp
theorem res_of_flat {L : List (List En)} {es : List En} (h : (L.flatMap res).Nodup) (hm : es ∈ L) : (res es).Nodup := by
  obtain ⟨l1, l2, rfl⟩ := List.append_of_mem hm
  rw [List.flatMap_append, List.flatMap_cons] at h
  exact (List.nodup_append.mp (List.nodup_append.mp h).2.1).1
theorem pus_of_flat {L : List (List En)} {es : List En} (h : (L.flatMap pus).Nodup) (hm : es ∈ L) : (pus es).Nodup := by
  obtain ⟨l1, l2, rfl⟩ := List.append_of_mem hm
  rw [List.flatMap_append, List.flatMap_cons] at h
  exact (List.nodup_append.mp (List.nodup_append.mp h).2.1).1
theorem mem_res_pop {x : Str} {es : List En} (h : En.pop x ∈ es) : x ∈ res es := List.mem_flatMap.mpr ⟨_, h, List.mem_singleton.mpr rfl⟩
theorem pop_once {x : Str} {es : List En} {j : Nat} (h : (res es).Nodup) (hj : es[j]? = some (.pop x)) : En.pop x ∉ es.take j := fun hm => by
  have e : es = es.take j ++ es.drop j := (List.take_append_drop j es).symm
  have h2 : En.pop x ∈ es.drop j := by
    refine List.mem_of_getElem? (i := 0) ?_
    rw [List.getElem?_drop]
    exact hj
  rw [e] at h
  unfold res at h
  rw [List.flatMap_append] at h
  exact (List.nodup_append.mp h).2.2 x (mem_res_pop hm) x (mem_res_pop h2) rfl
theorem Vlog.opens {top : Nat} {ws : List Str} {L : List (List En)} {k : Nat} {es : List En} (v : Vlog top ws L) (hes : L[k]? = some es) : ∀ (j : Nat) x, es[j]? = some (.pop x) → x ∈ opn (es.take j) := fun j x hj => by
  obtain ⟨j', h1, h2⟩ := v.own k es j x hes hj
  refine opn_keep _ _ (Or.inr ?_) (pop_once (res_of_flat v.re (List.mem_of_getElem? hes)) hj)
  refine List.mem_of_getElem? (i := j') ?_
  rw [List.getElem?_take, if_pos h1]
  exact h2
section
variable {P : Program} {w : World} {K : PySem.W.Frag} {mg : Str → Option Value} {base : Heap}
theorem sc_open_items : FnScope ["logs", "worker", "index"] ["logs", "worker", "index"] (defScope s_open_items) := ⟨rfl, rfl, rfl, by decide +kernel, rfl, by decide +kernel, by decide +kernel⟩
theorem ok_open_items (D : Def K mg "open_items" s_open_items ["logs", "worker", "index"]) (T : Bl mg) (G_check_logs : Good P w K mg base 6 "check_logs" ["logs"] spCheck) (G_check_worker : Good P w K mg base 2 "check_worker" ["logs", "worker"] spCheckW) (G_check_place : Good P w K mg base 3 "check_place" ["logs", "place"] (spCheckP K)) (G_open_lists : Good P w K mg base 1 "open_lists" ["log"] spOpenL) : Good P w K mg base 7 "open_items" ["logs", "worker", "index"] (spOpen) := by
  refine D.good sc_open_items (fun vs H Q E h => ?_) (fun f cdv A outer s H vs Q E hr h => ?_)
  · obtain ⟨d, ws, ps, L, k, x, es, i, rfl, _⟩ := h
    rfl
  · obtain ⟨d, ws, ps, L, k, x, es, i, rfl, hl, v, hk, hes, hi, q⟩ := h
    have hu := hu_of hr
    refine ⟨_, (pss_cons (ps_expr (pe_fn (G_check_logs.mono (by decide)) hr (pa_cons (pv 0) pa_nil)))
      (pss_cons (ps_expr (pe_fn (G_check_worker.mono (by decide)) hr (pa_cons (pv 0) (pa_cons (pv 1) pa_nil))))
      (pss_cons (ps_expr (pe_fn (G_check_place.mono (by decide)) hr (pa_cons (pv 0) (pa_cons (pe_tup (pa_cons (pv 1) (pa_cons (pv 2) pa_nil))) pa_nil))))
      (pss_one (ps_ret (x_ixl (K := K) (pe_fn (G_open_lists.mono (by decide)) hr (pa_cons (pe_dget hu (pv 0) (pv 1) (fun _ _ => rfl)) pa_nil)) (pv 2))))))), ?_⟩
    have ok := v.ok (Nat.le_refl _)
    have hkl := (List.getElem?_eq_some_iff.mp hk).1
    obtain ⟨b, hb⟩ : ∃ b, ps[k]? = some b := ⟨_, List.getElem?_eq_getElem (by rw [hl.pl]; exact hkl)⟩
    have es60 := ok.el _ (List.mem_of_getElem? hes)
    refine ⟨_, rfl, d, ws, ps, L, rfl, hl, v, fun H1 e1 => ?_⟩
    refine ⟨_, rfl, _, rfl, d, Dk ws ps, x, _, rfl, (hl.ex e1).rd, dk_get ok.nd hk hb, fun H2 e2 => ?_⟩
    have E2 := e1.trans e2
    have hl2 := hl.ex E2
    refine ⟨_, rfl, _, rfl, _, rfl, (by show 2 ≤ sizeLine; decide), fun t ht => ?_⟩
    have e3 : Ex H2 (upd H2 t (.tup [.str x, .int (i : Int)])) := Ex.new ht
    have h3 : (upd H2 t (.tup [.str x, .int (i : Int)])) t = some (.tup [.str x, .int (i : Int)]) := upd_same
    generalize upd H2 t (.tup [.str x, .int (i : Int)]) = H3 at e3 h3 ⊢
    have hl3 := hl2.ex e3
    obtain ⟨as, ha, hpa⟩ := hl3.lg k b es hb hes
    have asl : as.length = es.length := by rw [hpa.length, List.length_map]
    refine ⟨d, Dk ws ps, x, b, t, _, (i : Int), rfl, hl3.rd, dk_get ok.nd hk hb, h3, sq_of ha, by omega, by rw [List.length_map, asl]; omega, fun H4 e4 => ?_⟩
    have hl4 := hl3.ex e4
    have E4 := (E2.trans e3).trans e4
    refine (ev_dgetQ (ev_var rfl) (ev_var rfl) hl4.rd (dk_get ok.nd hk hb)) H4 (Ex.refl _) _ fun H5 e5 => ?_
    refine ⟨b, es, rfl, (hl4.ex e5).lg k b es hb hes, es60, v.opens hes, fun r qs H6 n6 e6 h6 hql hq0 hqv => ?_⟩
    obtain ⟨z, hz⟩ : ∃ z, qs[i]? = some z := ⟨_, List.getElem?_eq_getElem (by omega)⟩
    exact ⟨_, rfl, r, _, (i : Int), _, rfl, rfl, sq_of h6, atI_nat (by rw [List.getElem?_map, hz]; rfl), q z H6 (fresh_back (E4.trans e5) (hq0 z (List.mem_of_getElem? hz))) ((E4.trans e5).trans e6) (hqv i z hz)⟩
end
end Vx

set_option Elab.async false
set_option linter.all false
set_option maxRecDepth 100000
set_option maxHeartbeats 8000000
namespace Vx
open PySem PySem.Spec PyProof.Rows L2 Evl
/-! what a removal names is pushed -/
theorem mem_res_of {y : Str} {es : List En} (h : y ∈ res es) : (En.pop y ∈ es) ∨ ∃ o, En.steal o y ∈ es := by
  obtain ⟨e, h1, h2⟩ := List.mem_flatMap.mp h
  cases e with
  | push x => simp [En.re] at h2
  | size k => simp [En.re] at h2
  | pop x =>
    have : y = x := by simpa [En.re] using h2
    subst this
    exact Or.inl h1
  | steal o x =>
    have : y = x := by simpa [En.re] using h2
    subst this
    exact Or.inr ⟨o, h1⟩
theorem Vlog.rep {top : Nat} {ws : List Str} {L : List (List En)} (v : Vlog top ws L) {y : Str} (h : y ∈ L.flatMap res) : y ∈ L.flatMap pus := by
  obtain ⟨es, h1, h2⟩ := List.mem_flatMap.mp h
  obtain ⟨i, hi⟩ := List.mem_iff_getElem?.mp h1
  rcases mem_res_of h2 with h3 | ⟨o, h3⟩
  · obtain ⟨j, hj⟩ := List.mem_iff_getElem?.mp h3
    obtain ⟨j', _, hj'⟩ := v.own i es j y hi hj
    exact List.mem_flatMap.mpr ⟨es, h1, mem_pus.mpr (List.mem_of_getElem? hj')⟩
  · have hil : i < ws.length := by rw [← v.len]; exact (List.getElem?_eq_some_iff.mp hi).1
    obtain ⟨_, k, es2, g1, g2, g3⟩ := v.st i es _ o y hi (List.getElem?_eq_getElem hil) h3
    exact List.mem_flatMap.mpr ⟨es2, List.mem_of_getElem? g2, mem_pus.mpr g3⟩
theorem ks_nd {names : List Str} {C : Str → V} (nd : names.Nodup) : ((KsV names C).map (·.1)).Nodup := by
  rw [ks_key]
  unfold List.Nodup at nd ⊢
  rw [List.pairwise_map]
  exact nd.imp fun h e => h (Sum.inr.inj e)
/-- a new dict over names -/
def EvKs (te : TE) (σ : L2.St) (H : Hp) (names : List Str) (C : Str → V) : Prop := ∀ H1, Ex H H1 → ∀ Q : VK, (∀ d H2, H1 d = none → Ex H1 H2 → H2 d = some (.dK (KsV names C)) → Q (.ref d) H2) → te σ H1 Q
/-- dict([(x, e) for x in names]) -/
theorem ek_rows {K : PySem.W.Frag} {σ : L2.St} {H : Hp} {tl te2 : TE} {j : Nat} {vs : List Nat} {pw : Addr} {names : List Str} (C : Str → V)
    (htl : Ev tl σ H (.ref pw)) (hw : H pw = some (.lst (names.map V.str))) (nd : names.Nodup) (hl : names.length ≤ 1000)
    (hj : ∀ x, ((wipe σ vs).set j (some x))[j]? = some (some x)) (hwp : ∀ x, wipe ((wipe σ vs).set j (some x)) vs = wipe σ vs)
    (he : ∀ x ∈ names, Ev te2 ((wipe σ vs).set j (some (.str x))) H (C x)) :
    EvKs (tCB (rDictP K) (tCons (tLc (iList K tl) (gName j) tYes (tTup (tCons (tVar j) (tCons te2 tNil))) vs) tNil)) σ H names C := fun H0 e0 Q q => by
  refine htl H0 e0 _ fun H1 e1 => ⟨pw, rfl, ⟨_, sq_of (e1 _ _ (e0 _ _ hw))⟩, fun Dl hD => ?_⟩
  have E1 := e0.trans e1
  have hw1 := E1 _ _ hw
  refine lc_list (xs := names.map V.str) (fun i H' => Ex H1 H' ∧ ∃ as : List Addr, H' Dl = some (.lst (as.map V.ref)) ∧ as.length = i ∧ Paired (fun a (x : Key × V) => H' a = some (.tup [kV x.1, x.2])) as (KsV (names.take i) C))
    ⟨Ex.new hD, [], upd_same, rfl, by simpa [KsV] using Paired.nil⟩ (fun i H' _ p => sq_of (p.1 _ _ hw1)) (fun i x H' hx p => ?_) (fun H' p => ?_)
  · obtain ⟨e2, as, ha, hlen, hp⟩ := p
    rw [List.getElem?_map] at hx
    obtain ⟨z, hz, rfl⟩ := Option.map_eq_some_iff.mp hx
    have hi : i < names.length := (List.getElem?_eq_some_iff.mp hz).1
    refine ⟨hwp _, ?_⟩
    refine ⟨_, hj _, he z (List.mem_of_getElem? hz) H' (E1.trans e2) _ fun H3 e3 => ⟨(by show 2 ≤ sizeLine; decide), fun t ht => ⟨as.map V.ref, ?_, ?_, ?_⟩⟩⟩
    all_goals have n4 : Dl ≠ t := ne_of_none (e3 _ _ ha) ht
    · rw [upd_ne n4]
      exact e3 _ _ ha
    · rw [List.length_map]
      exact sz_lt (by omega)
    · have tk : TK H' (upd (upd H3 t (.tup [.str z, C z])) Dl (.lst (as.map V.ref ++ [.ref t]))) := ((tk_ex e3).trans (tk_new ht)).trans (tk_upd (by rw [upd_ne n4]; exact e3 _ _ ha))
      refine ⟨Ex.mut ((e2.trans e3).trans (Ex.new ht)) hD, as ++ [t], by rw [upd_same, List.map_append]; rfl, by rw [List.length_append, hlen]; rfl, ?_⟩
      have e5 : KsV (names.take (i + 1)) C = KsV (names.take i) C ++ [(.inr z, C z)] := by
        have : names.take (i + 1) = names.take i ++ [z] := by
          rw [List.take_add_one, hz]
          rfl
        unfold KsV
        rw [this, List.map_append]
        rfl
      rw [e5]
      refine Paired.snoc (paired_imp (fun a x z => tk _ _ z) hp) ?_
      rw [upd_ne n4.symm, upd_same]
      rfl
  · obtain ⟨e2, as, ha, hlen, hp⟩ := p
    rw [List.length_map, List.take_length] at hp
    refine ⟨Dl, as, KsV names C, rfl, sq_of ha, paired_imp (fun a x z => st_of z) hp, fun d hd => ?_⟩
    rw [merge_new _ [] (by rw [List.nil_append]; exact ks_nd nd), List.nil_append]
    exact q d _ (fresh_back e1 (fresh_back e2 hd)) (e1.trans (e2.trans (Ex.new hd))) upd_same
theorem t_rows {K : PySem.W.Frag} {σ : L2.St} {H : Hp} {tl te2 : TE} {j : Nat} {vs : List Nat} {pw : Addr} {names : List Str} {Q : VK} (C : Str → V)
    (htl : Ev tl σ H (.ref pw)) (hw : H pw = some (.lst (names.map V.str))) (nd : names.Nodup) (hl : names.length ≤ 1000)
    (hj : ∀ x, ((wipe σ vs).set j (some x))[j]? = some (some x)) (hwp : ∀ x, wipe ((wipe σ vs).set j (some x)) vs = wipe σ vs)
    (he : ∀ x ∈ names, Ev te2 ((wipe σ vs).set j (some (.str x))) H (C x)) (q : ∀ d H2, H d = none → Ex H H2 → H2 d = some (.dK (KsV names C)) → Q (.ref d) H2) :
    tCB (rDictP K) (tCons (tLc (iList K tl) (gName j) tYes (tTup (tCons (tVar j) (tCons te2 tNil))) vs) tNil) σ H Q := ek_rows C htl hw nd hl hj hwp he H (Ex.refl _) Q q
theorem tk_dk {a : Addr} {H : Hp} {kvs : List (Key × V)} {o : HO} (h : H a = some (.dK kvs)) : TK H (upd H a o) := fun b x z => by rw [upd_ne (fun e => by rw [e, h] at z; cases z)]; exact z
/-! what a call may have changed -/
def KN (S : List Addr) (H H' : Hp) : Prop := ∀ b o, b ∉ S → H b = some o → H' b = some o
theorem KN.trans {S : List Addr} {H H1 H2 : Hp} (h : KN S H H1) (k : KN S H1 H2) : KN S H H2 := fun b o n g => k b o n (h b o n g)
theorem kn_ex {S : List Addr} {H H' : Hp} (e : Ex H H') : KN S H H' := fun b o _ g => e _ _ g
theorem KN.upd {S : List Addr} {H : Hp} {b : Addr} {o : HO} (h : b ∈ S) : KN S H (upd H b o) := fun c u n g => by rw [upd_ne (fun z => n (by rw [z]; exact h))]; exact g
/-- a log grows by an entry -/
theorem TL.more {H H' : Hp} {p a : Addr} {ts : List (List V)} {t lv : List V} (h : TL H p ts) (hv : H p = some (.lst lv)) (k : KN [p] H H') (h' : H' p = some (.lst (lv ++ [.ref a]))) (ha : H' a = some (.tup t)) : TL H' p (ts ++ [t]) := by
  obtain ⟨as, h1, h2⟩ := h
  rw [hv] at h1
  cases h1
  refine ⟨as ++ [a], by rw [h', List.map_append]; rfl, Paired.snoc (paired_imp (fun b u z => k _ _ (fun y => ?_) z) h2) ha⟩
  rw [List.mem_singleton.mp y, hv] at z
  cases z
theorem uniq_flat {α : Type} {g : α → List Str} {y : Str} : ∀ {es : List α} {i j : Nat} {a b : α}, (es.flatMap g).Nodup → es[i]? = some a → es[j]? = some b → y ∈ g a → y ∈ g b → i = j
  | [], i, _, _, _, _, h, _, _, _ => by simp at h
  | e :: es, i, j, a, b, nd, h1, h2, m1, m2 => by
    rw [List.flatMap_cons] at nd
    obtain ⟨n1, n2, n3⟩ := List.nodup_append.mp nd
    cases i with
    | zero => cases j with
      | zero => rfl
      | succ j =>
        have ea : e = a := by simpa using h1
        subst ea
        have h2 : es[j]? = some b := by simpa using h2
        exact absurd rfl (n3 y m1 y (List.mem_flatMap.mpr ⟨b, List.mem_of_getElem? h2, m2⟩))
    | succ i => cases j with
      | zero =>
        have ea : e = b := by simpa using h2
        subst ea
        have h1 : es[i]? = some a := by simpa using h1
        exact absurd rfl (n3 y m2 y (List.mem_flatMap.mpr ⟨a, List.mem_of_getElem? h1, m1⟩))
      | succ j => exact congrArg (· + 1) (uniq_flat n2 (show es[i]? = some a by simpa using h1) (show es[j]? = some b by simpa using h2) m1 m2)
theorem AtP.here {p : En → Bool} {g : En → List Str} {ws : List Str} {L : List (List En)} {H : Hp} {y : Str} {v : V} {k i : Nat} {x : Str} {es : List En} {e : En} (h : AtP p ws L H y v) (hp : ∀ e, p e = true → e.it ∈ g e) (nd : (L.flatMap fun es => es.flatMap g).Nodup) (nd2 : (es.flatMap g).Nodup)
    (hx : ws[k]? = some x) (hes : L[k]? = some es) (he : es[i]? = some e) (hy : y ∈ g e) : ∃ b, v = .ref b ∧ H b = some (.tup [.str x, .int (i : Int)]) := by
  obtain ⟨b, k', i', w, es', e', rfl, h1, h2, h3, h4, h5, h6⟩ := h
  have m : y ∈ g e' := by
    have := hp e' h4
    rw [h5] at this
    exact this
  have kk : k' = k := uniq_flat (g := fun es : List En => es.flatMap g) nd h2 hes (List.mem_flatMap.mpr ⟨e', List.mem_of_getElem? h3, m⟩) (List.mem_flatMap.mpr ⟨e, List.mem_of_getElem? he, hy⟩)
  subst kk
  rw [hes] at h2
  cases h2
  rw [hx] at h1
  cases h1
  have ii := uniq_flat nd2 h3 he m hy
  subst ii
  exact ⟨b, rfl, h6⟩
theorem En.it_pu : ∀ e : En, e.isPu = true → e.it ∈ e.pu := fun e h => by cases e <;> first | (cases h; done) | simp [En.it, En.pu]
theorem En.it_re : ∀ e : En, e.isRe = true → e.it ∈ e.re := fun e h => by cases e <;> first | (cases h; done) | simp [En.it, En.re]
theorem nd_flat {g : En → List Str} {L : List (List En)} {es : List En} (h : (L.flatMap fun es => es.flatMap g).Nodup) (hm : es ∈ L) : (es.flatMap g).Nodup := by
  obtain ⟨l1, l2, rfl⟩ := List.append_of_mem hm
  rw [List.flatMap_append, List.flatMap_cons] at h
  exact (List.nodup_append.mp (List.nodup_append.mp h).2.1).1
theorem eqs_at {H : Hp} {b1 b2 : Addr} {w : Str} {i : Int} (h1 : H b1 = some (.tup [.str w, .int i])) (h2 : H b2 = some (.tup [.str w, .int i])) (n : Nat) : EqS H (n + 1) (.ref b1) (.ref b2) :=
  Or.inr ⟨_, _, _, _, rfl, rfl, Or.inr ⟨Or.inl h1, Or.inl h2⟩, rfl, (by show 2 < 40000; decide), fun j x y hx hy => by
    rw [hx] at hy
    cases hy
    rcases j with _ | _ | j
    · cases (Option.some.inj hx)
      exact eqs_atom rfl n
    · cases (Option.some.inj hx)
      exact eqs_atom rfl n
    · simp at hx⟩
theorem AtP.eqs {p : En → Bool} {g : En → List Str} {ws : List Str} {L : List (List En)} {H : Hp} {y : Str} {v1 v2 : V} (h1 : AtP p ws L H y v1) (h2 : AtP p ws L H y v2) (hp : ∀ e, p e = true → e.it ∈ g e) (nd : (L.flatMap fun es => es.flatMap g).Nodup) (n : Nat) : EqS H (n + 1) v1 v2 := by
  obtain ⟨b, k, i, w, es, e, rfl, c1, c2, c3, c4, c5, c6⟩ := h1
  obtain ⟨b2, rfl, c7⟩ := h2.here hp nd (nd_flat nd (List.mem_of_getElem? c2)) c1 c2 c3 (by rw [← c5]; exact hp e c4)
  exact eqs_at c6 c7 n
theorem AtP.mem {p : En → Bool} {g : En → List Str} {ws : List Str} {L : List (List En)} {H : Hp} {y : Str} {v : V} (h : AtP p ws L H y v) (hp : ∀ e, p e = true → e.it ∈ g e) : y ∈ L.flatMap fun es => es.flatMap g := by
  obtain ⟨b, k, i, w, es, e, rfl, c1, c2, c3, c4, c5, c6⟩ := h
  exact List.mem_flatMap.mpr ⟨es, List.mem_of_getElem? c2, List.mem_flatMap.mpr ⟨e, List.mem_of_getElem? c3, by rw [← c5]; exact hp e c4⟩⟩
theorem dk_ksv : ∀ {ws : List Str} {ps : List Addr}, ps.length = ws.length → ws.Nodup → Dk ws ps = KsV ws fun x => valO (Dk ws ps) x := fun {ws ps} hl nd => by
  refine List.ext_getElem? fun k => ?_
  by_cases c : k < ws.length
  · have h1 := List.getElem?_eq_getElem c
    have h2 := List.getElem?_eq_getElem (show k < ps.length by omega)
    unfold KsV
    rw [List.getElem?_map, h1]
    have hv := dk_get nd h1 h2
    have : valO (Dk ws ps) ws[k] = .ref ps[k] := by unfold valO; rw [hv]; rfl
    show _ = some ((.inr ws[k] : Key), valO (Dk ws ps) ws[k])
    rw [this]
    have hz : (ws.zip ps)[k]? = some (ws[k], ps[k]) := by
      rw [List.getElem?_zip_eq_some]
      exact ⟨h1, h2⟩
    unfold Dk
    rw [List.getElem?_map, hz]
    rfl
  · rw [List.getElem?_eq_none (by rw [dk_len hl]; omega), List.getElem?_eq_none (by rw [ks_len]; omega)]
theorem dk_valO {ws : List Str} {ps : List Addr} {k : Nat} {x : Str} {p : Addr} (nd : ws.Nodup) (h1 : ws[k]? = some x) (h2 : ps[k]? = some p) : valO (Dk ws ps) x = .ref p := by
  unfold valO
  rw [dk_get nd h1 h2]
  rfl
theorem Vlog.pn {top : Nat} {ws : List Str} {L : List (List En)} (v : Vlog top ws L) {y : Str} (h : y ∈ L.flatMap pus) : IsNm y := by
  obtain ⟨es, h1, h2⟩ := List.mem_flatMap.mp h
  exact (v.ent es h1).2 _ (mem_pus.mp h2)
theorem HL.kn {S : List Addr} {d : Addr} {H H' : Hp} {ws : List Str} {ps : List Addr} {L : List (List En)} (h : HL H d ws ps L) (k : KN S H H') (hd : d ∉ S) (hp : ∀ b xs, H b = some (.lst xs) → b ∉ S) (ht : ∀ t xs, H t = some (.tup xs) → t ∉ S) : HL H' d ws ps L :=
  ⟨k _ _ hd h.dk, h.pl, fun i p es h1 h2 => by
    obtain ⟨as, g1, g2⟩ := h.lg i p es h1 h2
    exact ⟨as, k _ _ (hp _ _ g1) g1, paired_imp (fun a t z => k _ _ (ht _ _ z) z) g2⟩⟩
/-! what the five functions return, as dicts -/
def PushD (H : Hp) (f : Addr) (ws : List Str) (L : List (List En)) : Prop := ∃ (ns : List Str) (val : Str → V), H f = some (.dK (KsV ns val)) ∧ ns.Perm (L.flatMap pus) ∧ sortedS ns = true ∧ ∀ y ∈ ns, AtP En.isPu ws L H y (val y)
def RemD (H : Hp) (f : Addr) (ws : List Str) (L : List (List En)) : Prop := ∃ (ns : List Str) (val : Str → V), H f = some (.dK (KsV ns val)) ∧ ns.Perm (L.flatMap pus) ∧ sortedS ns = true ∧ ∀ y ∈ ns, (¬ y ∈ L.flatMap res ∧ val y = .non) ∨ AtP En.isRe ws L H y (val y)
def ListD (F : List (List En) → List En → List Str) (S : List Addr) (H : Hp) (f : Addr) (ws : List Str) (L : List (List En)) : Prop := ∃ (ns : List Str) (val : Str → V), H f = some (.dK (KsV ns val)) ∧ ns.Perm ws ∧ sortedS ns = true ∧ ∀ (k : Nat) x es, ws[k]? = some x → L[k]? = some es → ∃ r, val x = .ref r ∧ r ∉ S ∧ H r = some (.lst ((F L es).map V.str))
def Told (S : List Addr) (H : Hp) (p : Addr) (ws : List Str) (L : List (List En)) (es : List En) : Prop := ∃ (a1 a2 a3 a4 a5 : Addr), H p = some (.lst [.ref a1, .ref a2, .ref a3, .ref a4, .ref a5]) ∧ p ∉ S ∧ PushD H a1 ws L ∧ RemD H a2 ws L ∧ ListD leftOf S H a3 ws L ∧ (a4 ∉ S ∧ H a4 = some (.lst ((opn es).map V.str))) ∧ ListD stolenOf S H a5 ws L ∧ (a1 ∉ S ∧ a2 ∉ S ∧ a3 ∉ S ∧ a5 ∉ S)
section
variable {S S' : List Addr} {H H' : Hp} {f g p q : Addr} {ws : List Str} {L : List (List En)} {es : List En} {F : List (List En) → List En → List Str}
theorem PushD.kn (h : PushD H f ws L) (k : KN S H H') (hf : f ∉ S) (ht : ∀ t xs, H t = some (.tup xs) → t ∉ S) : PushD H' f ws L := by
  obtain ⟨ns, val, h1, h2, h3, h4⟩ := h
  exact ⟨ns, val, k _ _ hf h1, h2, h3, fun y hy => (h4 y hy).tk fun b x z => k _ _ (ht _ _ z) z⟩
theorem RemD.kn (h : RemD H f ws L) (k : KN S H H') (hf : f ∉ S) (ht : ∀ t xs, H t = some (.tup xs) → t ∉ S) : RemD H' f ws L := by
  obtain ⟨ns, val, h1, h2, h3, h4⟩ := h
  exact ⟨ns, val, k _ _ hf h1, h2, h3, fun y hy => (h4 y hy).imp id fun z => z.tk fun b x z => k _ _ (ht _ _ z) z⟩
theorem ListD.kn (h : ListD F S H f ws L) (k : KN S H H') (hf : f ∉ S) : ListD F S H' f ws L := by
  obtain ⟨ns, val, h1, h2, h3, h4⟩ := h
  refine ⟨ns, val, k _ _ hf h1, h2, h3, fun i x es g1 g2 => ?_⟩
  obtain ⟨r, a, n, b⟩ := h4 i x es g1 g2
  exact ⟨r, a, n, k _ _ n b⟩
theorem ListD.sub (h : ListD F S H f ws L) (hs : ∀ s ∈ S', s ∈ S) : ListD F S' H f ws L := by
  obtain ⟨ns, val, h1, h2, h3, h4⟩ := h
  refine ⟨ns, val, h1, h2, h3, fun i x es g1 g2 => ?_⟩
  obtain ⟨r, a, n, b⟩ := h4 i x es g1 g2
  exact ⟨r, a, fun z => n (hs _ z), b⟩
theorem Told.kn (h : Told S H p ws L es) (k : KN S H H') (ht : ∀ t xs, H t = some (.tup xs) → t ∉ S) : Told S H' p ws L es := by
  obtain ⟨a1, a2, a3, a4, a5, h0, hp, h1, h2, h3, ⟨n4, h4⟩, h5, m1, m2, m3, m5⟩ := h
  exact ⟨a1, a2, a3, a4, a5, k _ _ hp h0, hp, h1.kn k m1 ht, h2.kn k m2 ht, h3.kn k m3, ⟨n4, k _ _ n4 h4⟩, h5.kn k m5, m1, m2, m3, m5⟩
theorem Told.sub (h : Told S H p ws L es) (hs : ∀ s ∈ S', s ∈ S) : Told S' H p ws L es := by
  obtain ⟨a1, a2, a3, a4, a5, h0, hp, h1, h2, h3, ⟨n4, h4⟩, h5, m1, m2, m3, m5⟩ := h
  exact ⟨a1, a2, a3, a4, a5, h0, fun z => hp (hs _ z), h1, h2, h3.sub hs, ⟨fun z => n4 (hs _ z), h4⟩, h5.sub hs, fun z => m1 (hs _ z), fun z => m2 (hs _ z), fun z => m3 (hs _ z), fun z => m5 (hs _ z)⟩
theorem PushD.ex (h : PushD H f ws L) (e : Ex H H') : PushD H' f ws L := h.kn (S := []) (kn_ex e) (fun z => nomatch z) (fun _ _ _ z => nomatch z)
theorem RemD.ex (h : RemD H f ws L) (e : Ex H H') : RemD H' f ws L := h.kn (S := []) (kn_ex e) (fun z => nomatch z) (fun _ _ _ z => nomatch z)
theorem ListD.ex (h : ListD F S H f ws L) (e : Ex H H') : ListD F S H' f ws L := by
  obtain ⟨ns, val, h1, h2, h3, h4⟩ := h
  refine ⟨ns, val, e _ _ h1, h2, h3, fun i x es g1 g2 => ?_⟩
  obtain ⟨r, a, n, b⟩ := h4 i x es g1 g2
  exact ⟨r, a, n, e _ _ b⟩
theorem Told.ex (h : Told S H p ws L es) (e : Ex H H') : Told S H' p ws L es := by
  obtain ⟨a1, a2, a3, a4, a5, h0, hp, h1, h2, h3, ⟨n4, h4⟩, h5, m⟩ := h
  exact ⟨a1, a2, a3, a4, a5, e _ _ h0, hp, h1.ex e, h2.ex e, h3.ex e, ⟨n4, e _ _ h4⟩, h5.ex e, m⟩
theorem pus360 (v : Vlog 60 ws L) {ns : List Str} (h : ns.Perm (L.flatMap pus)) : ns.Nodup ∧ ns.length ≤ 360 :=
  ⟨h.nodup_iff.mpr v.pu, by rw [h.length_eq]; exact flat_le pus_len (v.ok (Nat.le_refl _))⟩
theorem eq_pushD (v : Vlog 60 ws L) (h : PushD H f ws L) (h' : PushD H g ws L) (n : Nat) : EqH H (n + 2) (.ref f) (.ref g) := by
  obtain ⟨ns, val, h1, h2, h3, h4⟩ := h
  obtain ⟨ns', val', g1, g2, g3, g4⟩ := h'
  have e := sorted_one (h2.trans g2.symm) h3 g3
  subst e
  obtain ⟨nd, nl⟩ := pus360 v h2
  exact Or.inr (Or.inr ⟨_, _, _, _, _, rfl, rfl, h1, g1, nd, by omega, by omega, fun z hz => (h4 z hz).eqs (g4 z hz) En.it_pu v.pu n⟩)
theorem eq_remD (v : Vlog 60 ws L) (h : RemD H f ws L) (h' : RemD H g ws L) (n : Nat) : EqH H (n + 2) (.ref f) (.ref g) := by
  obtain ⟨ns, val, h1, h2, h3, h4⟩ := h
  obtain ⟨ns', val', g1, g2, g3, g4⟩ := h'
  have e := sorted_one (h2.trans g2.symm) h3 g3
  subst e
  obtain ⟨nd, nl⟩ := pus360 v h2
  refine Or.inr (Or.inr ⟨_, _, _, _, _, rfl, rfl, h1, g1, nd, by omega, by omega, fun z hz => ?_⟩)
  rcases h4 z hz with ⟨a1, a2⟩ | a1 <;> rcases g4 z hz with ⟨b1, b2⟩ | b1
  · rw [a2, b2]
    exact eqs_atom rfl _
  · exact absurd (b1.mem En.it_re) a1
  · exact absurd (a1.mem En.it_re) b1
  · exact a1.eqs b1 En.it_re v.re n
theorem eq_listD (v : Vlog 60 ws L) (hF : ∀ es, (F L es).length ≤ (pus es).length) (h : ListD F S H f ws L) (h' : ListD F S' H g ws L) (n : Nat) : EqH H (n + 2) (.ref f) (.ref g) := by
  obtain ⟨ns, val, h1, h2, h3, h4⟩ := h
  obtain ⟨ns', val', g1, g2, g3, g4⟩ := h'
  have e := sorted_one (h2.trans g2.symm) h3 g3
  subst e
  refine Or.inr (Or.inr ⟨_, _, _, _, _, rfl, rfl, h1, g1, h2.nodup_iff.mpr v.wk.2.2.1, by rw [h2.length_eq]; have := v.wk.2.1; omega, by omega, fun z hz => ?_⟩)
  obtain ⟨k, hk⟩ := List.mem_iff_getElem?.mp (h2.mem_iff.mp hz)
  obtain ⟨es, hes⟩ : ∃ es, L[k]? = some es := ⟨_, List.getElem?_eq_getElem (by rw [v.len]; exact (List.getElem?_eq_some_iff.mp hk).1)⟩
  obtain ⟨r, a1, _, a2⟩ := h4 k z _ hk hes
  obtain ⟨r', b1, _, b2⟩ := g4 k z _ hk hes
  rw [a1, b1]
  refine eqs_strs (Or.inl a2) (Or.inl b2) ?_ (by omega)
  have q1 := hF es
  have q2 := pus_len es
  have q3 := (v.ent _ (List.mem_of_getElem? hes)).1
  omega
theorem left_le (L : List (List En)) (es : List En) : (leftOf L es).length ≤ (pus es).length := List.length_filter_le _ _
theorem stolen_le (L : List (List En)) (es : List En) : (stolenOf L es).length ≤ (pus es).length := List.length_filter_le _ _
theorem eq_five {x1 x2 x3 x4 x5 y1 y2 y3 y4 y5 : V} {n : Nat} (h1 : H p = some (.lst [x1, x2, x3, x4, x5])) (h2 : H q = some (.lst [y1, y2, y3, y4, y5])) (a : EqH H n x1 y1) (b : EqH H n x2 y2) (c : EqH H n x3 y3) (d : EqH H n x4 y4) (e : EqH H n x5 y5) : EqH H (n + 1) (.ref p) (.ref q) :=
  Or.inr (Or.inl ⟨_, _, _, _, rfl, rfl, Or.inl ⟨Or.inl h1, Or.inl h2⟩, rfl, (by show 5 < 40000; decide), fun i u v hu hv => by
    rcases i with _ | _ | _ | _ | _ | i
    · cases (Option.some.inj hu); cases (Option.some.inj hv); exact a
    · cases (Option.some.inj hu); cases (Option.some.inj hv); exact b
    · cases (Option.some.inj hu); cases (Option.some.inj hv); exact c
    · cases (Option.some.inj hu); cases (Option.some.inj hv); exact d
    · cases (Option.some.inj hu); cases (Option.some.inj hv); exact e
    · simp at hu⟩)
theorem eq_told (v : Vlog 60 ws L) (hl : es.length ≤ 60) (h : Told S H p ws L es) (h' : Told S' H q ws L es) : EqH H 6 (.ref p) (.ref q) := by
  obtain ⟨a1, a2, a3, a4, a5, h0, hp, h1, h2, h3, ⟨n4, h4⟩, h5, _⟩ := h
  obtain ⟨b1, b2, b3, b4, b5, g0, gp, g1, g2, g3, ⟨m4, g4⟩, g5, _⟩ := h'
  exact eq_five h0 g0 (eq_pushD v h1 g1 3) (eq_remD v h2 g2 3) (eq_listD v (left_le L) h3 g3 3) (eqs_strs (Or.inl h4) (Or.inl g4) (by have := opn_len es; omega) (by omega)).h (eq_listD v (stolen_le L) h5 g5 3)
end
/-! one entry more -/
section
variable {top k : Nat} {ws : List Str} {L : List (List En)} {es : List En} {e : En} {w : Str}
theorem more_flat {f : List En → List Str} {g : En → List Str} (hf : ∀ es e, f (es ++ [e]) = f es ++ g e) (hk : L[k]? = some es) : ((L.set k (es ++ [e])).flatMap f).Perm (L.flatMap f ++ g e) := flat_setP (List.Perm.of_eq (hf es e)) hk
theorem sts_snoc (es : List En) (e : En) : sts (es ++ [e]) = sts es ++ e.sti := by simp [sts, List.flatMap_append]
theorem AtP.more {p : En → Bool} {H : Hp} {y : Str} {v : V} (h : AtP p ws L H y v) (hk : L[k]? = some es) : AtP p ws (L.set k (es ++ [e])) H y v := by
  obtain ⟨b, k', i, w', es', e', rfl, h1, h2, h3, h4⟩ := h
  by_cases c : k = k'
  · subst c
    rw [hk] at h2
    cases h2
    exact ⟨b, k, i, w', _, e', rfl, h1, List.getElem?_set_self (List.getElem?_eq_some_iff.mp hk).1, by rw [List.getElem?_append_left (List.getElem?_eq_some_iff.mp h3).1]; exact h3, h4⟩
  · exact ⟨b, k', i, w', es', e', rfl, h1, by rw [List.getElem?_set_ne c]; exact h2, h3, h4⟩
theorem AtP.last {p : En → Bool} {H : Hp} {b : Addr} (hk : L[k]? = some es) (hw : ws[k]? = some w) (hp : p e = true) (hb : H b = some (.tup [.str w, .int (es.length : Int)])) : AtP p ws (L.set k (es ++ [e])) H e.it (.ref b) :=
  ⟨b, k, es.length, w, _, e, rfl, hw, List.getElem?_set_self (List.getElem?_eq_some_iff.mp hk).1, by simp, hp, rfl, hb⟩
theorem set_at {i : Nat} {es' : List En} (h : (L.set k (es ++ [e]))[i]? = some es') : (k = i ∧ es' = es ++ [e]) ∨ (k ≠ i ∧ L[i]? = some es') := by
  rcases set_get h with ⟨a, b⟩ | ⟨a, b⟩
  · exact Or.inl ⟨a.symm, b⟩
  · exact Or.inr ⟨fun z => a z.symm, b⟩
end
end Vx

set_option Elab.async false
set_option linter.all false
set_option maxRecDepth 100000
set_option maxHeartbeats 8000000
namespace Vx
open PySem PySem.Spec PyProof.Rows L2 Evl
section
variable {k : Nat} {ws : List Str} {L : List (List En)} {es : List En} {e : En} {w : Str}
theorem fresh_push {x : Str} (v : Vlog 60 ws L) (hk : L[k]? = some es) (v2 : Vlog 60 ws (L.set k (es ++ [.push x]))) : x ∉ L.flatMap pus := fun h => by
  have p := more_flat (f := pus) (g := En.pu) (e := .push x) pus_snoc hk
  have nd := p.nodup_iff.mp v2.pu
  exact (List.nodup_append.mp nd).2.2 x h x (by simp [En.pu]) rfl
theorem fresh_re {x : Str} (hx : e.re = [x]) (hk : L[k]? = some es) (v2 : Vlog 60 ws (L.set k (es ++ [e]))) : x ∉ L.flatMap res := fun h => by
  have p := more_flat (f := res) (g := En.re) (e := e) res_snoc hk
  have nd := p.nodup_iff.mp v2.re
  exact (List.nodup_append.mp nd).2.2 x h x (by rw [hx]; simp) rfl
/-- the log of the item that an entry removes -/
theorem owner_at {x : Str} (v : Vlog 60 ws L) (hk : L[k]? = some es) (hw : ws[k]? = some w) (v2 : Vlog 60 ws (L.set k (es ++ [e]))) (h : e = .pop x ∨ ∃ o, e = .steal o x) : ∃ (j : Nat) (o : Str) (ej : List En), ws[j]? = some o ∧ L[j]? = some ej ∧ x ∈ pus ej ∧ ((e = .pop x ∧ j = k ∧ o = w) ∨ (e = .steal o x ∧ j ≠ k)) := by
  have h2 : (L.set k (es ++ [e]))[k]? = some (es ++ [e]) := List.getElem?_set_self (List.getElem?_eq_some_iff.mp hk).1
  rcases h with rfl | ⟨o, rfl⟩
  · obtain ⟨j', h1, h3⟩ := v2.own k _ es.length x h2 (by simp)
    rw [List.getElem?_append_left h1] at h3
    exact ⟨k, w, es, hw, hk, mem_pus.mpr (List.mem_of_getElem? h3), Or.inl ⟨rfl, rfl, rfl⟩⟩
  · obtain ⟨n, j, ej, g1, g2, g3⟩ := v2.st k _ w o x h2 hw (by simp)
    rcases set_at g2 with ⟨rfl, rfl⟩ | ⟨c, g4⟩
    · rw [hw] at g1
      cases g1
      exact absurd rfl n
    · exact ⟨j, o, ej, g1, g4, mem_pus.mpr g3, Or.inr ⟨rfl, fun z => c z.symm⟩⟩
theorem not_in {x : Str} {i j : Nat} {ei ej : List En} (v : Vlog 60 ws L) (hi : L[i]? = some ei) (hj : L[j]? = some ej) (n : i ≠ j) (hx : x ∈ pus ej) : x ∉ pus ei := fun h => n (push_one v.pu hi hj (mem_pus.mp h) (mem_pus.mp hx))
theorem left_re {x : Str} (hx : e.re = [x]) (hk : L[k]? = some es) (es' : List En) : leftOf (L.set k (es ++ [e])) es' = (leftOf L es').filter fun y => decide (y ≠ x) := by
  refine leftOf_rem ?_
  have := more_flat (f := res) (g := En.re) (e := e) res_snoc hk
  rwa [hx] at this
theorem left_no (hx : e.re = []) (hk : L[k]? = some es) (es' : List En) : leftOf (L.set k (es ++ [e])) es' = leftOf L es' := by
  refine leftOf_same ?_
  have := more_flat (f := res) (g := En.re) (e := e) res_snoc hk
  rwa [hx, List.append_nil] at this
theorem left_snoc (L : List (List En)) (es : List En) (e : En) : leftOf L (es ++ [e]) = leftOf L es ++ (e.pu.filter fun x => decide (¬ x ∈ L.flatMap res)) := by
  unfold leftOf
  rw [pus_snoc, List.filter_append]
theorem stolen_no (hx : e.sti = []) (hk : L[k]? = some es) (es' : List En) : stolenOf (L.set k (es ++ [e])) es' = stolenOf L es' := by
  have := more_flat (f := sts) (g := En.sti) (e := e) sts_snoc hk
  rw [hx, List.append_nil] at this
  unfold stolenOf
  exact List.filter_congr fun y _ => decide_eq_decide.mpr this.mem_iff
theorem stolen_yes {x : Str} (hx : e.sti = [x]) (hk : L[k]? = some es) (es' : List En) : stolenOf (L.set k (es ++ [e])) es' = (pus es').filter fun y => decide (y ∈ stolenOf L es' ++ [x]) := by
  have := more_flat (f := sts) (g := En.sti) (e := e) sts_snoc hk
  rw [hx] at this
  unfold stolenOf
  refine List.filter_congr fun y hy => decide_eq_decide.mpr ?_
  rw [this.mem_iff, List.mem_append, List.mem_append, List.mem_filter]
  constructor
  · rintro (z | z)
    · exact Or.inl ⟨hy, decide_eq_true z⟩
    · exact Or.inr z
  · rintro (z | z)
    · exact Or.inl (of_decide_eq_true z.2)
    · exact Or.inr z
theorem stolen_snoc (L : List (List En)) (es : List En) (e : En) : stolenOf L (es ++ [e]) = stolenOf L es ++ (e.pu.filter fun x => decide (x ∈ L.flatMap sts)) := by
  unfold stolenOf
  rw [pus_snoc, List.filter_append]
theorem opn_nd {es : List En} (h : (pus es).Nodup) : (opn es).Nodup ∧ ∀ y ∈ opn es, y ∈ pus es := by
  suffices g : ∀ n, n ≤ es.length → (opn (es.take n)).Nodup ∧ ∀ y ∈ opn (es.take n), y ∈ pus (es.take n) by
    have := g es.length (Nat.le_refl _)
    rwa [List.take_length] at this
  intro n
  induction n with
  | zero => exact fun _ => ⟨List.nodup_nil, fun _ z => nomatch z⟩
  | succ n ih =>
    intro hn
    obtain ⟨a, b⟩ := ih (by omega)
    obtain ⟨e, he⟩ : ∃ e, es[n]? = some e := ⟨_, List.getElem?_eq_getElem (by omega)⟩
    have tk : es.take (n + 1) = es.take n ++ [e] := by
      rw [List.take_add_one, he]
      rfl
    have sub : (pus (es.take n ++ [e])).Nodup := by
      have : pus es = pus (es.take (n + 1)) ++ pus (es.drop (n + 1)) := by
        rw [← pus_app, List.take_append_drop]
      rw [this, tk] at h
      exact (List.nodup_append.mp h).1
    rw [tk, opn_snoc]
    rw [pus_snoc] at sub ⊢
    cases e with
    | push x =>
      refine ⟨List.nodup_append.mpr ⟨a, by simp, fun y hy z hz e => (List.nodup_append.mp sub).2.2 y (b y hy) z (by simpa [En.pu] using hz) e⟩, fun y hy => ?_⟩
      rcases List.mem_append.mp hy with hy | hy
      · exact List.mem_append_left _ (b y hy)
      · exact List.mem_append_right _ (by simpa [En.pu] using hy)
    | pop x => exact ⟨a.sublist (List.erase_sublist ..), fun y hy => List.mem_append_left _ (b y (List.mem_of_mem_erase hy))⟩
    | size m => exact ⟨a, fun y hy => List.mem_append_left _ (b y hy)⟩
    | steal o x => exact ⟨a, fun y hy => List.mem_append_left _ (b y hy)⟩
end
def updV (val : Str → V) (x : Str) (v : V) : Str → V := fun y => if y = x then v else val y
theorem updV_same {val : Str → V} {x : Str} {v : V} : updV val x v x = v := if_pos rfl
theorem updV_ne {val : Str → V} {x y : Str} {v : V} (h : y ≠ x) : updV val x v y = val y := if_neg h
theorem put_ksv_new {ns : List Str} {val : Str → V} {x : Str} {v : V} (h : x ∉ ns) : putK (KsV ns val) (.inr x) v = KsV (ns ++ [x]) (updV val x v) := by
  rw [put_new]
  · unfold KsV
    rw [List.map_append]
    congr 1
    · refine List.map_congr_left fun y hy => ?_
      rw [updV_ne (fun e => h (by rw [← e]; exact hy))]
    · show _ = [((.inr x : Key), updV val x v x)]
      rw [updV_same]
  · intro p hp e
    obtain ⟨y, hy, rfl⟩ := List.mem_map.mp hp
    exact h (by rw [← Sum.inr.inj e]; exact hy)
theorem put_ksv_old {ns : List Str} {val : Str → V} {x : Str} {v : V} (h : x ∈ ns) : putK (KsV ns val) (.inr x) v = KsV ns (updV val x v) := by
  have a : ((KsV ns val).any fun kv => decide (kv.1 = (.inr x : Key))) = true := List.any_eq_true.mpr ⟨(.inr x, val x), List.mem_map.mpr ⟨x, h, rfl⟩, by simp⟩
  unfold putK
  rw [if_pos a]
  unfold KsV
  rw [List.map_map]
  refine List.map_congr_left fun y hy => ?_
  by_cases c : y = x
  · subst c
    show (if (.inr y : Key) = .inr y then ((.inr y : Key), v) else (.inr y, val y)) = (.inr y, updV val y v y)
    rw [if_pos rfl, updV_same]
  · show (if (.inr y : Key) = .inr x then ((.inr y : Key), v) else (.inr y, val y)) = (.inr y, updV val x v y)
    rw [if_neg (fun e => c (Sum.inr.inj e)), updV_ne c]
def spSorted : Sp := fun vs H Q _ => ∃ (a : Addr) (ks : List Str) (C : Str → V), vs = [.ref a] ∧ H a = some (.dK (KsV ks C)) ∧ ks.Nodup ∧ ks.length ≤ 1000 ∧ ∀ f ys H', H f = none → Ex H H' → ys.Perm ks → sortedS ys = true → H' f = some (.dK (KsV ys C)) → Q (.ref f) H'
section
variable {P : Program} {w : World} {K : PySem.W.Frag} {mg : Str → Option Value} {base : Heap}
theorem sc_law_sorted : FnScope ["some", "one"] ["some"] (defScope s_law_sorted) := ⟨rfl, rfl, rfl, by decide +kernel, rfl, by decide +kernel, by decide +kernel⟩
theorem ok_law_sorted (D : Def K mg "_law_sorted" s_law_sorted ["some"]) (T : Bl mg) : Good P w K mg base 1 "_law_sorted" ["some"] (spSorted) := by
  refine D.good sc_law_sorted (fun vs H Q E h => ?_) (fun f cdv A outer s H vs Q E hr h => ?_)
  · obtain ⟨a, ks, C, rfl, _⟩ := h
    rfl
  · obtain ⟨a, ks, C, rfl, ha, nd, hz, q⟩ := h
    have hu := hu_of hr
    refine ⟨_, (pss_one (ps_ret (pe_callTy (hc := call_dictP rfl) (hg := rfl) (hm := T.dict) (hv := by decide +kernel) (ha := pa_cons (pe_lc (own := [("one", 1)]) (g := (gName 1)) (tt := tYes) rfl sc_law_sorted.nd (x_pil (K := K) (pe_callB (call_sortDk rfl) (by rfl) T.sorted (by decide +kernel) (pa_cons (pv 0) pa_nil))) (blkOk_by (N := ["some", "one"]) (sc := (defScope s_law_sorted)) (by decide +kernel)) (fun _ _ _ _ _ => (pg_name (i := 1) sc_law_sorted.nd rfl (Or.inl rfl))) (fun _ _ _ _ _ => pts_nil) (fun _ _ _ _ _ => (pe_tup (pa_cons (pv 1) (pa_cons (pe_dget hu (pv 0) (pv 1) (fun _ _ => rfl)) pa_nil))))) pa_nil)))), ?_⟩
    refine ⟨_, rfl, a, _, ks, rfl, Or.inl ha, ks_key _ _, hz, fun ys p0 hpm hsy n0 => ?_⟩
    have e5 : Ex H (upd H p0 (.lst (ys.map V.str))) := Ex.new n0
    have h5 : (upd H p0 (.lst (ys.map V.str))) p0 = some (.lst (ys.map V.str)) := upd_same
    generalize upd H p0 (.lst (ys.map V.str)) = H5 at e5 h5 ⊢
    refine t_rows (K := K) (tl := tC (.ref p0)) (σ := [some (.ref a), none]) (j := 1) (vs := [1]) C ev_c h5 (hpm.nodup_iff.mpr nd) (by rw [hpm.length_eq]; exact hz) (fun _ => rfl) (fun _ => rfl) (fun y hy => ?_) fun d H6 n6 e6 h6 => q d ys H6 (fresh_back e5 n6) (e5.trans e6) hpm hsy h6
    exact ev_dget (ev_var rfl) (ev_var rfl) (e5 _ _ ha) (ks_get (f := C) nd (hpm.mem_iff.mp hy))
end
end Vx

set_option Elab.async false
set_option linter.all false
set_option maxRecDepth 100000
set_option maxHeartbeats 8000000
namespace Vx
open PySem PySem.Spec PyProof.Rows L2 Evl
theorem HL.put1 {d : Addr} {H H' : Hp} {ws : List Str} {ps : List Addr} {L : List (List En)} {k : Nat} {pk : Addr} {es' : List En} {lv : List V} (h : HL H d ws ps L) (nd : ps.Nodup) (hk : ps[k]? = some pk) (hv : H pk = some (.lst lv)) (kn : KN [pk] H H') (tl : TL H' pk (es'.map En.vs)) : HL H' d ws ps (L.set k es') := by
  have tn : ∀ {b : Addr} {o : HO}, H b = some o → o ≠ .lst lv → H' b = some o := fun g n => kn _ _ (fun z => by
    rw [List.mem_singleton.mp z, hv] at g
    exact n (Option.some.inj g).symm) g
  refine ⟨tn h.dk (fun z => by cases z), h.pl, fun i p es2 h1 h2 => ?_⟩
  rcases set_get h2 with ⟨rfl, rfl⟩ | ⟨ne, h3⟩
  · rw [hk] at h1
    cases h1
    exact tl
  · obtain ⟨as, g1, g2⟩ := h.lg i p es2 h1 h3
    refine ⟨as, kn _ _ (fun z => ne ?_) g1, paired_imp (fun a t z => tn z (fun y => by cases y)) g2⟩
    rw [List.mem_singleton.mp z] at h1
    exact (List.getElem?_inj (List.getElem?_eq_some_iff.mp h1).1 nd).mp (h1.trans hk.symm)
theorem q_popE {K : PySem.W.Frag} {ta : TE} {tz : TS} {D : Ends} {σ : L2.St} {H : Hp} {l : Addr} {xs : List V} {y : V} (hl : H l = some (.lst (xs ++ [y]))) (ha : Ev ta σ H (.ref l)) (k : ∀ H1, Ex H H1 → tz D σ (upd H1 l (.lst xs))) : tSeq (tDrop (tBM0 K "list" rPop ta)) tz D σ H := ha H (Ex.refl H) _ fun H1 e1 =>
  ⟨Or.inl ⟨rfl, _, sq_of (e1 l _ hl)⟩, l, _, y, rfl, rfl, e1 l _ hl, by simp, by
    rw [List.dropLast_concat]
    exact k H1 e1⟩
def lgOf (ws : List Str) (L : List (List En)) (x : Str) : List En := L.getD (ws.idxOf x) []
theorem lgOf_at {ws : List Str} {L : List (List En)} {k : Nat} {x : Str} {es : List En} (nd : ws.Nodup) (h1 : ws[k]? = some x) (h2 : L[k]? = some es) : lgOf ws L x = es := by
  obtain ⟨hk, e⟩ := List.getElem?_eq_some_iff.mp h1
  have : ws.idxOf x = k := by
    rw [← e]
    exact nd.idxOf_getElem k hk
  unfold lgOf
  rw [this, List.getD_eq_getElem?_getD, h2]
  rfl
theorem lgOf_map {ws : List Str} {L : List (List En)} (nd : ws.Nodup) (hl : L.length = ws.length) : ws.map (lgOf ws L) = L := by
  refine List.ext_getElem? fun k => ?_
  rw [List.getElem?_map]
  by_cases c : k < ws.length
  · have h1 := List.getElem?_eq_getElem c
    have h2 := List.getElem?_eq_getElem (show k < L.length by omega)
    rw [h1, h2]
    exact congrArg some (lgOf_at nd h1 h2)
  · rw [List.getElem?_eq_none (by omega), List.getElem?_eq_none (by omega)]
    rfl
/-- what left_items says, as a dict over names -/
theorem left_val {S : List Addr} {H : Hp} {ws : List Str} {ps qs : List Addr} {L : List (List En)} {zs : List Lg} (v : Vlog 60 ws L) (pl : ps.length = ws.length) (hz : zs.Perm (lgs ws ps L)) (ql : qs.length = zs.length) (qn : ∀ r ∈ qs, r ∉ S) (hv : ∀ (i : Nat) z r, zs[i]? = some z → qs[i]? = some r → H r = some (.lst ((leftOf L z.2.2).map V.str))) :
    (zs.map (·.1)).Perm ws ∧ Dk (zs.map (·.1)) qs = KsV (zs.map (·.1)) (fun x => valO (Dk (zs.map (·.1)) qs) x) ∧ ∀ (k : Nat) x es, ws[k]? = some x → L[k]? = some es → ∃ r, valO (Dk (zs.map (·.1)) qs) x = .ref r ∧ r ∉ S ∧ H r = some (.lst ((leftOf L es).map V.str)) := by
  have np : (zs.map (·.1)).Perm ws := by
    have := hz.map (·.1)
    rw [lgs_names pl v.len] at this
    exact this
  have nd : (zs.map (·.1)).Nodup := np.nodup_iff.mpr v.wk.2.2.1
  refine ⟨np, dk_ksv (by rw [List.length_map]; exact ql) nd, fun k x es h1 h2 => ?_⟩
  obtain ⟨p, h3⟩ : ∃ p, ps[k]? = some p := ⟨_, List.getElem?_eq_getElem (by rw [pl]; exact (List.getElem?_eq_some_iff.mp h1).1)⟩
  obtain ⟨i, hi⟩ := List.mem_iff_getElem?.mp (hz.mem_iff.mpr (lgs_mem h1 h3 h2))
  have hr := List.getElem?_eq_getElem (show i < qs.length by rw [ql]; exact (List.getElem?_eq_some_iff.mp hi).1)
  exact ⟨_, dk_valO nd (by rw [List.getElem?_map, hi]; rfl) hr, qn _ (List.mem_of_getElem? hr), hv i _ _ hi hr⟩
theorem q_asgCB {tz : TS} {D : Ends} {σ : L2.St} {H : Hp} {i : Nat} {te : TE} (h : te σ H fun v H1 => tz D (σ.set i (some v)) H1) : tSeq (tAsg te (gName i)) tz D σ H := h
theorem el_stolen {σ : L2.St} {H : Hp} {i : Nat} {d1 : Addr} {ws1 : List Str} {ps1 : List Addr} {M1 : List (List En)} {tn : TE} {x : Str} {k : Nat} {es : List En} (h0 : σ[i]? = some (some (.ref d1))) (hn : Ev tn σ H (.str x)) (hl : HLr H d1 ws1 ps1 M1) (v : Vlog 60 ws1 M1) (hk : ws1[k]? = some x) (hes : M1[k]? = some es) : EvL (tCall spStolen [] E0 (tCons (tVar i) (tCons tn tNil))) σ H ((stolenOf M1 es).map V.str) :=
  el_call (vs := [.ref d1, .str x]) (ea_cons (ev_var h0) (ea_cons hn ea_nil)) fun H1 e1 Q1 q1 E1 => ⟨d1, ws1, ps1, M1, k, x, es, rfl, hl.ex e1, v, hk, hes, fun r H2 n2 e2 h2 => q1 r H2 n2 e2 h2⟩
theorem Vlog.snocSize {ws : List Str} {L : List (List En)} {k : Nat} {es : List En} {n : Int} (v : Vlog 60 ws L) (hes : L[k]? = some es) (hl : es.length < 60) (h : 0 ≤ n ∧ n ≤ 60) : Vlog 60 ws (L.set k (es ++ [.size n])) :=
  v.app hes hl h (by rw [show (En.size n).pu = [] from rfl, List.append_nil]; exact v.pu) (by rw [show (En.size n).re = [] from rfl, List.append_nil]; exact v.re) (fun _ z => nomatch z) (fun _ _ _ _ z => nomatch z)
def spTold : Sp := fun vs H Q _ => ∃ (d : Addr) (ws : List Str) (ps : List Addr) (L : List (List En)) (k : Nat) (x : Str) (es : List En), vs = [.ref d, .str x] ∧ HL H d ws ps L ∧ ps.Nodup ∧ Vlog 60 ws L ∧ ws[k]? = some x ∧ L[k]? = some es ∧ es.length ≤ 59 ∧
  ∀ p H', H p = none → Ex H H' → (∀ S, (∀ r, H r = none → r ∉ S) → Told S H' p ws L es) → Q (.ref p) H'
section
variable {P : Program} {w : World} {K : PySem.W.Frag} {mg : Str → Option Value} {base : Heap}
theorem sc_law_told : FnScope ["rows", "name", "present", "stolen", "other"] ["rows", "name"] (defScope s_law_told) := ⟨rfl, rfl, rfl, by decide +kernel, rfl, by decide +kernel, by decide +kernel⟩
theorem ok_law_told (D : Def K mg "_law_told" s_law_told ["rows", "name"]) (T : Bl mg) (G_pushes : Good P w K mg base 7 "pushes" ["logs"] spPushes) (G_removals : Good P w K mg base 7 "removals" ["logs"] spRemovals) (G_left_items : Good P w K mg base 7 "left_items" ["logs"] spLeft) (G_stolen_items : Good P w K mg base 7 "stolen_items" ["logs", "worker"] spStolen) (G_open_items : Good P w K mg base 7 "open_items" ["logs", "worker", "index"] spOpen) : Good P w K mg base 8 "_law_told" ["rows", "name"] (spTold) := by
  refine D.good sc_law_told (fun vs H Q E h => ?_) (fun f cdv A outer s H vs Q E hr h => ?_)
  · obtain ⟨d, ws, ps, L, k, x, es, rfl, _⟩ := h
    rfl
  · obtain ⟨d, ws, ps, L, k, x, es, rfl, hl, pnd, v, hk, hes, h59, q⟩ := h
    have hu := hu_of hr
    refine ⟨_, (pss_cons (ps_expr (x_bm (K := K) PySem.F.plainAttrs_list PySem.F.slot_list_append PySem.F.type_list_append mt_append (pe_dget hu (pv 0) (pv 1) (fun _ _ => rfl)) (pa_cons (pe_tup (pa_cons pe_str (pa_cons pe_int pa_nil))) pa_nil)))
      (pss_cons (ps_set (i := 2) sc_law_told.nd rfl (Or.inl rfl) (pe_fn (G_open_items.mono (by decide)) hr (pa_cons (pv 0) (pa_cons (pv 1) (pa_cons (pe_op op_sub (x_len (K := K) T (pe_dget hu (pv 0) (pv 1) (fun _ _ => rfl))) pe_int) pa_nil)))))
      (pss_cons (ps_expr (x_bm0 (K := K) PySem.F.plainAttrs_list PySem.F.slot_list_pop PySem.F.type_list_pop mt_pop (pe_dget hu (pv 0) (pv 1) (fun _ _ => rfl))))
      (pss_cons (ps_set (i := 3) sc_law_told.nd rfl (Or.inl rfl) (pe_callTy (hc := call_dictP rfl) (hg := rfl) (hm := T.dict) (hv := by decide +kernel) (ha := pa_cons (pe_lc (own := [("other", 4)]) (g := (gName 4)) (tt := tYes) rfl sc_law_told.nd (x_pil (K := K) (pe_callB (call_sortedD rfl) (by rfl) T.sorted (by decide +kernel) (pa_cons (pv 0) pa_nil))) (blkOk_by (N := ["rows", "name", "present", "stolen", "other"]) (sc := (defScope s_law_told)) (by decide +kernel)) (fun _ _ _ _ _ => (pg_name (i := 4) sc_law_told.nd rfl (Or.inl rfl))) (fun _ _ _ _ _ => pts_nil) (fun _ _ _ _ _ => (pe_tup (pa_cons (pv 4) (pa_cons (pe_fn (G_stolen_items.mono (by decide)) hr (pa_cons (pv 0) (pa_cons (pv 4) pa_nil))) pa_nil))))) pa_nil)))
      (pss_one (ps_ret (pe_lst (pa_cons (pe_fn (G_pushes.mono (by decide)) hr (pa_cons (pv 0) pa_nil)) (pa_cons (pe_fn (G_removals.mono (by decide)) hr (pa_cons (pv 0) pa_nil)) (pa_cons (pe_fn (G_left_items.mono (by decide)) hr (pa_cons (pv 0) pa_nil)) (pa_cons (pv 2) (pa_cons (pv 3) pa_nil)))))))))))), ?_⟩
    have ok := v.ok (Nat.le_refl _)
    have nd := ok.nd
    have hkl := (List.getElem?_eq_some_iff.mp hk).1
    obtain ⟨pk, hpk⟩ : ∃ pk, ps[k]? = some pk := ⟨_, List.getElem?_eq_getElem (by rw [hl.pl]; exact hkl)⟩
    obtain ⟨as, ha, hpa⟩ := hl.lg k pk es hpk hes
    have asl : as.length = es.length := by simpa using hpa.length
    have ndk : d ≠ pk := fun z => by have := hl.dk; rw [z, ha] at this; cases this
    have dg : ∀ {H5 : Hp} {σ : L2.St}, KN [pk] H H5 → σ[0]? = some (some (.ref d)) → σ[1]? = some (some (.str x)) → Ev (tDGet (tVar 0) (tVar 1)) σ H5 (.ref pk) := fun k5 h0 h1 => ev_dget (ev_var h0) (ev_var h1) (k5 _ _ (fun z => ndk (List.mem_singleton.mp z)) hl.dk) (dk_get nd hk hpk)
    refine q_appU ha (dg (kn_ex (Ex.refl _)) rfl rfl) (eu_tup (ea_cons ev_c (ea_cons ev_c ea_nil)) (by show 2 ≤ 100000; decide)) (by rw [List.length_map]; omega) fun a1 H1 n1 e1 h1 => ?_
    have k2 : KN [pk] H (upd H1 pk (.lst (as.map V.ref ++ [.ref a1]))) := (kn_ex e1).trans (KN.upd (by simp))
    have g2 : (upd H1 pk (.lst (as.map V.ref ++ [.ref a1]))) pk = some (.lst (as.map V.ref ++ [.ref a1])) := upd_same
    have h2 : (upd H1 pk (.lst (as.map V.ref ++ [.ref a1]))) a1 = some (.tup (En.size 0).vs) := by
      rw [upd_ne (fun z => by rw [z, e1 _ _ ha] at h1; cases h1)]
      exact h1
    generalize upd H1 pk (.lst (as.map V.ref ++ [.ref a1])) = H2 at k2 g2 h2 ⊢
    have tn : ∀ {H9 : Hp}, KN [pk] H H9 → Paired (fun a t => H9 a = some (.tup t)) as (es.map En.vs) := fun k9 => paired_imp (fun a t z => k9 _ _ (fun y => by
      rw [List.mem_singleton.mp y, ha] at z
      cases z) z) hpa
    have hl2 : HL H2 d ws ps (L.set k (es ++ [.size 0])) := hl.put1 pnd hpk ha k2 ⟨as ++ [a1], by rw [g2, List.map_append]; rfl, by
      rw [List.map_append]
      exact Paired.snoc (tn k2) h2⟩
    have v2 : Vlog 60 ws (L.set k (es ++ [.size 0])) := v.snocSize hes (by omega) ⟨by decide, by decide⟩
    refine q_asgL (xs := (opn es).map V.str) (el_call (vs := [.ref d, .str x, .int (es.length : Int)]) (ea_cons (ev_var rfl) (ea_cons (ev_var rfl) (ea_cons (Evl.ev_is (ev_op (ev_len (dg k2 rfl rfl) (sq_of g2)) ev_c rv_I0) (by rw [List.length_append, List.length_map, asl]; simp)) ea_nil))) fun H3 e3 Q3 q3 E3 => ⟨d, ws, ps, _, k, x, es ++ [.size 0], es.length, rfl, (hl2.ex e3).r, v2, hk, List.getElem?_set_self (List.getElem?_eq_some_iff.mp hes).1, by simp, fun r H5 n5 e5 h5 => q3 r H5 n5 e5 (by rw [h5, List.take_left])⟩) fun r4 H4 n4 e4 h4 => ?_
    refine q_popE (xs := as.map V.ref) (y := .ref a1) (e4 _ _ g2) (dg (k2.trans (kn_ex e4)) rfl rfl) fun H5 e5 => ?_
    have k6 : KN [pk] H (upd H5 pk (.lst (as.map V.ref))) := ((k2.trans (kn_ex e4)).trans (kn_ex e5)).trans (KN.upd (by simp))
    have E6 : Ex H (upd H5 pk (.lst (as.map V.ref))) := fun b o h => by
      by_cases z : b = pk
      · rw [z, ha] at h
        rw [z, upd_same]
        exact h
      · exact k6 b o (fun y => z (List.mem_singleton.mp y)) h
    have r4k : r4 ≠ pk := fun z => by rw [z, g2] at n4; cases n4
    have r4n : H r4 = none := by
      cases h : H r4 with
      | none => rfl
      | some o =>
        have := k2 r4 o (fun z => r4k (List.mem_singleton.mp z)) h
        rw [n4] at this
        cases this
    have h6 : (upd H5 pk (.lst (as.map V.ref))) r4 = some (.lst ((opn es).map V.str)) := by
      rw [upd_ne r4k]
      exact e5 _ _ h4
    generalize upd H5 pk (.lst (as.map V.ref)) = H6 at k6 E6 h6 ⊢
    have hl6 := hl.ex E6
    refine q_asgCB ?_
    refine ev_rowsC (K := K) (fun pw names H7 => Ex H6 H7 ∧ names.Perm ws ∧ sortedS names = true) (fun y => (stolenOf L (lgOf ws L y)).map V.str) (fun R hR => ?_) (fun _ => rfl) (fun _ => rfl) (fun pw names H7 hF i y hy => ?_) fun pw names H7 df qs H8 hF ndf e8 hdf ql qnd hqv => ?_
    · refine ⟨_, rfl, d, Dk ws ps, ws, rfl, Or.inl hl6.dk, dk_keys hl.pl, by have := ok.wl; omega, fun ys p0 hpm hsy n0 => hR p0 ys _ ⟨Ex.new n0, hpm, hsy⟩ upd_same (hpm.nodup_iff.mpr nd) (by rw [hpm.length_eq]; have := ok.wl; omega)⟩
    · obtain ⟨e7, hpm, hsy⟩ := hF
      obtain ⟨j, hj⟩ := List.mem_iff_getElem?.mp (hpm.mem_iff.mp (List.mem_of_getElem? hy))
      obtain ⟨ej, hej⟩ : ∃ ej, L[j]? = some ej := ⟨_, List.getElem?_eq_getElem (by rw [ok.ll]; exact (List.getElem?_eq_some_iff.mp hj).1)⟩
      rw [lgOf_at nd hj hej]
      exact el_stolen rfl (ev_var rfl) (hl6.ex e7).r v hj hej
    obtain ⟨e7, hpm, hsy⟩ := hF
    have E8 := E6.trans (e7.trans e8)
    refine ⟨_, rfl, d, ws, ps, L, rfl, (hl.ex E8).r, v, fun f1 k1 val1 H9 n9 e9 p1 s1 hf1 hv1 => ⟨_, rfl, d, ws, ps, L, rfl, (hl.ex (E8.trans e9)).r, v, fun f2 k2' val2 HA nA eA p2 s2 hf2 hv2 => ⟨_, rfl, d, ws, ps, L, rfl, (hl.ex (E8.trans (e9.trans eA))).r, v, fun f3 z1 q1 HB nB eB p3 s3 hf3 ql1 qn1 qf1 qv1 => ⟨_, rfl, _, rfl, (by show 5 ≤ sizeLine; decide), fun p hp => ?_⟩⟩⟩⟩
    have eC : Ex HB (upd HB p (.lst [.ref f1, .ref f2, .ref f3, .ref r4, .ref df])) := Ex.new hp
    have EB := E8.trans (e9.trans (eA.trans eB))
    refine q p _ (fresh_back EB hp) (EB.trans eC) fun S hS => ?_
    obtain ⟨a1', a2', a3'⟩ := left_val (S := S) v hl.pl p3 ql1 (fun r hr => hS r (fresh_back (E8.trans (e9.trans eA)) (qf1 r hr))) qv1
    refine ⟨f1, f2, f3, r4, df, upd_same, hS p (fresh_back EB hp), ⟨k1, val1, eC _ _ (eB _ _ (eA _ _ hf1)), p1, s1, fun y hy => (hv1 y hy).ex (eA.trans (eB.trans eC))⟩, ⟨k2', val2, eC _ _ (eB _ _ hf2), p2, s2, fun y hy => (hv2 y hy).imp id fun z => z.ex (eB.trans eC)⟩, ?_, ⟨hS r4 r4n, eC _ _ (eB _ _ (eA _ _ (e9 _ _ (e8 _ _ (e7 _ _ h6)))))⟩, ?_, hS f1 (fresh_back E8 n9), hS f2 (fresh_back (E8.trans e9) nA), hS f3 (fresh_back (E8.trans (e9.trans eA)) nB), hS df (fresh_back (E6.trans e7) ndf)⟩
    · rw [a2'] at hf3
      exact ListD.ex ⟨_, _, hf3, a1', s3, a3'⟩ eC
    · have nnd : names.Nodup := hpm.nodup_iff.mpr nd
      rw [dk_ksv ql nnd] at hdf
      refine ListD.ex (H := H8) ⟨names, _, hdf, hpm, hsy, fun j y ej g1 g3 => ?_⟩ (e9.trans (eA.trans (eB.trans eC)))
      obtain ⟨i, hi⟩ := List.mem_iff_getElem?.mp (hpm.mem_iff.mpr (List.mem_of_getElem? g1))
      have hq := List.getElem?_eq_getElem (show i < qs.length by rw [ql]; exact (List.getElem?_eq_some_iff.mp hi).1)
      obtain ⟨c1, c2⟩ := hqv i _ y hq hi
      rw [lgOf_at nd g1 g3] at c2
      exact ⟨_, dk_valO nnd hi hq, hS _ (fresh_back (E6.trans e7) c1), c2⟩
end
end Vx

set_option Elab.async false
set_option linter.all false
set_option maxRecDepth 100000
set_option maxHeartbeats 8000000
namespace Vx
open PySem PySem.Spec PyProof.Rows L2 Evl
def En.isSz : En → Bool
  | .size _ => true
  | _ => false
theorem hdZ : ∀ a ∈ ([("push", false), ("pop", false), ("size", true), ("steal", false)] : List (Str × Bool)), decide (V.str a.1 = V.str "size") = a.2 := by decide +kernel
theorem En.isSz_eq (e : En) : decide (V.str e.hd = V.str "size") = e.isSz := by
  cases e
  · exact hdZ ("push", false) (by simp)
  · exact hdZ ("pop", false) (by simp)
  · exact hdZ ("size", true) (by simp)
  · exact hdZ ("steal", false) (by simp)
theorem ev_inLs {K : PySem.W.Frag} {σ : L2.St} {H : Hp} {ta tb : TE} {x : V} {xs : List V} (ha : Ev ta σ H x) (hb : EvL tb σ H xs) (f1 : flatV x = true) (f2 : xs.all flatV = true) : Ev (tOp (rIn K false) ta tb) σ H (.bl (inV x xs)) := fun H1 e Q q =>
  ha H1 e _ fun H2 e2 => hb H2 (e.trans e2) _ fun p H3 n e3 h3 => ⟨p, xs, rfl, Or.inl (sq_of h3), f1, f2, q H3 (e2.trans e3)⟩
theorem ev_inVar {K : PySem.W.Frag} {σ : L2.St} {H : Hp} {ta tb : TE} {x : V} {p : Addr} {xs : List V} (ha : Ev ta σ H x) (hb : Ev tb σ H (.ref p)) (h : H p = some (.lst xs)) (f1 : flatV x = true) (f2 : xs.all flatV = true) : Ev (tOp (rIn K false) ta tb) σ H (.bl (inV x xs)) := fun H1 e Q q =>
  ha H1 e _ fun H2 e2 => hb H2 (e.trans e2) _ fun H3 e3 => ⟨p, xs, rfl, Or.inl (sq_of (e3 _ _ (e2 _ _ (e _ _ h)))), f1, f2, q H3 (e2.trans e3)⟩
/-- [one for one in l if one != item] -/
theorem el_nex {K : PySem.W.Frag} {σ : L2.St} {H : Hp} {tl : TE} {p : Addr} {xs : List Str} {x : Str} {j jx : Nat} (h : Ev tl σ H (.ref p)) (hp : H p = some (.lst (xs.map V.str))) (hz : xs.length ≤ 60) (hjx : ∀ y, ((wipe σ [j]).set j (some y))[jx]? = some (some (.str x))) (hj : ∀ y, ((wipe σ [j]).set j (some y))[j]? = some (some y)) (hw : ∀ y, wipe ((wipe σ [j]).set j (some y)) [j] = wipe σ [j]) :
    EvL (tLc (iList K tl) (gName j) (tTest (tOp rNe (tVar j) (tVar jx))) (tVar j) [j]) σ H ((xs.filter fun y => decide (y ≠ x)).map V.str) := by
  have key : given (xs.map V.str).length (fun i => decide (xs.getD i "" ≠ x)) (fun i => V.str (xs.getD i "")) = (xs.filter fun y => decide (y ≠ x)).map V.str := by
    rw [List.length_map]
    exact given_list xs "" (fun y => decide (y ≠ x)) V.str
  rw [← key]
  have at_ : ∀ {i : Nat} {v : V}, (xs.map V.str)[i]? = some v → ∃ y : Str, v = .str y ∧ xs[i]? = some y := fun {i v} hx => by
    rw [List.getElem?_map] at hx
    obtain ⟨y, hy, rfl⟩ := Option.map_eq_some_iff.mp hx
    exact ⟨y, rfl, hy⟩
  refine el_lcL _ _ h (sq_of hp) (by rw [List.length_map]; omega) hw (fun i v H1 e1 hx => ?_) (fun i v H1 e1 hx hf => ?_)
  · obtain ⟨y, rfl, hy⟩ := at_ hx
    rw [getD_at hy]
    refine et_is (et_test (ev_op (ev_var (hj _)) (ev_var (hjx _)) (rv_ne rfl))) ?_
    have : (V.str y = V.str x) ↔ (y = x) := ⟨fun e => by injection e, fun e => by rw [e]⟩
    by_cases c : y = x
    · simp [c]
    · have c2 : ¬ V.str y = V.str x := fun e => c (this.mp e)
      simp [c, c2]
  · obtain ⟨y, rfl, hy⟩ := at_ hx
    rw [getD_at hy]
    exact ev_var (hj _)
/-- [one for one in l if one in taken] -/
theorem el_inT {K : PySem.W.Frag} {σ : L2.St} {H : Hp} {tl : TE} {p pg : Addr} {xs gs : List Str} {j jg : Nat} (h : Ev tl σ H (.ref p)) (hp : H p = some (.lst (xs.map V.str))) (hz : xs.length ≤ 60) (hg : H pg = some (.lst (gs.map V.str)))
    (hjg : ∀ x, ((wipe σ [j]).set j (some x))[jg]? = some (some (.ref pg))) (hj : ∀ x, ((wipe σ [j]).set j (some x))[j]? = some (some x)) (hw : ∀ x, wipe ((wipe σ [j]).set j (some x)) [j] = wipe σ [j]) :
    EvL (tLc (iList K tl) (gName j) (tTest (tOp (rIn K false) (tVar j) (tVar jg))) (tVar j) [j]) σ H ((xs.filter fun x => decide (x ∈ gs)).map V.str) := by
  have key : given (xs.map V.str).length (fun i => decide (xs.getD i "" ∈ gs)) (fun i => V.str (xs.getD i "")) = (xs.filter fun x => decide (x ∈ gs)).map V.str := by
    rw [List.length_map]
    exact given_list xs "" (fun x => decide (x ∈ gs)) V.str
  rw [← key]
  have at_ : ∀ {i : Nat} {x : V}, (xs.map V.str)[i]? = some x → ∃ y : Str, x = .str y ∧ xs[i]? = some y := fun {i x} hx => by
    rw [List.getElem?_map] at hx
    obtain ⟨y, hy, rfl⟩ := Option.map_eq_some_iff.mp hx
    exact ⟨y, rfl, hy⟩
  refine el_lcL _ _ h (sq_of hp) (by rw [List.length_map]; omega) hw (fun i x H1 e1 hx => ?_) (fun i x H1 e1 hx hf => ?_)
  · obtain ⟨y, rfl, hy⟩ := at_ hx
    rw [getD_at hy]
    refine et_is (et_test (ev_inVar (ev_var (hj _)) (ev_var (hjg _)) (e1 _ _ hg) rfl (flat_strs gs))) ?_
    rw [inV_strs]
  · obtain ⟨y, rfl, hy⟩ := at_ hx
    rw [getD_at hy]
    exact ev_var (hj _)
section
variable {K : PySem.W.Frag} {tz : TS} {D : Ends} {σ : L2.St} {H : Hp} {n : Nat}
theorem q_asgT2 {t1 t2 : TE} {v1 v2 : V} {i j : Nat} (hn : n = 2) (h1 : Ev t1 σ H v1) (h2 : Ev t2 σ H v2) (k : ∀ H1, Ex H H1 → tz D ((σ.set i (some v1)).set j (some v2)) H1) : tSeq (tAsg (tTup (tCons t1 (tCons t2 tNil))) (gTup K n (gCons (gName i) (gCons (gName j) gNil)))) tz D σ H := by
  subst hn
  exact h1 H (Ex.refl _) _ fun H1 e1 => h2 H1 e1 _ fun H2 e2 => ⟨(by show 2 ≤ sizeLine; decide), fun t ht => ⟨t, _, rfl, st_of upd_same, rfl, _, _, rfl, _, _, rfl, rfl, k _ ((e1.trans e2).trans (Ex.new ht))⟩⟩
/-- dict(list(d.items())) -/
theorem cp_copy {i : Nat} {a : Addr} {ns : List Str} {val : Str → V} {Q : VK} (h0 : σ[i]? = some (some (.ref a))) (ha : H a = some (.dK (KsV ns val))) (nd : ns.Nodup) (q : ∀ c H', H c = none → Ex H H' → H' c = some (.dK (KsV ns val)) → Q (.ref c) H') : tCB (rDictP K) (tCons (LiI.tListItems (tVar i)) tNil) σ H Q := by
  refine ⟨_, h0, a, _, rfl, ha, fun H1 p1 ts1 e1 n1 nt1 np1 h1 P1 => ⟨p1, ts1, _, rfl, sq_of h1, paired_imp (fun t q z => st_of z) P1, fun c hc => ?_⟩⟩
  rw [merge_new _ [] (by rw [List.nil_append]; exact ks_nd nd), List.nil_append]
  exact q c _ (fresh_back (fun b o h => e1 b o h) hc) (fun b o h => Ex.new hc _ _ (e1 b o h)) upd_same
theorem q_copy2 {i j i' j' : Nat} {a b : Addr} {ns ms : List Str} {va vb : Str → V} (h0 : σ[i]? = some (some (.ref a))) (h1 : σ[j]? = some (some (.ref b))) (ha : H a = some (.dK (KsV ns va))) (hb : H b = some (.dK (KsV ms vb))) (nd : ns.Nodup) (md : ms.Nodup) (k : ∀ c d H', H c = none → H d = none → c ≠ d → Ex H H' → H' c = some (.dK (KsV ns va)) → H' d = some (.dK (KsV ms vb)) → tz D ((σ.set i' (some (.ref c))).set j' (some (.ref d))) H') :
    tSeq (tPar i' j' (tCons (tCB (rDictP K) (tCons (LiI.tListItems (tVar i)) tNil)) (tCons (tCB (rDictP K) (tCons (LiI.tListItems (tVar j)) tNil)) tNil))) tz D σ H :=
  cp_copy (K := K) (Q := fun v H1 => (tCons (tCB (rDictP K) (tCons (LiI.tListItems (tVar j)) tNil)) tNil) σ H1 fun vs H2 => ∃ u w, (v :: vs) = [u, w] ∧ tz D ((σ.set i' (some u)).set j' (some w)) H2) h0 ha nd fun c H1 nc e1 hc =>
    cp_copy (K := K) (Q := fun v H2 => ∃ u w, [V.ref c, v] = [u, w] ∧ tz D ((σ.set i' (some u)).set j' (some w)) H2) h1 (e1 _ _ hb) md fun d H2 ndd e2 hd => ⟨_, _, rfl, k c d H2 nc (fresh_back e1 ndd) (ne_of_none hc ndd) (e1.trans e2) (e2 _ _ hc) hd⟩
theorem q_setTwo {i1 i2 j m : Nat} {a b : Addr} {x : Str} {v : V} {na nb : List Str} {va vb : Str → V} (hn : n = 2) (hA : σ[i1]? = some (some (.ref a))) (hB : σ[i2]? = some (some (.ref b))) (hj : σ[j]? = some (some (.str x))) (hv : σ[m]? = some (some v)) (ha : H a = some (.dK (KsV na va))) (hb : H b = some (.dK (KsV nb vb))) (nab : a ≠ b) (xa : x ∉ na) (xb : x ∉ nb) (la : na.length ≤ 1000) (lb : nb.length ≤ 1000)
    (k : ∀ H1, KN [a, b] H H1 → H1 a = some (.dK (KsV (na ++ [x]) (updV va x v))) → H1 b = some (.dK (KsV (nb ++ [x]) (updV vb x .non))) → tz D σ H1) : tSeq (tAsg (tTup (tCons (tVar m) (tCons (tC .non) tNil))) (gTup K n (gCons (gSub (tVar i1) (tVar j) rSetD) (gCons (gSub (tVar i2) (tVar j) rSetD) gNil)))) tz D σ H := by
  subst hn
  refine ⟨_, hv, (by show 2 ≤ sizeLine; decide), fun t ht => ⟨t, _, rfl, st_of upd_same, rfl, _, _, rfl, _, hA, _, hj, a, _, rfl, DPut.k (k := .inr x) (v := v) (Ex.new ht _ _ ha) (by rw [ks_len]; exact sz_lt (by omega)), _, _, rfl, _, hB, _, hj, b, _, rfl, DPut.k (k := .inr x) (v := .non) (kvs := KsV nb vb) (by rw [upd_ne nab.symm]; exact Ex.new ht _ _ hb) (by rw [ks_len]; exact sz_lt (by omega)), rfl, ?_⟩⟩
  rw [put_ksv_new xa, put_ksv_new xb]
  refine k _ (((kn_ex (Ex.new ht)).trans (KN.upd (by simp))).trans (KN.upd (by simp))) ?_ upd_same
  rw [upd_ne nab, upd_same]
theorem ne_ld {H : Hp} {a b : Addr} {xs : List V} {kvs : List (Key × V)} (h1 : H a = some (.lst xs)) (h2 : H b = some (.dK kvs)) : a ≠ b := fun z => by
  subst z
  rw [h1] at h2
  cases h2
theorem s_setLeft {i j l m : Nat} {c r0 r4 : Addr} {w x : Str} {ns : List Str} {val : Str → V} {xs ys : List V} (hn : n = 2) (hi : σ[i]? = some (some (.ref c))) (hj : σ[j]? = some (some (.str w))) (hl : σ[l]? = some (some (.ref r4))) (hm : σ[m]? = some (some (.str x))) (hc : H c = some (.dK (KsV ns val))) (nd : ns.Nodup) (wn : w ∈ ns) (hv : val w = .ref r0) (h0 : H r0 = some (.lst xs)) (h4 : H r4 = some (.lst ys)) (lx : xs.length ≤ 1000) (ly : ys.length ≤ 1000) (ln : ns.length ≤ 1000)
    (k : ∀ r1 r2 H1, KN [c] H H1 → H1 c = some (.dK (KsV ns (updV val w (.ref r1)))) → H1 r1 = some (.lst (xs ++ [.str x])) → H1 r2 = some (.lst (ys ++ [.str x])) → D.nx (σ.set l (some (.ref r2))) H1) :
    tAsg (tTup (tCons (tOp rCat (tDGet (tVar i) (tVar j)) (tLst (tCons (tVar m) tNil))) (tCons (tOp rCat (tVar l) (tLst (tCons (tVar m) tNil))) tNil))) (gTup K n (gCons (gSub (tVar i) (tVar j) rSetD) (gCons (gName l) gNil))) D σ H := by
  subst hn
  have g := ks_get (f := val) nd wn
  rw [hv] at g
  have a1 : EvL (tOp rCat (tDGet (tVar i) (tVar j)) (tLst (tCons (tVar m) tNil))) σ H (xs ++ [.str x]) := el_cat (ev_dget (ev_var hi) (ev_var hj) hc g) h0 (el_lst (ea_cons (ev_var hm) ea_nil) (by show 1 ≤ 100000; decide)) (by rw [List.length_singleton]; omega)
  have a2 : EvL (tOp rCat (tVar l) (tLst (tCons (tVar m) tNil))) σ H (ys ++ [.str x]) := el_cat (ev_var hl) h4 (el_lst (ea_cons (ev_var hm) ea_nil) (by show 1 ≤ 100000; decide)) (by rw [List.length_singleton]; omega)
  refine a1 H (Ex.refl _) _ fun r1 H1 n1 e1 h1 => a2 H1 e1 _ fun r2 H2 n2 e2 h2 => ⟨(by show 2 ≤ sizeLine; decide), fun t ht => ⟨t, _, rfl, st_of upd_same, rfl, _, _, rfl, _, hi, _, hj, c, _, rfl, DPut.k (k := .inr w) (v := .ref r1) (Ex.new ht _ _ (e2 _ _ (e1 _ _ hc))) (by rw [ks_len]; exact sz_lt (by omega)), _, _, rfl, rfl, ?_⟩⟩
  rw [put_ksv_old wn]
  have hc3 := Ex.new (o := .tup [.ref r1, .ref r2]) ht _ _ (e2 _ _ (e1 _ _ hc))
  have h13 := Ex.new (o := .tup [.ref r1, .ref r2]) ht _ _ (e2 _ _ h1)
  have h23 := Ex.new (o := .tup [.ref r1, .ref r2]) ht _ _ h2
  refine k r1 r2 _ (((kn_ex e1).trans (kn_ex e2)).trans ((kn_ex (Ex.new ht)).trans (KN.upd (by simp)))) upd_same ?_ ?_
  · rw [upd_ne (ne_ld h13 hc3)]
    exact h13
  · rw [upd_ne (ne_ld h23 hc3)]
    exact h23
theorem q_putV {i j m : Nat} {c : Addr} {x : Str} {v : V} {ns : List Str} {val : Str → V} (hi : σ[i]? = some (some (.ref c))) (hj : σ[j]? = some (some (.str x))) (hm : σ[m]? = some (some v)) (hc : H c = some (.dK (KsV ns val))) (xn : x ∈ ns) (ln : ns.length ≤ 1000) (k : tz D σ (upd H c (.dK (KsV ns (updV val x v))))) : tSeq (sDPut (tVar i) (tVar j) (tVar m)) tz D σ H := by
  refine ⟨_, hm, _, hi, _, hj, c, _, rfl, DPut.k (k := .inr x) (v := v) hc (by rw [ks_len]; exact sz_lt (by omega)), ?_⟩
  rw [put_ksv_old xn]
  exact k
theorem s_putL {i : Nat} {c : Addr} {x : Str} {ty te : TE} {ns : List Str} {val : Str → V} {xs : List V} (hi : σ[i]? = some (some (.ref c))) (hj : Ev ty σ H (.str x)) (he : EvL te σ H xs) (hc : H c = some (.dK (KsV ns val))) (xn : x ∈ ns) (ln : ns.length ≤ 1000) (k : ∀ r H1, KN [c] H H1 → H1 c = some (.dK (KsV ns (updV val x (.ref r)))) → H1 r = some (.lst xs) → D.nx σ H1) : sDPut (tVar i) ty te D σ H := by
  refine he H (Ex.refl _) _ fun r H1 n1 e1 h1 => ⟨_, hi, hj H1 e1 _ fun H2 e2 => ⟨c, _, rfl, DPut.k (k := .inr x) (v := .ref r) (e2 _ _ (e1 _ _ hc)) (by rw [ks_len]; exact sz_lt (by omega)), ?_⟩⟩
  rw [put_ksv_old xn]
  refine k r _ ((kn_ex (e1.trans e2)).trans (KN.upd (by simp))) upd_same ?_
  rw [upd_ne (fun z => by rw [z] at h1; rw [e1 _ _ hc] at h1; cases h1)]
  exact e2 _ _ h1
end
def spAfter : Sp := fun vs H Q _ => ∃ (p pt ae b : Addr) (ws : List Str) (L : List (List En)) (k : Nat) (w : Str) (es : List En) (e : En) (bk : List (Key × V)), vs = [.ref p, .ref pt, .ref ae, .ref b] ∧ Told [] H p ws L es ∧ H pt = some (.tup [.str w, .int (es.length : Int)]) ∧ H ae = some (.tup e.vs) ∧ H b = some (.dK bk) ∧
  (∀ (j : Nat) o es', ws[j]? = some o → (L.set k (es ++ [e]))[j]? = some es' → ∃ r, valV bk (.inr o) = some (.ref r) ∧ H r = some (.lst ((pus es').map V.str))) ∧ Vlog 60 ws L ∧ Vlog 60 ws (L.set k (es ++ [e])) ∧ ws[k]? = some w ∧ L[k]? = some es ∧
  ∀ q H', H q = none → Ex H H' → (∀ S, (∀ s ∈ S, ∃ kvs, H s = some (.dK kvs)) → Told S H' q ws (L.set k (es ++ [e])) (es ++ [e])) → Q (.ref q) H'
section
variable {P : Program} {w : World} {K : PySem.W.Frag} {mg : Str → Option Value} {base : Heap}
theorem sc_law_after : FnScope ["told", "place", "entry", "bought", "pushed", "gone", "left", "present", "stolen", "name", "item", "owner", "taken", "one"] ["told", "place", "entry", "bought"] (defScope s_law_after) := ⟨rfl, rfl, rfl, by decide +kernel, rfl, by decide +kernel, by decide +kernel⟩
theorem ok_law_after (D : Def K mg "_law_after" s_law_after ["told", "place", "entry", "bought"]) (T : Bl mg) (G_law_sorted : Good P w K mg base 1 "_law_sorted" ["some"] spSorted) : Good P w K mg base 2 "_law_after" ["told", "place", "entry", "bought"] (spAfter) := by
  refine D.good sc_law_after (fun vs H Q E h => ?_) (fun f cdv A outer s H vs Q E hr h => ?_)
  · obtain ⟨p, pt, ae, b, ws, L, k, w, es, e, bk, rfl, _⟩ := h
    rfl
  · obtain ⟨p, pt, ae, b, ws, L, k, w, es, e, bk, rfl, ht, hpt, hae, hb, hbl, v, v2, hk, hes, q⟩ := h
    have hu := hu_of hr
    refine ⟨_, (pss_cons (ps_asg (pv 0) (pg_lst rfl (pgs_cons (pg_name (i := 4) sc_law_after.nd rfl (Or.inl rfl)) (pgs_cons (pg_name (i := 5) sc_law_after.nd rfl (Or.inl rfl)) (pgs_cons (pg_name (i := 6) sc_law_after.nd rfl (Or.inl rfl)) (pgs_cons (pg_name (i := 7) sc_law_after.nd rfl (Or.inl rfl)) (pgs_cons (pg_name (i := 8) sc_law_after.nd rfl (Or.inl rfl)) pgs_nil)))))))
      (pss_cons (ps_asg (pe_tup (pa_cons (x_ixt (K := K) (pv 1) pe_int) (pa_cons (x_ixt (K := K) (pv 2) (pe_op op_sub (x_len (K := K) T (pv 2)) pe_int)) pa_nil))) (x_gt (K := K) (pgs_cons (pg_name (i := 9) sc_law_after.nd rfl (Or.inl rfl)) (pgs_cons (pg_name (i := 10) sc_law_after.nd rfl (Or.inr rfl)) pgs_nil))))
      (pss_cons (ps_par (i := 4) (j := 5) rfl sc_law_after.nd rfl rfl (by decide) rfl rfl (pa_cons (pe_callTy (hc := call_dictP rfl) (hg := rfl) (hm := T.dict) (hv := by decide +kernel) (ha := pa_cons (LiI.pe_listItems rfl (pv 4) (by rfl) T.list (by decide +kernel)) pa_nil)) (pa_cons (pe_callTy (hc := call_dictP rfl) (hg := rfl) (hm := T.dict) (hv := by decide +kernel) (ha := pa_cons (LiI.pe_listItems rfl (pv 5) (by rfl) T.list (by decide +kernel)) pa_nil)) pa_nil)) (by rfl))
      (pss_cons (ps_par (i := 6) (j := 8) rfl sc_law_after.nd rfl rfl (by decide) rfl rfl (pa_cons (pe_callTy (hc := call_dictP rfl) (hg := rfl) (hm := T.dict) (hv := by decide +kernel) (ha := pa_cons (LiI.pe_listItems rfl (pv 6) (by rfl) T.list (by decide +kernel)) pa_nil)) (pa_cons (pe_callTy (hc := call_dictP rfl) (hg := rfl) (hm := T.dict) (hv := by decide +kernel) (ha := pa_cons (LiI.pe_listItems rfl (pv 8) (by rfl) T.list (by decide +kernel)) pa_nil)) pa_nil)) (by rfl))
      (pss_cons (ps_if (pt_cmpR op_eq (x_ixt (K := K) (pv 2) pe_int) pe_str (nomark _)) (pss_cons (ps_asg (pe_tup (pa_cons (pv 1) (pa_cons pe_non pa_nil))) (x_gt (K := K) (pgs_cons (pg_sub (pv 4) (pv 10) (set_dict hu)) (pgs_cons (pg_sub (pv 5) (pv 10) (set_dict hu)) pgs_nil))))
      (pss_one (ps_asg (pe_tup (pa_cons (pe_op op_cat (pe_dget hu (pv 6) (pv 9) (fun _ _ => rfl)) (pe_lst (pa_cons (pv 10) pa_nil))) (pa_cons (pe_op op_cat (pv 7) (pe_lst (pa_cons (pv 10) pa_nil))) pa_nil))) (x_gt (K := K) (pgs_cons (pg_sub (pv 6) (pv 9) (set_dict hu)) (pgs_cons (pg_name (i := 7) sc_law_after.nd rfl (Or.inl rfl)) pgs_nil)))))) pss_nil)
      (pss_cons (ps_if (pt_cmpR (x_in (K := K) rfl) (x_ixt (K := K) (pv 2) pe_int) (pe_lst (pa_cons pe_str (pa_cons pe_str pa_nil))) (by rfl)) (pss_cons (ps_set (i := 11) sc_law_after.nd rfl (Or.inl rfl) (pe_ifExp (pt_cmpR op_eq (x_ixt (K := K) (pv 2) pe_int) pe_str (nomark _)) (pv 9) (x_ixt (K := K) (pv 2) pe_int)))
      (pss_cons (ps_dput hu (pv 5) (pv 10) (pv 1) rfl)
      (pss_one (ps_dput hu (pv 6) (pv 11) (pe_lc (own := [("one", 13)]) (g := (gName 13))  rfl sc_law_after.nd (x_pil (K := K) (pe_dget hu (pv 6) (pv 11) (fun _ _ => rfl))) (blkOk_by (N := ["told", "place", "entry", "bought", "pushed", "gone", "left", "present", "stolen", "name", "item", "owner", "taken", "one"]) (sc := (defScope s_law_after)) (by decide +kernel)) (fun _ _ _ _ _ => (pg_name (i := 13) sc_law_after.nd rfl (Or.inl rfl))) (fun _ _ _ _ _ => (pts_one (pt_cmpR op_ne (pv 13) (pv 10) (nomark _)))) (fun _ _ _ _ _ => (pv 13))) rfl)))) pss_nil)
      (pss_cons (ps_if (pt_cmpR op_eq (x_ixt (K := K) (pv 2) pe_int) pe_str (nomark _)) (pss_one (ps_setLc (i := 7) (own := [("one", 13)]) (g := (gName 13))  rfl sc_law_after.nd rfl rfl (sw_true rfl rfl rfl (by decide +kernel)) (x_pil (K := K) (pv 7)) (blkOk_by (N := ["told", "place", "entry", "bought", "pushed", "gone", "left", "present", "stolen", "name", "item", "owner", "taken", "one"]) (sc := (defScope s_law_after)) (by decide +kernel)) (fun _ _ _ _ _ => (pg_name (i := 13) sc_law_after.nd rfl (Or.inl rfl))) (fun _ _ _ _ _ => (pts_one (pt_cmpR op_ne (pv 13) (pv 10) (nomark _)))) (fun _ _ _ _ _ => (pv 13)))) pss_nil)
      (pss_cons (ps_if (pt_cmpR op_eq (x_ixt (K := K) (pv 2) pe_int) pe_str (nomark _)) (pss_cons (ps_set (i := 12) sc_law_after.nd rfl (Or.inr rfl) (pe_op op_cat (pe_dget hu (pv 8) (x_ixt (K := K) (pv 2) pe_int) (fun _ _ => rfl)) (pe_lst (pa_cons (pv 10) pa_nil))))
      (pss_one (ps_dput hu (pv 8) (x_ixt (K := K) (pv 2) pe_int) (pe_lc (own := [("one", 13)]) (g := (gName 13))  rfl sc_law_after.nd (x_pil (K := K) (pe_dget hu (pv 3) (x_ixt (K := K) (pv 2) pe_int) (fun _ _ => rfl))) (blkOk_by (N := ["told", "place", "entry", "bought", "pushed", "gone", "left", "present", "stolen", "name", "item", "owner", "taken", "one"]) (sc := (defScope s_law_after)) (by decide +kernel)) (fun _ _ _ _ _ => (pg_name (i := 13) sc_law_after.nd rfl (Or.inl rfl))) (fun _ _ _ _ _ => (pts_one (pt_cmpR (x_in (K := K) rfl) (pv 13) (pv 12) (by rfl)))) (fun _ _ _ _ _ => (pv 13))) rfl))) pss_nil)
      (pss_one (ps_ret (pe_lst (pa_cons (pe_fn (G_law_sorted.mono (by decide)) hr (pa_cons (pv 4) pa_nil)) (pa_cons (pe_fn (G_law_sorted.mono (by decide)) hr (pa_cons (pv 5) pa_nil)) (pa_cons (pe_fn (G_law_sorted.mono (by decide)) hr (pa_cons (pv 6) pa_nil)) (pa_cons (pv 7) (pa_cons (pe_fn (G_law_sorted.mono (by decide)) hr (pa_cons (pv 8) pa_nil)) pa_nil)))))))))))))))), ?_⟩
    have ok := v.ok (Nat.le_refl _)
    have wnd := ok.nd
    obtain ⟨a1, a2, a3, a4, a5, h0, _, ⟨n1, u1, hc1, p1, _, f1⟩, ⟨n2, u2, hc2, p2, _, f2⟩, ⟨n3, u3, hc3, p3, _, f3⟩, ⟨_, h4⟩, ⟨n5, u5, hc5, p5, _, f5⟩, _⟩ := ht
    have es60 := (v.ent _ (List.mem_of_getElem? hes)).1
    obtain ⟨nd1, l1⟩ := pus360 v p1
    obtain ⟨nd2, l2⟩ := pus360 v p2
    have nd3 : n3.Nodup := p3.nodup_iff.mpr wnd
    have nd5 : n5.Nodup := p5.nodup_iff.mpr wnd
    have l3 : n3.length ≤ 6 := by rw [p3.length_eq]; exact ok.wl
    have l5 : n5.length ≤ 6 := by rw [p5.length_eq]; exact ok.wl
    refine ⟨_, rfl, p, _, rfl, sq_of h0, rfl, _, _, rfl, _, _, rfl, _, _, rfl, _, _, rfl, _, _, rfl, rfl, ?_⟩
    obtain ⟨iv, hiv, hit⟩ : ∃ iv, atI e.vs ((e.vs.length : Int) - 1) = some iv ∧ (e.isSz = false → iv = .str e.it) := by
      cases e with
      | push x => exact ⟨_, rfl, fun _ => rfl⟩
      | pop x => exact ⟨_, rfl, fun _ => rfl⟩
      | steal o x => exact ⟨_, rfl, fun _ => rfl⟩
      | size m => exact ⟨_, rfl, fun h => by cases h⟩
    refine q_asgT2 rfl (v1 := .str w) (v2 := iv) (ev_op (ev_var rfl) ev_c (rv_ixT (st_of hpt) rfl)) (ev_op (ev_var rfl) (ev_op (ev_lenA (ev_var rfl) (Or.inr (st_of hae))) ev_c rv_I0) (rv_ixT (st_of hae) hiv)) fun H1 e1 => ?_
    refine q_copy2 (a := a1) (b := a2) rfl rfl (e1 _ _ hc1) (e1 _ _ hc2) nd1 nd2 fun c1 c2 H2 m1 m2 c12 e2 g1 g2 => ?_
    refine q_copy2 (a := a3) (b := a5) rfl rfl (e2 _ _ (e1 _ _ hc3)) (e2 _ _ (e1 _ _ hc5)) nd3 nd5 fun c3 c5 H3 m3 m5 c35 e3 g3 g5 => ?_
    have c13 : c1 ≠ c3 := ne_of_none g1 m3
    have c23 : c2 ≠ c3 := ne_of_none g2 m3
    have c15 : c1 ≠ c5 := ne_of_none g1 m5
    have c25 : c2 ≠ c5 := ne_of_none g2 m5
    have g1 := e3 _ _ g1
    have g2 := e3 _ _ g2
    have E3 := e1.trans (e2.trans e3)
    have z1 : H c1 = none := fresh_back e1 m1
    have z2 : H c2 = none := fresh_back e1 m2
    have z3 : H c3 = none := fresh_back (e1.trans e2) m3
    have z5 : H c5 = none := fresh_back (e1.trans e2) m5
    have exl : ∀ {Hm : Hp}, KN [c1, c2, c3, c5] H3 Hm → Ex H Hm := fun kn b o h => kn b o (fun z => by
      simp only [List.mem_cons, List.not_mem_nil, or_false] at z
      rcases z with rfl | rfl | rfl | rfl
      · rw [z1] at h; cases h
      · rw [z2] at h; cases h
      · rw [z3] at h; cases h
      · rw [z5] at h; cases h) (E3 _ _ h)
    have sub4 : ∀ {S : List Addr} {Ha Hb : Hp}, (∀ s ∈ S, s ∈ [c1, c2, c3, c5]) → KN S Ha Hb → KN [c1, c2, c3, c5] Ha Hb := fun hs kn b o n h => kn b o (fun z => n (hs _ z)) h
    dsimp only [List.set, gName]
    show tSeq (tIfS _ _ _) _ _ ([some (V.ref p), some (.ref pt), some (.ref ae), some (.ref b), some (.ref c1), some (.ref c2), some (.ref c3), some (.ref a4), some (.ref c5), some (.str w), some iv, none, none, none] : L2.St) _
    have fp := more_flat (f := pus) (g := En.pu) (e := e) pus_snoc hes
    have fr := more_flat (f := res) (g := En.re) (e := e) res_snoc hes
    have fin : ∀ (Hm : Hp) (c4 : Addr) (b10 b11 b12 b13 : Option V) (k1 k2 k3 k5 : List Str) (w1 w2 w3 w5 : Str → V), Ex H Hm →
        Hm c1 = some (.dK (KsV k1 w1)) → k1.Perm ((L.set k (es ++ [e])).flatMap pus) → (∀ y ∈ k1, AtP En.isPu ws (L.set k (es ++ [e])) Hm y (w1 y)) →
        Hm c2 = some (.dK (KsV k2 w2)) → k2.Perm ((L.set k (es ++ [e])).flatMap pus) → (∀ y ∈ k2, (¬ y ∈ (L.set k (es ++ [e])).flatMap res ∧ w2 y = .non) ∨ AtP En.isRe ws (L.set k (es ++ [e])) Hm y (w2 y)) →
        Hm c3 = some (.dK (KsV k3 w3)) → k3.Perm ws → (∀ (i : Nat) x es', ws[i]? = some x → (L.set k (es ++ [e]))[i]? = some es' → ∃ r, w3 x = .ref r ∧ Hm r = some (.lst ((leftOf (L.set k (es ++ [e])) es').map V.str))) →
        Hm c4 = some (.lst ((opn (es ++ [e])).map V.str)) →
        Hm c5 = some (.dK (KsV k5 w5)) → k5.Perm ws → (∀ (i : Nat) x es', ws[i]? = some x → (L.set k (es ++ [e]))[i]? = some es' → ∃ r, w5 x = .ref r ∧ Hm r = some (.lst ((stolenOf (L.set k (es ++ [e])) es').map V.str))) →
        tRet (tLst (tCons (tCall spSorted [] E0 (tCons (tVar 4) tNil)) (tCons (tCall spSorted [] E0 (tCons (tVar 5) tNil)) (tCons (tCall spSorted [] E0 (tCons (tVar 6) tNil)) (tCons (tVar 7) (tCons (tCall spSorted [] E0 (tCons (tVar 8) tNil)) tNil)))))) { nx := fun _ H' => Q .non H', rt := Q }
          ([some (V.ref p), some (.ref pt), some (.ref ae), some (.ref b), some (.ref c1), some (.ref c2), some (.ref c3), some (.ref c4), some (.ref c5), some (.str w), b10, b11, b12, b13] : L2.St) Hm := by
      intro Hm c4 b10 b11 b12 b13 k1 k2 k3 k5 w1 w2 w3 w5 em q1 r1 s1 q2 r2 s2 q3 r3 s3 q4 q5 r5 s5
      obtain ⟨d1, j1⟩ := pus360 v2 r1
      obtain ⟨d2, j2⟩ := pus360 v2 r2
      have d3 : k3.Nodup := r3.nodup_iff.mpr wnd
      have d5 : k5.Nodup := r5.nodup_iff.mpr wnd
      have j3 : k3.length ≤ 1000 := by rw [r3.length_eq]; have := ok.wl; omega
      have j5 : k5.length ≤ 1000 := by rw [r5.length_eq]; have := ok.wl; omega
      refine ⟨_, rfl, c1, k1, w1, rfl, q1, d1, by omega, fun x1 y1 HA nA eA t1 o1 hx1 => ⟨_, rfl, c2, k2, w2, rfl, eA _ _ q2, d2, by omega, fun x2 y2 HB nB eB t2 o2 hx2 => ⟨_, rfl, c3, k3, w3, rfl, eB _ _ (eA _ _ q3), d3, j3, fun x3 y3 HC nC eC t3 o3 hx3 => ⟨_, rfl, _, rfl, c5, k5, w5, rfl, eC _ _ (eB _ _ (eA _ _ q5)), d5, j5, fun x5 y5 HD nD eD t5 o5 hx5 => ⟨(by show 5 ≤ sizeLine; decide), fun r hr0 => ?_⟩⟩⟩⟩⟩
      have eE : Ex HD (upd HD r (.lst [.ref x1, .ref x2, .ref x3, .ref c4, .ref x5])) := Ex.new hr0
      have EA := eA.trans (eB.trans (eC.trans (eD.trans eE)))
      refine q r _ (fresh_back (em.trans (eA.trans (eB.trans (eC.trans eD)))) hr0) (em.trans EA) fun S hS => ?_
      have nF : ∀ {b : Addr}, H b = none → b ∉ S := fun h z => by
        obtain ⟨kvs, g⟩ := hS _ z
        rw [h] at g
        cases g
      have nS : ∀ {b : Addr} {xs : List V}, (upd HD r (.lst [.ref x1, .ref x2, .ref x3, .ref c4, .ref x5])) b = some (.lst xs) → b ∉ S := fun h z => by
        obtain ⟨kvs, g⟩ := hS _ z
        rw [(em.trans EA) _ _ g] at h
        cases h
      refine ⟨x1, x2, x3, c4, x5, upd_same, nS upd_same, ⟨y1, w1, (eB.trans (eC.trans (eD.trans eE))) _ _ hx1, t1.trans r1, o1, fun y hy => (s1 y (t1.mem_iff.mp hy)).ex EA⟩, ⟨y2, w2, (eC.trans (eD.trans eE)) _ _ hx2, t2.trans r2, o2, fun y hy => (s2 y (t2.mem_iff.mp hy)).imp id fun z => z.ex EA⟩, ⟨y3, w3, (eD.trans eE) _ _ hx3, t3.trans r3, o3, fun i x es' g1 g2 => ?_⟩, ⟨nS (EA _ _ q4), EA _ _ q4⟩, ⟨y5, w5, eE _ _ hx5, t5.trans r5, o5, fun i x es' g1 g2 => ?_⟩, nF (fresh_back em nA), nF (fresh_back (em.trans eA) nB), nF (fresh_back (em.trans (eA.trans eB)) nC), nF (fresh_back (em.trans (eA.trans (eB.trans eC))) nD)⟩
      · obtain ⟨r, c, d⟩ := s3 i x es' g1 g2
        exact ⟨r, c, nS (EA _ _ d), EA _ _ d⟩
      · obtain ⟨r, c, d⟩ := s5 i x es' g1 g2
        exact ⟨r, c, nS (EA _ _ d), EA _ _ d⟩
    have pm : ∀ {Hm : Hp}, Ex H Hm → ∀ y ∈ n1, AtP En.isPu ws (L.set k (es ++ [e])) Hm y (u1 y) := fun em y hy => ((f1 y hy).more hes).ex em
    have lpus : ∀ {M : List (List En)} {x y : List En}, pus x = pus y → leftOf M x = leftOf M y := fun h => by unfold leftOf; rw [h]
    have spus : ∀ {M : List (List En)} {x y : List En}, pus x = pus y → stolenOf M x = stolenOf M y := fun h => by unfold stolenOf; rw [h]
    have same : e.pu = [] → ∀ {i : Nat} {es' : List En}, (L.set k (es ++ [e]))[i]? = some es' → ∃ es0, L[i]? = some es0 ∧ pus es' = pus es0 := fun hpu {i es'} h => by
      rcases set_at h with ⟨rfl, rfl⟩ | ⟨_, g⟩
      · exact ⟨es, hes, by rw [pus_snoc, hpu, List.append_nil]⟩
      · exact ⟨es', g, rfl⟩
    have st : ∀ {Hm : Hp}, Ex H3 Hm → SqT K Hm ae e.vs := fun em => st_of (em _ _ (E3 _ _ hae))
    have stE : ∀ {Hm : Hp}, Ex H Hm → SqT K Hm ae e.vs := fun em => st_of (em _ _ hae)
    have tst : ∀ {Hm : Hp} {σ : L2.St} {wd : Str} {bb : Bool}, Ex H Hm → σ[2]? = some (some (.ref ae)) → decide (V.str e.hd = V.str wd) = bb → EvT (tTest (tOp rEq (tOp (rIxT K) (tVar 2) (tC (V.int 0))) (tC (V.str wd)))) σ Hm bb := fun em h2 hb => et_is (et_test (ev_op (ev_op (ev_var h2) ev_c (rv_ixT (stE em) e.at0)) ev_c (rv_eq rfl))) hb
    have tin : ∀ {Hm : Hp} {σ : L2.St}, Ex H Hm → σ[2]? = some (some (.ref ae)) → EvT (tTest (tOp (rIn K false) (tOp (rIxT K) (tVar 2) (tC (V.int 0))) (tLst (tCons (tC (V.str "pop")) (tCons (tC (V.str "steal")) tNil))))) σ Hm e.isRe := fun em h2 => et_is (et_test (ev_inLs (ev_op (ev_var h2) ev_c (rv_ixT (stE em) e.at0)) (el_lst (ea_cons ev_c (ea_cons ev_c ea_nil)) (by decide)) rfl rfl)) e.isRe_eq
    have nne : ∀ {i j : Nat} {x y : Str}, ws[i]? = some x → ws[j]? = some y → i ≠ j → x ≠ y := fun h1 h2 n z => n (by
      subst z
      exact (List.getElem?_inj (List.getElem?_eq_some_iff.mp h1).1 wnd).mp (h1.trans h2.symm))
    have in1 : ∀ {S : List Addr} {Hm : Hp}, Ex H3 Hm → KN [c1, c2, c3, c5] H3 Hm := fun em => kn_ex em
    have old2 : ∀ {Hm : Hp}, Ex H Hm → ∀ y ∈ n2, (¬ y ∈ L.flatMap res ∧ u2 y = .non) ∨ AtP En.isRe ws (L.set k (es ++ [e])) Hm y (u2 y) := fun em y hy => (f2 y hy).imp id fun z => (z.more hes).ex em
    have ll : ∀ es0 ∈ L, (leftOf L es0).length ≤ 60 := fun es0 hm => by
      have := left_le L es0
      have := pus_len es0
      have := (v.ent es0 hm).1
      omega
    have ol : (opn es).length ≤ 60 := Nat.le_trans (opn_len es) es60
    have opop : ∀ x, (opn es).erase x = (opn es).filter fun y => decide (y ≠ x) := fun x => by
      have nd := (opn_nd (nd_flat (g := En.pu) v.pu (List.mem_of_getElem? hes))).1
      rw [List.Nodup.erase_eq_filter nd x]
      refine List.filter_congr fun y _ => ?_
      by_cases c : y = x <;> simp [c]
    cases e with
    | size m =>
      refine q_if (b := false) (tst E3 rfl (En.isPu_eq (.size m))) (fun z => nomatch z) fun _ H4 e4 => ?_
      refine q_if (b := false) (tin (exl (kn_ex e4)) rfl) (fun z => nomatch z) fun _ H5 e5 => ?_
      refine q_if (b := false) (tst (exl (kn_ex (e4.trans e5))) rfl (En.isPo_eq (.size m))) (fun z => nomatch z) fun _ H6 e6 => ?_
      refine q_if (b := false) (tst (exl (kn_ex (e4.trans (e5.trans e6)))) rfl (En.isSt_eq (.size m))) (fun z => nomatch z) fun _ H7 e7 => ?_
      have E7 := e4.trans (e5.trans (e6.trans e7))
      have em : Ex H H7 := exl (kn_ex E7)
      rw [show (En.size m).pu = [] from rfl, List.append_nil] at fp
      rw [show (En.size m).re = [] from rfl, List.append_nil] at fr
      refine fin H7 a4 _ _ _ _ n1 n2 n3 n5 u1 u2 u3 u5 em (E7 _ _ g1) (p1.trans fp.symm) (pm em) (E7 _ _ g2) (p2.trans fp.symm) (fun y hy => (old2 em y hy).imp (fun z => ⟨fun h => z.1 (fr.mem_iff.mp h), z.2⟩) id) (E7 _ _ g3) p3 (fun i x es' h1 h2 => ?_) ?_ (E7 _ _ g5) p5 (fun i x es' h1 h2 => ?_)
      · obtain ⟨es0, h3, h4'⟩ := same rfl h2
        obtain ⟨r, c, _, d⟩ := f3 i x es0 h1 h3
        refine ⟨r, c, ?_⟩
        rw [left_no rfl hes, lpus h4']
        exact em _ _ d
      · rw [opn_snoc]
        exact em _ _ h4
      · obtain ⟨es0, h3, h4'⟩ := same rfl h2
        obtain ⟨r, c, _, d⟩ := f5 i x es0 h1 h3
        refine ⟨r, c, ?_⟩
        rw [stolen_no rfl hes, spus h4']
        exact em _ _ d
    | push x =>
      have hiv : iv = .str x := hit rfl
      subst hiv
      have xp := fresh_push v hes v2
      have xr : x ∉ L.flatMap res := fun h => xp (v.rep h)
      have xs : x ∉ L.flatMap sts := fun h => xr ((stl_res L).subset h)
      refine q_if (b := true) (tst E3 rfl (En.isPu_eq (.push x))) (fun _ H4 e4 => ?_) (fun z => nomatch z)
      refine q_setTwo (a := c1) (b := c2) rfl rfl rfl rfl rfl (e4 _ _ g1) (e4 _ _ g2) c12 (fun h => xp (p1.mem_iff.mp h)) (fun h => xp (p2.mem_iff.mp h)) (by omega) (by omega) fun H5 kn5 j1 j2 => ?_
      obtain ⟨r0, hr0, _, hr1⟩ := f3 k w es hk hes
      have k45 : KN [c1, c2, c3, c5] H3 H5 := (kn_ex e4).trans (sub4 (fun s hs => by simp at hs ⊢; rcases hs with h | h <;> simp [h]) kn5)
      have em5 := exl k45
      have j3 : H5 c3 = some (.dK (KsV n3 u3)) := kn5 _ _ (by simp [c13.symm, c23.symm]) (e4 _ _ g3)
      have j5 : H5 c5 = some (.dK (KsV n5 u5)) := kn5 _ _ (by simp [c15.symm, c25.symm]) (e4 _ _ g5)
      refine s_setLeft (c := c3) (r0 := r0) (r4 := a4) (w := w) (x := x) rfl rfl rfl rfl rfl j3 nd3 (p3.mem_iff.mpr (List.mem_of_getElem? hk)) hr0 (em5 _ _ hr1) (em5 _ _ h4) (by rw [List.length_map]; have := ll es (List.mem_of_getElem? hes); omega) (by rw [List.length_map]; omega) (by omega) fun r1 r2 H6 kn6 i3 i1 i2 => ?_
      have em6 : Ex H H6 := exl (k45.trans (sub4 (fun s hs => by simp at hs ⊢; simp [hs]) kn6))
      dsimp only [List.set]
      refine q_if (b := false) (tin em6 rfl) (fun z => nomatch z) fun _ H7 e7 => ?_
      refine q_if (b := false) (tst (em6.trans e7) rfl (En.isPo_eq (.push x))) (fun z => nomatch z) fun _ H8 e8 => ?_
      refine q_if (b := false) (tst ((em6.trans e7).trans e8) rfl (En.isSt_eq (.push x))) (fun z => nomatch z) fun _ H9 e9 => ?_
      have E9 := e7.trans (e8.trans e9)
      have em : Ex H H9 := em6.trans E9
      rw [show (En.push x).pu = [x] from rfl] at fp
      rw [show (En.push x).re = [] from rfl, List.append_nil] at fr
      refine fin H9 r2 _ _ _ _ (n1 ++ [x]) (n2 ++ [x]) n3 n5 (updV u1 x (.ref pt)) (updV u2 x .non) (updV u3 w (.ref r1)) u5 em (E9 _ _ (kn6 _ _ (by simp [c13]) j1)) ((p1.append_right [x]).trans fp.symm) (fun y hy => ?_) (E9 _ _ (kn6 _ _ (by simp [c23]) j2)) ((p2.append_right [x]).trans fp.symm) (fun y hy => ?_) (E9 _ _ i3) p3 (fun i x' es' h1 h2 => ?_) ?_ (E9 _ _ (kn6 _ _ (by simp [c35.symm]) j5)) p5 (fun i x' es' h1 h2 => ?_)
      · rcases List.mem_append.mp hy with hy | hy
        · rw [updV_ne (fun z => xp (p1.mem_iff.mp (by rw [← z]; exact hy)))]
          exact pm em y hy
        · rw [List.mem_singleton.mp hy, updV_same]
          exact AtP.last (e := .push x) hes hk rfl (em _ _ hpt)
      · rcases List.mem_append.mp hy with hy | hy
        · rw [updV_ne (fun z => xp (p2.mem_iff.mp (by rw [← z]; exact hy)))]
          exact (old2 em y hy).imp (fun z => ⟨fun h => z.1 (fr.mem_iff.mp h), z.2⟩) id
        · rw [List.mem_singleton.mp hy, updV_same]
          exact Or.inl ⟨fun h => xr (fr.mem_iff.mp h), rfl⟩
      · rcases set_at h2 with ⟨rfl, rfl⟩ | ⟨n, g⟩
        · rw [hk] at h1
          cases h1
          refine ⟨r1, updV_same, ?_⟩
          rw [left_no rfl hes, left_snoc, show (En.push x).pu = [x] from rfl, List.filter_cons, if_pos (by simpa using xr), List.map_append]
          exact E9 _ _ i1
        · obtain ⟨r, c, _, d⟩ := f3 i x' es' h1 g
          refine ⟨r, by rw [updV_ne (nne h1 hk (fun z => n z.symm))]; exact c, ?_⟩
          rw [left_no rfl hes]
          exact em _ _ d
      · rw [opn_snoc]
        show H9 r2 = some (.lst ((opn es ++ [x]).map V.str))
        rw [List.map_append]
        exact E9 _ _ i2
      · rcases set_at h2 with ⟨rfl, rfl⟩ | ⟨n, g⟩
        · obtain ⟨r, c, _, d⟩ := f5 k x' es h1 hes
          refine ⟨r, c, ?_⟩
          rw [stolen_no rfl hes, stolen_snoc, show (En.push x).pu = [x] from rfl, List.filter_cons, if_neg (by simpa using xs)]
          show H9 r = some (.lst ((stolenOf L es ++ []).map V.str))
          rw [List.append_nil]
          exact em _ _ d
        · obtain ⟨r, c, _, d⟩ := f5 i x' es' h1 g
          refine ⟨r, c, ?_⟩
          rw [stolen_no rfl hes]
          exact em _ _ d
    | pop x =>
      have hiv : iv = .str x := hit rfl
      subst hiv
      obtain ⟨j, o, ej, hj, hej, hxj, hd⟩ := owner_at v hes hk v2 (Or.inl rfl)
      obtain ⟨_, rfl, rfl⟩ : (En.pop x = .pop x) ∧ j = k ∧ o = w := by
        rcases hd with h | h
        · exact h
        · cases h.1
      rw [hes] at hej
      cases hej
      have xL : x ∈ L.flatMap pus := List.mem_flatMap.mpr ⟨es, List.mem_of_getElem? hes, hxj⟩
      obtain ⟨r0, hr0, _, hr1⟩ := f3 j o es hk hes
      refine q_if (b := false) (tst E3 rfl (En.isPu_eq (.pop x))) (fun z => nomatch z) fun _ H4 e4 => ?_
      refine q_if (b := true) (tin (exl (kn_ex e4)) rfl) (fun _ H5 e5 => ?_) (fun z => nomatch z)
      have E5 := e4.trans e5
      refine q_asg (v := .str o) (ev_if (b := true) (tst (exl (kn_ex E5)) rfl (En.isPo_eq (.pop x))) (fun _ => ev_var rfl) (fun z => nomatch z)) fun H6 e6 => ?_
      have E6 := E5.trans e6
      refine q_putV (c := c2) (x := x) rfl rfl rfl (E6 _ _ g2) (p2.mem_iff.mpr xL) (by omega) ?_
      have kn7 : KN [c1, c2, c3, c5] H3 (upd H6 c2 (.dK (KsV n2 (updV u2 x (.ref pt))))) := (kn_ex E6).trans (KN.upd (by simp))
      have j2 : (upd H6 c2 (.dK (KsV n2 (updV u2 x (.ref pt))))) c2 = some (.dK (KsV n2 (updV u2 x (.ref pt)))) := upd_same
      have j1 : (upd H6 c2 (.dK (KsV n2 (updV u2 x (.ref pt))))) c1 = some (.dK (KsV n1 u1)) := by rw [upd_ne c12]; exact E6 _ _ g1
      have j3 : (upd H6 c2 (.dK (KsV n2 (updV u2 x (.ref pt))))) c3 = some (.dK (KsV n3 u3)) := by rw [upd_ne c23.symm]; exact E6 _ _ g3
      have j5 : (upd H6 c2 (.dK (KsV n2 (updV u2 x (.ref pt))))) c5 = some (.dK (KsV n5 u5)) := by rw [upd_ne c25.symm]; exact E6 _ _ g5
      generalize upd H6 c2 (.dK (KsV n2 (updV u2 x (.ref pt)))) = H7 at kn7 j1 j2 j3 j5 ⊢
      have em7 := exl kn7
      have w3 : o ∈ n3 := p3.mem_iff.mpr (List.mem_of_getElem? hk)
      have gl := ks_get (f := u3) nd3 w3
      rw [hr0] at gl
      refine s_putL (c := c3) (x := o) rfl (ev_var rfl) (el_nex (x := x) (ev_dget (ev_var rfl) (ev_var rfl) j3 gl) (em7 _ _ hr1) (ll es (List.mem_of_getElem? hes)) (fun _ => rfl) (fun _ => rfl) (fun _ => rfl)) j3 w3 (by omega) fun r1 H8 kn8 i3 i1 => ?_
      have k8 : KN [c1, c2, c3, c5] H3 H8 := kn7.trans (sub4 (fun s hs => by simp at hs ⊢; simp [hs]) kn8)
      have em8 := exl k8
      refine q_if (b := true) (tst em8 rfl (En.isPo_eq (.pop x))) (fun _ H9 e9 => ?_) (fun z => nomatch z)
      refine s_asgL (el_nex (x := x) (ev_var rfl) (e9 _ _ (em8 _ _ h4)) ol (fun _ => rfl) (fun _ => rfl) (fun _ => rfl)) fun r4 HA nA eA hA => ?_
      dsimp only [List.set]
      have E8A := e9.trans eA
      refine q_if (b := false) (tst (em8.trans E8A) rfl (En.isSt_eq (.pop x))) (fun z => nomatch z) fun _ HB eB => ?_
      have E8 := E8A.trans eB
      have em : Ex H HB := em8.trans E8
      rw [show (En.pop x).pu = [] from rfl, List.append_nil] at fp
      rw [show (En.pop x).re = [x] from rfl] at fr
      refine fin HB r4 _ _ _ _ n1 n2 n3 n5 u1 (updV u2 x (.ref pt)) (updV u3 o (.ref r1)) u5 em (E8 _ _ (kn8 _ _ (by simp [c13]) j1)) (p1.trans fp.symm) (pm em) (E8 _ _ (kn8 _ _ (by simp [c23]) j2)) (p2.trans fp.symm) (fun y hy => ?_) (E8 _ _ i3) p3 (fun i x' es' h1 h2 => ?_) ?_ (E8 _ _ (kn8 _ _ (by simp [c35.symm]) j5)) p5 (fun i x' es' h1 h2 => ?_)
      · by_cases c : y = x
        · subst c
          rw [updV_same]
          exact Or.inr (AtP.last (e := .pop y) hes hk rfl (em _ _ hpt))
        · rw [updV_ne c]
          refine (old2 em y hy).imp (fun z => ⟨fun h => ?_, z.2⟩) id
          rcases List.mem_append.mp (fr.mem_iff.mp h) with h | h
          · exact z.1 h
          · exact c (List.mem_singleton.mp h)
      · rcases set_at h2 with ⟨rfl, rfl⟩ | ⟨n, g⟩
        · rw [hk] at h1
          cases h1
          refine ⟨r1, updV_same, ?_⟩
          rw [left_re rfl hes, lpus (M := L) (y := es) (by rw [pus_snoc]; exact List.append_nil _)]
          exact E8 _ _ i1
        · obtain ⟨r, c, _, d⟩ := f3 i x' es' h1 g
          refine ⟨r, by rw [updV_ne (nne h1 hk (fun z => n z.symm))]; exact c, ?_⟩
          have nx : ¬ x ∈ leftOf L es' := fun h => not_in v g hes (fun z => n z.symm) hxj (List.mem_filter.mp h).1
          rw [left_re rfl hes, filter_ne_not nx]
          exact em _ _ d
      · rw [opn_snoc]
        show HB r4 = some (.lst (((opn es).erase x).map V.str))
        rw [opop]
        exact eB _ _ hA
      · obtain ⟨es0, h3, h4'⟩ := same rfl h2
        obtain ⟨r, c, _, d⟩ := f5 i x' es0 h1 h3
        refine ⟨r, c, ?_⟩
        rw [stolen_no rfl hes, spus h4']
        exact em _ _ d
    | steal o x =>
      have hiv : iv = .str x := hit rfl
      subst hiv
      obtain ⟨j, o', ej, hj, hej, hxj, hd⟩ := owner_at v hes hk v2 (Or.inr ⟨o, rfl⟩)
      obtain ⟨eo, njk⟩ : En.steal o x = .steal o' x ∧ j ≠ k := by
        rcases hd with h | h
        · cases h.1
        · exact h
      cases eo
      have xL : x ∈ L.flatMap pus := List.mem_flatMap.mpr ⟨ej, List.mem_of_getElem? hej, hxj⟩
      obtain ⟨r0, hr0, _, hr1⟩ := f3 j o ej hj hej
      obtain ⟨r5, hr5, _, hr6⟩ := f5 j o ej hj hej
      have hej2 : (L.set k (es ++ [.steal o x]))[j]? = some ej := by rw [List.getElem?_set_ne (fun z => njk z.symm)]; exact hej
      obtain ⟨rb, hrb, hrb2⟩ := hbl j o ej hj hej2
      have ej60 := (v.ent _ (List.mem_of_getElem? hej)).1
      refine q_if (b := false) (tst E3 rfl (En.isPu_eq (.steal o x))) (fun z => nomatch z) fun _ H4 e4 => ?_
      refine q_if (b := true) (tin (exl (kn_ex e4)) rfl) (fun _ H5 e5 => ?_) (fun z => nomatch z)
      have E5 := e4.trans e5
      refine q_asg (v := .str o) (ev_if (b := false) (tst (exl (kn_ex E5)) rfl (En.isPo_eq (.steal o x))) (fun z => nomatch z) (fun _ => ev_op (ev_var rfl) ev_c (rv_ixT (stE (exl (kn_ex E5))) rfl))) fun H6 e6 => ?_
      have E6 := E5.trans e6
      refine q_putV (c := c2) (x := x) rfl rfl rfl (E6 _ _ g2) (p2.mem_iff.mpr xL) (by omega) ?_
      have kn7 : KN [c1, c2, c3, c5] H3 (upd H6 c2 (.dK (KsV n2 (updV u2 x (.ref pt))))) := (kn_ex E6).trans (KN.upd (by simp))
      have j2 : (upd H6 c2 (.dK (KsV n2 (updV u2 x (.ref pt))))) c2 = some (.dK (KsV n2 (updV u2 x (.ref pt)))) := upd_same
      have j1 : (upd H6 c2 (.dK (KsV n2 (updV u2 x (.ref pt))))) c1 = some (.dK (KsV n1 u1)) := by rw [upd_ne c12]; exact E6 _ _ g1
      have j3 : (upd H6 c2 (.dK (KsV n2 (updV u2 x (.ref pt))))) c3 = some (.dK (KsV n3 u3)) := by rw [upd_ne c23.symm]; exact E6 _ _ g3
      have j5 : (upd H6 c2 (.dK (KsV n2 (updV u2 x (.ref pt))))) c5 = some (.dK (KsV n5 u5)) := by rw [upd_ne c25.symm]; exact E6 _ _ g5
      generalize upd H6 c2 (.dK (KsV n2 (updV u2 x (.ref pt)))) = H7 at kn7 j1 j2 j3 j5 ⊢
      have em7 := exl kn7
      have w3 : o ∈ n3 := p3.mem_iff.mpr (List.mem_of_getElem? hj)
      have w5 : o ∈ n5 := p5.mem_iff.mpr (List.mem_of_getElem? hj)
      have gl := ks_get (f := u3) nd3 w3
      rw [hr0] at gl
      have gs := ks_get (f := u5) nd5 w5
      rw [hr5] at gs
      refine s_putL (c := c3) (x := o) rfl (ev_var rfl) (el_nex (x := x) (ev_dget (ev_var rfl) (ev_var rfl) j3 gl) (em7 _ _ hr1) (ll ej (List.mem_of_getElem? hej)) (fun _ => rfl) (fun _ => rfl) (fun _ => rfl)) j3 w3 (by omega) fun r1 H8 kn8 i3 i1 => ?_
      have k8 : KN [c1, c2, c3, c5] H3 H8 := kn7.trans (sub4 (fun s hs => by simp at hs ⊢; simp [hs]) kn8)
      have em8 := exl k8
      have i5 : H8 c5 = some (.dK (KsV n5 u5)) := kn8 _ _ (by simp [c35.symm]) j5
      refine q_if (b := false) (tst em8 rfl (En.isPo_eq (.steal o x))) (fun z => nomatch z) fun _ H9 e9 => ?_
      refine q_if (b := true) (tst (em8.trans e9) rfl (En.isSt_eq (.steal o x))) (fun _ HA eA => ?_) (fun z => nomatch z)
      have E8A := e9.trans eA
      have sl := stolen_le L ej
      have pl := pus_len ej
      refine q_asgL (xs := (stolenOf L ej ++ [x]).map V.str) ?_ fun tk HB nB eB hB => ?_
      · rw [List.map_append]
        exact el_cat (ev_dget (ev_var rfl) (ev_op (ev_var rfl) ev_c (rv_ixT (stE (em8.trans E8A)) rfl)) (E8A _ _ i5) gs) (E8A _ _ (em8 _ _ hr6)) (el_lst (ea_cons (ev_var rfl) ea_nil) (by show 1 ≤ 100000; decide)) (by rw [List.length_map, List.length_map, List.length_singleton]; omega)
      dsimp only [List.set]
      have E8B := E8A.trans eB
      have emB := em8.trans E8B
      refine s_putL (c := c5) (x := o) rfl (ev_op (ev_var rfl) ev_c (rv_ixT (stE emB) rfl)) (el_inT (xs := pus ej) (gs := stolenOf L ej ++ [x]) (ev_dget (ev_var rfl) (ev_op (ev_var rfl) ev_c (rv_ixT (stE emB) rfl)) (emB _ _ hb) hrb) (emB _ _ hrb2) (by omega) hB (fun _ => rfl) (fun _ => rfl) (fun _ => rfl)) (E8B _ _ i5) w5 (by omega) fun r6 HC knC q5 q6 => ?_
      have kC : KN [c1, c2, c3, c5] H8 HC := (kn_ex E8B).trans (sub4 (fun s hs => by simp at hs ⊢; simp [hs]) knC)
      have em : Ex H HC := exl (k8.trans kC)
      have toC : ∀ {b : Addr} {oo : HO}, b ≠ c5 → H8 b = some oo → HC b = some oo := fun n h => knC _ _ (fun z => n (List.mem_singleton.mp z)) (E8B _ _ h)
      rw [show (En.steal o x).pu = [] from rfl, List.append_nil] at fp
      rw [show (En.steal o x).re = [x] from rfl] at fr
      refine fin HC a4 _ _ _ _ n1 n2 n3 n5 u1 (updV u2 x (.ref pt)) (updV u3 o (.ref r1)) (updV u5 o (.ref r6)) em (toC c15 (kn8 _ _ (by simp [c13]) j1)) (p1.trans fp.symm) (pm em) (toC c25 (kn8 _ _ (by simp [c23]) j2)) (p2.trans fp.symm) (fun y hy => ?_) (toC c35 i3) p3 (fun i x' es' h1 h2 => ?_) ?_ q5 p5 (fun i x' es' h1 h2 => ?_)
      · by_cases c : y = x
        · subst c
          rw [updV_same]
          exact Or.inr (AtP.last (e := .steal o y) hes hk rfl (em _ _ hpt))
        · rw [updV_ne c]
          refine (old2 em y hy).imp (fun z => ⟨fun h => ?_, z.2⟩) id
          rcases List.mem_append.mp (fr.mem_iff.mp h) with h | h
          · exact z.1 h
          · exact c (List.mem_singleton.mp h)
      · obtain ⟨es0, h3, h4'⟩ := same rfl h2
        rw [left_re rfl hes, lpus h4']
        by_cases c : i = j
        · subst c
          rw [hj] at h1
          cases h1
          rw [hej] at h3
          cases h3
          exact ⟨r1, updV_same, toC (ne_ld i1 i5) i1⟩
        · obtain ⟨r, c', _, d⟩ := f3 i x' es0 h1 h3
          refine ⟨r, by rw [updV_ne (nne h1 hj c)]; exact c', ?_⟩
          have nx : ¬ x ∈ leftOf L es0 := fun h => not_in v h3 hej c hxj (List.mem_filter.mp h).1
          rw [filter_ne_not nx]
          exact em _ _ d
      · rw [opn_snoc]
        exact em _ _ h4
      · by_cases c : i = j
        · subst c
          rw [hj] at h1
          cases h1
          rw [hej2] at h2
          cases h2
          refine ⟨r6, updV_same, ?_⟩
          rw [stolen_yes rfl hes]
          exact q6
        · obtain ⟨es0, h3, h4'⟩ := same rfl h2
          obtain ⟨r, c', _, d⟩ := f5 i x' es0 h1 h3
          refine ⟨r, by rw [updV_ne (nne h1 hj c)]; exact c', ?_⟩
          have e1' : stolenOf (L.set k (es ++ [.steal o x])) es' = stolenOf L es0 := by
            rw [stolen_yes rfl hes, spus h4', h4']
            unfold stolenOf
            refine List.filter_congr fun y hy => decide_eq_decide.mpr ?_
            rw [List.mem_append, List.mem_filter, List.mem_singleton]
            constructor
            · rintro (z | z)
              · exact of_decide_eq_true z.2
              · exact absurd (by rw [← z]; exact hy) (not_in v h3 hej c hxj)
            · exact fun z => Or.inl ⟨hy, decide_eq_true z⟩
          rw [e1']
          exact em _ _ d
end
end Vx

set_option Elab.async false
set_option linter.all false
set_option maxRecDepth 100000
set_option maxHeartbeats 8000000
namespace Vx
open PySem PySem.Spec PyProof.Rows L2 Evl
/-! repr of what is told -/
inductive AllD (F : V → PyData → List Addr → Prop) : List V → List PyData → List Addr → Prop
  | nil : AllD F [] [] []
  | cons {v d as vs ds bs} : F v d as → AllD F vs ds bs → AllD F (v :: vs) (d :: ds) (as ++ bs)
theorem AllD.mono {F G : V → PyData → List Addr → Prop} (h : ∀ v d as, F v d as → G v d as) : ∀ {vs ds as}, AllD F vs ds as → AllD G vs ds as
  | _, _, _, .nil => .nil
  | _, _, _, .cons a t => .cons (h _ _ _ a) (t.mono h)
def Dt (S : List Addr) (H : Hp) : Nat → V → PyData → List Addr → Prop
  | 0, x, d, as => ((x = .non ∧ d = .none) ∨ (∃ i, x = .int i ∧ d = .int i) ∨ ∃ z, x = .str z ∧ d = .str z) ∧ as = []
  | n + 1, x, d, as => (((x = .non ∧ d = .none) ∨ (∃ i, x = .int i ∧ d = .int i) ∨ ∃ z, x = .str z ∧ d = .str z) ∧ as = []) ∨
    (∃ p vs ds ass, x = .ref p ∧ p ∉ S ∧ H p = some (.lst vs) ∧ d = .list ds ∧ AllD (Dt S H n) vs ds ass ∧ as = p :: ass) ∨
    (∃ p vs ds, x = .ref p ∧ p ∉ S ∧ H p = some (.tup vs) ∧ d = .tuple ds ∧ AllD (Dt S H n) vs ds as) ∨
    ∃ p ns val ds ass, x = .ref p ∧ p ∉ S ∧ H p = some (.dK (KsV ns val)) ∧ d = .dict ((ns.map PyData.str).zip ds) ∧ AllD (Dt S H n) (ns.map val) ds ass ∧ as = p :: ass
theorem Dt.kn {S : List Addr} {H H' : Hp} (k : KN S H H') : ∀ {n : Nat} {x d as}, Dt S H n x d as → Dt S H' n x d as
  | 0, _, _, _, h => h
  | n + 1, _, _, _, h => by
    rcases h with h | ⟨p, vs, ds, ass, h1, h2, h3, h4, h5, h6⟩ | ⟨p, vs, ds, h1, h2, h3, h4, h5⟩ | ⟨p, ns, val, ds, ass, h1, h2, h3, h4, h5, h6⟩
    · exact Or.inl h
    · exact Or.inr (Or.inl ⟨p, vs, ds, ass, h1, h2, k _ _ h2 h3, h4, h5.mono fun _ _ _ z => Dt.kn k z, h6⟩)
    · exact Or.inr (Or.inr (Or.inl ⟨p, vs, ds, h1, h2, k _ _ h2 h3, h4, h5.mono fun _ _ _ z => Dt.kn k z⟩))
    · exact Or.inr (Or.inr (Or.inr ⟨p, ns, val, ds, ass, h1, h2, k _ _ h2 h3, h4, h5.mono fun _ _ _ z => Dt.kn k z, h6⟩))
theorem AllD.some {F : V → PyData → List Addr → Prop} {H : Hp} (h : ∀ v d as, F v d as → ∀ a ∈ as, H a ≠ none) : ∀ {vs ds as}, AllD F vs ds as → ∀ a ∈ as, H a ≠ none
  | _, _, _, .nil => fun _ z => nomatch z
  | _, _, _, .cons a t => fun b hb => by
    rcases List.mem_append.mp hb with hb | hb
    · exact h _ _ _ a b hb
    · exact t.some h b hb
theorem Dt.some {S : List Addr} {H : Hp} : ∀ {n : Nat} {x d as}, Dt S H n x d as → ∀ a ∈ as, H a ≠ none
  | 0, _, _, _, h => by
    rw [h.2]
    exact fun _ z => nomatch z
  | n + 1, _, _, _, h => by
    rcases h with h | ⟨p, vs, ds, ass, h1, h2, h3, h4, h5, rfl⟩ | ⟨p, vs, ds, h1, h2, h3, h4, h5⟩ | ⟨p, ns, val, ds, ass, h1, h2, h3, h4, h5, rfl⟩
    · rw [h.2]
      exact fun _ z => nomatch z
    · intro a ha
      rcases List.mem_cons.mp ha with rfl | ha
      · rw [h3]; exact fun z => by cases z
      · exact h5.some (fun _ _ _ z => Dt.some z) a ha
    · exact h5.some fun _ _ _ z => Dt.some z
    · intro a ha
      rcases List.mem_cons.mp ha with rfl | ha
      · rw [h3]; exact fun z => by cases z
      · exact h5.some (fun _ _ _ z => Dt.some z) a ha
section
variable {X : Cx} {pins : List (Addr × Obj)} {σ : L2.St} {H : Hp} {s : Shared}
theorem reads_all {S : List Addr} {n : Nat} (ih : ∀ x d as u, Dt S H n x d as → RelV x u → Reads s.heap u d as) : ∀ {vs ds as us}, AllD (Dt S H n) vs ds as → Vals vs us → ReadsAll s.heap us ds as
  | _, _, _, _, .nil, .nil => .nil
  | _, _, _, _, .cons a t, .cons r q => ReadsAll.cons (ih _ _ _ _ a r) (reads_all ih t q)
theorem reads_ks {S : List Addr} {n : Nat} (ih : ∀ x d as u, Dt S H n x d as → RelV x u → Reads s.heap u d as) : ∀ {ns : List Str} {val : Str → V} {ds : List PyData} {as : List Addr} {vs : List (Key × Value)} {es : List DictEntry}, AllD (Dt S H n) (ns.map val) ds as → KV (KsV ns val) vs → Pairs (mixKind X.prog X.w) es vs →
      ReadsAll s.heap (es.map (·.key)) (((ns.map PyData.str).zip ds).map (·.1)) [] ∧ ReadsAll s.heap (es.map (·.val)) (((ns.map PyData.str).zip ds).map (·.2)) as
  | [], _, _, _, vs, es, h, kv, pr => by
    cases h
    cases kv
    cases pr
    exact ⟨.nil, .nil⟩
  | w :: ns, val, ds, as, vs, es, h, kv, pr => by
    rw [List.map_cons] at h
    cases h with
    | @cons _ d as1 _ ds as2 hd ht =>
    cases kv with
    | @cons _ q _ qs k t =>
      cases pr with
      | @cons en _ es _ ks vv pr =>
        obtain ⟨k1, k2⟩ := k
        obtain ⟨r1, r2⟩ := reads_ks ih (ns := ns) (val := val) ht t pr
        have hk : keyIs q.1 en.key = true := ks
        have k1' : (Sum.inr w : Key) = q.1 := k1
        rw [← k1'] at hk
        rcases keyIs_shape hk with ⟨i, t2, z, _⟩ | ⟨x, t2, z, hx⟩
        · cases z
        · have z2 : w = x := Sum.inr.inj z
          subst z2
          have hv : RelV (val w) en.val := by
            rw [vv]
            exact k2
          refine ⟨?_, ?_⟩
          · show ReadsAll s.heap (en.key :: es.map (·.key)) (PyData.str w :: ((ns.map PyData.str).zip ds).map (·.1)) []
            rw [hx]
            exact ReadsAll.cons (as := []) (.str w t2) r1
          · exact ReadsAll.cons (ih _ _ _ _ hd hv) r2
theorem reads_atom {h : Heap} {x : V} {d : PyData} {as : List Addr} {u : Value} (a : ((x = .non ∧ d = .none) ∨ (∃ i, x = .int i ∧ d = .int i) ∨ ∃ z, x = .str z ∧ d = .str z) ∧ as = []) (r : RelV x u) : Reads h u d as := by
  obtain ⟨a, rfl⟩ := a
  rcases a with ⟨rfl, rfl⟩ | ⟨i, rfl, rfl⟩ | ⟨z, rfl, rfl⟩
  · cases (show u = Value.none from r)
    exact .none
  · obtain ⟨k, rfl⟩ := r
    exact .int i k
  · obtain ⟨k, rfl⟩ := r
    exact .str z k
theorem reads_dt (I : L2.Inv X pins σ H s) {S : List Addr} : ∀ (n : Nat) (x : V) (d : PyData) (as : List Addr) (u : Value), Dt S H n x d as → RelV x u → Reads s.heap u d as
  | 0, _, _, _, _, h, r => reads_atom h r
  | n + 1, x, d, as, u, h, r => by
    rcases h with h | ⟨p, vs, ds, ass, rfl, h2, h3, rfl, h5, rfl⟩ | ⟨p, vs, ds, rfl, h2, h3, rfl, h5⟩ | ⟨p, ns, val, ds, ass, rfl, h2, h3, rfl, h5, rfl⟩
    · exact reads_atom h r
    · cases (show u = Value.ref p from r)
      obtain ⟨its, m, rv, g, _⟩ := I.lst h3
      exact Reads.list g rfl rfl (by simpa using reads_all (reads_dt I n) h5 rv)
    · cases (show u = Value.ref p from r)
      obtain ⟨its, rv, ⟨o, g1, g2, m, g3⟩, _⟩ := I.tuple (X := X) (Or.inl (Or.inl h3))
      exact Reads.tuple g1 g2 g3 (by simpa using reads_all (reads_dt I n) h5 rv)
    · cases (show u = Value.ref p from r)
      obtain ⟨_, _, vs, kv, o, es, ep, g1, g2, g3, _, pr, _⟩ := dk_rd I.hok (Or.inl h3)
      obtain ⟨r1, r2⟩ := reads_ks (X := X) (reads_dt I n) h5 kv pr
      exact Reads.dict (as := []) g1 g2.1 g3 r1 r2
end
def rReprT (K : PySem.W.Frag) : List V → Hp → VK → Prop := fun xs H Q => ∃ (S : List Addr) (n : Nat) (p : Addr) (d : PyData) (as : List Addr), xs = [.ref p] ∧ Dt S H n (.ref p) d as ∧ Small d 5 1000000 ∧ Q (.str d.shown) H
theorem call_reprT {X : Cx} {K : PySem.W.Frag} (hK : X.K = K) (quiet : X.A.guards = some []) (room : X.A.units + 64 < cLine) (hs : ∃ o, X.base.get? sysModules = some o) : CallR X (.builtin "repr") (rReprT K) := by
  intro pins s σ H xs us Q I r h
  obtain ⟨S, n, p, d, as, rfl, hd, sm, q⟩ := h
  obtain ⟨u, rfl, ru⟩ := vals1 r
  have rd := reads_dt I n _ _ _ _ hd ru
  cases ru
  obtain ⟨o, ho⟩ := hs
  have off : H sysModules = none := (I.bs _ _ ho).2
  have dp := sm.dp
  refine repr_of_reads' (h₀ := s.heap) rd sm.sh (fun _ hm => hd.some _ hm off) quiet (by omega) (fun _ _ e => e) (fun h2 t tk kp => ⟨.str d.shown, H, I.kept kp, ⟨t, rfl⟩, q⟩)
    (PyData.shown_fits (B := 13) (by decide) (by decide) sm.sl (by have := sm.wt; omega))
/-! sizes -/
theorem all_dt {S : List Addr} {H : Hp} {n dp wt : Nat} : ∀ {vs : List V}, (∀ v ∈ vs, ∃ d as, Dt S H n v d as ∧ Small d dp wt) → ∃ ds as, AllD (Dt S H n) vs ds as ∧ ds.length = vs.length ∧ (∀ d ∈ ds, Small d dp wt) ∧ SmallAll ds dp ((wt + 1) * vs.length)
  | [], _ => ⟨[], [], .nil, rfl, (fun _ z => nomatch z), small_nil.le (by omega) (by omega)⟩
  | v :: vs, h => by
    obtain ⟨d, as, h1, h2⟩ := h v (List.mem_cons_self ..)
    obtain ⟨ds, bs, h3, h4, h5, h6⟩ := all_dt (vs := vs) fun x hx => h x (List.mem_cons_of_mem _ hx)
    refine ⟨d :: ds, as ++ bs, .cons h1 h3, by rw [List.length_cons, List.length_cons, h4], fun x hx => ?_, (small_cons h2 h6).le (Nat.le_refl _) ?_⟩
    · rcases List.mem_cons.mp hx with rfl | hx
      · exact h2
      · exact h5 x hx
    · rw [List.length_cons, Nat.mul_succ]
      omega
theorem small_kv {dp wt : Nat} : ∀ {ns : List Str} {ds : List PyData}, (∀ x ∈ ns, IsNm x) → (∀ d ∈ ds, Small d dp wt) →
    PyData.showableKv ((ns.map PyData.str).zip ds) = true ∧ PyData.leavesShortKv 13 ((ns.map PyData.str).zip ds) = true ∧ PyData.depthKv ((ns.map PyData.str).zip ds) ≤ dp ∧ PyData.weightKv ((ns.map PyData.str).zip ds) ≤ (wt + 20) * ns.length
  | [], ds, _, _ => ⟨rfl, rfl, Nat.zero_le _, Nat.zero_le _⟩
  | w :: ns, [], _, _ => ⟨rfl, rfl, Nat.zero_le _, Nat.zero_le _⟩
  | w :: ns, d :: ds, hw, hd => by
    obtain ⟨a1, a2, a3, a4⟩ := small_kv (ns := ns) (ds := ds) (fun x hx => hw x (List.mem_cons_of_mem _ hx)) fun x hx => hd x (List.mem_cons_of_mem _ hx)
    have k := small_str (hw w (List.mem_cons_self ..))
    have v := hd d (List.mem_cons_self ..)
    rw [List.map_cons, List.zip_cons_cons]
    refine ⟨by simp only [PyData.showableKv, k.sh, v.sh, a1, Bool.and_self], by simp only [PyData.leavesShortKv, k.sl, v.sl, a2, Bool.and_self], ?_, ?_⟩
    · simp only [PyData.depthKv]
      have := k.dp
      have := v.dp
      omega
    · simp only [PyData.weightKv]
      have := k.wt
      have := v.wt
      rw [List.length_cons, Nat.mul_succ]
      omega
theorem small_dictD {dp wt : Nat} {ns : List Str} {ds : List PyData} (h1 : ∀ x ∈ ns, IsNm x) (h2 : ∀ d ∈ ds, Small d dp wt) : Small (.dict ((ns.map PyData.str).zip ds)) (dp + 1) ((wt + 20) * ns.length) := by
  obtain ⟨a1, a2, a3, a4⟩ := small_kv h1 h2
  exact ⟨by simp only [PyData.showable]; exact a1, by simp only [PyData.leavesShort]; exact a2, by simp only [PyData.depth]; omega, by simp only [PyData.weight]; exact a4⟩
theorem dt_strs {S : List Addr} {H : Hp} {n : Nat} : ∀ {xs : List Str}, AllD (Dt S H n) (xs.map V.str) (xs.map PyData.str) []
  | [] => .nil
  | x :: xs => AllD.cons (as := []) (bs := []) (by cases n <;> first | exact ⟨Or.inr (Or.inr ⟨x, rfl, rfl⟩), rfl⟩ | exact Or.inl ⟨Or.inr (Or.inr ⟨x, rfl, rfl⟩), rfl⟩) dt_strs
theorem small_strs : ∀ {xs : List Str}, (∀ x ∈ xs, IsNm x) → SmallAll (xs.map PyData.str) 0 (9 * xs.length)
  | [], _ => small_nil.le (Nat.le_refl _) (Nat.zero_le _)
  | x :: xs, h => (small_cons (small_str (h x (List.mem_cons_self ..))) (small_strs fun y hy => h y (List.mem_cons_of_mem _ hy))).le (Nat.le_refl _) (by rw [List.length_cons]; omega)
theorem dt_lst {S : List Addr} {H : Hp} {p : Addr} {xs : List Str} (n : Nat) (hp : p ∉ S) (h : H p = some (.lst (xs.map V.str))) (hn : ∀ x ∈ xs, IsNm x) (hl : xs.length ≤ 60) : ∃ d as, Dt S H (n + 1) (.ref p) d as ∧ Small d 1 540 :=
  ⟨_, _, Or.inr (Or.inl ⟨p, _, _, _, rfl, hp, h, rfl, dt_strs, rfl⟩), (small_strs hn).list.le (Nat.le_refl _) (by omega)⟩
theorem dt_place {S : List Addr} {H : Hp} {b : Addr} {w : Str} {i : Nat} (n : Nat) (hb : b ∉ S) (h : H b = some (.tup [.str w, .int (i : Int)])) (hw : IsNm w) (hi : i ≤ 60) : ∃ d as, Dt S H (n + 1) (.ref b) d as ∧ Small d 1 18 := by
  refine ⟨_, [], Or.inr (Or.inr (Or.inl ⟨b, _, [.str w, .int (i : Int)], rfl, hb, h, rfl, ?_⟩)), (small_cons (small_str hw) (small_cons (small_int (i := (i : Int)) (by omega) (by omega)) small_nil)).tuple.le (Nat.le_refl _) (by decide)⟩
  refine AllD.cons (as := []) (bs := []) ?_ (AllD.cons (as := []) (bs := []) ?_ .nil)
  · cases n with
    | zero => exact ⟨Or.inr (Or.inr ⟨w, rfl, rfl⟩), rfl⟩
    | succ n => exact Or.inl ⟨Or.inr (Or.inr ⟨w, rfl, rfl⟩), rfl⟩
  · cases n with
    | zero => exact ⟨Or.inr (Or.inl ⟨_, rfl, rfl⟩), rfl⟩
    | succ n => exact Or.inl ⟨Or.inr (Or.inl ⟨_, rfl, rfl⟩), rfl⟩
theorem small_none : Small .none 0 18 := ⟨by simp only [PyData.showable], by simp only [PyData.leavesShort], by simp only [PyData.depth]; omega, by simp only [PyData.weight]; omega⟩
theorem AtP.dt {S : List Addr} {H : Hp} {p : En → Bool} {ws : List Str} {L : List (List En)} {y : Str} {x : V} (n : Nat) (v : Vlog 60 ws L) (ht : ∀ t xs, H t = some (.tup xs) → t ∉ S) (h : AtP p ws L H y x) : ∃ d as, Dt S H (n + 1) x d as ∧ Small d 1 18 := by
  obtain ⟨b, k, i, w, es, e, rfl, h1, h2, h3, _, _, h6⟩ := h
  refine dt_place n (ht _ _ h6) h6 (v.wk.2.2.2 w (List.mem_of_getElem? h1)) ?_
  · have := (v.ent _ (List.mem_of_getElem? h2)).1
    have := (List.getElem?_eq_some_iff.mp h3).1
    omega
theorem dt_dict {S : List Addr} {H : Hp} {p : Addr} {ns : List Str} {val : Str → V} {n dp wt : Nat} (hp : p ∉ S) (h : H p = some (.dK (KsV ns val))) (hn : ∀ x ∈ ns, IsNm x) (hv : ∀ y ∈ ns, ∃ d as, Dt S H n (val y) d as ∧ Small d dp wt) : ∃ d as, Dt S H (n + 1) (.ref p) d as ∧ Small d (dp + 1) ((wt + 20) * ns.length) := by
  obtain ⟨ds, as, h1, h2, h3, h4⟩ := all_dt (vs := ns.map val) fun x hx => by
    obtain ⟨y, hy, rfl⟩ := List.mem_map.mp hx
    exact hv y hy
  exact ⟨_, _, Or.inr (Or.inr (Or.inr ⟨p, ns, val, ds, as, rfl, hp, h, rfl, h1, rfl⟩)), small_dictD hn h3⟩
theorem ListD.dt {F : List (List En) → List En → List Str} {S : List Addr} {H : Hp} {f : Addr} {ws : List Str} {L : List (List En)} (v : Vlog 60 ws L) (hF : ∀ es, (F L es).Sublist (pus es)) (hs : f ∉ S) (h : ListD F S H f ws L) : ∃ d as, Dt S H 2 (.ref f) d as ∧ Small d 2 3360 := by
  obtain ⟨ns, val, h1, h2, h3, h4⟩ := h
  obtain ⟨d, as, g1, g2⟩ := dt_dict (n := 1) (dp := 1) (wt := 540) hs h1 (fun x hx => v.wk.2.2.2 x (h2.mem_iff.mp hx)) (fun y hy => by
    obtain ⟨k, hk⟩ := List.mem_iff_getElem?.mp (h2.mem_iff.mp hy)
    obtain ⟨es, hes⟩ : ∃ es, L[k]? = some es := ⟨_, List.getElem?_eq_getElem (by rw [v.len]; exact (List.getElem?_eq_some_iff.mp hk).1)⟩
    obtain ⟨r, a, n, b⟩ := h4 k y es hk hes
    rw [a]
    have q1 := (hF es).length_le
    have q2 := pus_len es
    have q3 := (v.ent _ (List.mem_of_getElem? hes)).1
    exact dt_lst 0 n b (fun x hx => v.pn (List.mem_flatMap.mpr ⟨es, List.mem_of_getElem? hes, (hF es).subset hx⟩)) (by omega))
  refine ⟨d, as, g1, g2.le (Nat.le_refl _) ?_⟩
  have : ns.length ≤ 6 := by rw [h2.length_eq]; exact v.wk.2.1
  omega
theorem Told.dt {S : List Addr} {H : Hp} {p : Addr} {ws : List Str} {L : List (List En)} {es : List En} (v : Vlog 60 ws L) (hes : es ∈ L) (ht : ∀ t xs, H t = some (.tup xs) → t ∉ S) (h : Told S H p ws L es) : ∃ d as, Dt S H 3 (.ref p) d as ∧ Small d 5 1000000 := by
  obtain ⟨a1, a2, a3, a4, a5, h0, hp, ⟨n1, u1, c1, p1, _, f1⟩, ⟨n2, u2, c2, p2, _, f2⟩, h3, ⟨n4, h4⟩, h5, m1, m2, m3, m5⟩ := h
  obtain ⟨_, l1⟩ := pus360 v p1
  obtain ⟨_, l2⟩ := pus360 v p2
  obtain ⟨d1, s1, g1, w1⟩ := dt_dict (n := 1) (dp := 1) (wt := 18) m1 c1 (fun x hx => v.pn (p1.mem_iff.mp hx)) (fun y hy => (f1 y hy).dt 0 v ht)
  obtain ⟨d2, s2, g2, w2⟩ := dt_dict (n := 1) (dp := 1) (wt := 18) m2 c2 (fun x hx => v.pn (p2.mem_iff.mp hx)) (fun y hy => by
    rcases f2 y hy with ⟨_, z⟩ | z
    · rw [z]
      exact ⟨.none, [], Or.inl ⟨Or.inl ⟨rfl, rfl⟩, rfl⟩, small_none.le (by omega) (Nat.le_refl _)⟩
    · exact z.dt 0 v ht)
  obtain ⟨d3, s3, g3, w3⟩ := h3.dt v (fun es => List.filter_sublist) m3
  obtain ⟨d5, s5, g5, w5⟩ := h5.dt v (fun es => List.filter_sublist) m5
  have ol := opn_len es
  have el := (v.ent _ hes).1
  have od := opn_nd (nd_flat (g := En.pu) v.pu hes)
  obtain ⟨d4, s4, g4, w4⟩ := dt_lst (xs := opn es) 1 n4 h4 (fun x hx => v.pn (List.mem_flatMap.mpr ⟨es, hes, od.2 x hx⟩)) (by omega)
  refine ⟨.list [d1, d2, d3, d4, d5], _, Or.inr (Or.inl ⟨p, _, _, _, rfl, hp, h0, rfl, .cons g1 (.cons g2 (.cons g3 (.cons g4 (.cons g5 .nil)))), rfl⟩), ?_⟩
  refine ((small_cons (w1.le (show 2 ≤ 4 by omega) (Nat.le_refl _)) (small_cons (w2.le (show 2 ≤ 4 by omega) (Nat.le_refl _)) (small_cons (w3.le (show 2 ≤ 4 by omega) (Nat.le_refl _)) (small_cons (w4.le (show 1 ≤ 4 by omega) (Nat.le_refl _)) (small_cons (w5.le (show 2 ≤ 4 by omega) (Nat.le_refl _)) (small_nil.le (Nat.zero_le _) (Nat.le_refl _))))))).list).le (Nat.le_refl _) ?_
  omega
end Vx

set_option Elab.async false
set_option linter.all false
set_option maxRecDepth 100000
set_option maxHeartbeats 8000000
namespace Vx
open PySem PySem.Spec PyProof.Rows L2 Evl
/-! logs that grow within others -/
def Pre (R W : List (List En)) : Prop := R.length = W.length ∧ ∀ (i : Nat) r w, R[i]? = some r → W[i]? = some w → r = w.take r.length
section
variable {zn : List Str} {R W : List (List En)} {k : Nat} {x : Str} {es wl : List En} {e : En}
theorem fresh_g {g : En → List Str} {y : Str} (nd : (W.flatMap fun es => es.flatMap g).Nodup) (pr : Pre R W) (hes : R[k]? = some es) (hw : W[k]? = some wl) (he : wl[es.length]? = some e) (hy : y ∈ g e) : y ∉ R.flatMap fun es => es.flatMap g := fun h => by
  obtain ⟨r, h1, h2⟩ := List.mem_flatMap.mp h
  obtain ⟨i, hi⟩ := List.mem_iff_getElem?.mp h1
  obtain ⟨w', hw'⟩ : ∃ w', W[i]? = some w' := ⟨_, List.getElem?_eq_getElem (by rw [← pr.1]; exact (List.getElem?_eq_some_iff.mp hi).1)⟩
  have er := pr.2 i r w' hi hw'
  obtain ⟨e', h3, h4⟩ := List.mem_flatMap.mp h2
  have h5 : e' ∈ w' := by
    rw [er] at h3
    exact List.mem_of_mem_take h3
  have ik : i = k := uniq_flat (g := fun es : List En => es.flatMap g) nd hw' hw (List.mem_flatMap.mpr ⟨e', h5, h4⟩) (List.mem_flatMap.mpr ⟨e, List.mem_of_getElem? he, hy⟩)
  subst ik
  rw [hw] at hw'
  cases hw'
  rw [hes] at hi
  cases hi
  obtain ⟨j, hj⟩ := List.mem_iff_getElem?.mp h3
  have jl := (List.getElem?_eq_some_iff.mp hj).1
  rw [er, List.getElem?_take_of_lt jl] at hj
  have := uniq_flat (nd_flat (g := g) nd (List.mem_of_getElem? hw)) hj he h4 hy
  omega
theorem grow (vW : Vlog 60 zn W) (vR : Vlog 60 zn R) (pr : Pre R W) (hk : zn[k]? = some x) (hes : R[k]? = some es) (hw : W[k]? = some wl) (he : wl[es.length]? = some e) (h60 : es.length < 60) (hst : ∀ o y, e = .steal o y → y ∈ R.flatMap pus) : Vlog 60 zn (R.set k (es ++ [e])) ∧ Pre (R.set k (es ++ [e])) W := by
  have eok := (vW.ent _ (List.mem_of_getElem? hw)).2 e (List.mem_of_getElem? he)
  have er := pr.2 k es wl hes hw
  refine ⟨vR.app hes h60 eok ?_ ?_ (fun y hy => ?_) (fun w o y hw2 hy => ?_), by rw [List.length_set]; exact pr.1, fun i r w h1 h2 => ?_⟩
  · refine List.nodup_append.mpr ⟨vR.pu, ?_, fun a ha b hb z => fresh_g (g := En.pu) vW.pu pr hes hw he hb (by rw [← z]; exact ha)⟩
    cases e <;> simp [En.pu]
  · refine List.nodup_append.mpr ⟨vR.re, ?_, fun a ha b hb z => fresh_g (g := En.re) vW.re pr hes hw he hb (by rw [← z]; exact ha)⟩
    cases e <;> simp [En.re]
  · subst hy
    obtain ⟨j, h1, h2⟩ := vW.own k wl es.length y hw he
    rw [er]
    refine List.mem_of_getElem? (i := j) ?_
    rw [List.getElem?_take_of_lt h1]
    exact h2
  · subst hy
    obtain ⟨a, j, ej, g1, g2, g3⟩ := vW.st k wl w o y hw hw2 (List.mem_of_getElem? he)
    refine ⟨a, ?_⟩
    obtain ⟨r, h1, h2⟩ := List.mem_flatMap.mp (hst o y rfl)
    obtain ⟨i, hi⟩ := List.mem_iff_getElem?.mp h1
    obtain ⟨w', hw'⟩ : ∃ w', W[i]? = some w' := ⟨_, List.getElem?_eq_getElem (by rw [← pr.1]; exact (List.getElem?_eq_some_iff.mp hi).1)⟩
    have e2 := pr.2 i r w' hi hw'
    have m : En.push y ∈ w' := by
      have := mem_pus.mp h2
      rw [e2] at this
      exact List.mem_of_mem_take this
    have := push_one vW.pu hw' g2 m g3
    subst this
    exact ⟨i, r, g1, hi, mem_pus.mp h2⟩
  · rcases set_at h1 with ⟨rfl, rfl⟩ | ⟨n, g⟩
    · rw [hw] at h2
      cases h2
      have : wl.take (es.length + 1) = wl.take es.length ++ [e] := by
        rw [List.take_add_one, he]
        rfl
      rw [List.length_append, List.length_singleton, this, ← er]
    · exact pr.2 i r w g h2
end
theorem el_names {K : PySem.W.Frag} {σ : L2.St} {H : Hp} {tl : TE} {t : TT} {p : Addr} {xs : List Str} {j : Nat} (g : Str → Bool) (h : Ev tl σ H (.ref p)) (hp : H p = some (.lst (xs.map V.str))) (hz : xs.length ≤ 100) (hj : ∀ y, ((wipe σ [j]).set j (some y))[j]? = some (some y)) (hw : ∀ y, wipe ((wipe σ [j]).set j (some y)) [j] = wipe σ [j])
    (ht : ∀ H1, Ex H H1 → ∀ x ∈ xs, EvT t ((wipe σ [j]).set j (some (.str x))) H1 (g x)) : EvL (tLc (iList K tl) (gName j) t (tVar j) [j]) σ H ((xs.filter g).map V.str) := by
  have key : given (xs.map V.str).length (fun i => g (xs.getD i "")) (fun i => V.str (xs.getD i "")) = (xs.filter g).map V.str := by
    rw [List.length_map]
    exact given_list xs "" g V.str
  rw [← key]
  have at_ : ∀ {i : Nat} {v : V}, (xs.map V.str)[i]? = some v → ∃ y : Str, v = .str y ∧ xs[i]? = some y := fun {i v} hx => by
    rw [List.getElem?_map] at hx
    obtain ⟨y, hy, rfl⟩ := Option.map_eq_some_iff.mp hx
    exact ⟨y, rfl, hy⟩
  refine el_lcL _ _ h (sq_of hp) (by rw [List.length_map]; omega) hw (fun i v H1 e1 hx => ?_) (fun i v H1 e1 hx hf => ?_)
  · obtain ⟨y, rfl, hy⟩ := at_ hx
    rw [getD_at hy]
    exact ht H1 e1 y (List.mem_of_getElem? hy)
  · obtain ⟨y, rfl, hy⟩ := at_ hx
    rw [getD_at hy]
    exact ev_var (hj _)
structure Gr (s pn dn rw bo kd : Addr) (zn : List Str) (rps bps : List Addr) (Hs H' : Hp) (n : Nat) (R : List (List En)) : Prop where
  kn : KN (s :: dn :: kd :: (rps ++ bps)) Hs H'
  src : Src H' s n
  don : H' dn = some (.dK (KsV zn fun x => .int ((lgOf zn R x).length : Int)))
  row : HL H' rw zn rps R
  bgt : ∀ (i : Nat) p es, bps[i]? = some p → R[i]? = some es → H' p = some (.lst ((pus es).map V.str))
  knw : ∃ ks, H' kd = some (.dK (KsV ks fun _ => .bl true)) ∧ ks.Perm (R.flatMap pus)
theorem q_if2 {t : TT} {tu tw tz : TS} {D : Ends} {σ : L2.St} {H : Hp} {b : Bool} (C : Hp → Prop) (h : EvT t σ H b) (k : ∀ HK, C HK → tz D σ HK) (h1 : b = true → ∀ H1, Ex H H1 → (∀ HK, C HK → tz D σ HK) → tu { nx := tz D, rt := D.rt, bk := D.bk, ct := D.ct } σ H1) (h2 : b = false → ∀ H1, Ex H H1 → (∀ HK, C HK → tz D σ HK) → tw { nx := tz D, rt := D.rt, bk := D.bk, ct := D.ct } σ H1) : tSeq (tIfS t tu tw) tz D σ H :=
  q_if h (fun hb H1 e => h1 hb H1 e k) fun hb H1 e => h2 hb H1 e k
theorem HL.kn2 {S : List Addr} {d : Addr} {H H' : Hp} {ws : List Str} {ps : List Addr} {L : List (List En)} (h : HL H d ws ps L) (k : KN S H H') (hd : d ∉ S) (hp : ∀ p ∈ ps, p ∉ S) (ht : ∀ t xs, H t = some (.tup xs) → t ∉ S) : HL H' d ws ps L :=
  ⟨k _ _ hd h.dk, h.pl, fun i p es h1 h2 => by
    obtain ⟨as, g1, g2⟩ := h.lg i p es h1 h2
    exact ⟨as, k _ _ (hp _ (List.mem_of_getElem? h1)) g1, paired_imp (fun a t z => k _ _ (ht _ _ z) z) g2⟩⟩
theorem HL.ns {H : Hp} {d p : Addr} {ws : List Str} {ps : List Addr} {L : List (List En)} {n : Nat} (h : HL H d ws ps L) (ll : L.length = ws.length) (s : Src H p n) : ∀ r ∈ ps, r ≠ p := fun r hr e => by
  obtain ⟨i, hi⟩ := List.mem_iff_getElem?.mp hr
  obtain ⟨as, g, _⟩ := h.lg i r _ hi (List.getElem?_eq_getElem (show i < L.length by rw [ll, ← h.pl]; exact (List.getElem?_eq_some_iff.mp hi).1))
  obtain ⟨a, b, c, g2, _⟩ := s
  rw [e, g2] at g
  injection g with g
  injection g with g
  cases as with
  | nil => cases g
  | cons x xs =>
    rw [List.map_cons] at g
    injection g with g _
    cases g
theorem Gr.ex {s pn dn rw bo kd : Addr} {zn : List Str} {rps bps : List Addr} {Hs H' H2 : Hp} {n : Nat} {R : List (List En)} (G : Gr s pn dn rw bo kd zn rps bps Hs H' n R) (e : Ex H' H2) : Gr s pn dn rw bo kd zn rps bps Hs H2 n R := by
  obtain ⟨a, b, c, d, f, ks, g, h⟩ := G
  exact ⟨a.trans (kn_ex e), b.ex e, e _ _ c, d.ex e, fun i p es h1 h2 => e _ _ (f i p es h1 h2), ks, e _ _ g, h⟩
theorem zip_map {α β : Type} (f : α → β) : ∀ xs : List α, xs.zip (xs.map f) = xs.map fun x => (x, f x)
  | [] => rfl
  | x :: xs => by rw [List.map_cons, List.zip_cons_cons, zip_map f xs, List.map_cons]
theorem q_asgT {K : PySem.W.Frag} {tz : TS} {D : Ends} {σ : L2.St} {H : Hp} {n i j : Nat} {t1 t2 : TE} (h : t1 σ H fun v1 H1 => t2 σ H1 fun v2 H2 => ([v1, v2] : List V).length ≤ sizeLine ∧ ∀ t, H2 t = none → gTup K n (gCons (gName i) (gCons (gName j) gNil)) (.ref t) σ (upd H2 t (.tup [v1, v2])) (tz D)) : tSeq (tAsg (tTup (tCons t1 (tCons t2 tNil))) (gTup K n (gCons (gName i) (gCons (gName j) gNil)))) tz D σ H := h
theorem ev_eqSn {K : PySem.W.Frag} {σ : L2.St} {H : Hp} {te : TE} {p : Addr} {xs : List Str} (h : Ev te σ H (.ref p)) (hp : H p = some (.lst (xs.map V.str))) (hn : ∀ x ∈ xs, IsNm x) : Ev (tOp (rEqD K) te (tLst tNil)) σ H (.bl xs.isEmpty) :=
  ev_opL h (el_lst ea_nil (by decide)) fun r H1 h1 e1 H2 e2 Q q2 => by
    refine ⟨.list (xs.map PyData.str), .list [], .lst (sq_of (e2 _ _ (e1 _ _ hp))) (dp_strs xs), .lst (sq_of (e2 _ _ h1)) .nil, shaped_strs xs hn, rfl, ?_⟩
    cases xs with
    | nil => exact q2 H2 (Ex.refl _)
    | cons x xs => exact q2 H2 (Ex.refl _)
def spGrown (K : PySem.W.Frag) : Sp := fun vs H Q _ => ∃ (s d : Addr) (n : Nat) (ws : List Str) (ps : List Addr) (L : List (List En)), vs = [.ref s, .ref d] ∧ Src H s n ∧ n + 100 ≤ 1000000000 ∧ HL H d ws ps L ∧ Vlog 60 ws L ∧ (∀ H', KB s H H' → Src H' s (n + 100) → Q (.bl true) H')
section
variable {P : Program} {w : World} {K : PySem.W.Frag} {mg : Str → Option Value} {base : Heap}
theorem sc_law_grown : FnScope ["source", "whole", "names", "done", "rows", "bought", "known", "spin", "ready", "steals", "late", "name", "entry", "before", "kept", "due"] ["source", "whole"] (defScope s_law_grown) := ⟨rfl, rfl, rfl, by decide +kernel, rfl, by decide +kernel, by decide +kernel⟩
theorem ok_law_grown (D : Def K mg "_law_grown" s_law_grown ["source", "whole"]) (T : Bl mg) (sm : ∃ o, base.get? sysModules = some o) (G_law_pick : Good P w K mg base 1 "_law_pick" ["source", "count"] spPick) (G_law_told : Good P w K mg base 8 "_law_told" ["rows", "name"] spTold) (G_law_after : Good P w K mg base 2 "_law_after" ["told", "place", "entry", "bought"] spAfter) (G_law_same : Good P w K mg base 7 "_law_same" ["found", "due"] (spSame8 6)) : GoodG P w K mg base 9 "_law_grown" ["source", "whole"] (spGrown K) := by
  refine D.goodG sc_law_grown (fun vs H Q E h => ?_) (fun f cdv A outer s0 H vs Q E quiet hr h => ?_)
  · obtain ⟨s, d, n, ws, ps, L, rfl, _⟩ := h
    rfl
  · obtain ⟨s, d, n, ws, ps, L, rfl, hs, hn, hl, v, q⟩ := h
    have hu := hu_of hr
    refine ⟨_, (pss_cons (ps_set (i := 2) sc_law_grown.nd rfl (Or.inl rfl) (pe_callB (call_sortedD rfl) (by rfl) T.sorted (by decide +kernel) (pa_cons (pv 1) pa_nil)))
      (pss_cons (ps_asg (pe_tup (pa_cons (pe_callTy (hc := call_dictP rfl) (hg := rfl) (hm := T.dict) (hv := by decide +kernel) (ha := pa_cons (pe_lc (own := [("name", 11)]) (g := (gName 11)) (tt := tYes) rfl sc_law_grown.nd (x_pil (K := K) (pv 2)) (blkOk_by (N := ["source", "whole", "names", "done", "rows", "bought", "known", "spin", "ready", "steals", "late", "name", "entry", "before", "kept", "due"]) (sc := (defScope s_law_grown)) (by decide +kernel)) (fun _ _ _ _ _ => (pg_name (i := 11) sc_law_grown.nd rfl (Or.inl rfl))) (fun _ _ _ _ _ => pts_nil) (fun _ _ _ _ _ => (pe_tup (pa_cons (pv 11) (pa_cons pe_int pa_nil))))) pa_nil)) (pa_cons (pe_callTy (hc := call_dictP rfl) (hg := rfl) (hm := T.dict) (hv := by decide +kernel) (ha := pa_cons (pe_lc (own := [("name", 11)]) (g := (gName 11)) (tt := tYes) rfl sc_law_grown.nd (x_pil (K := K) (pv 2)) (blkOk_by (N := ["source", "whole", "names", "done", "rows", "bought", "known", "spin", "ready", "steals", "late", "name", "entry", "before", "kept", "due"]) (sc := (defScope s_law_grown)) (by decide +kernel)) (fun _ _ _ _ _ => (pg_name (i := 11) sc_law_grown.nd rfl (Or.inl rfl))) (fun _ _ _ _ _ => pts_nil) (fun _ _ _ _ _ => (pe_tup (pa_cons (pv 11) (pa_cons (pe_lst pa_nil) pa_nil))))) pa_nil)) pa_nil))) (x_gt (K := K) (pgs_cons (pg_name (i := 3) sc_law_grown.nd rfl (Or.inr rfl)) (pgs_cons (pg_name (i := 4) sc_law_grown.nd rfl (Or.inl rfl)) pgs_nil))))
      (pss_cons (ps_asg (pe_tup (pa_cons (pe_callTy (hc := call_dictP rfl) (hg := rfl) (hm := T.dict) (hv := by decide +kernel) (ha := pa_cons (pe_lc (own := [("name", 11)]) (g := (gName 11)) (tt := tYes) rfl sc_law_grown.nd (x_pil (K := K) (pv 2)) (blkOk_by (N := ["source", "whole", "names", "done", "rows", "bought", "known", "spin", "ready", "steals", "late", "name", "entry", "before", "kept", "due"]) (sc := (defScope s_law_grown)) (by decide +kernel)) (fun _ _ _ _ _ => (pg_name (i := 11) sc_law_grown.nd rfl (Or.inl rfl))) (fun _ _ _ _ _ => pts_nil) (fun _ _ _ _ _ => (pe_tup (pa_cons (pv 11) (pa_cons (pe_lst pa_nil) pa_nil))))) pa_nil)) (pa_cons pe_dnewK pa_nil))) (x_gt (K := K) (pgs_cons (pg_name (i := 5) sc_law_grown.nd rfl (Or.inl rfl)) (pgs_cons (pg_name (i := 6) sc_law_grown.nd rfl (Or.inr rfl)) pgs_nil))))
      (pss_cons (ps_for PassesOwn.never rfl (x_rng T (pa_cons pe_int pa_nil)) (pg_name (i := 7) sc_law_grown.nd rfl (Or.inl rfl)) (pss_cons (ps_setLc (i := 8) (own := [("name", 11)]) (g := (gName 11))  rfl sc_law_grown.nd rfl rfl (sw_true rfl rfl rfl (by decide +kernel)) (x_pil (K := K) (pv 2)) (blkOk_by (N := ["source", "whole", "names", "done", "rows", "bought", "known", "spin", "ready", "steals", "late", "name", "entry", "before", "kept", "due"]) (sc := (defScope s_law_grown)) (by decide +kernel)) (fun _ _ _ _ _ => (pg_name (i := 11) sc_law_grown.nd rfl (Or.inl rfl))) (fun _ _ _ _ _ => (pts_one (pt_cmpR op_lt (pe_dget hu (pv 3) (pv 11) (fun _ _ => rfl)) (pe_callB (call_min2 rfl) (by rfl) T.min (by decide +kernel) (pa_cons pe_int (pa_cons (x_len (K := K) T (pe_dget hu (pv 1) (pv 11) (fun _ _ => rfl))) pa_nil))) (nomark _)))) (fun _ _ _ _ _ => (pv 11)))
      (pss_cons (ps_setLc (i := 9) (own := [("name", 11)]) (g := (gName 11))  rfl sc_law_grown.nd rfl rfl (sw_true rfl rfl rfl (by decide +kernel)) (x_pil (K := K) (pv 8)) (blkOk_by (N := ["source", "whole", "names", "done", "rows", "bought", "known", "spin", "ready", "steals", "late", "name", "entry", "before", "kept", "due"]) (sc := (defScope s_law_grown)) (by decide +kernel)) (fun _ _ _ _ _ => (pg_name (i := 11) sc_law_grown.nd rfl (Or.inl rfl))) (fun _ _ _ _ _ => (pts_one (pt_cmpR op_eq (x_ixt (K := K) (x_ixl (K := K) (pe_dget hu (pv 1) (pv 11) (fun _ _ => rfl)) (pe_dget hu (pv 3) (pv 11) (fun _ _ => rfl))) pe_int) pe_str (nomark _)))) (fun _ _ _ _ _ => (pv 11)))
      (pss_cons (ps_set (i := 10) sc_law_grown.nd rfl (Or.inr rfl) (pe_lc (own := [("name", 11)]) (g := (gName 11))  rfl sc_law_grown.nd (x_pil (K := K) (pv 9)) (blkOk_by (N := ["source", "whole", "names", "done", "rows", "bought", "known", "spin", "ready", "steals", "late", "name", "entry", "before", "kept", "due"]) (sc := (defScope s_law_grown)) (by decide +kernel)) (fun _ _ _ _ _ => (pg_name (i := 11) sc_law_grown.nd rfl (Or.inl rfl))) (fun _ _ _ _ _ => (pts_one (pt_cmp (pc_dnotin hu (x_ixt (K := K) (x_ixl (K := K) (pe_dget hu (pv 1) (pv 11) (fun _ _ => rfl)) (pe_dget hu (pv 3) (pv 11) (fun _ _ => rfl))) pe_int) (pv 6))))) (fun _ _ _ _ _ => (pv 11))))
      (pss_cons (ps_setLc (i := 8) (own := [("name", 11)]) (g := (gName 11))  rfl sc_law_grown.nd rfl rfl (sw_true rfl rfl rfl (by decide +kernel)) (x_pil (K := K) (pv 8)) (blkOk_by (N := ["source", "whole", "names", "done", "rows", "bought", "known", "spin", "ready", "steals", "late", "name", "entry", "before", "kept", "due"]) (sc := (defScope s_law_grown)) (by decide +kernel)) (fun _ _ _ _ _ => (pg_name (i := 11) sc_law_grown.nd rfl (Or.inl rfl))) (fun _ _ _ _ _ => (pts_one (pt_cmpR (x_ni (K := K) rfl) (pv 11) (pv 10) (by rfl)))) (fun _ _ _ _ _ => (pv 11)))
      (pss_cons (ps_if (pt_cmpR (x_eqD (K := K) rfl hr.units) (pv 8) (pe_lst pa_nil) (nomark _)) (pss_one (ps_ret pe_bl)) pss_nil)
      (pss_cons (ps_set (i := 11) sc_law_grown.nd rfl (Or.inl rfl) (x_ixl (K := K) (pv 8) (pe_fn (G_law_pick.mono (by decide)) hr (pa_cons (pv 0) (pa_cons (x_len (K := K) T (pv 8)) pa_nil)))))
      (pss_cons (ps_set (i := 12) sc_law_grown.nd rfl (Or.inl rfl) (x_ixl (K := K) (pe_dget hu (pv 1) (pv 11) (fun _ _ => rfl)) (pe_dget hu (pv 3) (pv 11) (fun _ _ => rfl))))
      (pss_cons (ps_set (i := 13) sc_law_grown.nd rfl (Or.inl rfl) (pe_fn (G_law_told.mono (by decide)) hr (pa_cons (pv 4) (pa_cons (pv 11) pa_nil))))
      (pss_cons (ps_set (i := 14) sc_law_grown.nd rfl (Or.inl rfl) (pe_callB (call_reprT rfl quiet hr.units sm) (by rfl) T.repr (by decide +kernel) (pa_cons (pv 13) pa_nil)))
      (pss_cons (ps_expr (x_bm (K := K) PySem.F.plainAttrs_list PySem.F.slot_list_append PySem.F.type_list_append mt_append (pe_dget hu (pv 4) (pv 11) (fun _ _ => rfl)) (pa_cons (pv 12) pa_nil)))
      (pss_cons (ps_if (pt_cmpR op_eq (x_ixt (K := K) (pv 12) pe_int) pe_str (nomark _)) (pss_cons (ps_expr (x_bm (K := K) PySem.F.plainAttrs_list PySem.F.slot_list_append PySem.F.type_list_append mt_append (pe_dget hu (pv 5) (pv 11) (fun _ _ => rfl)) (pa_cons (x_ixt (K := K) (pv 12) pe_int) pa_nil)))
      (pss_one (ps_dput hu (pv 6) (x_ixt (K := K) (pv 12) pe_int) pe_bl rfl))) pss_nil)
      (pss_cons (ps_set (i := 15) sc_law_grown.nd rfl (Or.inl rfl) (pe_fn (G_law_after.mono (by decide)) hr (pa_cons (pv 13) (pa_cons (pe_tup (pa_cons (pv 11) (pa_cons (pe_dget hu (pv 3) (pv 11) (fun _ _ => rfl)) pa_nil))) (pa_cons (pv 12) (pa_cons (pv 5) pa_nil))))))
      (pss_cons (ps_dput hu (pv 3) (pv 11) (pe_op op_add (pe_dget hu (pv 3) (pv 11) (fun _ _ => rfl)) pe_int) rfl)
      (pss_one (ps_if (pw_or (pt_not (pt_val (pe_fn (G_law_same.mono (by decide)) hr (pa_cons (pe_fn (G_law_told.mono (by decide)) hr (pa_cons (pv 4) (pa_cons (pv 11) pa_nil))) (pa_cons (pv 15) pa_nil))))) (pw_or1 (pt_cmpR op_ne (pe_callB (call_reprT rfl quiet hr.units sm) (by rfl) T.repr (by decide +kernel) (pa_cons (pv 13) pa_nil)) (pv 14) (nomark _)))).pt pss_never pss_nil))))))))))))))))
      (pss_one (ps_ret pe_bl)))))), ?_⟩
    have ok := v.ok (Nat.le_refl _)
    have wnd := ok.nd
    refine q_asgCB ?_
    refine ⟨_, rfl, d, Dk ws ps, ws, rfl, Or.inl hl.dk, dk_keys hl.pl, by have := ok.wl; omega, fun zn pn hpm hsy npn => ?_⟩
    have e1 : Ex H (upd H pn (.lst (zn.map V.str))) := Ex.new npn
    have h1 : (upd H pn (.lst (zn.map V.str))) pn = some (.lst (zn.map V.str)) := upd_same
    generalize upd H pn (.lst (zn.map V.str)) = H1 at e1 h1 ⊢
    have znd : zn.Nodup := hpm.nodup_iff.mpr wnd
    have z6 : zn.length ≤ 6 := by rw [hpm.length_eq]; exact ok.wl
    have same : Same ws L zn (zn.map (lgOf ws L)) := by
      refine ⟨hpm.length_eq, by rw [List.length_map], ?_⟩
      rw [zip_map]
      have : ws.zip L = ws.map fun x => (x, lgOf ws L x) := by rw [← zip_map, lgOf_map wnd v.len]
      rw [this]
      exact hpm.map _
    have vW := v.same same
    refine q_asgT ?_
    refine t_rows (K := K) (fun _ => .int 0) (ev_var rfl) h1 znd (by omega) (fun _ => rfl) (fun _ => rfl) (fun y hy => ev_c) fun dn H2 ndn e2 hdn => ?_
    refine ev_rowsC (K := K) (fun pw names H3 => pw = pn ∧ names = zn ∧ Ex H2 H3) (fun _ => []) (fun R hR => ⟨_, rfl, hR pn zn H2 ⟨rfl, rfl, Ex.refl _⟩ (e2 _ _ h1) znd (by omega)⟩) (fun _ => rfl) (fun _ => rfl) (fun pw names H3 hF i y hy => el_lst ea_nil (by decide)) fun pw names H3 rd rps H4 hF nrd e4 hrd rl rnd rv => ⟨(by show 2 ≤ sizeLine; decide), fun t ht => ⟨t, _, rfl, st_of upd_same, rfl, _, _, rfl, _, _, rfl, rfl, ?_⟩⟩
    obtain ⟨_, rfl, e3⟩ := hF
    have e5 : Ex H4 (upd H4 t (.tup [.ref dn, .ref rd])) := Ex.new ht
    generalize upd H4 t (.tup [.ref dn, .ref rd]) = H5 at e5 ⊢
    have E25 := e3.trans (e4.trans e5)
    refine q_asgT ?_
    refine ev_rowsC (K := K) (fun pw' names' H6 => pw' = pn ∧ names' = names ∧ Ex H5 H6) (fun _ => []) (fun R hR => ⟨_, rfl, hR pn names H5 ⟨rfl, rfl, Ex.refl _⟩ (E25 _ _ (e2 _ _ h1)) znd (by omega)⟩) (fun _ => rfl) (fun _ => rfl) (fun pw names H3 hF i y hy => el_lst ea_nil (by decide)) fun pw' names' H6 bo bps H7 hF nbo e7 hbo bl bnd bv => fun kd hkd => ⟨(by show 2 ≤ sizeLine; decide), fun t2 ht2 => ⟨t2, _, rfl, st_of upd_same, rfl, _, _, rfl, _, _, rfl, rfl, ?_⟩⟩
    obtain ⟨_, rfl, e6⟩ := hF
    have e8 : Ex H7 (upd H7 kd (.dK [])) := Ex.new hkd
    have hk8 : (upd H7 kd (.dK [])) kd = some (.dK []) := upd_same
    generalize upd H7 kd (.dK []) = H8 at e8 hk8 ht2 ⊢
    have e9 : Ex H8 (upd H8 t2 (.tup [.ref bo, .ref kd])) := Ex.new ht2
    generalize upd H8 t2 (.tup [.ref bo, .ref kd]) = Hs at e9 ⊢
    have X2 := E25.trans (e6.trans (e7.trans (e8.trans e9)))
    have X1 : Ex H1 Hs := e2.trans X2
    have Es : Ex H Hs := e1.trans X1
    have X4 : Ex H4 Hs := e5.trans (e6.trans (e7.trans (e8.trans e9)))
    have X7 : Ex H7 Hs := e8.trans e9
    obtain ⟨ys, hys⟩ := hs.at_
    have rps1 : ∀ r ∈ rps, H1 r = none ∧ H2 r = none ∧ Hs r = some (.lst []) := fun r hr => by
      obtain ⟨i, hi⟩ := List.mem_iff_getElem?.mp hr
      have il := (List.getElem?_eq_some_iff.mp hi).1
      obtain ⟨a, b⟩ := rv i r _ hi (List.getElem?_eq_getElem (show i < names'.length by omega))
      exact ⟨fresh_back (e2.trans e3) a, fresh_back e3 a, X4 _ _ b⟩
    have bps1 : ∀ r ∈ bps, H1 r = none ∧ H5 r = none ∧ Hs r = some (.lst []) := fun r hr => by
      obtain ⟨i, hi⟩ := List.mem_iff_getElem?.mp hr
      have il := (List.getElem?_eq_some_iff.mp hi).1
      obtain ⟨a, b⟩ := bv i r _ hi (List.getElem?_eq_getElem (show i < names'.length by omega))
      exact ⟨fresh_back (e2.trans (E25.trans e6)) a, fresh_back e6 a, X7 _ _ b⟩
    have rbnd : (rps ++ bps).Nodup := List.nodup_append.mpr ⟨rnd, bnd, fun a ha b hb e => by
      obtain ⟨i, hi⟩ := List.mem_iff_getElem?.mp ha
      have il := (List.getElem?_eq_some_iff.mp hi).1
      obtain ⟨_, g⟩ := rv i a _ hi (List.getElem?_eq_getElem (show i < names'.length by omega))
      have := (bps1 b hb).2.1
      rw [← e, e5 _ _ g] at this
      cases this⟩
    have kd1 : H1 kd = none := fresh_back (e2.trans (E25.trans (e6.trans e7))) hkd
    have new1 : ∀ m ∈ s :: dn :: kd :: (rps ++ bps), m ≠ s → H1 m = none := fun m hm ns => by
      rcases List.mem_cons.mp hm with rfl | hm
      · exact absurd rfl ns
      rcases List.mem_cons.mp hm with rfl | hm
      · exact ndn
      rcases List.mem_cons.mp hm with rfl | hm
      · exact kd1
      rcases List.mem_append.mp hm with hm | hm
      · exact (rps1 m hm).1
      · exact (bps1 m hm).1
    have hs1 : H1 s = some (.lst ys) := e1 _ _ hys
    have notM : ∀ {b : Addr} {o : HO}, H1 b = some o → b ≠ s → b ∉ s :: dn :: kd :: (rps ++ bps) := fun h n z => by
      rw [new1 _ z n] at h
      cases h
    have pns : pn ≠ s := fun z => by rw [z, hys] at npn; cases npn
    have pnM := notM h1 pns
    have srb : s ∉ rps ++ bps := fun z => by
      rcases List.mem_append.mp z with z | z
      · rw [(rps1 s z).1] at hs1; cases hs1
      · rw [(bps1 s z).1] at hs1; cases hs1
    have sdn : s ≠ dn := fun z => by rw [z, ndn] at hs1; cases hs1
    have skd : s ≠ kd := fun z => by rw [z, kd1] at hs1; cases hs1
    have hdnS : Hs dn = some (.dK (KsV names' fun _ => .int 0)) := X2 _ _ hdn
    have hkdS : Hs kd = some (.dK []) := e9 _ _ hk8
    have hrdS := X4 _ _ hrd
    have hboS := X7 _ _ hbo
    have dnkd : dn ≠ kd := fun z => by
      have := (E25.trans (e6.trans e7)) _ _ hdn
      rw [z, hkd] at this
      cases this
    have rblst : ∀ r ∈ rps ++ bps, Hs r = some (.lst []) := fun r hr => by
      rcases List.mem_append.mp hr with hr | hr
      · exact (rps1 r hr).2.2
      · exact (bps1 r hr).2.2
    have rdM : rd ∉ s :: dn :: kd :: (rps ++ bps) := fun z => by
      rcases List.mem_cons.mp z with z | z
      · have := Es _ _ hys
        rw [← z, hrdS] at this
        cases this
      rcases List.mem_cons.mp z with z | z
      · have := e3 _ _ hdn
        rw [← z, nrd] at this
        cases this
      rcases List.mem_cons.mp z with z | z
      · have := (e5.trans (e6.trans e7)) _ _ hrd
        rw [z, hkd] at this
        cases this
      · have := rblst _ z
        rw [hrdS] at this
        cases this
    have boM : bo ∉ s :: dn :: kd :: (rps ++ bps) := fun z => by
      rcases List.mem_cons.mp z with z | z
      · have := Es _ _ hys
        rw [← z, hboS] at this
        cases this
      rcases List.mem_cons.mp z with z | z
      · have := (E25.trans e6) _ _ hdn
        rw [← z, nbo] at this
        cases this
      rcases List.mem_cons.mp z with z | z
      · rw [z, hkd] at hbo
        cases hbo
      · have := rblst _ z
        rw [hboS] at this
        cases this
    have dnrb : dn ∉ rps ++ bps := fun z => by
      have := rblst _ z
      rw [hdnS] at this
      cases this
    have kdrb : kd ∉ rps ++ bps := fun z => by
      have := rblst _ z
      rw [hkdS] at this
      cases this
    have hssS : Src Hs s n := hs.ex Es
    have repAt : ∀ {i : Nat} {r : List En}, (List.replicate names'.length ([] : List En))[i]? = some r → r = [] := fun h => by
      obtain ⟨_, h2⟩ := List.getElem?_eq_some_iff.mp h
      rw [List.getElem_replicate] at h2
      exact h2.symm
    have rep0 : ∀ x, lgOf names' (List.replicate names'.length ([] : List En)) x = [] := fun x => by
      unfold lgOf
      rw [List.getD_eq_getElem?_getD]
      cases h : (List.replicate names'.length ([] : List En))[names'.idxOf x]? with
      | none => rfl
      | some r => exact repAt h
    have flat0 : ∀ f : List En → List Str, f [] = [] → (List.replicate names'.length ([] : List En)).flatMap f = [] := fun f hf => flatMap_nil_rep hf _
    have G0 : Gr s pn dn rd bo kd names' rps bps Hs Hs n (List.replicate names'.length []) := by
      refine ⟨kn_ex (Ex.refl _), hssS, ?_, ⟨hrdS, rl, fun i p r h2 h3 => ?_⟩, fun i p r h2 h3 => ?_, [], ?_, ?_⟩
      · rw [hdnS]
        congr 2
        unfold KsV
        refine List.map_congr_left fun x _ => ?_
        show ((.inr x : Key), V.int 0) = (.inr x, .int ((lgOf names' (List.replicate names'.length []) x).length : Int))
        rw [rep0 x]
        rfl
      · rw [repAt h3]
        exact TL.nil (rps1 p (List.mem_of_getElem? h2)).2.2
      · rw [repAt h3]
        exact (bps1 p (List.mem_of_getElem? h2)).2.2
      · exact hkdS
      · rw [flat0 pus rfl]
    dsimp only [List.set]
    show tSeq (tFor _ _ _) _ _ ([some (V.ref s), some (.ref d), some (.ref pn), some (.ref dn), some (.ref rd), some (.ref bo), some (.ref kd), none, none, none, none, none, none, none, none, none] : L2.St) _
    have qq : ∀ {H' : Hp} {m : Nat} {R : List (List En)}, Gr s pn dn rd bo kd names' rps bps Hs H' m R → m ≤ n + 100 → Q (.bl true) H' := fun G hm => q _ (fun b o nb h => G.kn b o (notM (e1 _ _ h) nb) (Es _ _ h)) (G.src.le hm)
    refine q_forR1 (n := 60) (ea_cons ev_c ea_nil) (by decide) (fun t σ' H' => (∃ b7 b8 b9 b10 b11 b12 b13 b14 b15, σ' = [some (V.ref s), some (.ref d), some (.ref pn), some (.ref dn), some (.ref rd), some (.ref bo), some (.ref kd), b7, b8, b9, b10, b11, b12, b13, b14, b15]) ∧ ∃ R, Vlog 60 names' R ∧ Pre R (names'.map (lgOf ws L)) ∧ (∀ r ∈ R, r.length ≤ 59) ∧ Gr s pn dn rd bo kd names' rps bps Hs H' (n + t) R)
      (fun H' e' => ⟨⟨_, _, _, _, _, _, _, _, _, rfl⟩, _, Vlog.nil ⟨by rw [hpm.length_eq]; exact v.wk.1, z6, znd, fun z hz => v.wk.2.2.2 z (hpm.mem_iff.mp hz)⟩, ⟨by rw [List.length_replicate, List.length_map], fun i r w h2 h3 => by rw [repAt h2]; rfl⟩, fun r hr => by rw [(List.mem_replicate.mp hr).2]; exact Nat.zero_le _, G0.ex e'⟩) (fun t σ' H' ht60 p => ?_) (fun σ' H' p => ?_)
    · obtain ⟨⟨b7, b8, b9, b10, b11, b12, b13, b14, b15, rfl⟩, R, vR, pr, l59, G⟩ := p
      have lp : ∀ r ∈ ps, r ≠ s := hl.ns ok.ll hs
      have up : ∀ {H2 : Hp} {b : Addr} {o : HO}, KN (s :: dn :: kd :: (rps ++ bps)) Hs H2 → H b = some o → b ≠ s → H2 b = some o := fun kn h nb => kn _ _ (notM (e1 _ _ h) nb) (Es _ _ h)
      have dns : d ≠ s := fun z => by have := hl.dk; rw [z, hys] at this; cases this
      have wlen : ∀ x ∈ names', (lgOf ws L x).length ≤ 60 ∧ ∃ (p : Addr) (as : List Addr), valV (Dk ws ps) (.inr x) = some (.ref p) ∧ p ≠ s ∧ H p = some (.lst (as.map V.ref)) ∧ as.length = (lgOf ws L x).length ∧ Paired (fun a t => H a = some (.tup t)) as ((lgOf ws L x).map En.vs) := fun x hx => by
        obtain ⟨kk, hkk⟩ := List.mem_iff_getElem?.mp (hpm.mem_iff.mp hx)
        have kl := (List.getElem?_eq_some_iff.mp hkk).1
        obtain ⟨p, hp⟩ : ∃ p, ps[kk]? = some p := ⟨_, List.getElem?_eq_getElem (by rw [hl.pl]; exact kl)⟩
        obtain ⟨es, hes⟩ : ∃ es, L[kk]? = some es := ⟨_, List.getElem?_eq_getElem (by rw [ok.ll]; exact kl)⟩
        obtain ⟨as, ha, hpa⟩ := hl.lg kk p es hp hes
        rw [lgOf_at wnd hkk hes]
        exact ⟨ok.el _ (List.mem_of_getElem? hes), p, as, dk_get wnd hkk hp, lp p (List.mem_of_getElem? hp), ha, by simpa using hpa.length, hpa⟩
      have dG : ∀ {H2 : Hp} {σ2 : L2.St} {x : Str}, H2 dn = some (.dK (KsV names' fun x => .int ((lgOf names' R x).length : Int))) → σ2[3]? = some (some (.ref dn)) → σ2[11]? = some (some (.str x)) → x ∈ names' → Ev (tDGet (tVar 3) (tVar 11)) σ2 H2 (.int ((lgOf names' R x).length : Int)) := fun h h3 h11 hx => ev_dget (ev_var h3) (ev_var h11) h (ks_get (f := fun x => V.int ((lgOf names' R x).length : Int)) znd hx)
      have ent : ∀ x ∈ names', (lgOf names' R x).length < (lgOf ws L x).length → ∃ (a : Addr) (e : En), (lgOf ws L x)[(lgOf names' R x).length]? = some e ∧ H a = some (.tup e.vs) ∧ a ≠ s ∧ ∀ {H2 : Hp} {σ2 : L2.St}, KN (s :: dn :: kd :: (rps ++ bps)) Hs H2 → H2 dn = some (.dK (KsV names' fun x => .int ((lgOf names' R x).length : Int))) → σ2[1]? = some (some (.ref d)) → σ2[3]? = some (some (.ref dn)) → σ2[11]? = some (some (.str x)) →
          Ev (tOp (rIxL K) (tDGet (tVar 1) (tVar 11)) (tDGet (tVar 3) (tVar 11))) σ2 H2 (.ref a) := fun x hx hlt => by
        obtain ⟨_, p, as, w1, w2, w3, w4, w5⟩ := wlen x hx
        obtain ⟨a, ha⟩ : ∃ a, as[(lgOf names' R x).length]? = some a := ⟨_, List.getElem?_eq_getElem (by omega)⟩
        obtain ⟨a', e, g1, g2, g3⟩ := tl_at (p := p) w5 (i := (lgOf names' R x).length) (x := .ref a) (by rw [List.getElem?_map, ha]; rfl)
        cases g1
        refine ⟨a, e, g2, g3, (fun z => by rw [z, hys] at g3; cases g3), fun kn hd h1 h3 h11 => ?_⟩
        exact ev_op (ev_dget (ev_var h1) (ev_var h11) (up kn hl.dk dns) w1) (dG hd h3 h11 hx) (rv_ixL (sq_of (up kn w3 w2)) (atI_nat (by rw [List.getElem?_map, ha]; rfl)))
      obtain ⟨ks, hks, pks⟩ := G.knw
      let g1 : Str → Bool := fun x => decide (((lgOf names' R x).length : Int) < (if ((lgOf ws L x).length : Int) < 59 then ((lgOf ws L x).length : Int) else 59))
      let g2 : Str → Bool := fun x => ((lgOf ws L x).getD (lgOf names' R x).length (.size 0)).isSt
      let g3 : Str → Bool := fun x => !(valV (KsV ks fun _ => .bl true) (.inr ((lgOf ws L x).getD (lgOf names' R x).length (.size 0)).it)).isSome
      have g1y : ∀ {x}, g1 x = true → (lgOf names' R x).length < 59 ∧ (lgOf names' R x).length < (lgOf ws L x).length := fun h => by
        have := of_decide_eq_true h
        split at this <;> omega
      have in1 : ∀ {x}, x ∈ names'.filter g1 → x ∈ names' ∧ g1 x = true := fun h => List.mem_filter.mp h
      refine q_asgL (xs := (names'.filter g1).map V.str) (el_names g1 (ev_var rfl) (G.kn _ _ pnM (X1 _ _ h1)) (by omega) (fun _ => rfl) (fun _ => rfl) (fun H2 e2 x hx => ?_)) fun q8 HA nA eA hA => ?_
      · obtain ⟨_, p, as, w1, w2, w3, w4, w5⟩ := wlen x hx
        have G2 := G.ex e2
        exact et_test (ev_op (dG G2.don rfl rfl hx) (ev_mn2 ev_c (Evl.ev_is (ev_len (ev_dget (ev_var rfl) (ev_var rfl) (up G2.kn hl.dk dns) w1) (sq_of (up G2.kn w3 w2))) (by rw [List.length_map, w4]))) rv_I0)
      have f1l : (names'.filter g1).length ≤ 60 := Nat.le_trans (List.length_filter_le _ _) (by omega)
      have GA := G.ex eA
      refine q_asgL (xs := ((names'.filter g1).filter g2).map V.str) (el_names g2 (ev_var rfl) hA (by omega) (fun _ => rfl) (fun _ => rfl) (fun H2 e2 x hx => ?_)) fun q9 HB nB eB hB => ?_
      · obtain ⟨hx1, hx2⟩ := in1 hx
        obtain ⟨a, e, he, ha, nas, E⟩ := ent x hx1 (g1y hx2).2
        have G2 := GA.ex e2
        have : g2 x = e.isSt := by show ((lgOf ws L x).getD _ _).isSt = _; rw [getD_at he]
        rw [this]
        exact et_is (et_test (ev_op (ev_op (E G2.kn G2.don rfl rfl rfl) ev_c (rv_ixT (st_of (up G2.kn ha nas)) e.at0)) ev_c (rv_eq rfl))) e.isSt_eq
      have GB := GA.ex eB
      refine q_asgL (xs := (((names'.filter g1).filter g2).filter g3).map V.str) (el_names g3 (ev_var rfl) hB (Nat.le_trans (List.length_filter_le _ _) (by omega)) (fun _ => rfl) (fun _ => rfl) (fun H2 e2 x hx => ?_)) fun q10 HC nC eC hC => ?_
      · obtain ⟨hx0, hx3⟩ := List.mem_filter.mp hx
        obtain ⟨hx1, hx2⟩ := in1 hx0
        obtain ⟨a, e, he, ha, nas, E⟩ := ent x hx1 (g1y hx2).2
        have G2 := GB.ex e2
        have ge : (lgOf ws L x).getD (lgOf names' R x).length (.size 0) = e := getD_at he
        have hst : e.isSt = true := by rw [← ge]; exact hx3
        have : g3 x = !(valV (KsV ks fun _ => .bl true) (.inr e.it)).isSome := by show (!(valV (KsV ks fun _ => V.bl true) (.inr ((lgOf ws L x).getD (lgOf names' R x).length (.size 0)).it)).isSome) = _; rw [ge]
        rw [this]
        exact et_B (ev_dni (ev_op (E G2.kn G2.don rfl rfl rfl) ev_c (rv_ixT (st_of (up G2.kn ha nas)) (e.at2 hst))) (ev_var rfl) (((eA.trans eB).trans e2) _ _ hks) rfl)
      have GC := GB.ex eC
      refine q_asgL (el_stay (K := K) (ev_var rfl) ((eB.trans eC) _ _ hA) f1l hC (fun _ => rfl) (fun _ => rfl) (fun _ => rfl)) fun q8' HD nD eD hD => ?_
      have GD := GC.ex eD
      generalize hrs : ((names'.filter g1).filter fun x => decide (¬ x ∈ ((names'.filter g1).filter g2).filter g3)) = rs at hD
      have rsin : ∀ x ∈ rs, x ∈ names' ∧ g1 x = true ∧ x ∉ ((names'.filter g1).filter g2).filter g3 := fun x hx => by
        rw [← hrs] at hx
        obtain ⟨a, b⟩ := List.mem_filter.mp hx
        exact ⟨(in1 a).1, (in1 a).2, of_decide_eq_true b⟩
      have nmz : ∀ x ∈ names', IsNm x := fun x hx => v.wk.2.2.2 x (hpm.mem_iff.mp hx)
      dsimp only [List.set]
      refine q_if (b := rs.isEmpty) (et_test (ev_eqSn (ev_var rfl) hD (fun x hx => nmz x (rsin x hx).1))) (fun hb HE eE => s_ret (v := .bl true) ev_c fun HF eF => qq ((GD.ex eE).ex eF) (by omega)) fun hb HE eE => ?_
      have rs1 : 1 ≤ rs.length := by
        cases rs with
        | nil => cases hb
        | cons a as => rw [List.length_cons]; omega
      have rs60 : rs.length ≤ 60 := by
        rw [← hrs]
        exact Nat.le_trans (List.length_filter_le _ _) f1l
      have GE := GD.ex eE
      try unfold tNext
      dsimp only
      refine q_asgCB ?_
      refine ⟨_, rfl, go_pick rfl (ev_len (ev_var rfl) (sq_of (eE _ _ hD))) GE.src (by omega) (by rw [List.length_map]; omega) (by rw [List.length_map]; omega) fun r HF r0 rm kF sF => ?_⟩
      obtain ⟨rn, rfl⟩ : ∃ rn : Nat, r = (rn : Int) := ⟨r.toNat, by omega⟩
      rw [List.length_map] at rm
      obtain ⟨x, hx⟩ : ∃ x, rs[rn]? = some x := ⟨_, List.getElem?_eq_getElem (by omega)⟩
      have q8s : q8' ≠ s := fun z => by
        obtain ⟨ys', hy'⟩ := GC.src.at_
        rw [z, hy'] at nD
        cases nD
      refine ⟨q8', _, (rn : Int), .str x, rfl, rfl, sq_of (kF _ _ q8s (eE _ _ hD)), atI_nat (by rw [List.getElem?_map, hx]; rfl), ?_⟩
      obtain ⟨hxn, hxg, hxl⟩ := rsin x (List.mem_of_getElem? hx)
      obtain ⟨c59, clen⟩ := g1y hxg
      obtain ⟨ysE, hyE⟩ := GE.src.at_
      have GF : Gr s pn dn rd bo kd names' rps bps Hs HF (n + t + 1) R := by
        obtain ⟨f1, f2, f3, f4, f5, fk, f6, f7⟩ := GE
        exact ⟨f1.trans (fun b o nb h => kF b o (fun z => nb (by rw [z]; simp)) h), sF, kF _ _ sdn.symm f3, f4.kb kF hyE (fun r hr z => srb (by rw [← z]; exact List.mem_append_left _ hr)), fun i p es h2 h3 => kF _ _ (fun z => srb (by rw [← z]; exact List.mem_append_right _ (List.mem_of_getElem? h2))) (f5 i p es h2 h3), fk, kF _ _ skd.symm f6, f7⟩
      obtain ⟨ae, e, he, hae, nas, E⟩ := ent x hxn clen
      obtain ⟨k, hk⟩ := List.mem_iff_getElem?.mp hxn
      have hkl := (List.getElem?_eq_some_iff.mp hk).1
      obtain ⟨es, hes⟩ : ∃ es, R[k]? = some es := ⟨_, List.getElem?_eq_getElem (by rw [vR.len]; exact hkl)⟩
      have lr : lgOf names' R x = es := lgOf_at znd hk hes
      have hW : (names'.map (lgOf ws L))[k]? = some (lgOf ws L x) := by rw [List.getElem?_map, hk]; rfl
      have hst : ∀ o y, e = .steal o y → y ∈ R.flatMap pus := fun o y hey => by
        have ge : (lgOf ws L x).getD (lgOf names' R x).length (.size 0) = e := getD_at he
        have x2 : g2 x = true := by show ((lgOf ws L x).getD (lgOf names' R x).length (.size 0)).isSt = true; rw [ge, hey]; rfl
        cases h3 : g3 x with
        | true => exact absurd (List.mem_filter.mpr ⟨List.mem_filter.mpr ⟨List.mem_filter.mpr ⟨hxn, hxg⟩, x2⟩, h3⟩) hxl
        | false =>
          have h4 : (!(valV (KsV ks fun _ => V.bl true) (.inr ((lgOf ws L x).getD (lgOf names' R x).length (.size 0)).it)).isSome) = false := h3
          rw [ge, hey] at h4
          cases h5 : valV (KsV ks fun _ => V.bl true) (.inr y) with
          | none =>
            have h4 : (!(valV (KsV ks fun _ => V.bl true) (.inr y)).isSome) = false := h4
            rw [h5] at h4
            cases h4
          | some u =>
            obtain ⟨z, hz, e0⟩ := List.mem_map.mp (valV_pair h5)
            have : z = y := Sum.inr.inj (Prod.mk.inj e0).1
            subst this
            exact pks.mem_iff.mp hz
      rw [lr] at c59 clen he
      obtain ⟨vR2, pr2⟩ := grow vW vR pr hk hes hW he (by omega) hst
      have esm := List.mem_of_getElem? hes
      refine q_asg (v := .ref ae) (E GF.kn GF.don rfl rfl rfl) fun HG eG => ?_
      have GG := GF.ex eG
      refine q_asgCB ?_
      refine ⟨_, rfl, _, rfl, rd, names', rps, R, k, x, es, rfl, GG.row, rnd, vR, hk, hes, by omega, fun p1 HH np1 eH htold => ?_⟩
      have GH := GG.ex eH
      have rpL : ∀ {H2 : Hp} {m : Nat} {R2 : List (List En)}, R2.length = names'.length → Gr s pn dn rd bo kd names' rps bps Hs H2 m R2 → ∀ r ∈ rps ++ bps, ∃ xs, H2 r = some (.lst xs) := fun hl2 g r hr => by
        rcases List.mem_append.mp hr with hr | hr
        · obtain ⟨i, hi⟩ := List.mem_iff_getElem?.mp hr
          obtain ⟨as, h, _⟩ := g.row.lg i r _ hi (List.getElem?_eq_getElem (by rw [hl2, ← rl]; exact (List.getElem?_eq_some_iff.mp hi).1))
          exact ⟨_, h⟩
        · obtain ⟨i, hi⟩ := List.mem_iff_getElem?.mp hr
          exact ⟨_, g.bgt i r _ hi (List.getElem?_eq_getElem (by rw [hl2, ← bl]; exact (List.getElem?_eq_some_iff.mp hi).1))⟩
      have tS : ∀ {H2 : Hp} {m : Nat}, Gr s pn dn rd bo kd names' rps bps Hs H2 m R → ∀ t xs, H2 t = some (.tup xs) → t ∉ dn :: kd :: (rps ++ bps) := fun g t xs h z => by
        rcases List.mem_cons.mp z with z | z
        · rw [z, g.don] at h; cases h
        rcases List.mem_cons.mp z with z | z
        · obtain ⟨_, h2, _⟩ := g.knw
          rw [z, h2] at h; cases h
        · obtain ⟨_, h2⟩ := rpL vR.len g t z
          rw [h2] at h; cases h
      have exS : ∀ r, HG r = none → r ∉ dn :: kd :: (rps ++ bps) := fun r hr0 z => by
        rcases List.mem_cons.mp z with z | z
        · rw [z, GG.don] at hr0; cases hr0
        rcases List.mem_cons.mp z with z | z
        · obtain ⟨_, h2, _⟩ := GG.knw
          rw [z, h2] at hr0; cases hr0
        · obtain ⟨_, h2⟩ := rpL vR.len GG r z
          rw [h2] at hr0; cases hr0
      have T1 := htold _ exS
      obtain ⟨dd, das, dt, sm1⟩ := T1.dt vR esm (tS GH)
      refine q_asgCB ?_
      refine ⟨_, rfl, _, 3, p1, dd, das, rfl, dt, sm1, ?_⟩
      obtain ⟨pk, hpk⟩ : ∃ pk, rps[k]? = some pk := ⟨_, List.getElem?_eq_getElem (by rw [rl]; exact hkl)⟩
      obtain ⟨bpk, hbpk⟩ : ∃ bpk, bps[k]? = some bpk := ⟨_, List.getElem?_eq_getElem (by rw [bl]; exact hkl)⟩
      have pkm : pk ∈ rps := List.mem_of_getElem? hpk
      have bpkm : bpk ∈ bps := List.mem_of_getElem? hbpk
      obtain ⟨as, ha, hpa⟩ := GH.row.lg k pk es hpk hes
      have asl : as.length = es.length := by simpa using hpa.length
      dsimp only [List.set]
      refine q_app ha (ev_dget (ev_var rfl) (ev_var rfl) GH.row.dk (dk_get znd hk hpk)) (ev_var rfl) (by rw [List.length_map]; omega) fun HI eI => ?_
      have GI := GH.ex eI
      have kJ : KN [pk] HI (upd HI pk (.lst (as.map V.ref ++ [.ref ae]))) := KN.upd (by simp)
      have gJ : (upd HI pk (.lst (as.map V.ref ++ [.ref ae]))) pk = some (.lst (as.map V.ref ++ [.ref ae])) := upd_same
      generalize upd HI pk (.lst (as.map V.ref ++ [.ref ae])) = HJ at kJ gJ ⊢
      have haI := eI _ _ ha
      have tJ : ∀ {a : Addr} {xs : List V}, HI a = some (.tup xs) → HJ a = some (.tup xs) := fun h => kJ _ _ (fun z => by
        rw [List.mem_singleton.mp z, haI] at h
        cases h) h
      have haeJ : HJ ae = some (.tup e.vs) := tJ (up GI.kn hae nas)
      have rowJ : HL HJ rd names' rps (R.set k (es ++ [e])) := GI.row.put1 rnd hpk haI kJ ⟨as ++ [ae], by rw [gJ, List.map_append]; rfl, by
        rw [List.map_append]
        exact Paired.snoc (paired_imp (fun a u h => tJ (eI _ _ h)) hpa) haeJ⟩
      have k4 : ∀ {S : List Addr} {Ha Hb : Hp}, (∀ s ∈ S, s ∈ dn :: kd :: (rps ++ bps)) → KN S Ha Hb → KN (dn :: kd :: (rps ++ bps)) Ha Hb := fun hs kn b o n h => kn b o (fun z => n (hs _ z)) h
      have kIJ : KN (dn :: kd :: (rps ++ bps)) HI HJ := k4 (fun s hs => by
        rw [List.mem_singleton.mp hs]
        exact List.mem_cons_of_mem _ (List.mem_cons_of_mem _ (List.mem_append_left _ pkm))) kJ
      have pkb : ∀ r ∈ bps, r ≠ pk := fun r hr z => (List.nodup_append.mp rbnd).2.2 pk pkm r hr z.symm
      have dpk : dn ≠ pk := fun z => dnrb (by rw [z]; exact List.mem_append_left _ pkm)
      have kpk : kd ≠ pk := fun z => kdrb (by rw [z]; exact List.mem_append_left _ pkm)
      have dbp : dn ≠ bpk := fun z => dnrb (by rw [z]; exact List.mem_append_right _ bpkm)
      have kbp : kd ≠ bpk := fun z => kdrb (by rw [z]; exact List.mem_append_right _ bpkm)
      have donJ := kJ _ _ (fun z => dpk (List.mem_singleton.mp z)) GI.don
      have fpp := more_flat (f := pus) (g := En.pu) (e := e) pus_snoc hes
      obtain ⟨ks', hks', pks'⟩ := GI.knw
      have hksJ := kJ _ _ (fun z => kpk (List.mem_singleton.mp z)) hks'
      have bgtJ : ∀ (i : Nat) p es, bps[i]? = some p → R[i]? = some es → HJ p = some (.lst ((pus es).map V.str)) := fun i p es h2 h3 => kJ _ _ (fun z => pkb p (List.mem_of_getElem? h2) (List.mem_singleton.mp z)) (GI.bgt i p es h2 h3)
      have boH : HI bo = some (.dK (Dk names' bps)) := GI.kn _ _ boM hboS
      have boJ : HJ bo = some (.dK (Dk names' bps)) := kJ _ _ (fun z => boM (by rw [List.mem_singleton.mp z]; simp [pkm])) boH
      refine q_if2 (fun HK => KN (dn :: kd :: (rps ++ bps)) HJ HK ∧ HK dn = some (.dK (KsV names' fun x => .int ((lgOf names' R x).length : Int))) ∧ HL HK rd names' rps (R.set k (es ++ [e])) ∧ (∀ (i : Nat) p r, bps[i]? = some p → (R.set k (es ++ [e]))[i]? = some r → HK p = some (.lst ((pus r).map V.str))) ∧ ∃ ks, HK kd = some (.dK (KsV ks fun _ => .bl true)) ∧ ks.Perm ((R.set k (es ++ [e])).flatMap pus))
        (b := e.isPu) (et_is (et_test (ev_op (ev_op (ev_var rfl) ev_c (rv_ixT (st_of haeJ) e.at0)) ev_c (rv_eq rfl))) e.isPu_eq) (fun HK hC => ?_) (fun hb HK eK kk => ?_) (fun hb HK eK kk => ?_)
      · obtain ⟨kJK, donK, rowK, bgtK, ksK, hksK, pksK⟩ := hC
        have haeK := kJK _ _ (fun z => by
          rcases List.mem_cons.mp z with z | z
          · rw [← z, haeJ] at donJ; cases donJ
          rcases List.mem_cons.mp z with z | z
          · rw [← z, haeJ] at hksJ; cases hksJ
          · have hz := up GI.kn hae nas
            obtain ⟨_, h2⟩ := rpL vR.len GI ae z
            rw [hz] at h2; cases h2) haeJ
        have TI := (T1.ex eI).kn (kIJ.trans kJK) (tS GI)
        have dtK : Dt (dn :: kd :: (rps ++ bps)) HK 3 (.ref p1) dd das := (dt.kn (kn_ex eI)).kn (kIJ.trans kJK)
        have boK := kJK _ _ (fun z => boM (List.mem_cons_of_mem _ z)) boJ
        refine q_asgCB ?_
        refine ⟨_, rfl, _, rfl, (dG donK rfl rfl hxn) HK (Ex.refl _) _ fun HL1 eL => ⟨(by show 2 ≤ sizeLine; decide), fun t3 ht3 => ⟨_, rfl, _, rfl, ?_⟩⟩⟩
        have eM : Ex HL1 (upd HL1 t3 (.tup [.str x, .int ((lgOf names' R x).length : Int)])) := Ex.new ht3
        have hM : (upd HL1 t3 (.tup [.str x, .int ((lgOf names' R x).length : Int)])) t3 = some (.tup [.str x, .int ((lgOf names' R x).length : Int)]) := upd_same
        generalize upd HL1 t3 (.tup [.str x, .int ((lgOf names' R x).length : Int)]) = HM at eM hM ⊢
        have EM := eL.trans eM
        rw [lr] at hM
        refine ⟨p1, t3, ae, bo, names', R, k, x, es, e, _, rfl, (TI.ex EM).sub (fun _ z => nomatch z), hM, EM _ _ haeK, EM _ _ boK, fun j o es' h2 h3 => ?_, vR, vR2, hk, hes, fun du HN ndu eN hdue => ?_⟩
        · obtain ⟨bp, hbp⟩ : ∃ bp, bps[j]? = some bp := ⟨_, List.getElem?_eq_getElem (by rw [bl]; exact (List.getElem?_eq_some_iff.mp h2).1)⟩
          exact ⟨bp, dk_get znd h2 hbp, EM _ _ (bgtK j bp es' hbp h3)⟩
        have EN := EM.trans eN
        have donN := EN _ _ donK
        refine (ev_op (r := rI0 fun i j => V.int (i + j)) (dG donN rfl rfl hxn) ev_c rv_I0) HN (Ex.refl _) _ fun HX eO => ⟨_, rfl, _, rfl, dn, _, rfl, DPut.k (k := .inr x) (eO _ _ donN) (by rw [ks_len]; exact sz_lt (by omega)), ?_⟩
        rw [put_ksv_old hxn]
        have eK2 : KsV names' (updV (fun x => V.int ((lgOf names' R x).length : Int)) x (.int ((lgOf names' R x).length + 1 : Int))) = KsV names' fun x => V.int ((lgOf names' (R.set k (es ++ [e])) x).length : Int) := by
          unfold KsV
          refine List.map_congr_left fun z hz => ?_
          show ((.inr z : Key), updV (fun x => V.int ((lgOf names' R x).length : Int)) x (.int ((lgOf names' R x).length + 1 : Int)) z) = (.inr z, V.int ((lgOf names' (R.set k (es ++ [e])) z).length : Int))
          obtain ⟨j, hj⟩ := List.mem_iff_getElem?.mp hz
          obtain ⟨ej, hej⟩ : ∃ ej, R[j]? = some ej := ⟨_, List.getElem?_eq_getElem (by rw [vR.len]; exact (List.getElem?_eq_some_iff.mp hj).1)⟩
          by_cases c : k = j
          · subst c
            rw [hk] at hj
            cases hj
            rw [updV_same, lr, lgOf_at znd hk (List.getElem?_set_self (List.getElem?_eq_some_iff.mp hes).1), List.length_append, List.length_singleton]
            rfl
          · have zx : z ≠ x := fun y => c (by
              subst y
              exact ((List.getElem?_inj (List.getElem?_eq_some_iff.mp hj).1 znd).mp (hj.trans hk.symm)).symm)
            rw [updV_ne zx, lgOf_at znd hj hej, lgOf_at znd hj (by rw [List.getElem?_set_ne c]; exact hej)]
        rw [eK2]
        have knP : KN (dn :: kd :: (rps ++ bps)) HK (upd HX dn (.dK (KsV names' fun x => V.int ((lgOf names' (R.set k (es ++ [e])) x).length : Int)))) := (kn_ex (EN.trans eO)).trans (KN.upd (by simp))
        have knP1 : KN [dn] HX (upd HX dn (.dK (KsV names' fun x => V.int ((lgOf names' (R.set k (es ++ [e])) x).length : Int)))) := KN.upd (by simp)
        have donP : (upd HX dn (.dK (KsV names' fun x => V.int ((lgOf names' (R.set k (es ++ [e])) x).length : Int)))) dn = some (.dK (KsV names' fun x => V.int ((lgOf names' (R.set k (es ++ [e])) x).length : Int))) := upd_same
        generalize upd HX dn (.dK (KsV names' fun x => V.int ((lgOf names' (R.set k (es ++ [e])) x).length : Int))) = HP at knP knP1 donP ⊢
        have EO := EN.trans eO
        have toP : ∀ {b : Addr} {o : HO}, b ≠ dn → HK b = some o → HP b = some o := fun n h => knP1 _ _ (fun z => n (List.mem_singleton.mp z)) (EO _ _ h)
        have dnl : ∀ {b : Addr} {o : HO}, HX b = some o → (∀ kvs, o ≠ .dK kvs) → b ≠ dn := fun h n z => by
          rw [z, (eO _ _ donN)] at h
          exact n _ (Option.some.inj h).symm
        have dueP : Told [] HP du names' (R.set k (es ++ [e])) (es ++ [e]) := by
          have h0 := ((hdue [dn] (fun s hs => by
            rw [List.mem_singleton.mp hs]
            exact ⟨_, EM _ _ donK⟩)).ex eO).kn knP1 (fun t xs h z => by
            rw [List.mem_singleton.mp z, eO _ _ donN] at h
            cases h)
          exact h0.sub (fun _ z => nomatch z)
        have rowP : HL HP rd names' rps (R.set k (es ++ [e])) := (rowK.ex EO).kn2 knP1 (fun z => rdM (by rw [List.mem_singleton.mp z]; simp)) (fun r hr z => dnrb (by rw [← List.mem_singleton.mp z]; exact List.mem_append_left _ hr)) (fun b xs h z => by
          rw [List.mem_singleton.mp z, eO _ _ donN] at h
          cases h)
        have dtP := dtK.kn knP
        have h2k : (R.set k (es ++ [e]))[k]? = some (es ++ [e]) := List.getElem?_set_self (List.getElem?_eq_some_iff.mp hes).1
        dsimp only [List.set]
        have rep : ∀ {σ : L2.St} {H2 : Hp}, σ[13]? = some (some (.ref p1)) → Ex HP H2 → Ev (tCB (rReprT K) (tCons (tVar 13) tNil)) σ H2 (.str dd.shown) := fun h13 e2 HQ eQ Q7 q7 => ⟨_, h13, _, 3, p1, dd, das, rfl, dtP.kn (kn_ex (e2.trans eQ)), sm1, q7 HQ (Ex.refl _)⟩
        refine s_if (b := false) (et_is (et_or (a := false) (b := false) (et_not (a := true) (et_B ?_)) (fun _ => et_is (et_test (ev_op (rep rfl (Ex.refl _)) (ev_var (show _ = some (some (V.str dd.shown)) from rfl)) (rv_ne (x := .str dd.shown) (y := .str dd.shown) rfl))) (by simp))) rfl) (fun z => nomatch z) fun _ HQ eQ => ?_
        · exact fun HQ eQ Q7 q7 => ⟨_, rfl, _, rfl, rd, names', rps, _, k, x, _, rfl, rowP.ex eQ, rnd, vR2, hk, h2k, by rw [List.length_append, List.length_singleton]; omega, fun p2 HR np2 eR ht2 => ⟨_, rfl, _, _, rfl, eq_told vR2 (by rw [List.length_append, List.length_singleton]; omega) (ht2 [] (fun _ _ z => nomatch z)) (dueP.ex (eQ.trans eR)), fun HT eT => q7 HT (eR.trans eT)⟩⟩
        · refine ⟨⟨_, _, _, _, _, _, _, _, _, rfl⟩, _, vR2, pr2, fun r hr0 => ?_, ?_⟩
          · obtain ⟨i, hi⟩ := List.mem_iff_getElem?.mp hr0
            rcases set_at hi with ⟨_, rfl⟩ | ⟨_, g⟩
            · rw [List.length_append, List.length_singleton]; omega
            · exact l59 _ (List.mem_of_getElem? g)
          · obtain ⟨srcI⟩ : Nonempty (Src HI s (n + t + 1)) := ⟨GI.src⟩
            have sM : s ∉ dn :: kd :: (rps ++ bps) := fun z => by
              rcases List.mem_cons.mp z with z | z
              · exact sdn z
              rcases List.mem_cons.mp z with z | z
              · exact skd z
              · exact srb z
            have kall : KN (dn :: kd :: (rps ++ bps)) HI HP := (kIJ.trans kJK).trans knP
            have GP : Gr s pn dn rd bo kd names' rps bps Hs HP (n + t + 1) (R.set k (es ++ [e])) := by
              refine ⟨GI.kn.trans (fun b o nb h => kall b o (fun z => nb (List.mem_cons_of_mem _ z)) h), ?_, donP, rowP, fun i p r h3 h4 => toP (fun z => dnrb (by rw [← z]; exact List.mem_append_right _ (List.mem_of_getElem? h3))) (bgtK i p r h3 h4), ksK, toP dnkd.symm hksK, pksK⟩
              obtain ⟨a, b, c, h3, h4⟩ := srcI
              exact ⟨a, b, c, kall _ _ sM h3, h4⟩
            exact GP.ex eQ
      · cases e with
        | push y =>
          have yR := fresh_push vR hes vR2
          have bl60 : ((pus es).map V.str).length < 100000 := by rw [List.length_map]; have := pus_len es; omega
          refine q_app (eK _ _ (bgtJ k bpk es hbpk hes)) (ev_dget (ev_var rfl) (ev_var rfl) (eK _ _ boJ) (dk_get znd hk hbpk)) (v := .str y) (ev_op (ev_var rfl) ev_c (rv_ixT (st_of (eK _ _ haeJ)) rfl)) bl60 fun HK1 eK1 => ?_
          have eJ1 := eK.trans eK1
          have kbM : KN [bpk] HJ (upd HK1 bpk (.lst ((pus es).map V.str ++ [.str y]))) := (kn_ex eJ1).trans (KN.upd (by simp))
          have gB : (upd HK1 bpk (.lst ((pus es).map V.str ++ [.str y]))) bpk = some (.lst ((pus es).map V.str ++ [.str y])) := upd_same
          have tB1 : (upd HK1 bpk (.lst ((pus es).map V.str ++ [.str y]))) ae = some (.tup (En.push y).vs) := kbM _ _ (fun z => by
            have := bgtJ k bpk es hbpk hes
            rw [← List.mem_singleton.mp z, haeJ] at this
            cases this) haeJ
          generalize upd HK1 bpk (.lst ((pus es).map V.str ++ [.str y])) = HK2 at kbM gB tB1 ⊢
          refine ⟨_, rfl, (ev_op (ev_var rfl) ev_c (rv_ixT (st_of tB1) rfl)) HK2 (Ex.refl _) _ fun HK3 e3 => ⟨kd, _, rfl, DPut.k (k := .inr y) (v := .bl true) (e3 _ _ (kbM _ _ (fun z => kbp (List.mem_singleton.mp z)) hksJ)) (by rw [ks_len, pks'.length_eq]; exact sz_lt (by have := flat_le pus_len (vR.ok (Nat.le_refl _)); omega)), ?_⟩⟩
          have yk : y ∉ ks' := fun h => yR (pks'.mem_iff.mp h)
          rw [put_ksv_new yk]
          have eKs : KsV (ks' ++ [y]) (updV (fun _ => V.bl true) y (.bl true)) = KsV (ks' ++ [y]) fun _ => V.bl true := by
            unfold KsV
            refine List.map_congr_left fun z _ => ?_
            show ((.inr z : Key), updV (fun _ => V.bl true) y (.bl true) z) = (.inr z, V.bl true)
            unfold updV
            split <;> rfl
          rw [eKs]
          have k3 : KN [kd, bpk] HJ (upd HK3 kd (.dK (KsV (ks' ++ [y]) fun _ => V.bl true))) := fun b o nb h => by
            rw [upd_ne (fun z => nb (by simp [z]))]
            exact e3 _ _ (kbM _ _ (fun z => nb (by simp [List.mem_singleton.mp z])) h)
          refine kk _ ⟨k4 (fun s hs => by
            simp only [List.mem_cons, List.not_mem_nil, or_false] at hs
            rcases hs with rfl | rfl
            · simp
            · simp [bpkm]) k3, k3 _ _ (by simp [dnkd, dbp]) donJ, rowJ.kn2 k3 (fun z => rdM (by simp at z ⊢; rcases z with z | z <;> simp [z, bpkm])) (fun r hr z => ?_) (fun b xs h z => ?_), fun i p r h2 h3 => ?_, _, upd_same, ?_⟩
          · simp only [List.mem_cons, List.not_mem_nil, or_false] at z
            rcases z with rfl | rfl
            · exact kdrb (List.mem_append_left _ hr)
            · exact (List.nodup_append.mp rbnd).2.2 r hr r bpkm rfl
          · simp only [List.mem_cons, List.not_mem_nil, or_false] at z
            rcases z with rfl | rfl
            · rw [hksJ] at h; cases h
            · rw [bgtJ k _ es hbpk hes] at h; cases h
          · rcases set_at h3 with ⟨rfl, rfl⟩ | ⟨ne, g⟩
            · rw [hbpk] at h2
              cases h2
              rw [upd_ne kbp.symm, e3 _ _ gB, pus_snoc, List.map_append]
              rfl
            · have npb : p ≠ bpk := fun z => ne (by
                subst z
                exact (List.getElem?_inj (List.getElem?_eq_some_iff.mp hbpk).1 bnd).mp (hbpk.trans h2.symm))
              exact k3 _ _ (by
                simp only [List.mem_cons, List.not_mem_nil, or_false, not_or]
                exact ⟨fun z => kdrb (by rw [← z]; exact List.mem_append_right _ (List.mem_of_getElem? h2)), npb⟩) (bgtJ i p r h2 g)
          · exact (pks'.append_right [y]).trans fpp.symm
        | _ => cases hb
      · have hpu : e.pu = [] := by cases e <;> first | rfl | cases hb
        rw [hpu, List.append_nil] at fpp
        refine kk HK ⟨kn_ex eK, eK _ _ donJ, rowJ.ex eK, fun i p r h2 h3 => ?_, ks', eK _ _ hksJ, pks'.trans fpp.symm⟩
        rcases set_at h3 with ⟨rfl, rfl⟩ | ⟨ne, g⟩
        · rw [pus_snoc, hpu, List.append_nil]
          exact eK _ _ (bgtJ k p es h2 hes)
        · exact eK _ _ (bgtJ i p r h2 g)
    · obtain ⟨⟨b7, b8, b9, b10, b11, b12, b13, b14, b15, rfl⟩, R, vR, pr, l59, G⟩ := p
      exact s_ret (v := .bl true) ev_c fun H1 e1 => qq (G.ex e1) (by simp)
end
end Vx

set_option Elab.async false
set_option linter.all false
set_option maxRecDepth 100000
set_option maxHeartbeats 8000000
namespace Vx
open PySem PySem.Spec PyProof.Rows L2 Evl
def spLaw (K : PySem.W.Frag) : Sp := fun vs H Q _ => ∃ (a : Addr) (ns : List Int), vs = [.ref a] ∧ SqL K H a (ns.map V.int) ∧ ns.length ≤ 63 ∧ ∀ H', Q (.bl true) H'
section
variable {P : Program} {w : World} {K : PySem.W.Frag} {mg : Str → Option Value} {base : Heap}
theorem sc_law : FnScope ["script", "k", "source", "turn"] ["script"] (defScope s_law) := ⟨rfl, rfl, rfl, by decide +kernel, rfl, by decide +kernel, by decide +kernel⟩
theorem ok_law {f : Addr} {fd : FuncData} (F : Fun K "law" "law" s_law f fd) (T : Bl mg) (G_law_grown : GoodG P w K mg base 9 "_law_grown" ["source", "whole"] (spGrown K)) (G_law_source : Good P w K mg base 1 "_law_source" ["script", "k"] (spSource K)) (G_law_logs : Good P w K mg base 4 "_law_logs" ["source", "top"] (spLogs K)) : FnG P w K mg base 10 f fd ["script"] (spLaw K) := by
  refine fun_okG F sc_law (fun vs H Q E h => ?_) (fun cdv A outer s H vs Q E quiet hr h => ?_)
  · obtain ⟨a, ns, rfl, _⟩ := h
    rfl
  · obtain ⟨a, ns, rfl, hS, hlen, q⟩ := h
    have hu := hu_of hr
    refine ⟨_, (pss_cons (ps_for PassesOwn.never rfl (x_rng T (pa_cons (pe_callB (call_max2 rfl) (by rfl) T.max (by decide +kernel) (pa_cons pe_int (pa_cons (pe_callB (call_min2 rfl) (by rfl) T.min (by decide +kernel) (pa_cons pe_int (pa_cons (x_len (K := K) T (pv 0)) pa_nil))) pa_nil))) pa_nil)) (pg_name (i := 1) sc_law.nd rfl (Or.inl rfl)) (pss_cons (ps_set (i := 2) sc_law.nd rfl (Or.inl rfl) (pe_fn (G_law_source.mono (by decide)) hr (pa_cons (pv 0) (pa_cons (pv 1) pa_nil))))
      (pss_one (ps_for PassesOwn.never rfl (x_rng T (pa_cons pe_int pa_nil)) (pg_name (i := 3) sc_law.nd rfl (Or.inl rfl)) (pss_one (ps_if (pt_not (pt_val (pe_fnG G_law_grown quiet hr (pa_cons (pv 2) (pa_cons (pe_fn (G_law_logs.mono (by decide)) hr (pa_cons (pv 2) (pa_cons (x_ixl (K := K) (pe_lst (pa_cons pe_int (pa_cons pe_int pa_nil))) (pv 3)) pa_nil))) pa_nil))))) pss_never pss_nil))))))
      (pss_one (ps_ret pe_bl))), ?_⟩
    refine q_forR1 (n := if (if (ns.length : Int) < 2 then (ns.length : Int) else 2) > 1 then (if (ns.length : Int) < 2 then (ns.length : Int) else 2) else 1) (ea_cons (ev_max2 ev_c (ev_mn2 ev_c (Evl.ev_is (ev_len (ev_var rfl) hS) (by rw [List.length_map])))) ea_nil) (by constructor <;> (split <;> (try split) <;> omega))
      (fun _ σ' H' => (∃ b1 b2 b3, σ' = [some (.ref a), b1, b2, b3]) ∧ Ex H H') (fun H1 e1 => ⟨⟨_, _, _, rfl⟩, e1⟩) (fun k σ' H2 hk p => ?_) (fun σ' H2 p => ?_)
    · obtain ⟨⟨b1, b2, b3, rfl⟩, e2⟩ := p
      have hk3 : (k : Int) < 2 := by
        split at hk <;> (try split at hk) <;> omega
      refine ⟨_, rfl, _, rfl, a, ns, (k : Int), rfl, ex_l e2 hS, by omega, by omega, fun p x y hp x0 y0 y1 => ?_⟩
      have s0 : Src (upd H2 p (.lst [.int x, .int y, .int 0])) p 0 := ⟨x, y, 0, upd_same, x0, y0, y1, by decide, by decide⟩
      have e3 : Ex H2 (upd H2 p (.lst [.int x, .int y, .int 0])) := Ex.new hp
      generalize upd H2 p (.lst [.int x, .int y, .int 0]) = H3 at s0 e3
      dsimp only [gName]
      refine s_forR1 (n := 2) (ea_cons ev_c ea_nil) (by decide) (fun t σ' H' => (∃ b3, σ' = [some (.ref a), some (.int (k : Int)), some (.ref p), b3]) ∧ Ex H2 H' ∧ Src H' p (10000 * t)) (fun H4 e4 => ⟨⟨_, rfl⟩, e3.trans e4, s0.ex e4⟩) (fun t σ' H4 ht pp => ?_) (fun σ' H4 pp => ?_)
      · obtain ⟨⟨b3, rfl⟩, e4, s4⟩ := pp
        have ht3 : t < 2 := by omega
        obtain ⟨m, hm, m0, m1⟩ : ∃ m : Nat, atI ([.int 8, .int 60] : List V) (t : Int) = some (.int (m : Int)) ∧ 1 ≤ m ∧ m ≤ 60 := by
          rcases (show t = 0 ∨ t = 1 by omega) with rfl | rfl
          · exact ⟨8, rfl, by decide, by decide⟩
          · exact ⟨60, rfl, by decide, by decide⟩
        have ix : ∀ {σ : L2.St} {H : Hp}, σ[3]? = some (some (.int (t : Int))) → Ev (tOp (rIxL K) (tLst (tCons (tC (.int 8)) (tCons (tC (.int 60)) tNil))) (tVar 3)) σ H (.int (m : Int)) := fun h3 =>
          ev_opL1 (el_lst (ea_cons ev_c (ea_cons ev_c ea_nil)) (by show 2 ≤ 100000; decide)) (fun _ _ => ev_var h3) (fun _ _ hq _ => rv_ixL (sq_of hq) hm)
        dsimp only [List.set]
        have ix1 : Ev (tOp (rIxL K) (tLst (tCons (tC (.int 8)) (tCons (tC (.int 60)) tNil))) (tVar 3)) [some (.ref a), some (.int (k : Int)), some (.ref p), some (.int (t : Int))] H4 (.int (m : Int)) := ix rfl
        refine ⟨_, rfl, _, rfl, ix1 H4 (Ex.refl _) _ fun H5 e5 => ⟨p, 10000 * t, m, rfl, s4.ex e5, by omega, m0, m1, fun d ws ps L H6 nd6 k6 s6 hl6 hn6 hd6 v6 => ⟨p, d, 10000 * t + 4000, ws, ps, L, rfl, s6, by omega, hl6, v6.up m1, fun H7 k7 s7 => ⟨true, rfl, iteF ?_⟩⟩⟩⟩
        unfold tNext
        dsimp only
        refine ⟨⟨_, rfl⟩, fun b o h => ?_, s7.le (by omega)⟩
        have n1 : b ≠ p := fun e => by rw [e, hp] at h; cases h
        exact k7 _ _ n1 (k6 _ _ n1 ((e4.trans e5) _ _ h))
      · obtain ⟨⟨b3, rfl⟩, e4, s4⟩ := pp
        exact ⟨⟨_, _, _, rfl⟩, e2.trans e4⟩
    · exact s_ret (v := .bl true) ev_c fun H1 e1 => q H1
end
end Vx

set_option Elab.async false
set_option linter.all false
set_option maxRecDepth 100000
set_option maxHeartbeats 4000000
namespace Vx
open PySem PySem.Spec PyProof.Rows L2 Evl
def nbB (K : PySem.W.Frag) : Bool := (["len", "max", "min", "abs", "all", "zip", "list", "tuple", "dict", "bool", "int", "str", "range", "isinstance", "sorted", "set", "enumerate", "repr"] : List Str).all fun n => decide (PySem.W.nsIn K mainGlobals n = some none)
theorem bl_ok {K : PySem.W.Frag} {mg : Str → Option Value} {h : Heap} (X : K.In h) (G : h.Ns mainGlobals mg) (nb : nbB K = true) : Bl mg := by
  have nn : ∀ n ∈ (["len", "max", "min", "abs", "all", "zip", "list", "tuple", "dict", "bool", "int", "str", "range", "isinstance", "sorted", "set", "enumerate", "repr"] : List Str), PySem.W.nsIn K mainGlobals n = some none := fun n hn => of_decide_eq_true (List.all_eq_true.mp nb n hn)
  have mn : ∀ n ∈ (["len", "max", "min", "abs", "all", "zip", "list", "tuple", "dict", "bool", "int", "str", "range", "isinstance", "sorted", "set", "enumerate", "repr"] : List Str), mg n = none := fun n hn => PySem.W.mg_none_of X G (nn n hn)
  exact ⟨mn _ (by simp), mn _ (by simp), mn _ (by simp), mn _ (by simp), mn _ (by simp), mn _ (by simp), mn _ (by simp), mn _ (by simp), mn _ (by simp), mn _ (by simp), mn _ (by simp), mn _ (by simp), mn _ (by simp), mn _ (by simp), mn _ (by simp), mn _ (by simp), mn _ (by simp), mn _ (by simp)⟩
theorem all_mk {l : PySem.W.OpenLaw} {w : World} {K : PySem.W.Frag} {h : Heap} {mg : Str → Option Value} {fa : Addr} (X : K.In h) (G : h.Ns mainGlobals mg) (hfa : mg "law" = some (.ref fa)) (nb : nbB K = true)
    {f1 f2 f3 f4 f5 f6 f7 f8 f9 f10 f11 f12 f13 f14 f15 f16 f17 f18 f19 f20 f21 f22 f23 f24 f25 f26 f27 f28 f29 f30 f31 f32 f33 f34 f35 f36 : Addr}
    {od1 an1 : Option Addr} {sl1 : Array (Option Value)} {oc1 kV1 dc1 pm1 cd1 ct1 : Value}
    {od2 an2 : Option Addr} {sl2 : Array (Option Value)} {oc2 kV2 dc2 pm2 cd2 ct2 : Value}
    {od3 an3 : Option Addr} {sl3 : Array (Option Value)} {oc3 kV3 dc3 pm3 cd3 ct3 : Value}
    {od4 an4 : Option Addr} {sl4 : Array (Option Value)} {oc4 kV4 dc4 pm4 cd4 ct4 : Value}
    {od5 an5 : Option Addr} {sl5 : Array (Option Value)} {oc5 kV5 dc5 pm5 cd5 ct5 : Value}
    {od6 an6 : Option Addr} {sl6 : Array (Option Value)} {oc6 kV6 dc6 pm6 cd6 ct6 : Value}
    {od7 an7 : Option Addr} {sl7 : Array (Option Value)} {oc7 kV7 dc7 pm7 cd7 ct7 : Value}
    {od8 an8 : Option Addr} {sl8 : Array (Option Value)} {oc8 kV8 dc8 pm8 cd8 ct8 : Value}
    {od9 an9 : Option Addr} {sl9 : Array (Option Value)} {oc9 kV9 dc9 pm9 cd9 ct9 : Value}
    {od10 an10 : Option Addr} {sl10 : Array (Option Value)} {oc10 kV10 dc10 pm10 cd10 ct10 : Value}
    {od11 an11 : Option Addr} {sl11 : Array (Option Value)} {oc11 kV11 dc11 pm11 cd11 ct11 : Value}
    {od12 an12 : Option Addr} {sl12 : Array (Option Value)} {oc12 kV12 dc12 pm12 cd12 ct12 : Value}
    {od13 an13 : Option Addr} {sl13 : Array (Option Value)} {oc13 kV13 dc13 pm13 cd13 ct13 : Value}
    {od14 an14 : Option Addr} {sl14 : Array (Option Value)} {oc14 kV14 dc14 pm14 cd14 ct14 : Value}
    {od15 an15 : Option Addr} {sl15 : Array (Option Value)} {oc15 kV15 dc15 pm15 cd15 ct15 : Value}
    {od16 an16 : Option Addr} {sl16 : Array (Option Value)} {oc16 kV16 dc16 pm16 cd16 ct16 : Value}
    {od17 an17 : Option Addr} {sl17 : Array (Option Value)} {oc17 kV17 dc17 pm17 cd17 ct17 : Value}
    {od18 an18 : Option Addr} {sl18 : Array (Option Value)} {oc18 kV18 dc18 pm18 cd18 ct18 : Value}
    {od19 an19 : Option Addr} {sl19 : Array (Option Value)} {oc19 kV19 dc19 pm19 cd19 ct19 : Value}
    {od20 an20 : Option Addr} {sl20 : Array (Option Value)} {oc20 kV20 dc20 pm20 cd20 ct20 : Value}
    {od21 an21 : Option Addr} {sl21 : Array (Option Value)} {oc21 kV21 dc21 pm21 cd21 ct21 : Value}
    {od22 an22 : Option Addr} {sl22 : Array (Option Value)} {oc22 kV22 dc22 pm22 cd22 ct22 : Value}
    {od23 an23 : Option Addr} {sl23 : Array (Option Value)} {oc23 kV23 dc23 pm23 cd23 ct23 : Value}
    {od24 an24 : Option Addr} {sl24 : Array (Option Value)} {oc24 kV24 dc24 pm24 cd24 ct24 : Value}
    {od25 an25 : Option Addr} {sl25 : Array (Option Value)} {oc25 kV25 dc25 pm25 cd25 ct25 : Value}
    {od26 an26 : Option Addr} {sl26 : Array (Option Value)} {oc26 kV26 dc26 pm26 cd26 ct26 : Value}
    {od27 an27 : Option Addr} {sl27 : Array (Option Value)} {oc27 kV27 dc27 pm27 cd27 ct27 : Value}
    {od28 an28 : Option Addr} {sl28 : Array (Option Value)} {oc28 kV28 dc28 pm28 cd28 ct28 : Value}
    {od29 an29 : Option Addr} {sl29 : Array (Option Value)} {oc29 kV29 dc29 pm29 cd29 ct29 : Value}
    {od30 an30 : Option Addr} {sl30 : Array (Option Value)} {oc30 kV30 dc30 pm30 cd30 ct30 : Value}
    {od31 an31 : Option Addr} {sl31 : Array (Option Value)} {oc31 kV31 dc31 pm31 cd31 ct31 : Value}
    {od32 an32 : Option Addr} {sl32 : Array (Option Value)} {oc32 kV32 dc32 pm32 cd32 ct32 : Value}
    {od33 an33 : Option Addr} {sl33 : Array (Option Value)} {oc33 kV33 dc33 pm33 cd33 ct33 : Value}
    {od34 an34 : Option Addr} {sl34 : Array (Option Value)} {oc34 kV34 dc34 pm34 cd34 ct34 : Value}
    {od35 an35 : Option Addr} {sl35 : Array (Option Value)} {oc35 kV35 dc35 pm35 cd35 ct35 : Value}
    {od36 an36 : Option Addr} {sl36 : Array (Option Value)} {oc36 kV36 dc36 pm36 cd36 ct36 : Value}
    (m0 : ∃ t, PySem.W.nsIn K mainGlobals "MOST_LETTERS" = some (some (.int 8 t)))
    (m1 : ∃ t, PySem.W.nsIn K mainGlobals "MOST_ITEMS" = some (some (.int 60 t)))
    (m2 : ∃ t, PySem.W.nsIn K mainGlobals "MOST_WORKERS" = some (some (.int 6 t)))
    (m3 : ∃ t, PySem.W.nsIn K mainGlobals "MOST_ENTRIES" = some (some (.int 60 t)))
    (b1 : PySem.W.nsIn K mainGlobals "is_integer" = some (some (.ref f1))) (l1 : K.lookup f1 = some ⟨oc1, od1, .func (PySem.W.fnOf "is_integer" "is_integer" (defArgs s_is_integer) (defBody s_is_integer) (defScope s_is_integer) .none kV1 dc1 pm1 an1 cd1 ct1), sl1⟩) (e1 : PySem.W.codeIn K cd1 "is_integer" = true) (k1 : PySem.W.keepIn K (.ref f1) = true)
    (b2 : PySem.W.nsIn K mainGlobals "is_name" = some (some (.ref f2))) (l2 : K.lookup f2 = some ⟨oc2, od2, .func (PySem.W.fnOf "is_name" "is_name" (defArgs s_is_name) (defBody s_is_name) (defScope s_is_name) .none kV2 dc2 pm2 an2 cd2 ct2), sl2⟩) (e2 : PySem.W.codeIn K cd2 "is_name" = true) (k2 : PySem.W.keepIn K (.ref f2) = true)
    (b3 : PySem.W.nsIn K mainGlobals "is_size" = some (some (.ref f3))) (l3 : K.lookup f3 = some ⟨oc3, od3, .func (PySem.W.fnOf "is_size" "is_size" (defArgs s_is_size) (defBody s_is_size) (defScope s_is_size) .none kV3 dc3 pm3 an3 cd3 ct3), sl3⟩) (e3 : PySem.W.codeIn K cd3 "is_size" = true) (k3 : PySem.W.keepIn K (.ref f3) = true)
    (b4 : PySem.W.nsIn K mainGlobals "is_entry" = some (some (.ref f4))) (l4 : K.lookup f4 = some ⟨oc4, od4, .func (PySem.W.fnOf "is_entry" "is_entry" (defArgs s_is_entry) (defBody s_is_entry) (defScope s_is_entry) .none kV4 dc4 pm4 an4 cd4 ct4), sl4⟩) (e4 : PySem.W.codeIn K cd4 "is_entry" = true) (k4 : PySem.W.keepIn K (.ref f4) = true)
    (b5 : PySem.W.nsIn K mainGlobals "is_worker" = some (some (.ref f5))) (l5 : K.lookup f5 = some ⟨oc5, od5, .func (PySem.W.fnOf "is_worker" "is_worker" (defArgs s_is_worker) (defBody s_is_worker) (defScope s_is_worker) .none kV5 dc5 pm5 an5 cd5 ct5), sl5⟩) (e5 : PySem.W.codeIn K cd5 "is_worker" = true) (k5 : PySem.W.keepIn K (.ref f5) = true)
    (b6 : PySem.W.nsIn K mainGlobals "is_place" = some (some (.ref f6))) (l6 : K.lookup f6 = some ⟨oc6, od6, .func (PySem.W.fnOf "is_place" "is_place" (defArgs s_is_place) (defBody s_is_place) (defScope s_is_place) .none kV6 dc6 pm6 an6 cd6 ct6), sl6⟩) (e6 : PySem.W.codeIn K cd6 "is_place" = true) (k6 : PySem.W.keepIn K (.ref f6) = true)
    (b7 : PySem.W.nsIn K mainGlobals "check_worker" = some (some (.ref f7))) (l7 : K.lookup f7 = some ⟨oc7, od7, .func (PySem.W.fnOf "check_worker" "check_worker" (defArgs s_check_worker) (defBody s_check_worker) (defScope s_check_worker) .none kV7 dc7 pm7 an7 cd7 ct7), sl7⟩) (e7 : PySem.W.codeIn K cd7 "check_worker" = true) (k7 : PySem.W.keepIn K (.ref f7) = true)
    (b8 : PySem.W.nsIn K mainGlobals "check_place" = some (some (.ref f8))) (l8 : K.lookup f8 = some ⟨oc8, od8, .func (PySem.W.fnOf "check_place" "check_place" (defArgs s_check_place) (defBody s_check_place) (defScope s_check_place) .none kV8 dc8 pm8 an8 cd8 ct8), sl8⟩) (e8 : PySem.W.codeIn K cd8 "check_place" = true) (k8 : PySem.W.keepIn K (.ref f8) = true)
    (b9 : PySem.W.nsIn K mainGlobals "is_logs" = some (some (.ref f9))) (l9 : K.lookup f9 = some ⟨oc9, od9, .func (PySem.W.fnOf "is_logs" "is_logs" (defArgs s_is_logs) (defBody s_is_logs) (defScope s_is_logs) .none kV9 dc9 pm9 an9 cd9 ct9), sl9⟩) (e9 : PySem.W.codeIn K cd9 "is_logs" = true) (k9 : PySem.W.keepIn K (.ref f9) = true)
    (b10 : PySem.W.nsIn K mainGlobals "pushes" = some (some (.ref f10))) (l10 : K.lookup f10 = some ⟨oc10, od10, .func (PySem.W.fnOf "pushes" "pushes" (defArgs s_pushes) (defBody s_pushes) (defScope s_pushes) .none kV10 dc10 pm10 an10 cd10 ct10), sl10⟩) (e10 : PySem.W.codeIn K cd10 "pushes" = true) (k10 : PySem.W.keepIn K (.ref f10) = true)
    (b11 : PySem.W.nsIn K mainGlobals "removals" = some (some (.ref f11))) (l11 : K.lookup f11 = some ⟨oc11, od11, .func (PySem.W.fnOf "removals" "removals" (defArgs s_removals) (defBody s_removals) (defScope s_removals) .none kV11 dc11 pm11 an11 cd11 ct11), sl11⟩) (e11 : PySem.W.codeIn K cd11 "removals" = true) (k11 : PySem.W.keepIn K (.ref f11) = true)
    (b12 : PySem.W.nsIn K mainGlobals "left_items" = some (some (.ref f12))) (l12 : K.lookup f12 = some ⟨oc12, od12, .func (PySem.W.fnOf "left_items" "left_items" (defArgs s_left_items) (defBody s_left_items) (defScope s_left_items) .none kV12 dc12 pm12 an12 cd12 ct12), sl12⟩) (e12 : PySem.W.codeIn K cd12 "left_items" = true) (k12 : PySem.W.keepIn K (.ref f12) = true)
    (b13 : PySem.W.nsIn K mainGlobals "open_items" = some (some (.ref f13))) (l13 : K.lookup f13 = some ⟨oc13, od13, .func (PySem.W.fnOf "open_items" "open_items" (defArgs s_open_items) (defBody s_open_items) (defScope s_open_items) .none kV13 dc13 pm13 an13 cd13 ct13), sl13⟩) (e13 : PySem.W.codeIn K cd13 "open_items" = true) (k13 : PySem.W.keepIn K (.ref f13) = true)
    (b14 : PySem.W.nsIn K mainGlobals "stolen_items" = some (some (.ref f14))) (l14 : K.lookup f14 = some ⟨oc14, od14, .func (PySem.W.fnOf "stolen_items" "stolen_items" (defArgs s_stolen_items) (defBody s_stolen_items) (defScope s_stolen_items) .none kV14 dc14 pm14 an14 cd14 ct14), sl14⟩) (e14 : PySem.W.codeIn K cd14 "stolen_items" = true) (k14 : PySem.W.keepIn K (.ref f14) = true)
    (b15 : PySem.W.nsIn K mainGlobals "check_logs" = some (some (.ref f15))) (l15 : K.lookup f15 = some ⟨oc15, od15, .func (PySem.W.fnOf "check_logs" "check_logs" (defArgs s_check_logs) (defBody s_check_logs) (defScope s_check_logs) .none kV15 dc15 pm15 an15 cd15 ct15), sl15⟩) (e15 : PySem.W.codeIn K cd15 "check_logs" = true) (k15 : PySem.W.keepIn K (.ref f15) = true)
    (b16 : PySem.W.nsIn K mainGlobals "is_log" = some (some (.ref f16))) (l16 : K.lookup f16 = some ⟨oc16, od16, .func (PySem.W.fnOf "is_log" "is_log" (defArgs s_is_log) (defBody s_is_log) (defScope s_is_log) .none kV16 dc16 pm16 an16 cd16 ct16), sl16⟩) (e16 : PySem.W.codeIn K cd16 "is_log" = true) (k16 : PySem.W.keepIn K (.ref f16) = true)
    (b17 : PySem.W.nsIn K mainGlobals "items_fit" = some (some (.ref f17))) (l17 : K.lookup f17 = some ⟨oc17, od17, .func (PySem.W.fnOf "items_fit" "items_fit" (defArgs s_items_fit) (defBody s_items_fit) (defScope s_items_fit) .none kV17 dc17 pm17 an17 cd17 ct17), sl17⟩) (e17 : PySem.W.codeIn K cd17 "items_fit" = true) (k17 : PySem.W.keepIn K (.ref f17) = true)
    (b18 : PySem.W.nsIn K mainGlobals "removal_fits" = some (some (.ref f18))) (l18 : K.lookup f18 = some ⟨oc18, od18, .func (PySem.W.fnOf "removal_fits" "removal_fits" (defArgs s_removal_fits) (defBody s_removal_fits) (defScope s_removal_fits) .none kV18 dc18 pm18 an18 cd18 ct18), sl18⟩) (e18 : PySem.W.codeIn K cd18 "removal_fits" = true) (k18 : PySem.W.keepIn K (.ref f18) = true)
    (b19 : PySem.W.nsIn K mainGlobals "all_entries" = some (some (.ref f19))) (l19 : K.lookup f19 = some ⟨oc19, od19, .func (PySem.W.fnOf "all_entries" "all_entries" (defArgs s_all_entries) (defBody s_all_entries) (defScope s_all_entries) .none kV19 dc19 pm19 an19 cd19 ct19), sl19⟩) (e19 : PySem.W.codeIn K cd19 "all_entries" = true) (k19 : PySem.W.keepIn K (.ref f19) = true)
    (b20 : PySem.W.nsIn K mainGlobals "push_places" = some (some (.ref f20))) (l20 : K.lookup f20 = some ⟨oc20, od20, .func (PySem.W.fnOf "push_places" "push_places" (defArgs s_push_places) (defBody s_push_places) (defScope s_push_places) .none kV20 dc20 pm20 an20 cd20 ct20), sl20⟩) (e20 : PySem.W.codeIn K cd20 "push_places" = true) (k20 : PySem.W.keepIn K (.ref f20) = true)
    (b21 : PySem.W.nsIn K mainGlobals "steal_places" = some (some (.ref f21))) (l21 : K.lookup f21 = some ⟨oc21, od21, .func (PySem.W.fnOf "steal_places" "steal_places" (defArgs s_steal_places) (defBody s_steal_places) (defScope s_steal_places) .none kV21 dc21 pm21 an21 cd21 ct21), sl21⟩) (e21 : PySem.W.codeIn K cd21 "steal_places" = true) (k21 : PySem.W.keepIn K (.ref f21) = true)
    (b22 : PySem.W.nsIn K mainGlobals "removal_places" = some (some (.ref f22))) (l22 : K.lookup f22 = some ⟨oc22, od22, .func (PySem.W.fnOf "removal_places" "removal_places" (defArgs s_removal_places) (defBody s_removal_places) (defScope s_removal_places) .none kV22 dc22 pm22 an22 cd22 ct22), sl22⟩) (e22 : PySem.W.codeIn K cd22 "removal_places" = true) (k22 : PySem.W.keepIn K (.ref f22) = true)
    (b23 : PySem.W.nsIn K mainGlobals "pushed_items" = some (some (.ref f23))) (l23 : K.lookup f23 = some ⟨oc23, od23, .func (PySem.W.fnOf "pushed_items" "pushed_items" (defArgs s_pushed_items) (defBody s_pushed_items) (defScope s_pushed_items) .none kV23 dc23 pm23 an23 cd23 ct23), sl23⟩) (e23 : PySem.W.codeIn K cd23 "pushed_items" = true) (k23 : PySem.W.keepIn K (.ref f23) = true)
    (b24 : PySem.W.nsIn K mainGlobals "open_lists" = some (some (.ref f24))) (l24 : K.lookup f24 = some ⟨oc24, od24, .func (PySem.W.fnOf "open_lists" "open_lists" (defArgs s_open_lists) (defBody s_open_lists) (defScope s_open_lists) .none kV24 dc24 pm24 an24 cd24 ct24), sl24⟩) (e24 : PySem.W.codeIn K cd24 "open_lists" = true) (k24 : PySem.W.keepIn K (.ref f24) = true)
    (b25 : PySem.W.nsIn K mainGlobals "_law_source" = some (some (.ref f25))) (l25 : K.lookup f25 = some ⟨oc25, od25, .func (PySem.W.fnOf "_law_source" "_law_source" (defArgs s_law_source) (defBody s_law_source) (defScope s_law_source) .none kV25 dc25 pm25 an25 cd25 ct25), sl25⟩) (e25 : PySem.W.codeIn K cd25 "_law_source" = true) (k25 : PySem.W.keepIn K (.ref f25) = true)
    (b26 : PySem.W.nsIn K mainGlobals "_law_pick" = some (some (.ref f26))) (l26 : K.lookup f26 = some ⟨oc26, od26, .func (PySem.W.fnOf "_law_pick" "_law_pick" (defArgs s_law_pick) (defBody s_law_pick) (defScope s_law_pick) .none kV26 dc26 pm26 an26 cd26 ct26), sl26⟩) (e26 : PySem.W.codeIn K cd26 "_law_pick" = true) (k26 : PySem.W.keepIn K (.ref f26) = true)
    (b27 : PySem.W.nsIn K mainGlobals "_law_shuffled" = some (some (.ref f27))) (l27 : K.lookup f27 = some ⟨oc27, od27, .func (PySem.W.fnOf "_law_shuffled" "_law_shuffled" (defArgs s_law_shuffled) (defBody s_law_shuffled) (defScope s_law_shuffled) .none kV27 dc27 pm27 an27 cd27 ct27), sl27⟩) (e27 : PySem.W.codeIn K cd27 "_law_shuffled" = true) (k27 : PySem.W.keepIn K (.ref f27) = true)
    (b28 : PySem.W.nsIn K mainGlobals "_law_words" = some (some (.ref f28))) (l28 : K.lookup f28 = some ⟨oc28, od28, .func (PySem.W.fnOf "_law_words" "_law_words" (defArgs s_law_words) (defBody s_law_words) (defScope s_law_words) .none kV28 dc28 pm28 an28 cd28 ct28), sl28⟩) (e28 : PySem.W.codeIn K cd28 "_law_words" = true) (k28 : PySem.W.keepIn K (.ref f28) = true)
    (b29 : PySem.W.nsIn K mainGlobals "_law_workers" = some (some (.ref f29))) (l29 : K.lookup f29 = some ⟨oc29, od29, .func (PySem.W.fnOf "_law_workers" "_law_workers" (defArgs s_law_workers) (defBody s_law_workers) (defScope s_law_workers) .none kV29 dc29 pm29 an29 cd29 ct29), sl29⟩) (e29 : PySem.W.codeIn K cd29 "_law_workers" = true) (k29 : PySem.W.keepIn K (.ref f29) = true)
    (b30 : PySem.W.nsIn K mainGlobals "_law_logs" = some (some (.ref f30))) (l30 : K.lookup f30 = some ⟨oc30, od30, .func (PySem.W.fnOf "_law_logs" "_law_logs" (defArgs s_law_logs) (defBody s_law_logs) (defScope s_law_logs) .none kV30 dc30 pm30 an30 cd30 ct30), sl30⟩) (e30 : PySem.W.codeIn K cd30 "_law_logs" = true) (k30 : PySem.W.keepIn K (.ref f30) = true)
    (b31 : PySem.W.nsIn K mainGlobals "_law_same" = some (some (.ref f31))) (l31 : K.lookup f31 = some ⟨oc31, od31, .func (PySem.W.fnOf "_law_same" "_law_same" (defArgs s_law_same) (defBody s_law_same) (defScope s_law_same) .none kV31 dc31 pm31 an31 cd31 ct31), sl31⟩) (e31 : PySem.W.codeIn K cd31 "_law_same" = true) (k31 : PySem.W.keepIn K (.ref f31) = true)
    (b32 : PySem.W.nsIn K mainGlobals "_law_told" = some (some (.ref f32))) (l32 : K.lookup f32 = some ⟨oc32, od32, .func (PySem.W.fnOf "_law_told" "_law_told" (defArgs s_law_told) (defBody s_law_told) (defScope s_law_told) .none kV32 dc32 pm32 an32 cd32 ct32), sl32⟩) (e32 : PySem.W.codeIn K cd32 "_law_told" = true) (k32 : PySem.W.keepIn K (.ref f32) = true)
    (b33 : PySem.W.nsIn K mainGlobals "_law_sorted" = some (some (.ref f33))) (l33 : K.lookup f33 = some ⟨oc33, od33, .func (PySem.W.fnOf "_law_sorted" "_law_sorted" (defArgs s_law_sorted) (defBody s_law_sorted) (defScope s_law_sorted) .none kV33 dc33 pm33 an33 cd33 ct33), sl33⟩) (e33 : PySem.W.codeIn K cd33 "_law_sorted" = true) (k33 : PySem.W.keepIn K (.ref f33) = true)
    (b34 : PySem.W.nsIn K mainGlobals "_law_after" = some (some (.ref f34))) (l34 : K.lookup f34 = some ⟨oc34, od34, .func (PySem.W.fnOf "_law_after" "_law_after" (defArgs s_law_after) (defBody s_law_after) (defScope s_law_after) .none kV34 dc34 pm34 an34 cd34 ct34), sl34⟩) (e34 : PySem.W.codeIn K cd34 "_law_after" = true) (k34 : PySem.W.keepIn K (.ref f34) = true)
    (b35 : PySem.W.nsIn K mainGlobals "_law_grown" = some (some (.ref f35))) (l35 : K.lookup f35 = some ⟨oc35, od35, .func (PySem.W.fnOf "_law_grown" "_law_grown" (defArgs s_law_grown) (defBody s_law_grown) (defScope s_law_grown) .none kV35 dc35 pm35 an35 cd35 ct35), sl35⟩) (e35 : PySem.W.codeIn K cd35 "_law_grown" = true) (k35 : PySem.W.keepIn K (.ref f35) = true)
    (b36 : PySem.W.nsIn K mainGlobals "law" = some (some (.ref f36))) (l36 : K.lookup f36 = some ⟨oc36, od36, .func (PySem.W.fnOf "law" "law" (defArgs s_law) (defBody s_law) (defScope s_law) .none kV36 dc36 pm36 an36 cd36 ct36), sl36⟩) (e36 : PySem.W.codeIn K cd36 "law" = true) (k36 : PySem.W.keepIn K (.ref f36) = true)
    : ∃ fd : FuncData, (∀ (s : Shared) (v : Value), BindsTo s fd ⟨[v], []⟩ [("script", v)]) ∧ ∀ base : Heap, K.In base → base.Ns mainGlobals mg → (∃ o, base.get? sysModules = some o) → FnG l.prog w K mg base 10 fa fd ["script"] (spLaw K) := by
  have e := hfa.symm.trans (PySem.W.mg_of X G b36)
  cases e
  have T := bl_ok X G nb
  have C : Cs mg := ⟨m0.imp fun _ z => PySem.W.mg_of X G z, m1.imp fun _ z => PySem.W.mg_of X G z, m2.imp fun _ z => PySem.W.mg_of X G z, m3.imp fun _ z => PySem.W.mg_of X G z⟩
  have F1 := fun_mk (st := s_is_integer) l1 e1 k1
  have D1 : Def K mg "is_integer" s_is_integer ["thing"] := ⟨_, _, F1, PySem.W.mg_of X G b1, F1.binds fun _ _ _ _ _ _ us hl => match us, hl with | [_], _ => rfl⟩
  have F2 := fun_mk (st := s_is_name) l2 e2 k2
  have D2 : Def K mg "is_name" s_is_name ["thing"] := ⟨_, _, F2, PySem.W.mg_of X G b2, F2.binds fun _ _ _ _ _ _ us hl => match us, hl with | [_], _ => rfl⟩
  have F3 := fun_mk (st := s_is_size) l3 e3 k3
  have D3 : Def K mg "is_size" s_is_size ["thing"] := ⟨_, _, F3, PySem.W.mg_of X G b3, F3.binds fun _ _ _ _ _ _ us hl => match us, hl with | [_], _ => rfl⟩
  have F4 := fun_mk (st := s_is_entry) l4 e4 k4
  have D4 : Def K mg "is_entry" s_is_entry ["thing"] := ⟨_, _, F4, PySem.W.mg_of X G b4, F4.binds fun _ _ _ _ _ _ us hl => match us, hl with | [_], _ => rfl⟩
  have F5 := fun_mk (st := s_is_worker) l5 e5 k5
  have D5 : Def K mg "is_worker" s_is_worker ["logs", "thing"] := ⟨_, _, F5, PySem.W.mg_of X G b5, F5.binds fun _ _ _ _ _ _ us hl => match us, hl with | [_, _], _ => rfl⟩
  have F6 := fun_mk (st := s_is_place) l6 e6 k6
  have D6 : Def K mg "is_place" s_is_place ["logs", "thing"] := ⟨_, _, F6, PySem.W.mg_of X G b6, F6.binds fun _ _ _ _ _ _ us hl => match us, hl with | [_, _], _ => rfl⟩
  have F7 := fun_mk (st := s_check_worker) l7 e7 k7
  have D7 : Def K mg "check_worker" s_check_worker ["logs", "worker"] := ⟨_, _, F7, PySem.W.mg_of X G b7, F7.binds fun _ _ _ _ _ _ us hl => match us, hl with | [_, _], _ => rfl⟩
  have F8 := fun_mk (st := s_check_place) l8 e8 k8
  have D8 : Def K mg "check_place" s_check_place ["logs", "place"] := ⟨_, _, F8, PySem.W.mg_of X G b8, F8.binds fun _ _ _ _ _ _ us hl => match us, hl with | [_, _], _ => rfl⟩
  have F9 := fun_mk (st := s_is_logs) l9 e9 k9
  have D9 : Def K mg "is_logs" s_is_logs ["thing"] := ⟨_, _, F9, PySem.W.mg_of X G b9, F9.binds fun _ _ _ _ _ _ us hl => match us, hl with | [_], _ => rfl⟩
  have F10 := fun_mk (st := s_pushes) l10 e10 k10
  have D10 : Def K mg "pushes" s_pushes ["logs"] := ⟨_, _, F10, PySem.W.mg_of X G b10, F10.binds fun _ _ _ _ _ _ us hl => match us, hl with | [_], _ => rfl⟩
  have F11 := fun_mk (st := s_removals) l11 e11 k11
  have D11 : Def K mg "removals" s_removals ["logs"] := ⟨_, _, F11, PySem.W.mg_of X G b11, F11.binds fun _ _ _ _ _ _ us hl => match us, hl with | [_], _ => rfl⟩
  have F12 := fun_mk (st := s_left_items) l12 e12 k12
  have D12 : Def K mg "left_items" s_left_items ["logs"] := ⟨_, _, F12, PySem.W.mg_of X G b12, F12.binds fun _ _ _ _ _ _ us hl => match us, hl with | [_], _ => rfl⟩
  have F13 := fun_mk (st := s_open_items) l13 e13 k13
  have D13 : Def K mg "open_items" s_open_items ["logs", "worker", "index"] := ⟨_, _, F13, PySem.W.mg_of X G b13, F13.binds fun _ _ _ _ _ _ us hl => match us, hl with | [_, _, _], _ => rfl⟩
  have F14 := fun_mk (st := s_stolen_items) l14 e14 k14
  have D14 : Def K mg "stolen_items" s_stolen_items ["logs", "worker"] := ⟨_, _, F14, PySem.W.mg_of X G b14, F14.binds fun _ _ _ _ _ _ us hl => match us, hl with | [_, _], _ => rfl⟩
  have F15 := fun_mk (st := s_check_logs) l15 e15 k15
  have D15 : Def K mg "check_logs" s_check_logs ["logs"] := ⟨_, _, F15, PySem.W.mg_of X G b15, F15.binds fun _ _ _ _ _ _ us hl => match us, hl with | [_], _ => rfl⟩
  have F16 := fun_mk (st := s_is_log) l16 e16 k16
  have D16 : Def K mg "is_log" s_is_log ["thing"] := ⟨_, _, F16, PySem.W.mg_of X G b16, F16.binds fun _ _ _ _ _ _ us hl => match us, hl with | [_], _ => rfl⟩
  have F17 := fun_mk (st := s_items_fit) l17 e17 k17
  have D17 : Def K mg "items_fit" s_items_fit ["logs"] := ⟨_, _, F17, PySem.W.mg_of X G b17, F17.binds fun _ _ _ _ _ _ us hl => match us, hl with | [_], _ => rfl⟩
  have F18 := fun_mk (st := s_removal_fits) l18 e18 k18
  have D18 : Def K mg "removal_fits" s_removal_fits ["places", "place", "entry"] := ⟨_, _, F18, PySem.W.mg_of X G b18, F18.binds fun _ _ _ _ _ _ us hl => match us, hl with | [_, _, _], _ => rfl⟩
  have F19 := fun_mk (st := s_all_entries) l19 e19 k19
  have D19 : Def K mg "all_entries" s_all_entries ["logs"] := ⟨_, _, F19, PySem.W.mg_of X G b19, F19.binds fun _ _ _ _ _ _ us hl => match us, hl with | [_], _ => rfl⟩
  have F20 := fun_mk (st := s_push_places) l20 e20 k20
  have D20 : Def K mg "push_places" s_push_places ["logs"] := ⟨_, _, F20, PySem.W.mg_of X G b20, F20.binds fun _ _ _ _ _ _ us hl => match us, hl with | [_], _ => rfl⟩
  have F21 := fun_mk (st := s_steal_places) l21 e21 k21
  have D21 : Def K mg "steal_places" s_steal_places ["logs"] := ⟨_, _, F21, PySem.W.mg_of X G b21, F21.binds fun _ _ _ _ _ _ us hl => match us, hl with | [_], _ => rfl⟩
  have F22 := fun_mk (st := s_removal_places) l22 e22 k22
  have D22 : Def K mg "removal_places" s_removal_places ["logs"] := ⟨_, _, F22, PySem.W.mg_of X G b22, F22.binds fun _ _ _ _ _ _ us hl => match us, hl with | [_], _ => rfl⟩
  have F23 := fun_mk (st := s_pushed_items) l23 e23 k23
  have D23 : Def K mg "pushed_items" s_pushed_items ["log"] := ⟨_, _, F23, PySem.W.mg_of X G b23, F23.binds fun _ _ _ _ _ _ us hl => match us, hl with | [_], _ => rfl⟩
  have F24 := fun_mk (st := s_open_lists) l24 e24 k24
  have D24 : Def K mg "open_lists" s_open_lists ["log"] := ⟨_, _, F24, PySem.W.mg_of X G b24, F24.binds fun _ _ _ _ _ _ us hl => match us, hl with | [_], _ => rfl⟩
  have F25 := fun_mk (st := s_law_source) l25 e25 k25
  have D25 : Def K mg "_law_source" s_law_source ["script", "k"] := ⟨_, _, F25, PySem.W.mg_of X G b25, F25.binds fun _ _ _ _ _ _ us hl => match us, hl with | [_, _], _ => rfl⟩
  have F26 := fun_mk (st := s_law_pick) l26 e26 k26
  have D26 : Def K mg "_law_pick" s_law_pick ["source", "count"] := ⟨_, _, F26, PySem.W.mg_of X G b26, F26.binds fun _ _ _ _ _ _ us hl => match us, hl with | [_, _], _ => rfl⟩
  have F27 := fun_mk (st := s_law_shuffled) l27 e27 k27
  have D27 : Def K mg "_law_shuffled" s_law_shuffled ["source", "row"] := ⟨_, _, F27, PySem.W.mg_of X G b27, F27.binds fun _ _ _ _ _ _ us hl => match us, hl with | [_, _], _ => rfl⟩
  have F28 := fun_mk (st := s_law_words) l28 e28 k28
  have D28 : Def K mg "_law_words" s_law_words ["source", "size"] := ⟨_, _, F28, PySem.W.mg_of X G b28, F28.binds fun _ _ _ _ _ _ us hl => match us, hl with | [_, _], _ => rfl⟩
  have F29 := fun_mk (st := s_law_workers) l29 e29 k29
  have D29 : Def K mg "_law_workers" s_law_workers ["source"] := ⟨_, _, F29, PySem.W.mg_of X G b29, F29.binds fun _ _ _ _ _ _ us hl => match us, hl with | [_], _ => rfl⟩
  have F30 := fun_mk (st := s_law_logs) l30 e30 k30
  have D30 : Def K mg "_law_logs" s_law_logs ["source", "top"] := ⟨_, _, F30, PySem.W.mg_of X G b30, F30.binds fun _ _ _ _ _ _ us hl => match us, hl with | [_, _], _ => rfl⟩
  have F31 := fun_mk (st := s_law_same) l31 e31 k31
  have D31 : Def K mg "_law_same" s_law_same ["found", "due"] := ⟨_, _, F31, PySem.W.mg_of X G b31, F31.binds fun _ _ _ _ _ _ us hl => match us, hl with | [_, _], _ => rfl⟩
  have F32 := fun_mk (st := s_law_told) l32 e32 k32
  have D32 : Def K mg "_law_told" s_law_told ["rows", "name"] := ⟨_, _, F32, PySem.W.mg_of X G b32, F32.binds fun _ _ _ _ _ _ us hl => match us, hl with | [_, _], _ => rfl⟩
  have F33 := fun_mk (st := s_law_sorted) l33 e33 k33
  have D33 : Def K mg "_law_sorted" s_law_sorted ["some"] := ⟨_, _, F33, PySem.W.mg_of X G b33, F33.binds fun _ _ _ _ _ _ us hl => match us, hl with | [_], _ => rfl⟩
  have F34 := fun_mk (st := s_law_after) l34 e34 k34
  have D34 : Def K mg "_law_after" s_law_after ["told", "place", "entry", "bought"] := ⟨_, _, F34, PySem.W.mg_of X G b34, F34.binds fun _ _ _ _ _ _ us hl => match us, hl with | [_, _, _, _], _ => rfl⟩
  have F35 := fun_mk (st := s_law_grown) l35 e35 k35
  have D35 : Def K mg "_law_grown" s_law_grown ["source", "whole"] := ⟨_, _, F35, PySem.W.mg_of X G b35, F35.binds fun _ _ _ _ _ _ us hl => match us, hl with | [_, _], _ => rfl⟩
  have F36 := fun_mk (st := s_law) l36 e36 k36
  refine ⟨PySem.W.fnOf "law" "law" (defArgs s_law) (defBody s_law) (defScope s_law) .none kV36 dc36 pm36 an36 cd36 ct36, fun s v => .of_eq rfl, fun base _ _ sm => ?_⟩
  have pick := ok_law_pick (P := l.prog) (w := w) (base := base) D26
  have source := ok_law_source (P := l.prog) (w := w) (base := base) D25 T
  have shuf := ok_law_shuffled D27 T pick
  have words := ok_law_words D28 T pick
  have workers := ok_law_workers D29 T pick shuf
  have logs := ok_law_logs D30 T pick words workers
  have same := ok_same8 (P := l.prog) (w := w) (base := base) D31 T 6
  have isi := ok_is_integer (P := l.prog) (w := w) (base := base) D1 T
  have isn := ok_is_name (P := l.prog) (w := w) (base := base) D2 T C
  have iss := ok_is_size D3 T C isi
  have ise := ok_is_entry D4 T C isn iss
  have isl := ok_is_log D16 T C ise
  have alle := ok_all_entries (P := l.prog) (w := w) (base := base) D19 T
  have pp := ok_push_places D20 T alle
  have rp := ok_removal_places D22 T alle
  have sp := ok_steal_places D21 T alle
  have rf := ok_removal_fits (P := l.prog) (w := w) (base := base) D18 T
  have itf := ok_items_fit D17 T alle pp rf
  have islg := ok_is_logs D9 T C isn isl itf
  have chk := ok_check_logs D15 T islg
  have isw := ok_is_worker (P := l.prog) (w := w) (base := base) D5 T
  have chw := ok_check_worker D7 T isw
  have isp := ok_is_place D6 T isi isw
  have chp := ok_check_place D8 T isp
  have psh := ok_pushed_items (P := l.prog) (w := w) (base := base) D23 T
  have opl := ok_open_lists (P := l.prog) (w := w) (base := base) D24 T
  have opi := ok_open_items D13 T chk chw chp opl
  have pus := ok_pushes D10 T chk pp
  have rem := ok_removals D11 T chk pp rp
  have left := ok_left_items D12 T chk rp psh
  have sto := ok_stolen_items D14 T chk chw sp psh
  have srt := ok_law_sorted (P := l.prog) (w := w) (base := base) D33 T
  have told := ok_law_told D32 T pus rem left sto opi
  have aft := ok_law_after D34 T srt
  have grw := ok_law_grown D35 T sm pick told aft same
  exact ok_law F36 T grw source logs
end Vx

open PySem PySem.W PyProof.Rows
set_option Elab.async false
set_option maxRecDepth 100000 in
set_option maxHeartbeats 0 in
theorem PySem.Challenge.cw_dequelogs_k09_whole_one_entry_more_holds : PySem.Challenge.rw_dequelogs_k09_whole_one_entry_more.Holds := by
  w_on; o_law; k_head; (case hw => w_witness2)
  k_fill
  refine Vx.walkG (l := PySem.Challenge.rw_dequelogs_k09_whole_one_entry_more) (n := 63) (k := 10) (x := "script") (sp := Vx.spLaw) (by decide +kernel) rfl (by decide) rfl ⟨rfl, by decide, by decide⟩ (fun w h Y => PySem.W.kIn_of Y) ?F (fun _ _ a ns hl hS => ⟨a, ns, rfl, hS, hl, fun _ => rfl⟩)
  case F =>
    intro w mg fa h KX G hmg
    refine' Vx.all_mk KX G hmg ?nb ?m0 ?m1 ?m2 ?m3 ?b1 ?l1 ?e1 ?k1 ?b2 ?l2 ?e2 ?k2 ?b3 ?l3 ?e3 ?k3 ?b4 ?l4 ?e4 ?k4 ?b5 ?l5 ?e5 ?k5 ?b6 ?l6 ?e6 ?k6 ?b7 ?l7 ?e7 ?k7 ?b8 ?l8 ?e8 ?k8 ?b9 ?l9 ?e9 ?k9 ?b10 ?l10 ?e10 ?k10 ?b11 ?l11 ?e11 ?k11 ?b12 ?l12 ?e12 ?k12 ?b13 ?l13 ?e13 ?k13 ?b14 ?l14 ?e14 ?k14 ?b15 ?l15 ?e15 ?k15 ?b16 ?l16 ?e16 ?k16 ?b17 ?l17 ?e17 ?k17 ?b18 ?l18 ?e18 ?k18 ?b19 ?l19 ?e19 ?k19 ?b20 ?l20 ?e20 ?k20 ?b21 ?l21 ?e21 ?k21 ?b22 ?l22 ?e22 ?k22 ?b23 ?l23 ?e23 ?k23 ?b24 ?l24 ?e24 ?k24 ?b25 ?l25 ?e25 ?k25 ?b26 ?l26 ?e26 ?k26 ?b27 ?l27 ?e27 ?k27 ?b28 ?l28 ?e28 ?k28 ?b29 ?l29 ?e29 ?k29 ?b30 ?l30 ?e30 ?k30 ?b31 ?l31 ?e31 ?k31 ?b32 ?l32 ?e32 ?k32 ?b33 ?l33 ?e33 ?k33 ?b34 ?l34 ?e34 ?k34 ?b35 ?l35 ?e35 ?k35 ?b36 ?l36 ?e36 ?k36
    (case nb => kernel_rfl)
    (case m0 => exact ⟨_, by k_is⟩)
    (case m1 => exact ⟨_, by k_is⟩)
    (case m2 => exact ⟨_, by k_is⟩)
    (case m3 => exact ⟨_, by k_is⟩)
    (case b1 => k_is)
    (case l1 => k_is)
    (case e1 => k_is)
    (case k1 => k_is)
    (case b2 => k_is)
    (case l2 => k_is)
    (case e2 => k_is)
    (case k2 => k_is)
    (case b3 => k_is)
    (case l3 => k_is)
    (case e3 => k_is)
    (case k3 => k_is)
    (case b4 => k_is)
    (case l4 => k_is)
    (case e4 => k_is)
    (case k4 => k_is)
    (case b5 => k_is)
    (case l5 => k_is)
    (case e5 => k_is)
    (case k5 => k_is)
    (case b6 => k_is)
    (case l6 => k_is)
    (case e6 => k_is)
    (case k6 => k_is)
    (case b7 => k_is)
    (case l7 => k_is)
    (case e7 => k_is)
    (case k7 => k_is)
    (case b8 => k_is)
    (case l8 => k_is)
    (case e8 => k_is)
    (case k8 => k_is)
    (case b9 => k_is)
    (case l9 => k_is)
    (case e9 => k_is)
    (case k9 => k_is)
    (case b10 => k_is)
    (case l10 => k_is)
    (case e10 => k_is)
    (case k10 => k_is)
    (case b11 => k_is)
    (case l11 => k_is)
    (case e11 => k_is)
    (case k11 => k_is)
    (case b12 => k_is)
    (case l12 => k_is)
    (case e12 => k_is)
    (case k12 => k_is)
    (case b13 => k_is)
    (case l13 => k_is)
    (case e13 => k_is)
    (case k13 => k_is)
    (case b14 => k_is)
    (case l14 => k_is)
    (case e14 => k_is)
    (case k14 => k_is)
    (case b15 => k_is)
    (case l15 => k_is)
    (case e15 => k_is)
    (case k15 => k_is)
    (case b16 => k_is)
    (case l16 => k_is)
    (case e16 => k_is)
    (case k16 => k_is)
    (case b17 => k_is)
    (case l17 => k_is)
    (case e17 => k_is)
    (case k17 => k_is)
    (case b18 => k_is)
    (case l18 => k_is)
    (case e18 => k_is)
    (case k18 => k_is)
    (case b19 => k_is)
    (case l19 => k_is)
    (case e19 => k_is)
    (case k19 => k_is)
    (case b20 => k_is)
    (case l20 => k_is)
    (case e20 => k_is)
    (case k20 => k_is)
    (case b21 => k_is)
    (case l21 => k_is)
    (case e21 => k_is)
    (case k21 => k_is)
    (case b22 => k_is)
    (case l22 => k_is)
    (case e22 => k_is)
    (case k22 => k_is)
    (case b23 => k_is)
    (case l23 => k_is)
    (case e23 => k_is)
    (case k23 => k_is)
    (case b24 => k_is)
    (case l24 => k_is)
    (case e24 => k_is)
    (case k24 => k_is)
    (case b25 => k_is)
    (case l25 => k_is)
    (case e25 => k_is)
    (case k25 => k_is)
    (case b26 => k_is)
    (case l26 => k_is)
    (case e26 => k_is)
    (case k26 => k_is)
    (case b27 => k_is)
    (case l27 => k_is)
    (case e27 => k_is)
    (case k27 => k_is)
    (case b28 => k_is)
    (case l28 => k_is)
    (case e28 => k_is)
    (case k28 => k_is)
    (case b29 => k_is)
    (case l29 => k_is)
    (case e29 => k_is)
    (case k29 => k_is)
    (case b30 => k_is)
    (case l30 => k_is)
    (case e30 => k_is)
    (case k30 => k_is)
    (case b31 => k_is)
    (case l31 => k_is)
    (case e31 => k_is)
    (case k31 => k_is)
    (case b32 => k_is)
    (case l32 => k_is)
    (case e32 => k_is)
    (case k32 => k_is)
    (case b33 => k_is)
    (case l33 => k_is)
    (case e33 => k_is)
    (case k33 => k_is)
    (case b34 => k_is)
    (case l34 => k_is)
    (case e34 => k_is)
    (case k34 => k_is)
    (case b35 => k_is)
    (case l35 => k_is)
    (case e35 => k_is)
    (case k35 => k_is)
    (case b36 => k_is)
    (case l36 => k_is)
    (case e36 => k_is)
    (case k36 => k_is)
