import PyProof.Rows.All
import Wide.All
import OpenK.AllK
import Wide.FinOn
import HandS.ForMost
import HandS.IsInst
import HandS.Wide
import HandS.Codes
import PySem.Challenge.RW_weaklook_k01_primes_told
set_option Elab.async false
set_option linter.all false
set_option maxRecDepth 100000
set_option maxHeartbeats 4000000
namespace Wk
open PySem PySem.Spec PyProof.Rows L2
/-! ### a def by its name -/
def Df (K : PySem.W.Frag) (mg : Str → Option Value) (x : Str) (st : Stmt) (ps : List Str) : Prop :=
  ∃ f fd, Fun K x x st f fd ∧ mg x = some (.ref f) ∧ Binds K fd ps []
def Ok (P : Program) (w : World) (K : PySem.W.Frag) (mg : Str → Option Value) (base : Heap) (CX : CXT) (k : Nat) (x : Str) (ps : List Str) (sp : Sp) : Prop :=
  ∃ f fd, FnOk P w K mg base CX k f fd ps sp ∧ mg x = some (.ref f) ∧ PySem.W.keepIn K (.ref f) = true ∧ Binds K fd ps []
section
variable {P : Program} {w : World} {K : PySem.W.Frag} {mg : Str → Option Value} {base : Heap}
theorem Df.ok {x : Str} {st : Stmt} {N ps : List Str} {k : Nat} {sp : Sp} (D : Df K mg x st ps) (S : FnScope N ps (defScope st)) (len : ∀ vs H Q E, sp vs H Q E → vs.length = ps.length)
    (hbody : ∀ (f : Addr) (cdv : Value) (A : Around) (outer : List Env) (s : Shared) (H : Hp) (vs : List V) (Q : VK) (E : XK), Room k (A.deeper (envOfC x (defScope st) s.heap.objs.size f cdv)) → sp vs H Q E →
      ∃ t, PSs (cxOf CX0 P w K mg base N x (defScope st) f cdv A outer s H E).nox (defBody st) t ∧ t { nx := fun _ H' => Q .non H', rt := Q } (start N vs) H) : Ok P w K mg base CX0 (k + 1) x ps sp := by
  obtain ⟨f, fd, F, g, b⟩ := D
  exact ⟨f, fd, F.ok S len fun cdv A outer s H vs Q E hr h => hbody f cdv A outer s H vs Q E hr h, g, F.kp, b⟩
theorem Ok.mono {CX : CXT} {x : Str} {ps : List Str} {j k : Nat} {sp : Sp} (G : Ok P w K mg base CX j x ps sp) (h : j ≤ k) : Ok P w K mg base CX k x ps sp := by
  obtain ⟨f, fd, F, g, kp, b⟩ := G
  exact ⟨f, fd, F.mono h, g, kp, b⟩
theorem Ok.imp {CX : CXT} {x : Str} {ps : List Str} {k : Nat} {sp sp' : Sp} (G : Ok P w K mg base CX k x ps sp) (h : ∀ vs H Q E, sp' vs H Q E → sp vs H Q E) : Ok P w K mg base CX k x ps sp' := by
  obtain ⟨f, fd, F, g, kp, b⟩ := G
  exact ⟨f, fd, F.imp h, g, kp, b⟩
end
section
variable {X : Cx} {k : Nat} {x : Str} {ps : List Str} {sp : Sp} {p pos : Pos} {e : Expr} {es : List Expr} {t : TA}
theorem pe_own (G : Ok X.prog X.w X.K X.mg X.base CX0 k x ps sp) (hr : Room k X.A) (hg : Gl X x) (ha : PA X (e :: es) t) (hdb : (x == ("__debug__" : Str)) = false := by decide) (he : starEach (e :: es) X.env = (false, eval e X.env) :: starEach es X.env := by rfl) (hpl : (backTo pos (starEach es X.env)).any (·.1) = false := by rfl) :
    PE X (.Call (.Name x p) (e :: es) [] pos) (tCall sp [] E0 t) := by
  obtain ⟨f, fd, F, g, kp, b⟩ := G
  exact pe_call F hr hg g kp b .nil pass0 ha hdb he hpl
theorem pe_own0 (G : Ok X.prog X.w X.K X.mg X.base CX0 k x [] sp) (hr : Room k X.A) (hg : Gl X x) (hdb : (x == ("__debug__" : Str)) = false := by decide) :
    PE X (.Call (.Name x p) [] [] pos) (fun σ H Q => sp [] H Q E0) := by
  obtain ⟨f, fd, F, g, kp, b⟩ := G
  exact pe_call0 F hr hg g kp b .nil pass0 hdb
end
/-! ### heaps -/
/-- all but d is as it was -/
def Mv (d : Addr) (H H' : Hp) : Prop := ∀ b, b ≠ d → H' b = H b
/-- all that was tracked, but d, is as it was -/
def Kp (d : Addr) (H H' : Hp) : Prop := ∀ b o, b ≠ d → H b = some o → H' b = some o
theorem Mv.refl (d : Addr) (H : Hp) : Mv d H H := fun _ _ => rfl
theorem Mv.trans {d : Addr} {H H1 H2 : Hp} (a : Mv d H H1) (b : Mv d H1 H2) : Mv d H H2 := fun c h => (b c h).trans (a c h)
theorem Mv.upd {d : Addr} {H : Hp} {o : HO} : Mv d H (upd H d o) := fun _ h => upd_ne h
theorem Mv.kp {d : Addr} {H H' : Hp} (a : Mv d H H') : Kp d H H' := fun b o h e => (a b h).trans e
theorem Kp.refl (d : Addr) (H : Hp) : Kp d H H := fun _ _ _ h => h
theorem Kp.trans {d : Addr} {H H1 H2 : Hp} (a : Kp d H H1) (b : Kp d H1 H2) : Kp d H H2 := fun c o h e => b c o h (a c o h e)
theorem same_upd {H : Hp} {p : Addr} {o : HO} (h : H p = none) : Same H (upd H p o) := fun b x e => by
  rw [upd_ne (ne_of_none e h)]
  exact e
theorem Same.kp {d : Addr} {H H' : Hp} (a : Same H H') : Kp d H H' := fun b o _ e => a b o e
theorem Kp.new {d : Addr} {H : Hp} {p : Addr} {o : HO} (h : H p = none) : Kp d H (L2.upd H p o) := Same.kp (same_upd h)
theorem Kp.free {d : Addr} {H H' : Hp} (a : Kp d H H') {p : Addr} {o : HO} (hd : H' d = some o) (h : H' p = none) : H p = none := by
  cases q : H p with
  | none => rfl
  | some u =>
    have n : p ≠ d := fun z => by
      rw [z, hd] at h
      cases h
    rw [a p u n q] at h
    cases h
/-! ### the built-ins' names are free -/
structure Zs (mg : Str → Option Value) : Prop where
  len_ : mg "len" = none
  isinstance_ : mg "isinstance" = none
  int_ : mg "int" = none
  bool_ : mg "bool" = none
  str_ : mg "str" = none
  list_ : mg "list" = none
  tuple_ : mg "tuple" = none
  all_ : mg "all" = none
  any_ : mg "any" = none
  range_ : mg "range" = none
  abs_ : mg "abs" = none
  sum_ : mg "sum" = none
  max_ : mg "max" = none
  min_ : mg "min" = none
  zip_ : mg "zip" = none
  enumerate_ : mg "enumerate" = none
/-! ### the draw -/
def Drw (H : Hp) (d c : Addr) : Prop :=
  ∃ (ns : List Int) (i r s n : Int), H d = some (.lst [.ref c, .int i, .int r, .int s, .int n]) ∧ H c = some (.lst (ns.map V.int)) ∧ 0 ≤ i ∧ 0 ≤ r ∧ 0 ≤ s ∧ s < 1000000007
theorem Drw.at {H : Hp} {d c : Addr} (h : Drw H d c) : ∃ o, H d = some o := by
  obtain ⟨ns, i, r, s, n, e, _⟩ := h
  exact ⟨_, e⟩
theorem drw_ne {H : Hp} {d c : Addr} {xs : List V} {ns : List Int} (h : H d = some (.lst (.ref c :: xs))) (h' : H c = some (.lst (ns.map V.int))) : c ≠ d := by
  refine ne_of h' h (fun z => ?_)
  cases ns with
  | nil => cases z
  | cons a r => cases z
theorem Drw.cd {H : Hp} {d c : Addr} (h : Drw H d c) : c ≠ d := by
  obtain ⟨ns, i, r, s, n, e, e2, _⟩ := h
  exact drw_ne e e2
theorem Drw.same {H H' : Hp} {d c : Addr} (h : Drw H d c) (a : Same H H') : Drw H' d c := by
  obtain ⟨ns, i, r, s, n, e, e2, q⟩ := h
  exact ⟨ns, i, r, s, n, a _ _ e, a _ _ e2, q⟩
theorem Drw.new {H : Hp} {d c p : Addr} {o : HO} (h : Drw H d c) (n : H p = none) : Drw (upd H p o) d c := h.same (same_upd n)
theorem Drw.ne {H : Hp} {d c p : Addr} (h : Drw H d c) (n : H p = none) : d ≠ p := by
  obtain ⟨o, e⟩ := h.at
  exact ne_of_none e n
def spPick : Sp := fun vs H Q _ => ∃ (d c : Addr) (m : Int), vs = [.ref d, .int m] ∧ Drw H d c ∧ 0 < m ∧ m < 1073741824 ∧ ∀ r H', 0 ≤ r → r < m → Drw H' d c → Mv d H H' → Q (.int r) H'
def spOne : Sp := fun vs H Q _ => ∃ (d c l : Addr) (xs : List V), vs = [.ref d, .ref l] ∧ Drw H d c ∧ H l = some (.lst xs) ∧ l ≠ d ∧ 0 < xs.length ∧ xs.length ≤ 1000 ∧ ∀ x H', x ∈ xs → Drw H' d c → Mv d H H' → Q x H'
def FarI (r : Int) : Prop := (10000000 ≤ r ∧ r ≤ 10 ^ 29) ∨ (r ≤ -10000000 ∧ -(10 ^ 29) ≤ r)
def spFar : Sp := fun vs H Q _ => ∃ (d c : Addr), vs = [.ref d] ∧ Drw H d c ∧ ∀ r H', FarI r → Drw H' d c → Kp d H H' → Q (.int r) H'
def spBegin (K : PySem.W.Frag) : Sp := fun vs H Q _ => ∃ (a : Addr) (ns : List Int), vs = [.ref a] ∧ SqL K H a (ns.map V.int) ∧ ∀ d c H', H d = none → Drw H' d c → Same H H' → Q (.ref d) H'
def PR : List Int := [3, 5, 7, 11, 13, 17, 19, 23, 29, 31, 37, 41, 43, 47, 53, 59, 61]
def isP (n : Int) : Bool := inV (.int n) (PR.map V.int)
def spPrimes : Sp := fun vs H Q _ => vs = [] ∧ ∀ p, H p = none → Q (.ref p) (upd H p (.lst (PR.map V.int)))
def spIsNum : Sp := fun vs H Q _ => ∃ n : Int, vs = [.int n] ∧ Q (.bl true) H
def spIsPrime : Sp := fun vs H Q _ => ∃ n : Int, vs = [.int n] ∧ Q (.bl (isP n)) H
/-- the module's PRIMES -/
def MPr (K : PySem.W.Frag) (mg : Str → Option Value) : Prop := ∃ a : Addr, mg "PRIMES" = some (.ref a) ∧ ∀ H, SqT K H a (PR.map V.int)
/-! ### data -/
theorem same_t {K : PySem.W.Frag} {H H' : Hp} {a : Addr} {xs : List V} (e : Same H H') (h : SqT K H a xs) : SqT K H' a xs := by
  rcases h with (h | ⟨o, h⟩) | h
  · exact .inl (.inl (e _ _ h))
  · exact .inl (.inr ⟨o, e _ _ h⟩)
  · exact .inr h
mutual
theorem dp_same {K : PySem.W.Frag} {H H' : Hp} (e : Same H H') : ∀ (d : PyData) (v : V), Dp K H v d → Dp K H' v d
  | .none, _, h => by cases h; exact .non
  | .bool b, _, h => by cases h; exact .bl b
  | .int i, _, h => by cases h; exact .int i
  | .str x, _, h => by cases h; exact .str x
  | .list ds, _, h => by
    cases h with
    | lst hs ha => exact .lst (e.seq hs) (dp_sameAll e ds _ ha)
  | .tuple ds, _, h => by
    cases h with
    | tup hs ha => exact .tup (same_t e hs) (dp_sameAll e ds _ ha)
  | .dict _, _, h => by cases h
theorem dp_sameAll {K : PySem.W.Frag} {H H' : Hp} (e : Same H H') : ∀ (ds : List PyData) (vs : List V), DpAll K H vs ds → DpAll K H' vs ds
  | [], _, h => by cases h; exact .nil
  | d :: ds, _, h => by
    cases h with
    | cons h1 h2 => exact .cons (dp_same e d _ h1) (dp_sameAll e ds _ h2)
end
theorem dp_len {K : PySem.W.Frag} {H : Hp} : ∀ {vs : List V} {ds : List PyData}, DpAll K H vs ds → vs.length = ds.length
  | _, [], h => by cases h; rfl
  | _, d :: ds, h => by
    cases h with
    | cons h1 h2 => rw [List.length_cons, List.length_cons, dp_len h2]
theorem dp_get {K : PySem.W.Frag} {H : Hp} : ∀ {vs : List V} {ds : List PyData} (i : Nat) (h : i < ds.length), DpAll K H vs ds → ∃ v, vs[i]? = some v ∧ Dp K H v ds[i]
  | _, [], i, l, h => absurd l (Nat.not_lt_zero _)
  | _, d :: ds, 0, l, h => by
    cases h with
    | cons h1 h2 => exact ⟨_, rfl, h1⟩
  | _, d :: ds, i + 1, l, h => by
    cases h with
    | cons h1 h2 => exact dp_get i (Nat.lt_of_succ_lt_succ l) h2
theorem dp_ints {K : PySem.W.Frag} {H : Hp} : ∀ ns : List Int, DpAll K H (ns.map V.int) (ns.map PyData.int)
  | [] => .nil
  | n :: r => .cons (.int n) (dp_ints r)
/-- how deep a datum is at most -/
def Dep : Nat → PyData → Prop
  | 0, _ => False
  | n + 1, .list ds => ds.length ≤ 1000 ∧ ∀ d ∈ ds, Dep n d
  | n + 1, .tuple ds => ds.length ≤ 1000 ∧ ∀ d ∈ ds, Dep n d
  | _ + 1, .dict _ => False
  | _ + 1, _ => True
theorem dep_ints {n : Nat} (ns : List Int) : ∀ d ∈ ns.map PyData.int, Dep (n + 1) d := fun d h => by
  obtain ⟨i, _, rfl⟩ := List.mem_map.mp h
  exact True.intro
theorem tyx_l {K : PySem.W.Frag} {H : Hp} {a : Addr} {xs : List V} (h : SqL K H a xs) : TyX K H (.ref a) (.type "list") := by
  rcases h with (h | ⟨o, h⟩) | ⟨o, its, n, e, c, _⟩
  · exact .base (.lst h)
  · exact .base (.frz h)
  · exact .kList e c
theorem tyx_t {K : PySem.W.Frag} {H : Hp} {a : Addr} {xs : List V} (h : SqT K H a xs) : TyX K H (.ref a) (.type "tuple") := by
  rcases h with (h | ⟨o, h⟩) | ⟨o, its, n, e, c, _⟩
  · exact .base (.tup h)
  · exact .fTuple h
  · exact .kTuple e c
def spSame (K : PySem.W.Frag) (n : Nat) : Sp := fun vs H Q _ => ∃ (x y : V) (d : PyData), vs = [x, y] ∧ Dp K H x d ∧ Dp K H y d ∧ Dep n d ∧ ∀ H', Same H H' → Q (.bl true) H'
theorem all_true (n : Nat) : (List.replicate n true).all id = true := by
  induction n with
  | zero => rfl
  | succ n ih => rw [List.replicate_succ, List.all_cons, ih]; rfl
theorem rep_snoc {α : Type} (n : Nat) (x : α) : List.replicate n x ++ [x] = List.replicate (n + 1) x := by
  rw [List.replicate_succ']
/-- a list or a tuple -/
inductive SqX (K : PySem.W.Frag) (H : Hp) (a : Addr) (xs : List V) : String → Prop
  | l (h : SqL K H a xs) : SqX K H a xs "list"
  | t (h : SqT K H a xs) : SqX K H a xs "tuple"
theorem SqX.ty {K : PySem.W.Frag} {H : Hp} {a : Addr} {xs : List V} {T : String} (h : SqX K H a xs T) : TyX K H (.ref a) (.type T) := by
  cases h with
  | l h => exact tyx_l h
  | t h => exact tyx_t h
theorem SqX.same {K : PySem.W.Frag} {H H' : Hp} {a : Addr} {xs : List V} {T : String} (h : SqX K H a xs T) (e : Same H H') : SqX K H' a xs T := by
  cases h with
  | l h => exact .l (e.seq h)
  | t h => exact .t (same_t e h)
theorem SqX.or {K : PySem.W.Frag} {H : Hp} {a : Addr} {xs : List V} {T : String} (h : SqX K H a xs T) : SqL K H a xs ∨ SqT K H a xs := by
  cases h with
  | l h => exact .inl h
  | t h => exact .inr h
theorem SqX.ix {K : PySem.W.Frag} {H : Hp} {a : Addr} {xs : List V} {T : String} {i : Int} {v : V} {Q : VK} (h : SqX K H a xs T) (g : atI xs i = some v) (q : Q v H) : rIx K (.ref a) (.int i) H Q := by
  cases h with
  | l h => exact .inl ⟨a, xs, i, v, rfl, rfl, h, g, q⟩
  | t h => exact .inr (.inl ⟨a, xs, i, v, rfl, rfl, h, g, q⟩)
theorem SqX.cases {K : PySem.W.Frag} {H : Hp} {a : Addr} {xs : List V} {T : String} (h : SqX K H a xs T) : T = "list" ∨ T = "tuple" := by
  cases h with
  | l h => exact .inl rfl
  | t h => exact .inr rfl
def spLaw (K : PySem.W.Frag) : Sp := fun vs H Q _ => ∃ (a : Addr) (ns : List Int), vs = [.ref a] ∧ SqL K H a (ns.map V.int) ∧ ns.length ≤ 63 ∧ ∀ H', Q (.bl true) H'
end Wk
namespace K01
open PySem PySem.Spec PyProof.Rows L2 Wk
def topS (i : Nat) : Stmt := PySem.Challenge.pw_weaklook_k01_primes_told.main.body.getD i (.Pass ⟨0, 0, 0, 0⟩)
section
variable {P : Program} {w : World} {K : PySem.W.Frag} {mg : Str → Option Value} {base : Heap}
abbrev sis_number : Stmt := topS 3
abbrev scis_numberN : List Str := ["thing"]
theorem scis_number : FnScope scis_numberN ["thing"] (defScope sis_number) := ⟨rfl, rfl, rfl, by decide +kernel, rfl, by decide +kernel, by decide +kernel⟩
theorem ok_is_number (D : Df K mg "is_number" sis_number ["thing"]) (Z : Zs mg) : Ok P w K mg base CX0 1 "is_number" ["thing"] spIsNum := by
  refine D.ok scis_number (fun vs H Q E h => ?_) (fun f cdv A outer s H vs Q E hr h => ?_)
  · obtain ⟨n, rfl, _⟩ := h
    rfl
  · obtain ⟨n, rfl, q⟩ := h
    refine ⟨_, (pss_one (ps_ret (pe_and (pe_callB call_isi (by rfl) Z.isinstance_ (by decide +kernel) (pa_cons (pv 0) (pa_cons (pe_bltn (v := .ty "int") (by rfl) Z.int_ (by decide +kernel) rfl) pa_nil))) (pe_one (pe_not (pe_callB call_isi (by rfl) Z.isinstance_ (by decide +kernel) (pa_cons (pv 0) (pa_cons (pe_bltn (v := .ty "bool") (by rfl) Z.bool_ (by decide +kernel) rfl) pa_nil)))))))), ?_⟩
    refine ⟨_, rfl, _, _, _, _, true, rfl, .ty _, .base (.int n), kit_ty (by decide +kernel), true, rfl, iteT ?_⟩
    exact ⟨_, rfl, _, _, _, _, false, rfl, .ty _, .base (.int n), kit_ty (by decide +kernel), false, rfl, q⟩
abbrev sis_prime : Stmt := topS 4
abbrev scis_primeN : List Str := ["number"]
theorem scis_prime : FnScope scis_primeN ["number"] (defScope sis_prime) := ⟨rfl, rfl, rfl, by decide +kernel, rfl, by decide +kernel, by decide +kernel⟩
theorem ok_is_prime (D : Df K mg "is_prime" sis_prime ["number"]) (T : MPr K mg) (G_is_number : Ok P w K mg base CX0 1 "is_number" ["thing"] spIsNum) : Ok P w K mg base CX0 2 "is_prime" ["number"] spIsPrime := by
  obtain ⟨ap, gp, hp⟩ := T
  refine D.ok scis_prime (fun vs H Q E h => ?_) (fun f cdv A outer s H vs Q E hr h => ?_)
  · obtain ⟨n, rfl, _⟩ := h
    rfl
  · obtain ⟨n, rfl, q⟩ := h
    have gl_PRIMES := gp
    have gr_PRIMES : RelV (.ref ap) (.ref ap) := rfl
    refine ⟨_, (pss_one (ps_ret (pe_and (pe_own G_is_number (hr.mono (by first | decide | omega)) rfl (pa_cons (pv 0) pa_nil)) (pe_one (pe_cmpR op_in_seq (pv 0) (pe_glob rfl gl_PRIMES gr_PRIMES) rfl))))), ?_⟩
    refine ⟨_, rfl, n, rfl, true, rfl, iteT ?_⟩
    refine ⟨_, rfl, ap, _, rfl, .inr (hp H), rfl, rfl, ?_⟩
    exact q
abbrev s_law_begin : Stmt := topS 6
abbrev sc_law_beginN : List Str := ["_law_script"]
theorem sc_law_begin : FnScope sc_law_beginN ["_law_script"] (defScope s_law_begin) := ⟨rfl, rfl, rfl, by decide +kernel, rfl, by decide +kernel, by decide +kernel⟩
theorem ok__law_begin (D : Df K mg "_law_begin" s_law_begin ["_law_script"]) (Z : Zs mg) : Ok P w K mg base CX0 1 "_law_begin" ["_law_script"] (spBegin K) := by
  refine D.ok sc_law_begin (fun vs H Q E h => ?_) (fun f cdv A outer s H vs Q E hr h => ?_)
  · obtain ⟨a, ns, rfl, _⟩ := h
    rfl
  · obtain ⟨a, ns, rfl, ha, q⟩ := h
    refine ⟨_, (pss_one (ps_ret (pe_lst (pa_cons (pe_callTy call_list_of (by rfl) Z.list_ (by decide +kernel) (pa_cons (pe_slice sl_list (pv 0) po_none (po_some pe_int)) pa_nil)) (pa_cons pe_int (pa_cons pe_int (pa_cons pe_int (pa_cons pe_int pa_nil)))))))), ?_⟩
    refine ⟨_, rfl, 63, rfl, a, _, rfl, ha, fun p hp => ?_⟩
    refine ⟨p, _, rfl, .inl (SqL.of upd_same), fun l hl => ⟨(by show 5 ≤ sizeLine; decide), fun d hd => ?_⟩⟩
    have s1 : Same H (upd H p (.lst (cutV (ns.map V.int) none (some 63)))) := same_upd hp
    have s2 := s1.trans (same_upd (o := .lst (cutV (ns.map V.int) none (some 63))) hl)
    have s3 := s2.trans (same_upd (o := .lst [.ref l, .int 0, .int 0, .int 1, .int 0]) hd)
    have hl2 : (upd (upd H p (.lst (cutV (ns.map V.int) none (some 63)))) l (.lst (cutV (ns.map V.int) none (some 63)))) l = some (.lst (cutV (ns.map V.int) none (some 63))) := upd_same
    have e : ∃ ms : List Int, cutV (ns.map V.int) none (some 63) = ms.map V.int := by
      unfold cutV
      exact ⟨(ns.drop _).take _, by rw [List.map_take, List.map_drop]⟩
    obtain ⟨ms, e⟩ := e
    refine q d l _ (s2.free hd) ⟨ms, 0, 0, 1, 0, upd_same, ?_, by decide, by decide, by decide, by decide⟩ s3
    rw [upd_ne (ne_of_none hl2 hd), hl2, e]
abbrev s_law_pick : Stmt := topS 7
abbrev sc_law_pickN : List Str := ["_law_draw", "_law_many", "_law_cell", "_law_got"]
theorem sc_law_pick : FnScope sc_law_pickN ["_law_draw", "_law_many"] (defScope s_law_pick) := ⟨rfl, rfl, rfl, by decide +kernel, rfl, by decide +kernel, by decide +kernel⟩
theorem ok__law_pick (D : Df K mg "_law_pick" s_law_pick ["_law_draw", "_law_many"]) (Z : Zs mg) : Ok P w K mg base CX0 1 "_law_pick" ["_law_draw", "_law_many"] spPick := by
  refine D.ok sc_law_pick (fun vs H Q E h => ?_) (fun f cdv A outer s H vs Q E hr h => ?_)
  · obtain ⟨d, c, m, rfl, _⟩ := h
    rfl
  · obtain ⟨d, c, m, rfl, ⟨ns, i, r, z, n, hd, hc, hi, hr0, hz0, hz1⟩, hm0, hm1, q⟩ := h
    have ncd : c ≠ d := drw_ne hd hc
    refine ⟨_, (C8.pss_cut (ps_if (PW.pt (pw_and (pt_cmpR op_lt (pe_ix ix_list (pv 0) pe_int (fun _ _ => rfl)) (pv 1) (nomark _)) (pw_and1 (pt_cmpR op_lt (pe_ix ix_list (pv 0) pe_int (fun _ _ => rfl)) (pe_callB call_len_seq (by rfl) Z.len_ PySem.boot_len (pa_cons (pe_ix ix_list (pv 0) pe_int (fun _ _ => rfl)) pa_nil)) (nomark _))))) (pss_cons (ps_set (i := 2) sc_law_pick.nd rfl (.inl rfl) (pe_ix ix_list (pe_ix ix_list (pv 0) pe_int (fun _ _ => rfl)) (pe_ix ix_list (pv 0) pe_int (fun _ _ => rfl)) (fun _ _ => rfl)))
        (pss_cons (ps_asg (pe_op op_add (pe_ix ix_list (pv 0) pe_int (fun _ _ => rfl)) pe_int) (pg_sub (pv 0) pe_int set_list))
        (pss_cons (ps_asg pe_int (pg_sub (pv 0) pe_int set_list))
        (pss_one (ps_if (pt_cmpR op_ge (pv 2) (pe_op op_pow pe_int pe_int) (nomark _)) (pss_one (ps_asg (pv 2) (pg_sub (pv 0) pe_int set_list))) (pss_one (ps_asg (pe_op op_mod (pe_op op_add (pe_ix ix_list (pv 0) pe_int (fun _ _ => rfl)) (pv 2)) pe_int) (pg_sub (pv 0) pe_int set_list)))))))) pss_nil)
        (pss_cons (ps_if (pt_cmpR op_ge (pe_ix ix_list (pv 0) pe_int (fun _ _ => rfl)) (pv 1) (nomark _)) (pss_cons (ps_set (i := 3) sc_law_pick.nd rfl (.inl rfl) (pe_op op_mod (pe_ix ix_list (pv 0) pe_int (fun _ _ => rfl)) (pv 1)))
        (pss_cons (ps_asg (pe_op op_fdiv (pe_ix ix_list (pv 0) pe_int (fun _ _ => rfl)) (pv 1)) (pg_sub (pv 0) pe_int set_list))
        (pss_one (ps_ret (pv 3))))) pss_nil)
        (pss_cons (ps_asg (pe_op op_add (pe_ix ix_list (pv 0) pe_int (fun _ _ => rfl)) pe_int) (pg_sub (pv 0) pe_int set_list))
        (pss_cons (ps_asg (pe_op op_mod (pe_op op_add (pe_op op_add (pe_op op_pow (pe_ix ix_list (pv 0) pe_int (fun _ _ => rfl)) pe_int) (pe_op op_mul pe_int (pe_ix ix_list (pv 0) pe_int (fun _ _ => rfl)))) pe_int) pe_int) (pg_sub (pv 0) pe_int set_list))
        (pss_one (ps_ret (pe_op op_mod (pe_op op_fdiv (pe_ix ix_list (pv 0) pe_int (fun _ _ => rfl)) pe_int) (pv 1)))))))), ?_⟩
    refine ⟨fun σ' H' => ∃ (y2 : Option V) (i r z n : Int), σ' = [some (.ref d), some (.int m), y2, none] ∧ H' d = some (.lst [.ref c, .int i, .int r, .int z, .int n]) ∧ 0 ≤ i ∧ 0 ≤ r ∧ 0 ≤ z ∧ z < 1000000007 ∧ Mv d H H', ?_, ?_⟩
    · -- draw[2] < many and draw[1] < len(draw[0])
      refine ⟨_, rfl, d, _, 2, _, rfl, rfl, SqL.of hd, atI_nat (j := 2) rfl, _, rfl, r, m, rfl, rfl, _, rfl, ite2 (fun e1 => ?_) (fun e1 => ?_)⟩
      · refine ⟨_, rfl, d, _, 1, _, rfl, rfl, SqL.of hd, atI_nat (j := 1) rfl, _, rfl, d, _, 0, _, rfl, rfl, SqL.of hd, atI_nat (j := 0) rfl, c, _, rfl, .inl (SqL.of hc), i, _, rfl, rfl, _, rfl, ite2 (fun e2 => ?_) (fun e2 => ?_)⟩
        · have l2 : i < ((ns.map V.int).length : Int) := of_decide_eq_true e2
          rw [List.length_map] at l2
          have l3 : i.toNat < ns.length := by omega
          have hcell : atI (ns.map V.int) i = some (.int ns[i.toNat]) := by
            have q1 : (ns.map V.int)[i.toNat]? = some (.int ns[i.toNat]) := by
              rw [List.getElem?_map, List.getElem?_eq_getElem l3]
              rfl
            have q2 := atI_nat q1
            rw [Int.toNat_of_nonneg hi] at q2
            exact q2
          -- cell = draw[0][draw[1]]
          refine ⟨_, rfl, d, _, 0, _, rfl, rfl, SqL.of hd, atI_nat (j := 0) rfl, _, rfl, d, _, 1, _, rfl, rfl, SqL.of hd, atI_nat (j := 1) rfl, c, _, i, _, rfl, rfl, SqL.of hc, hcell, ?_⟩
          -- draw[1] = draw[1] + 1
          refine ⟨_, rfl, d, _, 1, _, rfl, rfl, SqL.of hd, atI_nat (j := 1) rfl, i, 1, rfl, rfl, _, rfl, d, _, 1, 1, rfl, rfl, hd, rfl, ?_⟩
          have h1 : (upd H d (.lst (([.ref c, .int i, .int r, .int z, .int n] : List V).set 1 (.int (i + 1))))) d = some (.lst [.ref c, .int (i + 1), .int r, .int z, .int n]) := upd_same
          -- draw[2] = 0
          refine ⟨_, rfl, d, _, 2, 2, rfl, rfl, h1, rfl, ?_⟩
          have h2 : (upd (upd H d (.lst (([.ref c, .int i, .int r, .int z, .int n] : List V).set 1 (.int (i + 1))))) d (.lst (([.ref c, .int (i + 1), .int r, .int z, .int n] : List V).set 2 (.int 0)))) d = some (.lst [.ref c, .int (i + 1), .int 0, .int z, .int n]) := upd_same
          have mv2 : Mv d H (upd (upd H d (.lst (([.ref c, .int i, .int r, .int z, .int n] : List V).set 1 (.int (i + 1))))) d (.lst (([.ref c, .int (i + 1), .int r, .int z, .int n] : List V).set 2 (.int 0)))) := Mv.upd.trans Mv.upd
          -- if cell >= 10 ** 18
          refine ⟨_, rfl, 10, 18, rfl, rfl, ⟨by decide, by decide, by decide⟩, ns[i.toNat], _, rfl, rfl, _, rfl, ite2 (fun e3 => ?_) (fun e3 => ?_)⟩
          · have l4 : (10 : Int) ^ (18 : Int).toNat ≤ ns[i.toNat] := of_decide_eq_true e3
            have l5 : (0 : Int) ≤ 10 ^ (18 : Int).toNat := by decide
            refine ⟨_, rfl, _, rfl, d, _, 2, 2, rfl, rfl, h2, rfl, ?_⟩
            exact ⟨_, i + 1, ns[i.toNat], z, n, rfl, upd_same, by omega, by omega, hz0, hz1, mv2.trans Mv.upd⟩
          · refine ⟨_, rfl, d, _, 3, _, rfl, rfl, SqL.of h2, atI_nat (j := 3) rfl, _, rfl, z, ns[i.toNat], rfl, rfl, z + ns[i.toNat], 1000000007, rfl, rfl, (by show (0 : Int) < 1000000007; decide), _, rfl, d, _, 3, 3, rfl, rfl, h2, rfl, ?_⟩
            exact ⟨_, i + 1, 0, _, n, rfl, upd_same, by omega, by omega, Int.emod_nonneg _ (by decide), Int.emod_lt_of_pos _ (by decide), mv2.trans Mv.upd⟩
        · exact ⟨_, i, r, z, n, rfl, hd, hi, hr0, hz0, hz1, Mv.refl d H⟩
      · exact ⟨_, i, r, z, n, rfl, hd, hi, hr0, hz0, hz1, Mv.refl d H⟩
    · clear hd hi hr0 hz0 hz1 i r z n
      rintro σ' H' ⟨y2, i, r, z, n, rfl, hd, hi, hr0, hz0, hz1, mv⟩
      have fin : ∀ (H2 : Hp) (i r z n : Int), H2 d = some (.lst [.ref c, .int i, .int r, .int z, .int n]) → 0 ≤ i → 0 ≤ r → 0 ≤ z → z < 1000000007 → Mv d H H2 → Drw H2 d c := fun H2 i r z n e a1 a2 a3 a4 k => ⟨ns, i, r, z, n, e, (k c ncd).trans hc, a1, a2, a3, a4⟩
      -- if draw[2] >= many
      refine ⟨_, rfl, d, _, 2, _, rfl, rfl, SqL.of hd, atI_nat (j := 2) rfl, _, rfl, r, m, rfl, rfl, _, rfl, ite2 (fun e1 => ?_) (fun e1 => ?_)⟩
      · refine ⟨_, rfl, d, _, 2, _, rfl, rfl, SqL.of hd, atI_nat (j := 2) rfl, _, rfl, r, m, rfl, rfl, hm0, ?_⟩
        refine ⟨_, rfl, d, _, 2, _, rfl, rfl, SqL.of hd, atI_nat (j := 2) rfl, _, rfl, r, m, rfl, rfl, ⟨hm0, hm1⟩, _, rfl, d, _, 2, 2, rfl, rfl, hd, rfl, ?_⟩
        refine ⟨_, rfl, ?_⟩
        have k1 : Mv d H (upd H' d (.lst (([.ref c, .int i, .int r, .int z, .int n] : List V).set 2 (.int (r / m))))) := mv.trans Mv.upd
        exact q _ _ (Int.emod_nonneg _ (by omega)) (Int.emod_lt_of_pos _ hm0) (fin _ i (r / m) z n upd_same hi (Int.ediv_nonneg hr0 (by omega)) hz0 hz1 k1) k1
      · -- draw[4] = draw[4] + 1
        refine ⟨_, rfl, d, _, 4, _, rfl, rfl, SqL.of hd, atI_nat (j := 4) rfl, n, 1, rfl, rfl, _, rfl, d, _, 4, 4, rfl, rfl, hd, rfl, ?_⟩
        have h1 : (upd H' d (.lst (([.ref c, .int i, .int r, .int z, .int n] : List V).set 4 (.int (n + 1))))) d = some (.lst [.ref c, .int i, .int r, .int z, .int (n + 1)]) := upd_same
        -- draw[3] = ..
        refine ⟨_, rfl, d, _, 3, _, rfl, rfl, SqL.of h1, atI_nat (j := 3) rfl, z, 3, rfl, rfl, ⟨by decide, by decide, by omega⟩, _, rfl, d, _, 4, _, rfl, rfl, SqL.of h1, atI_nat (j := 4) rfl, 40503, n + 1, rfl, rfl, .inl ⟨by decide, by decide⟩, _, _, rfl, rfl, _, 17, rfl, rfl, _, 1000000007, rfl, rfl, (by show (0 : Int) < 1000000007; decide), _, rfl, d, _, 3, 3, rfl, rfl, h1, rfl, ?_⟩
        -- return draw[3] // 5 % many
        refine ⟨_, rfl, d, _, 3, _, rfl, rfl, SqL.of upd_same, atI_nat (j := 3) rfl, _, 5, rfl, rfl, ⟨by decide, by decide⟩, _, rfl, _, m, rfl, rfl, hm0, ?_⟩
        have k1 : Mv d H (upd (upd H' d (.lst (([.ref c, .int i, .int r, .int z, .int n] : List V).set 4 (.int (n + 1))))) d (.lst (([.ref c, .int i, .int r, .int z, .int (n + 1)] : List V).set 3 (.int ((z ^ (3 : Int).toNat + 40503 * (n + 1) + 17) % 1000000007))))) := mv.trans (Mv.upd.trans Mv.upd)
        exact q _ _ (Int.emod_nonneg _ (by omega)) (Int.emod_lt_of_pos _ hm0) (fin _ i r _ (n + 1) upd_same hi hr0 (Int.emod_nonneg _ (by decide)) (Int.emod_lt_of_pos _ (by decide)) k1) k1
abbrev s_law_one : Stmt := topS 8
abbrev sc_law_oneN : List Str := ["_law_draw", "_law_some"]
theorem sc_law_one : FnScope sc_law_oneN ["_law_draw", "_law_some"] (defScope s_law_one) := ⟨rfl, rfl, rfl, by decide +kernel, rfl, by decide +kernel, by decide +kernel⟩
theorem ok__law_one (D : Df K mg "_law_one" s_law_one ["_law_draw", "_law_some"]) (Z : Zs mg) (G__law_pick : Ok P w K mg base CX0 1 "_law_pick" ["_law_draw", "_law_many"] spPick) : Ok P w K mg base CX0 2 "_law_one" ["_law_draw", "_law_some"] spOne := by
  refine D.ok sc_law_one (fun vs H Q E h => ?_) (fun f cdv A outer s H vs Q E hr h => ?_)
  · obtain ⟨d, c, l, xs, rfl, _⟩ := h
    rfl
  · obtain ⟨d, c, l, xs, rfl, hd, hl, nl, h0, h1, q⟩ := h
    refine ⟨_, (pss_one (ps_ret (pe_ix ix_list (pv 1) (pe_own G__law_pick (hr.mono (by first | decide | omega)) rfl (pa_cons (pv 0) (pa_cons (pe_callB call_len_seq (by rfl) Z.len_ PySem.boot_len (pa_cons (pv 1) pa_nil)) pa_nil))) (fun _ _ => rfl)))), ?_⟩
    refine ⟨_, rfl, _, rfl, _, rfl, l, _, rfl, .inl (SqL.of hl), d, c, _, rfl, hd, by omega, by omega, fun r H' r0 r1 hd' mv => ?_⟩
    have hl' : H' l = some (.lst xs) := (mv l nl).trans hl
    have l3 : r.toNat < xs.length := by omega
    have hx : atI xs r = some xs[r.toNat] := by
      have q2 := atI_nat (List.getElem?_eq_getElem l3)
      rw [Int.toNat_of_nonneg r0] at q2
      exact q2
    exact ⟨l, _, r, _, rfl, rfl, SqL.of hl', hx, q _ _ (List.getElem_mem l3) hd' mv⟩
abbrev s_law_far : Stmt := topS 9
abbrev sc_law_farN : List Str := ["_law_draw", "_law_number"]
theorem sc_law_far : FnScope sc_law_farN ["_law_draw"] (defScope s_law_far) := ⟨rfl, rfl, rfl, by decide +kernel, rfl, by decide +kernel, by decide +kernel⟩
theorem ok__law_far (D : Df K mg "_law_far" s_law_far ["_law_draw"]) (G__law_pick : Ok P w K mg base CX0 1 "_law_pick" ["_law_draw", "_law_many"] spPick) : Ok P w K mg base CX0 2 "_law_far" ["_law_draw"] spFar := by
  refine D.ok sc_law_far (fun vs H Q E h => ?_) (fun f cdv A outer s H vs Q E hr h => ?_)
  · obtain ⟨d, c, rfl, _⟩ := h
    rfl
  · obtain ⟨d, c, rfl, hd, q⟩ := h
    refine ⟨_, (pss_cons (ps_set (i := 1) sc_law_far.nd rfl (.inl rfl) (pe_op op_add (pe_op op_add (pe_op op_pow pe_int pe_int) (pe_own G__law_pick (hr.mono (by first | decide | omega)) rfl (pa_cons (pv 0) (pa_cons (pe_op op_pow pe_int pe_int) pa_nil)))) (pe_op op_mul (pe_op op_pow pe_int pe_int) (pe_own G__law_pick (hr.mono (by first | decide | omega)) rfl (pa_cons (pv 0) (pa_cons pe_int pa_nil))))))
        (pss_one (ps_ret (pe_ix ix_tup (pe_tup (pa_cons (pv 1) (pa_cons (pe_op op_sub pe_int (pv 1)) pa_nil))) (pe_own G__law_pick (hr.mono (by first | decide | omega)) rfl (pa_cons (pv 0) (pa_cons pe_int pa_nil))) (fun _ _ => rfl))))), ?_⟩
    refine ⟨10, 7, rfl, rfl, ⟨by decide, by decide, by decide⟩, _, rfl, 10, 9, rfl, rfl, ⟨by decide, by decide, by decide⟩, d, c, _, rfl, hd, by decide, by decide, fun r1 H1 a1 b1 hd1 mv1 => ?_⟩
    refine ⟨_, r1, rfl, rfl, 10, 28, rfl, rfl, ⟨by decide, by decide, by decide⟩, _, rfl, d, c, 2, rfl, hd1, by decide, by decide, fun r2 H2 a2 b2 hd2 mv2 => ?_⟩
    refine ⟨_, r2, rfl, rfl, .inr ⟨by omega, by omega⟩, _, _, rfl, rfl, ?_⟩
    refine ⟨_, rfl, _, rfl, 0, _, rfl, rfl, (by show 2 ≤ sizeLine; decide), fun p hp => ?_⟩
    have mv : Mv d H H2 := mv1.trans mv2
    have hd3 := hd2.new (o := .tup [.int (10 ^ (7 : Int).toNat + r1 + 10 ^ (28 : Int).toNat * r2), .int (0 - (10 ^ (7 : Int).toNat + r1 + 10 ^ (28 : Int).toNat * r2))]) hp
    refine ⟨_, rfl, d, c, 2, rfl, hd3, by decide, by decide, fun r3 H3 a3 b3 hd4 mv3 => ?_⟩
    have npd : p ≠ d := (hd2.ne hp).symm
    have hp3 : H3 p = some (.tup [.int (10 ^ (7 : Int).toNat + r1 + 10 ^ (28 : Int).toNat * r2), .int (0 - (10 ^ (7 : Int).toNat + r1 + 10 ^ (28 : Int).toNat * r2))]) := (mv3 p npd).trans upd_same
    have kp : Kp d H H3 := (mv.kp.trans (Kp.new hp)).trans mv3.kp
    have e7 : (10 : Int) ^ (7 : Int).toNat = 10000000 := by decide
    have e28 : (10 : Int) ^ (28 : Int).toNat = 10000000000000000000000000000 := by decide
    have e9 : (10 : Int) ^ (9 : Int).toNat = 1000000000 := by decide
    have e29 : (10 : Int) ^ 29 = 100000000000000000000000000000 := by decide
    rw [e9] at b1
    have c2 : r2 = 0 ∨ r2 = 1 := by omega
    have c3 : r3 = 0 ∨ r3 = 1 := by omega
    have bd : 10000000 ≤ 10 ^ (7 : Int).toNat + r1 + 10 ^ (28 : Int).toNat * r2 ∧ 10 ^ (7 : Int).toNat + r1 + 10 ^ (28 : Int).toNat * r2 ≤ 10 ^ 29 := by
      rw [e7, e28, e29]
      rcases c2 with rfl | rfl <;> omega
    rcases c3 with rfl | rfl
    · exact ⟨p, _, 0, _, rfl, rfl, SqT.of hp3, atI_nat (j := 0) rfl, q _ _ (.inl bd) hd4 kp⟩
    · exact ⟨p, _, 1, _, rfl, rfl, SqT.of hp3, atI_nat (j := 1) rfl, q _ _ (.inr ⟨by omega, by omega⟩) hd4 kp⟩
abbrev s_law_same : Stmt := topS 10
abbrev sc_law_sameN : List Str := ["_law_found", "_law_due", "_law_k"]
theorem sc_law_same : FnScope sc_law_sameN ["_law_found", "_law_due"] (defScope s_law_same) := ⟨rfl, rfl, rfl, by decide +kernel, rfl, by decide +kernel, by decide +kernel⟩
theorem ok__law_same (D : Df K mg "_law_same" s_law_same ["_law_found", "_law_due"]) (Z : Zs mg) : ∀ n : Nat, Ok P w K mg base CX0 n "_law_same" ["_law_found", "_law_due"] (spSame K n)
  | 0 => by
    obtain ⟨f, fd, F, g, b⟩ := D
    exact ⟨f, fd, ⟨fun vs H Q E h => by obtain ⟨x, y, d, _, _, _, h, _⟩ := h; exact h.elim, fun A outer s H args us vs Q E _ _ _ _ h => by obtain ⟨x, y, d, _, _, _, h, _⟩ := h; exact h.elim⟩, g, F.kp, b⟩
  | n + 1 => by
    have G__law_same := ok__law_same D Z n
    refine D.ok sc_law_same (fun vs H Q E h => ?_) (fun f cdv A outer s H vs Q E hr h => ?_)
    · obtain ⟨x, y, d, rfl, _⟩ := h
      rfl
    · obtain ⟨x, y, d, rfl, hx, hy, hd, q⟩ := h
      refine ⟨_, (pss_cons (ps_if (pt_cmpR op_isN (pv 1) pe_non (nomark _)) (pss_one (ps_ret (pe_cmpR op_isN (pv 0) pe_non (nomark _)))) pss_nil)
        (pss_cons (ps_if (PW.pt (pw_or (pt_val (pe_callB call_isi (by rfl) Z.isinstance_ (by decide +kernel) (pa_cons (pv 1) (pa_cons (pe_bltn (v := .ty "bool") (by rfl) Z.bool_ (by decide +kernel) rfl) pa_nil)))) (pw_or1 (pt_val (pe_callB call_isi (by rfl) Z.isinstance_ (by decide +kernel) (pa_cons (pv 0) (pa_cons (pe_bltn (v := .ty "bool") (by rfl) Z.bool_ (by decide +kernel) rfl) pa_nil))))))) (pss_one (ps_ret (pe_and (pe_callB call_isi (by rfl) Z.isinstance_ (by decide +kernel) (pa_cons (pv 1) (pa_cons (pe_bltn (v := .ty "bool") (by rfl) Z.bool_ (by decide +kernel) rfl) pa_nil))) (pe_and (pe_callB call_isi (by rfl) Z.isinstance_ (by decide +kernel) (pa_cons (pv 0) (pa_cons (pe_bltn (v := .ty "bool") (by rfl) Z.bool_ (by decide +kernel) rfl) pa_nil))) (pe_one (pe_cmpR op_eq (pv 0) (pv 1) (nomark _))))))) pss_nil)
        (pss_cons (ps_if (pt_val (pe_callB call_isiT (by rfl) Z.isinstance_ (by decide +kernel) (pa_cons (pv 1) (pa_cons (pe_tup (pa_cons (pe_bltn (v := .ty "int") (by rfl) Z.int_ (by decide +kernel) rfl) (pa_cons (pe_bltn (v := .ty "str") (by rfl) Z.str_ (by decide +kernel) rfl) pa_nil))) pa_nil)))) (pss_one (ps_ret (pe_and (pe_cmpR op_eq (pe_callB call_isi (by rfl) Z.isinstance_ (by decide +kernel) (pa_cons (pv 0) (pa_cons (pe_bltn (v := .ty "int") (by rfl) Z.int_ (by decide +kernel) rfl) pa_nil))) (pe_callB call_isi (by rfl) Z.isinstance_ (by decide +kernel) (pa_cons (pv 1) (pa_cons (pe_bltn (v := .ty "int") (by rfl) Z.int_ (by decide +kernel) rfl) pa_nil))) (nomark _)) (pe_and (pe_callB call_isiT (by rfl) Z.isinstance_ (by decide +kernel) (pa_cons (pv 0) (pa_cons (pe_tup (pa_cons (pe_bltn (v := .ty "int") (by rfl) Z.int_ (by decide +kernel) rfl) (pa_cons (pe_bltn (v := .ty "str") (by rfl) Z.str_ (by decide +kernel) rfl) pa_nil))) pa_nil))) (pe_one (pe_cmpR op_eq (pv 0) (pv 1) (nomark _))))))) pss_nil)
        (pss_cons (ps_if (PW.pt (pw_or (pt_cmpR op_ne (pe_callB call_isi (by rfl) Z.isinstance_ (by decide +kernel) (pa_cons (pv 0) (pa_cons (pe_bltn (v := .ty "list") (by rfl) Z.list_ (by decide +kernel) rfl) pa_nil))) (pe_callB call_isi (by rfl) Z.isinstance_ (by decide +kernel) (pa_cons (pv 1) (pa_cons (pe_bltn (v := .ty "list") (by rfl) Z.list_ (by decide +kernel) rfl) pa_nil))) (nomark _)) (pw_or1 (pt_cmpR op_ne (pe_callB call_isi (by rfl) Z.isinstance_ (by decide +kernel) (pa_cons (pv 0) (pa_cons (pe_bltn (v := .ty "tuple") (by rfl) Z.tuple_ (by decide +kernel) rfl) pa_nil))) (pe_callB call_isi (by rfl) Z.isinstance_ (by decide +kernel) (pa_cons (pv 1) (pa_cons (pe_bltn (v := .ty "tuple") (by rfl) Z.tuple_ (by decide +kernel) rfl) pa_nil))) (nomark _))))) (pss_one (ps_ret pe_bl)) pss_nil)
        (pss_one (ps_ret (pe_and (pe_cmpR op_eq (pe_callB call_len_seq (by rfl) Z.len_ PySem.boot_len (pa_cons (pv 0) pa_nil)) (pe_callB call_len_seq (by rfl) Z.len_ PySem.boot_len (pa_cons (pv 1) pa_nil)) (nomark _)) (pe_one (pe_callB (cr_all rfl) (by rfl) Z.all_ (by decide +kernel) (pa_cons (pe_lc (own := [("_law_k", 2)]) (g := (gName 2)) (tt := tYes) rfl sc_law_same.nd (pi_range1 (by rfl) Z.range_ (pa_cons (pe_callB call_len_seq (by rfl) Z.len_ PySem.boot_len (pa_cons (pv 1) pa_nil)) pa_nil)) (blkOk_by (N := sc_law_sameN) (sc := defScope s_law_same) (by decide +kernel)) (fun _ _ _ _ _ => pg_name (i := 2) sc_law_same.nd rfl (.inl rfl)) (fun _ _ _ _ _ => pts_nil) (fun _ _ _ _ _ => (pe_own G__law_same (hr.mono (by first | decide | omega)) rfl (pa_cons (pe_ix (r := rIx K) ix_seq (pv 0) (pv 2) (fun _ _ => rfl)) (pa_cons (pe_ix (r := rIx K) ix_seq (pv 1) (pv 2) (fun _ _ => rfl)) pa_nil))))) pa_nil)))))))))), ?_⟩
      have hc : (x = .non ∧ y = .non) ∨ (∃ b, x = .bl b ∧ y = .bl b) ∨ (∃ i, x = .int i ∧ y = .int i) ∨ (∃ i, x = .str i ∧ y = .str i) ∨
          ∃ (T : String) (a b : Addr) (xs ys : List V) (ds : List PyData), x = .ref a ∧ y = .ref b ∧ SqX K H a xs T ∧ SqX K H b ys T ∧ DpAll K H xs ds ∧ DpAll K H ys ds ∧ ds.length ≤ 1000 ∧ ∀ d ∈ ds, Dep n d := by
        cases hx with
        | non => cases hy; exact .inl ⟨rfl, rfl⟩
        | bl b => cases hy; exact .inr (.inl ⟨b, rfl, rfl⟩)
        | int i => cases hy; exact .inr (.inr (.inl ⟨i, rfl, rfl⟩))
        | str i => cases hy; exact .inr (.inr (.inr (.inl ⟨i, rfl, rfl⟩)))
        | lst s1 d1 => cases hy with
          | lst s2 d2 => exact .inr (.inr (.inr (.inr ⟨_, _, _, _, _, _, rfl, rfl, .l s1, .l s2, d1, d2, hd.1, hd.2⟩)))
        | tup s1 d1 => cases hy with
          | tup s2 d2 => exact .inr (.inr (.inr (.inr ⟨_, _, _, _, _, _, rfl, rfl, .t s1, .t s2, d1, d2, hd.1, hd.2⟩)))
      rcases hc with ⟨rfl, rfl⟩ | ⟨b, rfl, rfl⟩ | ⟨i, rfl, rfl⟩ | ⟨i, rfl, rfl⟩ | ⟨T, a, b, xs, ys, ds, rfl, rfl, s1, s2, d1, d2, l0, de⟩
      · exact ⟨_, rfl, rfl, _, rfl, iteT ⟨_, rfl, rfl, q _ (Same.refl _)⟩⟩
      · refine ⟨_, rfl, rfl, _, rfl, iteF ?_⟩
        refine ⟨_, rfl, _, _, _, _, true, rfl, .ty _, .base (.bl b), kit_ty (by decide +kernel), _, rfl, iteT (iteT ?_)⟩
        refine ⟨_, rfl, _, _, _, _, true, rfl, .ty _, .base (.bl b), kit_ty (by decide +kernel), _, rfl, iteT ?_⟩
        refine ⟨_, rfl, _, _, _, _, true, rfl, .ty _, .base (.bl b), kit_ty (by decide +kernel), _, rfl, iteT ?_⟩
        refine ⟨_, rfl, _, rfl, rfl, ?_⟩
        rw [decide_eq_true rfl]
        exact q _ (Same.refl _)
      · refine ⟨_, rfl, rfl, _, rfl, iteF ?_⟩
        refine ⟨_, rfl, _, _, _, _, false, rfl, .ty _, .base (.int i), kit_ty (by decide +kernel), _, rfl, iteF ?_⟩
        refine ⟨_, rfl, _, _, _, _, false, rfl, .ty _, .base (.int i), kit_ty (by decide +kernel), _, rfl, iteF ?_⟩
        refine ⟨_, rfl, (by show 2 ≤ sizeLine; decide), fun p hp => ?_⟩
        refine ⟨_, p, _, _, _, true, rfl, upd_same, .cons (.ty _) (.cons (.ty _) .nil), .base (.int i), kitAny_cons (kit_ty (b := "int") (r := true) (by decide +kernel)) (fun z => nomatch z) (fun _ => rfl), _, rfl, iteT ?_⟩
        refine ⟨_, rfl, _, _, _, _, true, rfl, .ty _, .base (.int i), kit_ty (by decide +kernel), _, rfl, _, _, _, _, true, rfl, .ty _, .base (.int i), kit_ty (by decide +kernel), rfl, _, rfl, iteT ?_⟩
        refine ⟨_, rfl, (by show 2 ≤ sizeLine; decide), fun p2 hp2 => ?_⟩
        refine ⟨_, p2, _, _, _, true, rfl, upd_same, .cons (.ty _) (.cons (.ty _) .nil), .base (.int i), kitAny_cons (kit_ty (b := "int") (r := true) (by decide +kernel)) (fun z => nomatch z) (fun _ => rfl), _, rfl, iteT ?_⟩
        refine ⟨_, rfl, _, rfl, rfl, ?_⟩
        rw [decide_eq_true rfl]
        exact q _ ((same_upd hp).trans (same_upd hp2))
      · refine ⟨_, rfl, rfl, _, rfl, iteF ?_⟩
        refine ⟨_, rfl, _, _, _, _, false, rfl, .ty _, .base (.str i), kit_ty (by decide +kernel), _, rfl, iteF ?_⟩
        refine ⟨_, rfl, _, _, _, _, false, rfl, .ty _, .base (.str i), kit_ty (by decide +kernel), _, rfl, iteF ?_⟩
        refine ⟨_, rfl, (by show 2 ≤ sizeLine; decide), fun p hp => ?_⟩
        have ka : PySem.W.kitAny K (.type "str") [.type "int", .type "str"] = some true := kitAny_cons (kit_ty (b := "int") (r := false) (by decide +kernel)) (fun _ => kitAny_cons (kit_ty (b := "str") (r := true) (by decide +kernel)) (fun z => nomatch z) (fun _ => rfl)) (fun z => nomatch z)
        refine ⟨_, p, _, _, _, true, rfl, upd_same, .cons (.ty _) (.cons (.ty _) .nil), .base (.str i), ka, _, rfl, iteT ?_⟩
        refine ⟨_, rfl, _, _, _, _, false, rfl, .ty _, .base (.str i), kit_ty (by decide +kernel), _, rfl, _, _, _, _, false, rfl, .ty _, .base (.str i), kit_ty (by decide +kernel), rfl, _, rfl, iteT ?_⟩
        refine ⟨_, rfl, (by show 2 ≤ sizeLine; decide), fun p2 hp2 => ?_⟩
        refine ⟨_, p2, _, _, _, true, rfl, upd_same, .cons (.ty _) (.cons (.ty _) .nil), .base (.str i), ka, _, rfl, iteT ?_⟩
        refine ⟨_, rfl, _, rfl, rfl, ?_⟩
        rw [decide_eq_true rfl]
        exact q _ ((same_upd hp).trans (same_upd hp2))
      · have kb : kitB T "bool" = some false := by rcases s1.cases with rfl | rfl <;> decide +kernel
        have ki : kitB T "int" = some false := by rcases s1.cases with rfl | rfl <;> decide +kernel
        have ks : kitB T "str" = some false := by rcases s1.cases with rfl | rfl <;> decide +kernel
        obtain ⟨bl, kl⟩ : ∃ b, kitB T "list" = some b := by rcases s1.cases with rfl | rfl <;> first | exact ⟨true, by decide +kernel⟩ | exact ⟨false, by decide +kernel⟩
        obtain ⟨bt, kt⟩ : ∃ b, kitB T "tuple" = some b := by rcases s1.cases with rfl | rfl <;> first | exact ⟨true, by decide +kernel⟩ | exact ⟨false, by decide +kernel⟩
        refine ⟨_, rfl, rfl, _, rfl, iteF ?_⟩
        refine ⟨_, rfl, _, _, _, _, false, rfl, .ty _, s2.ty, kit_ty kb, _, rfl, iteF ?_⟩
        refine ⟨_, rfl, _, _, _, _, false, rfl, .ty _, s1.ty, kit_ty kb, _, rfl, iteF ?_⟩
        refine ⟨_, rfl, (by show 2 ≤ sizeLine; decide), fun p hp => ?_⟩
        have ka : PySem.W.kitAny K (.type T) [.type "int", .type "str"] = some false := kitAny_cons (kit_ty ki) (fun _ => kitAny_cons (kit_ty ks) (fun _ => rfl) (fun z => nomatch z)) (fun z => nomatch z)
        have S1 := same_upd (o := .tup [.ty "int", .ty "str"]) hp
        have s1' := s1.same S1
        have s2' := s2.same S1
        refine ⟨_, p, _, _, _, false, rfl, upd_same, .cons (.ty _) (.cons (.ty _) .nil), s2'.ty, ka, _, rfl, iteF ?_⟩
        refine ⟨_, rfl, _, _, _, _, bl, rfl, .ty _, s1'.ty, kit_ty kl, _, rfl, _, _, _, _, bl, rfl, .ty _, s2'.ty, kit_ty kl, rfl, _, rfl, ?_⟩
        rw [decide_eq_true rfl]
        refine iteF ?_
        refine ⟨_, rfl, _, _, _, _, bt, rfl, .ty _, s1'.ty, kit_ty kt, _, rfl, _, _, _, _, bt, rfl, .ty _, s2'.ty, kit_ty kt, rfl, _, rfl, ?_⟩
        rw [decide_eq_true rfl]
        refine iteF ?_
        have lx := dp_len d1
        have ly := dp_len d2
        refine ⟨_, rfl, a, xs, rfl, s1'.or, _, rfl, b, ys, rfl, s2'.or, rfl, _, rfl, ?_⟩
        rw [lx, ly, decide_eq_true rfl]
        refine iteT ?_
        refine ⟨_, rfl, b, ys, rfl, s2'.or, _, rfl, by omega, by omega, fun Dl hD => ?_⟩
        refine lc_range (lo := 0) (fun i H' => Same (upd H p (.tup [.ty "int", .ty "str"])) H' ∧ H' Dl = some (.lst (List.replicate i (.bl true)))) ⟨same_upd hD, upd_same⟩ (fun i H' hi hP => ?_) (fun H' hP => ?_)
        · obtain ⟨sm, eD⟩ := hP
          have hi' : i < ds.length := by omega
          obtain ⟨u, gu, du⟩ := dp_get i hi' d1
          obtain ⟨v, gv, dv⟩ := dp_get i hi' d2
          have S2 := S1.trans sm
          refine ⟨rfl, ?_⟩
          have e0 : (0 : Int) + (i : Int) = (i : Int) := Int.zero_add _
          refine ⟨_, rfl, _, rfl, (s1.same S2).ix (by rw [e0]; exact atI_nat gu) ?_⟩
          refine ⟨_, rfl, _, rfl, (s2.same S2).ix (by rw [e0]; exact atI_nat gv) ?_⟩
          refine ⟨u, v, ds[i], rfl, dp_same S2 _ _ du, dp_same S2 _ _ dv, de _ (List.getElem_mem hi'), fun H2 sm2 => ?_⟩
          refine ⟨_, sm2 _ _ eD, ?_, fun b0 o0 e => ?_, ?_⟩
          · rw [List.length_replicate]
            exact Nat.lt_of_lt_of_le (Nat.lt_of_lt_of_le hi' l0) (by decide)
          · have nb : b0 ≠ Dl := ne_of_none e hD
            rw [upd_ne nb]
            exact sm2 _ _ (sm _ _ e)
          · rw [upd_same, rep_snoc]
        · obtain ⟨sm, eD⟩ := hP
          have em : List.replicate ((ys.length : Int).toNat) (V.bl true) = (List.replicate ((ys.length : Int).toNat) true).map V.bl := by rw [List.map_replicate]
          rw [em] at eD
          refine ⟨Dl, _, rfl, SqL.of eD, ?_⟩
          rw [all_true]
          exact q _ (S1.trans sm)
abbrev s_law_primes : Stmt := topS 11
abbrev sc_law_primesN : List Str := []
theorem sc_law_primes : FnScope sc_law_primesN [] (defScope s_law_primes) := ⟨rfl, rfl, rfl, by decide +kernel, rfl, by decide +kernel, by decide +kernel⟩
theorem ok__law_primes (D : Df K mg "_law_primes" s_law_primes []) : Ok P w K mg base CX0 1 "_law_primes" [] spPrimes := by
  refine D.ok sc_law_primes (fun vs H Q E h => ?_) (fun f cdv A outer s H vs Q E hr h => ?_)
  · obtain ⟨rfl, _⟩ := h
    rfl
  · obtain ⟨rfl, q⟩ := h
    refine ⟨_, (pss_one (ps_ret (pe_lst (pa_cons pe_int (pa_cons pe_int (pa_cons pe_int (pa_cons pe_int (pa_cons pe_int (pa_cons pe_int (pa_cons pe_int (pa_cons pe_int (pa_cons pe_int (pa_cons pe_int (pa_cons pe_int (pa_cons pe_int (pa_cons pe_int (pa_cons pe_int (pa_cons pe_int (pa_cons pe_int (pa_cons pe_int pa_nil)))))))))))))))))))), ?_⟩
    exact ⟨(by show 17 ≤ sizeLine; decide), fun p hp => q p hp⟩
abbrev slaw : Stmt := topS 12
abbrev sclawN : List Str := ["_law_script", "_law_draw", "_law_turn", "_law_number"]
theorem sclaw : FnScope sclawN ["_law_script"] (defScope slaw) := ⟨rfl, rfl, rfl, by decide +kernel, rfl, by decide +kernel, by decide +kernel⟩
theorem ok_law {f : Addr} {fd : FuncData} (F : Fun K "law" "law" slaw f fd) (Z : Zs mg) (T : MPr K mg) (hP : ∃ t, mg "PRIME" = some (.int 31 t)) (G__law_begin : Ok P w K mg base CX0 1 "_law_begin" ["_law_script"] (spBegin K)) (G__law_pick : Ok P w K mg base CX0 1 "_law_pick" ["_law_draw", "_law_many"] spPick)
    (G__law_one : Ok P w K mg base CX0 2 "_law_one" ["_law_draw", "_law_some"] spOne) (G__law_far : Ok P w K mg base CX0 2 "_law_far" ["_law_draw"] spFar) (G__law_primes : Ok P w K mg base CX0 1 "_law_primes" [] spPrimes)
    (G_is_prime : Ok P w K mg base CX0 2 "is_prime" ["number"] spIsPrime) (G__law_same : Ok P w K mg base CX0 3 "_law_same" ["_law_found", "_law_due"] (spSame K 3)) : FnOk P w K mg base CX0 4 f fd ["_law_script"] (spLaw K) := by
  obtain ⟨ap, gl_PRIMES, hp⟩ := T
  obtain ⟨tP, gl_PRIME⟩ := hP
  have gr_PRIMES : RelV (.ref ap) (.ref ap) := rfl
  have gr_PRIME : RelV (.int 31) (.int 31 tP) := ⟨tP, rfl⟩
  refine F.ok sclaw (fun vs H Q E h => ?_) (fun cdv A outer s H vs Q E hr h => ?_)
  · obtain ⟨a, ns, rfl, _⟩ := h
    rfl
  · obtain ⟨a, ns, rfl, hS, hlen, q⟩ := h
    refine ⟨_, (pss_cons (ps_set (i := 1) sclaw.nd rfl (.inl rfl) (pe_own G__law_begin (hr.mono (by first | decide | omega)) rfl (pa_cons (pv 0) pa_nil)))
        (pss_cons (ps_for PassesOwn.never rfl (pi_range1 (by rfl) Z.range_ (pa_cons pe_int pa_nil)) (pg_name (i := 2) sclaw.nd rfl (.inl rfl)) (pss_cons (ps_set (i := 3) sclaw.nd rfl (.inl rfl) (pe_own G__law_one (hr.mono (by first | decide | omega)) rfl (pa_cons (pv 1) (pa_cons (pe_lst (pa_cons (pe_own G__law_pick (hr.mono (by first | decide | omega)) rfl (pa_cons (pv 1) (pa_cons pe_int pa_nil))) (pa_cons (pe_own G__law_far (hr.mono (by first | decide | omega)) rfl (pa_cons (pv 1) pa_nil)) (pa_cons (pe_op op_sub pe_int (pe_own G__law_pick (hr.mono (by first | decide | omega)) rfl (pa_cons (pv 1) (pa_cons pe_int pa_nil)))) (pa_cons (pe_op op_add pe_int (pe_own G__law_pick (hr.mono (by first | decide | omega)) rfl (pa_cons (pv 1) (pa_cons pe_int pa_nil)))) pa_nil))))) pa_nil))))
        (pss_one (ps_if (pt_not (pt_val (pe_own G__law_same (hr.mono (by first | decide | omega)) rfl (pa_cons (pe_own G_is_prime (hr.mono (by first | decide | omega)) rfl (pa_cons (pv 3) pa_nil)) (pa_cons (pe_cmpR op_in_seq (pv 3) (pe_own0 G__law_primes (hr.mono (by first | decide | omega)) rfl) rfl) pa_nil))))) (pss_one (ps_ret pe_bl)) pss_nil))))
        (pss_one (ps_ret (pe_own G__law_same (hr.mono (by first | decide | omega)) rfl (pa_cons (pe_lst (pa_cons (pe_glob rfl gl_PRIME gr_PRIME) (pa_cons (pe_glob rfl gl_PRIMES gr_PRIMES) pa_nil))) (pa_cons (pe_lst (pa_cons pe_int (pa_cons (pe_callTy call_tuple_of (by rfl) Z.tuple_ (by decide +kernel) (pa_cons (pe_own0 G__law_primes (hr.mono (by first | decide | omega)) rfl) pa_nil)) pa_nil))) pa_nil))))))), ?_⟩
    refine ⟨_, rfl, a, ns, rfl, hS, fun d c H1 nd hd _ => ?_⟩
    refine ⟨40, rfl, by decide, by decide, for_range (lo := 0) (n := 40) (fun _ σ' H' => ∃ y2 y3, σ' = [some (.ref a), some (.ref d), y2, y3] ∧ Drw H' d c) ⟨_, _, rfl, hd⟩ (fun i σ' H' hi hW => ?_) (fun σ' H' hW => ?_)⟩
    · obtain ⟨y2, y3, rfl, hd⟩ := hW
      refine ⟨_, rfl, _, rfl, d, c, 70, rfl, hd, by decide, by decide, fun r1 H1 a1 b1 hd1 mv1 => ?_⟩
      refine ⟨_, rfl, d, c, rfl, hd1, fun r2 H2 fr hd2 kp2 => ?_⟩
      refine ⟨_, rfl, d, c, 70, rfl, hd2, by decide, by decide, fun r3 H3 a3 b3 hd3 mv3 => ⟨0, r3, rfl, rfl, ?_⟩⟩
      refine ⟨_, rfl, d, c, 9, rfl, hd3, by decide, by decide, fun r4 H4 a4 b4 hd4 mv4 => ⟨61, r4, rfl, rfl, (by show 4 ≤ sizeLine; decide), fun p hp4 => ?_⟩⟩
      refine ⟨d, c, p, _, rfl, hd4.new hp4, upd_same, (hd4.ne hp4).symm, (by show 0 < 4; decide), (by show 4 ≤ 1000; decide), fun x H5 hx hd5 mv5 => ?_⟩
      obtain ⟨n, rfl⟩ : ∃ n : Int, x = .int n := by
        simp only [List.mem_cons, List.not_mem_nil, or_false] at hx
        rcases hx with rfl | rfl | rfl | rfl <;> exact ⟨_, rfl⟩
      refine ⟨_, rfl, n, rfl, _, rfl, rfl, fun p5 hp5 => ⟨p5, _, rfl, .inl (SqL.of upd_same), rfl, rfl, ?_⟩⟩
      refine ⟨_, _, .bool (isP n), rfl, .bl _, .bl _, True.intro, fun H6 sm6 => ⟨true, rfl, iteF ?_⟩⟩
      exact ⟨_, _, rfl, (hd5.new hp5).same sm6⟩
    · obtain ⟨y2, y3, rfl, hd⟩ := hW
      refine ⟨(by show 2 ≤ sizeLine; decide), fun p1 hp1 => ?_⟩
      refine ⟨rfl, fun p2 hp2 => ⟨p2, _, rfl, .inl ⟨SqL.of upd_same, fun p3 hp3 => ⟨(by show 2 ≤ sizeLine; decide), fun p4 hp4 => ?_⟩⟩⟩⟩
      have sm2 := same_upd (o := .lst (PR.map V.int)) hp2
      have sm3 := same_upd (o := .tup (PR.map V.int)) hp3
      have sm4 := same_upd (o := .lst [.int 31, .ref p3]) hp4
      refine ⟨_, _, .list [.int 31, .tuple (PR.map PyData.int)], rfl, ?_, ?_, ?_, fun H5 _ => q _⟩
      · exact .lst (SqL.of (((sm2.trans sm3).trans sm4) _ _ upd_same)) (.cons (.int 31) (.cons (.tup (hp _) (dp_ints PR)) .nil))
      · exact .lst (SqL.of upd_same) (.cons (.int 31) (.cons (.tup (SqT.of (sm4 _ _ upd_same)) (dp_ints PR)) .nil))
      · refine ⟨(by show 2 ≤ 1000; decide), fun d hd => ?_⟩
        simp only [List.mem_cons, List.not_mem_nil, or_false] at hd
        rcases hd with rfl | rfl
        · exact True.intro
        · exact ⟨(by show 17 ≤ 1000; decide), dep_ints PR⟩
end
theorem all_mk {w : World} {K : PySem.W.Frag} {h : Heap} {mg : Str → Option Value} {fa : Addr} (X : K.In h) (G : h.Ns mainGlobals mg) (hfa : mg "law" = some (.ref fa))
    {ap : Addr} {pdd : Option Addr} {pn : Nat} {psl : Array (Option Value)} {tP : Tok} {t3 t5 t7 t11 t13 t17 t19 t23 t29 t31 t37 t41 t43 t47 t53 t59 t61 : Tok}
    {f0 : Addr} {od0 an0 : Option Addr} {sl0 : Array (Option Value)} {oc0 kV0 dc0 pm0 cd0 ct0 : Value}
    (a0 : PySem.W.nsIn K mainGlobals "is_number" = some (some (.ref f0))) (l0 : K.lookup f0 = some ⟨oc0, od0, .func (PySem.W.fnOf "is_number" "is_number" (defArgs sis_number) (defBody sis_number) (defScope sis_number) .none kV0 dc0 pm0 an0 cd0 ct0), sl0⟩) (c0 : PySem.W.codeIn K cd0 "is_number" = true) (k0 : PySem.W.keepIn K (.ref f0) = true)
    {f1 : Addr} {od1 an1 : Option Addr} {sl1 : Array (Option Value)} {oc1 kV1 dc1 pm1 cd1 ct1 : Value}
    (a1 : PySem.W.nsIn K mainGlobals "is_prime" = some (some (.ref f1))) (l1 : K.lookup f1 = some ⟨oc1, od1, .func (PySem.W.fnOf "is_prime" "is_prime" (defArgs sis_prime) (defBody sis_prime) (defScope sis_prime) .none kV1 dc1 pm1 an1 cd1 ct1), sl1⟩) (c1 : PySem.W.codeIn K cd1 "is_prime" = true) (k1 : PySem.W.keepIn K (.ref f1) = true)
    {f2 : Addr} {od2 an2 : Option Addr} {sl2 : Array (Option Value)} {oc2 kV2 dc2 pm2 cd2 ct2 : Value}
    (a2 : PySem.W.nsIn K mainGlobals "_law_begin" = some (some (.ref f2))) (l2 : K.lookup f2 = some ⟨oc2, od2, .func (PySem.W.fnOf "_law_begin" "_law_begin" (defArgs s_law_begin) (defBody s_law_begin) (defScope s_law_begin) .none kV2 dc2 pm2 an2 cd2 ct2), sl2⟩) (c2 : PySem.W.codeIn K cd2 "_law_begin" = true) (k2 : PySem.W.keepIn K (.ref f2) = true)
    {f3 : Addr} {od3 an3 : Option Addr} {sl3 : Array (Option Value)} {oc3 kV3 dc3 pm3 cd3 ct3 : Value}
    (a3 : PySem.W.nsIn K mainGlobals "_law_pick" = some (some (.ref f3))) (l3 : K.lookup f3 = some ⟨oc3, od3, .func (PySem.W.fnOf "_law_pick" "_law_pick" (defArgs s_law_pick) (defBody s_law_pick) (defScope s_law_pick) .none kV3 dc3 pm3 an3 cd3 ct3), sl3⟩) (c3 : PySem.W.codeIn K cd3 "_law_pick" = true) (k3 : PySem.W.keepIn K (.ref f3) = true)
    {f4 : Addr} {od4 an4 : Option Addr} {sl4 : Array (Option Value)} {oc4 kV4 dc4 pm4 cd4 ct4 : Value}
    (a4 : PySem.W.nsIn K mainGlobals "_law_one" = some (some (.ref f4))) (l4 : K.lookup f4 = some ⟨oc4, od4, .func (PySem.W.fnOf "_law_one" "_law_one" (defArgs s_law_one) (defBody s_law_one) (defScope s_law_one) .none kV4 dc4 pm4 an4 cd4 ct4), sl4⟩) (c4 : PySem.W.codeIn K cd4 "_law_one" = true) (k4 : PySem.W.keepIn K (.ref f4) = true)
    {f5 : Addr} {od5 an5 : Option Addr} {sl5 : Array (Option Value)} {oc5 kV5 dc5 pm5 cd5 ct5 : Value}
    (a5 : PySem.W.nsIn K mainGlobals "_law_far" = some (some (.ref f5))) (l5 : K.lookup f5 = some ⟨oc5, od5, .func (PySem.W.fnOf "_law_far" "_law_far" (defArgs s_law_far) (defBody s_law_far) (defScope s_law_far) .none kV5 dc5 pm5 an5 cd5 ct5), sl5⟩) (c5 : PySem.W.codeIn K cd5 "_law_far" = true) (k5 : PySem.W.keepIn K (.ref f5) = true)
    {f6 : Addr} {od6 an6 : Option Addr} {sl6 : Array (Option Value)} {oc6 kV6 dc6 pm6 cd6 ct6 : Value}
    (a6 : PySem.W.nsIn K mainGlobals "_law_same" = some (some (.ref f6))) (l6 : K.lookup f6 = some ⟨oc6, od6, .func (PySem.W.fnOf "_law_same" "_law_same" (defArgs s_law_same) (defBody s_law_same) (defScope s_law_same) .none kV6 dc6 pm6 an6 cd6 ct6), sl6⟩) (c6 : PySem.W.codeIn K cd6 "_law_same" = true) (k6 : PySem.W.keepIn K (.ref f6) = true)
    {f7 : Addr} {od7 an7 : Option Addr} {sl7 : Array (Option Value)} {oc7 kV7 dc7 pm7 cd7 ct7 : Value}
    (a7 : PySem.W.nsIn K mainGlobals "_law_primes" = some (some (.ref f7))) (l7 : K.lookup f7 = some ⟨oc7, od7, .func (PySem.W.fnOf "_law_primes" "_law_primes" (defArgs s_law_primes) (defBody s_law_primes) (defScope s_law_primes) .none kV7 dc7 pm7 an7 cd7 ct7), sl7⟩) (c7 : PySem.W.codeIn K cd7 "_law_primes" = true) (k7 : PySem.W.keepIn K (.ref f7) = true)
    {f8 : Addr} {od8 an8 : Option Addr} {sl8 : Array (Option Value)} {oc8 kV8 dc8 pm8 cd8 ct8 : Value}
    (a8 : PySem.W.nsIn K mainGlobals "law" = some (some (.ref f8))) (l8 : K.lookup f8 = some ⟨oc8, od8, .func (PySem.W.fnOf "law" "law" (defArgs slaw) (defBody slaw) (defScope slaw) .none kV8 dc8 pm8 an8 cd8 ct8), sl8⟩) (c8 : PySem.W.codeIn K cd8 "law" = true) (k8 : PySem.W.keepIn K (.ref f8) = true)
    (zlen : PySem.W.nsIn K mainGlobals "len" = some none)
    (zisinstance : PySem.W.nsIn K mainGlobals "isinstance" = some none)
    (zint : PySem.W.nsIn K mainGlobals "int" = some none)
    (zbool : PySem.W.nsIn K mainGlobals "bool" = some none)
    (zstr : PySem.W.nsIn K mainGlobals "str" = some none)
    (zlist : PySem.W.nsIn K mainGlobals "list" = some none)
    (ztuple : PySem.W.nsIn K mainGlobals "tuple" = some none)
    (zall : PySem.W.nsIn K mainGlobals "all" = some none)
    (zany : PySem.W.nsIn K mainGlobals "any" = some none)
    (zrange : PySem.W.nsIn K mainGlobals "range" = some none)
    (zabs : PySem.W.nsIn K mainGlobals "abs" = some none)
    (zsum : PySem.W.nsIn K mainGlobals "sum" = some none)
    (zmax : PySem.W.nsIn K mainGlobals "max" = some none)
    (zmin : PySem.W.nsIn K mainGlobals "min" = some none)
    (zzip : PySem.W.nsIn K mainGlobals "zip" = some none)
    (zenumerate : PySem.W.nsIn K mainGlobals "enumerate" = some none)
    (aP : PySem.W.nsIn K mainGlobals "PRIMES" = some (some (.ref ap)))
    (lP : K.lookup ap = some ⟨.type "tuple", pdd, .seq #[.int 3 t3, .int 5 t5, .int 7 t7, .int 11 t11, .int 13 t13, .int 17 t17, .int 19 t19, .int 23 t23, .int 29 t29, .int 31 t31, .int 37 t37, .int 41 t41, .int 43 t43, .int 47 t47, .int 53 t53, .int 59 t59, .int 61 t61] pn, psl⟩)
    (aQ : PySem.W.nsIn K mainGlobals "PRIME" = some (some (.int 31 tP)))
    : ∃ fd : FuncData, (∀ (s : Shared) (v : Value), BindsTo s fd ⟨[v], []⟩ [("_law_script", v)]) ∧ ∀ base : Heap, K.In base → base.Ns mainGlobals mg → FnOk PySem.Challenge.pw_weaklook_k01_primes_told w K mg base CX0 4 fa fd ["_law_script"] (spLaw K) := by
  have e := hfa.symm.trans (PySem.W.mg_of X G a8)
  cases e
  have F0 := fun_mk (st := sis_number) l0 c0 k0
  have D_is_number : Df K mg "is_number" sis_number ["thing"] := ⟨f0, _, F0, PySem.W.mg_of X G a0, F0.binds (ps := ["thing"]) fun _ _ _ _ _ _ us hl => match us, hl with | [_], _ => rfl⟩
  have F1 := fun_mk (st := sis_prime) l1 c1 k1
  have D_is_prime : Df K mg "is_prime" sis_prime ["number"] := ⟨f1, _, F1, PySem.W.mg_of X G a1, F1.binds (ps := ["number"]) fun _ _ _ _ _ _ us hl => match us, hl with | [_], _ => rfl⟩
  have F2 := fun_mk (st := s_law_begin) l2 c2 k2
  have D__law_begin : Df K mg "_law_begin" s_law_begin ["_law_script"] := ⟨f2, _, F2, PySem.W.mg_of X G a2, F2.binds (ps := ["_law_script"]) fun _ _ _ _ _ _ us hl => match us, hl with | [_], _ => rfl⟩
  have F3 := fun_mk (st := s_law_pick) l3 c3 k3
  have D__law_pick : Df K mg "_law_pick" s_law_pick ["_law_draw", "_law_many"] := ⟨f3, _, F3, PySem.W.mg_of X G a3, F3.binds (ps := ["_law_draw", "_law_many"]) fun _ _ _ _ _ _ us hl => match us, hl with | [_, _], _ => rfl⟩
  have F4 := fun_mk (st := s_law_one) l4 c4 k4
  have D__law_one : Df K mg "_law_one" s_law_one ["_law_draw", "_law_some"] := ⟨f4, _, F4, PySem.W.mg_of X G a4, F4.binds (ps := ["_law_draw", "_law_some"]) fun _ _ _ _ _ _ us hl => match us, hl with | [_, _], _ => rfl⟩
  have F5 := fun_mk (st := s_law_far) l5 c5 k5
  have D__law_far : Df K mg "_law_far" s_law_far ["_law_draw"] := ⟨f5, _, F5, PySem.W.mg_of X G a5, F5.binds (ps := ["_law_draw"]) fun _ _ _ _ _ _ us hl => match us, hl with | [_], _ => rfl⟩
  have F6 := fun_mk (st := s_law_same) l6 c6 k6
  have D__law_same : Df K mg "_law_same" s_law_same ["_law_found", "_law_due"] := ⟨f6, _, F6, PySem.W.mg_of X G a6, F6.binds (ps := ["_law_found", "_law_due"]) fun _ _ _ _ _ _ us hl => match us, hl with | [_, _], _ => rfl⟩
  have F7 := fun_mk (st := s_law_primes) l7 c7 k7
  have D__law_primes : Df K mg "_law_primes" s_law_primes [] := ⟨f7, _, F7, PySem.W.mg_of X G a7, F7.binds (ps := []) fun _ _ _ _ _ _ us hl => match us, hl with | [], _ => rfl⟩
  have F8 := fun_mk (st := slaw) l8 c8 k8
  have Z : Zs mg := ⟨PySem.W.mg_none_of X G zlen, PySem.W.mg_none_of X G zisinstance, PySem.W.mg_none_of X G zint, PySem.W.mg_none_of X G zbool, PySem.W.mg_none_of X G zstr, PySem.W.mg_none_of X G zlist, PySem.W.mg_none_of X G ztuple, PySem.W.mg_none_of X G zall, PySem.W.mg_none_of X G zany, PySem.W.mg_none_of X G zrange, PySem.W.mg_none_of X G zabs, PySem.W.mg_none_of X G zsum, PySem.W.mg_none_of X G zmax, PySem.W.mg_none_of X G zmin, PySem.W.mg_none_of X G zzip, PySem.W.mg_none_of X G zenumerate⟩
  have T : MPr K mg := ⟨ap, PySem.W.mg_of X G aP, fun H => .inr ⟨_, _, _, lP, rfl, rfl, (by show 17 ≤ sizeLine; decide), .cons ⟨_, rfl⟩ (.cons ⟨_, rfl⟩ (.cons ⟨_, rfl⟩ (.cons ⟨_, rfl⟩ (.cons ⟨_, rfl⟩ (.cons ⟨_, rfl⟩ (.cons ⟨_, rfl⟩ (.cons ⟨_, rfl⟩ (.cons ⟨_, rfl⟩ (.cons ⟨_, rfl⟩ (.cons ⟨_, rfl⟩ (.cons ⟨_, rfl⟩ (.cons ⟨_, rfl⟩ (.cons ⟨_, rfl⟩ (.cons ⟨_, rfl⟩ (.cons ⟨_, rfl⟩ (.cons ⟨_, rfl⟩ (.nil)))))))))))))))))⟩⟩
  refine ⟨PySem.W.fnOf "law" "law" (defArgs slaw) (defBody slaw) (defScope slaw) .none kV8 dc8 pm8 an8 cd8 ct8, fun s v => .of_eq rfl, fun base _ _ => ?_⟩
  have Gp := ok__law_pick (P := PySem.Challenge.pw_weaklook_k01_primes_told) (w := w) (base := base) D__law_pick Z
  exact ok_law F8 Z T ⟨tP, PySem.W.mg_of X G aQ⟩ (ok__law_begin D__law_begin Z) Gp (ok__law_one D__law_one Z Gp) (ok__law_far D__law_far Gp) (ok__law_primes D__law_primes) (ok_is_prime D_is_prime T (ok_is_number D_is_number Z)) (ok__law_same D__law_same Z 3)
end K01
open PySem PySem.W PyProof.Rows
set_option maxRecDepth 100000 in
set_option maxHeartbeats 0 in
theorem PySem.Challenge.cw_weaklook_k01_primes_told_holds : PySem.Challenge.rw_weaklook_k01_primes_told.Holds := by
  w_on; o_law; k_head; (case hw => w_witness2)
  k_fill
  refine L2.walk_of (l := PySem.Challenge.rw_weaklook_k01_primes_told) (n := 63) (k := 4) (x := "_law_script") (CX := fun _ => L2.CX0) (sp := fun w => Wk.spLaw _) rfl (by decide) rfl ⟨rfl, by decide, by decide⟩ (fun w h Y => PySem.W.kIn_of Y) ?F (fun _ _ a ns hl _ hS => ⟨a, ns, rfl, hS, hl, fun _ => rfl⟩) (fun _ _ _ _ _ h => h)
  case F =>
    intro w mg fa h KX G hmg
    refine' K01.all_mk KX G hmg ?a0 ?l0 ?c0 ?k0 ?a1 ?l1 ?c1 ?k1 ?a2 ?l2 ?c2 ?k2 ?a3 ?l3 ?c3 ?k3 ?a4 ?l4 ?c4 ?k4 ?a5 ?l5 ?c5 ?k5 ?a6 ?l6 ?c6 ?k6 ?a7 ?l7 ?c7 ?k7 ?a8 ?l8 ?c8 ?k8 ?zlen ?zisinstance ?zint ?zbool ?zstr ?zlist ?ztuple ?zall ?zany ?zrange ?zabs ?zsum ?zmax ?zmin ?zzip ?zenumerate ?aP ?lP ?aQ
    (case a0 => k_is)
    (case l0 => k_is)
    (case c0 => k_is)
    (case k0 => k_is)
    (case a1 => k_is)
    (case l1 => k_is)
    (case c1 => k_is)
    (case k1 => k_is)
    (case a2 => k_is)
    (case l2 => k_is)
    (case c2 => k_is)
    (case k2 => k_is)
    (case a3 => k_is)
    (case l3 => k_is)
    (case c3 => k_is)
    (case k3 => k_is)
    (case a4 => k_is)
    (case l4 => k_is)
    (case c4 => k_is)
    (case k4 => k_is)
    (case a5 => k_is)
    (case l5 => k_is)
    (case c5 => k_is)
    (case k5 => k_is)
    (case a6 => k_is)
    (case l6 => k_is)
    (case c6 => k_is)
    (case k6 => k_is)
    (case a7 => k_is)
    (case l7 => k_is)
    (case c7 => k_is)
    (case k7 => k_is)
    (case a8 => k_is)
    (case l8 => k_is)
    (case c8 => k_is)
    (case k8 => k_is)
    (case zlen => k_is)
    (case zisinstance => k_is)
    (case zint => k_is)
    (case zbool => k_is)
    (case zstr => k_is)
    (case zlist => k_is)
    (case ztuple => k_is)
    (case zall => k_is)
    (case zany => k_is)
    (case zrange => k_is)
    (case zabs => k_is)
    (case zsum => k_is)
    (case zmax => k_is)
    (case zmin => k_is)
    (case zzip => k_is)
    (case zenumerate => k_is)
    (case aP => k_is)
    (case lP => k_is)
    (case aQ => k_is)
