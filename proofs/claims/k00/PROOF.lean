import PyProof.Rows.All
import Wide.All
import OpenK.AllK
import Wide.FinOn
import PyProof.EqAt
import PyProof.EqKinds
import PyProof.TupleCall
import KE.KExcInit
import HandS.ForExc
import HandS.Evl
import HandS.Wide
import PySem.Challenge.RW_forgetwhen_k00_whole_errors_and_what_the
set_option Elab.async false
set_option linter.all false
set_option maxRecDepth 100000
set_option maxHeartbeats 4000000
/-! ### exceptions of the program's own: class X(TwinError): def __init__(self, f): self.f = f -/
namespace PySem
namespace XC
open PySem.W PySem.Calls PyProof.Rows PySem.HandSPX
abbrev tailE : List Value := [.type "Exception", .type "BaseException", .type "object"]
section
open Builtin Builtin.ObjectAttr
variable {prog : Program} {w : World} {A : Around} {E : Value → Shared → Prop} {R : Result → Shared → Prop} {hp : Heap} {g : Array GenState} {d : Drawn} {t : Nat} {os : OsState}
/-- the first field of an exception whose classes end in Exception's -/
theorem field_first {K : W.Frag} {nmF : Str} {tk : Tok} {v : Value} {x C : Addr} {fv : Array Value}
    (KI : K.In hp) (atx : hp.get? x = some { cls := .ref C, data := .fields fv }) (ov : excOver K C tailE = true) (hdd : hasDictIn K C = true) (tkr : takerIn K C nmF = some none)
    (done : ∀ h' tk' dx, (∀ b o, b ≠ x → hp.get? b = some o → h'.get? b = some o) → hp.objs.size ≤ dx → dx ≠ x → h'.get? x = some { cls := .ref C, dict := some dx, data := .fields fv } →
      h'.Ns1 dx (fun y => if y = nmF then some v else none) → R (.ok (.ret .none)) ⟨h', g, d, tk', os⟩) :
    codeAny (model prog w) A (.call (.builtin "object.__setattr__") ⟨[.ref x, .str nmF tk, v], []⟩) R ⟨hp, g, d, t, os⟩ := by
  have xlt : x ≠ hp.objs.size := Nat.ne_of_lt (Heap.lt_size atx)
  refine osa_openX (s := ⟨hp, g, d, t, os⟩) (od := none) F.store_Exception KI ⟨atx, rfl, rfl, trivial⟩ ov tkr fun bb => ?_
  obtain ⟨cd, hcd, hcdd⟩ := any_some hdd
  have lkC : W.Looks (model prog w) hp (classData C) cd := W.looks_clsIn KI hcd
  show wpAny _ _ (storeInOwnDict (.ref x) (.ref C) (.str nmF tk) nmF v bb) _ _ _
  obtain ⟨c1, c2, c3, c4, c5, c6, c7, c8, c9, c10, c11⟩ := cd
  dsimp only at hcdd
  subst hcdd
  unfold storeInOwnDict ownDictForStores
  repeat (first | with_reducible refine HandSPX.store_in_new ?_ ?_ | with_reducible refine wpAny_loadPart_at atx ?_ | with_reducible refine lkC.at ?_ | wp_step)
  · exact ⟨_, #[], _, (Heap.get?_update_ne _ _ _ _ xlt.symm).trans (Heap.get?_push_at rfl rfl), rfl, fun e he => absurd he (by simp), fun _ => rfl⟩
  · intro h' tk' nsN sb
    have at1 : (hp.push { cls := .type "dict", data := .dict #[] }).get? x = some { cls := .ref C, data := .fields fv } := Heap.get?_push_of_some _ atx
    refine done h' tk' hp.objs.size (fun b o nb ob => ?_) (Nat.le_refl _) xlt.symm ?_ nsN
    · exact (sb.2 b (Nat.ne_of_lt (Heap.lt_size ob))).trans ((Heap.get?_update_ne _ _ _ _ nb).trans (Heap.get?_push_of_some _ ob))
    · exact (sb.2 x xlt).trans (Heap.get?_update_self _ at1 rfl)
end
end XC
end PySem
namespace PySem
namespace XCat
open PySem.W PySem.Calls PyProof.Rows PySem.HandSPX
abbrev aI (p1 p2 : Pos) : Arguments := { posonlyargs := [], args := [{ arg := "self", annotation := none, pos := p1 }, { arg := "at", annotation := none, pos := p2 }], vararg := none, kwonlyargs := [], kw_defaults := [], kwarg := none, defaults := [] }
abbrev bI (q1 q2 q3 q4 : Pos) : List Stmt := [.Assign [.Attribute (.Name "self" q1) "at" q2] (.Name "at" q3) q4]
abbrev sI : Scope := { kind := .function, names := [(PySem.Str.ofString "self", .local), (PySem.Str.ofString "at", .local)], isGenerator := false, isCoroutine := false, more := [] }
/-- what the written part says of the class X at C and of its __init__ at fI -/
structure Txt (K : Frag) (C fI : Addr) : Prop where
  ini : excInitIn K C XC.tailE "Exception.__new__" = true
  ov : excOver K C XC.tailE = true
  sa : findIn K (.ref C) "__setattr__" = some (some (.builtin "object.__setattr__"))
  ga : findIn K (.ref C) "__getattribute__" = some (some (.builtin "BaseException.__getattribute__"))
  gg : findIn K (.ref C) "__getattr__" = some none
  noF : findIn K (.ref C) "at" = some none
  tkr : takerIn K C "at" = some none
  iC : findIn K (.ref C) "__init__" = some (some (.ref fI))
  tI : typeIn K (.ref fI) = some (.type "function")
  kC : keepIn K (.ref C) = true
  exC : subIn K (.ref C) (.type "BaseException") = some true
  tyC : typeIn K (.ref C) = some (.type "type")
  hdC : hasDictIn K C = true
  fn : ∃ (q : Str) (oc : Value) (od : Option Addr) (doc pm : Value) (an : Option Addr) (cdv ct : Value) (osl : Array (Option Value)) (p1 p2 q1 q2 q3 q4 : Pos),
    K.lookup fI = some ⟨oc, od, .func (fnOf "__init__" q (aI p1 p2) (bI q1 q2 q3 q4) sI .none .none doc pm an cdv ct), osl⟩ ∧ codeIn K cdv q = true
/-- a made one -/
structure Made (h h' : Heap) (e C d : Addr) (v : Value) : Prop where
  keep : ∀ b o, h.get? b = some o → h'.get? b = some o
  new : h.objs.size ≤ e
  obj : ∃ oe vs, h'.get? e = some oe ∧ oe.cls = .ref C ∧ oe.dict = some d ∧ oe.data = .fields vs ∧ vs[1]? = some .none
  dbig : h.objs.size ≤ d
  dne : d ≠ e
  ns : h'.Ns1 d (fun y => if y = "at" then some v else none)
theorem size1 (v : Value) : [v].length ≤ sizeLine := by
  rw [sizeLine_eq]
  exact (by decide : 1 ≤ 16777216)
theorem read_local {M : Model} {s : Shared} {name : Str} {scope : Scope} {L a : Addr} {cd : Value} {m : Str → Option Value} {x : Str} {pos : Pos} {v : Value} {Q : Value → Shared → Prop} {A : Around} {E : Value → Shared → Prop} (nsL : s.heap.Ns L m) (isv : m x = some v) (h : Q v s)
    (hk : scope.kind = .function := by rfl) (hl : (envOfC name scope L a cd).kindOf x = some .local := by rfl) (hd : (x == ("__debug__" : Str)) = false := by decide) :
    wpAny M A (eval (.Name x pos) (envOfC name scope L a cd)) Q E s := wpAny_Name (wpAny_loadName_local hk hl nsL isv h) hd
section
variable {prog : Program} {w : World} {A : Around} {E : Value → Shared → Prop} {R : Result → Shared → Prop} {s : Shared} {K : Frag} {C fI : Addr}
theorem run_init (T : Txt K C fI) {x t0 : Addr} {v : Value} (KI : K.In s.heap) (lim : s.heap.NoLimit) (atx : s.heap.get? x = some (excO C t0)) (room : A.depth < recursionLimit)
    (done : ∀ h' tk dx, (∀ b o, b ≠ x → s.heap.get? b = some o → h'.get? b = some o) → h'.get? x = some { cls := .ref C, dict := some dx, data := .fields #[.ref t0, .none, .none, .none, .bool false, .none] } →
      s.heap.objs.size ≤ dx → dx ≠ x → h'.Ns1 dx (fun y => if y = "at" then some v else none) → R (.ok (.ret .none)) { s with heap := h', toks := tk }) :
    codeAny (model prog w) A (.call (.ref fI) ⟨[.ref x, v], []⟩) R s := by
  obtain ⟨q, oc, od, doc, pm, an, cdv, ct, osl, p1, p2, q1, q2, q3, q4, lkf, hcd⟩ := T.fn
  refine Att.call_fn (binds := [("self", .ref x), ("at", v)]) KI lim lkf hcd room (BindsTo.of_eq (by first | rfl | with_unfolding_all rfl)) (by first | rfl | decide | with_unfolding_all rfl) (fun s₁ IC => ?_) rfl rfl rfl
  obtain ⟨h₁, tk₁, rfl⟩ := IC.toInCall.same
  have kp : ∀ b o, s.heap.get? b = some o → h₁.get? b = some o := IC.toInCall.keep
  have nsL := IC.toInCall.ns
  have K1 : K.In h₁ := KI.keeps kp
  have at1 := kp _ _ atx
  show wpAny _ _ (execs _ _) _ _ _
  refine wpAny_execs_cons (plainObj_wpAny_Assign_Attribute ?_)
  refine read_local (v := v) nsL (by first | rfl | with_unfolding_all rfl | kernel_rfl) (read_local (v := .ref x) nsL (by first | rfl | with_unfolding_all rfl | kernel_rfl) ?_)
  refine set_plain K1 (ox := excO C t0) (od := none) ⟨at1, rfl, rfl, trivial⟩ T.sa ?_
  refine XC.field_first K1 at1 T.ov T.hdC T.tkr (fun h₃ tk₃ dx k₃ dn dne at3 ns3 => ?_)
  show wpAny _ _ (execs _ _) _ _ _
  have z : s.heap.objs.size < h₁.objs.size := nsL.lt
  exact wpAny_execs_nil (done h₃ tk₃ dx (fun b o nb e => k₃ b o nb (kp b o e)) at3 (Nat.le_of_lt (Nat.lt_of_lt_of_le z dn)) dne ns3)
theorem run_make (T : Txt K C fI) {v : Value} (KI : K.In s.heap) (lim : s.heap.NoLimit) (room : A.depth + 1 < recursionLimit)
    (done : ∀ h' tk e d, Made s.heap h' e C d v → R (.ok (.ret (.ref e))) { s with heap := h', toks := tk }) :
    codeAny (model prog w) A (.call (.ref C) ⟨[v], []⟩) R s := by
  obtain ⟨nm, N, qn, bs, bm, hdct, sn, sub, ab, col, dd, k0, k1, k2, k3, k5, hC, hT⟩ := excInit_of KI T.ini
  obtain ⟨hp, g, dr, tk, os⟩ := s
  have kp : ∀ b o, hp.get? b = some o → ((hp.push (kdv_tup [v])).push (excO C hp.objs.size)).get? b = some o := fun b o e => Heap.get?_push_of_some _ (Heap.get?_push_of_some _ e)
  have hget : ((hp.push (kdv_tup [v])).push (excO C hp.objs.size)).get? (hp.objs.size + 1) = some (excO C hp.objs.size) := by heap_get
  refine HandSPX.call_own F.excBase_Exception hT hC (looks_findIn KI T.iC) (fun self => bind_fn KI self T.tI) (size1 v) ?_
  refine run_init (s := ⟨(hp.push (kdv_tup [v])).push (excO C hp.objs.size), g, dr, tk, os⟩) T (KI.keeps kp) (lim.keeps kp) hget ?_ fun h' tk' dx k' atx dn dne nsx => ?_
  · show A.depth + 1 < recursionLimit
    exact room
  · have old : ∀ b o, hp.get? b = some o → h'.get? b = some o := fun b o e => k' b o (Nat.ne_of_lt (Nat.lt_succ_of_lt (Heap.lt_size e))) (kp b o e)
    have z : hp.objs.size + 1 + 1 ≤ dx := by
      first
        | (simpa only [Heap.size_push] using dn)
        | (have q := dn; rw [Heap.size_push, Heap.size_push] at q; exact q)
    exact ⟨rfl, done h' tk' (hp.objs.size + 1) dx ⟨old, Nat.le_succ _, ⟨_, _, atx, rfl, rfl, rfl, rfl⟩, Nat.le_trans (Nat.le_trans (Nat.le_succ _) (Nat.le_succ _)) z, dne, nsx⟩⟩
end
end XCat
end PySem
namespace XCat
open PySem PySem.Spec PyProof.Rows L2
theorem rel1 {v : V} {v' : Value} (r : RelV v v') (f : Str) : RelO (List.lookup f [(("at" : Str), v)]) (if f = "at" then some v' else none) := by
  by_cases hw : f = "at"
  · subst hw
    rw [if_pos rfl, show List.lookup ("at" : Str) [(("at" : Str), v)] = some v from by simp [List.lookup]]
    exact r
  · have qw : (f == ("at" : Str)) = false := by simpa using hw
    rw [if_neg hw, show List.lookup f [(("at" : Str), v)] = none from by simp [List.lookup, qw]]
    trivial
section
variable {X : Cx} {C fI : Addr}
/-- X(e) -/
def tMk (C : Addr) (ta : TA) : L2.St → Hp → XK → Prop := fun σ H Q => ta σ H fun vs H1 => ∃ v, vs = [v] ∧ ∀ d, H1 d = none → Q (.ref C) (some d) (upd H1 d (.xd [(("at" : Str), v)]))
theorem pmk {x : Str} {a : Expr} {ta : TA} {p pos : Pos} {k : Nat} (T : PySem.XCat.Txt X.K C fI) (gC : X.mg x = some (.ref C)) (hr : Room k X.A) (ha : PA X [a] ta) (hg : Gl X x := by rfl) (hdb : (x == ("__debug__" : Str)) = false := by decide)
    (he : starEach (a :: []) X.env = (false, eval a X.env) :: starEach [] X.env := by rfl) (hpl : (backTo pos (starEach [] X.env)).any (·.1) = false := by rfl) :
    PMk X (.Call (.Name x p) [a] [] pos) (tMk C ta) := by
  intro pins s σ H Q I h
  refine wpAny_Call_Name_kw (ld_glob I hg gC ?_ hdb)
  refine PySem.W.callWith_K (h₀ := X.base) I.ok.mod.kin T.kC (thn (ha.run pos pins s σ H _ I h) fun us s1 hh => ?_) he hpl
  obtain ⟨vs, H1, I1, r1, v, ev, q1⟩ := hh
  subst ev
  refine ⟨I1.kIn, ?_⟩
  cases r1 with
  | cons rv rn =>
    rename_i v' us'
    cases rn
    show wpAny _ _ (call (.ref C) [v']) _ _ _
    have hlim := I1.nolimit
    obtain ⟨hp, g, dr, tk, os⟩ := s1
    refine wpAny_call (PySem.XCat.run_make T I1.kIn hlim (by have := hr.dp; omega) fun h' tk' e d M => ?_)
    show MkP X pins σ Q (.ref e) ⟨h', g, dr, tk', os⟩
    obtain ⟨oe, fv, hoe, hc, hd, hdat, h1⟩ := M.obj
    have hns := M.ns
    obtain ⟨G', g1, g2⟩ := restrict h' fun b => decide (b ≠ e)
    have gk : ∀ b, b ≠ e → G'.get? b = h'.get? b := fun b hb => g1 b (decide_eq_true hb)
    have ge : G'.get? e = none := g2 e (by simp)
    have old : ∀ b o, hp.get? b = some o → G'.get? b = some o := fun b o q => (gk b (Nat.ne_of_lt (Nat.lt_of_lt_of_le (Heap.lt_size q) M.new))).trans (M.keep b o q)
    have ob : ObjOk X.prog X.w (upd H1 d (.xd [(("at" : Str), v)])) G' d (.xd [(("at" : Str), v)]) :=
      ⟨_, hns.at (fun o q => (gk d M.dne).trans q), fun f => rel1 rv f⟩
    have J : Inv X pins σ (upd H1 d (.xd [(("at" : Str), v)])) ⟨G', g, dr, tk', os⟩ := I1.laid (t' := tk') old M.dbig ob
    refine ⟨e, oe, fv, ⟨G', g, dr, tk', os⟩, _, .ref C, some d, rfl, J, fun b o q => ?_, ge, hoe, ⟨hc, hd⟩, hdat, h1, ?_, rfl, I1.bare, raises_own T.exC T.tyC, q1 d (I1.hok.fresh M.dbig)⟩
    · by_cases hb : b = e
      · have q' : G'.get? b = some o := q
        rw [hb, ge] at q'; cases q'
      · exact (gk b hb).symm.trans q
    · rw [upd_ne (Ne.symm M.dne)]
      exact I1.hok.fresh M.new
/-- raise X(e) -/
def tRaise (C : Addr) (W : WX) (ta : TA) : TS := fun _ σ H => tMk C ta σ H fun cls d H' => W cls d σ H'
theorem ps_raise1 {x : Str} {a : Expr} {ta : TA} {W : WX} {p pos pos2 : Pos} {k : Nat} (hc : X.calm = true) (T : PySem.XCat.Txt X.K C fI) (gC : X.mg x = some (.ref C)) (hr : Room k X.A) (tk : Takes X W) (ha : PA X [a] ta) (hg : Gl X x := by rfl) (hdb : (x == ("__debug__" : Str)) = false := by decide)
    (he : starEach (a :: []) X.env = (false, eval a X.env) :: starEach [] X.env := by rfl) (hpl : (backTo pos (starEach [] X.env)).any (·.1) = false := by rfl) :
    PS X (.Raise (some (.Call (.Name x p) [a] [] pos)) none pos2) (tRaise C W ta) := ps_raise hc tk (pmk T gC hr ha hg hdb he hpl)
/-- e.at, e the exception that the suite holds -/
def tBy (C : Addr) (a : Addr) (cls : Value) (d : Option Addr) (te : TE) : TE := fun σ H Q => te σ H fun x H1 => x = .ref a ∧ cls = .ref C ∧ ∃ (dd : Addr) (v : V), d = some dd ∧ H1 dd = some (.xd [(("at" : Str), v)]) ∧ Q v H1
theorem pe_by {a : Addr} {oe : Obj} {cls : Value} {d : Option Addr} {pn : List (Addr × Obj)} {e : Expr} {te : TE} {pos : Pos} (T : PySem.XCat.Txt X.K C fI) (hz : Zc cls d oe) (hf : ∃ vs, oe.data = .fields vs) (he : PE (X.suite a ((a, oe) :: pn)) e te)
    (hb : attributeBase e "at" X.env (eval e X.env) = eval e X.env := by rfl) :
    PE (X.suite a ((a, oe) :: pn)) (.Attribute e "at" pos) (tBy C a cls d te) := by
  refine ⟨fun pins s σ H Q I h => ?_⟩
  refine attr_of hb (thn (he.run pins s σ H _ I h) fun u s1 hh => ?_)
  obtain ⟨x, H1, I1, rx, ex, ec, dd, v, ed, ea, q⟩ := hh
  subst ex
  obtain rfl : u = Value.ref a := rx
  subst ec
  subst ed
  obtain ⟨ha, _⟩ := I1.pin (a, oe) (List.mem_append_left _ List.mem_cons_self)
  obtain ⟨vs, hd⟩ := hf
  have hx : ObjOk X.prog X.w H1 s1.heap dd (.xd [(("at" : Str), v)]) := I1.hok dd _ ea
  obtain ⟨mA, hns, hr⟩ := hx
  obtain ⟨od, ho, hl⟩ := lookIn_ns hns
  have l : List.lookup ("at" : Str) [(("at" : Str), v)] = some v := by simp [List.lookup]
  obtain ⟨u, hu, ru⟩ := RelO.some_of (v := v) (o := mA "at") (by rw [← l]; exact hr "at")
  have J : PySem.W.InstAt s1.heap a oe C (some od) := ⟨ha, hz.1, by unfold PySem.W.notCls; rw [hd] <;> rfl, by rw [hz.2]; exact ho⟩
  exact HandSPX.exc_get I1.kIn J T.ga T.gg T.exC (PySem.W.findObj_own T.hdC T.noF rfl (by rw [hl, hu])) (handed_of ru) ⟨v, H1, I1.tok _, ru, q⟩
end
end XCat
namespace PySem
namespace XCword
open PySem.W PySem.Calls PyProof.Rows PySem.HandSPX
abbrev aI (p1 p2 : Pos) : Arguments := { posonlyargs := [], args := [{ arg := "self", annotation := none, pos := p1 }, { arg := "word", annotation := none, pos := p2 }], vararg := none, kwonlyargs := [], kw_defaults := [], kwarg := none, defaults := [] }
abbrev bI (q1 q2 q3 q4 : Pos) : List Stmt := [.Assign [.Attribute (.Name "self" q1) "word" q2] (.Name "word" q3) q4]
abbrev sI : Scope := { kind := .function, names := [(PySem.Str.ofString "self", .local), (PySem.Str.ofString "word", .local)], isGenerator := false, isCoroutine := false, more := [] }
/-- what the written part says of the class X at C and of its __init__ at fI -/
structure Txt (K : Frag) (C fI : Addr) : Prop where
  ini : excInitIn K C XC.tailE "Exception.__new__" = true
  ov : excOver K C XC.tailE = true
  sa : findIn K (.ref C) "__setattr__" = some (some (.builtin "object.__setattr__"))
  ga : findIn K (.ref C) "__getattribute__" = some (some (.builtin "BaseException.__getattribute__"))
  gg : findIn K (.ref C) "__getattr__" = some none
  noF : findIn K (.ref C) "word" = some none
  tkr : takerIn K C "word" = some none
  iC : findIn K (.ref C) "__init__" = some (some (.ref fI))
  tI : typeIn K (.ref fI) = some (.type "function")
  kC : keepIn K (.ref C) = true
  exC : subIn K (.ref C) (.type "BaseException") = some true
  tyC : typeIn K (.ref C) = some (.type "type")
  hdC : hasDictIn K C = true
  fn : ∃ (q : Str) (oc : Value) (od : Option Addr) (doc pm : Value) (an : Option Addr) (cdv ct : Value) (osl : Array (Option Value)) (p1 p2 q1 q2 q3 q4 : Pos),
    K.lookup fI = some ⟨oc, od, .func (fnOf "__init__" q (aI p1 p2) (bI q1 q2 q3 q4) sI .none .none doc pm an cdv ct), osl⟩ ∧ codeIn K cdv q = true
/-- a made one -/
structure Made (h h' : Heap) (e C d : Addr) (v : Value) : Prop where
  keep : ∀ b o, h.get? b = some o → h'.get? b = some o
  new : h.objs.size ≤ e
  obj : ∃ oe vs, h'.get? e = some oe ∧ oe.cls = .ref C ∧ oe.dict = some d ∧ oe.data = .fields vs ∧ vs[1]? = some .none
  dbig : h.objs.size ≤ d
  dne : d ≠ e
  ns : h'.Ns1 d (fun y => if y = "word" then some v else none)
theorem size1 (v : Value) : [v].length ≤ sizeLine := by
  rw [sizeLine_eq]
  exact (by decide : 1 ≤ 16777216)
theorem read_local {M : Model} {s : Shared} {name : Str} {scope : Scope} {L a : Addr} {cd : Value} {m : Str → Option Value} {x : Str} {pos : Pos} {v : Value} {Q : Value → Shared → Prop} {A : Around} {E : Value → Shared → Prop} (nsL : s.heap.Ns L m) (isv : m x = some v) (h : Q v s)
    (hk : scope.kind = .function := by rfl) (hl : (envOfC name scope L a cd).kindOf x = some .local := by rfl) (hd : (x == ("__debug__" : Str)) = false := by decide) :
    wpAny M A (eval (.Name x pos) (envOfC name scope L a cd)) Q E s := wpAny_Name (wpAny_loadName_local hk hl nsL isv h) hd
section
variable {prog : Program} {w : World} {A : Around} {E : Value → Shared → Prop} {R : Result → Shared → Prop} {s : Shared} {K : Frag} {C fI : Addr}
theorem run_init (T : Txt K C fI) {x t0 : Addr} {v : Value} (KI : K.In s.heap) (lim : s.heap.NoLimit) (atx : s.heap.get? x = some (excO C t0)) (room : A.depth < recursionLimit)
    (done : ∀ h' tk dx, (∀ b o, b ≠ x → s.heap.get? b = some o → h'.get? b = some o) → h'.get? x = some { cls := .ref C, dict := some dx, data := .fields #[.ref t0, .none, .none, .none, .bool false, .none] } →
      s.heap.objs.size ≤ dx → dx ≠ x → h'.Ns1 dx (fun y => if y = "word" then some v else none) → R (.ok (.ret .none)) { s with heap := h', toks := tk }) :
    codeAny (model prog w) A (.call (.ref fI) ⟨[.ref x, v], []⟩) R s := by
  obtain ⟨q, oc, od, doc, pm, an, cdv, ct, osl, p1, p2, q1, q2, q3, q4, lkf, hcd⟩ := T.fn
  refine Att.call_fn (binds := [("self", .ref x), ("word", v)]) KI lim lkf hcd room (BindsTo.of_eq (by first | rfl | with_unfolding_all rfl)) (by first | rfl | decide | with_unfolding_all rfl) (fun s₁ IC => ?_) rfl rfl rfl
  obtain ⟨h₁, tk₁, rfl⟩ := IC.toInCall.same
  have kp : ∀ b o, s.heap.get? b = some o → h₁.get? b = some o := IC.toInCall.keep
  have nsL := IC.toInCall.ns
  have K1 : K.In h₁ := KI.keeps kp
  have at1 := kp _ _ atx
  show wpAny _ _ (execs _ _) _ _ _
  refine wpAny_execs_cons (plainObj_wpAny_Assign_Attribute ?_)
  refine read_local (v := v) nsL (by first | rfl | with_unfolding_all rfl | kernel_rfl) (read_local (v := .ref x) nsL (by first | rfl | with_unfolding_all rfl | kernel_rfl) ?_)
  refine set_plain K1 (ox := excO C t0) (od := none) ⟨at1, rfl, rfl, trivial⟩ T.sa ?_
  refine XC.field_first K1 at1 T.ov T.hdC T.tkr (fun h₃ tk₃ dx k₃ dn dne at3 ns3 => ?_)
  show wpAny _ _ (execs _ _) _ _ _
  have z : s.heap.objs.size < h₁.objs.size := nsL.lt
  exact wpAny_execs_nil (done h₃ tk₃ dx (fun b o nb e => k₃ b o nb (kp b o e)) at3 (Nat.le_of_lt (Nat.lt_of_lt_of_le z dn)) dne ns3)
theorem run_make (T : Txt K C fI) {v : Value} (KI : K.In s.heap) (lim : s.heap.NoLimit) (room : A.depth + 1 < recursionLimit)
    (done : ∀ h' tk e d, Made s.heap h' e C d v → R (.ok (.ret (.ref e))) { s with heap := h', toks := tk }) :
    codeAny (model prog w) A (.call (.ref C) ⟨[v], []⟩) R s := by
  obtain ⟨nm, N, qn, bs, bm, hdct, sn, sub, ab, col, dd, k0, k1, k2, k3, k5, hC, hT⟩ := excInit_of KI T.ini
  obtain ⟨hp, g, dr, tk, os⟩ := s
  have kp : ∀ b o, hp.get? b = some o → ((hp.push (kdv_tup [v])).push (excO C hp.objs.size)).get? b = some o := fun b o e => Heap.get?_push_of_some _ (Heap.get?_push_of_some _ e)
  have hget : ((hp.push (kdv_tup [v])).push (excO C hp.objs.size)).get? (hp.objs.size + 1) = some (excO C hp.objs.size) := by heap_get
  refine HandSPX.call_own F.excBase_Exception hT hC (looks_findIn KI T.iC) (fun self => bind_fn KI self T.tI) (size1 v) ?_
  refine run_init (s := ⟨(hp.push (kdv_tup [v])).push (excO C hp.objs.size), g, dr, tk, os⟩) T (KI.keeps kp) (lim.keeps kp) hget ?_ fun h' tk' dx k' atx dn dne nsx => ?_
  · show A.depth + 1 < recursionLimit
    exact room
  · have old : ∀ b o, hp.get? b = some o → h'.get? b = some o := fun b o e => k' b o (Nat.ne_of_lt (Nat.lt_succ_of_lt (Heap.lt_size e))) (kp b o e)
    have z : hp.objs.size + 1 + 1 ≤ dx := by
      first
        | (simpa only [Heap.size_push] using dn)
        | (have q := dn; rw [Heap.size_push, Heap.size_push] at q; exact q)
    exact ⟨rfl, done h' tk' (hp.objs.size + 1) dx ⟨old, Nat.le_succ _, ⟨_, _, atx, rfl, rfl, rfl, rfl⟩, Nat.le_trans (Nat.le_trans (Nat.le_succ _) (Nat.le_succ _)) z, dne, nsx⟩⟩
end
end XCword
end PySem
namespace XCword
open PySem PySem.Spec PyProof.Rows L2
theorem rel1 {v : V} {v' : Value} (r : RelV v v') (f : Str) : RelO (List.lookup f [(("word" : Str), v)]) (if f = "word" then some v' else none) := by
  by_cases hw : f = "word"
  · subst hw
    rw [if_pos rfl, show List.lookup ("word" : Str) [(("word" : Str), v)] = some v from by simp [List.lookup]]
    exact r
  · have qw : (f == ("word" : Str)) = false := by simpa using hw
    rw [if_neg hw, show List.lookup f [(("word" : Str), v)] = none from by simp [List.lookup, qw]]
    trivial
section
variable {X : Cx} {C fI : Addr}
/-- X(e) -/
def tMk (C : Addr) (ta : TA) : L2.St → Hp → XK → Prop := fun σ H Q => ta σ H fun vs H1 => ∃ v, vs = [v] ∧ ∀ d, H1 d = none → Q (.ref C) (some d) (upd H1 d (.xd [(("word" : Str), v)]))
theorem pmk {x : Str} {a : Expr} {ta : TA} {p pos : Pos} {k : Nat} (T : PySem.XCword.Txt X.K C fI) (gC : X.mg x = some (.ref C)) (hr : Room k X.A) (ha : PA X [a] ta) (hg : Gl X x := by rfl) (hdb : (x == ("__debug__" : Str)) = false := by decide)
    (he : starEach (a :: []) X.env = (false, eval a X.env) :: starEach [] X.env := by rfl) (hpl : (backTo pos (starEach [] X.env)).any (·.1) = false := by rfl) :
    PMk X (.Call (.Name x p) [a] [] pos) (tMk C ta) := by
  intro pins s σ H Q I h
  refine wpAny_Call_Name_kw (ld_glob I hg gC ?_ hdb)
  refine PySem.W.callWith_K (h₀ := X.base) I.ok.mod.kin T.kC (thn (ha.run pos pins s σ H _ I h) fun us s1 hh => ?_) he hpl
  obtain ⟨vs, H1, I1, r1, v, ev, q1⟩ := hh
  subst ev
  refine ⟨I1.kIn, ?_⟩
  cases r1 with
  | cons rv rn =>
    rename_i v' us'
    cases rn
    show wpAny _ _ (call (.ref C) [v']) _ _ _
    have hlim := I1.nolimit
    obtain ⟨hp, g, dr, tk, os⟩ := s1
    refine wpAny_call (PySem.XCword.run_make T I1.kIn hlim (by have := hr.dp; omega) fun h' tk' e d M => ?_)
    show MkP X pins σ Q (.ref e) ⟨h', g, dr, tk', os⟩
    obtain ⟨oe, fv, hoe, hc, hd, hdat, h1⟩ := M.obj
    have hns := M.ns
    obtain ⟨G', g1, g2⟩ := restrict h' fun b => decide (b ≠ e)
    have gk : ∀ b, b ≠ e → G'.get? b = h'.get? b := fun b hb => g1 b (decide_eq_true hb)
    have ge : G'.get? e = none := g2 e (by simp)
    have old : ∀ b o, hp.get? b = some o → G'.get? b = some o := fun b o q => (gk b (Nat.ne_of_lt (Nat.lt_of_lt_of_le (Heap.lt_size q) M.new))).trans (M.keep b o q)
    have ob : ObjOk X.prog X.w (upd H1 d (.xd [(("word" : Str), v)])) G' d (.xd [(("word" : Str), v)]) :=
      ⟨_, hns.at (fun o q => (gk d M.dne).trans q), fun f => rel1 rv f⟩
    have J : Inv X pins σ (upd H1 d (.xd [(("word" : Str), v)])) ⟨G', g, dr, tk', os⟩ := I1.laid (t' := tk') old M.dbig ob
    refine ⟨e, oe, fv, ⟨G', g, dr, tk', os⟩, _, .ref C, some d, rfl, J, fun b o q => ?_, ge, hoe, ⟨hc, hd⟩, hdat, h1, ?_, rfl, I1.bare, raises_own T.exC T.tyC, q1 d (I1.hok.fresh M.dbig)⟩
    · by_cases hb : b = e
      · have q' : G'.get? b = some o := q
        rw [hb, ge] at q'; cases q'
      · exact (gk b hb).symm.trans q
    · rw [upd_ne (Ne.symm M.dne)]
      exact I1.hok.fresh M.new
/-- raise X(e) -/
def tRaise (C : Addr) (W : WX) (ta : TA) : TS := fun _ σ H => tMk C ta σ H fun cls d H' => W cls d σ H'
theorem ps_raise1 {x : Str} {a : Expr} {ta : TA} {W : WX} {p pos pos2 : Pos} {k : Nat} (hc : X.calm = true) (T : PySem.XCword.Txt X.K C fI) (gC : X.mg x = some (.ref C)) (hr : Room k X.A) (tk : Takes X W) (ha : PA X [a] ta) (hg : Gl X x := by rfl) (hdb : (x == ("__debug__" : Str)) = false := by decide)
    (he : starEach (a :: []) X.env = (false, eval a X.env) :: starEach [] X.env := by rfl) (hpl : (backTo pos (starEach [] X.env)).any (·.1) = false := by rfl) :
    PS X (.Raise (some (.Call (.Name x p) [a] [] pos)) none pos2) (tRaise C W ta) := ps_raise hc tk (pmk T gC hr ha hg hdb he hpl)
/-- e.word, e the exception that the suite holds -/
def tBy (C : Addr) (a : Addr) (cls : Value) (d : Option Addr) (te : TE) : TE := fun σ H Q => te σ H fun x H1 => x = .ref a ∧ cls = .ref C ∧ ∃ (dd : Addr) (v : V), d = some dd ∧ H1 dd = some (.xd [(("word" : Str), v)]) ∧ Q v H1
theorem pe_by {a : Addr} {oe : Obj} {cls : Value} {d : Option Addr} {pn : List (Addr × Obj)} {e : Expr} {te : TE} {pos : Pos} (T : PySem.XCword.Txt X.K C fI) (hz : Zc cls d oe) (hf : ∃ vs, oe.data = .fields vs) (he : PE (X.suite a ((a, oe) :: pn)) e te)
    (hb : attributeBase e "word" X.env (eval e X.env) = eval e X.env := by rfl) :
    PE (X.suite a ((a, oe) :: pn)) (.Attribute e "word" pos) (tBy C a cls d te) := by
  refine ⟨fun pins s σ H Q I h => ?_⟩
  refine attr_of hb (thn (he.run pins s σ H _ I h) fun u s1 hh => ?_)
  obtain ⟨x, H1, I1, rx, ex, ec, dd, v, ed, ea, q⟩ := hh
  subst ex
  obtain rfl : u = Value.ref a := rx
  subst ec
  subst ed
  obtain ⟨ha, _⟩ := I1.pin (a, oe) (List.mem_append_left _ List.mem_cons_self)
  obtain ⟨vs, hd⟩ := hf
  have hx : ObjOk X.prog X.w H1 s1.heap dd (.xd [(("word" : Str), v)]) := I1.hok dd _ ea
  obtain ⟨mA, hns, hr⟩ := hx
  obtain ⟨od, ho, hl⟩ := lookIn_ns hns
  have l : List.lookup ("word" : Str) [(("word" : Str), v)] = some v := by simp [List.lookup]
  obtain ⟨u, hu, ru⟩ := RelO.some_of (v := v) (o := mA "word") (by rw [← l]; exact hr "word")
  have J : PySem.W.InstAt s1.heap a oe C (some od) := ⟨ha, hz.1, by unfold PySem.W.notCls; rw [hd] <;> rfl, by rw [hz.2]; exact ho⟩
  exact HandSPX.exc_get I1.kIn J T.ga T.gg T.exC (PySem.W.findObj_own T.hdC T.noF rfl (by rw [hl, hu])) (handed_of ru) ⟨v, H1, I1.tok _, ru, q⟩
end
end XCword
/-! ### try: body, several clauses, each with a name or without -/
namespace XT
open PySem PySem.Spec PyProof.Rows L2
/-- a clause: the class, its name's slot (none: no name), the suite's reading by the exception's address, class, dict -/
structure Cl where
  c : Value
  i : Option Nat
  ts : Addr → Value → Option Addr → TS
/-- behind the suite the clause's name is gone -/
def endsOf (i : Option Nat) (D : Ends) : Ends := match i with
  | none => D
  | some i => { nx := fun σ' H' => D.nx (σ'.set i none) H', rt := D.rt, bk := fun σ' H' => D.bk (σ'.set i none) H', ct := fun σ' H' => D.ct (σ'.set i none) H' }
def slotsOf (i : Option Nat) (a : Addr) (σ : L2.St) : L2.St := match i with
  | none => σ
  | some i => σ.set i (some (.ref a))
/-- what the clauses want of an exception of the body -/
def wants (K : PySem.W.Frag) (Wout : WX) (D : Ends) : List Cl → WX
  | [] => Wout
  | k :: r => fun cls d σ H => ∃ b, PySem.W.exmOne K cls k.c = some b ∧ (b = true → ∀ a, H a = none → k.ts a cls d (endsOf k.i D) (slotsOf k.i a σ) H) ∧ (b = false → wants K Wout D r cls d σ H)
inductive Clauses (X : Cx) : List ExceptHandler → List Cl → Prop
  | nil : Clauses X [] []
  | plain {x : Str} {c : Value} {ts : Addr → Value → Option Addr → TS} {b₀ : Stmt} {suite : List Stmt} {np p2 : Pos} {hds : List ExceptHandler} {l : List Cl} (nmd : Names X x c)
      (body : ∀ (a : Addr) (oe : Obj) (cls : Value) (d : Option Addr) (pn : List (Addr × Obj)), Zc cls d oe → (∃ vs, oe.data = .fields vs) → PSs (X.suite a ((a, oe) :: pn)) (b₀ :: suite) (ts a cls d)) (more : Clauses X hds l) :
      Clauses X (.ExceptHandler (some (.Name x np)) none (b₀ :: suite) p2 :: hds) (⟨c, none, ts⟩ :: l)
  | named {x n : Str} {c : Value} {i : Nat} {ts : Addr → Value → Option Addr → TS} {b₀ : Stmt} {suite : List Stmt} {np p2 : Pos} {hds : List ExceptHandler} {l : List Cl} (nmd : Names X x c) (hN : X.N.Nodup) (hi : X.N[i]? = some n) (hl : X.env.kindOf n = some .local)
      (body : ∀ (a : Addr) (oe : Obj) (cls : Value) (d : Option Addr) (pn : List (Addr × Obj)), Zc cls d oe → (∃ vs, oe.data = .fields vs) → PSs (X.suite a ((a, oe) :: pn)) (b₀ :: suite) (ts a cls d)) (more : Clauses X hds l) :
      Clauses X (.ExceptHandler (some (.Name x np)) (some n) (b₀ :: suite) p2 :: hds) (⟨c, some i, ts⟩ :: l)
section
variable {X : Cx} {body : List Stmt} {h₀ : ExceptHandler} {hds : List ExceptHandler} {l : List Cl} {pos : Pos} {tb : WX → TS} {Wout : WX}
theorem ps_try (hs : X.stack = X.env :: X.outer) (hf : X.env.frame = some X.env.locals) (tk : Takes X Wout)
    (hb : ∀ (W : WX) (pn : List (Addr × Obj)) (xe : Value → Shared → Prop), Takes (X.tr pn xe) W → PassesOwn (model X.prog X.w) X.A X.env xe → PSs (X.tr pn xe) body (tb W))
    (hh : Clauses X (h₀ :: hds) l) : PS X (.Try body (h₀ :: hds) [] [] pos) (fun D σ H => tb (wants X.K Wout D l) D σ H) := by
  refine ⟨fun pins s σ H D I h => ?_⟩
  have ok := I.ok
  have fr0 : X.A.frames = some (X.env :: X.outer) := by rw [ok.frames, hs]
  refine wpAny_Try_except ?_
  refine wpAny_mono ((hb (wants X.K Wout D l) (X.pn ++ pins) (fun e s1 => wpAny (model X.prog X.w) X.A (noteFrame e X.env) (fun _ s2 => wpAny (model X.prog X.w) X.A (setFlight e none) (fun _ s3 =>
    wpAny (model X.prog X.w) X.A (handleBy e X.env (h₀ :: hds)) (SP X pins D) X.xe s3) X.xe s2) X.xe s1) (fun u s' xx => ?_) PassesOwn.looking).run [] s σ H D (I.toTry _) h) (fun f s1 hsp => ?_) (fun e s1 he => he)
  · obtain ⟨a, B, sI, pins', σ', H', cls, d, rfl, J', nb, up, sky, na, os, ag, w⟩ := xx
    have J : Inv X pins σ' H' sI := J'.ofTry ok
    have skyX : Sky B (X.env :: X.outer) a (Zc cls d) X.env.locals s'.heap := hs ▸ sky
    show wpAny (model X.prog X.w) X.A (noteFrame (.ref a) X.env) _ _ _
    refine Sky.land Zc.steady fr0 hf skyX fun h3 fl3 up3 => ?_
    have J3 : Inv X pins σ' H' { s' with heap := h3 } := J.landed nb fl3.1 (up.trans up3) os ag
    obtain ⟨oe3, vs3, he3, hz3, hd3⟩ := fl3.there
    have aside : ∀ {h : Heap} {o : Obj} {vs : Array Value}, h.FunFrames B (X.env :: X.outer) → h.get? a = some o → o.data = .fields vs → a ∉ frs (X.env :: X.outer) := fun ff e dd hm => by
      obtain ⟨_, o', e', hnf⟩ := ff.mem hm
      rw [e] at e'
      cases e'
      exact hnf _ dd
    have nfr := aside fl3.2.2.1 he3 hd3
    have nL : a ≠ X.env.locals := fun z => nfr (List.mem_filterMap.mpr ⟨X.env, List.mem_cons_self, by rw [hf, z]⟩)
    have nF : a ∉ X.fs := fun hm => by
      obtain ⟨e, he, q⟩ := List.mem_filterMap.mp hm
      exact nfr (List.mem_filterMap.mpr ⟨e, List.mem_cons_of_mem _ he, q⟩)
    have S3 := J3.suite he3 hd3 na nL nF
    have LT : PySem.W.Looks (model X.prog X.w) h3 (typeOf (.ref a)) cls := fun A Q E s k q => wpAny_typeOf_ref (k _ _ he3) (by rw [hz3.1]; exact q)
    have named_test : ∀ {x : Str} {c : Value} {np : Pos} {Q : Value → Shared → Prop} {E : Value → Shared → Prop}, Names X x c → Q c { s' with heap := h3 } → wpAny (model X.prog X.w) (X.A.mark (some (.ref a))) (eval (.Name x np) X.env) Q E { s' with heap := h3 } := fun {x c np Q E} nmd q => by
      obtain ⟨hg, hdbg, hm | ⟨hm, hv, hnn⟩⟩ := nmd
      · exact ld_glob (X := X.suite a ((a, oe3) :: (X.pn ++ pins))) S3 hg hm q hdbg
      · exact ld_blt (X := X.suite a ((a, oe3) :: (X.pn ++ pins))) S3 hg hm hv q hnn hdbg
    have go : ∀ {hds2 : List ExceptHandler} {l2 : List Cl}, Clauses X hds2 l2 → wants X.K Wout D l2 cls d σ' H' →
        wpAny (model X.prog X.w) X.A (handleBy (.ref a) X.env hds2) (SP X pins D) X.xe { s' with heap := h3 } := by
      intro hds2 l2 hk
      induction hk with
      | nil =>
        intro w
        refine wpAny_handleBy_nil ?_
        obtain ⟨k1, k2, k3, oe, vs, T, oT, ts', he, hz, hd, h1, hr⟩ := id fl3
        unfold PySem.passOn
        refine wpAny_bind (wpAny_field he hd h1 ?_)
        rw [if_neg (show ¬ ((Value.ref T == Value.none) = true) from by simp)]
        have fin : wpAny (model X.prog X.w) X.A (setFlight (.ref a) X.env.frame) (fun _ s4 => wpAny (model X.prog X.w) X.A (throw (.ref a) : Sem Flow) (SP X pins D) X.xe s4) X.xe { s' with heap := h3 } := by
          rw [hf]
          refine HandSPX.setFlight_upZ fl3 fun h4 hh4 up4 => wpAny_throw (tk _ _ ?_)
          exact ⟨a, B, sI, pins, σ', H', cls, d, rfl, J, nb, (up.trans up3).trans up4, .inr (.inr (by rw [hs]; exact hh4)), na, os, ag, w⟩
        first
          | exact wpAny_bind (wpAny_pure (wpAny_bind fin))
          | exact wpAny_bind fin
      | @plain x c ts b₀ suite np p2 hds3 l3 nmd hsu r ih =>
        intro w
        obtain ⟨b, hb1, hyes, hno⟩ := w
        refine wpAny_handleBy_cons (codeAny_handlers_test ?_) (by intro q; cases q)
        refine named_test nmd ((PySem.W.exm_one (M := model X.prog X.w) J3.kIn LT hb1).here ?_)
        cases b with
        | true =>
          refine codeAny_handlers_suite (HandSPX.lands_againZ fl3 fun h4 fl4 up4 => ?_)
          have J4 : Inv X pins σ' H' { s' with heap := h4 } := J.landed nb fl4.1 ((up.trans up3).trans up4) os ag
          obtain ⟨oe4, vs4, he4, hz4, hd4⟩ := fl4.there
          have S4 := J4.suite he4 hd4 na nL nF
          refine wpAny_mono ((hsu a oe4 cls d (X.pn ++ pins) hz4 ⟨_, hd4⟩).run [] _ _ H' _ S4 (hyes rfl a na)) (fun f s6 hsp => ?_) (fun _ _ z => False.elim z)
          cases f with
          | ret u =>
            obtain ⟨v6, σ6, H6, S6, r6, q6⟩ := hsp
            exact ⟨_, _, _, S6.unsuite ok, r6, q6⟩
          | next =>
            obtain ⟨σ6, H6, S6, q6⟩ := hsp
            exact ⟨_, _, S6.unsuite ok, q6⟩
          | brk =>
            obtain ⟨σ6, H6, S6, q6⟩ := hsp
            exact ⟨_, _, S6.unsuite ok, q6⟩
          | cont =>
            obtain ⟨σ6, H6, S6, q6⟩ := hsp
            exact ⟨_, _, S6.unsuite ok, q6⟩
        | false =>
          show wpAny _ X.A (handleBy (.ref a) X.env hds3) _ _ _
          exact ih (hno rfl)
      | @named x n c i ts b₀ suite np p2 hds3 l3 nmd hN hi hln hsu r ih =>
        intro w
        obtain ⟨b, hb1, hyes, hno⟩ := w
        refine wpAny_handleBy_cons (codeAny_handlers_test ?_) (by intro q; cases q)
        refine named_test nmd ((PySem.W.exm_one (M := model X.prog X.w) J3.kIn LT hb1).here ?_)
        cases b with
        | true =>
          refine codeAny_handlers_suite_as (HandSPX.lands_againZ fl3 fun h4 fl4 up4 => ?_)
          have J4 : Inv X pins σ' H' { s' with heap := h4 } := J.landed nb fl4.1 ((up.trans up3).trans up4) os ag
          obtain ⟨oe4, vs4, he4, hz4, hd4⟩ := fl4.there
          have S4 := J4.suite he4 hd4 na nL nF
          refine store_ok (X := X.suite a ((a, oe4) :: (X.pn ++ pins))) (v := .ref a) S4 hN hi (.inl hln) rfl (fun s5 S5 => ?_) (.inr hln)
          refine wpAny_mono ((hsu a oe4 cls d (X.pn ++ pins) hz4 ⟨_, hd4⟩).run [] s5 _ H' _ S5 (hyes rfl a na)) (fun f s6 hsp => ?_) (fun _ _ z => False.elim z)
          have away : ∀ {σ6 : L2.St} {H6 : Hp} {Q : Shared → Prop}, Inv (X.suite a ((a, oe4) :: (X.pn ++ pins))) [] σ6 H6 s6 → (∀ s7, Inv X pins (σ6.set i none) H6 s7 → Q s7) →
              wpAny (model X.prog X.w) X.A (do bindName X.env n .none; unbindBehindTheSuite X.env n p2) (fun _ s7 => Q s7) X.xe s6 := fun {σ6 H6 Q} S6 hq => gone_ok (S6.unsuite ok) hN hi hln hq
          cases f with
          | ret u =>
            obtain ⟨v6, σ6, H6, S6, r6, q6⟩ := hsp
            exact away S6 fun s7 J7 => ⟨_, _, _, J7, r6, q6⟩
          | next =>
            obtain ⟨σ6, H6, S6, q6⟩ := hsp
            exact away S6 fun s7 J7 => ⟨_, _, J7, q6⟩
          | brk =>
            obtain ⟨σ6, H6, S6, q6⟩ := hsp
            exact away S6 fun s7 J7 => ⟨_, _, J7, q6⟩
          | cont =>
            obtain ⟨σ6, H6, S6, q6⟩ := hsp
            exact away S6 fun s7 J7 => ⟨_, _, J7, q6⟩
        | false =>
          show wpAny _ X.A (handleBy (.ref a) X.env hds3) _ _ _
          exact ih (hno rfl)
    exact go hh w
  · cases f with
    | ret u =>
      obtain ⟨v, σ', H', J', r, q⟩ := hsp
      exact ⟨v, σ', H', J'.ofTry ok, r, q⟩
    | next =>
      obtain ⟨σ', H', J', q⟩ := hsp
      exact wpAny_execs_nil ⟨σ', H', J'.ofTry ok, q⟩
    | brk =>
      obtain ⟨σ', H', J', q⟩ := hsp
      exact ⟨σ', H', J'.ofTry ok, q⟩
    | cont =>
      obtain ⟨σ', H', J', q⟩ := hsp
      exact ⟨σ', H', J'.ofTry ok, q⟩
end
/-- an exception of the class at S is what «except S» names; T: another class that is above it or not -/
theorem exm_of {K : PySem.W.Frag} {S T : Addr} {b : Bool} (h1 : PySem.W.subIn K (.ref T) (.type "BaseException") = some true) (h2 : PySem.W.isClsIn K T = true) (h3 : PySem.W.typeIn K (.ref T) = some (.type "type")) (h4 : PySem.W.subIn K (.ref S) (.ref T) = some b) :
    PySem.W.exmOne K (.ref S) (.ref T) = some b := by
  have e1 : (PySem.W.subIn K (.ref T) (.type "BaseException") == some true) = true := by rw [h1] <;> rfl
  have e2 : ((PySem.W.clsIn K T).isSome && PySem.W.typeIn K (.ref T) == some (.type "type")) = true := by
    have h2' : (PySem.W.clsIn K T).isSome = true := h2
    rw [h2', h3] <;> rfl
  show (if (PySem.W.subIn K (.ref T) (.type "BaseException") == some true) = true then (if ((PySem.W.clsIn K T).isSome && PySem.W.typeIn K (.ref T) == some (.type "type")) = true then PySem.W.subIn K (.ref S) (.ref T) else none) else none) = some b
  rw [if_pos e1, if_pos e2]
  exact h4
end XT
/-! ### an own class without __init__, called without arguments; repr of data; a def that may ask what stands in the reprs that run -/
namespace XG
open PySem PySem.Spec PyProof.Rows L2
section
variable {X : Cx} {C : Addr} {bmB : List Value} {B newId initId : String}
/-- X() -/
theorem pmk0 {x : Str} {p pos : Pos} (F : ExcBaseFacts B newId initId bmB) (q : PySem.W.excIn X.K C bmB newId = true) (gC : X.mg x = some (.ref C)) (kC : PySem.W.keepIn X.K (.ref C) = true) (r : Raises X (.ref C)) (hg : Gl X x := by rfl)
    (hdb : (x == ("__debug__" : Str)) = false := by decide) : PMk X (.Call (.Name x p) [] [] pos) (fun _ H Q => Q (.ref C) none H) := by
  intro pins s σ H Q I h
  refine wpAny_Call_Name_kw (ld_glob I hg gC ?_ hdb)
  refine PySem.W.callWith_K0 I.kIn kC ?_
  obtain ⟨bm, N, nm, qn, bs, hdct, sn, sub, ab, col, dd, k0, k1, k2, k3, k5, mN, hC, hN, hni, T⟩ := exc_obj I.kIn q
  refine wpAny_call_exc_subT F T hC hN hni (fun h' e hm => ?_) (Nat.zero_le _)
  exact mk_of I hm r h (I.hok.gone hm.new)
theorem ps_raise0 {x : Str} {W : WX} {p pos pos2 : Pos} (hc : X.calm = true) (tk : Takes X W) (F : ExcBaseFacts B newId initId bmB) (q : PySem.W.excIn X.K C bmB newId = true) (gC : X.mg x = some (.ref C)) (kC : PySem.W.keepIn X.K (.ref C) = true) (r : Raises X (.ref C)) (hg : Gl X x := by rfl)
    (hdb : (x == ("__debug__" : Str)) = false := by decide) : PS X (.Raise (some (.Call (.Name x p) [] [] pos)) none pos2) (fun _ σ H => W (.ref C) none σ H) := ps_raise hc tk (pmk0 F q gC kC r hg hdb)
end
/-! ### repr -/
def rRepr (K : PySem.W.Frag) : List V → Hp → VK → Prop := fun xs H Q => ∃ (a : Addr) (d : PyData), xs = [.ref a] ∧ Dp K H (.ref a) d ∧ d.showable = true ∧ d.hasDict = false ∧ d.depth ≤ 60 ∧ d.shown.length ≤ sizeLine ∧ Q (.str d.shown) H
section
variable {X : Cx}
theorem call_repr (hg : X.A.guards = some []) (hu : X.A.units + 64 < cLine) : CallR X (.builtin "repr") (rRepr X.K) := by
  intro pins s σ H xs us Q I r h
  obtain ⟨a, d, rfl, hd, hs, hnd, hdp, hsz, q⟩ := h
  obtain ⟨u, rfl, ru⟩ := vals1 r
  obtain ⟨as, rd⟩ := Dp.reads I d _ u hd ru
  obtain rfl : u = Value.ref a := ru
  refine repr_of_reads' rd hs (fun e => by rw [hnd] at e; cases e) hg (by omega) (fun _ _ e => e) (fun h' v tk hk => ?_) hsz
  exact ⟨.str d.shown, H, I.kept hk, ⟨_, rfl⟩, q⟩
end
/-! ### a def's promise while no repr runs -/
structure FnG (P : Program) (w : World) (K : PySem.W.Frag) (mg : Str → Option Value) (base : Heap) (CX : CXT) (k : Nat) (f : Addr) (fd : FuncData) (ps : List Str) (sp : Sp) : Prop where
  len : ∀ vs H Q E, sp vs H Q E → vs.length = ps.length
  run : ∀ (A : Around) (outer : List Env) (s : Shared) (H : Hp) (args : Args) (us : List Value) (vs : List V) (Q : VK) (E : XK), A.guards = some [] → Room k A → Env0 P w K mg base A outer s H → BindsTo s fd args (ps.zip us) → Vals vs us → sp vs H Q E →
    codeAny (model P w) A (.call (.ref f) args) (CR CX outer P w H s Q E) s
theorem fnG {CX : CXT} {P : Program} {w : World} {K : PySem.W.Frag} {mg : Str → Option Value} {base : Heap} {k : Nat} {f : Addr} {name qual : Str} {params : Arguments} {body : List Stmt} {scope : Scope} {dV kV doc pm cdv ct oc : Value} {an od : Option Addr}
    {osl : Array (Option Value)} {N ps : List Str} {sp : Sp} (lk : K.lookup f = some ⟨oc, od, .func (PySem.W.fnOf name qual params body scope dV kV doc pm an cdv ct), osl⟩) (hcd : PySem.W.codeIn K cdv qual = true) (S : FnScope N ps scope)
    (len : ∀ vs H Q E, sp vs H Q E → vs.length = ps.length)
    (text : ∀ (A : Around) (outer : List Env) (s : Shared) (H : Hp) (vs : List V) (Q : VK) (E : XK), (A.deeper (envOfC qual scope s.heap.objs.size f cdv)).guards = some [] → Room k (A.deeper (envOfC qual scope s.heap.objs.size f cdv)) → sp vs H Q E →
      ∃ t, PSs (cxOf CX P w K mg base N qual scope f cdv A outer s H E) body t ∧ t { nx := fun _ H' => Q .non H', rt := Q } (start N vs) H) :
    FnG P w K mg base CX (k + 1) f (PySem.W.fnOf name qual params body scope dV kV doc pm an cdv ct) ps sp := by
  refine ⟨len, fun A outer s H args us vs Q E gd hr e0 hb r hsp => ?_⟩
  have hl := len _ _ _ _ hsp
  have KI : K.In s.heap := e0.mod.kin.keeps fun b o e => (e0.bs b o e).1
  have lim : s.heap.NoLimit := e0.mod.nolimit.keeps fun b o e => (e0.bs b o e).1
  have kinds : ∀ y ∈ ps.zip us, scope.names.lookup y.1 = some .local ∨ (scope.names.lookup y.1 = some .cell ∧ ((cellsFrom (s.heap.objs.size + 1) scope.names []).lookup y.1).isSome = true) := fun ⟨n, v⟩ hy => by
    rcases S.par n (List.of_mem_zip hy).1 with q | q
    · exact .inl q
    · exact .inr ⟨q, PySem.W.cellsFrom_some _ _ _ (.inl q)⟩
  refine codeAny_call_function hr.depth (KI _ _ lk) rfl S.co S.gen rfl (PySem.W.codeRec_of KI hcd) (hb _ _ _ _ ?_)
  refine wpAny_newFunctionEnv_cells S.kind kinds fun env he s1 x => ?_
  subst he
  refine ⟨lim.keeps x.toInCall.keep, codeAny_func ?_⟩
  obtain ⟨t, ht, hq⟩ := text A outer s H vs Q E gd (hr.deeper _) hsp
  have I : Inv (cxOf CX P w K mg base N qual scope f cdv A outer s H E) [] (start N vs) H s1 := inv_start S hr.hd e0 hl r x
  refine wpAny_mono (ht.run [] s1 (start N vs) H _ I hq) (fun fl s' hs => ?_) fun e s' hs => hs
  have fin : ∀ {σ' : L2.St} {H' : Hp} {v : V} {u : Value}, Inv (cxOf CX P w K mg base N qual scope f cdv A outer s H E) [] σ' H' s' → RelV v u → Q v H' → CE outer P w H s Q u s' :=
    fun {σ' H' v u} J rv q => ⟨v, H', J.os, J.bare, J.base, J.hok, rv, q⟩
  cases fl with
  | brk =>
    obtain ⟨_, _, _, q⟩ := hs
    exact False.elim q
  | cont =>
    obtain ⟨_, _, _, q⟩ := hs
    exact False.elim q
  | ret u =>
    obtain ⟨v, σ', H', J, rv, q⟩ := hs
    exact fin J rv q
  | next =>
    obtain ⟨σ', H', J, q⟩ := hs
    exact fin (v := V.non) (u := Value.none) J rfl q
/-- as Fun.ok, no repr running -/
theorem okG {P : Program} {w : World} {K : PySem.W.Frag} {mg : Str → Option Value} {base : Heap} {x qual : Str} {st : Stmt} {f : Addr} {fd : FuncData} {N ps : List Str} {k : Nat} {sp : Sp} (F : Fun K x qual st f fd) (S : FnScope N ps (defScope st)) (len : ∀ vs H Q E, sp vs H Q E → vs.length = ps.length)
    (text : ∀ (cdv : Value) (A : Around) (outer : List Env) (s : Shared) (H : Hp) (vs : List V) (Q : VK) (E : XK), (A.deeper (envOfC qual (defScope st) s.heap.objs.size f cdv)).guards = some [] → Room k (A.deeper (envOfC qual (defScope st) s.heap.objs.size f cdv)) → sp vs H Q E →
      ∃ t, PSs (cxOf CX0 P w K mg base N qual (defScope st) f cdv A outer s H E).nox (defBody st) t ∧ t { nx := fun _ H' => Q .non H', rt := Q } (start N vs) H) : FnG P w K mg base CX0 (k + 1) f fd ps sp := by
  obtain ⟨oc, od, kV, doc, pm, an, cdv, ct, osl, rfl, lk, hcd⟩ := F.ex
  refine fnG lk hcd S len fun A outer s H vs Q E gd hr hsp => ?_
  obtain ⟨t, h, q⟩ := text cdv A outer s H vs Q E gd hr hsp
  exact ⟨t, h.nox, q⟩
theorem law_callG {P : Program} {w : World} {K : PySem.W.Frag} {mg mb : Str → Option Value} {k : Nat} {fa a : Addr} {fd : FuncData} {x : Str} {sp : Sp} {s₁ : Shared} {vs : List Value} {ns : List Int}
    (KX : K.In s₁.heap) (hns : s₁.heap.Ns mainGlobals mg) (hb : s₁.heap.Ns builtinsNs mb) (hbb : ∀ x : Str, x ≠ "__name__" → mb x = bootBuiltins x) (hlim : s₁.heap.NoLimit) (hg : s₁.gens = #[])
    (ha : s₁.heap.get? a = some { cls := .type "list", data := .seq vs.toArray }) (hi : IntsAre vs ns) (hl : ns.length ≤ sizeLine) (hr : Room k callerA)
    (F : ∀ base : Heap, K.In base → base.Ns mainGlobals mg → FnG P w K mg base CX0 k fa fd [x] sp) (hbind : ∀ (s : Shared) (u : Value), BindsTo s fd ⟨[u], []⟩ [(x, u)])
    (hsp : ∀ H : Hp, Only H → SqL K H a (ns.map V.int) → sp [.ref a] H (fun v _ => v = .bl true) fun _ _ _ => False) :
    codeAny (model P w) callerA (.call (.ref fa) ⟨[.ref a], []⟩) (fun r s' => r = .ok (.ret (.bool true)) ∧ OldK s₁.heap s'.heap ∧ s'.os = s₁.os ∧ AllBare s'.gens) s₁ := by
  have rv := vals_ints hi
  have lenV := hi.length
  have core : ∀ H : Hp, Only H → SqL K H a (ns.map V.int) → HOk P w H s₁.heap → (∀ b, H b ≠ none → b = a) → (H a ≠ none → K.lookup a = none) →
      codeAny (model P w) callerA (.call (.ref fa) ⟨[.ref a], []⟩) (fun r s' => r = .ok (.ret (.bool true)) ∧ OldK s₁.heap s'.heap ∧ s'.os = s₁.os ∧ AllBare s'.gens) s₁ := by
    intro H hO hS hok hA hK
    have isA : ∀ {b : Addr} {u : HO}, H b = some u → b = a := fun {b u} q => hA b (by rw [q]; simp)
    have noA : ∀ {b : Addr} {o : Obj} {es : Array DictEntry} {ep : Nat}, s₁.heap.get? b = some o → o.data = .dict es ep → H b = none := fun {b o es ep} e d => by
      cases q : H b with
      | none => rfl
      | some u =>
        obtain rfl := isA q
        rw [ha] at e
        cases e
        have d' : Data.seq vs.toArray _ = Data.dict es ep := d
        cases d'
    have nsK : ∀ {b : Addr} {m : Str → Option Value}, s₁.heap.Ns b m → (hidT s₁.heap H).Ns b m := fun {b m} ⟨o, es, ep, e, d, r⟩ => ⟨o, es, ep, hidT_get e (noA e d), d, r⟩
    have hKb : K.In (hidT s₁.heap H) := fun b o e => hidT_get (KX b o e) (by
      cases q : H b with
      | none => rfl
      | some u =>
        obtain rfl := isA q
        rw [hK (by rw [q]; simp)] at e
        cases e)
    have hM : Mod K mg (hidT s₁.heap H) := ⟨hKb, nsK hns, ⟨mb, nsK hb, hbb⟩, let ⟨mc, h1, h2⟩ := hlim; ⟨mc, nsK h1, h2⟩⟩
    have e0 : Env0 P w K mg (hidT s₁.heap H) callerA [] s₁ H := ⟨rfl, hM, fun b o e => of_hidT e, Nat.le_of_eq (hidT_size _ _), trivial, fun b hb => absurd (show b ∈ ([] : List Addr) from hb) (by simp), hok, .of_eq hg⟩
    refine codeAny_mono ((F _ hKb (nsK hns)).run callerA [] s₁ H ⟨[.ref a], []⟩ [.ref a] [.ref a] _ _ rfl hr e0 (hbind s₁ (.ref a)) (.cons rfl .nil) (hsp H hO hS)) fun r s' h => ?_
    cases r with
    | error e => exact False.elim h
    | ok fl =>
      cases fl with
      | next => exact False.elim h
      | brk => exact False.elim h
      | cont => exact False.elim h
      | ret u =>
        obtain ⟨v, H', os, bare, un, hok', r', q⟩ := h
        have q' : v = .bl true := q
        subst q'
        obtain rfl : u = Value.bool true := r'
        refine ⟨rfl, OldK.of_keep fun b o e => ?_, os, bare⟩
        cases q : H b with
        | none => exact un.keep b o e q (by intro z; exact absurd (show b ∈ ([] : List Addr) from z) (by simp)) (by simp)
        | some u =>
          rcases hO b with z | ⟨ob, xs, z⟩
          · rw [q] at z
            cases z
          · obtain ⟨e1, _⟩ := hok b _ z
            obtain ⟨e2, _⟩ := hok' b _ (un.frzs b ob _ z)
            rw [e] at e1
            cases e1
            exact e2
  cases hk : K.lookup a with
  | some o =>
    have e := KX a o hk
    rw [ha] at e
    cases e
    refine core (fun _ => none) (fun _ => .inl rfl) (.inr ⟨_, vs.toArray, _, hk, rfl, rfl, rfl, by rw [List.size_toArray, lenV]; exact hl, by simpa using rv⟩) (fun b u z => by have z' : (none : Option HO) = some u := z; cases z') (fun b z => absurd rfl z) fun z => absurd rfl z
  | none =>
    refine core (fun b => if b = a then some (.frz { cls := .type "list", data := .seq vs.toArray } (.lst (ns.map V.int))) else none) (fun b => ?_) (.inl (.inr ⟨{ cls := .type "list", data := .seq vs.toArray }, if_pos rfl⟩)) (fun b u z => ?_) (fun b z => ?_) fun _ => hk
    · by_cases hb : b = a
      · exact .inr ⟨_, _, if_pos hb⟩
      · exact .inl (if_neg hb)
    · by_cases hb : b = a
      · have z' := (if_pos hb).symm.trans z
        cases z'
        subst hb
        exact ⟨ha, by rw [List.length_map]; exact hl, vs, _, rv, ha⟩
      · have z' := (if_neg hb).symm.trans z
        cases z'
    · by_cases hb : b = a
      · exact hb
      · exact absurd (if_neg hb) z
/-- the goal that the head leaves, from the law's promise while no repr runs -/
theorem walkG {l : PySem.W.OpenLaw} {n k : Nat} {q : Program} {loose : List Str} {XP : (Str → Option Value) → Heap → Prop} {YP : World → Heap → Prop} {d : DefRec} {K : Params → PySem.W.Frag} {sp : PySem.W.Frag → Sp} {x : Str}
    (hn : l.most = some n) (hn2 : n ≤ sizeLine) (hdf : d.params.defaults = []) (hr : Room k callerA)
    (hY : ∀ (w : World) (h : Heap), YP w h → (K w.params).In h)
    (F : ∀ (w : World) (mg : Str → Option Value) (fa : Addr) (h : Heap), (K w.params).In h → h.Ns mainGlobals mg → mg d.name = some (.ref fa) →
      ∃ fd : FuncData, (∀ (s : Shared) (u : Value), BindsTo s fd ⟨[u], []⟩ [(x, u)]) ∧
        ∀ base : Heap, (K w.params).In base → base.Ns mainGlobals mg → FnG l.prog w (K w.params) mg base CX0 k fa fd [x] (sp (K w.params)))
    (hsp : ∀ (K : PySem.W.Frag) (H : Hp) (a : Addr) (ns : List Int), ns.length ≤ n → Only H → SqL K H a (ns.map V.int) → sp K [.ref a] H (fun v _ => v = .bl true) fun _ _ _ => False) :
    PySem.W.WalkO q loose XP YP l.row.toRowW d [] (fun f vs => PySem.call f vs) := by
  refine Att.attach_call hn hdf fun w s₀ s₁ mg mb fa o pm cd doc a vs ns G Y ho hd hcd hmg hobj hints hlen hg => ?_
  have KX := hY w _ Y
  obtain ⟨fd, hb, hF⟩ := F w mg fa _ KX G.T.g hmg
  exact law_callG KX G.T.g G.T.b G.T.builtins G.T.nolimit hg hobj hints (Nat.le_trans hlen hn2) hr hF hb fun H hO hS => hsp _ H a ns hlen hO hS
end XG
/-! ### defs of the module, with what they keep -/
namespace XD
open PySem PySem.Spec PyProof.Rows L2
/-- where a def of the module stands, and that its text is st -/
def At (K : PySem.W.Frag) (mg : Str → Option Value) (x : Str) (st : Stmt) : Prop := ∃ (a : Addr) (fd : FuncData), mg x = some (.ref a) ∧ Fun K x x st a fd
/-- a def of the module that keeps a promise -/
def Def (P : Program) (w : World) (K : PySem.W.Frag) (mg : Str → Option Value) (base : Heap) (CX : CXT) (k : Nat) (x : Str) (ps : List Str) (sp : Sp) : Prop :=
  ∃ (a : Addr) (fd : FuncData), mg x = some (.ref a) ∧ PySem.W.keepIn K (.ref a) = true ∧ Binds K fd ps [] ∧ FnOk P w K mg base CX k a fd ps sp
section
variable {P : Program} {w : World} {K : PySem.W.Frag} {mg : Str → Option Value} {base : Heap} {CX : CXT} {k : Nat} {x : Str} {ps : List Str} {sp : Sp} {st : Stmt}
theorem mk (h : At K mg x st) (hb : ∀ a fd, Fun K x x st a fd → Binds K fd ps []) (ok : ∀ a fd, Fun K x x st a fd → FnOk P w K mg base CX k a fd ps sp) : Def P w K mg base CX k x ps sp := by
  obtain ⟨a, fd, g, F⟩ := h
  exact ⟨a, fd, g, F.kp, hb a fd F, ok a fd F⟩
theorem Def.mono {j : Nat} (D : Def P w K mg base CX j x ps sp) (h : j ≤ k) : Def P w K mg base CX k x ps sp := by
  obtain ⟨a, fd, g, kp, b, G⟩ := D
  exact ⟨a, fd, g, kp, b, G.mono h⟩
end
section
variable {X : Cx} {CX : CXT} {k : Nat} {x : Str} {ps : List Str} {sp : Sp} {E : XK} {ES : L2.St → XK} {e : Expr} {es : List Expr} {t : TA} {p pos : Pos}
theorem pe_callD (D : Def X.prog X.w X.K X.mg X.base CX k x ps sp) (hr : Room k X.A) (hx : Passes CX X E) (ha : PA X (e :: es) t) (hg : Gl X x := by rfl) (hdb : (x == ("__debug__" : Str)) = false := by decide)
    (he : starEach (e :: es) X.env = (false, eval e X.env) :: starEach es X.env := by rfl) (hpl : (backTo pos (starEach es X.env)).any (·.1) = false := by rfl) : PE X (.Call (.Name x p) (e :: es) [] pos) (tCall sp [] E t) := by
  obtain ⟨a, fd, g, kp, b, G⟩ := D
  exact pe_call G hr hg g kp b .nil hx ha hdb he hpl
theorem pe_callD0 (D : Def X.prog X.w X.K X.mg X.base CX k x ps sp) (hr : Room k X.A) (hx : Passes CX X E) (hg : Gl X x := by rfl) (hdb : (x == ("__debug__" : Str)) = false := by decide) : PE X (.Call (.Name x p) [] [] pos) (tCall sp [] E tNil) := by
  obtain ⟨a, fd, g, kp, b, G⟩ := D
  exact pe_call0 G hr hg g kp b .nil hx hdb
theorem pe_callDS (D : Def X.prog X.w X.K X.mg X.base CX k x ps sp) (hr : Room k X.A) (hx : ∀ σ, PassesAt CX X σ (ES σ)) (ha : PA X (e :: es) t) (hg : Gl X x := by rfl) (hdb : (x == ("__debug__" : Str)) = false := by decide)
    (he : starEach (e :: es) X.env = (false, eval e X.env) :: starEach es X.env := by rfl) (hpl : (backTo pos (starEach es X.env)).any (·.1) = false := by rfl) : PE X (.Call (.Name x p) (e :: es) [] pos) (tCallS sp ES t) := by
  obtain ⟨a, fd, g, kp, b, G⟩ := D
  exact pe_callS G hr hg g kp b hx ha hdb he hpl
end
end XD
/-! ### X(FLD = v): an exception made by a keyword -/
namespace PySem
namespace XK
open PySem.W PySem.Calls PyProof.Rows PySem.HandSPX
section
variable {prog : Program} {w : World} {M : Model} {A : Around} {E : Value → Shared → Prop} {R : Result → Shared → Prop} {h : Heap} {g : Array GenState} {d : Drawn} {t : Nat} {os : OsState}
variable {nm q : Str} {C N : Addr} {bs bm bmB : List Value} {hdct : Bool} {sn : List Str} {sub : List Value} {ab : Bool} {col : Option Bool} {dd : Option Addr} {k0 k1 k2 k3 k5 : Option Value} {B newId initId : String} {kw : List (Str × Value)}
theorem check_newK (F : ExcBaseFacts B newId initId bmB) (hT : ∀ X : String, bm.contains (.type X) = bmB.contains (.type X)) {Q : Unit → Shared → Prop}
    (hC : h.get? C = some (excClassObj nm q C N bs bm hdct sn sub ab col dd k0 k1 k2 k3 k5 newId)) (hq : Q () ⟨h, g, d, t, os⟩) : wpAny M A (checkBuiltinCall newId ⟨[.ref C], kw⟩) Q E ⟨h, g, d, t, os⟩ := by
  have hasC : (Value.ref C :: bm).contains (.type B) = true := by rw [List.contains_cons, hT, F.hasB, Bool.or_true]
  have star := F.noStar
  have anyOk : ∀ (a b : String) (n : Nat), Bind.check ⟨.any, B, B, .cls, [⟨"args", .varPos, false⟩, ⟨"kwargs", .varKw, false⟩]⟩ a b n (kw.map (·.1)) = pure () := fun a b n => by
    unfold Bind.check
    rfl
  simp only [checkBuiltinCall, F.newKind, F.newSplit, F.newRow]
  repeat (first | refine wpAny_loadPart_at hC ?_ | (refine wpAny_isSubtype_exc hC ?_; rw [hasC]) | refine wpAny_staticBase_exc hC ?_ | refine wpAny_madeBy_exc hC ?_ | simp only [bne_self_eq_false, Bool.false_eq_true, if_false] | rw [anyOk] | wp_step)
  all_goals exact hq
theorem newK (F : ExcBaseFacts B newId initId bmB) (hT : ∀ X : String, bm.contains (.type X) = bmB.contains (.type X))
    (hC : h.get? C = some (excClassObj nm q C N bs bm hdct sn sub ab col dd k0 k1 k2 k3 k5 newId))
    (hq : R (.ok (.ret (.ref (h.objs.size + 1)))) ⟨(h.push (W.kdv_tup [])).push (excO C h.objs.size), g, d, t, os⟩) :
    codeAny (model prog w) A (.builtin newId ⟨[.ref C], kw⟩) R ⟨h, g, d, t, os⟩ := by
  have ends := F.ends
  have cB : (Value.ref C :: bm).contains (.type B) = true := by rw [List.contains_cons, hT, F.hasB, Bool.or_true]
  have cA : (Value.ref C :: bm).contains (.type "AttributeError") = false := by rw [List.contains_cons, hT, F.noAttr]; rfl
  have cN : (Value.ref C :: bm).contains (.type "NameError") = false := by rw [List.contains_cons, hT, F.noName]; rfl
  refine codeAny_builtinAt F.entry ?_
  unfold Builtin.«BaseException.__new__»
  refine wpAt_bind ?_
  show wpAt _ _ _ (stack >>= _) _ _ _
  refine wpAt_bind (wpAt_stack fun p below => wpAt_of_wpAny ?_)
  wp_walk
  refine wpAt_of_wpAny ?_
  rw [F.owner]
  have noR : ([] : List Value).length ≤ sizeLine := Nat.zero_le _
  repeat (first | with_reducible refine wpAny_madeHere_exc F.canon hC ?_ | with_reducible refine wpAny_loadPart_at hC ?_ | (with_reducible refine wpAny_isSubtype_exc hC ?_; first | rw [cB] | rw [cA] | rw [cN]) | wp_step)
  show R _ _
  rw [Heap.size_push]
  exact hq
theorem type_callK (F : ExcBaseFacts B newId initId bmB) (hT : ∀ X : String, bm.contains (.type X) = bmB.contains (.type X)) {fI : Addr} {Q : Fin → Shared → Prop}
    (hC : h.get? C = some (excClassObj nm q C N bs bm hdct sn sub ab col dd k0 k1 k2 k3 k5 newId))
    (hi : W.Looks (model prog w) h (typeLookup (.ref C) "__init__") (some (.ref fI))) (hb : ∀ self, W.Looks (model prog w) h (bindSpecial (.ref fI) self) (.ref fI, [self]))
    (hq : codeAny (model prog w) A (.call (.ref fI) ⟨[.ref (h.objs.size + 1)], kw⟩)
      (fun r s' => match r with | .ok (.ret v) => v = .none ∧ Q (.done (.ret (.ref (h.objs.size + 1)))) s' | .ok _ => False | .error e => E e s')
      ⟨(h.push (W.kdv_tup [])).push (excO C h.objs.size), g, d, t, os⟩) :
    wpAny (model prog w) A (Builtin.«type.__call__» ⟨[.ref C], kw⟩) Q E ⟨h, g, d, t, os⟩ := by
  repeat (first | with_reducible refine wpAny_loadPart_at hC ?_ | with_reducible refine wpAny_madeBy_exc hC ?_ | wp_step)
  refine codeAny_call_builtin_code (Code.quiet_builtin _ F.quiet) (check_newK F hT hC ?_)
  refine newK F hT hC ?_
  show wpAny _ _ _ _ _ _
  have kp : ∀ b o, h.get? b = some o → ((h.push (W.kdv_tup [])).push (excO C h.objs.size)).get? b = some o := fun b o e => Heap.get?_push_of_some _ (Heap.get?_push_of_some _ e)
  have hC1 := kp _ _ hC
  have gotten : ((h.push (W.kdv_tup [])).push (excO C h.objs.size)).get? (h.objs.size + 1) = some (excO C h.objs.size) := by heap_get
  have hcC : (Value.ref C :: bm).contains (.ref C) = true := by simp
  have i1 := hi.keeps kp
  have b1 := (hb (.ref (h.objs.size + 1))).keeps kp
  unfold isInstance
  repeat (first | with_reducible refine wpAny_loadPart_at gotten ?_ | (with_reducible refine wpAny_isSubtype_exc hC1 ?_; rw [hcC]) | wp_step)
  show wpAny _ _ (typeLookup (.ref C) _) _ _ _
  refine i1.at ?_
  refine wpAny_holding (wpAny_bind (b1.at ?_))
  refine wpAny_bind (wpAny_call (codeAny_mono hq fun r s' z => ?_))
  rcases r with e | (v | _ | _ | _) <;> first | exact z | exact z.elim | skip
  obtain ⟨rfl, z⟩ := z
  first
    | exact wpAny_pure (wpAny_pure z)
    | (wp_walk; exact z)
theorem callK (F : ExcBaseFacts B newId initId bmB) (hT : ∀ X : String, bm.contains (.type X) = bmB.contains (.type X)) {fI : Addr}
    (hC : h.get? C = some (excClassObj nm q C N bs bm hdct sn sub ab col dd k0 k1 k2 k3 k5 newId))
    (hi : W.Looks (model prog w) h (typeLookup (.ref C) "__init__") (some (.ref fI))) (hb : ∀ self, W.Looks (model prog w) h (bindSpecial (.ref fI) self) (.ref fI, [self]))
    (hq : codeAny (model prog w) (A.under (.builtin "type.__call__" ⟨[.ref C], kw⟩)) (.call (.ref fI) ⟨[.ref (h.objs.size + 1)], kw⟩) (W.InitBack (h.objs.size + 1) R)
      ⟨(h.push (W.kdv_tup [])).push (excO C h.objs.size), g, d, t, os⟩) :
    codeAny (model prog w) A (.call (.ref C) ⟨[], kw⟩) R ⟨h, g, d, t, os⟩ := by
  have f1 := tc_lookup
  have f2 := tc_bind (.ref C)
  have hTy : (⟨h, g, d, t, os⟩ : Shared).TypeIs (.ref C) "type" := ⟨_, hC, rfl⟩
  refine codeAny_of_tree ?_
  show wpAny _ _ (callAny (.ref C) _) _ _ _
  repeat (any_goals (first | assumption | with_reducible refine wpAny_loadPart_at hC ?_ | wp_step))
  refine ⟨rfl, ?_⟩
  refine codeAny_call_builtin_at (Code.quiet_builtin _ (by decide +kernel)) entry_typeCall (wpAny_check_type_call_sub hC (type_callK F hT hC hi hb ?_))
  refine codeAny_mono hq fun r s' z => ?_
  rcases r with e | (v | _ | _ | _) <;> exact z
end
end XK
end PySem
namespace PySem
namespace XCat
open PySem.W PySem.Calls PyProof.Rows PySem.HandSPX
section
variable {prog : Program} {w : World} {A : Around} {E : Value → Shared → Prop} {R : Result → Shared → Prop} {s : Shared} {K : Frag} {C fI : Addr}
theorem run_initK (T : Txt K C fI) {x t0 : Addr} {v : Value} (KI : K.In s.heap) (lim : s.heap.NoLimit) (atx : s.heap.get? x = some (excO C t0)) (room : A.depth < recursionLimit)
    (done : ∀ h' tk dx, (∀ b o, b ≠ x → s.heap.get? b = some o → h'.get? b = some o) → h'.get? x = some { cls := .ref C, dict := some dx, data := .fields #[.ref t0, .none, .none, .none, .bool false, .none] } →
      s.heap.objs.size ≤ dx → dx ≠ x → h'.Ns1 dx (fun y => if y = "at" then some v else none) → R (.ok (.ret .none)) { s with heap := h', toks := tk }) :
    codeAny (model prog w) A (.call (.ref fI) ⟨[.ref x], [("at", v)]⟩) R s := by
  obtain ⟨q, oc, od, doc, pm, an, cdv, ct, osl, p1, p2, q1, q2, q3, q4, lkf, hcd⟩ := T.fn
  refine Att.call_fn (binds := [("self", .ref x), ("at", v)]) KI lim lkf hcd room (BindsTo.of_eq (by first | rfl | with_unfolding_all rfl)) (by first | rfl | decide | with_unfolding_all rfl) (fun s₁ IC => ?_) rfl rfl rfl
  obtain ⟨h₁, tk₁, rfl⟩ := IC.toInCall.same
  have kp : ∀ b o, s.heap.get? b = some o → h₁.get? b = some o := IC.toInCall.keep
  have nsL := IC.toInCall.ns
  have K1 : K.In h₁ := KI.keeps kp
  have at1 := kp _ _ atx
  show wpAny _ _ (execs _ _) _ _ _
  refine wpAny_execs_cons (plainObj_wpAny_Assign_Attribute ?_)
  refine read_local (v := v) nsL (by first | rfl | with_unfolding_all rfl | kernel_rfl) (read_local (v := .ref x) nsL (by first | rfl | with_unfolding_all rfl | kernel_rfl) ?_)
  refine set_plain K1 (ox := excO C t0) (od := none) ⟨at1, rfl, rfl, trivial⟩ T.sa ?_
  refine XC.field_first K1 at1 T.ov T.hdC T.tkr (fun h₃ tk₃ dx k₃ dn dne at3 ns3 => ?_)
  show wpAny _ _ (execs _ _) _ _ _
  have z : s.heap.objs.size < h₁.objs.size := nsL.lt
  exact wpAny_execs_nil (done h₃ tk₃ dx (fun b o nb e => k₃ b o nb (kp b o e)) at3 (Nat.le_of_lt (Nat.lt_of_lt_of_le z dn)) dne ns3)
theorem run_makeK (T : Txt K C fI) {v : Value} (KI : K.In s.heap) (lim : s.heap.NoLimit) (room : A.depth + 1 < recursionLimit)
    (done : ∀ h' tk e d, Made s.heap h' e C d v → R (.ok (.ret (.ref e))) { s with heap := h', toks := tk }) :
    codeAny (model prog w) A (.call (.ref C) ⟨[], [("at", v)]⟩) R s := by
  obtain ⟨nm, N, qn, bs, bm, hdct, sn, sub, ab, col, dd, k0, k1, k2, k3, k5, hC, hT⟩ := excInit_of KI T.ini
  obtain ⟨hp, g, dr, tk, os⟩ := s
  have kp : ∀ b o, hp.get? b = some o → ((hp.push (kdv_tup [])).push (excO C hp.objs.size)).get? b = some o := fun b o e => Heap.get?_push_of_some _ (Heap.get?_push_of_some _ e)
  have hget : ((hp.push (kdv_tup [])).push (excO C hp.objs.size)).get? (hp.objs.size + 1) = some (excO C hp.objs.size) := by heap_get
  refine XK.callK F.excBase_Exception hT hC (looks_findIn KI T.iC) (fun self => bind_fn KI self T.tI) ?_
  refine run_initK (s := ⟨(hp.push (kdv_tup [])).push (excO C hp.objs.size), g, dr, tk, os⟩) T (KI.keeps kp) (lim.keeps kp) hget ?_ fun h' tk' dx k' atx dn dne nsx => ?_
  · show A.depth + 1 < recursionLimit
    exact room
  · have old : ∀ b o, hp.get? b = some o → h'.get? b = some o := fun b o e => k' b o (Nat.ne_of_lt (Nat.lt_succ_of_lt (Heap.lt_size e))) (kp b o e)
    have z : hp.objs.size + 1 + 1 ≤ dx := by
      first
        | (simpa only [Heap.size_push] using dn)
        | (have q := dn; rw [Heap.size_push, Heap.size_push] at q; exact q)
    exact ⟨rfl, done h' tk' (hp.objs.size + 1) dx ⟨old, Nat.le_succ _, ⟨_, _, atx, rfl, rfl, rfl, rfl⟩, Nat.le_trans (Nat.le_trans (Nat.le_succ _) (Nat.le_succ _)) z, dne, nsx⟩⟩
end
end XCat
end PySem
namespace XCat
open PySem PySem.Spec PyProof.Rows L2
/-- X(at=e).at -/
def tKw (tk : TA) : TE := fun σ H Q => tk σ H fun zs H1 => ∃ v, zs = [v] ∧ Q v H1
theorem pe_kw {X : Cx} {C fI : Addr} {x : Str} {kw : Keyword} {tk : TA} {p p2 pos : Pos} {k : Nat} (T : PySem.XCat.Txt X.K C fI) (gC : X.mg x = some (.ref C)) (hr : Room k X.A) (hkw : PK X [kw] tk) (hg : Gl X x := by rfl) (hdb : (x == ("__debug__" : Str)) = false := by decide)
    (hall : (backToKw p2 (keywordEach [kw] X.env)).all (·.1.isSome) = true := by rfl) (hks : (backToKw p2 (keywordEach [kw] X.env)).filterMap (·.1) = [("at" : Str)] := by rfl)
    (hpl : ((backTo p2 (starEach [] X.env)).any (·.1) || (backToKw p2 (keywordEach [kw] X.env)).any (·.1.isNone)) = false := by rfl)
    (hb : attributeBase (.Call (.Name x p) [] [kw] p2) "at" X.env (eval (.Call (.Name x p) [] [kw] p2) X.env) = eval (.Call (.Name x p) [] [kw] p2) X.env := by rfl) :
    PE X (.Attribute (.Call (.Name x p) [] [kw] p2) "at" pos) (tKw tk) := by
  refine ⟨fun pins s σ H Q I h => ?_⟩
  refine attr_of hb ?_
  refine wpAny_Call_Name_kw (ld_glob I hg gC ?_ hdb)
  refine PySem.W.callWith_KW0 (h₀ := X.base) I.ok.mod.kin T.kC hall (thn (hkw.run p2 pins s σ H _ I h) fun ws s2 hh => ?_) hpl
  obtain ⟨zs, H2, I2, rz, v, ev, q2⟩ := hh
  refine ⟨I2.kIn, ?_⟩
  subst ev
  cases rz with
  | cons rv rn =>
    rename_i v' us'
    cases rn
    rw [hks]
    show wpAny _ _ (call (.ref C) [] [(("at" : Str), v')]) _ _ _
    have hlim := I2.nolimit
    obtain ⟨hp, g, dr, tk, os⟩ := s2
    refine wpAny_call (PySem.XCat.run_makeK T I2.kIn hlim (by have := hr.dp; omega) fun h' tk' e d M => ?_)
    show wpAny _ _ (getAttr (.ref e) "at" true) _ _ _
    obtain ⟨oe, fv, hoe, hc, hd, hdat, h1⟩ := M.obj
    have J : Inv X pins σ H2 ⟨h', g, dr, tk', os⟩ := I2.kept (t' := tk') M.keep
    obtain ⟨od, ho, hl⟩ := lookIn_ns M.ns
    have JJ : PySem.W.InstAt h' e oe C (some od) := ⟨hoe, hc, by unfold PySem.W.notCls; rw [hdat] <;> rfl, by rw [hd]; exact ho⟩
    exact HandSPX.exc_get J.kIn JJ T.ga T.gg T.exC (PySem.W.findObj_own T.hdC T.noF rfl (by rw [hl, if_pos rfl])) (handed_of rv) ⟨v, H2, J.tok _, rv, q2⟩
end XCat
namespace PySem
namespace XCword
open PySem.W PySem.Calls PyProof.Rows PySem.HandSPX
section
variable {prog : Program} {w : World} {A : Around} {E : Value → Shared → Prop} {R : Result → Shared → Prop} {s : Shared} {K : Frag} {C fI : Addr}
theorem run_initK (T : Txt K C fI) {x t0 : Addr} {v : Value} (KI : K.In s.heap) (lim : s.heap.NoLimit) (atx : s.heap.get? x = some (excO C t0)) (room : A.depth < recursionLimit)
    (done : ∀ h' tk dx, (∀ b o, b ≠ x → s.heap.get? b = some o → h'.get? b = some o) → h'.get? x = some { cls := .ref C, dict := some dx, data := .fields #[.ref t0, .none, .none, .none, .bool false, .none] } →
      s.heap.objs.size ≤ dx → dx ≠ x → h'.Ns1 dx (fun y => if y = "word" then some v else none) → R (.ok (.ret .none)) { s with heap := h', toks := tk }) :
    codeAny (model prog w) A (.call (.ref fI) ⟨[.ref x], [("word", v)]⟩) R s := by
  obtain ⟨q, oc, od, doc, pm, an, cdv, ct, osl, p1, p2, q1, q2, q3, q4, lkf, hcd⟩ := T.fn
  refine Att.call_fn (binds := [("self", .ref x), ("word", v)]) KI lim lkf hcd room (BindsTo.of_eq (by first | rfl | with_unfolding_all rfl)) (by first | rfl | decide | with_unfolding_all rfl) (fun s₁ IC => ?_) rfl rfl rfl
  obtain ⟨h₁, tk₁, rfl⟩ := IC.toInCall.same
  have kp : ∀ b o, s.heap.get? b = some o → h₁.get? b = some o := IC.toInCall.keep
  have nsL := IC.toInCall.ns
  have K1 : K.In h₁ := KI.keeps kp
  have at1 := kp _ _ atx
  show wpAny _ _ (execs _ _) _ _ _
  refine wpAny_execs_cons (plainObj_wpAny_Assign_Attribute ?_)
  refine read_local (v := v) nsL (by first | rfl | with_unfolding_all rfl | kernel_rfl) (read_local (v := .ref x) nsL (by first | rfl | with_unfolding_all rfl | kernel_rfl) ?_)
  refine set_plain K1 (ox := excO C t0) (od := none) ⟨at1, rfl, rfl, trivial⟩ T.sa ?_
  refine XC.field_first K1 at1 T.ov T.hdC T.tkr (fun h₃ tk₃ dx k₃ dn dne at3 ns3 => ?_)
  show wpAny _ _ (execs _ _) _ _ _
  have z : s.heap.objs.size < h₁.objs.size := nsL.lt
  exact wpAny_execs_nil (done h₃ tk₃ dx (fun b o nb e => k₃ b o nb (kp b o e)) at3 (Nat.le_of_lt (Nat.lt_of_lt_of_le z dn)) dne ns3)
theorem run_makeK (T : Txt K C fI) {v : Value} (KI : K.In s.heap) (lim : s.heap.NoLimit) (room : A.depth + 1 < recursionLimit)
    (done : ∀ h' tk e d, Made s.heap h' e C d v → R (.ok (.ret (.ref e))) { s with heap := h', toks := tk }) :
    codeAny (model prog w) A (.call (.ref C) ⟨[], [("word", v)]⟩) R s := by
  obtain ⟨nm, N, qn, bs, bm, hdct, sn, sub, ab, col, dd, k0, k1, k2, k3, k5, hC, hT⟩ := excInit_of KI T.ini
  obtain ⟨hp, g, dr, tk, os⟩ := s
  have kp : ∀ b o, hp.get? b = some o → ((hp.push (kdv_tup [])).push (excO C hp.objs.size)).get? b = some o := fun b o e => Heap.get?_push_of_some _ (Heap.get?_push_of_some _ e)
  have hget : ((hp.push (kdv_tup [])).push (excO C hp.objs.size)).get? (hp.objs.size + 1) = some (excO C hp.objs.size) := by heap_get
  refine XK.callK F.excBase_Exception hT hC (looks_findIn KI T.iC) (fun self => bind_fn KI self T.tI) ?_
  refine run_initK (s := ⟨(hp.push (kdv_tup [])).push (excO C hp.objs.size), g, dr, tk, os⟩) T (KI.keeps kp) (lim.keeps kp) hget ?_ fun h' tk' dx k' atx dn dne nsx => ?_
  · show A.depth + 1 < recursionLimit
    exact room
  · have old : ∀ b o, hp.get? b = some o → h'.get? b = some o := fun b o e => k' b o (Nat.ne_of_lt (Nat.lt_succ_of_lt (Heap.lt_size e))) (kp b o e)
    have z : hp.objs.size + 1 + 1 ≤ dx := by
      first
        | (simpa only [Heap.size_push] using dn)
        | (have q := dn; rw [Heap.size_push, Heap.size_push] at q; exact q)
    exact ⟨rfl, done h' tk' (hp.objs.size + 1) dx ⟨old, Nat.le_succ _, ⟨_, _, atx, rfl, rfl, rfl, rfl⟩, Nat.le_trans (Nat.le_trans (Nat.le_succ _) (Nat.le_succ _)) z, dne, nsx⟩⟩
end
end XCword
end PySem
namespace XCword
open PySem PySem.Spec PyProof.Rows L2
/-- X(word=e).word -/
def tKw (tk : TA) : TE := fun σ H Q => tk σ H fun zs H1 => ∃ v, zs = [v] ∧ Q v H1
theorem pe_kw {X : Cx} {C fI : Addr} {x : Str} {kw : Keyword} {tk : TA} {p p2 pos : Pos} {k : Nat} (T : PySem.XCword.Txt X.K C fI) (gC : X.mg x = some (.ref C)) (hr : Room k X.A) (hkw : PK X [kw] tk) (hg : Gl X x := by rfl) (hdb : (x == ("__debug__" : Str)) = false := by decide)
    (hall : (backToKw p2 (keywordEach [kw] X.env)).all (·.1.isSome) = true := by rfl) (hks : (backToKw p2 (keywordEach [kw] X.env)).filterMap (·.1) = [("word" : Str)] := by rfl)
    (hpl : ((backTo p2 (starEach [] X.env)).any (·.1) || (backToKw p2 (keywordEach [kw] X.env)).any (·.1.isNone)) = false := by rfl)
    (hb : attributeBase (.Call (.Name x p) [] [kw] p2) "word" X.env (eval (.Call (.Name x p) [] [kw] p2) X.env) = eval (.Call (.Name x p) [] [kw] p2) X.env := by rfl) :
    PE X (.Attribute (.Call (.Name x p) [] [kw] p2) "word" pos) (tKw tk) := by
  refine ⟨fun pins s σ H Q I h => ?_⟩
  refine attr_of hb ?_
  refine wpAny_Call_Name_kw (ld_glob I hg gC ?_ hdb)
  refine PySem.W.callWith_KW0 (h₀ := X.base) I.ok.mod.kin T.kC hall (thn (hkw.run p2 pins s σ H _ I h) fun ws s2 hh => ?_) hpl
  obtain ⟨zs, H2, I2, rz, v, ev, q2⟩ := hh
  refine ⟨I2.kIn, ?_⟩
  subst ev
  cases rz with
  | cons rv rn =>
    rename_i v' us'
    cases rn
    rw [hks]
    show wpAny _ _ (call (.ref C) [] [(("word" : Str), v')]) _ _ _
    have hlim := I2.nolimit
    obtain ⟨hp, g, dr, tk, os⟩ := s2
    refine wpAny_call (PySem.XCword.run_makeK T I2.kIn hlim (by have := hr.dp; omega) fun h' tk' e d M => ?_)
    show wpAny _ _ (getAttr (.ref e) "word" true) _ _ _
    obtain ⟨oe, fv, hoe, hc, hd, hdat, h1⟩ := M.obj
    have J : Inv X pins σ H2 ⟨h', g, dr, tk', os⟩ := I2.kept (t' := tk') M.keep
    obtain ⟨od, ho, hl⟩ := lookIn_ns M.ns
    have JJ : PySem.W.InstAt h' e oe C (some od) := ⟨hoe, hc, by unfold PySem.W.notCls; rw [hdat] <;> rfl, by rw [hd]; exact ho⟩
    exact HandSPX.exc_get J.kIn JJ T.ga T.gg T.exC (PySem.W.findObj_own T.hdC T.noF rfl (by rw [hl, if_pos rfl])) (handed_of rv) ⟨v, H2, J.tok _, rv, q2⟩
end XCword
namespace K00
open PySem PySem.Spec PyProof.Rows L2
def topS (i : Nat) : Stmt := PySem.Challenge.pw_forgetwhen_k00_whole_errors_and_what_the.main.body.getD i (.Pass ⟨0, 0, 0, 0⟩)
/-! ### the law's draws: a list of three ints; a digit below a number; one of a list -/
section
variable {P : Program} {w : World} {K : PySem.W.Frag} {mg : Str → Option Value} {base : Heap}
theorem same_upd {H : Hp} {p : Addr} {o : HO} (h : H p = none) : Same H (upd H p o) := fun b x e => by
  rw [upd_ne (ne_of_none e h)]
  exact e
theorem ite_eq_t {i j : Int} {A B : Prop} (h : i = j) (a : A) : if decide (V.int i = V.int j) = true then A else B := by
  rw [h, decide_eq_true rfl]
  exact iteT a
theorem ite_eq_f {i j : Int} {A B : Prop} (h : i ≠ j) (b : B) : if decide (V.int i = V.int j) = true then A else B := by
  rw [decide_eq_false (fun q => h (V.int.inj q))]
  exact iteF b
theorem ite_d_t {p : Prop} [Decidable p] {A B : Prop} (h : p) (a : A) : if decide p = true then A else B := by
  rw [decide_eq_true h]
  exact iteT a
theorem ite_d_f {p : Prop} [Decidable p] {A B : Prop} (h : ¬ p) (b : B) : if decide p = true then A else B := by
  rw [decide_eq_false h]
  exact iteF b
theorem atI_two (b : Bool) (x y : V) : atI [x, y] (if b = true then 1 else 0) = some (if b = true then y else x) := by
  cases b <;> rfl
theorem atI_ex {xs : List V} {i : Int} (h0 : 0 ≤ i) (h1 : i < xs.length) : ∃ v, atI xs i = some v ∧ v ∈ xs := by
  obtain ⟨j, rfl⟩ : ∃ j : Nat, i = (j : Int) := ⟨i.toNat, by omega⟩
  have hj : j < xs.length := by omega
  exact ⟨xs[j], atI_nat (List.getElem?_eq_getElem hj), List.getElem_mem hj⟩
/-- a box of three ints stands at b -/
def BoxAt (H : Hp) (b : Addr) : Prop := ∃ x y z : Int, H b = some (.lst [.int x, .int y, .int z])
/-- all but the box at b is as it was -/
def But (b : Addr) (H H' : Hp) : Prop := ∀ c o, c ≠ b → H c = some o → H' c = some o
theorem But.trans {b : Addr} {H H1 H2 : Hp} (h1 : But b H H1) (h2 : But b H1 H2) : But b H H2 := fun c o n e => h2 c o n (h1 c o n e)
theorem But.of {b : Addr} {H H' : Hp} (h : Same H H') : But b H H' := fun c o _ e => h c o e
theorem But.upd {b : Addr} {H : Hp} {o : HO} : But b H (upd H b o) := fun c u n e => by
  rw [upd_ne n]
  exact e
def spTake : Sp := fun vs H Q _ => ∃ (b : Addr) (m : Int), vs = [.ref b, .int m] ∧ BoxAt H b ∧ 0 < m ∧ m.natAbs.log2 < 9000 ∧ ∀ (r : Int) (H' : Hp), 0 ≤ r → r < m → BoxAt H' b → But b H H' → (∀ c, H c = none → H' c = none) → Q (.int r) H'
def spPick (K : PySem.W.Frag) : Sp := fun vs H Q _ => ∃ (b l : Addr) (xs : List V), vs = [.ref b, .ref l] ∧ BoxAt H b ∧ H l = some (.lst xs) ∧ l ≠ b ∧ 0 < xs.length ∧ xs.length < 1000 ∧ ∀ (v : V) (H' : Hp), v ∈ xs → BoxAt H' b → But b H H' → (∀ c, H c = none → H' c = none) → Q v H'
def spBox (K : PySem.W.Frag) : Sp := fun vs H Q _ => ∃ (a : Addr) (ns : List Int) (k : Nat), vs = [.ref a, .int k] ∧ SqL K H a (ns.map V.int) ∧ ∀ (b : Addr) (H' : Hp), H b = none → Same H H' → BoxAt H' b → Q (.ref b) H'
abbrev s_law_box : Stmt := topS 31
theorem sc_law_box : FnScope ["script", "k", "cell"] ["script", "k"] (defScope s_law_box) := ⟨rfl, rfl, rfl, by decide +kernel, rfl, by decide +kernel, by decide +kernel⟩
abbrev s_law_take : Stmt := topS 32
theorem sc_law_take : FnScope ["box", "many", "digit", "raw"] ["box", "many"] (defScope s_law_take) := ⟨rfl, rfl, rfl, by decide +kernel, rfl, by decide +kernel, by decide +kernel⟩
abbrev s_law_pick : Stmt := topS 33
theorem sc_law_pick : FnScope ["box", "some"] ["box", "some"] (defScope s_law_pick) := ⟨rfl, rfl, rfl, by decide +kernel, rfl, by decide +kernel, by decide +kernel⟩
structure TxtBox (K : PySem.W.Frag) (mg : Str → Option Value) : Prop where
  a_box : XD.At K mg "_law_box" s_law_box
  a_take : XD.At K mg "_law_take" s_law_take
  a_pick : XD.At K mg "_law_pick" s_law_pick
  no_len : mg "len" = none
  no_abs : mg "abs" = none
  no_int : mg "int" = none
theorem d_take (T : TxtBox K mg) : XD.Def P w K mg base CX0 1 "_law_take" ["box", "many"] spTake := by
  refine XD.mk T.a_take (fun a fd F => F.binds (ps := ["box", "many"]) fun _ _ _ _ _ _ us hl => match us, hl with | [_, _], _ => rfl) fun a fd F => ?_
  refine F.ok sc_law_take (fun vs H Q E h => ?_) (fun cdv A outer s H vs Q E hr h => ?_)
  · obtain ⟨b, m, rfl, _⟩ := h
    rfl
  · obtain ⟨b, m, rfl, ⟨x, y, z, hb⟩, h0, hm, q⟩ := h
    refine ⟨_, (pss_cons (ps_if (pt_cmpR op_gt (pe_ix ix_list (pv 0) pe_int (fun _ _ => rfl)) pe_int (nomark _)) (pss_cons (ps_set (i := 2) sc_law_take.nd rfl (Or.inl rfl) (pe_op op_mod (pe_callTy call_int1 (by rfl) T.no_int (by decide +kernel) (pa_cons (pe_ix ix_list (pv 0) pe_int (fun _ _ => rfl)) pa_nil)) (pv 1)))
  (pss_cons (ps_asg (pe_op op_fdivW (pe_ix ix_list (pv 0) pe_int (fun _ _ => rfl)) (pv 1)) (pg_sub (pv 0) pe_int set_list))
  (pss_one (ps_ret (pv 2))))) pss_nil)
  (pss_cons (ps_asg (pe_op op_add (pe_ix ix_list (pv 0) pe_int (fun _ _ => rfl)) pe_int) (pg_sub (pv 0) pe_int set_list))
  (pss_cons (ps_set (i := 3) sc_law_take.nd rfl (Or.inl rfl) (pe_op op_mod (pe_callTy call_int1 (by rfl) T.no_int (by decide +kernel) (pa_cons (pe_op op_add (pe_op op_mul (pe_op op_add (pe_ix ix_list (pv 0) pe_int (fun _ _ => rfl)) (pe_op op_mul pe_int (pe_ix ix_list (pv 0) pe_int (fun _ _ => rfl)))) pe_int) pe_int) pa_nil)) pe_int))
  (pss_cons (ps_asg (pe_op op_add (pe_op op_mod (pe_callTy call_int1 (by rfl) T.no_int (by decide +kernel) (pa_cons (pe_op op_add (pe_op op_mul (pv 3) pe_int) pe_int) pa_nil)) pe_int) pe_int) (pg_sub (pv 0) pe_int set_list))
  (pss_one (ps_ret (pe_op op_mod (pe_callTy call_int1 (by rfl) T.no_int (by decide +kernel) (pa_cons (pe_op op_fdivW (pe_op op_add (pe_op op_mul (pv 3) pe_int) (pe_ix ix_list (pv 0) pe_int (fun _ _ => rfl))) pe_int) pa_nil)) (pv 1)))))))), ?_⟩
    have sq : ∀ {H' : Hp} {xs : List V}, H' b = some (.lst xs) → SqL K H' b xs := fun e => SqL.of e
    refine ⟨_, rfl, b, _, 0, .int x, rfl, rfl, sq hb, rfl, _, _, rfl, rfl, _, rfl, ?_⟩
    by_cases c : (0 : Int) < x
    · refine ite_d_t c ?_
      refine ⟨_, rfl, b, _, 0, .int x, rfl, rfl, sq hb, rfl, .inl ⟨_, rfl, _, rfl, _, _, rfl, rfl, h0, ?_⟩⟩
      refine ⟨_, rfl, b, _, 0, .int x, rfl, rfl, sq hb, rfl, _, rfl, _, _, rfl, rfl, ⟨h0, hm⟩, ?_⟩
      refine ⟨_, rfl, b, _, _, 0, rfl, rfl, hb, rfl, ?_⟩
      refine ⟨_, rfl, q _ _ (Int.emod_nonneg _ (by omega)) (Int.emod_lt_of_pos _ h0) ⟨_, _, _, upd_same⟩ But.upd fun c e => ?_⟩
      rw [upd_ne (fun z => by rw [z, hb] at e; cases e)]
      exact e
    · refine ite_d_f c ?_
      refine ⟨_, rfl, b, _, 2, .int z, rfl, rfl, sq hb, rfl, _, _, rfl, rfl, _, rfl, b, _, _, 2, rfl, rfl, hb, rfl, ?_⟩
      refine ⟨_, rfl, b, _, 1, .int y, rfl, rfl, sq upd_same, rfl, _, rfl, b, _, 2, .int (z + 1), rfl, rfl, sq upd_same, rfl, _, _, rfl, rfl, .inl ⟨by decide, by decide⟩, _, _, rfl, rfl, _, _, rfl, rfl, .inr ⟨by decide, by decide⟩, _, _, rfl, rfl, .inl ⟨_, rfl, _, _, rfl, rfl, (by show (0 : Int) < _; decide), ?_⟩⟩
      refine ⟨_, rfl, _, _, rfl, rfl, .inr ⟨by decide, by decide⟩, _, _, rfl, rfl, .inl ⟨_, rfl, _, _, rfl, rfl, (by show (0 : Int) < _; decide), _, _, rfl, rfl, _, rfl, b, _, _, 1, rfl, rfl, upd_same, rfl, ?_⟩⟩
      refine ⟨_, rfl, _, _, rfl, rfl, .inr ⟨by decide, by decide⟩, _, rfl, b, _, 1, _, rfl, rfl, sq upd_same, rfl, _, _, rfl, rfl, _, _, rfl, rfl, wide_div (by decide) (b := 13) (by decide) (by decide) (by decide), .inl ⟨_, rfl, _, rfl, _, _, rfl, rfl, h0, ?_⟩⟩
      refine q _ _ (Int.emod_nonneg _ (by omega)) (Int.emod_lt_of_pos _ h0) ⟨_, _, _, upd_same⟩ (But.trans But.upd But.upd) fun c e => ?_
      have n : c ≠ b := fun z => by
        rw [z, hb] at e
        cases e
      rw [upd_ne n, upd_ne n]
      exact e
theorem d_pick (T : TxtBox K mg) : XD.Def P w K mg base CX0 2 "_law_pick" ["box", "some"] (spPick K) := by
  refine XD.mk T.a_pick (fun a fd F => F.binds (ps := ["box", "some"]) fun _ _ _ _ _ _ us hl => match us, hl with | [_, _], _ => rfl) fun a fd F => ?_
  have D_law_take : XD.Def P w K mg base CX0 1 "_law_take" ["box", "many"] spTake := d_take T
  refine F.ok sc_law_pick (fun vs H Q E h => ?_) (fun cdv A outer s H vs Q E hr h => ?_)
  · obtain ⟨b, l, xs, rfl, _⟩ := h
    rfl
  · obtain ⟨b, l, xs, rfl, hb, hl, nlb, h0, h1, q⟩ := h
    refine ⟨_, (pss_one (ps_ret (pe_ix ix_list (pv 1) (XD.pe_callD D_law_take (hr.mono (by decide)) pass0 (pa_cons (pv 0) (pa_cons (pe_callB call_len_seq (by rfl) T.no_len (by decide +kernel) (pa_cons (pv 1) pa_nil)) pa_nil))) (fun _ _ => rfl)))), ?_⟩
    refine ⟨_, rfl, _, rfl, _, rfl, l, xs, rfl, .inl (SqL.of hl), b, _, rfl, hb, by omega, ?_, fun r H' r0 r1 hb' bt fr => ?_⟩
    · have : xs.length.log2 < 10 := PySem.Flt.log2_lt_of (by decide) (show xs.length < 2 ^ 10 by omega)
      exact Nat.lt_of_lt_of_le this (by decide)
    · obtain ⟨v, hv, mv⟩ := atI_ex r0 r1
      exact ⟨l, xs, r, v, rfl, rfl, SqL.of (bt l _ nlb hl), hv, q v H' mv hb' bt fr⟩
theorem d_box (T : TxtBox K mg) : XD.Def P w K mg base CX0 1 "_law_box" ["script", "k"] (spBox K) := by
  refine XD.mk T.a_box (fun a fd F => F.binds (ps := ["script", "k"]) fun _ _ _ _ _ _ us hl => match us, hl with | [_, _], _ => rfl) fun a fd F => ?_
  refine F.ok sc_law_box (fun vs H Q E h => ?_) (fun cdv A outer s H vs Q E hr h => ?_)
  · obtain ⟨a, ns, k, rfl, _⟩ := h
    rfl
  · obtain ⟨a, ns, k, rfl, hS, q⟩ := h
    refine ⟨_, (pss_cons (ps_set (i := 2) sc_law_box.nd rfl (Or.inl rfl) (pe_op op_add (pe_op op_mul pe_int (pv 1)) pe_int))
  (Evl.pss_cut (ps_if (pt_cmpR op_lt (pv 1) (pe_callB call_len_seq (by rfl) T.no_len (by decide +kernel) (pa_cons (pv 0) pa_nil)) (nomark _)) (pss_one (ps_set (i := 2) sc_law_box.nd rfl (Or.inl rfl) (pe_callB call_abs (by rfl) T.no_abs (by decide +kernel) (pa_cons (pe_ix ix_list (pv 0) (pv 1) (fun _ _ => rfl)) pa_nil)))) (pss_one (ps_if (pt_cmpR op_gt (pe_callB call_len_seq (by rfl) T.no_len (by decide +kernel) (pa_cons (pv 0) pa_nil)) pe_int (nomark _)) (pss_one (ps_set (i := 2) sc_law_box.nd rfl (Or.inl rfl) (pe_op op_add (pv 2) (pe_op op_mul (pe_op op_mod (pe_callTy call_int1 (by rfl) T.no_int (by decide +kernel) (pa_cons (pe_callB call_abs (by rfl) T.no_abs (by decide +kernel) (pa_cons (pe_ix ix_list (pv 0) (pe_op op_mod (pe_callTy call_int1 (by rfl) T.no_int (by decide +kernel) (pa_cons (pv 1) pa_nil)) (pe_callB call_len_seq (by rfl) T.no_len (by decide +kernel) (pa_cons (pv 0) pa_nil))) (fun _ _ => rfl)) pa_nil)) pa_nil)) pe_int) pe_int)))) pss_nil)))
  (pss_one (ps_ret (pe_lst (pa_cons (pe_ix ix_list (pe_lst (pa_cons pe_int (pa_cons (pv 2) pa_nil))) (pe_callTy call_int1 (by rfl) T.no_int (by decide +kernel) (pa_cons (pe_cmpR op_ge (pv 2) (pe_op op_pow pe_int pe_int) (nomark _)) pa_nil)) (fun _ _ => rfl)) (pa_cons (pe_op op_add (pe_op op_mod (pe_callTy call_int1 (by rfl) T.no_int (by decide +kernel) (pa_cons (pe_op op_add (pe_op op_mul (pe_op op_mod (pe_callTy call_int1 (by rfl) T.no_int (by decide +kernel) (pa_cons (pv 2) pa_nil)) pe_int) pe_int) (pe_op op_mul pe_int (pv 1))) pa_nil)) pe_int) pe_int) (pa_cons pe_int pa_nil)))))))), ?_⟩
    refine ⟨_, rfl, _, _, rfl, rfl, .inl ⟨by decide, by decide⟩, _, _, rfl, rfl, ?_⟩
    refine ⟨fun σ' H' => H' = H ∧ ∃ c : Int, σ' = [some (.ref a), some (.int (k : Int)), some (.int c)], ?_, ?_⟩
    · -- the cell
      refine ⟨_, rfl, _, rfl, a, _, rfl, .inl hS, _, _, rfl, rfl, _, rfl, ?_⟩
      by_cases c : (k : Int) < ((ns.map V.int).length : Nat)
      · refine ite_d_t c ?_
        have hk : k < ns.length := by
          rw [List.length_map] at c
          omega
        have g : (ns.map V.int)[k]? = some (.int ns[k]) := by
          rw [List.getElem?_map, List.getElem?_eq_getElem hk]
          rfl
        exact ⟨_, rfl, _, rfl, a, _, _, _, rfl, rfl, hS, atI_nat g, _, rfl, rfl, _, rfl⟩
      · refine ite_d_f c ?_
        refine ⟨_, rfl, a, _, rfl, .inl hS, _, _, rfl, rfl, _, rfl, ?_⟩
        by_cases z : (0 : Int) < ((ns.map V.int).length : Nat)
        · refine ite_d_t z ?_
          have hz : 0 < ns.length := by
            rw [List.length_map] at z
            omega
          have m0 : (0 : Int) ≤ (k : Int) % ((ns.map V.int).length : Nat) := Int.emod_nonneg _ (by omega)
          have m1 : (k : Int) % ((ns.map V.int).length : Nat) < ((ns.map V.int).length : Nat) := Int.emod_lt_of_pos _ z
          obtain ⟨v, hv, mv⟩ := atI_ex m0 m1
          obtain ⟨i, _, rfl⟩ := List.mem_map.mp mv
          refine ⟨_, rfl, _, rfl, _, rfl, .inl ⟨_, rfl, _, rfl, a, _, rfl, .inl hS, _, _, rfl, rfl, z, a, _, _, _, rfl, rfl, hS, hv, _, rfl, .inl ⟨_, rfl, _, _, rfl, rfl, (by show (0 : Int) < _; decide), _, _, rfl, rfl, .inr ⟨by decide, by decide⟩, _, _, rfl, rfl, rfl, _, rfl⟩⟩⟩
        · exact ite_d_f z ⟨rfl, _, rfl⟩
    · -- the list
      rintro σ' H' ⟨rfl, c, rfl⟩
      refine ⟨_, rfl, (by show 2 ≤ sizeLine; decide), fun l hl => ?_⟩
      refine ⟨_, rfl, _, _, rfl, rfl, ⟨by decide, by decide, by decide⟩, _, _, rfl, rfl, .inr ⟨_, rfl, l, _, _, _, rfl, rfl, SqL.of upd_same, atI_two _ _ _, ?_⟩⟩
      refine ⟨_, rfl, .inl ⟨_, rfl, _, _, rfl, rfl, (by show (0 : Int) < _; decide), _, _, rfl, rfl, .inr ⟨by decide, by decide⟩, _, rfl, _, _, rfl, rfl, .inl ⟨by decide, by decide⟩, _, _, rfl, rfl, .inl ⟨_, rfl, _, _, rfl, rfl, (by show (0 : Int) < _; decide), _, _, rfl, rfl, (by show 3 ≤ sizeLine; decide), fun b hb => ?_⟩⟩⟩
      have hlb : H' b = none := (same_upd hl).free hb
      refine q b _ hlb ((same_upd hl).trans (same_upd hb)) ?_
      cases hd : decide ((10 : Int) ^ (18 : Int).toNat ≤ c) with
      | true => exact ⟨_, _, _, by rw [upd_same]; first | rfl | (simp only [hd]; rfl)⟩
      | false => exact ⟨_, _, _, by rw [upd_same]; first | rfl | (simp only [hd]; rfl)⟩
end
end K00
/-! ### what the top has written, told by few looks -/
namespace XE
open PySem PySem.Spec PyProof.Rows L2
section
variable {K : PySem.W.Frag} {h : Heap} {mg : Str → Option Value}
theorem at_mk {x : Str} {st : Stmt} {f : Addr} {oc kV doc pm cdv ct : Value} {od an : Option Addr} {sl : Array (Option Value)} (X : K.In h) (G : h.Ns mainGlobals mg) (a : PySem.W.nsIn K mainGlobals x = some (some (.ref f)))
    (l : K.lookup f = some ⟨oc, od, .func (PySem.W.fnOf x x (defArgs st) (defBody st) (defScope st) .none kV doc pm an cdv ct), sl⟩) (c : PySem.W.codeIn K cdv x = true) (k : PySem.W.keepIn K (.ref f) = true) : XD.At K mg x st :=
  ⟨f, _, PySem.W.mg_of X G a, fun_mk l c k⟩
/-- all of a class whose __init__ keeps one field, but the text of this __init__ -/
def good (K : PySem.W.Frag) (fld : Str) (C fI : Addr) : Bool :=
  PySem.W.excInitIn K C PySem.XC.tailE "Exception.__new__" && PySem.W.excOver K C PySem.XC.tailE && (PySem.W.findIn K (.ref C) "__setattr__" == some (some (.builtin "object.__setattr__"))) &&
  (PySem.W.findIn K (.ref C) "__getattribute__" == some (some (.builtin "BaseException.__getattribute__"))) && (PySem.W.findIn K (.ref C) "__getattr__" == some none) && (PySem.W.findIn K (.ref C) fld == some none) &&
  (PySem.W.takerIn K C fld == some none) && (PySem.W.findIn K (.ref C) "__init__" == some (some (.ref fI))) && (PySem.W.typeIn K (.ref fI) == some (.type "function")) && PySem.W.keepIn K (.ref C) &&
  (PySem.W.subIn K (.ref C) (.type "BaseException") == some true) && (PySem.W.typeIn K (.ref C) == some (.type "type")) && PySem.W.hasDictIn K C
theorem at_of {C fI : Addr} {q : Str} {oc doc pm cdv ct : Value} {od an : Option Addr} {sl : Array (Option Value)} {p1 p2 q1 q2 q3 q4 : Pos} (g : good K "at" C fI = true)
    (l : K.lookup fI = some ⟨oc, od, .func (PySem.W.fnOf "__init__" q (PySem.XCat.aI p1 p2) (PySem.XCat.bI q1 q2 q3 q4) PySem.XCat.sI .none .none doc pm an cdv ct), sl⟩) (c : PySem.W.codeIn K cdv q = true) : PySem.XCat.Txt K C fI := by
  unfold good at g
  simp only [Bool.and_eq_true, beq_iff_eq] at g
  obtain ⟨⟨⟨⟨⟨⟨⟨⟨⟨⟨⟨⟨g1, g2⟩, g3⟩, g4⟩, g5⟩, g6⟩, g7⟩, g8⟩, g9⟩, g10⟩, g11⟩, g12⟩, g13⟩ := g
  exact ⟨g1, g2, g3, g4, g5, g6, g7, g8, g9, g10, g11, g12, g13, ⟨_, _, _, _, _, _, _, _, _, _, _, _, _, _, _, l, c⟩⟩
theorem word_of {C fI : Addr} {q : Str} {oc doc pm cdv ct : Value} {od an : Option Addr} {sl : Array (Option Value)} {p1 p2 q1 q2 q3 q4 : Pos} (g : good K "word" C fI = true)
    (l : K.lookup fI = some ⟨oc, od, .func (PySem.W.fnOf "__init__" q (PySem.XCword.aI p1 p2) (PySem.XCword.bI q1 q2 q3 q4) PySem.XCword.sI .none .none doc pm an cdv ct), sl⟩) (c : PySem.W.codeIn K cdv q = true) : PySem.XCword.Txt K C fI := by
  unfold good at g
  simp only [Bool.and_eq_true, beq_iff_eq] at g
  obtain ⟨⟨⟨⟨⟨⟨⟨⟨⟨⟨⟨⟨g1, g2⟩, g3⟩, g4⟩, g5⟩, g6⟩, g7⟩, g8⟩, g9⟩, g10⟩, g11⟩, g12⟩, g13⟩ := g
  exact ⟨g1, g2, g3, g4, g5, g6, g7, g8, g9, g10, g11, g12, g13, ⟨_, _, _, _, _, _, _, _, _, _, _, _, _, _, _, l, c⟩⟩
/-- which class's errors which clause takes: each its own alone -/
def apart (K : PySem.W.Frag) (L : List Addr) : Bool := (List.range L.length).all fun n => (List.range L.length).all fun m => PySem.W.exmOne K (.ref (L.getD n 0)) (.ref (L.getD m 0)) == some (decide (n = m))
theorem apart_at {L : List Addr} (h : apart K L = true) {n m : Nat} (hn : n < L.length) (hm : m < L.length) : PySem.W.exmOne K (.ref (L.getD n 0)) (.ref (L.getD m 0)) = some (decide (n = m)) := by
  have h1 := List.all_eq_true.mp h n (List.mem_range.mpr hn)
  have h2 := List.all_eq_true.mp h1 m (List.mem_range.mpr hm)
  exact beq_iff_eq.mp h2
def below (K : PySem.W.Frag) (L : List Addr) (b : Addr) : Bool := (List.range L.length).all fun n => PySem.W.exmOne K (.ref (L.getD n 0)) (.ref b) == some true
theorem below_at {L : List Addr} {b : Addr} (h : below K L b = true) {n : Nat} (hn : n < L.length) : PySem.W.exmOne K (.ref (L.getD n 0)) (.ref b) = some true := beq_iff_eq.mp (List.all_eq_true.mp h n (List.mem_range.mpr hn))
theorem with_at {p : Prop} (x : Str) (st : Stmt) {f : Addr} {oc kV doc pm cdv ct : Value} {od an : Option Addr} {sl : Array (Option Value)} (X : K.In h) (G : h.Ns mainGlobals mg) (a : PySem.W.nsIn K mainGlobals x = some (some (.ref f)))
    (l : K.lookup f = some ⟨oc, od, .func (PySem.W.fnOf x x (defArgs st) (defBody st) (defScope st) .none kV doc pm an cdv ct), sl⟩) (c : PySem.W.codeIn K cdv x = true) (k : PySem.W.keepIn K (.ref f) = true) (r : XD.At K mg x st → p) : p := r (at_mk X G a l c k)
theorem with_none {p : Prop} (x : Str) (X : K.In h) (G : h.Ns mainGlobals mg) (a : PySem.W.nsIn K mainGlobals x = some none) (r : mg x = none → p) : p := r (PySem.W.mg_none_of X G a)
theorem with_cls {p : Prop} (x : Str) {C : Addr} (X : K.In h) (G : h.Ns mainGlobals mg) (a : PySem.W.nsIn K mainGlobals x = some (some (.ref C))) (r : mg x = some (.ref C) → p) : p := r (PySem.W.mg_of X G a)
theorem with_xat {p : Prop} (x : Str) {C fI : Addr} {q : Str} {oc doc pm cdv ct : Value} {od an : Option Addr} {sl : Array (Option Value)} {p1 p2 q1 q2 q3 q4 : Pos} (X : K.In h) (G : h.Ns mainGlobals mg) (a : PySem.W.nsIn K mainGlobals x = some (some (.ref C)))
    (i : PySem.W.findIn K (.ref C) "__init__" = some (some (.ref fI)))
    (l : K.lookup fI = some ⟨oc, od, .func (PySem.W.fnOf "__init__" q (PySem.XCat.aI p1 p2) (PySem.XCat.bI q1 q2 q3 q4) PySem.XCat.sI .none .none doc pm an cdv ct), sl⟩) (c : PySem.W.codeIn K cdv q = true) (g : good K "at" C fI = true)
    (r : PySem.XCat.Txt K C fI → mg x = some (.ref C) → p) : p := r (at_of g l c) (PySem.W.mg_of X G a)
theorem with_xword {p : Prop} (x : Str) {C fI : Addr} {q : Str} {oc doc pm cdv ct : Value} {od an : Option Addr} {sl : Array (Option Value)} {p1 p2 q1 q2 q3 q4 : Pos} (X : K.In h) (G : h.Ns mainGlobals mg) (a : PySem.W.nsIn K mainGlobals x = some (some (.ref C)))
    (i : PySem.W.findIn K (.ref C) "__init__" = some (some (.ref fI)))
    (l : K.lookup fI = some ⟨oc, od, .func (PySem.W.fnOf "__init__" q (PySem.XCword.aI p1 p2) (PySem.XCword.bI q1 q2 q3 q4) PySem.XCword.sI .none .none doc pm an cdv ct), sl⟩) (c : PySem.W.codeIn K cdv q = true) (g : good K "word" C fI = true)
    (r : PySem.XCword.Txt K C fI → mg x = some (.ref C) → p) : p := r (word_of g l c) (PySem.W.mg_of X G a)
theorem with_true {p : Prop} (b : Bool) (e : b = true) (r : b = true → p) : p := r e
theorem law_mk {P : Program} {w : World} {st : Stmt} {k : Nat} {sp : Sp} {fa f : Addr} {oc kV doc pm cdv ct : Value} {od an : Option Addr} {sl : Array (Option Value)} (X : K.In h) (G : h.Ns mainGlobals mg) (hfa : mg "law" = some (.ref fa)) (a : PySem.W.nsIn K mainGlobals "law" = some (some (.ref f)))
    (l : K.lookup f = some ⟨oc, od, .func (PySem.W.fnOf "law" "law" (defArgs st) (defBody st) (defScope st) .none kV doc pm an cdv ct), sl⟩) (c : PySem.W.codeIn K cdv "law" = true) (kk : PySem.W.keepIn K (.ref f) = true)
    (hb : ∀ (s : Shared) (u : Value), BindsTo s (PySem.W.fnOf "law" "law" (defArgs st) (defBody st) (defScope st) .none kV doc pm an cdv ct) ⟨[u], []⟩ [("script", u)])
    (ok : ∀ (base : Heap) (fd : FuncData), Fun K "law" "law" st fa fd → XG.FnG P w K mg base CX0 k fa fd ["script"] sp) :
    ∃ fd : FuncData, (∀ (s : Shared) (u : Value), BindsTo s fd ⟨[u], []⟩ [("script", u)]) ∧ ∀ base : Heap, K.In base → base.Ns mainGlobals mg → XG.FnG P w K mg base CX0 k fa fd ["script"] sp := by
  have e := hfa.symm.trans (PySem.W.mg_of X G a)
  cases e
  exact ⟨_, hb, fun base _ _ => ok base _ (fun_mk l c kk)⟩
end
end XE
namespace K00
open PySem PySem.Spec PyProof.Rows L2
abbrev s_law_raise_a : Stmt := topS 34
theorem sc_law_raise_a : FnScope ["number", "thing"] ["number", "thing"] (defScope s_law_raise_a) := ⟨rfl, rfl, rfl, by decide +kernel, rfl, by decide +kernel, by decide +kernel⟩
abbrev s_law_raise_b : Stmt := topS 35
theorem sc_law_raise_b : FnScope ["number", "thing"] ["number", "thing"] (defScope s_law_raise_b) := ⟨rfl, rfl, rfl, by decide +kernel, rfl, by decide +kernel, by decide +kernel⟩
abbrev s_law_raise_c : Stmt := topS 36
theorem sc_law_raise_c : FnScope ["number", "thing"] ["number", "thing"] (defScope s_law_raise_c) := ⟨rfl, rfl, rfl, by decide +kernel, rfl, by decide +kernel, by decide +kernel⟩
abbrev s_law_raise_d : Stmt := topS 37
theorem sc_law_raise_d : FnScope ["number", "thing"] ["number", "thing"] (defScope s_law_raise_d) := ⟨rfl, rfl, rfl, by decide +kernel, rfl, by decide +kernel, by decide +kernel⟩
abbrev s_law_raise : Stmt := topS 38
theorem sc_law_raise : FnScope ["number", "thing"] ["number", "thing"] (defScope s_law_raise) := ⟨rfl, rfl, rfl, by decide +kernel, rfl, by decide +kernel, by decide +kernel⟩
abbrev s_law_caught_a : Stmt := topS 39
theorem sc_law_caught_a : FnScope ["number", "thing", "e"] ["number", "thing"] (defScope s_law_caught_a) := ⟨rfl, rfl, rfl, by decide +kernel, rfl, by decide +kernel, by decide +kernel⟩
abbrev s_law_caught_b : Stmt := topS 40
theorem sc_law_caught_b : FnScope ["number", "thing", "e"] ["number", "thing"] (defScope s_law_caught_b) := ⟨rfl, rfl, rfl, by decide +kernel, rfl, by decide +kernel, by decide +kernel⟩
abbrev s_law_caught_c : Stmt := topS 41
theorem sc_law_caught_c : FnScope ["number", "thing", "e"] ["number", "thing"] (defScope s_law_caught_c) := ⟨rfl, rfl, rfl, by decide +kernel, rfl, by decide +kernel, by decide +kernel⟩
abbrev s_law_caught_d : Stmt := topS 42
theorem sc_law_caught_d : FnScope ["number", "thing", "e"] ["number", "thing"] (defScope s_law_caught_d) := ⟨rfl, rfl, rfl, by decide +kernel, rfl, by decide +kernel, by decide +kernel⟩
abbrev s_law_is_base : Stmt := topS 43
theorem sc_law_is_base : FnScope ["number", "thing"] ["number", "thing"] (defScope s_law_is_base) := ⟨rfl, rfl, rfl, by decide +kernel, rfl, by decide +kernel, by decide +kernel⟩
abbrev s_law : Stmt := topS 44
theorem sc_law : FnScope ["script", "box", "number", "thing", "kept"] ["script"] (defScope s_law) := ⟨rfl, rfl, rfl, by decide +kernel, rfl, by decide +kernel, by decide +kernel⟩
/-- what the top has written: cs the classes in their order, fs their __init__, cb TwinError -/
structure Txt (K : PySem.W.Frag) (mg : Str → Option Value) (cs fs : Nat → Addr) (cb : Addr) : Prop where
  box : TxtBox K mg
  InvalidText : PySem.XCat.Txt K (cs 0) (fs 0)
  g_InvalidText : mg "InvalidText" = some (.ref (cs 0))
  InvalidMachine : PySem.XCat.Txt K (cs 1) (fs 1)
  g_InvalidMachine : mg "InvalidMachine" = some (.ref (cs 1))
  InvalidLate : PySem.XCat.Txt K (cs 2) (fs 2)
  g_InvalidLate : mg "InvalidLate" = some (.ref (cs 2))
  InvalidWord : PySem.XCat.Txt K (cs 3) (fs 3)
  g_InvalidWord : mg "InvalidWord" = some (.ref (cs 3))
  InvalidKind : PySem.XCat.Txt K (cs 4) (fs 4)
  g_InvalidKind : mg "InvalidKind" = some (.ref (cs 4))
  InvalidState : PySem.XCat.Txt K (cs 5) (fs 5)
  g_InvalidState : mg "InvalidState" = some (.ref (cs 5))
  InvalidMap : PySem.XCat.Txt K (cs 6) (fs 6)
  g_InvalidMap : mg "InvalidMap" = some (.ref (cs 6))
  InvalidStory : PySem.XCat.Txt K (cs 7) (fs 7)
  g_InvalidStory : mg "InvalidStory" = some (.ref (cs 7))
  InvalidMoment : PySem.XCat.Txt K (cs 8) (fs 8)
  g_InvalidMoment : mg "InvalidMoment" = some (.ref (cs 8))
  InvalidPlaces : PySem.XCat.Txt K (cs 9) (fs 9)
  g_InvalidPlaces : mg "InvalidPlaces" = some (.ref (cs 9))
  InvalidTwin : PySem.XCat.Txt K (cs 10) (fs 10)
  g_InvalidTwin : mg "InvalidTwin" = some (.ref (cs 10))
  InvalidItems : PySem.XCat.Txt K (cs 11) (fs 11)
  g_InvalidItems : mg "InvalidItems" = some (.ref (cs 11))
  InvalidPaper : PySem.XCat.Txt K (cs 12) (fs 12)
  g_InvalidPaper : mg "InvalidPaper" = some (.ref (cs 12))
  InvalidLateness : PySem.XCat.Txt K (cs 13) (fs 13)
  g_InvalidLateness : mg "InvalidLateness" = some (.ref (cs 13))
  InvalidGone : PySem.XCat.Txt K (cs 14) (fs 14)
  g_InvalidGone : mg "InvalidGone" = some (.ref (cs 14))
  InvalidLot : PySem.XCat.Txt K (cs 15) (fs 15)
  g_InvalidLot : mg "InvalidLot" = some (.ref (cs 15))
  InvalidPanel : PySem.XCat.Txt K (cs 16) (fs 16)
  g_InvalidPanel : mg "InvalidPanel" = some (.ref (cs 16))
  InvalidPlant : PySem.XCat.Txt K (cs 17) (fs 17)
  g_InvalidPlant : mg "InvalidPlant" = some (.ref (cs 17))
  InvalidLetter : PySem.XCat.Txt K (cs 18) (fs 18)
  g_InvalidLetter : mg "InvalidLetter" = some (.ref (cs 18))
  InvalidMarks : PySem.XCat.Txt K (cs 19) (fs 19)
  g_InvalidMarks : mg "InvalidMarks" = some (.ref (cs 19))
  InvalidReadings : PySem.XCat.Txt K (cs 20) (fs 20)
  g_InvalidReadings : mg "InvalidReadings" = some (.ref (cs 20))
  InvalidRoom : PySem.XCat.Txt K (cs 21) (fs 21)
  g_InvalidRoom : mg "InvalidRoom" = some (.ref (cs 21))
  InvalidDeed : PySem.XCat.Txt K (cs 22) (fs 22)
  g_InvalidDeed : mg "InvalidDeed" = some (.ref (cs 22))
  InvalidAsked : PySem.XCat.Txt K (cs 23) (fs 23)
  g_InvalidAsked : mg "InvalidAsked" = some (.ref (cs 23))
  InvalidIndex : PySem.XCat.Txt K (cs 24) (fs 24)
  g_InvalidIndex : mg "InvalidIndex" = some (.ref (cs 24))
  Refused : PySem.XCat.Txt K (cs 25) (fs 25)
  g_Refused : mg "Refused" = some (.ref (cs 25))
  InvalidSize : PySem.XCword.Txt K (cs 26) (fs 26)
  g_InvalidSize : mg "InvalidSize" = some (.ref (cs 26))
  InvalidCommand_q : PySem.W.excIn K (cs 27) PySem.XC.tailE "Exception.__new__" = true
  InvalidCommand_k : PySem.W.keepIn K (.ref (cs 27)) = true
  InvalidCommand_s : PySem.W.subIn K (.ref (cs 27)) (.type "BaseException") = some true
  InvalidCommand_t : PySem.W.typeIn K (.ref (cs 27)) = some (.type "type")
  g_InvalidCommand : mg "InvalidCommand" = some (.ref (cs 27))
  g_TwinError : mg "TwinError" = some (.ref cb)
  xm : ∀ n m, n < 28 → m < 28 → PySem.W.exmOne K (.ref (cs n)) (.ref (cs m)) = some (decide (n = m))
  xb : ∀ n, n < 28 → PySem.W.exmOne K (.ref (cs n)) (.ref cb) = some true
  a_law_raise_a : XD.At K mg "_law_raise_a" s_law_raise_a
  a_law_raise_b : XD.At K mg "_law_raise_b" s_law_raise_b
  a_law_raise_c : XD.At K mg "_law_raise_c" s_law_raise_c
  a_law_raise_d : XD.At K mg "_law_raise_d" s_law_raise_d
  a_law_raise : XD.At K mg "_law_raise" s_law_raise
  a_law_caught_a : XD.At K mg "_law_caught_a" s_law_caught_a
  a_law_caught_b : XD.At K mg "_law_caught_b" s_law_caught_b
  a_law_caught_c : XD.At K mg "_law_caught_c" s_law_caught_c
  a_law_caught_d : XD.At K mg "_law_caught_d" s_law_caught_d
  a_law_is_base : XD.At K mg "_law_is_base" s_law_is_base
  no_range : mg "range" = none
  no_repr : mg "repr" = none
theorem Txt.InvalidCommand_r {K : PySem.W.Frag} {mg : Str → Option Value} {cs fs : Nat → Addr} {cb : Addr} (T : Txt K mg cs fs cb) {X : Cx} (h : X.K = K) : Raises X (.ref (cs 27)) := by
  subst h
  exact raises_own T.InvalidCommand_s T.InvalidCommand_t
/-- what leaves where an error of number n is raised with v -/
def Raised (cs : Nat → Addr) (n : Nat) (v : V) (H : Hp) (E : XK) : Prop :=
  if n < 26 then ∀ d, H d = none → E (.ref (cs n)) (some d) (upd H d (.xd [(("at" : Str), v)]))
  else if n = 26 then ∀ d, H d = none → E (.ref (cs 26)) (some d) (upd H d (.xd [(("word" : Str), v)]))
  else E (.ref (cs 27)) none H
section
variable {cs : Nat → Addr} {n : Nat} {v : V} {H : Hp} {E : XK}
theorem raised_at (h : n < 26) : Raised cs n v H E = ∀ d, H d = none → E (.ref (cs n)) (some d) (upd H d (.xd [(("at" : Str), v)])) := by
  unfold Raised
  rw [if_pos h]
theorem raised_word : Raised cs 26 v H E = ∀ d, H d = none → E (.ref (cs 26)) (some d) (upd H d (.xd [(("word" : Str), v)])) := by
  unfold Raised
  rw [if_neg (by decide), if_pos rfl]
theorem raised_no : Raised cs 27 v H E = E (.ref (cs 27)) none H := by
  unfold Raised
  rw [if_neg (by decide), if_neg (by decide)]
end
def spRaise (cs : Nat → Addr) (lo hi : Nat) : Sp := fun vs H _ E => ∃ (n : Nat) (v : V), vs = [.int n, v] ∧ lo ≤ n ∧ n < hi ∧ Raised cs n v H E
def Told (n : Nat) (v : V) (H : Hp) (Q : VK) : Prop := ∀ (p : Addr) (H' : Hp), H p = none → Same H H' → H' p = some (.tup [.int n, v]) → Q (.ref p) H'
def spCaught (cs : Nat → Addr) (hi : Nat) : Sp := fun vs H Q E => ∃ (n : Nat) (v : V), vs = [.int n, v] ∧ n < 28 ∧ (n < hi → Told n v H Q) ∧ (hi ≤ n → Raised cs n v H E)
def spBase : Sp := fun vs H Q _ => ∃ (n : Nat) (v : V), vs = [.int n, v] ∧ n < 28 ∧ ∀ H', Same H H' → Q (.bl true) H'
theorem wants_step {K : PySem.W.Frag} {W : WX} {D : Ends} {k : XT.Cl} {r : List XT.Cl} {cls : Value} {d : Option Addr} {σ : L2.St} {H : Hp} {p : Prop} [Decidable p] (h : PySem.W.exmOne K cls k.c = some (decide p))
    (yes : p → ∀ a, H a = none → k.ts a cls d (XT.endsOf k.i D) (XT.slotsOf k.i a σ) H) (no : ¬ p → XT.wants K W D r cls d σ H) : XT.wants K W D (k :: r) cls d σ H :=
  ⟨decide p, h, fun q => yes (of_decide_eq_true q), fun q => no (of_decide_eq_false q)⟩
section
variable {P : Program} {w : World} {K : PySem.W.Frag} {mg : Str → Option Value} {base : Heap} {cs fs : Nat → Addr} {cb : Addr}
theorem d_law_raise_a (T : Txt K mg cs fs cb) : XD.Def P w K mg base (L2.CX P w) 1 "_law_raise_a" ["number", "thing"] (spRaise cs 0 8) := by
  refine XD.mk T.a_law_raise_a (fun a fd F => F.binds (ps := ["number", "thing"]) fun _ _ _ _ _ _ us hl => match us, hl with | [_, _], _ => rfl) fun a fd F => ?_
  refine F.okX sc_law_raise_a (fun vs H Q E h => ?_) (fun cdv A outer s H vs Q E hr h => ?_)
  · obtain ⟨n, v, rfl, _⟩ := h
    rfl
  · obtain ⟨n, v, rfl, lo, hi, q⟩ := h
    refine ⟨_, (pss_one (ps_if (pt_cmpR op_eq (pv 0) pe_int (nomark _)) (pss_one (XCat.ps_raise1 rfl T.InvalidText T.g_InvalidText hr (takes_of rfl rfl rfl rfl) (pa_cons (pv 1) pa_nil))) (pss_one (ps_if (pt_cmpR op_eq (pv 0) pe_int (nomark _)) (pss_one (XCat.ps_raise1 rfl T.InvalidMachine T.g_InvalidMachine hr (takes_of rfl rfl rfl rfl) (pa_cons (pv 1) pa_nil))) (pss_one (ps_if (pt_cmpR op_eq (pv 0) pe_int (nomark _)) (pss_one (XCat.ps_raise1 rfl T.InvalidLate T.g_InvalidLate hr (takes_of rfl rfl rfl rfl) (pa_cons (pv 1) pa_nil))) (pss_one (ps_if (pt_cmpR op_eq (pv 0) pe_int (nomark _)) (pss_one (XCat.ps_raise1 rfl T.InvalidWord T.g_InvalidWord hr (takes_of rfl rfl rfl rfl) (pa_cons (pv 1) pa_nil))) (pss_one (ps_if (pt_cmpR op_eq (pv 0) pe_int (nomark _)) (pss_one (XCat.ps_raise1 rfl T.InvalidKind T.g_InvalidKind hr (takes_of rfl rfl rfl rfl) (pa_cons (pv 1) pa_nil))) (pss_one (ps_if (pt_cmpR op_eq (pv 0) pe_int (nomark _)) (pss_one (XCat.ps_raise1 rfl T.InvalidState T.g_InvalidState hr (takes_of rfl rfl rfl rfl) (pa_cons (pv 1) pa_nil))) (pss_one (ps_if (pt_cmpR op_eq (pv 0) pe_int (nomark _)) (pss_one (XCat.ps_raise1 rfl T.InvalidMap T.g_InvalidMap hr (takes_of rfl rfl rfl rfl) (pa_cons (pv 1) pa_nil))) (pss_one (ps_if (pt_cmpR op_eq (pv 0) pe_int (nomark _)) (pss_one (XCat.ps_raise1 rfl T.InvalidStory T.g_InvalidStory hr (takes_of rfl rfl rfl rfl) (pa_cons (pv 1) pa_nil))) pss_nil)))))))))))))))), ?_⟩
    refine ⟨_, rfl, rfl, _, rfl, ?_⟩
    by_cases c0 : n = 0
    · subst c0
      rw [raised_at (by decide)] at q
      exact ite_eq_t rfl ⟨_, rfl, _, rfl, q⟩
    refine ite_eq_f (by omega) ?_
    refine ⟨_, rfl, rfl, _, rfl, ?_⟩
    by_cases c1 : n = 1
    · subst c1
      rw [raised_at (by decide)] at q
      exact ite_eq_t rfl ⟨_, rfl, _, rfl, q⟩
    refine ite_eq_f (by omega) ?_
    refine ⟨_, rfl, rfl, _, rfl, ?_⟩
    by_cases c2 : n = 2
    · subst c2
      rw [raised_at (by decide)] at q
      exact ite_eq_t rfl ⟨_, rfl, _, rfl, q⟩
    refine ite_eq_f (by omega) ?_
    refine ⟨_, rfl, rfl, _, rfl, ?_⟩
    by_cases c3 : n = 3
    · subst c3
      rw [raised_at (by decide)] at q
      exact ite_eq_t rfl ⟨_, rfl, _, rfl, q⟩
    refine ite_eq_f (by omega) ?_
    refine ⟨_, rfl, rfl, _, rfl, ?_⟩
    by_cases c4 : n = 4
    · subst c4
      rw [raised_at (by decide)] at q
      exact ite_eq_t rfl ⟨_, rfl, _, rfl, q⟩
    refine ite_eq_f (by omega) ?_
    refine ⟨_, rfl, rfl, _, rfl, ?_⟩
    by_cases c5 : n = 5
    · subst c5
      rw [raised_at (by decide)] at q
      exact ite_eq_t rfl ⟨_, rfl, _, rfl, q⟩
    refine ite_eq_f (by omega) ?_
    refine ⟨_, rfl, rfl, _, rfl, ?_⟩
    by_cases c6 : n = 6
    · subst c6
      rw [raised_at (by decide)] at q
      exact ite_eq_t rfl ⟨_, rfl, _, rfl, q⟩
    refine ite_eq_f (by omega) ?_
    refine ⟨_, rfl, rfl, _, rfl, ?_⟩
    by_cases c7 : n = 7
    · subst c7
      rw [raised_at (by decide)] at q
      exact ite_eq_t rfl ⟨_, rfl, _, rfl, q⟩
    refine ite_eq_f (by omega) ?_
    omega
theorem d_law_raise_b (T : Txt K mg cs fs cb) : XD.Def P w K mg base (L2.CX P w) 1 "_law_raise_b" ["number", "thing"] (spRaise cs 8 16) := by
  refine XD.mk T.a_law_raise_b (fun a fd F => F.binds (ps := ["number", "thing"]) fun _ _ _ _ _ _ us hl => match us, hl with | [_, _], _ => rfl) fun a fd F => ?_
  refine F.okX sc_law_raise_b (fun vs H Q E h => ?_) (fun cdv A outer s H vs Q E hr h => ?_)
  · obtain ⟨n, v, rfl, _⟩ := h
    rfl
  · obtain ⟨n, v, rfl, lo, hi, q⟩ := h
    refine ⟨_, (pss_one (ps_if (pt_cmpR op_eq (pv 0) pe_int (nomark _)) (pss_one (XCat.ps_raise1 rfl T.InvalidMoment T.g_InvalidMoment hr (takes_of rfl rfl rfl rfl) (pa_cons (pv 1) pa_nil))) (pss_one (ps_if (pt_cmpR op_eq (pv 0) pe_int (nomark _)) (pss_one (XCat.ps_raise1 rfl T.InvalidPlaces T.g_InvalidPlaces hr (takes_of rfl rfl rfl rfl) (pa_cons (pv 1) pa_nil))) (pss_one (ps_if (pt_cmpR op_eq (pv 0) pe_int (nomark _)) (pss_one (XCat.ps_raise1 rfl T.InvalidTwin T.g_InvalidTwin hr (takes_of rfl rfl rfl rfl) (pa_cons (pv 1) pa_nil))) (pss_one (ps_if (pt_cmpR op_eq (pv 0) pe_int (nomark _)) (pss_one (XCat.ps_raise1 rfl T.InvalidItems T.g_InvalidItems hr (takes_of rfl rfl rfl rfl) (pa_cons (pv 1) pa_nil))) (pss_one (ps_if (pt_cmpR op_eq (pv 0) pe_int (nomark _)) (pss_one (XCat.ps_raise1 rfl T.InvalidPaper T.g_InvalidPaper hr (takes_of rfl rfl rfl rfl) (pa_cons (pv 1) pa_nil))) (pss_one (ps_if (pt_cmpR op_eq (pv 0) pe_int (nomark _)) (pss_one (XCat.ps_raise1 rfl T.InvalidLateness T.g_InvalidLateness hr (takes_of rfl rfl rfl rfl) (pa_cons (pv 1) pa_nil))) (pss_one (ps_if (pt_cmpR op_eq (pv 0) pe_int (nomark _)) (pss_one (XCat.ps_raise1 rfl T.InvalidGone T.g_InvalidGone hr (takes_of rfl rfl rfl rfl) (pa_cons (pv 1) pa_nil))) (pss_one (ps_if (pt_cmpR op_eq (pv 0) pe_int (nomark _)) (pss_one (XCat.ps_raise1 rfl T.InvalidLot T.g_InvalidLot hr (takes_of rfl rfl rfl rfl) (pa_cons (pv 1) pa_nil))) pss_nil)))))))))))))))), ?_⟩
    refine ⟨_, rfl, rfl, _, rfl, ?_⟩
    by_cases c8 : n = 8
    · subst c8
      rw [raised_at (by decide)] at q
      exact ite_eq_t rfl ⟨_, rfl, _, rfl, q⟩
    refine ite_eq_f (by omega) ?_
    refine ⟨_, rfl, rfl, _, rfl, ?_⟩
    by_cases c9 : n = 9
    · subst c9
      rw [raised_at (by decide)] at q
      exact ite_eq_t rfl ⟨_, rfl, _, rfl, q⟩
    refine ite_eq_f (by omega) ?_
    refine ⟨_, rfl, rfl, _, rfl, ?_⟩
    by_cases c10 : n = 10
    · subst c10
      rw [raised_at (by decide)] at q
      exact ite_eq_t rfl ⟨_, rfl, _, rfl, q⟩
    refine ite_eq_f (by omega) ?_
    refine ⟨_, rfl, rfl, _, rfl, ?_⟩
    by_cases c11 : n = 11
    · subst c11
      rw [raised_at (by decide)] at q
      exact ite_eq_t rfl ⟨_, rfl, _, rfl, q⟩
    refine ite_eq_f (by omega) ?_
    refine ⟨_, rfl, rfl, _, rfl, ?_⟩
    by_cases c12 : n = 12
    · subst c12
      rw [raised_at (by decide)] at q
      exact ite_eq_t rfl ⟨_, rfl, _, rfl, q⟩
    refine ite_eq_f (by omega) ?_
    refine ⟨_, rfl, rfl, _, rfl, ?_⟩
    by_cases c13 : n = 13
    · subst c13
      rw [raised_at (by decide)] at q
      exact ite_eq_t rfl ⟨_, rfl, _, rfl, q⟩
    refine ite_eq_f (by omega) ?_
    refine ⟨_, rfl, rfl, _, rfl, ?_⟩
    by_cases c14 : n = 14
    · subst c14
      rw [raised_at (by decide)] at q
      exact ite_eq_t rfl ⟨_, rfl, _, rfl, q⟩
    refine ite_eq_f (by omega) ?_
    refine ⟨_, rfl, rfl, _, rfl, ?_⟩
    by_cases c15 : n = 15
    · subst c15
      rw [raised_at (by decide)] at q
      exact ite_eq_t rfl ⟨_, rfl, _, rfl, q⟩
    refine ite_eq_f (by omega) ?_
    omega
theorem d_law_raise_c (T : Txt K mg cs fs cb) : XD.Def P w K mg base (L2.CX P w) 1 "_law_raise_c" ["number", "thing"] (spRaise cs 16 24) := by
  refine XD.mk T.a_law_raise_c (fun a fd F => F.binds (ps := ["number", "thing"]) fun _ _ _ _ _ _ us hl => match us, hl with | [_, _], _ => rfl) fun a fd F => ?_
  refine F.okX sc_law_raise_c (fun vs H Q E h => ?_) (fun cdv A outer s H vs Q E hr h => ?_)
  · obtain ⟨n, v, rfl, _⟩ := h
    rfl
  · obtain ⟨n, v, rfl, lo, hi, q⟩ := h
    refine ⟨_, (pss_one (ps_if (pt_cmpR op_eq (pv 0) pe_int (nomark _)) (pss_one (XCat.ps_raise1 rfl T.InvalidPanel T.g_InvalidPanel hr (takes_of rfl rfl rfl rfl) (pa_cons (pv 1) pa_nil))) (pss_one (ps_if (pt_cmpR op_eq (pv 0) pe_int (nomark _)) (pss_one (XCat.ps_raise1 rfl T.InvalidPlant T.g_InvalidPlant hr (takes_of rfl rfl rfl rfl) (pa_cons (pv 1) pa_nil))) (pss_one (ps_if (pt_cmpR op_eq (pv 0) pe_int (nomark _)) (pss_one (XCat.ps_raise1 rfl T.InvalidLetter T.g_InvalidLetter hr (takes_of rfl rfl rfl rfl) (pa_cons (pv 1) pa_nil))) (pss_one (ps_if (pt_cmpR op_eq (pv 0) pe_int (nomark _)) (pss_one (XCat.ps_raise1 rfl T.InvalidMarks T.g_InvalidMarks hr (takes_of rfl rfl rfl rfl) (pa_cons (pv 1) pa_nil))) (pss_one (ps_if (pt_cmpR op_eq (pv 0) pe_int (nomark _)) (pss_one (XCat.ps_raise1 rfl T.InvalidReadings T.g_InvalidReadings hr (takes_of rfl rfl rfl rfl) (pa_cons (pv 1) pa_nil))) (pss_one (ps_if (pt_cmpR op_eq (pv 0) pe_int (nomark _)) (pss_one (XCat.ps_raise1 rfl T.InvalidRoom T.g_InvalidRoom hr (takes_of rfl rfl rfl rfl) (pa_cons (pv 1) pa_nil))) (pss_one (ps_if (pt_cmpR op_eq (pv 0) pe_int (nomark _)) (pss_one (XCat.ps_raise1 rfl T.InvalidDeed T.g_InvalidDeed hr (takes_of rfl rfl rfl rfl) (pa_cons (pv 1) pa_nil))) (pss_one (ps_if (pt_cmpR op_eq (pv 0) pe_int (nomark _)) (pss_one (XCat.ps_raise1 rfl T.InvalidAsked T.g_InvalidAsked hr (takes_of rfl rfl rfl rfl) (pa_cons (pv 1) pa_nil))) pss_nil)))))))))))))))), ?_⟩
    refine ⟨_, rfl, rfl, _, rfl, ?_⟩
    by_cases c16 : n = 16
    · subst c16
      rw [raised_at (by decide)] at q
      exact ite_eq_t rfl ⟨_, rfl, _, rfl, q⟩
    refine ite_eq_f (by omega) ?_
    refine ⟨_, rfl, rfl, _, rfl, ?_⟩
    by_cases c17 : n = 17
    · subst c17
      rw [raised_at (by decide)] at q
      exact ite_eq_t rfl ⟨_, rfl, _, rfl, q⟩
    refine ite_eq_f (by omega) ?_
    refine ⟨_, rfl, rfl, _, rfl, ?_⟩
    by_cases c18 : n = 18
    · subst c18
      rw [raised_at (by decide)] at q
      exact ite_eq_t rfl ⟨_, rfl, _, rfl, q⟩
    refine ite_eq_f (by omega) ?_
    refine ⟨_, rfl, rfl, _, rfl, ?_⟩
    by_cases c19 : n = 19
    · subst c19
      rw [raised_at (by decide)] at q
      exact ite_eq_t rfl ⟨_, rfl, _, rfl, q⟩
    refine ite_eq_f (by omega) ?_
    refine ⟨_, rfl, rfl, _, rfl, ?_⟩
    by_cases c20 : n = 20
    · subst c20
      rw [raised_at (by decide)] at q
      exact ite_eq_t rfl ⟨_, rfl, _, rfl, q⟩
    refine ite_eq_f (by omega) ?_
    refine ⟨_, rfl, rfl, _, rfl, ?_⟩
    by_cases c21 : n = 21
    · subst c21
      rw [raised_at (by decide)] at q
      exact ite_eq_t rfl ⟨_, rfl, _, rfl, q⟩
    refine ite_eq_f (by omega) ?_
    refine ⟨_, rfl, rfl, _, rfl, ?_⟩
    by_cases c22 : n = 22
    · subst c22
      rw [raised_at (by decide)] at q
      exact ite_eq_t rfl ⟨_, rfl, _, rfl, q⟩
    refine ite_eq_f (by omega) ?_
    refine ⟨_, rfl, rfl, _, rfl, ?_⟩
    by_cases c23 : n = 23
    · subst c23
      rw [raised_at (by decide)] at q
      exact ite_eq_t rfl ⟨_, rfl, _, rfl, q⟩
    refine ite_eq_f (by omega) ?_
    omega
theorem d_law_raise_d (T : Txt K mg cs fs cb) : XD.Def P w K mg base (L2.CX P w) 1 "_law_raise_d" ["number", "thing"] (spRaise cs 24 28) := by
  refine XD.mk T.a_law_raise_d (fun a fd F => F.binds (ps := ["number", "thing"]) fun _ _ _ _ _ _ us hl => match us, hl with | [_, _], _ => rfl) fun a fd F => ?_
  refine F.okX sc_law_raise_d (fun vs H Q E h => ?_) (fun cdv A outer s H vs Q E hr h => ?_)
  · obtain ⟨n, v, rfl, _⟩ := h
    rfl
  · obtain ⟨n, v, rfl, lo, hi, q⟩ := h
    refine ⟨_, (pss_one (ps_if (pt_cmpR op_eq (pv 0) pe_int (nomark _)) (pss_one (XCat.ps_raise1 rfl T.InvalidIndex T.g_InvalidIndex hr (takes_of rfl rfl rfl rfl) (pa_cons (pv 1) pa_nil))) (pss_one (ps_if (pt_cmpR op_eq (pv 0) pe_int (nomark _)) (pss_one (XCat.ps_raise1 rfl T.Refused T.g_Refused hr (takes_of rfl rfl rfl rfl) (pa_cons (pv 1) pa_nil))) (pss_one (ps_if (pt_cmpR op_eq (pv 0) pe_int (nomark _)) (pss_one (XCword.ps_raise1 rfl T.InvalidSize T.g_InvalidSize hr (takes_of rfl rfl rfl rfl) (pa_cons (pv 1) pa_nil))) (pss_one (ps_if (pt_cmpR op_eq (pv 0) pe_int (nomark _)) (pss_one (XG.ps_raise0 rfl (takes_of rfl rfl rfl rfl) PySem.F.excBase_Exception T.InvalidCommand_q T.g_InvalidCommand T.InvalidCommand_k (T.InvalidCommand_r rfl))) pss_nil)))))))), ?_⟩
    refine ⟨_, rfl, rfl, _, rfl, ?_⟩
    by_cases c24 : n = 24
    · subst c24
      rw [raised_at (by decide)] at q
      exact ite_eq_t rfl ⟨_, rfl, _, rfl, q⟩
    refine ite_eq_f (by omega) ?_
    refine ⟨_, rfl, rfl, _, rfl, ?_⟩
    by_cases c25 : n = 25
    · subst c25
      rw [raised_at (by decide)] at q
      exact ite_eq_t rfl ⟨_, rfl, _, rfl, q⟩
    refine ite_eq_f (by omega) ?_
    refine ⟨_, rfl, rfl, _, rfl, ?_⟩
    by_cases c26 : n = 26
    · subst c26
      rw [raised_word] at q
      exact ite_eq_t rfl ⟨_, rfl, _, rfl, q⟩
    refine ite_eq_f (by omega) ?_
    refine ⟨_, rfl, rfl, _, rfl, ?_⟩
    by_cases c27 : n = 27
    · subst c27
      rw [raised_no] at q
      exact ite_eq_t rfl q
    refine ite_eq_f (by omega) ?_
    omega
theorem d_law_raise (T : Txt K mg cs fs cb) : XD.Def P w K mg base (L2.CX P w) 2 "_law_raise" ["number", "thing"] (spRaise cs 0 28) := by
  have D_law_raise_a : XD.Def P w K mg base (L2.CX P w) 1 "_law_raise_a" ["number", "thing"] (spRaise cs 0 8) := d_law_raise_a T
  have D_law_raise_b : XD.Def P w K mg base (L2.CX P w) 1 "_law_raise_b" ["number", "thing"] (spRaise cs 8 16) := d_law_raise_b T
  have D_law_raise_c : XD.Def P w K mg base (L2.CX P w) 1 "_law_raise_c" ["number", "thing"] (spRaise cs 16 24) := d_law_raise_c T
  have D_law_raise_d : XD.Def P w K mg base (L2.CX P w) 1 "_law_raise_d" ["number", "thing"] (spRaise cs 24 28) := d_law_raise_d T
  refine XD.mk T.a_law_raise (fun a fd F => F.binds (ps := ["number", "thing"]) fun _ _ _ _ _ _ us hl => match us, hl with | [_, _], _ => rfl) fun a fd F => ?_
  refine F.okX sc_law_raise (fun vs H Q E h => ?_) (fun cdv A outer s H vs Q E hr h => ?_)
  · obtain ⟨n, v, rfl, _⟩ := h
    rfl
  · obtain ⟨n, v, rfl, lo, hi, q⟩ := h
    refine ⟨_, (pss_one (ps_if (pt_cmpR op_lt (pv 0) pe_int (nomark _)) (pss_one (ps_expr (by exact (XD.pe_callDS D_law_raise_a (hr.mono (by decide)) (fun σ => passAt (takes_of rfl rfl rfl rfl) σ) (pa_cons (pv 0) (pa_cons (pv 1) pa_nil)))))) (pss_one (ps_if (pt_cmpR op_lt (pv 0) pe_int (nomark _)) (pss_one (ps_expr (by exact (XD.pe_callDS D_law_raise_b (hr.mono (by decide)) (fun σ => passAt (takes_of rfl rfl rfl rfl) σ) (pa_cons (pv 0) (pa_cons (pv 1) pa_nil)))))) (pss_one (ps_if (pt_cmpR op_lt (pv 0) pe_int (nomark _)) (pss_one (ps_expr (by exact (XD.pe_callDS D_law_raise_c (hr.mono (by decide)) (fun σ => passAt (takes_of rfl rfl rfl rfl) σ) (pa_cons (pv 0) (pa_cons (pv 1) pa_nil)))))) (pss_one (ps_expr (by exact (XD.pe_callDS D_law_raise_d (hr.mono (by decide)) (fun σ => passAt (takes_of rfl rfl rfl rfl) σ) (pa_cons (pv 0) (pa_cons (pv 1) pa_nil)))))))))))), ?_⟩
    refine ⟨_, rfl, _, _, rfl, rfl, _, rfl, ?_⟩
    by_cases c : (n : Int) < 8
    · exact ite_d_t c ⟨_, rfl, _, rfl, n, v, rfl, by omega, by omega, q⟩
    refine ite_d_f c ⟨_, rfl, _, _, rfl, rfl, _, rfl, ?_⟩
    by_cases c : (n : Int) < 16
    · exact ite_d_t c ⟨_, rfl, _, rfl, n, v, rfl, by omega, by omega, q⟩
    refine ite_d_f c ⟨_, rfl, _, _, rfl, rfl, _, rfl, ?_⟩
    by_cases c : (n : Int) < 24
    · exact ite_d_t c ⟨_, rfl, _, rfl, n, v, rfl, by omega, by omega, q⟩
    exact ite_d_f c ⟨_, rfl, _, rfl, n, v, rfl, by omega, by omega, q⟩
theorem told_in {n : Nat} {v : V} {H : Hp} {Q : VK} {d p : Addr} {o : HO} (k : Told n v H Q) (hd : H d = none) (hp : upd H d o p = none) : Q (.ref p) (upd (upd H d o) p (.tup [.int n, v])) :=
  k p _ ((same_upd hd).free hp) ((same_upd hd).trans (same_upd hp)) upd_same

theorem d_law_caught_a (T : Txt K mg cs fs cb) : XD.Def P w K mg base (L2.CX P w) 3 "_law_caught_a" ["number", "thing"] (spCaught cs 8) := by
  have D_law_raise : XD.Def P w K mg base (L2.CX P w) 2 "_law_raise" ["number", "thing"] (spRaise cs 0 28) := d_law_raise T
  refine XD.mk T.a_law_caught_a (fun a fd F => F.binds (ps := ["number", "thing"]) fun _ _ _ _ _ _ us hl => match us, hl with | [_, _], _ => rfl) fun a fd F => ?_
  refine F.okX sc_law_caught_a (fun vs H Q E h => ?_) (fun cdv A outer s H vs Q E hr h => ?_)
  · obtain ⟨n, v, rfl, _⟩ := h
    rfl
  · obtain ⟨n, v, rfl, hn, yes, no⟩ := h
    refine ⟨_, (pss_cons (XT.ps_try rfl rfl (takes_of rfl rfl rfl rfl) (fun W pn xe tk _ => (pss_one (ps_expr (by exact (XD.pe_callDS D_law_raise (hr.mono (by decide)) (fun σ => passAt tk σ) (pa_cons (pv 0) (pa_cons (pv 1) pa_nil)))))))
  (.named ⟨rfl, by decide, Or.inl T.g_InvalidText⟩ sc_law_caught_a.nd rfl rfl (i := 2) (fun a oe cls d pn hz hf => (pss_one (ps_ret (pe_tup (pa_cons pe_int (pa_cons (XCat.pe_by T.InvalidText hz hf (pv 2)) pa_nil))))))
  (.named ⟨rfl, by decide, Or.inl T.g_InvalidMachine⟩ sc_law_caught_a.nd rfl rfl (i := 2) (fun a oe cls d pn hz hf => (pss_one (ps_ret (pe_tup (pa_cons pe_int (pa_cons (XCat.pe_by T.InvalidMachine hz hf (pv 2)) pa_nil))))))
  (.named ⟨rfl, by decide, Or.inl T.g_InvalidLate⟩ sc_law_caught_a.nd rfl rfl (i := 2) (fun a oe cls d pn hz hf => (pss_one (ps_ret (pe_tup (pa_cons pe_int (pa_cons (XCat.pe_by T.InvalidLate hz hf (pv 2)) pa_nil))))))
  (.named ⟨rfl, by decide, Or.inl T.g_InvalidWord⟩ sc_law_caught_a.nd rfl rfl (i := 2) (fun a oe cls d pn hz hf => (pss_one (ps_ret (pe_tup (pa_cons pe_int (pa_cons (XCat.pe_by T.InvalidWord hz hf (pv 2)) pa_nil))))))
  (.named ⟨rfl, by decide, Or.inl T.g_InvalidKind⟩ sc_law_caught_a.nd rfl rfl (i := 2) (fun a oe cls d pn hz hf => (pss_one (ps_ret (pe_tup (pa_cons pe_int (pa_cons (XCat.pe_by T.InvalidKind hz hf (pv 2)) pa_nil))))))
  (.named ⟨rfl, by decide, Or.inl T.g_InvalidState⟩ sc_law_caught_a.nd rfl rfl (i := 2) (fun a oe cls d pn hz hf => (pss_one (ps_ret (pe_tup (pa_cons pe_int (pa_cons (XCat.pe_by T.InvalidState hz hf (pv 2)) pa_nil))))))
  (.named ⟨rfl, by decide, Or.inl T.g_InvalidMap⟩ sc_law_caught_a.nd rfl rfl (i := 2) (fun a oe cls d pn hz hf => (pss_one (ps_ret (pe_tup (pa_cons pe_int (pa_cons (XCat.pe_by T.InvalidMap hz hf (pv 2)) pa_nil))))))
  (.named ⟨rfl, by decide, Or.inl T.g_InvalidStory⟩ sc_law_caught_a.nd rfl rfl (i := 2) (fun a oe cls d pn hz hf => (pss_one (ps_ret (pe_tup (pa_cons pe_int (pa_cons (XCat.pe_by T.InvalidStory hz hf (pv 2)) pa_nil))))))
  .nil)))))))))
  (pss_one (ps_ret pe_non))), ?_⟩
    refine ⟨_, rfl, _, rfl, n, v, rfl, Nat.zero_le _, hn, ?_⟩
    by_cases h26 : n < 26
    · rw [raised_at h26]
      intro d hd
      refine wants_step (T.xm n 0 (by omega) (by omega)) (fun c a ha => ?_) fun c0 => ?_
      · subst c
        exact ⟨_, rfl, rfl, rfl, _, _, rfl, upd_same, (by show 2 ≤ sizeLine; decide), fun p hp => told_in (yes (by decide)) hd hp⟩
      refine wants_step (T.xm n 1 (by omega) (by omega)) (fun c a ha => ?_) fun c1 => ?_
      · subst c
        exact ⟨_, rfl, rfl, rfl, _, _, rfl, upd_same, (by show 2 ≤ sizeLine; decide), fun p hp => told_in (yes (by decide)) hd hp⟩
      refine wants_step (T.xm n 2 (by omega) (by omega)) (fun c a ha => ?_) fun c2 => ?_
      · subst c
        exact ⟨_, rfl, rfl, rfl, _, _, rfl, upd_same, (by show 2 ≤ sizeLine; decide), fun p hp => told_in (yes (by decide)) hd hp⟩
      refine wants_step (T.xm n 3 (by omega) (by omega)) (fun c a ha => ?_) fun c3 => ?_
      · subst c
        exact ⟨_, rfl, rfl, rfl, _, _, rfl, upd_same, (by show 2 ≤ sizeLine; decide), fun p hp => told_in (yes (by decide)) hd hp⟩
      refine wants_step (T.xm n 4 (by omega) (by omega)) (fun c a ha => ?_) fun c4 => ?_
      · subst c
        exact ⟨_, rfl, rfl, rfl, _, _, rfl, upd_same, (by show 2 ≤ sizeLine; decide), fun p hp => told_in (yes (by decide)) hd hp⟩
      refine wants_step (T.xm n 5 (by omega) (by omega)) (fun c a ha => ?_) fun c5 => ?_
      · subst c
        exact ⟨_, rfl, rfl, rfl, _, _, rfl, upd_same, (by show 2 ≤ sizeLine; decide), fun p hp => told_in (yes (by decide)) hd hp⟩
      refine wants_step (T.xm n 6 (by omega) (by omega)) (fun c a ha => ?_) fun c6 => ?_
      · subst c
        exact ⟨_, rfl, rfl, rfl, _, _, rfl, upd_same, (by show 2 ≤ sizeLine; decide), fun p hp => told_in (yes (by decide)) hd hp⟩
      refine wants_step (T.xm n 7 (by omega) (by omega)) (fun c a ha => ?_) fun c7 => ?_
      · subst c
        exact ⟨_, rfl, rfl, rfl, _, _, rfl, upd_same, (by show 2 ≤ sizeLine; decide), fun p hp => told_in (yes (by decide)) hd hp⟩
      exact (raised_at h26 ▸ no (by omega)) d hd
    by_cases e26 : n = 26
    · subst e26
      rw [raised_word]
      intro d hd
      refine wants_step (T.xm _ 0 (by omega) (by omega)) (fun c a ha => absurd c (by decide)) fun _ => ?_
      refine wants_step (T.xm _ 1 (by omega) (by omega)) (fun c a ha => absurd c (by decide)) fun _ => ?_
      refine wants_step (T.xm _ 2 (by omega) (by omega)) (fun c a ha => absurd c (by decide)) fun _ => ?_
      refine wants_step (T.xm _ 3 (by omega) (by omega)) (fun c a ha => absurd c (by decide)) fun _ => ?_
      refine wants_step (T.xm _ 4 (by omega) (by omega)) (fun c a ha => absurd c (by decide)) fun _ => ?_
      refine wants_step (T.xm _ 5 (by omega) (by omega)) (fun c a ha => absurd c (by decide)) fun _ => ?_
      refine wants_step (T.xm _ 6 (by omega) (by omega)) (fun c a ha => absurd c (by decide)) fun _ => ?_
      refine wants_step (T.xm _ 7 (by omega) (by omega)) (fun c a ha => absurd c (by decide)) fun _ => ?_
      exact (raised_word ▸ no (by omega)) d hd
    obtain rfl : n = 27 := by omega
    rw [raised_no]
    refine wants_step (T.xm _ 0 (by omega) (by omega)) (fun c a ha => absurd c (by decide)) fun _ => ?_
    refine wants_step (T.xm _ 1 (by omega) (by omega)) (fun c a ha => absurd c (by decide)) fun _ => ?_
    refine wants_step (T.xm _ 2 (by omega) (by omega)) (fun c a ha => absurd c (by decide)) fun _ => ?_
    refine wants_step (T.xm _ 3 (by omega) (by omega)) (fun c a ha => absurd c (by decide)) fun _ => ?_
    refine wants_step (T.xm _ 4 (by omega) (by omega)) (fun c a ha => absurd c (by decide)) fun _ => ?_
    refine wants_step (T.xm _ 5 (by omega) (by omega)) (fun c a ha => absurd c (by decide)) fun _ => ?_
    refine wants_step (T.xm _ 6 (by omega) (by omega)) (fun c a ha => absurd c (by decide)) fun _ => ?_
    refine wants_step (T.xm _ 7 (by omega) (by omega)) (fun c a ha => absurd c (by decide)) fun _ => ?_
    have z := no (by omega)
    rw [raised_no] at z
    exact z
theorem d_law_caught_b (T : Txt K mg cs fs cb) : XD.Def P w K mg base (L2.CX P w) 4 "_law_caught_b" ["number", "thing"] (spCaught cs 16) := by
  have D_law_caught_a : XD.Def P w K mg base (L2.CX P w) 3 "_law_caught_a" ["number", "thing"] (spCaught cs 8) := d_law_caught_a T
  refine XD.mk T.a_law_caught_b (fun a fd F => F.binds (ps := ["number", "thing"]) fun _ _ _ _ _ _ us hl => match us, hl with | [_, _], _ => rfl) fun a fd F => ?_
  refine F.okX sc_law_caught_b (fun vs H Q E h => ?_) (fun cdv A outer s H vs Q E hr h => ?_)
  · obtain ⟨n, v, rfl, _⟩ := h
    rfl
  · obtain ⟨n, v, rfl, hn, yes, no⟩ := h
    refine ⟨_, (pss_cons (XT.ps_try rfl rfl (takes_of rfl rfl rfl rfl) (fun W pn xe tk _ => (pss_one (ps_ret (by exact (XD.pe_callDS D_law_caught_a (hr.mono (by decide)) (fun σ => passAt tk σ) (pa_cons (pv 0) (pa_cons (pv 1) pa_nil)))))))
  (.named ⟨rfl, by decide, Or.inl T.g_InvalidMoment⟩ sc_law_caught_b.nd rfl rfl (i := 2) (fun a oe cls d pn hz hf => (pss_one (ps_ret (pe_tup (pa_cons pe_int (pa_cons (XCat.pe_by T.InvalidMoment hz hf (pv 2)) pa_nil))))))
  (.named ⟨rfl, by decide, Or.inl T.g_InvalidPlaces⟩ sc_law_caught_b.nd rfl rfl (i := 2) (fun a oe cls d pn hz hf => (pss_one (ps_ret (pe_tup (pa_cons pe_int (pa_cons (XCat.pe_by T.InvalidPlaces hz hf (pv 2)) pa_nil))))))
  (.named ⟨rfl, by decide, Or.inl T.g_InvalidTwin⟩ sc_law_caught_b.nd rfl rfl (i := 2) (fun a oe cls d pn hz hf => (pss_one (ps_ret (pe_tup (pa_cons pe_int (pa_cons (XCat.pe_by T.InvalidTwin hz hf (pv 2)) pa_nil))))))
  (.named ⟨rfl, by decide, Or.inl T.g_InvalidItems⟩ sc_law_caught_b.nd rfl rfl (i := 2) (fun a oe cls d pn hz hf => (pss_one (ps_ret (pe_tup (pa_cons pe_int (pa_cons (XCat.pe_by T.InvalidItems hz hf (pv 2)) pa_nil))))))
  (.named ⟨rfl, by decide, Or.inl T.g_InvalidPaper⟩ sc_law_caught_b.nd rfl rfl (i := 2) (fun a oe cls d pn hz hf => (pss_one (ps_ret (pe_tup (pa_cons pe_int (pa_cons (XCat.pe_by T.InvalidPaper hz hf (pv 2)) pa_nil))))))
  (.named ⟨rfl, by decide, Or.inl T.g_InvalidLateness⟩ sc_law_caught_b.nd rfl rfl (i := 2) (fun a oe cls d pn hz hf => (pss_one (ps_ret (pe_tup (pa_cons pe_int (pa_cons (XCat.pe_by T.InvalidLateness hz hf (pv 2)) pa_nil))))))
  (.named ⟨rfl, by decide, Or.inl T.g_InvalidGone⟩ sc_law_caught_b.nd rfl rfl (i := 2) (fun a oe cls d pn hz hf => (pss_one (ps_ret (pe_tup (pa_cons pe_int (pa_cons (XCat.pe_by T.InvalidGone hz hf (pv 2)) pa_nil))))))
  (.named ⟨rfl, by decide, Or.inl T.g_InvalidLot⟩ sc_law_caught_b.nd rfl rfl (i := 2) (fun a oe cls d pn hz hf => (pss_one (ps_ret (pe_tup (pa_cons pe_int (pa_cons (XCat.pe_by T.InvalidLot hz hf (pv 2)) pa_nil))))))
  .nil)))))))))
  (pss_one (ps_ret pe_non))), ?_⟩
    refine ⟨_, rfl, _, rfl, n, v, rfl, hn, fun h => yes (by omega), fun h => ?_⟩
    by_cases h26 : n < 26
    · rw [raised_at h26]
      intro d hd
      refine wants_step (T.xm n 8 (by omega) (by omega)) (fun c a ha => ?_) fun c8 => ?_
      · subst c
        exact ⟨_, rfl, rfl, rfl, _, _, rfl, upd_same, (by show 2 ≤ sizeLine; decide), fun p hp => told_in (yes (by decide)) hd hp⟩
      refine wants_step (T.xm n 9 (by omega) (by omega)) (fun c a ha => ?_) fun c9 => ?_
      · subst c
        exact ⟨_, rfl, rfl, rfl, _, _, rfl, upd_same, (by show 2 ≤ sizeLine; decide), fun p hp => told_in (yes (by decide)) hd hp⟩
      refine wants_step (T.xm n 10 (by omega) (by omega)) (fun c a ha => ?_) fun c10 => ?_
      · subst c
        exact ⟨_, rfl, rfl, rfl, _, _, rfl, upd_same, (by show 2 ≤ sizeLine; decide), fun p hp => told_in (yes (by decide)) hd hp⟩
      refine wants_step (T.xm n 11 (by omega) (by omega)) (fun c a ha => ?_) fun c11 => ?_
      · subst c
        exact ⟨_, rfl, rfl, rfl, _, _, rfl, upd_same, (by show 2 ≤ sizeLine; decide), fun p hp => told_in (yes (by decide)) hd hp⟩
      refine wants_step (T.xm n 12 (by omega) (by omega)) (fun c a ha => ?_) fun c12 => ?_
      · subst c
        exact ⟨_, rfl, rfl, rfl, _, _, rfl, upd_same, (by show 2 ≤ sizeLine; decide), fun p hp => told_in (yes (by decide)) hd hp⟩
      refine wants_step (T.xm n 13 (by omega) (by omega)) (fun c a ha => ?_) fun c13 => ?_
      · subst c
        exact ⟨_, rfl, rfl, rfl, _, _, rfl, upd_same, (by show 2 ≤ sizeLine; decide), fun p hp => told_in (yes (by decide)) hd hp⟩
      refine wants_step (T.xm n 14 (by omega) (by omega)) (fun c a ha => ?_) fun c14 => ?_
      · subst c
        exact ⟨_, rfl, rfl, rfl, _, _, rfl, upd_same, (by show 2 ≤ sizeLine; decide), fun p hp => told_in (yes (by decide)) hd hp⟩
      refine wants_step (T.xm n 15 (by omega) (by omega)) (fun c a ha => ?_) fun c15 => ?_
      · subst c
        exact ⟨_, rfl, rfl, rfl, _, _, rfl, upd_same, (by show 2 ≤ sizeLine; decide), fun p hp => told_in (yes (by decide)) hd hp⟩
      exact (raised_at h26 ▸ no (by omega)) d hd
    by_cases e26 : n = 26
    · subst e26
      rw [raised_word]
      intro d hd
      refine wants_step (T.xm _ 8 (by omega) (by omega)) (fun c a ha => absurd c (by decide)) fun _ => ?_
      refine wants_step (T.xm _ 9 (by omega) (by omega)) (fun c a ha => absurd c (by decide)) fun _ => ?_
      refine wants_step (T.xm _ 10 (by omega) (by omega)) (fun c a ha => absurd c (by decide)) fun _ => ?_
      refine wants_step (T.xm _ 11 (by omega) (by omega)) (fun c a ha => absurd c (by decide)) fun _ => ?_
      refine wants_step (T.xm _ 12 (by omega) (by omega)) (fun c a ha => absurd c (by decide)) fun _ => ?_
      refine wants_step (T.xm _ 13 (by omega) (by omega)) (fun c a ha => absurd c (by decide)) fun _ => ?_
      refine wants_step (T.xm _ 14 (by omega) (by omega)) (fun c a ha => absurd c (by decide)) fun _ => ?_
      refine wants_step (T.xm _ 15 (by omega) (by omega)) (fun c a ha => absurd c (by decide)) fun _ => ?_
      exact (raised_word ▸ no (by omega)) d hd
    obtain rfl : n = 27 := by omega
    rw [raised_no]
    refine wants_step (T.xm _ 8 (by omega) (by omega)) (fun c a ha => absurd c (by decide)) fun _ => ?_
    refine wants_step (T.xm _ 9 (by omega) (by omega)) (fun c a ha => absurd c (by decide)) fun _ => ?_
    refine wants_step (T.xm _ 10 (by omega) (by omega)) (fun c a ha => absurd c (by decide)) fun _ => ?_
    refine wants_step (T.xm _ 11 (by omega) (by omega)) (fun c a ha => absurd c (by decide)) fun _ => ?_
    refine wants_step (T.xm _ 12 (by omega) (by omega)) (fun c a ha => absurd c (by decide)) fun _ => ?_
    refine wants_step (T.xm _ 13 (by omega) (by omega)) (fun c a ha => absurd c (by decide)) fun _ => ?_
    refine wants_step (T.xm _ 14 (by omega) (by omega)) (fun c a ha => absurd c (by decide)) fun _ => ?_
    refine wants_step (T.xm _ 15 (by omega) (by omega)) (fun c a ha => absurd c (by decide)) fun _ => ?_
    have z := no (by omega)
    rw [raised_no] at z
    exact z
theorem d_law_caught_c (T : Txt K mg cs fs cb) : XD.Def P w K mg base (L2.CX P w) 5 "_law_caught_c" ["number", "thing"] (spCaught cs 24) := by
  have D_law_caught_b : XD.Def P w K mg base (L2.CX P w) 4 "_law_caught_b" ["number", "thing"] (spCaught cs 16) := d_law_caught_b T
  refine XD.mk T.a_law_caught_c (fun a fd F => F.binds (ps := ["number", "thing"]) fun _ _ _ _ _ _ us hl => match us, hl with | [_, _], _ => rfl) fun a fd F => ?_
  refine F.okX sc_law_caught_c (fun vs H Q E h => ?_) (fun cdv A outer s H vs Q E hr h => ?_)
  · obtain ⟨n, v, rfl, _⟩ := h
    rfl
  · obtain ⟨n, v, rfl, hn, yes, no⟩ := h
    refine ⟨_, (pss_cons (XT.ps_try rfl rfl (takes_of rfl rfl rfl rfl) (fun W pn xe tk _ => (pss_one (ps_ret (by exact (XD.pe_callDS D_law_caught_b (hr.mono (by decide)) (fun σ => passAt tk σ) (pa_cons (pv 0) (pa_cons (pv 1) pa_nil)))))))
  (.named ⟨rfl, by decide, Or.inl T.g_InvalidPanel⟩ sc_law_caught_c.nd rfl rfl (i := 2) (fun a oe cls d pn hz hf => (pss_one (ps_ret (pe_tup (pa_cons pe_int (pa_cons (XCat.pe_by T.InvalidPanel hz hf (pv 2)) pa_nil))))))
  (.named ⟨rfl, by decide, Or.inl T.g_InvalidPlant⟩ sc_law_caught_c.nd rfl rfl (i := 2) (fun a oe cls d pn hz hf => (pss_one (ps_ret (pe_tup (pa_cons pe_int (pa_cons (XCat.pe_by T.InvalidPlant hz hf (pv 2)) pa_nil))))))
  (.named ⟨rfl, by decide, Or.inl T.g_InvalidLetter⟩ sc_law_caught_c.nd rfl rfl (i := 2) (fun a oe cls d pn hz hf => (pss_one (ps_ret (pe_tup (pa_cons pe_int (pa_cons (XCat.pe_by T.InvalidLetter hz hf (pv 2)) pa_nil))))))
  (.named ⟨rfl, by decide, Or.inl T.g_InvalidMarks⟩ sc_law_caught_c.nd rfl rfl (i := 2) (fun a oe cls d pn hz hf => (pss_one (ps_ret (pe_tup (pa_cons pe_int (pa_cons (XCat.pe_by T.InvalidMarks hz hf (pv 2)) pa_nil))))))
  (.named ⟨rfl, by decide, Or.inl T.g_InvalidReadings⟩ sc_law_caught_c.nd rfl rfl (i := 2) (fun a oe cls d pn hz hf => (pss_one (ps_ret (pe_tup (pa_cons pe_int (pa_cons (XCat.pe_by T.InvalidReadings hz hf (pv 2)) pa_nil))))))
  (.named ⟨rfl, by decide, Or.inl T.g_InvalidRoom⟩ sc_law_caught_c.nd rfl rfl (i := 2) (fun a oe cls d pn hz hf => (pss_one (ps_ret (pe_tup (pa_cons pe_int (pa_cons (XCat.pe_by T.InvalidRoom hz hf (pv 2)) pa_nil))))))
  (.named ⟨rfl, by decide, Or.inl T.g_InvalidDeed⟩ sc_law_caught_c.nd rfl rfl (i := 2) (fun a oe cls d pn hz hf => (pss_one (ps_ret (pe_tup (pa_cons pe_int (pa_cons (XCat.pe_by T.InvalidDeed hz hf (pv 2)) pa_nil))))))
  (.named ⟨rfl, by decide, Or.inl T.g_InvalidAsked⟩ sc_law_caught_c.nd rfl rfl (i := 2) (fun a oe cls d pn hz hf => (pss_one (ps_ret (pe_tup (pa_cons pe_int (pa_cons (XCat.pe_by T.InvalidAsked hz hf (pv 2)) pa_nil))))))
  .nil)))))))))
  (pss_one (ps_ret pe_non))), ?_⟩
    refine ⟨_, rfl, _, rfl, n, v, rfl, hn, fun h => yes (by omega), fun h => ?_⟩
    by_cases h26 : n < 26
    · rw [raised_at h26]
      intro d hd
      refine wants_step (T.xm n 16 (by omega) (by omega)) (fun c a ha => ?_) fun c16 => ?_
      · subst c
        exact ⟨_, rfl, rfl, rfl, _, _, rfl, upd_same, (by show 2 ≤ sizeLine; decide), fun p hp => told_in (yes (by decide)) hd hp⟩
      refine wants_step (T.xm n 17 (by omega) (by omega)) (fun c a ha => ?_) fun c17 => ?_
      · subst c
        exact ⟨_, rfl, rfl, rfl, _, _, rfl, upd_same, (by show 2 ≤ sizeLine; decide), fun p hp => told_in (yes (by decide)) hd hp⟩
      refine wants_step (T.xm n 18 (by omega) (by omega)) (fun c a ha => ?_) fun c18 => ?_
      · subst c
        exact ⟨_, rfl, rfl, rfl, _, _, rfl, upd_same, (by show 2 ≤ sizeLine; decide), fun p hp => told_in (yes (by decide)) hd hp⟩
      refine wants_step (T.xm n 19 (by omega) (by omega)) (fun c a ha => ?_) fun c19 => ?_
      · subst c
        exact ⟨_, rfl, rfl, rfl, _, _, rfl, upd_same, (by show 2 ≤ sizeLine; decide), fun p hp => told_in (yes (by decide)) hd hp⟩
      refine wants_step (T.xm n 20 (by omega) (by omega)) (fun c a ha => ?_) fun c20 => ?_
      · subst c
        exact ⟨_, rfl, rfl, rfl, _, _, rfl, upd_same, (by show 2 ≤ sizeLine; decide), fun p hp => told_in (yes (by decide)) hd hp⟩
      refine wants_step (T.xm n 21 (by omega) (by omega)) (fun c a ha => ?_) fun c21 => ?_
      · subst c
        exact ⟨_, rfl, rfl, rfl, _, _, rfl, upd_same, (by show 2 ≤ sizeLine; decide), fun p hp => told_in (yes (by decide)) hd hp⟩
      refine wants_step (T.xm n 22 (by omega) (by omega)) (fun c a ha => ?_) fun c22 => ?_
      · subst c
        exact ⟨_, rfl, rfl, rfl, _, _, rfl, upd_same, (by show 2 ≤ sizeLine; decide), fun p hp => told_in (yes (by decide)) hd hp⟩
      refine wants_step (T.xm n 23 (by omega) (by omega)) (fun c a ha => ?_) fun c23 => ?_
      · subst c
        exact ⟨_, rfl, rfl, rfl, _, _, rfl, upd_same, (by show 2 ≤ sizeLine; decide), fun p hp => told_in (yes (by decide)) hd hp⟩
      exact (raised_at h26 ▸ no (by omega)) d hd
    by_cases e26 : n = 26
    · subst e26
      rw [raised_word]
      intro d hd
      refine wants_step (T.xm _ 16 (by omega) (by omega)) (fun c a ha => absurd c (by decide)) fun _ => ?_
      refine wants_step (T.xm _ 17 (by omega) (by omega)) (fun c a ha => absurd c (by decide)) fun _ => ?_
      refine wants_step (T.xm _ 18 (by omega) (by omega)) (fun c a ha => absurd c (by decide)) fun _ => ?_
      refine wants_step (T.xm _ 19 (by omega) (by omega)) (fun c a ha => absurd c (by decide)) fun _ => ?_
      refine wants_step (T.xm _ 20 (by omega) (by omega)) (fun c a ha => absurd c (by decide)) fun _ => ?_
      refine wants_step (T.xm _ 21 (by omega) (by omega)) (fun c a ha => absurd c (by decide)) fun _ => ?_
      refine wants_step (T.xm _ 22 (by omega) (by omega)) (fun c a ha => absurd c (by decide)) fun _ => ?_
      refine wants_step (T.xm _ 23 (by omega) (by omega)) (fun c a ha => absurd c (by decide)) fun _ => ?_
      exact (raised_word ▸ no (by omega)) d hd
    obtain rfl : n = 27 := by omega
    rw [raised_no]
    refine wants_step (T.xm _ 16 (by omega) (by omega)) (fun c a ha => absurd c (by decide)) fun _ => ?_
    refine wants_step (T.xm _ 17 (by omega) (by omega)) (fun c a ha => absurd c (by decide)) fun _ => ?_
    refine wants_step (T.xm _ 18 (by omega) (by omega)) (fun c a ha => absurd c (by decide)) fun _ => ?_
    refine wants_step (T.xm _ 19 (by omega) (by omega)) (fun c a ha => absurd c (by decide)) fun _ => ?_
    refine wants_step (T.xm _ 20 (by omega) (by omega)) (fun c a ha => absurd c (by decide)) fun _ => ?_
    refine wants_step (T.xm _ 21 (by omega) (by omega)) (fun c a ha => absurd c (by decide)) fun _ => ?_
    refine wants_step (T.xm _ 22 (by omega) (by omega)) (fun c a ha => absurd c (by decide)) fun _ => ?_
    refine wants_step (T.xm _ 23 (by omega) (by omega)) (fun c a ha => absurd c (by decide)) fun _ => ?_
    have z := no (by omega)
    rw [raised_no] at z
    exact z
theorem d_law_caught_d (T : Txt K mg cs fs cb) : XD.Def P w K mg base CX0 6 "_law_caught_d" ["number", "thing"] (spCaught cs 28) := by
  have D_law_caught_c : XD.Def P w K mg base (L2.CX P w) 5 "_law_caught_c" ["number", "thing"] (spCaught cs 24) := d_law_caught_c T
  refine XD.mk T.a_law_caught_d (fun a fd F => F.binds (ps := ["number", "thing"]) fun _ _ _ _ _ _ us hl => match us, hl with | [_, _], _ => rfl) fun a fd F => ?_
  refine F.ok sc_law_caught_d (fun vs H Q E h => ?_) (fun cdv A outer s H vs Q E hr h => ?_)
  · obtain ⟨n, v, rfl, _⟩ := h
    rfl
  · obtain ⟨n, v, rfl, hn, yes, no⟩ := h
    refine ⟨_, (pss_cons (XT.ps_try rfl rfl takes0 (fun W pn xe tk _ => (pss_one (ps_ret (by exact (XD.pe_callDS D_law_caught_c (hr.mono (by decide)) (fun σ => passAt tk σ) (pa_cons (pv 0) (pa_cons (pv 1) pa_nil)))))))
  (.named ⟨rfl, by decide, Or.inl T.g_InvalidIndex⟩ sc_law_caught_d.nd rfl rfl (i := 2) (fun a oe cls d pn hz hf => (pss_one (ps_ret (pe_tup (pa_cons pe_int (pa_cons (XCat.pe_by T.InvalidIndex hz hf (pv 2)) pa_nil))))))
  (.named ⟨rfl, by decide, Or.inl T.g_Refused⟩ sc_law_caught_d.nd rfl rfl (i := 2) (fun a oe cls d pn hz hf => (pss_one (ps_ret (pe_tup (pa_cons pe_int (pa_cons (XCat.pe_by T.Refused hz hf (pv 2)) pa_nil))))))
  (.named ⟨rfl, by decide, Or.inl T.g_InvalidSize⟩ sc_law_caught_d.nd rfl rfl (i := 2) (fun a oe cls d pn hz hf => (pss_one (ps_ret (pe_tup (pa_cons pe_int (pa_cons (XCword.pe_by T.InvalidSize hz hf (pv 2)) pa_nil))))))
  (.plain ⟨rfl, by decide, Or.inl T.g_InvalidCommand⟩ (fun a oe cls d pn hz hf => (pss_one (ps_ret (pe_tup (pa_cons pe_int (pa_cons (pv 1) pa_nil))))))
  .nil)))))
  (pss_one (ps_ret pe_non))), ?_⟩
    refine ⟨_, rfl, _, rfl, n, v, rfl, hn, fun h => yes (by omega), fun h => ?_⟩
    by_cases h26 : n < 26
    · rw [raised_at h26]
      intro d hd
      refine wants_step (T.xm n 24 (by omega) (by omega)) (fun c a ha => ?_) fun c24 => ?_
      · subst c
        exact ⟨_, rfl, rfl, rfl, _, _, rfl, upd_same, (by show 2 ≤ sizeLine; decide), fun p hp => told_in (yes (by decide)) hd hp⟩
      refine wants_step (T.xm n 25 (by omega) (by omega)) (fun c a ha => ?_) fun c25 => ?_
      · subst c
        exact ⟨_, rfl, rfl, rfl, _, _, rfl, upd_same, (by show 2 ≤ sizeLine; decide), fun p hp => told_in (yes (by decide)) hd hp⟩
      omega
    by_cases e26 : n = 26
    · subst e26
      rw [raised_word]
      intro d hd
      refine wants_step (T.xm _ 24 (by omega) (by omega)) (fun c a ha => absurd c (by decide)) fun _ => ?_
      refine wants_step (T.xm _ 25 (by omega) (by omega)) (fun c a ha => absurd c (by decide)) fun _ => ?_
      refine wants_step (T.xm _ 26 (by omega) (by omega)) (fun c a ha => ?_) fun c => absurd rfl c
      exact ⟨_, rfl, rfl, rfl, _, _, rfl, upd_same, (by show 2 ≤ sizeLine; decide), fun p hp => told_in (yes (by decide)) hd hp⟩
    obtain rfl : n = 27 := by omega
    rw [raised_no]
    refine wants_step (T.xm _ 24 (by omega) (by omega)) (fun c a ha => absurd c (by decide)) fun _ => ?_
    refine wants_step (T.xm _ 25 (by omega) (by omega)) (fun c a ha => absurd c (by decide)) fun _ => ?_
    refine wants_step (T.xm _ 26 (by omega) (by omega)) (fun c a ha => absurd c (by decide)) fun _ => ?_
    refine wants_step (T.xm _ 27 (by omega) (by omega)) (fun c a ha => ?_) fun c => absurd rfl c
    exact ⟨_, rfl, (by show 2 ≤ sizeLine; decide), fun p hp => yes (by decide) p _ hp (same_upd hp) upd_same⟩
theorem d_law_is_base (T : Txt K mg cs fs cb) : XD.Def P w K mg base CX0 3 "_law_is_base" ["number", "thing"] spBase := by
  have D_law_raise : XD.Def P w K mg base (L2.CX P w) 2 "_law_raise" ["number", "thing"] (spRaise cs 0 28) := d_law_raise T
  refine XD.mk T.a_law_is_base (fun a fd F => F.binds (ps := ["number", "thing"]) fun _ _ _ _ _ _ us hl => match us, hl with | [_, _], _ => rfl) fun a fd F => ?_
  refine F.ok sc_law_is_base (fun vs H Q E h => ?_) (fun cdv A outer s H vs Q E hr h => ?_)
  · obtain ⟨n, v, rfl, _⟩ := h
    rfl
  · obtain ⟨n, v, rfl, hn, q⟩ := h
    refine ⟨_, (pss_cons (XT.ps_try rfl rfl takes0 (fun W pn xe tk _ => (pss_one (ps_expr (by exact (XD.pe_callDS D_law_raise (hr.mono (by decide)) (fun σ => passAt tk σ) (pa_cons (pv 0) (pa_cons (pv 1) pa_nil)))))))
  (.plain ⟨rfl, by decide, Or.inl T.g_TwinError⟩ (fun a oe cls d pn hz hf => (pss_one (ps_ret pe_bl)))
  .nil))
  (pss_one (ps_ret pe_bl))), ?_⟩
    refine ⟨_, rfl, _, rfl, n, v, rfl, Nat.zero_le _, hn, ?_⟩
    by_cases h26 : n < 26
    · rw [raised_at h26]
      intro d hd
      exact ⟨true, T.xb n hn, fun _ a ha => q _ (same_upd hd), fun z => Bool.noConfusion z⟩
    by_cases e26 : n = 26
    · subst e26
      rw [raised_word]
      intro d hd
      exact ⟨true, T.xb _ hn, fun _ a ha => q _ (same_upd hd), fun z => Bool.noConfusion z⟩
    obtain rfl : n = 27 := by omega
    rw [raised_no]
    exact ⟨true, T.xb _ hn, fun _ a ha => q _ (Same.refl _), fun z => Bool.noConfusion z⟩
def spLaw (K : PySem.W.Frag) : Sp := fun vs H Q _ => ∃ (a : Addr) (ns : List Int), vs = [.ref a] ∧ SqL K H a (ns.map V.int) ∧ ∀ H', Q (.bl true) H'
/-- what a drawn thing is, as data that can be shown -/
def Shows (K : PySem.W.Frag) (H : Hp) (v : V) : Prop := ∃ d : PyData, (∀ H', Same H H' → Dp K H' v d) ∧ d.showable = true ∧ d.hasDict = false ∧ d.depth ≤ 50 ∧ ∀ i : Nat, i < 28 → (PyData.tuple [.int i, d]).shown.length ≤ sizeLine
theorem same_dp {K : PySem.W.Frag} {H : Hp} : ∀ {v : V} {d : PyData}, flatV v = true → Dp K H v d → ∀ H', Dp K H' v d := fun hf h H' => by
  cases h with
  | non => exact .non
  | bl b => exact .bl b
  | int i => exact .int i
  | str x => exact .str x
  | lst _ _ => cases hf
  | tup _ _ => cases hf
theorem shows_of {K : PySem.W.Frag} {H : Hp} {t l3 : Addr} {v : V} (ht : H t = some (.tup [.int 1, .int 2])) (hl : H l3 = some (.lst [.int 3])) (mv : v ∈ [V.int 0, .int (-1), .non, .str "words", .ref t, .ref l3, .bl true, .int 7]) : Shows K H v := by
  simp only [List.mem_cons, List.not_mem_nil, or_false] at mv
  rcases mv with rfl | rfl | rfl | rfl | rfl | rfl | rfl | rfl
  · exact ⟨.int 0, fun _ _ => .int 0, by decide +kernel, by decide +kernel, by decide +kernel, by decide +kernel⟩
  · exact ⟨.int (-1), fun _ _ => .int (-1), by decide +kernel, by decide +kernel, by decide +kernel, by decide +kernel⟩
  · exact ⟨.none, fun _ _ => .non, by decide +kernel, by decide +kernel, by decide +kernel, by decide +kernel⟩
  · exact ⟨.str "words", fun _ _ => .str _, by decide +kernel, by decide +kernel, by decide +kernel, by decide +kernel⟩
  · exact ⟨.tuple [.int 1, .int 2], fun H' s => .tup (SqT.of (s _ _ ht)) (.cons (.int 1) (.cons (.int 2) .nil)), by decide +kernel, by decide +kernel, by decide +kernel, by decide +kernel⟩
  · exact ⟨.list [.int 3], fun H' s => .lst (SqL.of (s _ _ hl)) (.cons (.int 3) .nil), by decide +kernel, by decide +kernel, by decide +kernel, by decide +kernel⟩
  · exact ⟨.bool true, fun _ _ => .bl true, by decide +kernel, by decide +kernel, by decide +kernel, by decide +kernel⟩
  · exact ⟨.int 7, fun _ _ => .int 7, by decide +kernel, by decide +kernel, by decide +kernel, by decide +kernel⟩
theorem ok_law (T : Txt K mg cs fs cb) {f : Addr} {fd : FuncData} (F : Fun K "law" "law" s_law f fd) : XG.FnG P w K mg base CX0 7 f fd ["script"] (spLaw K) := by
  have D_law_box : XD.Def P w K mg base CX0 1 "_law_box" ["script", "k"] (spBox K) := d_box T.box
  have D_law_pick : XD.Def P w K mg base CX0 2 "_law_pick" ["box", "some"] (spPick K) := d_pick T.box
  have D_law_caught_d : XD.Def P w K mg base CX0 6 "_law_caught_d" ["number", "thing"] (spCaught cs 28) := d_law_caught_d T
  have D_law_is_base : XD.Def P w K mg base CX0 3 "_law_is_base" ["number", "thing"] spBase := d_law_is_base T
  refine XG.okG F sc_law (fun vs H Q E h => ?_) (fun cdv A outer s H vs Q E gd hr h => ?_)
  · obtain ⟨a, ns, rfl, _⟩ := h
    rfl
  · obtain ⟨a, ns, rfl, hS, q⟩ := h
    have hu := hr.units
    refine ⟨_, (pss_cons (ps_set (i := 1) sc_law.nd rfl (Or.inl rfl) (XD.pe_callD D_law_box (hr.mono (by decide)) pass0 (pa_cons (pv 0) (pa_cons pe_int pa_nil))))
  (pss_cons (ps_for PassesOwn.never rfl (pi_range1 rfl T.no_range (pa_cons pe_int pa_nil)) (pg_name (i := 2) sc_law.nd rfl (Or.inl rfl)) (pss_cons (ps_set (i := 3) sc_law.nd rfl (Or.inl rfl) (XD.pe_callD D_law_pick (hr.mono (by decide)) pass0 (pa_cons (pv 1) (pa_cons (pe_lst (pa_cons pe_int (pa_cons (pe_un un_neg pe_int) (pa_cons pe_non (pa_cons pe_str (pa_cons (pe_tup (pa_cons pe_int (pa_cons pe_int pa_nil))) (pa_cons (pe_lst (pa_cons pe_int pa_nil)) (pa_cons pe_bl (pa_cons pe_int pa_nil))))))))) pa_nil))))
  (pss_one (ps_if (PW.pt (pw_or (pt_cmpR op_ne (pe_callB (XG.call_repr gd hu) (by rfl) T.no_repr (by decide +kernel) (pa_cons (XD.pe_callD D_law_caught_d (hr.mono (by decide)) pass0 (pa_cons (pv 2) (pa_cons (pv 3) pa_nil))) pa_nil)) (pe_callB (XG.call_repr gd hu) (by rfl) T.no_repr (by decide +kernel) (pa_cons (pe_tup (pa_cons (pv 2) (pa_cons (pv 3) pa_nil))) pa_nil)) (nomark _)) (pw_or1 (pt_not (pt_val (XD.pe_callD D_law_is_base (hr.mono (by decide)) pass0 (pa_cons (pv 2) (pa_cons (pv 3) pa_nil)))))))) (pss_one (ps_ret pe_bl)) pss_nil))))
  (pss_cons (ps_set (i := 4) sc_law.nd rfl (Or.inl rfl) (pe_tup (pa_cons (XCat.pe_kw T.InvalidText T.g_InvalidText hr (pk_cons (pe_un un_neg pe_int) pk_nil)) (pa_cons (XCat.pe_kw T.InvalidTwin T.g_InvalidTwin hr (pk_cons pe_int pk_nil)) (pa_cons (XCword.pe_kw T.InvalidSize T.g_InvalidSize hr (pk_cons pe_str pk_nil)) (pa_cons (XCat.pe_kw T.Refused T.g_Refused hr (pk_cons pe_str pk_nil)) pa_nil))))))
  (pss_one (ps_ret (pe_cmpR (op_eqD hr.units) (pv 4) (pe_tup (pa_cons (pe_un un_neg pe_int) (pa_cons pe_int (pa_cons pe_str (pa_cons pe_str pa_nil))))) (nomark _))))))), ?_⟩
    refine ⟨_, rfl, a, ns, 0, rfl, hS, fun b H1 nb s1 hb => ?_⟩
    refine ⟨28, rfl, by decide, by decide, for_range (lo := 0) (n := 28) (fun i σ H' => ∃ nv tv, σ = [some (.ref a), some (.ref b), nv, tv, none] ∧ BoxAt H' b) ⟨none, none, rfl, hb⟩ ?_ ?_⟩
    · rintro i σ H' hi ⟨nv, tv, rfl, hb'⟩
      have ei : (0 : Int) + (i : Int) = (i : Int) := Int.zero_add _
      rw [ei]
      refine ⟨_, rfl, _, rfl, (by show 2 ≤ sizeLine; decide), fun t ht => ⟨(by show 1 ≤ sizeLine; decide), fun l3 hl3 => ⟨(by show 8 ≤ sizeLine; decide), fun l hl => ?_⟩⟩⟩
      obtain ⟨x, y, z, hbb⟩ := hb'
      have nbt : b ≠ t := ne_of_none hbb ht
      have h1 := (same_upd (o := .tup [.int 1, .int 2]) ht) _ _ hbb
      have nbl3 : b ≠ l3 := ne_of_none h1 hl3
      have h2 := (same_upd (o := .lst [.int 3]) hl3) _ _ h1
      have nbl : b ≠ l := ne_of_none h2 hl
      have h3 := (same_upd (o := .lst [V.int 0, .int (-1), .non, .str "words", .ref t, .ref l3, .bl true, .int 7]) hl) _ _ h2
      refine ⟨b, l, _, rfl, ⟨x, y, z, h3⟩, upd_same, nbl.symm, (by show 0 < 8; decide), (by show 8 < 1000; decide), fun v H2 mv hb2 bt fr => ?_⟩
      have ht2 : H2 t = some (.tup [.int 1, .int 2]) := bt t _ nbt.symm (by
        have e1 : upd H' t (.tup [.int 1, .int 2]) t = some (.tup [.int 1, .int 2]) := upd_same
        exact same_upd hl _ _ (same_upd hl3 _ _ e1))
      have hl2 : H2 l3 = some (.lst [.int 3]) := bt l3 _ nbl3.symm (same_upd hl _ _ upd_same)
      obtain ⟨d, hd, ds, dd, dp, dz⟩ := shows_of (K := K) ht2 hl2 mv
      have sh : ∀ H3, Same H2 H3 → ∀ p, H3 p = some (.tup [.int (i : Int), v]) → ∃ (a : Addr) (e : PyData), [V.ref p] = [.ref a] ∧ Dp K H3 (.ref a) e ∧ e.showable = true ∧ e.hasDict = false ∧ e.depth ≤ 60 ∧ e.shown.length ≤ sizeLine ∧ e = .tuple [.int (i : Int), d] := fun H3 s3 p hp => by
        refine ⟨p, _, rfl, .tup (SqT.of hp) (.cons (.int _) (.cons (hd _ s3) .nil)), ?_, ?_, ?_, dz i hi, rfl⟩
        · have e1 : PyData.showable (.int (i : Int)) = true := by
            have h : ∀ i : Nat, i < 28 → PyData.showable (.int (i : Int)) = true := by decide +kernel
            exact h i hi
          simp only [PyData.showable, PyData.showableAll, Bool.and_true, Bool.and_eq_true] at *
          exact ⟨e1, ds⟩
        · simp only [PyData.hasDict, PyData.hasDictAll, Bool.or_false, Bool.false_or] at *
          exact dd
        · simp only [PyData.depth, PyData.depthAll]
          omega
      refine ⟨_, rfl, _, rfl, i, v, rfl, hi, fun _ p H3 np s3 hp => ?_, fun z => absurd hi (Nat.not_lt.mpr z)⟩
      obtain ⟨_, _, ea, e1, e2, e3, e4, e5, rfl⟩ := sh H3 s3 p hp
      cases ea
      refine ⟨p, _, rfl, e1, e2, e3, e4, e5, _, rfl, _, rfl, (by show 2 ≤ sizeLine; decide), fun p2 hp2 => ?_⟩
      obtain ⟨_, _, ea, f1, f2, f3, f4, f5, rfl⟩ := sh _ (s3.trans (same_upd hp2)) p2 upd_same
      cases ea
      refine ⟨p2, _, rfl, f1, f2, f3, f4, f5, rfl, _, rfl, ?_⟩
      rw [decide_eq_true rfl]
      refine iteF ⟨_, rfl, _, rfl, i, v, rfl, hi, fun H5 s5 => ⟨true, rfl, iteF ?_⟩⟩
      obtain ⟨x2, y2, z2, hb3⟩ := hb2
      exact ⟨_, _, rfl, x2, y2, z2, s5 _ _ (same_upd hp2 _ _ (s3 _ _ hb3))⟩
    · rintro σ H' ⟨nv, tv, rfl, _⟩
      refine ⟨_, rfl, _, rfl, _, rfl, _, rfl, _, rfl, (by show 4 ≤ sizeLine; decide), fun kp hkp => ?_⟩
      refine ⟨_, rfl, _, rfl, (by show 4 ≤ sizeLine; decide), fun q2 hq2 => ?_⟩
      refine ⟨_, _, .tup (SqT.of (same_upd hq2 _ _ upd_same)) (.cons (.int _) (.cons (.int _) (.cons (.str _) (.cons (.str _) .nil)))), .tup (SqT.of upd_same) (.cons (.int _) (.cons (.int _) (.cons (.str _) (.cons (.str _) .nil)))), by decide +kernel, by decide +kernel, ?_⟩
      exact q _
theorem txt_mk {C0 C1 C2 C3 C4 C5 C6 C7 C8 C9 C10 C11 C12 C13 C14 C15 C16 C17 C18 C19 C20 C21 C22 C23 C24 C25 C26 C27 F0 F1 F2 F3 F4 F5 F6 F7 F8 F9 F10 F11 F12 F13 F14 F15 F16 F17 F18 F19 F20 F21 F22 F23 F24 F25 F26 CB : Addr} (box : TxtBox K mg) (t0 : PySem.XCat.Txt K C0 F0) (g0 : mg "InvalidText" = some (.ref C0)) (t1 : PySem.XCat.Txt K C1 F1) (g1 : mg "InvalidMachine" = some (.ref C1)) (t2 : PySem.XCat.Txt K C2 F2) (g2 : mg "InvalidLate" = some (.ref C2)) (t3 : PySem.XCat.Txt K C3 F3) (g3 : mg "InvalidWord" = some (.ref C3)) (t4 : PySem.XCat.Txt K C4 F4) (g4 : mg "InvalidKind" = some (.ref C4)) (t5 : PySem.XCat.Txt K C5 F5) (g5 : mg "InvalidState" = some (.ref C5)) (t6 : PySem.XCat.Txt K C6 F6) (g6 : mg "InvalidMap" = some (.ref C6)) (t7 : PySem.XCat.Txt K C7 F7) (g7 : mg "InvalidStory" = some (.ref C7)) (t8 : PySem.XCat.Txt K C8 F8) (g8 : mg "InvalidMoment" = some (.ref C8)) (t9 : PySem.XCat.Txt K C9 F9) (g9 : mg "InvalidPlaces" = some (.ref C9)) (t10 : PySem.XCat.Txt K C10 F10) (g10 : mg "InvalidTwin" = some (.ref C10)) (t11 : PySem.XCat.Txt K C11 F11) (g11 : mg "InvalidItems" = some (.ref C11)) (t12 : PySem.XCat.Txt K C12 F12) (g12 : mg "InvalidPaper" = some (.ref C12)) (t13 : PySem.XCat.Txt K C13 F13) (g13 : mg "InvalidLateness" = some (.ref C13)) (t14 : PySem.XCat.Txt K C14 F14) (g14 : mg "InvalidGone" = some (.ref C14)) (t15 : PySem.XCat.Txt K C15 F15) (g15 : mg "InvalidLot" = some (.ref C15)) (t16 : PySem.XCat.Txt K C16 F16) (g16 : mg "InvalidPanel" = some (.ref C16)) (t17 : PySem.XCat.Txt K C17 F17) (g17 : mg "InvalidPlant" = some (.ref C17)) (t18 : PySem.XCat.Txt K C18 F18) (g18 : mg "InvalidLetter" = some (.ref C18)) (t19 : PySem.XCat.Txt K C19 F19) (g19 : mg "InvalidMarks" = some (.ref C19)) (t20 : PySem.XCat.Txt K C20 F20) (g20 : mg "InvalidReadings" = some (.ref C20)) (t21 : PySem.XCat.Txt K C21 F21) (g21 : mg "InvalidRoom" = some (.ref C21)) (t22 : PySem.XCat.Txt K C22 F22) (g22 : mg "InvalidDeed" = some (.ref C22)) (t23 : PySem.XCat.Txt K C23 F23) (g23 : mg "InvalidAsked" = some (.ref C23)) (t24 : PySem.XCat.Txt K C24 F24) (g24 : mg "InvalidIndex" = some (.ref C24)) (t25 : PySem.XCat.Txt K C25 F25) (g25 : mg "Refused" = some (.ref C25)) (t26 : PySem.XCword.Txt K C26 F26) (g26 : mg "InvalidSize" = some (.ref C26)) (q27 : PySem.W.excIn K C27 PySem.XC.tailE "Exception.__new__" = true) (k27 : PySem.W.keepIn K (.ref C27) = true) (s27 : PySem.W.subIn K (.ref C27) (.type "BaseException") = some true) (y27 : PySem.W.typeIn K (.ref C27) = some (.type "type")) (g27 : mg "InvalidCommand" = some (.ref C27)) (gb : mg "TwinError" = some (.ref CB)) (ap : XE.apart K [C0, C1, C2, C3, C4, C5, C6, C7, C8, C9, C10, C11, C12, C13, C14, C15, C16, C17, C18, C19, C20, C21, C22, C23, C24, C25, C26, C27] = true) (bl : XE.below K [C0, C1, C2, C3, C4, C5, C6, C7, C8, C9, C10, C11, C12, C13, C14, C15, C16, C17, C18, C19, C20, C21, C22, C23, C24, C25, C26, C27] CB = true) (a0 : XD.At K mg "_law_raise_a" s_law_raise_a) (a1 : XD.At K mg "_law_raise_b" s_law_raise_b) (a2 : XD.At K mg "_law_raise_c" s_law_raise_c) (a3 : XD.At K mg "_law_raise_d" s_law_raise_d) (a4 : XD.At K mg "_law_raise" s_law_raise) (a5 : XD.At K mg "_law_caught_a" s_law_caught_a) (a6 : XD.At K mg "_law_caught_b" s_law_caught_b) (a7 : XD.At K mg "_law_caught_c" s_law_caught_c) (a8 : XD.At K mg "_law_caught_d" s_law_caught_d) (a9 : XD.At K mg "_law_is_base" s_law_is_base) (r1 : mg "range" = none) (r2 : mg "repr" = none) : Txt K mg (fun n => [C0, C1, C2, C3, C4, C5, C6, C7, C8, C9, C10, C11, C12, C13, C14, C15, C16, C17, C18, C19, C20, C21, C22, C23, C24, C25, C26, C27].getD n 0) (fun n => [F0, F1, F2, F3, F4, F5, F6, F7, F8, F9, F10, F11, F12, F13, F14, F15, F16, F17, F18, F19, F20, F21, F22, F23, F24, F25, F26].getD n 0) CB :=
  ⟨box, t0, g0, t1, g1, t2, g2, t3, g3, t4, g4, t5, g5, t6, g6, t7, g7, t8, g8, t9, g9, t10, g10, t11, g11, t12, g12, t13, g13, t14, g14, t15, g15, t16, g16, t17, g17, t18, g18, t19, g19, t20, g20, t21, g21, t22, g22, t23, g23, t24, g24, t25, g25, t26, g26, q27, k27, s27, y27, g27, gb, fun n m hn hm => XE.apart_at ap hn hm, fun n hn => XE.below_at bl hn, a0, a1, a2, a3, a4, a5, a6, a7, a8, a9, r1, r2⟩
end
end K00
open PySem PySem.W PyProof.Rows
set_option maxHeartbeats 0
open_top head_k00 for PySem.Challenge.rw_forgetwhen_k00_whole_errors_and_what_the
open PySem PySem.W PyProof.Rows
set_option maxHeartbeats 0 in
theorem PySem.Challenge.cw_forgetwhen_k00_whole_errors_and_what_the_holds : PySem.Challenge.rw_forgetwhen_k00_whole_errors_and_what_the.Holds :=
  head_k00 (by
  k_fill
  refine XG.walkG (l := PySem.Challenge.rw_forgetwhen_k00_whole_errors_and_what_the) (n := 63) (k := 7) (x := "script") (sp := K00.spLaw) rfl (by decide) rfl ⟨rfl, by decide, by decide⟩ (fun w h Y => PySem.W.kIn_of Y) ?F (fun K H a ns _ _ hS => ⟨a, ns, rfl, hS, fun _ => rfl⟩)
  case F =>
    intro w mg fa h KX G hmg
    refine' XE.with_at "_law_box" K00.s_law_box KX G ?a ?l ?c ?k (fun ab => ?_); (case a => k_is); (case l => k_is); (case c => k_is); (case k => k_is)
    refine' XE.with_at "_law_take" K00.s_law_take KX G ?a ?l ?c ?k (fun at_ => ?_); (case a => k_is); (case l => k_is); (case c => k_is); (case k => k_is)
    refine' XE.with_at "_law_pick" K00.s_law_pick KX G ?a ?l ?c ?k (fun ap => ?_); (case a => k_is); (case l => k_is); (case c => k_is); (case k => k_is)
    refine' XE.with_at "_law_raise_a" K00.s_law_raise_a KX G ?a ?l ?c ?k (fun a0 => ?_); (case a => k_is); (case l => k_is); (case c => k_is); (case k => k_is)
    refine' XE.with_at "_law_raise_b" K00.s_law_raise_b KX G ?a ?l ?c ?k (fun a1 => ?_); (case a => k_is); (case l => k_is); (case c => k_is); (case k => k_is)
    refine' XE.with_at "_law_raise_c" K00.s_law_raise_c KX G ?a ?l ?c ?k (fun a2 => ?_); (case a => k_is); (case l => k_is); (case c => k_is); (case k => k_is)
    refine' XE.with_at "_law_raise_d" K00.s_law_raise_d KX G ?a ?l ?c ?k (fun a3 => ?_); (case a => k_is); (case l => k_is); (case c => k_is); (case k => k_is)
    refine' XE.with_at "_law_raise" K00.s_law_raise KX G ?a ?l ?c ?k (fun a4 => ?_); (case a => k_is); (case l => k_is); (case c => k_is); (case k => k_is)
    refine' XE.with_at "_law_caught_a" K00.s_law_caught_a KX G ?a ?l ?c ?k (fun a5 => ?_); (case a => k_is); (case l => k_is); (case c => k_is); (case k => k_is)
    refine' XE.with_at "_law_caught_b" K00.s_law_caught_b KX G ?a ?l ?c ?k (fun a6 => ?_); (case a => k_is); (case l => k_is); (case c => k_is); (case k => k_is)
    refine' XE.with_at "_law_caught_c" K00.s_law_caught_c KX G ?a ?l ?c ?k (fun a7 => ?_); (case a => k_is); (case l => k_is); (case c => k_is); (case k => k_is)
    refine' XE.with_at "_law_caught_d" K00.s_law_caught_d KX G ?a ?l ?c ?k (fun a8 => ?_); (case a => k_is); (case l => k_is); (case c => k_is); (case k => k_is)
    refine' XE.with_at "_law_is_base" K00.s_law_is_base KX G ?a ?l ?c ?k (fun a9 => ?_); (case a => k_is); (case l => k_is); (case c => k_is); (case k => k_is)
    refine' XE.with_xat "InvalidText" KX G ?a ?i ?l ?c ?g (fun t0 g0 => ?_); (case a => k_is); (case i => k_is); (case l => k_is); (case c => k_is); (case g => kernel_rfl)
    refine' XE.with_xat "InvalidMachine" KX G ?a ?i ?l ?c ?g (fun t1 g1 => ?_); (case a => k_is); (case i => k_is); (case l => k_is); (case c => k_is); (case g => kernel_rfl)
    refine' XE.with_xat "InvalidLate" KX G ?a ?i ?l ?c ?g (fun t2 g2 => ?_); (case a => k_is); (case i => k_is); (case l => k_is); (case c => k_is); (case g => kernel_rfl)
    refine' XE.with_xat "InvalidWord" KX G ?a ?i ?l ?c ?g (fun t3 g3 => ?_); (case a => k_is); (case i => k_is); (case l => k_is); (case c => k_is); (case g => kernel_rfl)
    refine' XE.with_xat "InvalidKind" KX G ?a ?i ?l ?c ?g (fun t4 g4 => ?_); (case a => k_is); (case i => k_is); (case l => k_is); (case c => k_is); (case g => kernel_rfl)
    refine' XE.with_xat "InvalidState" KX G ?a ?i ?l ?c ?g (fun t5 g5 => ?_); (case a => k_is); (case i => k_is); (case l => k_is); (case c => k_is); (case g => kernel_rfl)
    refine' XE.with_xat "InvalidMap" KX G ?a ?i ?l ?c ?g (fun t6 g6 => ?_); (case a => k_is); (case i => k_is); (case l => k_is); (case c => k_is); (case g => kernel_rfl)
    refine' XE.with_xat "InvalidStory" KX G ?a ?i ?l ?c ?g (fun t7 g7 => ?_); (case a => k_is); (case i => k_is); (case l => k_is); (case c => k_is); (case g => kernel_rfl)
    refine' XE.with_xat "InvalidMoment" KX G ?a ?i ?l ?c ?g (fun t8 g8 => ?_); (case a => k_is); (case i => k_is); (case l => k_is); (case c => k_is); (case g => kernel_rfl)
    refine' XE.with_xat "InvalidPlaces" KX G ?a ?i ?l ?c ?g (fun t9 g9 => ?_); (case a => k_is); (case i => k_is); (case l => k_is); (case c => k_is); (case g => kernel_rfl)
    refine' XE.with_xat "InvalidTwin" KX G ?a ?i ?l ?c ?g (fun t10 g10 => ?_); (case a => k_is); (case i => k_is); (case l => k_is); (case c => k_is); (case g => kernel_rfl)
    refine' XE.with_xat "InvalidItems" KX G ?a ?i ?l ?c ?g (fun t11 g11 => ?_); (case a => k_is); (case i => k_is); (case l => k_is); (case c => k_is); (case g => kernel_rfl)
    refine' XE.with_xat "InvalidPaper" KX G ?a ?i ?l ?c ?g (fun t12 g12 => ?_); (case a => k_is); (case i => k_is); (case l => k_is); (case c => k_is); (case g => kernel_rfl)
    refine' XE.with_xat "InvalidLateness" KX G ?a ?i ?l ?c ?g (fun t13 g13 => ?_); (case a => k_is); (case i => k_is); (case l => k_is); (case c => k_is); (case g => kernel_rfl)
    refine' XE.with_xat "InvalidGone" KX G ?a ?i ?l ?c ?g (fun t14 g14 => ?_); (case a => k_is); (case i => k_is); (case l => k_is); (case c => k_is); (case g => kernel_rfl)
    refine' XE.with_xat "InvalidLot" KX G ?a ?i ?l ?c ?g (fun t15 g15 => ?_); (case a => k_is); (case i => k_is); (case l => k_is); (case c => k_is); (case g => kernel_rfl)
    refine' XE.with_xat "InvalidPanel" KX G ?a ?i ?l ?c ?g (fun t16 g16 => ?_); (case a => k_is); (case i => k_is); (case l => k_is); (case c => k_is); (case g => kernel_rfl)
    refine' XE.with_xat "InvalidPlant" KX G ?a ?i ?l ?c ?g (fun t17 g17 => ?_); (case a => k_is); (case i => k_is); (case l => k_is); (case c => k_is); (case g => kernel_rfl)
    refine' XE.with_xat "InvalidLetter" KX G ?a ?i ?l ?c ?g (fun t18 g18 => ?_); (case a => k_is); (case i => k_is); (case l => k_is); (case c => k_is); (case g => kernel_rfl)
    refine' XE.with_xat "InvalidMarks" KX G ?a ?i ?l ?c ?g (fun t19 g19 => ?_); (case a => k_is); (case i => k_is); (case l => k_is); (case c => k_is); (case g => kernel_rfl)
    refine' XE.with_xat "InvalidReadings" KX G ?a ?i ?l ?c ?g (fun t20 g20 => ?_); (case a => k_is); (case i => k_is); (case l => k_is); (case c => k_is); (case g => kernel_rfl)
    refine' XE.with_xat "InvalidRoom" KX G ?a ?i ?l ?c ?g (fun t21 g21 => ?_); (case a => k_is); (case i => k_is); (case l => k_is); (case c => k_is); (case g => kernel_rfl)
    refine' XE.with_xat "InvalidDeed" KX G ?a ?i ?l ?c ?g (fun t22 g22 => ?_); (case a => k_is); (case i => k_is); (case l => k_is); (case c => k_is); (case g => kernel_rfl)
    refine' XE.with_xat "InvalidAsked" KX G ?a ?i ?l ?c ?g (fun t23 g23 => ?_); (case a => k_is); (case i => k_is); (case l => k_is); (case c => k_is); (case g => kernel_rfl)
    refine' XE.with_xat "InvalidIndex" KX G ?a ?i ?l ?c ?g (fun t24 g24 => ?_); (case a => k_is); (case i => k_is); (case l => k_is); (case c => k_is); (case g => kernel_rfl)
    refine' XE.with_xat "Refused" KX G ?a ?i ?l ?c ?g (fun t25 g25 => ?_); (case a => k_is); (case i => k_is); (case l => k_is); (case c => k_is); (case g => kernel_rfl)
    refine' XE.with_xword "InvalidSize" KX G ?a ?i ?l ?c ?g (fun t26 g26 => ?_); (case a => k_is); (case i => k_is); (case l => k_is); (case c => k_is); (case g => kernel_rfl)
    refine' XE.with_cls "InvalidCommand" KX G ?a (fun g27 => ?_); (case a => k_is)
    refine' XE.with_cls "TwinError" KX G ?a (fun gb => ?_); (case a => k_is)
    refine' XE.with_none "len" KX G ?a (fun no_len => ?_); (case a => k_is)
    refine' XE.with_none "abs" KX G ?a (fun no_abs => ?_); (case a => k_is)
    refine' XE.with_none "int" KX G ?a (fun no_int => ?_); (case a => k_is)
    refine' XE.with_none "range" KX G ?a (fun no_range => ?_); (case a => k_is)
    refine' XE.with_none "repr" KX G ?a (fun no_repr => ?_); (case a => k_is)
    refine' XE.law_mk (st := K00.s_law) KX G hmg ?a ?l ?c ?k (fun s u => .of_eq rfl) (fun base fd F => K00.ok_law (K00.txt_mk ⟨ab, at_, ap, no_len, no_abs, no_int⟩ t0 g0 t1 g1 t2 g2 t3 g3 t4 g4 t5 g5 t6 g6 t7 g7 t8 g8 t9 g9 t10 g10 t11 g11 t12 g12 t13 g13 t14 g14 t15 g15 t16 g16 t17 g17 t18 g18 t19 g19 t20 g20 t21 g21 t22 g22 t23 g23 t24 g24 t25 g25 t26 g26 ?q27 ?k27 ?s27 ?y27 g27 gb ?ap ?bl a0 a1 a2 a3 a4 a5 a6 a7 a8 a9 no_range no_repr) F)
    (case a => k_is)
    (case l => k_is)
    (case c => k_is)
    (case k => k_is)
    (case q27 => kernel_rfl)
    (case k27 => kernel_rfl)
    (case s27 => kernel_rfl)
    (case y27 => kernel_rfl)
    (case ap => kernel_rfl)
    (case bl => kernel_rfl))
