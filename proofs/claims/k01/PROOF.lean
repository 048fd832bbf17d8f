import PyProof.Rows.All
import Wide.All
import OpenK.AllK
import Wide.FinOn
import HandS.ForMost
import PyProof.ReprRoads
import HandS.Wide
import HandS.Style
import HandS.Evl
import HandS.Conv
import HandS.Replace
import HandS.IsInst
import PyProof.P3In
import KE.KSuper
import KE.KExcSuper
import HandS.Base
import HandS.Call
import HandS.Exc
import HandS.ExcInit
import HandS.ExcSuper
import HandS.Nested
import HandS.ExcIs
import HandS.ExcField
import HandS.ExcOwn
import HandS.ExcValue
import KE.KExcIs
import HandS.ExcBuiltin
import HandS.Walk
import PySem.Challenge.RW_lookdone_k01_errors_made_by_hand
set_option Elab.async false
set_option linter.all false
set_option maxRecDepth 100000
set_option maxHeartbeats 4000000
namespace GR
open PySem PySem.Spec PyProof.Rows L2

/-! ### data that stands in the abstract heap -/
section
variable {X : Cx} {pins : List (Addr × Obj)} {σ : L2.St} {H : Hp} {s : Shared}
mutual
theorem nodict {K : PySem.W.Frag} : ∀ {v : V} {d : PyData}, Dp K H v d → d.hasDict = false
  | _, _, .non => by simp only [PyData.hasDict]
  | _, _, .bl b => by simp only [PyData.hasDict]
  | _, _, .int i => by simp only [PyData.hasDict]
  | _, _, .str x => by simp only [PyData.hasDict]
  | _, _, .lst _ q => by simp only [PyData.hasDict, nodicts q]
  | _, _, .tup _ q => by simp only [PyData.hasDict, nodicts q]
theorem nodicts {K : PySem.W.Frag} : ∀ {vs : List V} {ds : List PyData}, DpAll K H vs ds → PyData.hasDictAll ds = false
  | _, _, .nil => by simp only [PyData.hasDictAll]
  | _, _, .cons h q => by simp only [PyData.hasDictAll, nodict h, nodicts q, Bool.or_self]
end

/-- repr of a list or a tuple of data -/
def rRepr (X : Cx) : List V → Hp → VK → Prop := fun xs H Q => ∃ (a : Addr) (d : PyData), xs = [.ref a] ∧ Dp X.K H (.ref a) d ∧ d.showable = true ∧ d.depth ≤ 60 ∧ d.shown.length ≤ sizeLine ∧ Q (.str d.shown) H
theorem call_reprD {k : Nat} (hg : X.A.guards = some []) (hr : Room k X.A) : CallR X (.builtin "repr") (rRepr X) := by
  intro pins s σ H xs us Q I r h
  obtain ⟨a, d, rfl, hd, hs, hdep, hz, q⟩ := h
  obtain ⟨u, rfl, rv⟩ := vals1 r
  obtain rfl : u = Value.ref a := rv
  obtain ⟨as, hR⟩ := Dp.reads I d _ _ hd rfl
  have hu := hr.units
  exact repr_of_reads' hR hs (PyData.noDict_hsm (nodict hd)) hg (by omega) (fun _ _ e => e) (fun h' u tk hk => ⟨.str d.shown, H, I.kept hk, ⟨_, rfl⟩, q⟩) hz
end

/-! ### defs that show things: a promise kept wherever nothing is being shown -/
structure FnG (P : Program) (w : World) (K : PySem.W.Frag) (mg : Str → Option Value) (base : Heap) (CX : CXT) (k : Nat) (f : Addr) (fd : FuncData) (ps : List Str) (sp : Sp) : Prop where
  size : ∀ vs H Q E, sp vs H Q E → vs.length = ps.length
  go : ∀ (A : Around) (outer : List Env) (s : Shared) (H : Hp) (args : Args) (us : List Value) (vs : List V) (Q : VK) (E : XK),
    A.guards = some [] → Room k A → Env0 P w K mg base A outer s H → BindsTo s fd args (ps.zip us) → Vals vs us → sp vs H Q E →
    codeAny (model P w) A (.call (.ref f) args) (CR CX outer P w H s Q E) s

section
variable {P : Program} {w : World} {K : PySem.W.Frag} {mg : Str → Option Value} {base : Heap}
theorem FnG.of {CX : CXT} {k : Nat} {f : Addr} {fd : FuncData} {ps : List Str} {sp : Sp} (F : FnOk P w K mg base CX k f fd ps sp) : FnG P w K mg base CX k f fd ps sp :=
  ⟨F.len, fun A outer s H args us vs Q E _ => F.run A outer s H args us vs Q E⟩

/-- a def by its body, where nothing is being shown -/
theorem ok_g {x qual : Str} {st : Stmt} {f : Addr} {fd : FuncData} {N ps : List Str} {k : Nat} {sp : Sp} (F : Fun K x qual st f fd) (S : FnScope N ps (defScope st)) (size : ∀ vs H Q E, sp vs H Q E → vs.length = ps.length)
    (body : ∀ (cdv : Value) (A : Around) (outer : List Env) (s : Shared) (H : Hp) (vs : List V) (Q : VK) (E : XK), A.guards = some [] → Room k (A.deeper (envOfC qual (defScope st) s.heap.objs.size f cdv)) → sp vs H Q E →
      ∃ t, PSs (cxOf CX0 P w K mg base N qual (defScope st) f cdv A outer s H E).nox (defBody st) t ∧ t { nx := fun _ H' => Q .non H', rt := Q } (start N vs) H) : FnG P w K mg base CX0 (k + 1) f fd ps sp := by
  obtain ⟨oc, od, kV, doc, pm, an, cdv, ct, osl, rfl, lk, hcd⟩ := F.ex
  constructor
  · exact size
  intro A outer s H args us vs Q E gA room e0 bnd rel hsp
  have inK : K.In s.heap := e0.mod.kin.keeps (fun b o q => (e0.bs b o q).1)
  have nolim := e0.mod.nolimit.keeps (fun b o q => (e0.bs b o q).1)
  obtain ⟨t, ht, hq⟩ := body cdv A outer s H vs Q E gA (room.deeper _) hsp
  refine codeAny_call_function room.depth (inK f _ lk) rfl S.co S.gen rfl (PySem.W.codeRec_of inK hcd) (bnd _ _ _ _ ?_)
  refine wpAny_newFunctionEnv_cells S.kind ?par (fun env he s1 inC => ?run)
  case par =>
    rintro ⟨n, v⟩ hy
    rcases S.par n (List.of_mem_zip hy).1 with q | q
    · exact Or.inl q
    · exact Or.inr ⟨q, PySem.W.cellsFrom_some _ _ _ (Or.inl q)⟩
  case run =>
    cases he
    refine And.intro (nolim.keeps inC.toInCall.keep) (codeAny_func ?_)
    have I0 := inv_start (CX := CX0) (P := P) (w := w) (K := K) (mg := mg) (base := base) (E := E) S room.hd e0 (size _ _ _ _ hsp) rel inC
    refine wpAny_mono (ht.nox.run [] s1 (start N vs) H _ I0 hq) ?_ (fun _ _ z => z)
    rintro fl s' hs
    have close : ∀ (σ' : L2.St) (H' : Hp) (v : V) (u : Value), Inv (cxOf CX0 P w K mg base N qual (defScope st) f cdv A outer s H E) [] σ' H' s' → RelV v u → Q v H' → CE outer P w H s Q u s' := by
      intro σ' H' v u J rv q
      exact ⟨v, H', J.os, J.bare, J.base, J.hok, rv, q⟩
    cases fl
    case ret u => obtain ⟨v, σ', H', J, rv, q⟩ := hs; exact close _ _ _ _ J rv q
    case next => obtain ⟨σ', H', J, q⟩ := hs; exact close _ _ V.non Value.none J rfl q
    case brk => obtain ⟨_, _, _, q⟩ := hs; exact q.elim
    case cont => obtain ⟨_, _, _, q⟩ := hs; exact q.elim
end

section
variable {X : Cx} {CX : CXT} {k : Nat} {f : Addr} {fd : FuncData} {ps : List Str} {sp : Sp} {E : XK} {x : Str} {p pos : Pos} {e : Expr} {es : List Expr} {t : TA}
/-- its call -/
theorem pe_callG (F : FnG X.prog X.w X.K X.mg X.base CX k f fd ps sp) (hg : X.A.guards = some []) (hr : Room k X.A) (gx : Gl X x) (hm : X.mg x = some (.ref f)) (hk : PySem.W.keepIn X.K (.ref f) = true) (hb : Binds X.K fd ps []) (hx : Passes CX X E)
    (ha : PA X (e :: es) t) (hdb : (x == ("__debug__" : Str)) = false := by decide) (he : starEach (e :: es) X.env = (false, eval e X.env) :: starEach es X.env := by rfl) (hpl : (backTo pos (starEach es X.env)).any (·.1) = false := by rfl) :
    PE X (.Call (.Name x p) (e :: es) [] pos) (tCall sp [] E t) := by
  constructor
  intro pins s σ H Q I h
  refine wpAny_Call_Name_kw (ld_glob I gx hm (PySem.W.callWith_K (h₀ := X.base) I.ok.mod.kin hk (thn (ha.run pos pins s σ H _ I h) ?_) he hpl) hdb)
  rintro us s1 ⟨vs, H1, I1, r, q⟩
  refine ⟨I1.kIn, ?_⟩
  have q' : sp vs H1 Q E := by simpa using q
  have hl : us.length = ps.length := by
    rw [← r.length]
    exact F.size _ _ _ _ q'
  have hB := hb s1 us I1.kIn (by simpa using hl)
  rw [List.append_nil] at hB
  refine wpAny_call (codeAny_mono (F.go X.A X.stack s1 H1 ⟨us, []⟩ us vs Q E hg hr I1.env0 hB r q') ?_)
  rintro (er | fl) s2 hq
  · exact hx pins σ H1 s1 er s2 I1 hq
  · cases fl
    case ret u => exact I1.after hq
    case next => exact hq.elim
    case brk => exact hq.elim
    case cont => exact hq.elim
end

/-- a comprehension without a test -/
theorem yes_then {σ : L2.St} {H : Hp} {A B : Hp → Prop} (h : A H) : tYes σ H (fun b H3 => if b = true then A H3 else B H3) := by
  show (if true = true then A H else B H)
  rw [if_pos rfl]
  exact h

/-! ### the law's own call -/
/-- the abstract heap in which the script alone is tracked, as it stands -/
def scriptHp (a : Addr) (o : Obj) (xs : List V) : Hp := fun b => if b = a then some (.frz o (.lst xs)) else none
theorem scriptHp_at {a : Addr} {o : Obj} {xs : List V} : scriptHp a o xs a = some (.frz o (.lst xs)) := if_pos rfl
theorem scriptHp_some {a b : Addr} {o : Obj} {xs : List V} {u : HO} (h : scriptHp a o xs b = some u) : b = a ∧ u = .frz o (.lst xs) := by
  unfold scriptHp at h
  split at h
  · rename_i e
    exact ⟨e, (Option.some.inj h).symm⟩
  · cases h

theorem ns_hid {h : Heap} {H : Hp} {b : Addr} {m : Str → Option Value} (q : h.Ns b m) (hb : H b = none) : (hidT h H).Ns b m := by
  obtain ⟨o, es, ep, e, r⟩ := q
  exact ⟨o, es, ep, hidT_get e hb, r⟩

theorem law_callG {P : Program} {w : World} {K : PySem.W.Frag} {mg mb : Str → Option Value} {k : Nat} {fa a : Addr} {fd : FuncData} {x : Str} {sp : Sp} {s₁ : Shared} {vs : List Value} {ns : List Int}
    (KX : K.In s₁.heap) (hns : s₁.heap.Ns mainGlobals mg) (hb : s₁.heap.Ns builtinsNs mb) (hbb : ∀ x : Str, x ≠ "__name__" → mb x = bootBuiltins x) (hlim : s₁.heap.NoLimit) (hg : s₁.gens = #[])
    (ha : s₁.heap.get? a = some { cls := .type "list", data := .seq vs.toArray }) (hi : IntsAre vs ns) (hl : ns.length ≤ sizeLine) (hr : Room k callerA)
    (F : ∀ base : Heap, K.In base → base.Ns mainGlobals mg → FnG P w K mg base CX0 k fa fd [x] sp) (hbind : ∀ (s : Shared) (u : Value), BindsTo s fd ⟨[u], []⟩ [(x, u)])
    (hsp : ∀ H : Hp, Only H → SqL K H a (ns.map V.int) → sp [.ref a] H (fun v _ => v = .bl true) fun _ _ _ => False) :
    codeAny (model P w) callerA (.call (.ref fa) ⟨[.ref a], []⟩) (fun r s' => r = .ok (.ret (.bool true)) ∧ OldK s₁.heap s'.heap ∧ s'.os = s₁.os ∧ AllBare s'.gens) s₁ := by
  have main : ∀ H : Hp, Only H → SqL K H a (ns.map V.int) → HOk P w H s₁.heap → (∀ b u, H b = some u → b = a ∧ K.lookup a = none) →
      codeAny (model P w) callerA (.call (.ref fa) ⟨[.ref a], []⟩) (fun r s' => r = .ok (.ret (.bool true)) ∧ OldK s₁.heap s'.heap ∧ s'.os = s₁.os ∧ AllBare s'.gens) s₁ := by
    intro H only seq ok one
    have free : ∀ b, (∀ o n, s₁.heap.get? b = some o → o.data ≠ .seq vs.toArray n) → H b = none := by
      intro b nb
      cases q : H b with
      | none => rfl
      | some u =>
        obtain ⟨rfl, _⟩ := one b u q
        exact absurd rfl (nb _ _ ha)
    have freeD : ∀ {b : Addr} {m : Str → Option Value}, s₁.heap.Ns b m → H b = none := by
      rintro b m ⟨o, es, ep, e, d, _⟩
      refine free b fun o' n e' d' => ?_
      rw [e] at e'
      cases e'
      rw [d] at d'
      cases d'
    have inB : K.In (hidT s₁.heap H) := by
      intro b o e
      refine hidT_get (KX b o e) ?_
      cases q : H b with
      | none => rfl
      | some u =>
        obtain ⟨rfl, z⟩ := one b u q
        rw [z] at e
        cases e
    have gB := ns_hid hns (freeD hns)
    have md : Mod K mg (hidT s₁.heap H) := by
      refine ⟨inB, gB, ⟨mb, ns_hid hb (freeD hb), hbb⟩, ?_⟩
      obtain ⟨mc, h1, h2⟩ := hlim
      exact ⟨mc, ns_hid h1 (freeD h1), h2⟩
    have start0 : Env0 P w K mg (hidT s₁.heap H) callerA [] s₁ H := by
      constructor
      · rfl
      · exact md
      · exact fun b o e => of_hidT e
      · exact Nat.le_of_eq (hidT_size _ _)
      · trivial
      · intro b hb
        exact absurd (show b ∈ ([] : List Addr) from hb) (by simp)
      · exact ok
      · exact .of_eq hg
    have run := (F _ inB gB).go callerA [] s₁ H ⟨[.ref a], []⟩ [.ref a] [.ref a] (fun v _ => v = .bl true) (fun _ _ _ => False) rfl hr start0 (hbind s₁ (.ref a)) (.cons rfl .nil) (hsp H only seq)
    refine codeAny_mono run ?_
    rintro (er | fl) s' h
    · exact False.elim h
    cases fl with
    | next => exact False.elim h
    | brk => exact False.elim h
    | cont => exact False.elim h
    | ret u =>
      obtain ⟨v, H', os, bare, un, ok', rv, q⟩ := h
      cases (show v = .bl true from q)
      cases (show u = Value.bool true from rv)
      refine ⟨rfl, OldK.of_keep ?_, os, bare⟩
      intro b o e
      cases z : H b with
      | none => exact un.keep b o e z (fun m => absurd (show b ∈ ([] : List Addr) from m) (by simp)) (by simp)
      | some u =>
        rcases only b with z' | ⟨ob, xs, z'⟩
        · rw [z] at z'
          cases z'
        · have e1 := (ok b _ z').1
          have e2 := (ok' b _ (un.frzs b ob _ z')).1
          rw [e] at e1
          rw [e1]
          exact e2
  have rv := vals_ints hi
  cases hk : K.lookup a with
  | some o =>
    have e := KX a o hk
    rw [ha] at e
    cases e
    refine main (fun _ => none) (fun _ => .inl rfl) (.inr ⟨_, vs.toArray, _, hk, rfl, rfl, rfl, ?_, by simpa using rv⟩) ?_ ?_
    · rw [List.size_toArray, hi.length]
      exact hl
    · intro b u z
      cases z
    · intro b u z
      cases z
  | none =>
    refine main (scriptHp a { cls := .type "list", data := .seq vs.toArray } (ns.map V.int)) ?_ (.inl (.inr ⟨_, scriptHp_at⟩)) ?_ ?_
    · intro b
      cases z : scriptHp a { cls := .type "list", data := .seq vs.toArray } (ns.map V.int) b with
      | none => exact .inl rfl
      | some u => exact .inr ⟨_, _, by rw [(scriptHp_some z).2]⟩
    · intro b u z
      obtain ⟨rfl, rfl⟩ := scriptHp_some z
      refine ⟨ha, ?_, vs, _, rv, ha⟩
      rw [List.length_map]
      exact hl
    · intro b u z
      exact ⟨(scriptHp_some z).1, hk⟩

theorem walk_g {l : PySem.W.OpenLaw} {n k : Nat} {q : Program} {loose : List Str} {XP : (Str → Option Value) → Heap → Prop} {YP : World → Heap → Prop} {d : DefRec} {K : Params → PySem.W.Frag} {sp : PySem.W.Frag → Sp} {x : Str}
    (hn : l.most = some n) (hn2 : n ≤ sizeLine) (hdf : d.params.defaults = []) (hr : Room k callerA)
    (hY : ∀ (w : World) (h : Heap), YP w h → (K w.params).In h)
    (F : ∀ (w : World) (mg : Str → Option Value) (fa : Addr) (h : Heap), (K w.params).In h → h.Ns mainGlobals mg → mg d.name = some (.ref fa) →
      ∃ fd : FuncData, (∀ (s : Shared) (u : Value), BindsTo s fd ⟨[u], []⟩ [(x, u)]) ∧
        ∀ base : Heap, (K w.params).In base → base.Ns mainGlobals mg → FnG l.prog w (K w.params) mg base CX0 k fa fd [x] (sp (K w.params)))
    (hsp : ∀ (K : PySem.W.Frag) (H : Hp) (a : Addr) (ns : List Int), ns.length ≤ n → Only H → SqL K H a (ns.map V.int) → sp K [.ref a] H (fun v _ => v = .bl true) fun _ _ _ => False) :
    PySem.W.WalkO q loose XP YP l.row.toRowW d [] (fun f vs => PySem.call f vs) := by
  apply Att.attach_call hn hdf
  intro w s₀ s₁ mg mb fa o pm cd doc a vs ns G Y ho hd hcd hmg hobj hints hlen hg
  obtain ⟨fd, bnd, keeps⟩ := F w mg fa _ (hY w _ Y) G.T.g hmg
  exact law_callG (hY w _ Y) G.T.g G.T.b G.T.builtins G.T.nolimit hg hobj hints (Nat.le_trans hlen hn2) hr keeps bnd (fun H => hsp _ H a ns hlen)
end GR

namespace E1
open PySem PySem.Spec PyProof.Rows L2 GR
abbrev LIM : Int := 1000000000000000000
def topS (i : Nat) : Stmt := PySem.Challenge.pw_lookdone_k01_errors_made_by_hand.main.body.getD i (.Pass ⟨0, 0, 0, 0⟩)
theorem same_upd {H : Hp} {p : Addr} {o : HO} (h : H p = none) : Same H (upd H p o) := fun b x e => by
  rw [upd_ne (ne_of_none e h)]
  exact e
theorem le2 : 2 ≤ sizeLine := by decide
theorem at0 {xs : List V} {v : V} : atI (v :: xs) 0 = some v := atI_nat (j := 0) rfl
theorem at1 {xs : List V} {v u : V} : atI (u :: v :: xs) 1 = some v := atI_nat (j := 1) rfl
theorem at2 {xs : List V} {v u t : V} : atI (t :: u :: v :: xs) 2 = some v := atI_nat (j := 2) rfl
theorem at3 {xs : List V} {v u t s : V} : atI (s :: t :: u :: v :: xs) 3 = some v := atI_nat (j := 3) rfl
/-! ### the law's deck -/
/-- the deck at d: the cells at c, a number, the count of draws, at most N -/
def Deck (H : Hp) (d c : Addr) (N : Int) : Prop := ∃ (cells : List Int) (m n : Int), H d = some (.lst [.ref c, .int m, .int n]) ∧ H c = some (.lst (cells.map V.int)) ∧ cells.length ≤ 63 ∧ 0 ≤ n ∧ n ≤ N
theorem Deck.ne {H : Hp} {d c : Addr} {N : Int} (h : Deck H d c N) : c ≠ d := by
  obtain ⟨cells, m, n, h1, h2, _⟩ := h
  rintro rfl
  rw [h1] at h2
  have e := HO.lst.inj (Option.some.inj h2)
  cases cells with
  | nil => cases e
  | cons x r =>
    have := (List.cons.inj e).1
    cases this
theorem Deck.mono {H : Hp} {d c : Addr} {N M : Int} (h : Deck H d c N) (hm : N ≤ M) : Deck H d c M := by
  obtain ⟨cells, m, n, h1, h2, h3, h4, h5⟩ := h
  exact ⟨cells, m, n, h1, h2, h3, h4, Int.le_trans h5 hm⟩
/-- all but the deck is as it was -/
def Keep (d c : Addr) (H H' : Hp) : Prop := ∀ b o, b ≠ d → b ≠ c → H b = some o → H' b = some o
theorem Keep.refl {d c : Addr} {H : Hp} : Keep d c H H := fun _ _ _ _ e => e
theorem Keep.trans {d c : Addr} {H H1 H2 : Hp} (a : Keep d c H H1) (b : Keep d c H1 H2) : Keep d c H H2 := fun x o h1 h2 e => b x o h1 h2 (a x o h1 h2 e)
theorem Keep.of {d c : Addr} {H H' : Hp} (s : Same H H') : Keep d c H H' := fun b o _ _ e => s b o e
theorem Deck.same {H H' : Hp} {d c : Addr} {N : Int} (h : Deck H d c N) (s : Same H H') : Deck H' d c N := by
  obtain ⟨cells, m, n, h1, h2, h3⟩ := h
  exact ⟨cells, m, n, s _ _ h1, s _ _ h2, h3⟩
/-- a tuple, a list that is not the deck's stays -/
theorem Keep.tup {d c p : Addr} {H H' : Hp} {N : Int} {xs : List V} (s : Keep d c H H') (D : Deck H d c N) (h : H p = some (.tup xs)) : H' p = some (.tup xs) := by
  obtain ⟨cells, m, n, h1, h2, _⟩ := D
  exact s p _ (ne_of h h1 (fun z => by cases z)) (ne_of h h2 (fun z => by cases z)) h
theorem dp_ints {K : PySem.W.Frag} {H : Hp} : ∀ ns : List Int, DpAll K H (ns.map V.int) (ns.map PyData.int)
  | [] => .nil
  | n :: ns => .cons (.int n) (dp_ints ns)
theorem lay_ints : ∀ ns : List Int, PyData.canLayAll0 (ns.map PyData.int) = true
  | [] => by simp only [List.map_nil, PyData.canLayAll0]
  | n :: ns => by simp only [List.map_cons, PyData.canLayAll0, PyData.canLay0, lay_ints ns, Bool.and_self]
theorem depth_ints : ∀ ns : List Int, PyData.depthAll (ns.map PyData.int) ≤ 1
  | [] => by simp only [List.map_nil, PyData.depthAll]; omega
  | n :: ns => by
    have := depth_ints ns
    simp only [List.map_cons, PyData.depthAll, PyData.depth]
    omega
theorem shaped_ints (ns : List Int) : SeqAt.shaped (.list (ns.map PyData.int)) = true := by
  have := depth_ints ns
  unfold SeqAt.shaped
  rw [Bool.and_eq_true]
  refine ⟨by simp only [PyData.canLay0, lay_ints], decide_eq_true ?_⟩
  simp only [PyData.depth]
  omega
theorem neq_nil : ∀ ns : List Int, (!PyData.eqv (.list (ns.map PyData.int)) (.list [])) = !ns.isEmpty
  | [] => by simp only [List.map_nil, PyData.eqv, PyData.eqvAll, List.isEmpty_nil]
  | n :: ns => by simp only [List.map_cons, PyData.eqv, PyData.eqvAll, List.isEmpty_cons]

def num1 (z n : Int) : Int := (z % 2147483629 + 7927 * (n + 1) * (n + 1) + 37) * 48271 % 2147483647
theorem num1_rng (z n : Int) : -(2 ^ 64) < num1 z n ∧ num1 z n < 2 ^ 64 := by
  unfold num1
  omega
def num2 (x n : Int) : Int := (x * x + 69621 * x + (n + 1)) % 2147483587
theorem num2_rng (x n : Int) : -(2 ^ 64) < num2 x n ∧ num2 x n < 2 ^ 64 := by
  unfold num2
  omega

section
variable {P : Program} {w : World} {K : PySem.W.Frag} {mg : Str → Option Value} {base : Heap}
abbrev s_law_draw : Stmt := topS 13
theorem sc_law_draw : FnScope ["_law_deck_here", "_law_most", "_law_cell", "_law_number"] ["_law_deck_here", "_law_most"] (defScope s_law_draw) := ⟨rfl, rfl, rfl, by decide +kernel, rfl, by decide +kernel, by decide +kernel⟩
def sp_draw : Sp := fun vs H Q _ => ∃ (d c : Addr) (N most : Int), vs = [.ref d, .int most] ∧ Deck H d c N ∧ N < 2 ^ 60 ∧ 0 < most ∧ most < 2 ^ 100 ∧
  ∀ H' r, Keep d c H H' → Deck H' d c (N + 1) → 0 ≤ r → r < most → Q (.int r) H'
theorem ok_draw {f : Addr} {fd : FuncData} {k : Nat} (F : Fun K "_law_draw" "_law_draw" s_law_draw f fd) :
    FnOk P w K mg base CX0 (k + 1) f fd ["_law_deck_here", "_law_most"] sp_draw := by
  have nd := sc_law_draw.nd
  refine F.ok sc_law_draw (fun vs H Q E h => ?_) (fun cdv A outer s H vs Q E hr h => ?_)
  · obtain ⟨d, c, N, most, rfl, _⟩ := h
    rfl
  obtain ⟨d, c, N, most, rfl, D, hN, hm0, hm1, q⟩ := h
  have hcd := D.ne
  obtain ⟨cells, m, n, hd, hc, hlen, hn0, hn1⟩ := D
  refine ⟨_, (pss_cons (ps_asg (pe_op op_add (pe_ix ix_list (pv 0) pe_int (fun _ _ => rfl)) pe_int) (pg_sub (pv 0) pe_int set_list))
      (pss_cons (ps_set (i := 2) nd rfl (.inl rfl) (pe_ix ix_list (pv 0) pe_int (fun _ _ => rfl)))
      (Evl.pss_cut (ps_if (pt_cmpR (op_neD hr.units) (pe_ix ix_list (pv 0) pe_int (fun _ _ => rfl)) (pe_lst pa_nil) (nomark _))
      (pss_cons (ps_set (i := 2) nd rfl (.inl rfl) (pe_bm0 PySem.F.plainAttrs_list PySem.F.slot_list_pop PySem.F.type_list_pop mt_pop (pe_ix ix_list (pv 0) pe_int (fun _ _ => rfl))))
        (pss_one (ps_if (pt_cmpR op_ge (pv 2) (pe_op op_pow pe_int pe_int) (nomark _))
        (pss_cons (ps_expr (pe_bm PySem.F.plainAttrs_list PySem.F.slot_list_append PySem.F.type_list_append mt_append (pe_ix ix_list (pv 0) pe_int (fun _ _ => rfl)) (pa_cons (pe_op op_fdivW (pv 2) (pv 1)) pa_nil)))
          (pss_one (ps_ret (pe_op op_mod (pv 2) (pv 1)))))
        pss_nil)))
      pss_nil)
      (pss_cons (ps_set (i := 3) nd rfl (.inl rfl) (pe_op op_mod (pe_op op_mul (pe_op op_add (pe_op op_add (pe_op op_mod (pv 2) pe_int) (pe_op op_mul (pe_op op_mul pe_int (pe_ix ix_list (pv 0) pe_int (fun _ _ => rfl))) (pe_ix ix_list (pv 0) pe_int (fun _ _ => rfl)))) pe_int) pe_int) pe_int))
      (pss_cons (ps_set (i := 3) nd rfl (.inl rfl) (pe_op op_mod (pe_op op_add (pe_op op_add (pe_op op_mul (pv 3) (pv 3)) (pe_op op_mul pe_int (pv 3))) (pe_ix ix_list (pv 0) pe_int (fun _ _ => rfl))) pe_int))
      (pss_one (ps_ret (pe_op op_mod (pe_op op_fdivW (pe_op op_mod (pe_op op_mul (pv 3) (pe_op op_add (pe_op op_fdivW (pv 3) pe_int) pe_int)) pe_int) pe_int) (pv 1))))))))), ?_⟩
  refine ⟨.ref d, rfl, d, _, 2, _, rfl, rfl, .inl (.inl hd), at2, _, _, rfl, rfl, .ref d, rfl, d, _, 2, 2, rfl, rfl, hd, rfl, ?_⟩
  -- the deck with one draw more
  have h1d : upd H d (.lst [.ref c, .int m, .int (n + 1)]) d = some (.lst [.ref c, .int m, .int (n + 1)]) := upd_same
  have h1c : upd H d (.lst [.ref c, .int m, .int (n + 1)]) c = some (.lst (cells.map V.int)) := by
    rw [upd_ne hcd]
    exact hc
  have k1 : Keep d c H (upd H d (.lst [.ref c, .int m, .int (n + 1)])) := fun b o nb _ e => by
    rw [upd_ne nb]
    exact e
  refine ⟨.ref d, rfl, d, _, 1, _, rfl, rfl, .inl (.inl h1d), at1, ?_⟩
  have wd : CDivW 0 most := wide_div hm0 (b := 100) (by omega) (by decide) (by decide)
  refine ⟨fun σ' H' => ∃ (z : Int) (cells' : List Int), σ' = [some (.ref d), some (.int most), some (.int z), none] ∧ Keep d c H H' ∧ H' d = some (.lst [.ref c, .int m, .int (n + 1)]) ∧ H' c = some (.lst (cells'.map V.int)) ∧ cells'.length ≤ 63, ?_, ?_⟩
  · refine ⟨.ref d, rfl, d, _, 0, _, rfl, rfl, .inl (.inl h1d), at0, Nat.zero_le _, fun e ne => ?_⟩
    have s2 : Same (upd H d (.lst [.ref c, .int m, .int (n + 1)])) (upd (upd H d (.lst [.ref c, .int m, .int (n + 1)])) e (.lst [])) := same_upd ne
    have h2d := s2 _ _ h1d
    have h2c := s2 _ _ h1c
    have k2 := k1.trans (Keep.of s2)
    refine ⟨_, _, .lst (.inl (.inl h2c)) (dp_ints cells), .lst (.inl (.inl upd_same)) .nil, shaped_ints cells, shaped_ints [], _, rfl, ?_⟩
    rw [neq_nil]
    cases hcs : cells with
    | nil => exact iteF ⟨m, cells, rfl, k2, h2d, h2c, hlen⟩
    | cons x0 r0 =>
      refine iteT ?_
      have hne : cells ≠ [] := by
        rw [hcs]
        exact List.cons_ne_nil _ _
      have hlast : (cells.map V.int)[(cells.map V.int).length - 1]? = some (.int (cells.getLast hne)) := by
        rw [List.length_map, List.getElem?_map, ← List.getLast?_eq_getElem?, List.getLast?_eq_getLast hne]
        rfl
      refine ⟨.ref d, rfl, d, _, 0, _, rfl, rfl, .inl (.inl h2d), at0, .inl ⟨rfl, _, .inl (.inl h2c)⟩, c, _, _, rfl, rfl, h2c, hlast, ?_⟩
      have hdrop : (cells.map V.int).dropLast = cells.dropLast.map V.int := by rw [List.map_dropLast]
      rw [hdrop]
      have h3d : upd (upd (upd H d (.lst [.ref c, .int m, .int (n + 1)])) e (.lst [])) c (.lst (cells.dropLast.map V.int)) d = some (.lst [.ref c, .int m, .int (n + 1)]) := by
        rw [upd_ne hcd.symm]
        exact h2d
      have h3c : upd (upd (upd H d (.lst [.ref c, .int m, .int (n + 1)])) e (.lst [])) c (.lst (cells.dropLast.map V.int)) c = some (.lst (cells.dropLast.map V.int)) := upd_same
      have k3 : Keep d c H (upd (upd (upd H d (.lst [.ref c, .int m, .int (n + 1)])) e (.lst [])) c (.lst (cells.dropLast.map V.int))) := fun b o n1 n2 e1 => by
        rw [upd_ne n2]
        exact k2 b o n1 n2 e1
      have l3 : cells.dropLast.length + 1 ≤ 63 := by
        rw [List.length_dropLast, hcs, List.length_cons]
        rw [hcs, List.length_cons] at hlen
        omega
      generalize cells.getLast hne = z
      refine ⟨.int z, rfl, _, _, rfl, rfl, ⟨by decide, by decide, by decide⟩, _, _, rfl, rfl, _, rfl, ite2 (fun e5 => ?_) (fun e5 => ?_)⟩
      · refine ⟨.ref d, rfl, d, _, 0, _, rfl, rfl, .inl (.inl h3d), at0, .inl ⟨rfl, _, .inl (.inl h3c)⟩, .int z, rfl, .int most, rfl, z, most, rfl, rfl, wd, c, _, _, rfl, rfl, h3c, ?_, ?_⟩
        · rw [List.length_map]
          exact small1000 (by omega)
        · refine ⟨.int z, rfl, .int most, rfl, z, most, rfl, rfl, hm0, ?_⟩
          refine q _ _ ?_ ?_ (Int.emod_nonneg _ (by omega)) (Int.emod_lt_of_pos _ hm0)
          · intro b o n1 n2 e1
            rw [upd_ne n2]
            exact k3 b o n1 n2 e1
          · refine ⟨cells.dropLast ++ [z / most], m, n + 1, ?_, ?_, ?_, by omega, by omega⟩
            · rw [upd_ne hcd.symm]
              exact h3d
            · rw [upd_same, List.map_append]
              rfl
            · rw [List.length_append, List.length_singleton]
              exact l3
      · exact ⟨z, cells.dropLast, rfl, k3, h3d, h3c, by omega⟩
  · rintro σ' H' ⟨z, cells', rfl, kk, h5d, h5c, hl5⟩
    have hn2 : -(2 ^ 64) < n + 1 ∧ n + 1 < 2 ^ 64 := by omega
    refine ⟨.int z, rfl, z, 2147483629, rfl, rfl, (show (0 : Int) < 2147483629 by decide), .ref d, rfl, d, _, 2, _, rfl, rfl, .inl (.inl h5d), at2, 7927, n + 1, rfl, rfl, .inl ⟨by decide, by decide⟩, .ref d, rfl, d, _, 2, _, rfl, rfl, .inl (.inl h5d), at2, 7927 * (n + 1), n + 1, rfl, rfl, .inr hn2, _, _, rfl, rfl, _, _, rfl, rfl, _, 48271, rfl, rfl, .inr ⟨by decide, by decide⟩, _, 2147483647, rfl, rfl, (show (0 : Int) < 2147483647 by decide), ?_⟩
    have b1 := num1_rng z n
    refine ⟨.int (num1 z n), rfl, .int (num1 z n), rfl, num1 z n, num1 z n, rfl, rfl, .inl b1, .int (num1 z n), rfl, 69621, num1 z n, rfl, rfl, .inr b1, _, _, rfl, rfl, .ref d, rfl, d, _, 2, _, rfl, rfl, .inl (.inl h5d), at2, _, _, rfl, rfl, _, 2147483587, rfl, rfl, (show (0 : Int) < 2147483587 by decide), ?_⟩
    have b2 := num2_rng (num1 z n) n
    refine ⟨.int (num2 (num1 z n) n), rfl, .int (num2 (num1 z n) n), rfl, num2 (num1 z n) n, 5, rfl, rfl, ⟨by decide, by decide⟩, _, _, rfl, rfl, num2 (num1 z n) n, _, rfl, rfl, .inl b2, _, 2147483579, rfl, rfl, (show (0 : Int) < 2147483579 by decide), _, 64, rfl, rfl, ⟨by decide, by decide⟩, .int most, rfl, _, most, rfl, rfl, hm0, ?_⟩
    exact q _ _ kk ⟨cells', m, n + 1, h5d, h5c, hl5, by omega, by omega⟩ (Int.emod_nonneg _ (by omega)) (Int.emod_lt_of_pos _ hm0)
end
theorem Keep.seq {K : PySem.W.Frag} {d c a : Addr} {H H' : Hp} {xs : List V} (s : Keep d c H H') (h : SqL K H a xs) (h1 : a ≠ d) (h2 : a ≠ c) : SqL K H' a xs := by
  rcases h with (h | ⟨o, h⟩) | h
  · exact .inl (.inl (s _ _ h1 h2 h))
  · exact .inl (.inr ⟨o, s _ _ h1 h2 h⟩)
  · exact .inr h
theorem cut63 (ns : List Int) : ∃ ms : List Int, cutV (ns.map V.int) none (some 63) = ms.map V.int ∧ ms.length ≤ 63 := by
  refine ⟨ns.take (min 63 ns.length), ?_, ?_⟩
  · unfold cutV
    rw [HT.sIx_none, show HT.sIx (ns.map V.int).length (ns.map V.int).length (some 63) = min 63 (ns.map V.int).length from HT.sIx_nat _ _ 63, List.drop_zero, List.map_take, List.length_map, Nat.sub_zero]
  · rw [List.length_take]
    omega
theorem small_le {n : Nat} (h : n ≤ 1000) : n ≤ sizeLine := Nat.le_of_lt (small1000 h)
section
variable {P : Program} {w : World} {K : PySem.W.Frag} {mg : Str → Option Value} {base : Heap}
abbrev s_law_deck : Stmt := topS 12
theorem sc_law_deck : FnScope ["_law_script", "_law_cells"] ["_law_script"] (defScope s_law_deck) := ⟨rfl, rfl, rfl, by decide +kernel, rfl, by decide +kernel, by decide +kernel⟩
def sp_deck (K : PySem.W.Frag) : Sp := fun vs H Q _ => ∃ (a : Addr) (ns : List Int), vs = [.ref a] ∧ SqL K H a (ns.map V.int) ∧ ∀ H' d c, Same H H' → H d = none → Deck H' d c 0 → Q (.ref d) H'
theorem ok_deck {f : Addr} {fd : FuncData} {k : Nat} (F : Fun K "_law_deck" "_law_deck" s_law_deck f fd) (mlist : mg "list" = none) (msum : mg "sum" = none) (mlen : mg "len" = none) :
    FnOk P w K mg base CX0 (k + 1) f fd ["_law_script"] (sp_deck K) := by
  have nd := sc_law_deck.nd
  refine F.ok sc_law_deck (fun vs H Q E h => ?_) (fun cdv A outer s H vs Q E hr h => ?_)
  · obtain ⟨a, ns, rfl, _⟩ := h
    rfl
  obtain ⟨a, ns, rfl, hS, q⟩ := h
  obtain ⟨ms, hms, hl⟩ := cut63 ns
  refine ⟨_, (pss_cons (ps_set (i := 1) nd rfl (.inl rfl) (pe_callTy call_list_of (by rfl) mlist boot_list (pa_cons (pe_slice sl_list (pv 0) po_none (po_some pe_int)) pa_nil)))
      (pss_one (ps_ret (pe_lst (pa_cons (pe_revL (pv 1)) (pa_cons (pe_op op_add (pe_op op_mod (pe_callB (cr_sum rfl) (by rfl) msum boot_sum (pa_cons (pv 1) pa_nil)) pe_int) (pe_op op_mul pe_int (pe_callB call_len_seq (by rfl) mlen PySem.boot_len (pa_cons (pv 1) pa_nil)))) (pa_cons pe_int pa_nil))))))), ?_⟩
  refine ⟨.ref a, rfl, 63, rfl, a, _, rfl, hS, fun p np => ?_⟩
  rw [hms]
  have s1 : Same H (upd H p (.lst (ms.map V.int))) := same_upd np
  refine ⟨p, _, rfl, .inl (.inl (.inl upd_same)), fun l nl => ?_⟩
  have s2 := same_upd (o := .lst (ms.map V.int)) nl
  have hl2 : SqL K (upd (upd H p (.lst (ms.map V.int))) l (.lst (ms.map V.int))) l (ms.map V.int) := .inl (.inl upd_same)
  refine ⟨.ref l, rfl, l, _, rfl, hl2, fun c nc => ?_⟩
  have s3 := same_upd (o := .lst (ms.map V.int).reverse) nc
  refine ⟨.ref l, rfl, l, ms, rfl, s3.seq hl2, _, 2147483629, rfl, rfl, (show (0 : Int) < 2147483629 by decide), .ref l, rfl, l, _, rfl, .inl (s3.seq hl2), 48271, _, rfl, rfl, .inl ⟨by decide, by decide⟩, _, _, rfl, rfl, small_le (show 3 ≤ 1000 by decide), fun d nd' => ?_⟩
  refine q _ d c ((s1.trans s2).trans (s3.trans (same_upd nd'))) ?_ ?_
  · exact s1.free (s2.free (s3.free nd'))
  · refine ⟨ms.reverse, _, 0, upd_same, ?_, ?_, Int.le_refl 0, Int.le_refl 0⟩
    · have : c ≠ d := ne_of_none (show upd _ c _ c = _ from upd_same) nd'
      rw [upd_ne this, upd_same, List.map_reverse]
    · rw [List.length_reverse]
      exact hl
end
theorem Deck.new {H : Hp} {d c a : Addr} {N : Int} (D : Deck H d c N) (na : H a = none) : a ≠ d ∧ a ≠ c := by
  obtain ⟨cells, m, n, h1, h2, _⟩ := D
  exact ⟨(ne_of_none h1 na).symm, (ne_of_none h2 na).symm⟩
theorem Keep.free {d c a : Addr} {H H' : Hp} (s : Keep d c H H') (na : H' a = none) (h1 : a ≠ d) (h2 : a ≠ c) : H a = none := by
  cases q : H a with
  | none => rfl
  | some o =>
    rw [s a o h1 h2 q] at na
    cases na
end E1

namespace E1
open PySem PySem.Spec PyProof.Rows L2 GR
abbrev L26 : Str := "abcdefghijklmnopqrstuvwxyz"
def sgn (c : Nat) : Str := ⟨#[c]⟩
theorem l26_len : L26.length = 26 := by decide
theorem l26_at : ∀ k, k < 26 → L26.cps.toList[k]? = some (97 + k) := by decide
theorem l26_occ : ∀ k, k < 26 → Builtin.Str.occurrences L26 (sgn (97 + k)) 0 L26.length 1 = [k] := by decide +kernel
def Low (c : Nat) : Prop := 97 ≤ c ∧ c ≤ 122
/-- the words that are no names -/
def barred : List Str := ["key", "if", "at", "count", "sum", "most", "first", "let", "need", "put", "each", "tell"]
/-- a name -/
def Nm (z : Str) : Prop := 1 ≤ z.cps.toList.length ∧ z.cps.toList.length ≤ 8 ∧ (∀ c, c ∈ z.cps.toList → Low c) ∧ z ∉ barred
theorem nm_lit {z : Str} (h : (decide (1 ≤ z.cps.toList.length) && decide (z.cps.toList.length ≤ 8) && z.cps.toList.all (fun c => decide (97 ≤ c) && decide (c ≤ 122)) && decide (z ∉ barred)) = true) : Nm z := by
  simp only [Bool.and_eq_true, decide_eq_true_eq, List.all_eq_true] at h
  obtain ⟨⟨⟨h1, h2⟩, h3⟩, h4⟩ := h
  exact ⟨h1, h2, fun c hc => h3 c hc, h4⟩
theorem barred_q : ∀ z, z ∈ barred → z.cps.toList.head? ≠ some 113 := by decide
/-- the text of single signs, joined -/
theorem join_signs : ∀ cs : List Nat, (Txt.join Str.empty (cs.map sgn)).cps.toList = cs := by
  intro cs
  have hj : ∀ cs : List Nat, TL.joinL [] (cs.map fun c => [c]) = cs := by
    intro cs
    induction cs with
    | nil => rfl
    | cons a r ih =>
      cases r with
      | nil => rfl
      | cons b r =>
        show [a] ++ ([] ++ TL.joinL [] ((b :: r).map fun c => [c])) = a :: b :: r
        rw [ih]
        rfl
  have := TL.tl_join Str.empty (cs.map sgn)
  rw [List.map_map] at this
  rw [TL.join_eq]
  exact this.trans (hj cs)
section
variable {P : Program} {w : World} {K : PySem.W.Frag} {mg : Str → Option Value} {base : Heap}
abbrev s_law_pick : Stmt := topS 14
theorem sc_law_pick : FnScope ["_law_deck_here", "_law_some"] ["_law_deck_here", "_law_some"] (defScope s_law_pick) := ⟨rfl, rfl, rfl, by decide +kernel, rfl, by decide +kernel, by decide +kernel⟩
/-- a pick from a list, or from the letters -/
def sp_pick (K : PySem.W.Frag) : Sp := fun vs H Q _ =>
  (∃ (d c a : Addr) (N : Int) (xs : List V), vs = [.ref d, .ref a] ∧ Deck H d c N ∧ N < 2 ^ 60 ∧ SqL K H a xs ∧ xs ≠ [] ∧ xs.length ≤ 1000 ∧ a ≠ d ∧ a ≠ c ∧ ∀ H' v, Keep d c H H' → Deck H' d c (N + 1) → v ∈ xs → Q v H') ∨
  (∃ (d c : Addr) (N : Int), vs = [.ref d, .str L26] ∧ Deck H d c N ∧ N < 2 ^ 60 ∧ ∀ H' k, Keep d c H H' → Deck H' d c (N + 1) → k < 26 → Q (.str (sgn (97 + k))) H')
theorem ok_pick {f f_law_draw : Addr} {fd fd_law_draw : FuncData} {k : Nat} (F : Fun K "_law_pick" "_law_pick" s_law_pick f fd) (G_law_draw : FnOk P w K mg base CX0 k f_law_draw fd_law_draw ["_law_deck_here", "_law_most"] sp_draw)
    (g_law_draw : mg "_law_draw" = some (.ref f_law_draw)) (K_law_draw : PySem.W.keepIn K (.ref f_law_draw) = true) (b_law_draw : Binds K fd_law_draw ["_law_deck_here", "_law_most"] []) (mlen : mg "len" = none) :
    FnOk P w K mg base CX0 (k + 1) f fd ["_law_deck_here", "_law_some"] (sp_pick K) := by
  have nd := sc_law_pick.nd
  refine F.ok sc_law_pick (fun vs H Q E h => ?_) (fun cdv A outer s H vs Q E hr h => ?_)
  · rcases h with ⟨d, c, a, N, xs, rfl, _⟩ | ⟨d, c, N, rfl, _⟩ <;> rfl
  refine ⟨_, (pss_one (ps_ret (pe_ix ix_seq (pv 1) (pe_call G_law_draw hr (by rfl) g_law_draw K_law_draw b_law_draw .nil pass0 (pa_cons (pv 0) (pa_cons (pe_callB call_len (by rfl) mlen PySem.boot_len (pa_cons (pv 1) pa_nil)) pa_nil))) (fun _ _ => rfl)))), ?_⟩
  rcases h with ⟨d, c, a, N, xs, rfl, D, hN, hS, hne, hlen, had, hac, q⟩ | ⟨d, c, N, rfl, D, hN, q⟩
  · have hpos : 0 < xs.length := List.length_pos_iff.mpr hne
    refine ⟨.ref a, rfl, .ref d, rfl, .ref a, rfl, .ref a, xs.length, rfl, .inl ⟨xs, hS, rfl⟩, d, c, N, (xs.length : Int), rfl, D, hN, by omega, by omega, fun H' r kp D' r0 r1 => ?_⟩
    obtain ⟨j, rfl⟩ := Int.eq_ofNat_of_zero_le r0
    have hj : j < xs.length := by omega
    exact .inl ⟨a, xs, j, xs[j], rfl, rfl, kp.seq hS had hac, atI_nat (List.getElem?_eq_getElem hj), q H' _ kp D' (List.getElem_mem hj)⟩
  · refine ⟨.str L26, rfl, .ref d, rfl, .str L26, rfl, .str L26, 26, rfl, ⟨by rw [l26_len]; decide, l26_len.symm⟩, d, c, N, 26, rfl, D, hN, by decide, by decide, fun H' r kp D' r0 r1 => ?_⟩
    obtain ⟨j, rfl⟩ := Int.eq_ofNat_of_zero_le r0
    have hj : j < 26 := by omega
    exact .inr (.inr ⟨L26, j, 97 + j, rfl, rfl, by rw [l26_len]; decide, atI_nat (l26_at j hj), q H' j kp D' hj⟩)
end
end E1

namespace GR
open PySem PySem.Spec PyProof.Rows L2
theorem FnG.mono {P : Program} {w : World} {K : PySem.W.Frag} {mg : Str → Option Value} {base : Heap} {CX : CXT} {j k : Nat} {f : Addr} {fd : FuncData} {ps : List Str} {sp : Sp} (F : FnG P w K mg base CX j f fd ps sp) (h : j ≤ k) : FnG P w K mg base CX k f fd ps sp :=
  ⟨F.size, fun A outer s H args us vs Q E g hr => F.go A outer s H args us vs Q E g (hr.mono h)⟩
/-! ### the signs of what repr shows -/
abbrev SO (x : Str) : Prop := ∀ c, c ∈ x.cps.toList → c < 0x110000
theorem so_iff {x : Str} : PyData.strOk x = true ↔ SO x := by
  unfold PyData.strOk
  rw [Array.all_eq_true']
  constructor
  · intro h c hc
    have := h c (by simpa using hc)
    simpa using this
  · intro h c hc
    have := h c (by simpa using hc)
    simpa using this
theorem so_append {x y : Str} (hx : SO x) (hy : SO y) : SO (x ++ y) := fun c hc => by
  rcases mem_cps_append.mp hc with h | h
  · exact hx c h
  · exact hy c h
theorem so_join {sep : Str} (hs : SO sep) {ts : List Str} (h : ∀ t, t ∈ ts → SO t) : SO (Str.join sep ts) := fun c hc => by
  rcases (mem_join sep c ts).mp hc with ⟨t, ht, hc⟩ | ⟨_, hc⟩
  · exact h t ht c hc
  · exact hs c hc
theorem hex_so (w c : Nat) : ∀ k, k ∈ List.replicate (w - ((Nat.toDigits 16 c).map Char.toNat).length) 48 ++ (Nat.toDigits 16 c).map Char.toNat → k < 0x110000 := by
  intro k hk
  rcases List.mem_append.mp hk with h | h
  · have := List.eq_of_mem_replicate h
    omega
  · obtain ⟨ch, _, rfl⟩ := List.mem_map.mp h
    have := ch.valid
    have e : ch.toNat = ch.val.toNat := rfl
    rcases this with h | ⟨_, h⟩
    · have h' : ch.val.toNat < 0xd800 := h
      omega
    · have h' : ch.val.toNat < 0x110000 := h
      omega
theorem reprChar_so {q c : Nat} (hc : c < 0x110000) : ∀ k, k ∈ Builtin.Str.reprChar q c → k < 0x110000 := by
  intro k hk
  have h8 := hex_so 8 c k
  have h4 := hex_so 4 c k
  have h2 := hex_so 2 c k
  unfold Builtin.Str.reprChar at hk
  dsimp only at hk
  repeat' split at hk
  all_goals first
    | (rcases List.mem_append.mp hk with hk | hk
       · (simp only [List.mem_cons, List.not_mem_nil, or_false] at hk; omega)
       · first | exact h2 hk | exact h4 hk | exact h8 hk)
    | (simp only [List.mem_cons, List.not_mem_nil, or_false] at hk; omega)
theorem fold_so {q : Nat} : ∀ (l : List Nat) (acc : Array Nat), (∀ c, c ∈ l → c < 0x110000) → (∀ c, c ∈ acc.toList → c < 0x110000) → ∀ c, c ∈ (l.foldl (fun out c => out ++ (Builtin.Str.reprChar q c).toArray) acc).toList → c < 0x110000
  | [], acc, _, h => h
  | d :: r, acc, hl, h => by
    rw [List.foldl_cons]
    refine fold_so r _ (fun c hc => hl c (List.mem_cons_of_mem _ hc)) fun c hc => ?_
    rw [Array.toList_append, List.mem_append] at hc
    rcases hc with hc | hc
    · exact h c hc
    · exact reprChar_so (hl d List.mem_cons_self) c (by simpa using hc)
theorem repr_so {x : Str} (h : SO x) : SO (reprText x) := fun c hc => by
  have hq : reprQuote x < 0x110000 := by
    unfold reprQuote
    split <;> decide
  unfold reprText at hc
  have hc' : c ∈ ((x.cps.foldl (fun out c => out ++ (Builtin.Str.reprChar (reprQuote x) c).toArray) #[reprQuote x]).push (reprQuote x)).toList := hc
  rw [Array.toList_push, List.mem_append] at hc'
  rcases hc' with hc' | hc'
  · rw [← Array.foldl_toList] at hc'
    refine fold_so x.cps.toList _ h (fun c hc => ?_) c hc'
    have : c = reprQuote x := by simpa using hc
    rw [this]
    exact hq
  · have : c = reprQuote x := by simpa using hc'
    rw [this]
    exact hq
mutual
theorem shown_so : ∀ d : PyData, d.canLay0 = true → SO d.shown
  | .none, _ => by rw [PyData.shown_none]; decide
  | .bool b, _ => by
    rw [PyData.shown_bool]
    cases b <;> decide
  | .int i, _ => fun c hc => by
    by_cases h : 57 < c
    · exact absurd hc (shown_int_free' (k := c) ⟨by omega, .inr h⟩ i)
    · omega
  | .str x, h => by
    rw [PyData.shown_str]
    exact repr_so (so_iff.mp (by simpa [PyData.canLay0] using h))
  | .list xs, h => by
    rw [PyData.shown_list]
    exact so_append (so_append (by decide) (so_join (by decide) (shownAll_so xs (by simpa [PyData.canLay0] using h)))) (by decide)
  | .tuple xs, h => by
    rw [PyData.shown_tuple]
    refine so_append (so_append (by decide) (so_join (by decide) (shownAll_so xs (by simpa [PyData.canLay0] using h)))) ?_
    split <;> decide
  | .dict _, h => by simp [PyData.canLay0] at h
theorem shownAll_so : ∀ xs : List PyData, PyData.canLayAll0 xs = true → ∀ t, t ∈ PyData.shownAll xs → SO t
  | [], _, t, ht => by rw [PyData.shownAll_nil] at ht; exact absurd ht (by simp)
  | x :: xs, h, t, ht => by
    have h' : x.canLay0 = true ∧ PyData.canLayAll0 xs = true := by simpa [PyData.canLayAll0] using h
    rw [PyData.shownAll_cons, List.mem_cons] at ht
    rcases ht with rfl | ht
    · exact shown_so x h'.1
    · exact shownAll_so xs h'.2 t ht
end
theorem shown_ok {d : PyData} (h : d.canLay0 = true) : PyData.strOk d.shown = true := so_iff.mpr (shown_so d h)
section
variable {X : Cx} {pins : List (Addr × Obj)} {σ : L2.St} {H : Hp} {s : Shared}
/-- repr of a truth -/
def rReprB : List V → Hp → VK → Prop := fun xs H Q => ∃ b, xs = [.bl b] ∧ Q (.str (PyData.bool b).shown) H
theorem call_reprB : CallR X (.builtin "repr") rReprB := by
  intro pins s σ H xs us Q I r h
  obtain ⟨b, rfl, q⟩ := h
  obtain ⟨u, rfl, rv⟩ := vals1 r
  obtain rfl : u = Value.bool b := rv
  rw [PyData.shown_bool] at q
  exact P.repr_of_bool ⟨.str _, H, I.kept fun _ _ e => e, ⟨_, rfl⟩, q⟩
end
end GR

/-! Data of all kinds, dicts too, in the abstract heap; ok tells which addresses its lists and dicts may have. -/
namespace AD
open PySem PySem.Spec PyProof.Rows L2 GR
def keyD : Key → PyData
  | .inl i => .int i
  | .inr x => .str x
mutual
inductive Dd (K : PySem.W.Frag) (ok : Addr → Prop) (H : Hp) : V → PyData → Prop
  | non : Dd K ok H .non .none
  | bl (b : Bool) : Dd K ok H (.bl b) (.bool b)
  | int (i : Int) : Dd K ok H (.int i) (.int i)
  | str (x : Str) : Dd K ok H (.str x) (.str x)
  | lst {a : Addr} {xs : List V} {ds : List PyData} : H a = some (.lst xs) → ok a → DdAll K ok H xs ds → Dd K ok H (.ref a) (.list ds)
  | tup {a : Addr} {xs : List V} {ds : List PyData} : SqT K H a xs → DdAll K ok H xs ds → Dd K ok H (.ref a) (.tuple ds)
  | dk {a : Addr} {kvs : List (Key × V)} {ds : List PyData} : H a = some (.dK kvs) → ok a → DdAll K ok H (kvs.map (·.2)) ds → Dd K ok H (.ref a) (.dict ((kvs.map fun p => keyD p.1).zip ds))
inductive DdAll (K : PySem.W.Frag) (ok : Addr → Prop) (H : Hp) : List V → List PyData → Prop
  | nil : DdAll K ok H [] []
  | cons {v : V} {vs : List V} {d : PyData} {ds : List PyData} : Dd K ok H v d → DdAll K ok H vs ds → DdAll K ok H (v :: vs) (d :: ds)
end
/-- tuples stay, and what lies where ok allows it -/
structure KeepO (ok : Addr → Prop) (H H' : Hp) : Prop where
  tup : ∀ b xs, H b = some (.tup xs) → H' b = some (.tup xs)
  frz : ∀ b o xs, H b = some (.frz o (.tup xs)) → H' b = some (.frz o (.tup xs))
  oth : ∀ b o, ok b → H b = some o → H' b = some o
theorem KeepO.of {ok : Addr → Prop} {H H' : Hp} (s : Same H H') : KeepO ok H H' := ⟨fun b _ e => s b _ e, fun b _ _ e => s b _ e, fun b _ _ e => s b _ e⟩
theorem KeepO.trans {ok : Addr → Prop} {H H1 H2 : Hp} (a : KeepO ok H H1) (b : KeepO ok H1 H2) : KeepO ok H H2 := ⟨fun x _ e => b.tup x _ (a.tup x _ e), fun x _ _ e => b.frz x _ _ (a.frz x _ _ e), fun x o h e => b.oth x o h (a.oth x o h e)⟩
theorem KeepO.seqt {ok : Addr → Prop} {K : PySem.W.Frag} {H H' : Hp} (s : KeepO ok H H') {a : Addr} {xs : List V} (h : SqT K H a xs) : SqT K H' a xs := by
  rcases h with (h | ⟨o, h⟩) | h
  · exact .inl (.inl (s.tup _ _ h))
  · exact .inl (.inr ⟨o, s.frz _ _ _ h⟩)
  · exact .inr h
section
variable {K : PySem.W.Frag} {ok ok' : Addr → Prop} {H H' : Hp}
mutual
theorem Dd.keep (k : KeepO ok H H') : ∀ {v : V} {d : PyData}, Dd K ok H v d → Dd K ok H' v d
  | _, _, .non => .non
  | _, _, .bl b => .bl b
  | _, _, .int i => .int i
  | _, _, .str x => .str x
  | _, _, .lst h o q => .lst (k.oth _ _ o h) o (DdAll.keep k q)
  | _, _, .tup h q => .tup (k.seqt h) (DdAll.keep k q)
  | _, _, .dk h o q => .dk (k.oth _ _ o h) o (DdAll.keep k q)
theorem DdAll.keep (k : KeepO ok H H') : ∀ {vs : List V} {ds : List PyData}, DdAll K ok H vs ds → DdAll K ok H' vs ds
  | _, _, .nil => .nil
  | _, _, .cons h q => .cons (Dd.keep k h) (DdAll.keep k q)
end
mutual
theorem Dd.mono (k : ∀ a, ok a → ok' a) : ∀ {v : V} {d : PyData}, Dd K ok H v d → Dd K ok' H v d
  | _, _, .non => .non
  | _, _, .bl b => .bl b
  | _, _, .int i => .int i
  | _, _, .str x => .str x
  | _, _, .lst h o q => .lst h (k _ o) (DdAll.mono k q)
  | _, _, .tup h q => .tup h (DdAll.mono k q)
  | _, _, .dk h o q => .dk h (k _ o) (DdAll.mono k q)
theorem DdAll.mono (k : ∀ a, ok a → ok' a) : ∀ {vs : List V} {ds : List PyData}, DdAll K ok H vs ds → DdAll K ok' H vs ds
  | _, _, .nil => .nil
  | _, _, .cons h q => .cons (Dd.mono k h) (DdAll.mono k q)
end
theorem DdAll.len : ∀ {vs : List V} {ds : List PyData}, DdAll K ok H vs ds → vs.length = ds.length
  | _, _, .nil => rfl
  | _, _, .cons _ q => by rw [List.length_cons, List.length_cons, DdAll.len q]
end
/-- the entries of a dict, its keys read -/
theorem keys_read {P : Program} {w : World} {h : Heap} {es : List DictEntry} {vs : List (Key × Value)} (p : PySem.Pairs (mixKind P w) es vs) : ReadsAll h (es.map (·.key)) (vs.map fun q => keyD q.1) [] := by
  induction p with
  | nil => exact .nil
  | @cons e kv es kvs h1 _ _ ih =>
    rw [List.map_cons, List.map_cons]
    rcases keyIs_shape h1 with ⟨i, t, e1, e2⟩ | ⟨x, t, e1, e2⟩
    · rw [e1, e2]
      exact .cons (.int i t) ih
    · rw [e1, e2]
      exact .cons (.str x t) ih
theorem pairs_val {P : Program} {w : World} {es : List DictEntry} {vs : List (Key × Value)} (p : PySem.Pairs (mixKind P w) es vs) : es.map (·.val) = vs.map (·.2) := by
  induction p with
  | nil => rfl
  | cons _ h2 _ ih => rw [List.map_cons, List.map_cons, h2, ih]
theorem kv_keys {kvs : List (Key × V)} {vs : List (Key × Value)} (r : KV kvs vs) : vs.map (fun q => keyD q.1) = kvs.map fun q => keyD q.1 := by
  induction r with
  | nil => rfl
  | cons h _ ih => rw [List.map_cons, List.map_cons, ih, h.1]
theorem kv_vals {kvs : List (Key × V)} {vs : List (Key × Value)} (r : KV kvs vs) : Vals (kvs.map (·.2)) (vs.map (·.2)) := by
  induction r with
  | nil => exact .nil
  | cons h _ ih => exact .cons h.2 ih
section
variable {X : Cx} {pins : List (Addr × Obj)} {σ : L2.St} {H : Hp} {s : Shared} {ok : Addr → Prop}
mutual
theorem Dd.reads (I : Inv X pins σ H s) (hok : ∀ a, ok a → a ≠ sysModules) : ∀ {v : V} {d : PyData}, Dd X.K ok H v d → ∀ u, RelV v u → ∃ as, Reads s.heap u d as ∧ sysModules ∉ as
  | _, _, .non, _, r => by
    cases r
    exact ⟨_, .none, List.not_mem_nil⟩
  | _, _, .bl b, _, r => by
    cases r
    exact ⟨_, .bool b, List.not_mem_nil⟩
  | _, _, .int i, _, r => by
    obtain ⟨t, rfl⟩ := r
    exact ⟨_, .int i t, List.not_mem_nil⟩
  | _, _, .str x, _, r => by
    obtain ⟨t, rfl⟩ := r
    exact ⟨_, .str x t, List.not_mem_nil⟩
  | _, _, .lst hs o q, _, r => by
    cases r
    obtain ⟨its, rv, ⟨ob, n, ho, hc, _, hd⟩, _⟩ := I.list (.inl (.inl hs))
    obtain ⟨as, hr, hn⟩ := DdAll.reads I hok q its rv
    exact ⟨_, .list ho hc hd hr, fun z => (List.mem_cons.mp z).elim (fun e => hok _ o e.symm) hn⟩
  | _, _, .tup hs q, _, r => by
    cases r
    obtain ⟨its, rv, ⟨ob, ho, hc, n, hd⟩, _⟩ := I.tuple hs
    obtain ⟨as, hr, hn⟩ := DdAll.reads I hok q its rv
    exact ⟨_, .tuple ho hc hd hr, hn⟩
  | _, _, .dk (kvs := kvs) (ds := ds) hs o q, _, r => by
    cases r
    obtain ⟨_, hsys, vs, rk, ob, es, ep, ho, hex, hd, _, hp, _⟩ := I.hok _ _ hs
    obtain ⟨as, hr, hn⟩ := DdAll.reads I hok q _ (kv_vals rk)
    have hk := keys_read (h := s.heap) hp
    have hv := pairs_val hp
    have hl := q.len
    rw [List.length_map] at hl
    rw [kv_keys rk] at hk
    rw [← hv] at hr
    refine ⟨_, .dict (kvs := (kvs.map fun p => keyD p.1).zip ds) ho hex.1 hd (as := []) (bs := as) ?_ ?_, fun z => ?_⟩
    · rw [List.map_fst_zip (by rw [List.length_map]; omega)]
      exact hk
    · rw [List.map_snd_zip (by rw [List.length_map]; omega)]
      exact hr
    · rcases List.mem_append.mp z with z | z
      · exact hok _ o (List.mem_singleton.mp z).symm
      · exact hn z
theorem DdAll.reads (I : Inv X pins σ H s) (hok : ∀ a, ok a → a ≠ sysModules) : ∀ {vs : List V} {ds : List PyData}, DdAll X.K ok H vs ds → ∀ us, Vals vs us → ∃ as, ReadsAll s.heap us ds as ∧ sysModules ∉ as
  | _, _, .nil, _, r => by
    cases r
    exact ⟨_, .nil, List.not_mem_nil⟩
  | _, _, .cons h q, _, r => by
    cases r with
    | cons r1 r2 =>
      obtain ⟨as, q1, n1⟩ := Dd.reads I hok h _ r1
      obtain ⟨bs, q2, n2⟩ := DdAll.reads I hok q _ r2
      exact ⟨_, .cons q1 q2, fun z => (List.mem_append.mp z).elim n1 n2⟩
end
/-- what is shown fits -/
structure Shw (d : PyData) : Prop where
  shw : d.showable = true
  dep : d.depth ≤ 60
  len : d.shown.length ≤ sizeLine
/-- repr of anything -/
def rReprA (X : Cx) : List V → Hp → VK → Prop := fun xs H Q => ∃ (v : V) (d : PyData) (ok : Addr → Prop), xs = [v] ∧ (∀ a, ok a → a ≠ sysModules) ∧ Dd X.K ok H v d ∧ Shw d ∧ Q (.str d.shown) H
theorem call_reprA {k : Nat} (hg : X.A.guards = some []) (hr : Room k X.A) : CallR X (.builtin "repr") (rReprA X) := by
  intro pins s σ H xs us Q I r h
  obtain ⟨v, d, ok, rfl, hok, hd, ⟨h1, h2, h3⟩, q⟩ := h
  obtain ⟨u, rfl, rv⟩ := vals1 r
  obtain ⟨as, hR, hn⟩ := Dd.reads I hok hd u rv
  have hu := hr.units
  have big : ∀ a, u = .ref a → wpAny (model X.prog X.w) X.A (call (.builtin "repr") [.ref a]) (EP X pins σ Q) X.xe s := fun a e => by
    rw [e] at hR
    exact repr_of_reads' hR h1 (fun _ => hn) hg (by omega) (fun _ _ e => e) (fun h' u tk hk => ⟨.str d.shown, H, I.kept hk, ⟨_, rfl⟩, q⟩) h3
  cases hd with
  | non =>
    cases rv
    rw [PyData.shown_none] at q
    exact PySem.P.repr_of_none ⟨.str _, H, I.tok _, ⟨_, rfl⟩, q⟩
  | bl b =>
    cases rv
    rw [PyData.shown_bool] at q
    exact P.repr_of_bool ⟨.str _, H, I.kept fun _ _ e => e, ⟨_, rfl⟩, q⟩
  | int i =>
    obtain ⟨t, rfl⟩ := rv
    rw [PyData.shown_int] at q
    exact PySem.P.repr_of_int (by simpa [PyData.showable] using h1) ⟨.str _, H, I.tok _, ⟨_, rfl⟩, q⟩
  | str x =>
    obtain ⟨t, rfl⟩ := rv
    rw [PyData.shown_str] at q h3
    exact P.repr_of_str ⟨.str _, H, I.tok _, ⟨_, rfl⟩, q⟩ h3
  | lst _ _ _ =>
    cases rv
    exact big _ rfl
  | tup _ _ =>
    cases rv
    exact big _ rfl
  | dk _ _ _ =>
    cases rv
    exact big _ rfl
/-- str of a list, a tuple, a dict -/
def rStrA (X : Cx) : List V → Hp → VK → Prop := fun xs H Q => ∃ (a : Addr) (d : PyData) (ok : Addr → Prop), xs = [.ref a] ∧ (∀ a, ok a → a ≠ sysModules) ∧ Dd X.K ok H (.ref a) d ∧ Shw d ∧ Q (.str d.shown) H
theorem call_strA {k : Nat} (hg : X.A.guards = some []) (hr : Room k X.A) : CallR X (.type "str") (rStrA X) := by
  intro pins s σ H xs us Q I r h
  obtain ⟨a, d, ok, rfl, hok, hd, ⟨h1, h2, h3⟩, q⟩ := h
  obtain ⟨u, rfl, rv⟩ := vals1 r
  obtain rfl : u = Value.ref a := rv
  obtain ⟨as, hR, hn⟩ := Dd.reads I hok hd _ rfl
  have hu := hr.units
  exact str_of_reads hR h1 (fun _ => hn) hg (by omega) (fun _ _ e => e) (fun h' u tk hk => ⟨.str d.shown, H, I.kept hk, ⟨_, rfl⟩, q⟩) h3
/-- the class's name -/
def tyN : PyData → String
  | .none => "NoneType"
  | .bool _ => "bool"
  | .int _ => "int"
  | .str _ => "str"
  | .list _ => "list"
  | .tuple _ => "tuple"
  | .dict _ => "dict"
theorem Dd.ty {K : PySem.W.Frag} {v : V} {d : PyData} (h : Dd K ok H v d) : TyX K H v (.type (tyN d)) := by
  cases h with
  | non => exact .base .non
  | bl b => exact .base (.bl b)
  | int i => exact .base (.int i)
  | str x => exact .base (.str x)
  | lst h _ _ => exact .base (.lst h)
  | tup h _ =>
    rcases h with (h | ⟨o, h⟩) | ⟨o, its, n, h1, h2, _⟩
    · exact .base (.tup h)
    · exact .fTuple h
    · exact .kTuple h1 h2
  | dk h _ _ => exact .base (.dK h)
/-- == of anything but dicts -/
def rEqA (X : Cx) : R2 := fun x y H Q => ∃ (d e : PyData) (ok : Addr → Prop), (∀ a, ok a → a ≠ sysModules) ∧ Dd X.K ok H x d ∧ Dd X.K ok H y e ∧ SeqAt.shaped d = true ∧ SeqAt.shaped e = true ∧ Q (.bl (PyData.eqv d e)) H
theorem op_eqA (hu : X.A.units + 64 < cLine) : OpR X (compareOp .Eq) (rEqA X) := by
  intro pins s σ H x y v u Q I rx ry h
  obtain ⟨d, e, ok, hok, hd, he, sd, se, q⟩ := h
  obtain ⟨as, r1, _⟩ := Dd.reads I hok hd v rx
  obtain ⟨bs, r2, _⟩ := Dd.reads I hok he u ry
  exact SeqAt.compareEq_shaped r1 r2 sd se hu ⟨.bl _, H, I, rfl, q⟩
/-- in, not in, of anything but dicts, in a tuple of such -/
def rInA (X : Cx) (neg : Bool) : R2 := fun x y H Q => ∃ (d : PyData) (ds : List PyData) (ok : Addr → Prop), (∀ a, ok a → a ≠ sysModules) ∧ Dd X.K ok H x d ∧ Dd X.K ok H y (.tuple ds) ∧ SeqAt.shaped d = true ∧ SeqAt.shaped (.tuple ds) = true ∧ Q (.bl (if neg then !ds.any (fun z => PyData.eqv z d) else ds.any fun z => PyData.eqv z d)) H
theorem op_inA (hu : X.A.units + 65 < cLine) : OpR X (compareOp .In) (rInA X false) := by
  intro pins s σ H x y v u Q I rx ry h
  obtain ⟨d, ds, ok, hok, hd, he, sd, se, q⟩ := h
  obtain ⟨as, r1, _⟩ := Dd.reads I hok hd v rx
  obtain ⟨bs, r2, _⟩ := Dd.reads I hok he u ry
  exact SeqAt.in_tuple_reads r2 r1 (SeqAt.canLay_of_shaped se) (SeqAt.canLay_of_shaped sd) (room_in_shaped sd hu) ⟨.bl _, H, I, rfl, q⟩
theorem op_notInA (hu : X.A.units + 65 < cLine) : OpR X (compareOp .NotIn) (rInA X true) := by
  intro pins s σ H x y v u Q I rx ry h
  obtain ⟨d, ds, ok, hok, hd, he, sd, se, q⟩ := h
  obtain ⟨as, r1, _⟩ := Dd.reads I hok hd v rx
  obtain ⟨bs, r2, _⟩ := Dd.reads I hok he u ry
  exact SeqAt.notIn_tuple_reads r2 r1 (SeqAt.canLay_of_shaped se) (SeqAt.canLay_of_shaped sd) (room_in_shaped sd hu) ⟨.bl _, H, I, rfl, q⟩
/-- [e, ..]: a new list, not where the modules are -/
def tLstS (t : TA) : TE := fun σ H Q => t σ H fun xs H1 => xs.length ≤ sizeLine ∧ ∀ p, H1 p = none → p ≠ sysModules → Q (.ref p) (upd H1 p (.lst xs))
theorem pe_lstS {es : List Expr} {pos : Pos} {t : TA} (h : PA X es t) : PE X (.List es pos) (tLstS t) := by
  constructor
  intro pins s σ H Q I hq
  refine wpAny_List_spliced (thn (h.run pos pins s σ H _ I hq) ?_)
  rintro us s1 ⟨xs, H1, I1, r, z, q⟩
  refine ⟨by rw [← r.length]; exact z, ?_⟩
  have new := I1.hok.fresh (Nat.le_refl s1.heap.objs.size)
  have far : s1.heap.objs.size ≠ sysModules := (Nat.ne_of_lt I1.big).symm
  refine ⟨.ref s1.heap.objs.size, _, I1.laid (t' := s1.toks) (o := .lst xs) (fun b u e => Heap.get?_push_of_some _ e) (Nat.le_refl _) ⟨z, us, 0, r, Heap.get?_push_size _ rfl⟩, rfl, q _ new far⟩
/-- a dict does not lie where the modules are -/
def tSys (t : TE) : TE := fun σ H Q => t σ H fun v H' => (∀ a kvs, H' a = some (.dK kvs) → a ≠ sysModules) → Q v H'
theorem pe_sys {e : Expr} {t : TE} (h : PE X e t) : PE X e (tSys t) := by
  constructor
  intro pins s σ H Q I hq
  refine thn (h.run pins s σ H _ I hq) ?_
  rintro u s1 ⟨v, H1, I1, r, q⟩
  exact ⟨v, H1, I1, r, q fun a kvs e => fun z => by
    have := (I1.hok a _ e).2.1
    rw [z] at this
    exact absurd this (by decide)⟩
end
end AD

namespace E1
open PySem PySem.Spec PyProof.Rows L2 GR AD
/-- the tuples stay -/
def KeepT (H H' : Hp) : Prop := (∀ b xs, H b = some (.tup xs) → H' b = some (.tup xs)) ∧ ∀ b o xs, H b = some (.frz o (.tup xs)) → H' b = some (.frz o (.tup xs))
theorem KeepT.of {H H' : Hp} (s : Same H H') : KeepT H H' := ⟨fun b xs e => s b _ e, fun b o xs e => s b _ e⟩
theorem KeepT.refl {H : Hp} : KeepT H H := ⟨fun _ _ e => e, fun _ _ _ e => e⟩
theorem KeepT.trans {H H1 H2 : Hp} (a : KeepT H H1) (b : KeepT H1 H2) : KeepT H H2 := ⟨fun x xs e => b.1 x xs (a.1 x xs e), fun x o xs e => b.2 x o xs (a.2 x o xs e)⟩
theorem KeepT.seqt {K : PySem.W.Frag} {H H' : Hp} (s : KeepT H H') {a : Addr} {xs : List V} (h : SqT K H a xs) : SqT K H' a xs := by
  rcases h with (h | ⟨o, h⟩) | h
  · exact .inl (.inl (s.1 _ _ h))
  · exact .inl (.inr ⟨o, s.2 _ _ _ h⟩)
  · exact .inr h
theorem KeepT.upd {H : Hp} {a : Addr} {o : HO} (ha : ∀ xs, H a ≠ some (.tup xs)) (hb : ∀ u xs, H a ≠ some (.frz u (.tup xs))) : KeepT H (L2.upd H a o) := by
  refine ⟨fun b xs e => ?_, fun b u xs e => ?_⟩
  · have : b ≠ a := by
      rintro rfl
      exact ha xs e
    rw [upd_ne this]
    exact e
  · have : b ≠ a := by
      rintro rfl
      exact hb u xs e
    rw [upd_ne this]
    exact e
theorem KeepT.lst {H : Hp} {a : Addr} {ys : List V} {o : HO} (h : H a = some (.lst ys)) : KeepT H (L2.upd H a o) := KeepT.upd (fun xs e => by rw [h] at e; cases e) (fun u xs e => by rw [h] at e; cases e)
theorem KeepT.dk {H : Hp} {a : Addr} {ys : List (Key × V)} {o : HO} (h : H a = some (.dK ys)) : KeepT H (L2.upd H a o) := KeepT.upd (fun xs e => by rw [h] at e; cases e) (fun u xs e => by rw [h] at e; cases e)
theorem KeepT.non {H : Hp} {a : Addr} {o : HO} (h : H a = none) : KeepT H (L2.upd H a o) := KeepT.of (same_upd h)
theorem Keep.t {H H' : Hp} {d c : Addr} {N : Int} (k : Keep d c H H') (D : Deck H d c N) : KeepT H H' := by
  obtain ⟨cells, m, n, h1, h2, _⟩ := D
  exact ⟨fun b xs e => k _ _ (ne_of e h1 (fun z => by cases z)) (ne_of e h2 (fun z => by cases z)) e,
    fun b o xs e => k _ _ (ne_of e h1 (fun z => by cases z)) (ne_of e h2 (fun z => by cases z)) e⟩
def sl (d : PyData) : Nat := d.shown.length
def sls : List PyData → Nat
  | [] => 0
  | d :: ds => sl d + 2 + sls ds
theorem sls_eq : ∀ ds : List PyData, ((PyData.shownAll ds).map (·.length)).sum + 2 * ds.length = sls ds
  | [] => by simp only [PyData.shownAll, List.map_nil, List.sum_nil, List.length_nil, sls]
  | d :: ds => by
    have := sls_eq ds
    simp only [PyData.shownAll, List.map_cons, List.sum_cons, List.length_cons, sls, sl]
    omega
theorem sls_append : ∀ (xs ys : List PyData), sls (xs ++ ys) = sls xs + sls ys
  | [], ys => by simp only [List.nil_append, sls, Nat.zero_add]
  | x :: xs, ys => by
    have := sls_append xs ys
    simp only [List.cons_append, sls]
    omega
theorem sls_le {b : PyData → Nat} : ∀ {ds : List PyData}, (∀ d, d ∈ ds → sl d + 2 ≤ b d) → sls ds ≤ (ds.map b).sum
  | [], _ => Nat.le_refl _
  | d :: ds, h => by
    have h1 := h d List.mem_cons_self
    have h2 := sls_le fun x hx => h x (List.mem_cons_of_mem _ hx)
    simp only [sls, List.map_cons, List.sum_cons]
    omega
theorem sl_tup (ds : List PyData) : sl (.tuple ds) ≤ sls ds + 3 := by
  have h1 := tupleText_len_le (PyData.shownAll ds)
  have h2 := sls_eq ds
  rw [PyData.shownAll_length] at h1
  unfold sl
  simp only [PyData.shown]
  omega
theorem sl_lst (ds : List PyData) : sl (.list ds) ≤ sls ds + 3 := by
  have h1 := listText_len_le (PyData.shownAll ds)
  have h2 := sls_eq ds
  rw [PyData.shownAll_length] at h1
  unfold sl
  simp only [PyData.shown]
  omega
structure Sz (k m : Nat) (x : PyData) : Prop where
  shw : x.showable = true
  dep : x.depth ≤ k
  len : sl x + 2 ≤ m
theorem Sz.mono {k m k' m' : Nat} {x : PyData} (h : Sz k m x) (h1 : k ≤ k') (h2 : m ≤ m') : Sz k' m' x := ⟨h.shw, Nat.le_trans h.dep h1, Nat.le_trans h.len h2⟩
theorem Sz.shown {k m : Nat} {x : PyData} (h : Sz k m x) (h1 : k ≤ 60) (h2 : m ≤ 16000000) : Shw x := ⟨h.shw, Nat.le_trans h.dep h1, by
  have z3 : x.shown.length + 2 ≤ m := h.len
  have z24 : sizeLine = 16777216 := by decide
  omega⟩
inductive Szs (k : Nat) : Nat → List PyData → Prop
  | nil : Szs k 0 []
  | cons {m n : Nat} {x : PyData} {xs : List PyData} : Sz k m x → Szs k n xs → Szs k (m + n) (x :: xs)
theorem Szs.all {k n : Nat} {xs : List PyData} (h : Szs k n xs) : PyData.showableAll xs = true ∧ PyData.depthAll xs ≤ k ∧ sls xs ≤ n := by
  induction h with
  | nil => exact ⟨by simp only [PyData.showableAll], by simp only [PyData.depthAll]; omega, Nat.le_refl _⟩
  | cons h1 _ ih =>
    obtain ⟨b, c, d⟩ := ih
    refine ⟨by simp only [PyData.showableAll, h1.shw, b, Bool.and_self], ?_, ?_⟩
    · have := h1.dep
      simp only [PyData.depthAll]
      omega
    · have := h1.len
      simp only [sls]
      omega
theorem Szs.tup {k n : Nat} {xs : List PyData} (h : Szs k n xs) : Sz (k + 1) (n + 5) (.tuple xs) := by
  obtain ⟨b, c, d⟩ := h.all
  refine ⟨by simp only [PyData.showable, b], by simp only [PyData.depth]; omega, ?_⟩
  have := sl_tup xs
  omega
theorem Szs.lst {k n : Nat} {xs : List PyData} (h : Szs k n xs) : Sz (k + 1) (n + 5) (.list xs) := by
  obtain ⟨b, c, d⟩ := h.all
  refine ⟨by simp only [PyData.showable, b], by simp only [PyData.depth]; omega, ?_⟩
  have := sl_lst xs
  omega
theorem Sz.k0 {k m : Nat} {x : PyData} (h : Sz 0 m x) : Sz k m x := h.mono (Nat.zero_le _) (Nat.le_refl _)
theorem Sz.int {n : Int} (h : n.natAbs < 10 ^ 40) : Sz 0 43 (.int n) := by
  refine ⟨?_, by simp only [PyData.depth]; omega, ?_⟩
  · simp only [PyData.showable]
    refine decide_eq_true ?_
    by_cases e : n.natAbs = 0
    · rw [e]; decide
    · exact (Nat.log2_lt e).mpr (Nat.lt_of_lt_of_le h (by decide +kernel))
  · have e := int_text_length_le10 (k := 40) (by decide) h
    unfold sl
    rw [PyData.shown_int, PySem.ofString_length]
    omega
theorem Sz.str {z : Str} (h : (reprText z).length ≤ 40) : Sz 0 42 (.str z) := ⟨by simp only [PyData.showable], by simp only [PyData.depth]; omega, by unfold sl; rw [PyData.shown_str]; omega⟩
theorem Sz.bl (b : Bool) : Sz 0 42 (.bool b) := ⟨by simp only [PyData.showable], by simp only [PyData.depth]; omega, by unfold sl; rw [PyData.shown_bool]; cases b <;> decide⟩
theorem Sz.non : Sz 0 42 .none := ⟨by simp only [PyData.showable], by simp only [PyData.depth]; omega, by unfold sl; rw [PyData.shown_none]; decide⟩
mutual
theorem Dd.new {K : PySem.W.Frag} {ok : Addr → Prop} {H : Hp} {p : Addr} (np : H p = none) : ∀ {v : V} {d : PyData}, Dd K ok H v d → Dd K (fun a => ok a ∧ a ≠ p) H v d
  | _, _, .non => .non
  | _, _, .bl b => .bl b
  | _, _, .int i => .int i
  | _, _, .str x => .str x
  | _, _, .lst h o q => .lst h ⟨o, ne_of_none h np⟩ (DdAll.new np q)
  | _, _, .tup h q => .tup h (DdAll.new np q)
  | _, _, .dk h o q => .dk h ⟨o, ne_of_none h np⟩ (DdAll.new np q)
theorem DdAll.new {K : PySem.W.Frag} {ok : Addr → Prop} {H : Hp} {p : Addr} (np : H p = none) : ∀ {vs : List V} {ds : List PyData}, DdAll K ok H vs ds → DdAll K (fun a => ok a ∧ a ≠ p) H vs ds
  | _, _, .nil => .nil
  | _, _, .cons h q => .cons (Dd.new np h) (DdAll.new np q)
end
/-- a list is changed where nothing of the data lies -/
theorem KeepO.at' {ok : Addr → Prop} {H : Hp} {p : Addr} {ys : List V} {o : HO} (h : H p = some (.lst ys)) : KeepO (fun a => ok a ∧ a ≠ p) H (upd H p o) :=
  ⟨(KeepT.lst h).1, (KeepT.lst h).2, fun b u ho e => by rw [upd_ne ho.2]; exact e⟩
theorem Keep.o {d c : Addr} {H H' : Hp} {N : Int} {ok : Addr → Prop} (k : Keep d c H H') (D : Deck H d c N) (h : ∀ a, ok a → a ≠ d ∧ a ≠ c) : KeepO ok H H' :=
  ⟨(Keep.t k D).1, (Keep.t k D).2, fun b u ho e => k _ _ (h _ ho).1 (h _ ho).2 e⟩
/-- new since H, and not the deck's -/
def oke (d c : Addr) (H : Hp) : Addr → Prop := fun a => (a ≠ d ∧ a ≠ c) ∧ H a = none
theorem szs_all {k m : Nat} : ∀ {ds : List PyData}, (∀ x, x ∈ ds → Sz k m x) → Szs k (m * ds.length) ds
  | [], _ => .nil
  | x :: xs, h => by
    have := Szs.cons (h x List.mem_cons_self) (szs_all fun y hy => h y (List.mem_cons_of_mem _ hy))
    rw [List.length_cons, Nat.mul_succ, Nat.add_comm]
    exact this
theorem Sz.dict2 {k m : Nat} {x : PyData} (h : Sz k m x) : Sz (k + 1) (m + 30) (.dict [(.str "slot", x), (.int 0, .none)]) := by
  have e := dictText_len_le (PyData.shownKv [(.str "slot", x), (.int 0, .none)])
  have l1 := h.len
  unfold sl at l1
  have l2 : (PyData.str "slot").shown.length = 6 := by decide +kernel
  have l3 : (PyData.int 0).shown.length = 1 := by decide +kernel
  have l4 : PyData.none.shown.length = 4 := by decide +kernel
  refine ⟨?_, ?_, ?_⟩
  · simp only [PyData.showable, PyData.showableKv, h.shw, Bool.and_self, Bool.true_and, Bool.and_true]
    decide +kernel
  · have := h.dep
    simp only [PyData.depth, PyData.depthKv]
    omega
  · unfold sl
    rw [show (PyData.dict [(.str "slot", x), (.int 0, .none)]).shown = dictText (PyData.shownKv [(.str "slot", x), (.int 0, .none)]) from by simp only [PyData.shown]]
    simp only [PyData.shownKv, List.map_cons, List.map_nil, List.sum_cons, List.sum_nil, List.length_cons, List.length_nil, strLen_append, l2, l3, l4] at e ⊢
    have : (": " : Str).length = 2 := by decide
    omega
end E1

namespace E1
open PySem PySem.Spec PyProof.Rows L2 GR AD
def drT : Nat → Int
  | 0 => 4
  | n + 1 => 6 + 3 * drT n
theorem drT_pos : ∀ n, 4 ≤ drT n
  | 0 => by simp only [drT]; omega
  | n + 1 => by
    have := drT_pos n
    simp only [drT]
    omega
def szT : Nat → Nat
  | 0 => 43
  | n + 1 => 3 * szT n + 40
theorem szT_pos : ∀ n, 43 ≤ szT n
  | 0 => by simp only [szT]; omega
  | n + 1 => by
    have := szT_pos n
    simp only [szT]
    omega
/-- any value, nested n deep at most -/
def sp_thing (K : PySem.W.Frag) (n : Nat) : Sp := fun vs H Q _ => ∃ (d c : Addr) (N deep : Int), vs = [.ref d, .int deep] ∧ Deck H d c N ∧ N + drT n < 2 ^ 58 ∧ 0 ≤ deep ∧ deep ≤ (n : Int) ∧
  ∀ H' v x, Keep d c H H' → Deck H' d c (N + drT n) → Dd K (oke d c H) H' v x → Sz (2 * n + 1) (szT n) x → Q v H'
def sp_below (K : PySem.W.Frag) : Nat → Sp
  | 0 => fun _ _ _ _ => False
  | n + 1 => sp_thing K n
/-- values are being made into the list at b -/
def GInv (K : PySem.W.Frag) (n : Nat) (d c : Addr) (H0 : Hp) (b : Addr) (N : Int) (i : Nat) (H : Hp) : Prop :=
  ∃ vs ds, vs.length = i ∧ H b = some (.lst vs) ∧ (∀ a o, a ≠ d → a ≠ c → a ≠ b → H0 a = some o → H a = some o) ∧ Deck H d c (N + (i : Int) * drT n) ∧ DdAll K (fun a => oke d c H0 a ∧ a ≠ b) H vs ds ∧ ∀ x, x ∈ ds → Sz (2 * n + 1) (szT n) x
theorem Deck.upd {H : Hp} {d c a : Addr} {N : Int} {o : HO} (D : Deck H d c N) (h1 : a ≠ d) (h2 : a ≠ c) : Deck (L2.upd H a o) d c N := by
  obtain ⟨cells, m, n, g1, g2, g3⟩ := D
  refine ⟨cells, m, n, ?_, ?_, g3⟩
  · rw [upd_ne h1.symm]
    exact g1
  · rw [upd_ne h2.symm]
    exact g2
theorem ddAll_append {K : PySem.W.Frag} {ok : Addr → Prop} {H : Hp} : ∀ {vs us : List V} {ds es : List PyData}, DdAll K ok H vs ds → DdAll K ok H us es → DdAll K ok H (vs ++ us) (ds ++ es)
  | [], _, _, _, h, g => by
    cases h
    exact g
  | v :: vs, _, _, _, h, g => by
    cases h with
    | cons h1 h2 => exact .cons h1 (ddAll_append h2 g)
theorem GInv.start {K : PySem.W.Frag} {n : Nat} {d c : Addr} {H0 : Hp} {b : Addr} {N : Int} (D : Deck H0 d c N) (nb : H0 b = none) : GInv K n d c H0 b N 0 (L2.upd H0 b (.lst [])) := by
  have s := same_upd (o := .lst []) nb
  refine ⟨[], [], rfl, upd_same, fun a o _ _ _ e => s _ _ e, (D.same s).mono ?_, .nil, fun x hx => (nomatch hx)⟩
  rw [Int.natCast_zero, Int.zero_mul]
  omega
theorem GInv.step {K : PySem.W.Frag} {n : Nat} {d c : Addr} {H0 H : Hp} {b : Addr} {N M deep : Int} {i : Nat} {Q : VK} {E : XK} (D : Deck H0 d c M) (nb : H0 b = none) (T : GInv K n d c H0 b N i H) (hi : i ≤ 2)
    (hN : N + 3 * drT n < 2 ^ 58) (hd0 : 0 ≤ deep) (hd : deep ≤ (n : Int)) (q : ∀ H' v, (∃ acc, H' b = some (.lst acc) ∧ acc.length < sizeLine ∧ GInv K n d c H0 b N (i + 1) (L2.upd H' b (.lst (acc ++ [v])))) → Q v H') :
    sp_thing K n [.ref d, .int deep] H Q E := by
  obtain ⟨vs, ds, hlen, hb, kk, D2, hdp, hex⟩ := T
  have h1 := D.new nb
  have p := drT_pos n
  have hm : (i : Int) * drT n ≤ 2 * drT n := Int.mul_le_mul_of_nonneg_right (by omega) (by omega)
  have hs : ((i + 1 : Nat) : Int) * drT n = (i : Int) * drT n + drT n := by rw [Int.natCast_succ, Int.add_mul, Int.one_mul]
  refine ⟨d, c, _, deep, rfl, D2, ?_, hd0, hd, fun H' v x k D3 hv hx => q _ _ ?_⟩
  · omega
  have hb3 := k b _ h1.1 h1.2 hb
  have kt2 : KeepO (fun a => oke d c H0 a ∧ a ≠ b) H' (L2.upd H' b (.lst (vs ++ [v]))) := KeepO.at' hb3
  refine ⟨vs, hb3, small1000 (by omega), vs ++ [v], ds ++ [x], by rw [List.length_append, hlen]; rfl, upd_same, ?_, ?_, ?_, ?_⟩
  · intro a o n1 n2 n3 e
    rw [upd_ne n3]
    exact k _ _ n1 n2 (kk a o n1 n2 n3 e)
  · refine (D3.upd h1.1 h1.2).mono ?_
    omega
  · refine ddAll_append ((hdp.keep (Keep.o k D2 fun a ha => ha.1.1)).keep kt2) (.cons ((hv.mono (fun a ha => ?_)).keep kt2) .nil)
    obtain ⟨⟨n1, n2⟩, hn⟩ := ha
    have nab : a ≠ b := (ne_of_none hb hn).symm
    refine ⟨⟨⟨n1, n2⟩, ?_⟩, nab⟩
    cases e : H0 a with
    | none => rfl
    | some o =>
      rw [kk a o n1 n2 nab e] at hn
      cases hn
  · intro y hy
    rcases List.mem_append.mp hy with hy | hy
    · exact hex y hy
    · rw [List.mem_singleton.mp hy]
      exact hx
section
variable {P : Program} {w : World} {K : PySem.W.Frag} {mg : Str → Option Value} {base : Heap}
abbrev s_law_thing : Stmt := topS 15
abbrev N_thing : List Str := ["_law_deck_here", "_law_deep", "_law_way", "_law_some", "_law_k"]
theorem sc_law_thing : FnScope N_thing ["_law_deck_here", "_law_deep"] (defScope s_law_thing) := ⟨rfl, rfl, rfl, by decide +kernel, rfl, by decide +kernel, by decide +kernel⟩
theorem ok_thing {j : Nat} {f f_law_draw f_law_pick f_law_thing : Addr} {fd fd_law_draw fd_law_pick fd_law_thing : FuncData} {k : Nat} (F : Fun K "_law_thing" "_law_thing" s_law_thing f fd)
    (G_law_draw : FnOk P w K mg base CX0 k f_law_draw fd_law_draw ["_law_deck_here", "_law_most"] sp_draw)
    (g_law_draw : mg "_law_draw" = some (.ref f_law_draw)) (K_law_draw : PySem.W.keepIn K (.ref f_law_draw) = true) (b_law_draw : Binds K fd_law_draw ["_law_deck_here", "_law_most"] [])
    (G_law_pick : FnOk P w K mg base CX0 k f_law_pick fd_law_pick ["_law_deck_here", "_law_some"] (sp_pick K))
    (g_law_pick : mg "_law_pick" = some (.ref f_law_pick)) (K_law_pick : PySem.W.keepIn K (.ref f_law_pick) = true) (b_law_pick : Binds K fd_law_pick ["_law_deck_here", "_law_some"] [])
    (G_law_thing : FnOk P w K mg base CX0 k f_law_thing fd_law_thing ["_law_deck_here", "_law_deep"] (sp_below K j))
    (g_law_thing : mg "_law_thing" = some (.ref f_law_thing)) (K_law_thing : PySem.W.keepIn K (.ref f_law_thing) = true) (b_law_thing : Binds K fd_law_thing ["_law_deck_here", "_law_deep"] [])
    (mrange : mg "range" = none) (mtuple : mg "tuple" = none) : FnOk P w K mg base CX0 (k + 1) f fd ["_law_deck_here", "_law_deep"] (sp_thing K j) := by
  have nd := sc_law_thing.nd
  refine F.ok sc_law_thing (fun vs H Q E h => ?_) (fun cdv A outer s H vs Q E hr h => ?_)
  · obtain ⟨d, c, N, deep, rfl, _⟩ := h
    rfl
  obtain ⟨d, c, N, deep, rfl, D, hN, hd0, hd1, q⟩ := h
  have hp := drT_pos j
  have hz := szT_pos j
  refine ⟨_, (pss_cons (ps_set (i := 2) nd rfl (.inl rfl) (pe_call G_law_draw hr (by rfl) g_law_draw K_law_draw b_law_draw .nil pass0 (pa_cons (pv 0) (pa_cons pe_int pa_nil))))
      (pss_cons (ps_if (PW.pt (pw_or (pt_cmpR op_lt (pv 2) pe_int (nomark _)) (pw_or1 (pt_cmpR op_eq (pv 1) pe_int (nomark _)))))
      (pss_cons (ps_set (i := 3) nd rfl (.inl rfl) (pe_lst (pa_cons pe_non (pa_cons pe_bl (pa_cons pe_bl (pa_cons pe_int (pa_cons (pe_call G_law_draw hr (by rfl) g_law_draw K_law_draw b_law_draw .nil pass0 (pa_cons (pv 0) (pa_cons pe_int pa_nil))) (pa_cons (pe_op op_sub pe_int (pe_call G_law_draw hr (by rfl) g_law_draw K_law_draw b_law_draw .nil pass0 (pa_cons (pv 0) (pa_cons pe_int pa_nil)))) (pa_cons (pe_op op_pow pe_int pe_int) (pa_cons pe_str (pa_cons pe_str (pa_cons pe_str (pa_cons (pe_tup pa_nil) pa_nil)))))))))))))
        (pss_one (ps_ret (pe_call G_law_pick hr (by rfl) g_law_pick K_law_pick b_law_pick .nil pass0 (pa_cons (pv 0) (pa_cons (pv 3) pa_nil))))))
      pss_nil)
      (pss_cons (ps_setLc (i := 3) (own := [("_law_k", 4)]) (te := tCall (sp_below K j) [] E0 (tCons (tVar 0) (tCons (tOp (rI0 fun i j => .int (i - j)) (tVar 1) (tC (.int 1))) tNil))) rfl nd rfl rfl (sw_true rfl rfl rfl (by decide +kernel)) (pi_range1 rfl mrange (pa_cons (pe_call G_law_draw hr (by rfl) g_law_draw K_law_draw b_law_draw .nil pass0 (pa_cons (pv 0) (pa_cons pe_int pa_nil))) pa_nil)) (blkOk_by (N := N_thing) (sc := defScope s_law_thing) (by decide +kernel)) (fun _ _ _ _ _ => (pg_name (i := 4) nd rfl (Or.inl rfl))) (fun _ _ _ _ _ => pts_nil) (fun _ _ _ _ _ => (pe_call G_law_thing hr (by rfl) g_law_thing K_law_thing b_law_thing .nil pass0 (pa_cons (pv 0) (pa_cons (pe_op op_sub (pv 1) pe_int) pa_nil)))))
      (pss_cons (ps_if (pt_cmpR op_lt (pv 2) pe_int (nomark _))
      (pss_one (ps_ret (pe_callTy call_tuple_of (by rfl) mtuple boot_tuple (pa_cons (pv 3) pa_nil))))
      pss_nil)
      (pss_one (ps_ret (pe_ifExp (pt_cmpR op_eq (pv 2) pe_int (nomark _)) (pv 3) (pe_disp (pps_cons pe_str (pv 3) (pps_cons pe_int pe_non pps_nil)) (by decide) rfl (by simp) (by decide))))))))), ?_⟩
  refine ⟨.ref d, rfl, d, c, N, 10, rfl, D, by omega, by decide, by decide, fun H1 way k1 D1 w0 w1 => ?_⟩
  -- a value by itself
  have lf : ∀ v x (H' : Hp), Keep d c H1 H' → Deck H' d c (N + 4) → Dd K (oke d c H) H' v x → Sz 1 43 x → Q v H' := fun v x H' k D' hv hx => q H' v x (k1.trans k) (D'.mono (by omega)) hv (hx.mono (by omega) (by omega))
  refine (fun LF => ⟨.int way, rfl, _, _, rfl, rfl, _, rfl, ite2 (fun e1 => iteT LF) (fun e1 => ⟨.int deep, rfl, rfl, _, rfl, ite2 (fun e2 => LF) (fun e2 => ?rest)⟩)⟩) ?leaf
  case leaf =>
    refine ⟨.ref d, rfl, d, c, N + 1, 400, rfl, D1, by omega, by decide, by decide, fun H2 r2 k2 D2 r20 r21 => ?_⟩
    refine ⟨.ref d, rfl, d, c, N + 1 + 1, 9, rfl, D2, by omega, by decide, by decide, fun H3 r3 k3 D3 r30 r31 => ⟨_, _, rfl, rfl, _, _, rfl, rfl, ⟨by decide, by decide, by decide⟩, Nat.zero_le _, fun p np => ⟨small_le (show 11 ≤ 1000 by decide), fun l nl => ?_⟩⟩⟩
    have s1 := same_upd (o := .tup []) np
    have hp1 : upd H3 p (.tup []) p = _ := upd_same
    revert nl s1 hp1
    generalize upd H3 p (.tup []) = H4
    intro nl s1 hp1
    have s2 := same_upd (o := .lst [.non, .bl true, .bl false, .int 0, .int r2, .int (0 - r3), .int (10 ^ (39 : Int).toNat), .str "", .str "line", .str "a\nb", .ref p]) nl
    have hl1 : upd H4 l (.lst [.non, .bl true, .bl false, .int 0, .int r2, .int (0 - r3), .int (10 ^ (39 : Int).toNat), .str "", .str "line", .str "a\nb", .ref p]) l = _ := upd_same
    revert s2 hl1
    generalize upd H4 l (.lst [.non, .bl true, .bl false, .int 0, .int r2, .int (0 - r3), .int (10 ^ (39 : Int).toNat), .str "", .str "line", .str "a\nb", .ref p]) = H5
    intro s2 hl1
    have k35 : Keep d c H3 H5 := Keep.of (s1.trans s2)
    have D4 := D3.same s1
    have D5 := D4.same s2
    have hl := D4.new nl
    have k15 := (k2.trans k3).trans k35
    have hp5 := s2 _ _ hp1
    refine ⟨.ref d, rfl, .ref l, rfl, .inl ⟨d, c, l, N + 1 + 1 + 1, _, rfl, D5, by omega, .inl (.inl hl1), List.cons_ne_nil _ _, (show 11 ≤ 1000 by decide), hl.1, hl.2, fun H6 v k6 D6 hv => ?_⟩⟩
    have go : ∀ x, Dd K (oke d c H) H6 v x → Sz 1 43 x → Q v H6 := fun x a b => lf v x H6 (k15.trans k6) (D6.mono (by omega)) a b
    have w42 : ∀ {x : PyData}, Sz 0 42 x → Sz 1 43 x := fun h => h.mono (by omega) (by omega)
    have w43 : ∀ {x : PyData}, Sz 0 43 x → Sz 1 43 x := fun h => h.mono (by omega) (by omega)
    simp only [List.mem_cons, List.not_mem_nil, or_false] at hv
    rcases hv with rfl | rfl | rfl | rfl | rfl | rfl | rfl | rfl | rfl | rfl | rfl
    · exact go _ .non (w42 Sz.non)
    · exact go _ (.bl _) (w42 (Sz.bl _))
    · exact go _ (.bl _) (w42 (Sz.bl _))
    · exact go _ (.int _) (w43 (Sz.int (by omega)))
    · exact go _ (.int _) (w43 (Sz.int (by omega)))
    · exact go _ (.int _) (w43 (Sz.int (by omega)))
    · exact go _ (.int _) (w43 (Sz.int (by decide +kernel)))
    · exact go _ (.str _) (w42 (Sz.str (by decide +kernel)))
    · exact go _ (.str _) (w42 (Sz.str (by decide +kernel)))
    · exact go _ (.str _) (w42 (Sz.str (by decide +kernel)))
    · refine go _ (.tup (.inl (.inl ((Keep.t k6 D5).1 _ _ hp5))) .nil) ((Szs.nil (k := 0)).tup.mono (by omega) (by omega))
  case rest =>
    have hj : deep ≠ 0 := fun z => e2 (by rw [z]; rfl)
    obtain ⟨n, rfl⟩ : ∃ n, j = n + 1 := ⟨j - 1, by omega⟩
    have hpn := drT_pos n
    have hzn := szT_pos n
    have hdr : drT (n + 1) = 6 + 3 * drT n := rfl
    have hsz : szT (n + 1) = 3 * szT n + 40 := rfl
    refine ⟨.ref d, rfl, d, c, N + 1, 4, rfl, D1, by omega, by decide, by decide, fun H2 m k2 D2 m0 m1 => ⟨m, rfl, by omega, by omega, fun B nB => ?_⟩⟩
    obtain ⟨mn, rfl⟩ := Int.eq_ofNat_of_zero_le m0
    have em : ((mn : Int)).toNat = mn := by omega
    rw [em]
    have k02 := k1.trans k2
    refine lc_range (n := mn) (fun i H' => GInv K n d c H2 B (N + 1 + 1) i H') (GInv.start D2 nB) ?_ ?_
    · rintro i H7 hi T
      exact ⟨rfl, yes_then ⟨.ref d, rfl, .int deep, rfl, deep, 1, rfl, rfl, GInv.step (E := E) D2 nB T (by omega) (by omega) (by omega) (by omega) (fun H' v h => h)⟩⟩
    rintro H7 T
    have hB := D2.new nB
    obtain ⟨vs, ds, hlen, hb, kk, D7, hdd, hall⟩ := T
    have nB0 : H B = none := Keep.free k02 nB hB.1 hB.2
    have k27 : Keep d c H2 H7 := fun a o n1 n2 e => kk a o n1 n2 (ne_of_none e nB) e
    have k07 := k02.trans k27
    have hl7 := hdd.len
    have hm : (mn : Int) * drT n ≤ 3 * drT n := Int.mul_le_mul_of_nonneg_right (by omega) (by omega)
    have hds : DdAll K (oke d c H) H7 vs ds := hdd.mono fun a ha => ⟨ha.1.1, Keep.free k02 ha.1.2 ha.1.1.1 ha.1.1.2⟩
    have hsq : Szs (2 * n + 1) (szT n * ds.length) ds := szs_all hall
    have hsl : szT n * ds.length ≤ szT n * 3 := Nat.mul_le_mul_left _ (by omega)
    refine ⟨.int way, rfl, _, _, rfl, rfl, _, rfl, ite2 (fun e4 => ?_) (fun e4 => ?_)⟩
    · refine ⟨.ref B, rfl, B, vs, rfl, .inl ⟨.inl (.inl hb), fun p np => ?_⟩⟩
      have s := same_upd (o := .tup vs) np
      exact q _ _ _ (k07.trans (Keep.of s)) ((D7.same s).mono (by omega)) (.tup (.inl (.inl upd_same)) (hds.keep (KeepO.of s))) (hsq.tup.mono (by omega) (by omega))
    · have hlst : Dd K (oke d c H) H7 (.ref B) (.list ds) := .lst hb ⟨hB, nB0⟩ hds
      have zl : Sz (2 * n + 2) (szT n * ds.length + 5) (.list ds) := hsq.lst
      refine ⟨.int way, rfl, rfl, _, rfl, ite2 (fun e5 => ?_) (fun e5 => ?_)⟩
      · exact ⟨.ref B, rfl, q _ _ _ k07 (D7.mono (by omega)) hlst (zl.mono (by omega) (by omega))⟩
      · intro p np
        refine ⟨.ref B, rfl, ⟨upd_same, [(.inr "slot", .ref B), (.inl 0, .non)], rfl, (show 2 ≤ 15 by decide), ?_⟩⟩
        rw [upd_upd]
        have hpd := D7.new np
        have s := same_upd (o := .dK (mergeK [] [(.inr "slot", .ref B), (.inl 0, .non)])) np
        refine q _ _ _ (k07.trans (Keep.of s)) ((D7.same s).mono (by omega)) (.dk (kvs := [(.inr "slot", .ref B), (.inl 0, .non)]) (ds := [.list ds, .none]) upd_same ⟨hpd, Keep.free k07 np hpd.1 hpd.2⟩ (.cons (hlst.keep (KeepO.of s)) (.cons .non .nil))) ((Sz.dict2 zl).mono (by omega) (by omega))
end
end E1

/-! ES: an own exception whose own first def says super().__init__(text) and then notes its argument. -/
namespace ESv
open PySem PySem.Spec PyProof.Rows L2 NdefX

section
open PySem.W PySem.Calls
variable {prog : Program} {w : World} {A : Around} {E : Value → Shared → Prop} {h : Heap} {g : Array GenState} {d : Drawn} {t : Nat} {os : OsState}
variable {nm q : Str} {C N : Addr} {bs bm : List Value} {hdct : Bool} {sn : List Str} {sub : List Value} {ab : Bool} {col : Option Bool} {dd : Option Addr} {k0 k1 k2 k3 k5 : Option Value}
/-- the bound built-in, called -/
theorem call_mw {u e t0 : Addr} {rest : List Value} {Q : Value → Shared → Prop}
    (hC : h.get? C = some (excClassObj nm q C N bs bm hdct sn sub ab col dd k0 k1 k2 k3 k5 "ValueError.__new__")) (he : h.get? e = some (HandSPX.excO C t0)) (hu : h.get? u = some (kxs_mw "ValueError.__init__" e)) (hrest : rest.length ≤ sizeLine)
    (hq : ∀ h' t1, (∀ b o, b ≠ e → h.get? b = some o → h'.get? b = some o) → h'.get? e = some (HandSPX.excO C t1) → Q .none ⟨h', g, d, t, os⟩) :
    wpAny (model prog w) A (call (.ref u) rest) Q E ⟨h, g, d, t, os⟩ := by
  refine wpAny_call (codeAny_of_tree ?_)
  show wpAny _ A.in1 (callAny (.ref u) ⟨rest, []⟩) _ _ _
  simp only [callAny]
  refine wpAny_bind (wpAny_load hu ?_)
  simp only [kxs_mw, show (Value.type "method-wrapper" == Value.type "method" || Value.type "method-wrapper" == Value.type "builtin_function_or_method" || Value.type "method-wrapper" == Value.type "method-wrapper") = true by decide, if_true]
  refine W.KFB.if_so (by decide) ?_
  refine wpAny_bind (PySem.ESX.check_bound F.excBase_ValueError hC he rfl ?_)
  refine wpAny_bind (wpAny_pure (wpAny_pure ?_))
  refine ⟨Code.quiet_builtin _ (by decide +kernel), codeAny_builtin F.excBase_ValueError.initEntry ?_⟩
  rw [Around.under_plainId F.excBase_ValueError.init.plain _]
  wp_walk
  refine hq _ h.objs.size (fun b o hb ho => ?_) ?_
  · rw [Heap.get?_update_other _ _ (Ne.symm hb)]
    exact Heap.get?_push_of_some _ ho
  · rw [Heap.get?_update_self _ (Heap.get?_push_of_some _ he) rfl]
    rfl
end

/-- what the written part says of the class C, whose own first def stands at fI, its cell at cc, its code object at cda -/
structure SuC (P : Program) (K : PySem.W.Frag) (mg : Str → Option Value) (C cc cda : Addr) : Prop where
  oex : OexC K C
  cls : (PySem.W.clsIn K C).isSome = true
  along : PySem.W.ks_superIn K C C "__init__" = some (some (.builtin "ValueError.__init__"))
  plain : PySem.W.nsIn K cStatics "thirdparty.any" = some none
  isVE : PySem.W.subIn K (.ref C) (.type "ValueError") = some true
  isC : PySem.W.mroIn K C (.ref C) = some true
  nosup : mg "super" = none
  cell : ∃ cl cld csl, K.lookup cc = some ⟨cl, cld, .cell (some (.ref C)), csl⟩
  code : ∃ ccl cdd vs ccs file tf, K.lookup cda = some ⟨ccl, cdd, .fields vs, ccs⟩ ∧ vs[2]? = some (.str file tf) ∧ ((P.main.file : Str) == file) = true
  top : (P.main.scope.names.lookup ("super" : Str)).isSome = false

/-- the promise: the exception at a, being made, gets its dict -/
def spIni (C : Addr) (fld : Str) : Sp := fun vs H Q _ => ∃ (a : Addr) (v : V), vs = [.ref a, v] ∧ H a = some (exo a C none) ∧
  ∀ dx, H dx = none → dx ≠ a → Q .non (upd (upd H dx (exd dx [(fld, v)])) a (exo a C (some dx)))

section
variable {CX : CXT} {P : Program} {w : World} {K : PySem.W.Frag} {mg : Str → Option Value} {base : Heap} {k : Nat} {fI C cc cda : Addr} {name qual par fld msg : Str} {params : Arguments} {scope : Scope} {dV kV doc pm ct oc : Value} {an od : Option Addr} {osl : Array (Option Value)} {j : Nat}
  {p0 p1 p2 p3 p4 p5 p6 p7 p8 p9 : Pos} {ar : Arg} {pl : Addr → Sem Bool}
abbrev iniBody (msg fld par : Str) (j : Nat) (p0 p1 p2 p3 p4 p5 p6 p7 p8 p9 : Pos) : List Stmt :=
  [.Expr (.Call (.Attribute (.Call (.Name "super" p0) [] [] p1) "__init__" p2) [.Constant (.str msg) j p3] [] p4) p5, .Assign [.Attribute (.Name "self" p6) fld p7] (.Name par p8) p9]

theorem ok_ini (T : SuC P K mg C cc cda) (hfld : PySem.W.findIn K (.ref C) fld = some none)
    (lk : K.lookup fI = some ⟨oc, od, .func (PySem.W.fnX name qual params (iniBody msg fld par j p0 p1 p2 p3 p4 p5 p6 p7 p8 p9) scope [("__class__", cc)] dV kV doc pm an (.ref cda) ct), osl⟩) (hcd : PySem.W.codeIn K (.ref cda) qual = true)
    (S : NScope [("self" : Str), par, "__class__"] [("self" : Str), par] [("__class__" : Str)] scope) (hsup : scope.names.lookup ("super" : Str) = some .globalImplicit) (hp : (params.posonlyargs ++ params.args).head? = some ar) (har : ar.arg = "self")
    (hd1 : (par == ("__debug__" : Str)) = false := by decide) (hd2 : (par == ("__classdict__" : Str)) = false := by decide)
    (hev : ∀ L, eval (.Call (.Attribute (.Call (.Name "super" p0) [] [] p1) "__init__" p2) [.Constant (.str msg) j p3] [] p4) (PySem.W.envX qual scope L fI (.ref cda) [("__class__", cc)]) = (do
      let ov ← attributeBase (.Call (.Name "super" p0) [] [] p1) "__init__" (PySem.W.envX qual scope L fI (.ref cda) [("__class__", cc)]) (eval (.Call (.Name "super" p0) [] [] p1) (PySem.W.envX qual scope L fI (.ref cda) [("__class__", cc)]))
      standAt p2.atName
      let (f, first) ← holding [ov] (getMethod ov "__init__" (pl L))
      callWith p4 f first (backTo p4 (starEach [.Constant (.str msg) j p3] (PySem.W.envX qual scope L fI (.ref cda) [("__class__", cc)]))) []) := by intro L; rfl)
    (hi : ∀ L, interactive (PySem.W.envX qual scope L fI (.ref cda) [("__class__", cc)]) = false := by intro L; rfl) :
    FnOk P w K mg base CX (k + 1) fI (PySem.W.fnX name qual params (iniBody msg fld par j p0 p1 p2 p3 p4 p5 p6 p7 p8 p9) scope [("__class__", cc)] dV kV doc pm an (.ref cda) ct) [("self" : Str), par] (spIni C fld) := by
  refine ⟨fun vs H Q E ⟨a, v, e, _⟩ => by rw [e]; rfl, fun A outer s H args us vs Q E hr e0 hb r ⟨a, v, ev, ea, q⟩ => ?_⟩
  subst ev
  obtain ⟨cl, cld, csl, hcell⟩ := T.cell
  obtain ⟨ccl, cdd, cvs, ccs, file, tf, hcode, hvs, hfile⟩ := T.code
  obtain ⟨cdC, hcdC⟩ := Option.isSome_iff_exists.mp T.cls
  have bk : ∀ b o, base.get? b = some o → s.heap.get? b = some o := fun b o e => (e0.bs b o e).1
  have KX : K.In s.heap := e0.mod.kin.keeps bk
  have lim : s.heap.NoLimit := e0.mod.nolimit.keeps bk
  have hl : ([V.ref a, v] : List V).length = [("self" : Str), par].length := rfl
  let F : NF := ⟨name, qual, params, iniBody msg fld par j p0 p1 p2 p3 p4 p5 p6 p7 p8 p9, scope, [("__class__", cc)], cda⟩
  have CA : CellsAt F.cl [("__class__" : Str)] [some (.ref C)] s.heap H := by
    have one : ∀ y c, F.cl.lookup y = some c → y = "__class__" ∧ c = cc := fun y c e => by
      have e : List.lookup y [(("__class__" : Str), cc)] = some c := e
      by_cases hy : y = ("__class__" : Str)
      · subst hy
        simp [List.lookup] at e
        exact ⟨rfl, e.symm⟩
      · have : (y == ("__class__" : Str)) = false := by simpa using hy
        simp [List.lookup, this] at e
    have hcc : s.heap.IsCell cc (some (.ref C)) := ⟨_, KX _ _ hcell, rfl⟩
    refine ⟨rfl, fun y c e => ?_, fun x y c e1 e2 => ?_, fun i y e => ?_⟩
    · obtain ⟨_, rfl⟩ := one y c e
      exact ⟨(e0.bs _ _ (e0.mod.kin _ _ hcell)).2, _, hcc⟩
    · exact (one x c e1).1.trans (one y c e2).1.symm
    · match i, e with
      | 0, e =>
        have e : some ("__class__" : Str) = some y := e
        cases e
        exact ⟨cc, rfl, fun v hv => by
          have hv : some (some (V.ref C)) = some (some v) := hv
          cases hv
          exact ⟨_, rfl, hcc⟩⟩
      | i + 1, e => simp at e
  refine PySem.ks_codeAny_call_defAt (binds := [("self" : Str), par].zip us) hr.depth (KX _ _ lk) rfl lim (PySem.W.codeRec_of KX hcd) rfl hb S.nocell (fun ⟨n, _⟩ hy => S.par n (List.of_mem_zip hy).1) (fun h₁ hns kp => ?_) S.co S.gen S.kind
  show PySem.wpAt _ _ (.func _ (envF F fI s.heap.objs.size)) (execs _ (envF F fI s.heap.objs.size)) _ _ _
  -- the state in the def
  have hns' : h₁.Ns s.heap.objs.size fun y => ([("self" : Str), par].zip us).reverse.lookup y := hns
  have I : Inv (ncx CX P w K mg base [("self" : Str), par, "__class__"] F fI A outer s H E) [] (startF [("self" : Str), par, "__class__"] [V.ref a, v] [some (.ref C)]) H { s with heap := h₁, toks := s.toks + ([("self" : Str), par].zip us).length } := inv_startN S hr.hd e0 hl r CA hns' kp
  have KI : K.In h₁ := I.kIn
  obtain ⟨t1, hx⟩ := exo_at I.hok ea
  have hself : ([("self" : Str), par].zip us).reverse.lookup ("self" : Str) = some (.ref a) := by
    obtain ⟨u1, u2, eu, ru, _⟩ := vals2 r
    subst eu
    cases (show u1 = Value.ref a from ru)
    have hnd : ("self" : Str) ≠ par := fun z => by
      have := S.nd
      rw [← z] at this
      simp at this
    have : (("self" : Str) == par) = false := by simpa using hnd
    simp [List.lookup, this]
  have J : PySem.W.InstAt h₁ a { cls := .ref C, dict := none, data := .fields #[.ref t1, .none, .none, .none, .bool false, .none] } C none := ⟨hx, rfl, rfl, trivial⟩
  obtain ⟨oC, hC1, hC2⟩ : ∃ oC, h₁.get? C = some oC ∧ oC.data = .cls cdC := by
    have := hcdC
    unfold PySem.W.clsIn at this
    split at this
    · rename_i c d cd' sl ho
      cases this
      exact ⟨_, KI _ _ ho, rfl⟩
    · cases this
  obtain ⟨nm, q', N', bs, bm, sn, sub, ab, col, dd, k0, k1, k2, k3, k5, hCls, hbm⟩ := T.oex.cls
  obtain ⟨mb, hb1, hb2⟩ := e0.mod.blt
  have kp1 : ∀ b o, base.get? b = some o → h₁.get? b = some o := fun b o e => kp _ _ (bk b o e)
  obtain ⟨hh, g, dr, tk, os⟩ := s
  refine PySem.ks_wpAt_execs_cons (PySem.ks_wpAt_Expr_any (PySem.ks_wpAt_MethodCall ?_ (hev _)) (hi _))
  refine PySem.ks_wpAt_super_base (env := envF F fI hh.objs.size) (vs := cvs) hsup (S.frk "__class__" (by simp)) (by decide) rfl (KI _ _ lk) rfl hp rfl (KI _ _ hcode) rfl hvs hfile T.top ?_
  refine PySem.W.ks_loadName_global S.kind hsup (Calls.loadGlobal_builtin (env := envF F fI hh.objs.size) (e0.mod.glob.keeps kp1) T.nosup (hb1.keeps kp1) ((hb2 _ (by decide)).trans PyProof.Rows.Boot.«super») ⟨rfl, ?_⟩)
  refine PySem.wpAny_loadName_free S.kind (S.frk "__class__" (by simp)) rfl ⟨_, KI _ _ hcell, rfl⟩ ?_
  refine PySem.wpAny_loadName_local S.kind (by rw [har]; exact S.par "self" (by simp)) hns' (by rw [har]; exact hself) ?_
  refine PySem.ks_wpAny_isType_cls hC1 hC2 ⟨rfl, ?_⟩
  refine PySem.ks_wpAny_call_super hC1 hC2 J.at_ J.cls (fun c e => by cases e) (PySem.W.looks_mroIn KI T.isC) (fun h2 e2 kk2 => ?_)
  have KI2 : K.In h2 := KI.keeps kk2
  have J2 : PySem.W.InstAt h2 a { cls := .ref C, dict := none, data := .fields #[.ref t1, .none, .none, .none, .bool false, .none] } C none := ⟨kk2 _ _ hx, rfl, rfl, trivial⟩
  have hI2 : PySem.W.Looks (model P w) h2 (isInstance (.ref a) (.type "ValueError")) true := J2.type.andThen (PySem.W.looks_subIn KI2 T.isVE)
  have hal := T.along
  unfold PySem.W.ks_superIn at hal
  rw [hcdC] at hal
  refine PySem.W.kxs_getMethod PySem.W.kxs_ValueError e2 (PySem.W.looks_opaque KI2 T.plain) (l₀ := cdC.mro) ?_ rfl KI2 hal hI2 (PySem.W.ks_ne KI2 J2 hcdC) (by decide) ?_
  · exact fun A Q E s k q => wpAny_bind ((PySem.W.looks_clsIn KI2 hcdC) A _ E s k (wpAny_pure q))
  refine PySem.W.kxs_callWith (i := "ValueError.__init__") (x := a) rfl (Calls.evalArgs_plain ?_)
  refine Calls.spliced_cons ?_
  show wpAny _ _ (eval (.Constant (.str msg) j p3) (envF F fI hh.objs.size)) _ _ _
  have hu3 : (h2.push (PySem.W.kxs_mw "ValueError.__init__" a)).get? h2.objs.size = some (PySem.W.kxs_mw "ValueError.__init__" a) := Heap.get?_push_at rfl rfl
  have up3 : ∀ b o, h₁.get? b = some o → (h2.push (PySem.W.kxs_mw "ValueError.__init__" a)).get? b = some o := fun b o e => Heap.get?_push_of_some _ (kk2 _ _ e)
  refine Calls.Constant_str (Calls.spliced_nil ⟨hu3, ?_⟩)
  refine call_mw (t0 := t1) (up3 _ _ (KI _ _ hCls)) (up3 _ _ hx) hu3 (by simp [sizeLine_eq]) (fun h4 t4 k4 e4 => ?_)
  show PySem.wpAt _ _ _ _ _ _ _
  have I3 := I.kept (h' := h2.push (PySem.W.kxs_mw "ValueError.__init__" a)) (t' := 0) up3
  have I4 := I3.write (t' := 0) (x := a) (e := a) (o := exo a C none) (by rw [ea]; exact True.intro) (.inl rfl) k4 ⟨_, e4⟩ (exo_ok e4)
  have eu : upd H a (exo a C none) = H := by
    funext b
    by_cases hb : b = a
    · rw [hb, upd_same, ea]
    · rw [upd_ne hb]
  rw [eu] at I4
  refine PySem.wpAt_of_wpAny ?_
  have B : PSs (ncx CX P w K mg base [("self" : Str), par, "__class__"] F fI A outer ⟨hh, g, dr, tk, os⟩ H E) [.Assign [.Attribute (.Name "self" p6) fld p7] (.Name par p8) p9] (tOst K fld (tVar 0) (tVar 1)) :=
    pss_one (ps_ost (pe_var (i := 0) rfl (.inl (S.par "self" (by simp)))) (pe_var (i := 1) rfl (.inl (S.par par (by simp))) hd1 hd2))
  refine wpAny_mono (B.run [] _ _ H { nx := fun _ H' => Q .non H', rt := fun _ _ => False } (I4.tok _) ?_) (fun fl s' hs => ?_) fun e s' hs => hs
  · exact ⟨v, rfl, .ref a, rfl, a, C, rfl, T.oex, hfld, .inl ⟨ea, q⟩⟩
  · cases fl with
    | next =>
      obtain ⟨σ', H', J', q'⟩ := hs
      exact ⟨.non, H', J'.os, J'.bare, J'.base, J'.hok, rfl, q'⟩
    | ret u =>
      obtain ⟨_, _, _, _, _, q'⟩ := hs
      exact q'.elim
    | brk =>
      obtain ⟨_, _, _, q'⟩ := hs
      exact q'.elim
    | cont =>
      obtain ⟨_, _, _, q'⟩ := hs
      exact q'.elim
end
end ESv

/-! ES2: exceptions of own classes as values: made, asked for their class, read. -/
namespace ESv
open PySem PySem.Spec PyProof.Rows L2

section
variable {X : Cx} {e : Expr} {es : List Expr} {ta : TA} {p pos : Pos}
/-- C(e, ..) as a value, C's own first def keeping sp -/
def tMkV (C : Addr) (sp : Sp) (ta : TA) : TE := fun σ H Q => ta σ H fun vs H1 => vs.length ≤ 1000 ∧ ∀ a, H1 a = none → sp (.ref a :: vs) (upd H1 a (exo a C none)) (fun v H2 => v = .non ∧ Q (.ref a) H2) (fun _ _ _ => False)
theorem pe_oexV {CX : CXT} {x : Str} {C fI : Addr} {k : Nat} {fd : FuncData} {ps : List Str} {sp : Sp} (T : OexC X.K C) (iC : PySem.W.findIn X.K (.ref C) "__init__" = some (some (.ref fI))) (tI : PySem.W.typeIn X.K (.ref fI) = some (.type "function"))
    (F1 : FnOk X.prog X.w X.K X.mg X.base CX k fI fd ps sp) (hr : Room (k + 1) X.A) (hb : Binds X.K fd ps []) (hx : Passes CX X (fun _ _ _ => False)) (hg : Gl X x) (hm : X.mg x = some (.ref C)) (ha : PA X (e :: es) ta)
    (hdb : (x == ("__debug__" : Str)) = false := by decide) (he : starEach (e :: es) X.env = (false, eval e X.env) :: starEach es X.env := by rfl) (hpl : (backTo pos (starEach es X.env)).any (·.1) = false := by rfl) :
    PE X (.Call (.Name x p) (e :: es) [] pos) (tMkV C sp ta) := by
  refine ⟨fun pins s σ H Q I h => ?_⟩
  obtain ⟨nm, q, N, bs, bm, sn, sub, ab, col, dd, k0, k1, k2, k3, k5, hC, hbm⟩ := T.cls
  refine wpAny_Call_Name_kw (ld_glob I hg hm ?_ hdb)
  refine PySem.W.callWith_K (h₀ := X.base) I.ok.mod.kin T.kC (thn (ha.run pos pins s σ H _ I h) fun us s1 ⟨vs, H1, I1, r1, hz, q1⟩ => ⟨I1.kIn, ?_⟩) he hpl
  show wpAny _ _ (call (.ref C) us) _ _ _
  obtain ⟨hp, g, dr, tk, os⟩ := s1
  have hsz : hp.objs.size ≤ hp.objs.size + 1 := Nat.le_succ _
  have hn : H1 (hp.objs.size + 1) = none := I1.hok.fresh hsz
  have hq := q1 (hp.objs.size + 1) hn
  have kk : ∀ b o, hp.get? b = some o → ((hp.push (PySem.W.kdv_tup us)).push (PySem.HandSPX.excO C hp.objs.size)).get? b = some o := fun b o e => Heap.get?_push_of_some _ (Heap.get?_push_of_some _ e)
  have hget : ((hp.push (PySem.W.kdv_tup us)).push (PySem.HandSPX.excO C hp.objs.size)).get? (hp.objs.size + 1) = some (PySem.HandSPX.excO C hp.objs.size) := by heap_get
  have I2 : Inv X pins σ (upd H1 (hp.objs.size + 1) (exo (hp.objs.size + 1) C none)) ⟨(hp.push (PySem.W.kdv_tup us)).push (PySem.HandSPX.excO C hp.objs.size), g, dr, tk, os⟩ :=
    I1.laid (t' := tk) (a := hp.objs.size + 1) (o := exo (hp.objs.size + 1) C none) (h' := (hp.push (PySem.W.kdv_tup us)).push (PySem.HandSPX.excO C hp.objs.size)) kk hsz (exo_ok hget)
  have r2 : Vals (V.ref (hp.objs.size + 1) :: vs) (Value.ref (hp.objs.size + 1) :: us) := .cons rfl r1
  have hl : (Value.ref (hp.objs.size + 1) :: us ++ []).length = ps.length := by
    have e := r2.length
    rw [F1.len _ _ _ _ hq] at e
    rw [List.append_nil]
    exact e.symm
  have hus : us.length ≤ sizeLine := by
    rw [← Paired.length r1, sizeLine_eq]
    omega
  have hbb := hb ⟨(hp.push (PySem.W.kdv_tup us)).push (PySem.HandSPX.excO C hp.objs.size), g, dr, tk, os⟩ (Value.ref (hp.objs.size + 1) :: us) I2.kIn hl
  rw [List.append_nil] at hbb
  refine wpAny_call (PySem.HandSPX.call_own F.excBase_ValueError (fun Y => PySem.HandSPX.refsVE_contains Y bm hbm) (I1.kIn _ _ hC) (PySem.W.looks_findIn I1.kIn iC) (fun self => PySem.W.bind_fn I1.kIn self tI) hus
    (codeAny_mono (F1.run _ X.stack _ _ ⟨Value.ref (hp.objs.size + 1) :: us, []⟩ (Value.ref (hp.objs.size + 1) :: us) _ _ (fun _ _ _ => False) (hr.make C us []) (I2.env0.make C us []) hbb r2 hq) fun r s' hq' => ?_))
  cases r with
  | error er => exact hx pins σ _ _ er s' I2 hq'
  | ok fl =>
    cases fl with
    | ret u =>
      obtain ⟨v, H2, os2, bare2, un2, hok2, rv, ev, q2⟩ := hq'
      subst ev
      exact ⟨rv, .ref (hp.objs.size + 1), H2, I2.call' (ch := []) os2 un2 hok2 bare2 (fun b z => absurd z (by simp)), rfl, q2⟩
    | next => exact False.elim hq'
    | brk => exact False.elim hq'
    | cont => exact False.elim hq'

/-- C(), C without a first def of its own -/
def tMk0 (C : Addr) : TE := fun _ H Q => ∀ a, H a = none → Q (.ref a) (upd H a (exo a C none))
theorem pe_ex0V {x : Str} {C : Addr} {bmB : List Value} {B newId initId : String} (F : ExcBaseFacts B newId initId bmB) (q : PySem.W.excIn X.K C bmB newId = true) (gC : X.mg x = some (.ref C)) (kC : PySem.W.keepIn X.K (.ref C) = true) (hg : Gl X x)
    (hdb : (x == ("__debug__" : Str)) = false := by decide) : PE X (.Call (.Name x p) [] [] pos) (tMk0 C) := by
  refine ⟨fun pins s σ H Q I h => ?_⟩
  refine wpAny_Call_Name_kw (ld_glob I hg gC ?_ hdb)
  refine PySem.W.callWith_K0 I.kIn kC ?_
  show wpAny _ _ (call (.ref C) []) _ _ _
  obtain ⟨bm, N, nm, qn, bs, hdct, sn, sub, ab, col, dd, k0, k1, k2, k3, k5, mN, hC, hN, hni, T⟩ := exc_obj I.kIn q
  obtain ⟨hp, g, dr, tk, os⟩ := s
  refine wpAny_call_exc_subT F T hC hN hni (fun h' e hm => ?_) (by show 0 ≤ sizeLine; omega)
  obtain ⟨t, ht, _⟩ := hm.there
  have hn : H e = none := I.hok.gone hm.new
  exact ⟨.ref e, upd H e (exo e C none), I.laidN (t' := tk) hm.keeps hm.new hn (exo_ok ht), rfl, h e hn⟩
end

/-- an exception as a value: its class, its dict where it has one -/
def Exv (H : Hp) (a C : Addr) : Option (Addr × List (Str × V)) → Prop
  | none => H a = some (exo a C none)
  | some (dd, fs) => H a = some (exo a C (some dd)) ∧ H dd = some (exd dd fs)
theorem exv_at {P : Program} {w : World} {H : Hp} {h : Heap} {a C : Addr} {d : Option (Addr × List (Str × V))} (hok : HOk P w H h) (e : Exv H a C d) : ∃ ox od, PySem.W.InstAt h a ox C od := by
  match d, e with
  | none, e =>
    obtain ⟨t, q⟩ := exo_at hok e
    exact ⟨_, none, q, rfl, rfl, trivial⟩
  | some (dd, fs), e =>
    obtain ⟨t, q⟩ := exo_at hok e.1
    obtain ⟨mA, ⟨o, _, _, ho, _⟩, _⟩ := exd_at hok e.2
    exact ⟨_, some o, q, rfl, rfl, ho⟩
/-- isinstance(e, c) -/
def rIsV (K : PySem.W.Frag) : List V → Hp → VK → Prop := fun xs H Q => ∃ (a D : Addr) (d : Option (Addr × List (Str × V))) (c : V) (u : Value) (b : Bool), xs = [.ref a, c] ∧ ClsV c u ∧ ExcC K D ∧ Exv H a D d ∧ PySem.W.kitOne K (.ref D) u = some b ∧ Q (.bl b) H
theorem call_isV {X : Cx} : CallR X (.builtin "isinstance") (rIsV X.K) := by
  intro pins s σ H xs us Q I r h
  obtain ⟨a, D, d, c, u, b, rfl, k, C, ev, e, q⟩ := h
  obtain ⟨u1, u2, rfl, r1, r2⟩ := vals2 r
  have e2 := k.eq r2
  subst e2
  cases (show u1 = Value.ref a from r1)
  obtain ⟨ox, od, J⟩ := exv_at I.hok ev
  exact PySem.W.kia_one (PySem.W.kitx_exc (od := od) (ox := ox) (by obtain ⟨cd, hc, _⟩ := PySem.W.any_some C.hd; rw [hc]; rfl) C.hg C.hk C.hs C.ha C.hn C.ht C.hm) I.kIn J e (fun z => nomatch z) fun tk => ⟨.bl b, H, I.tok tk, rfl, q⟩
/-- e.f -/
def tXv (C : Addr) (f : Str) (te : TE) : TE := fun σ H Q => te σ H fun x H1 => ∃ (a dd : Addr) (fs : List (Str × V)) (v : V), x = .ref a ∧ Exv H1 a C (some (dd, fs)) ∧ fs.lookup f = some v ∧ Q v H1
theorem pe_xv {X : Cx} {C : Addr} {e : Expr} {te : TE} {pos : Pos} {n : Str} (T : XfC X.K C) (hno : PySem.W.findIn X.K (.ref C) n = some none) (he : PE X e te) (hb : attributeBase e n X.env (eval e X.env) = eval e X.env := by rfl) :
    PE X (.Attribute e n pos) (tXv C n te) := by
  refine ⟨fun pins s σ H Q I h => ?_⟩
  refine attr_of hb (thn (he.run pins s σ H _ I h) fun u s1 hh => ?_)
  obtain ⟨x, H1, I1, rx, a, dd, fs, v, ex, ev, l, q⟩ := hh
  subst ex
  obtain rfl : u = Value.ref a := rx
  obtain ⟨t, ha⟩ := exo_at I1.hok ev.1
  obtain ⟨mA, hns, hr⟩ := exd_at I1.hok ev.2
  obtain ⟨od, ho, hl⟩ := lookIn_ns hns
  obtain ⟨u, hu, ru⟩ := RelO.some_of (v := v) (o := mA n) (by rw [← l]; exact hr n)
  have J : PySem.W.InstAt s1.heap a _ C (some od) := ⟨ha, rfl, rfl, ho⟩
  exact HandSPX.exc_get I1.kIn J T.ga T.gg T.exC (PySem.W.findObj_own T.hdC hno rfl (by rw [hl, hu])) (handed_of ru) ⟨v, H1, I1.tok _, ru, q⟩
end ESv

set_option maxHeartbeats 400000
/-! DR: repr of data of all kinds, wherever its lists lie. -/
namespace AD
open PySem PySem.Spec PyProof.Rows L2 GR
/-- what is shown of one thing, of many -/
abbrev Rk (P : Program) (w : World) (h : Heap) (u : Value) (d : PyData) : Prop := ∃ as bs, Reads h u d as ∧ ReadAtMost h d.depth bs ∧ ReprK P w bs h d.depth u d.shown
abbrev Rks (P : Program) (w : World) (h : Heap) (us : List Value) (ds : List PyData) : Prop := ∃ as bs, ReadsAll h us ds as ∧ ReadAtMost h (PyData.depthAll ds) bs ∧ ReprAllK P w bs h (PyData.depthAll ds) us (PyData.shownAll ds)
theorem Rk.of_is {P : Program} {w : World} {h : Heap} {u : Value} {d : PyData} {as : List Addr} (r : Reads h u d as) (k : ReprK P w [] h d.depth u d.shown) : Rk P w h u d := ⟨as, [], r, fun _ z => (nomatch z), k⟩
theorem Rks.nil {P : Program} {w : World} {h : Heap} : Rks P w h [] [] := ⟨[], [], .nil, fun _ z => (nomatch z), by rw [PyData.shownAll]; exact .nil⟩
theorem Rks.cons {P : Program} {w : World} {h : Heap} {u : Value} {us : List Value} {d : PyData} {ds : List PyData} (x : Rk P w h u d) (y : Rks P w h us ds) : Rks P w h (u :: us) (d :: ds) := by
  obtain ⟨as, bs, r1, a1, k1⟩ := x
  obtain ⟨as', bs', r2, a2, k2⟩ := y
  have e : PyData.depthAll (d :: ds) = max d.depth (PyData.depthAll ds) := by simp only [PyData.depthAll]
  refine ⟨_, bs ++ bs', .cons r1 r2, ?_, ?_⟩
  · rw [e]
    exact (a1.mono (Nat.le_max_left _ _)).append (a2.mono (Nat.le_max_right _ _))
  · rw [e, PyData.shownAll]
    exact .cons ((k1.more fun b z => List.mem_append_left _ z).level_le (Nat.le_max_left _ _)) (k2.more_le (fun b z => List.mem_append_right _ z) (Nat.le_max_right _ _))
/-- the addresses within are of lesser things -/
theorem deep_out {h : Heap} {a : Addr} {d : PyData} {as bs : List Addr} {n : Nat} (r : Reads h (.ref a) d as) (e : d.depth = n + 1) (hb : ReadAtMost h n bs) : a ∉ bs := not_mem_of_deeper r (by omega) hb
theorem fits_of {ts : List Str} {x : Str} (le : ∀ {t : Str}, t ∈ ts → t.length ≤ x.length) (h : x.length ≤ sizeLine) : ∀ t, t ∈ ts → t.length ≤ sizeLine := fun _ z => Nat.le_trans (le z) h
theorem key_rk {P : Program} {w : World} {h : Heap} {k : Key} {u : Value} (e : keyIs k u = true) (hs : (keyD k).showable = true) (hz : (keyD k).shown.length ≤ sizeLine) : Rk P w h u (keyD k) := by
  rcases keyIs_shape e with ⟨i, t, rfl, rfl⟩ | ⟨x, t, rfl, rfl⟩
  · refine .of_is (.int i t) ?_
    rw [show (keyD (.inl i)).shown = (PyData.int i).shown from rfl, PyData.shown_int]
    exact .of_is (ReprIs.int t (by simpa [keyD, PyData.showable] using hs)) _ _ _
  · refine .of_is (.str x t) ?_
    rw [show (keyD (.inr x)).shown = (PyData.str x).shown from rfl, PyData.shown_str] at hz ⊢
    exact .of_is (ReprIs.str x t hz) _ _ _
theorem keys_rk {P : Program} {w : World} {h : Heap} {es : List DictEntry} {vs : List (Key × Value)} (p : PySem.Pairs (mixKind P w) es vs) (hs : PyData.showableAll (vs.map fun q => keyD q.1) = true)
    (hz : ∀ t, t ∈ PyData.shownAll (vs.map fun q => keyD q.1) → t.length ≤ sizeLine) : Rks P w h (es.map (·.key)) (vs.map fun q => keyD q.1) := by
  induction p with
  | nil => exact Rks.nil
  | @cons e kv es kvs h1 _ _ ih =>
    rw [List.map_cons] at hs hz
    rw [PyData.shownAll] at hz
    have hs' : (keyD kv.1).showable = true ∧ PyData.showableAll (kvs.map fun q => keyD q.1) = true := by simpa [PyData.showableAll] using hs
    exact Rks.cons (key_rk h1 hs'.1 (hz _ List.mem_cons_self)) (ih hs'.2 fun t z => hz t (List.mem_cons_of_mem _ z))
section
variable {X : Cx} {pins : List (Addr × Obj)} {σ : L2.St} {H : Hp} {s : Shared} {ok : Addr → Prop}
mutual
theorem Dd.rk (I : Inv X pins σ H s) : ∀ {v : V} {d : PyData}, Dd X.K ok H v d → d.showable = true → d.shown.length ≤ sizeLine → ∀ u, RelV v u → Rk X.prog X.w s.heap u d
  | _, _, .non, _, _, _, r => by
    cases r
    exact .of_is .none (by rw [PyData.shown_none]; exact .of_is ReprIs.none _ _ _)
  | _, _, .bl b, _, _, _, r => by
    cases r
    exact .of_is (.bool b) (by rw [PyData.shown_bool]; exact .of_is (ReprIs.bool b) _ _ _)
  | _, _, .int i, hs, hz, _, r => by
    obtain ⟨t, rfl⟩ := r
    exact key_rk (k := .inl i) (keyIs_int i t) hs hz
  | _, _, .str x, hs, hz, _, r => by
    obtain ⟨t, rfl⟩ := r
    exact key_rk (k := .inr x) (keyIs_str x t) hs hz
  | _, _, .lst (a := a) (ds := ds) hl o q, hs, hz, _, r => by
    cases r
    obtain ⟨its, rv, ⟨ob, n, ho, hc, _, hd⟩, _⟩ := I.list (.inl (.inl hl))
    have hz : (listText (PyData.shownAll ds)).length ≤ sizeLine := by simpa only [PyData.shown] using hz
    obtain ⟨as, bs, hr, hb, hk⟩ := DdAll.rk I q (by simpa [PyData.showable] using hs) (fits_of listText_mem_le hz) its rv
    have R : Reads s.heap (.ref a) (.list ds) _ := .list ho hc hd hr
    have hdep : (PyData.list ds).depth = PyData.depthAll ds + 1 := by simp only [PyData.depth]
    have hna := deep_out R hdep hb
    refine ⟨_, a :: bs, R, ReadAtMost.cons R (Nat.le_of_eq hdep) (by rw [hdep]; exact hb.mono (Nat.le_succ _)), ?_⟩
    rw [hdep, show (PyData.list ds).shown = listText (PyData.shownAll ds) from by simp only [PyData.shown]]
    cases its with
    | nil =>
      cases hr
      rw [show PyData.shownAll [] = [] from by rw [PyData.shownAll], listText_nil]
      exact ReprK.listEmpty ho hc hd
    | cons y l => exact ReprK.list ho hc hd hna (by simpa using hk.length_eq) fun i z e => hk.item i z (by simpa using e)
  | _, _, .tup (a := a) (ds := ds) hl q, hs, hz, _, r => by
    cases r
    obtain ⟨its, rv, ⟨ob, ho, hc, n, hd⟩, _⟩ := I.tuple hl
    have hz : (tupleText (PyData.shownAll ds)).length ≤ sizeLine := by simpa only [PyData.shown] using hz
    obtain ⟨as, bs, hr, hb, hk⟩ := DdAll.rk I q (by simpa [PyData.showable] using hs) (fits_of tupleText_mem_le hz) its rv
    have R : Reads s.heap (.ref a) (.tuple ds) _ := .tuple ho hc hd hr
    have hdep : (PyData.tuple ds).depth = PyData.depthAll ds + 1 := by simp only [PyData.depth]
    refine ⟨_, a :: bs, R, ReadAtMost.cons R (Nat.le_of_eq hdep) (by rw [hdep]; exact hb.mono (Nat.le_succ _)), ?_⟩
    rw [hdep, show (PyData.tuple ds).shown = tupleText (PyData.shownAll ds) from by simp only [PyData.shown]]
    exact ReprK.tuple ho hc hd (deep_out R hdep hb) hk
  | _, _, .dk (a := a) (kvs := kvs) (ds := ds) hl o q, hs, hz, _, r => by
    cases r
    have hz : (dictText (PyData.shownKv ((kvs.map fun p => keyD p.1).zip ds))).length ≤ sizeLine := by simpa only [PyData.shown] using hz
    obtain ⟨_, hsys, vs, rk, ob, es, ep, ho, hex, hd, _, hp, _⟩ := I.hok _ _ hl
    have hln := q.len
    rw [List.length_map] at hln
    have e1 : ((kvs.map fun p => keyD p.1).zip ds).map (·.1) = kvs.map fun p => keyD p.1 := List.map_fst_zip (by rw [List.length_map]; omega)
    have e2 : ((kvs.map fun p => keyD p.1).zip ds).map (·.2) = ds := List.map_snd_zip (by rw [List.length_map]; omega)
    obtain ⟨hs1, hs2⟩ := PyData.showableKv_split _ (show PyData.showableKv ((kvs.map fun p => keyD p.1).zip ds) = true by simpa [PyData.showable] using hs)
    have hz1 : ∀ t, t ∈ PyData.shownAll (((kvs.map fun p => keyD p.1).zip ds).map (·.1)) → t.length ≤ sizeLine := fun t z => let ⟨p, h1, h2⟩ := PyData.shownKv_key_le _ t z; Nat.le_trans h2 (Nat.le_trans (dictText_mem_le h1) hz)
    have hz2 : ∀ t, t ∈ PyData.shownAll (((kvs.map fun p => keyD p.1).zip ds).map (·.2)) → t.length ≤ sizeLine := fun t z => let ⟨p, h1, h2⟩ := PyData.shownKv_val_le _ t z; Nat.le_trans h2 (Nat.le_trans (dictText_mem_le h1) hz)
    have L1 := PyData.depthAll_keys_le ((kvs.map fun p => keyD p.1).zip ds)
    have L2 := PyData.depthAll_vals_le ((kvs.map fun p => keyD p.1).zip ds)
    rw [e1] at hs1 hz1 L1
    rw [e2] at hs2 hz2 L2
    have hk := keys_rk (h := s.heap) hp (by rw [kv_keys rk]; exact hs1) (by rw [kv_keys rk]; exact hz1)
    rw [kv_keys rk] at hk
    obtain ⟨a1, b1, r1, m1, k1⟩ := hk
    obtain ⟨a2, b2, r2, m2, k2⟩ := DdAll.rk I q hs2 hz2 _ (kv_vals rk)
    rw [← pairs_val hp] at r2 k2
    have R : Reads s.heap (.ref a) (.dict ((kvs.map fun p => keyD p.1).zip ds)) _ := .dict ho hex.1 hd (as := a1) (bs := a2) (by rw [e1]; exact r1) (by rw [e2]; exact r2)
    have hdep : (PyData.dict ((kvs.map fun p => keyD p.1).zip ds)).depth = PyData.depthKv ((kvs.map fun p => keyD p.1).zip ds) + 1 := by simp only [PyData.depth]
    have hb := (m1.mono L1).append (m2.mono L2)
    refine ⟨_, a :: (b1 ++ b2), R, ReadAtMost.cons R (Nat.le_of_eq hdep) (by rw [hdep]; exact hb.mono (Nat.le_succ _)), ?_⟩
    rw [hdep, show (PyData.dict ((kvs.map fun p => keyD p.1).zip ds)).shown = dictText (PyData.shownKv ((kvs.map fun p => keyD p.1).zip ds)) from by simp only [PyData.shown], PyData.shownKv_eq, e1, e2]
    exact ReprK.dict ho hex.1 hd hsys (deep_out R hdep hb) (ReprEntriesK.of_two es.toList _ _ (k1.more_le (fun b z => List.mem_append_left _ z) L1) (k2.more_le (fun b z => List.mem_append_right _ z) L2))
theorem DdAll.rk (I : Inv X pins σ H s) : ∀ {vs : List V} {ds : List PyData}, DdAll X.K ok H vs ds → PyData.showableAll ds = true → (∀ t, t ∈ PyData.shownAll ds → t.length ≤ sizeLine) → ∀ us, Vals vs us → Rks X.prog X.w s.heap us ds
  | _, _, .nil, _, _, _, r => by
    cases r
    exact Rks.nil
  | _, _, .cons h q, hs, hz, _, r => by
    cases r with
    | cons r1 r2 =>
      rw [PyData.shownAll] at hz
      have hs' := (Bool.and_eq_true_iff.mp (by simpa only [PyData.showableAll] using hs))
      exact Rks.cons (Dd.rk I h hs'.1 (hz _ List.mem_cons_self) _ r1) (DdAll.rk I q hs'.2 (fun t z => hz t (List.mem_cons_of_mem _ z)) _ r2)
end
/-- what repr asks of a list, a tuple, a dict -/
theorem Dd.shows (I : Inv X pins σ H s) {a : Addr} {d : PyData} (h : Dd X.K ok H (.ref a) d) (hs : d.showable = true) (hz : d.shown.length ≤ sizeLine) : ∃ T idr, ShowsBy X.prog X.w s.heap a d T idr := by
  cases h with
  | @lst _ xs ds hl o q =>
    obtain ⟨its, rv, ⟨ob, n, ho, hc, _, hd⟩, _⟩ := I.list (.inl (.inl hl))
    have hz : (listText (PyData.shownAll ds)).length ≤ sizeLine := by simpa only [PyData.shown] using hz
    obtain ⟨as, bs, hr, hb, hk⟩ := DdAll.rk I q (by simpa [PyData.showable] using hs) (fits_of listText_mem_le hz) its rv
    have R : Reads s.heap (.ref a) (.list ds) _ := .list ho hc hd hr
    have hdep : (PyData.list ds).depth = PyData.depthAll ds + 1 := by simp only [PyData.depth]
    refine ⟨"list", "list.__repr__", F.slot_list_repr.toG, F.slot_list_str, F.slot_list_format, fun s' k => ⟨ob, k _ _ ho, hc⟩, fun A E s' Q g u k hQ => ?_⟩
    rw [hdep] at u
    simp only [PyData.shown] at hQ
    cases its with
    | nil =>
      cases hr
      rw [show PyData.shownAll [] = [] from by rw [PyData.shownAll], listText_nil] at hQ
      exact call_list_repr_empty ⟨ob, k _ _ ho, hc⟩ (k _ _ ho) hd (hQ s'.heap _ _ fun _ _ e => e)
    | cons y l => exact call_list_reprK ho hc hd (deep_out R hdep hb) (by simpa using hk.length_eq) (fun i z e => hk.item i z (by simpa using e)) g (fun b _ => Clear.nil b) u k hQ hz
  | @tup _ xs ds hl q =>
    obtain ⟨its, rv, ⟨ob, ho, hc, n, hd⟩, _⟩ := I.tuple hl
    have hz : (tupleText (PyData.shownAll ds)).length ≤ sizeLine := by simpa only [PyData.shown] using hz
    obtain ⟨as, bs, hr, hb, hk⟩ := DdAll.rk I q (by simpa [PyData.showable] using hs) (fits_of tupleText_mem_le hz) its rv
    have R : Reads s.heap (.ref a) (.tuple ds) _ := .tuple ho hc hd hr
    have hdep : (PyData.tuple ds).depth = PyData.depthAll ds + 1 := by simp only [PyData.depth]
    refine ⟨"tuple", "tuple.__repr__", F.slot_tuple_repr, F.slot_tuple_str, F.slot_tuple_format, fun s' k => ⟨ob, k _ _ ho, hc⟩, fun A E s' Q g u k hQ => ?_⟩
    rw [hdep] at u
    simp only [PyData.shown] at hQ
    exact call_tuple_reprK ho hc hd (deep_out R hdep hb) hk g (fun b _ => Clear.nil b) u k hQ hz
  | @dk _ kvs ds hl o q =>
    have hz' : (dictText (PyData.shownKv ((kvs.map fun p => keyD p.1).zip ds))).length ≤ sizeLine := by simpa only [PyData.shown] using hz
    obtain ⟨as, bs, R, hb, K⟩ := Dd.rk I (.dk hl o q) hs hz (.ref a) rfl
    obtain ⟨_, hsys, vs, rk, ob, es, ep, ho, hex, hd, _, hp, _⟩ := I.hok _ _ hl
    have hln := q.len
    rw [List.length_map] at hln
    have e1 : ((kvs.map fun p => keyD p.1).zip ds).map (·.1) = kvs.map fun p => keyD p.1 := List.map_fst_zip (by rw [List.length_map]; omega)
    have e2 : ((kvs.map fun p => keyD p.1).zip ds).map (·.2) = ds := List.map_snd_zip (by rw [List.length_map]; omega)
    obtain ⟨hs1, hs2⟩ := PyData.showableKv_split _ (show PyData.showableKv ((kvs.map fun p => keyD p.1).zip ds) = true by simpa [PyData.showable] using hs)
    have hz1 : ∀ t, t ∈ PyData.shownAll (((kvs.map fun p => keyD p.1).zip ds).map (·.1)) → t.length ≤ sizeLine := fun t z => let ⟨p, h1, h2⟩ := PyData.shownKv_key_le _ t z; Nat.le_trans h2 (Nat.le_trans (dictText_mem_le h1) hz')
    have hz2 : ∀ t, t ∈ PyData.shownAll (((kvs.map fun p => keyD p.1).zip ds).map (·.2)) → t.length ≤ sizeLine := fun t z => let ⟨p, h1, h2⟩ := PyData.shownKv_val_le _ t z; Nat.le_trans h2 (Nat.le_trans (dictText_mem_le h1) hz')
    have L1 := PyData.depthAll_keys_le ((kvs.map fun p => keyD p.1).zip ds)
    have L2 := PyData.depthAll_vals_le ((kvs.map fun p => keyD p.1).zip ds)
    rw [e1] at hs1 hz1 L1
    rw [e2] at hs2 hz2 L2
    have hk := keys_rk (h := s.heap) hp (by rw [kv_keys rk]; exact hs1) (by rw [kv_keys rk]; exact hz1)
    rw [kv_keys rk] at hk
    obtain ⟨a1, b1, r1, m1, k1⟩ := hk
    obtain ⟨a2, b2, r2, m2, k2⟩ := DdAll.rk I q hs2 hz2 _ (kv_vals rk)
    rw [← pairs_val hp] at r2 k2
    have R : Reads s.heap (.ref a) (.dict ((kvs.map fun p => keyD p.1).zip ds)) _ := .dict ho hex.1 hd (as := a1) (bs := a2) (by rw [e1]; exact r1) (by rw [e2]; exact r2)
    have hdep : (PyData.dict ((kvs.map fun p => keyD p.1).zip ds)).depth = PyData.depthKv ((kvs.map fun p => keyD p.1).zip ds) + 1 := by simp only [PyData.depth]
    refine ⟨"dict", "dict.__repr__", F.slot_dict_repr, F.slot_dict_str, F.slot_dict_format, fun s' k => ⟨ob, k _ _ ho, hex.1⟩, fun A E s' Q g u k hQ => ?_⟩
    rw [hdep] at u
    simp only [PyData.shown] at hQ
    rw [PyData.shownKv_eq, e1, e2] at hQ hz'
    exact call_dict_reprK ho hex.1 hd hsys (deep_out R hdep ((m1.mono L1).append (m2.mono L2))) (ReprEntriesK.of_two es.toList _ _ (k1.more_le (fun b z => List.mem_append_left _ z) L1) (k2.more_le (fun b z => List.mem_append_right _ z) L2)) g (fun b _ => Clear.nil b) u k hQ hz'
end
/-- repr of anything, wherever it lies -/
def rReprN (X : Cx) : List V → Hp → VK → Prop := fun xs H Q => ∃ (v : V) (d : PyData) (ok : Addr → Prop), xs = [v] ∧ Dd X.K ok H v d ∧ Shw d ∧ Q (.str d.shown) H
theorem call_reprN {X : Cx} {k : Nat} (hg : X.A.guards = some []) (hr : Room k X.A) : CallR X (.builtin "repr") (rReprN X) := by
  intro pins s σ H xs us Q I r h
  obtain ⟨v, d, ok, rfl, hd, ⟨h1, h2, h3⟩, q⟩ := h
  obtain ⟨u, rfl, rv⟩ := vals1 r
  have hu := hr.units
  have big : ∀ a, v = .ref a → wpAny (model X.prog X.w) X.A (call (.builtin "repr") [.ref a]) (EP X pins σ Q) X.xe s := fun a e => by
    subst e
    obtain ⟨T, idr, S⟩ := Dd.shows I hd h1 h3
    exact call_repr_slot (by omega) (S.typeIs s fun _ _ e => e) S.slotRepr (S.call X.A.in1 _ s _ hg (by show X.A.units + 1 + d.depth < cLine; omega) (fun _ _ e => e) fun h' u tk hk => ⟨_, _, rfl, .str d.shown, H, I.kept hk, ⟨_, rfl⟩, q⟩)
  cases id hd with
  | non =>
    cases rv
    rw [PyData.shown_none] at q
    exact PySem.P.repr_of_none ⟨.str _, H, I.tok _, ⟨_, rfl⟩, q⟩
  | bl b =>
    cases rv
    rw [PyData.shown_bool] at q
    exact P.repr_of_bool ⟨.str _, H, I.kept fun _ _ e => e, ⟨_, rfl⟩, q⟩
  | int i =>
    obtain ⟨t, rfl⟩ := rv
    rw [PyData.shown_int] at q
    exact PySem.P.repr_of_int (by simpa [PyData.showable] using h1) ⟨.str _, H, I.tok _, ⟨_, rfl⟩, q⟩
  | str x =>
    obtain ⟨t, rfl⟩ := rv
    rw [PyData.shown_str] at q h3
    exact P.repr_of_str ⟨.str _, H, I.tok _, ⟨_, rfl⟩, q⟩ h3
  | lst _ _ _ =>
    cases rv
    exact big _ rfl
  | tup _ _ =>
    cases rv
    exact big _ rfl
  | dk _ _ _ =>
    cases rv
    exact big _ rfl
end AD

set_option maxHeartbeats 400000
namespace E1
open PySem PySem.Spec PyProof.Rows L2 GR AD ESv
/-- the nine classes -/
structure Nine (K : PySem.W.Frag) (cs : Nat → Addr) (S : Addr) : Prop where
  exc : ∀ i, i < 9 → ExcC K (cs i)
  kit : ∀ i j, i < 9 → j < 9 → PySem.W.kitOne K (.ref (cs i)) (.ref (cs j)) = some (decide (i = j))
  st : ∀ i, i < 9 → PySem.W.kitOne K (.ref (cs i)) (.ref S) = some true
  ve : ∀ i, i < 9 → PySem.W.kitOne K (.ref (cs i)) (.type "ValueError") = some true
  ke : ∀ i, i < 9 → PySem.W.kitOne K (.ref (cs i)) (.type "KeyError") = some false
def isl (i : Nat) : List V := (List.range 9).map fun k => V.bl (decide (i = k))
theorem Exv.same {H H' : Hp} {a C : Addr} {d : Option (Addr × List (Str × V))} (h : Exv H a C d) (s : Same H H') : Exv H' a C d := by
  match d, h with
  | none, h => exact s _ _ h
  | some (dd, fs), h => exact ⟨s _ _ h.1, s _ _ h.2⟩
section
variable {P : Program} {w : World} {K : PySem.W.Frag} {mg : Str → Option Value} {base : Heap}
abbrev s_law_classes : Stmt := topS 16
theorem sc_law_classes : FnScope ["_law_error", "_law_found"] ["_law_error"] (defScope s_law_classes) := ⟨rfl, rfl, rfl, by decide +kernel, rfl, by decide +kernel, by decide +kernel⟩
def sp_classes (cs : Nat → Addr) : Sp := fun vs H Q _ => ∃ (a : Addr) (i : Nat) (d : Option (Addr × List (Str × V))), vs = [.ref a] ∧ i < 9 ∧ Exv H a (cs i) d ∧ ∀ H' p, Same H H' → H' p = some (.lst (isl i)) → Q (.ref p) H'
theorem ok_classes {cs : Nat → Addr} {S : Addr} {f : Addr} {fd : FuncData} {k : Nat} (F : Fun K "_law_classes" "_law_classes" s_law_classes f fd) (N : Nine K cs S) (misinstance : mg "isinstance" = none)
    (g0 : mg "BadText" = some (.ref (cs 0))) (g1 : mg "Refused" = some (.ref (cs 1))) (g2 : mg "NotKept" = some (.ref (cs 2))) (g3 : mg "NoSlot" = some (.ref (cs 3))) (g4 : mg "TooLarge" = some (.ref (cs 4)))
    (g5 : mg "Conflict" = some (.ref (cs 5))) (g6 : mg "Closed" = some (.ref (cs 6))) (g7 : mg "BadRow" = some (.ref (cs 7))) (g8 : mg "NoSession" = some (.ref (cs 8))) :
    FnOk P w K mg base CX0 (k + 1) f fd ["_law_error"] (sp_classes cs) := by
  have nd := sc_law_classes.nd
  refine F.ok sc_law_classes (fun vs H Q E h => ?_) (fun cdv A outer s H vs Q E hr h => ?_)
  · obtain ⟨a, i, d, rfl, _⟩ := h
    rfl
  obtain ⟨a, i, d, rfl, hi, hE, q⟩ := h
  refine ⟨_, (pss_cons (ps_set (i := 1) nd rfl (.inl rfl) (pe_lst (pa_cons (pe_callB call_isV (by rfl) misinstance boot_isinstance (pa_cons (pv 0) (pa_cons (pe_glob (v := .ref (cs 0)) rfl g0 rfl) pa_nil))) (pa_cons (pe_callB call_isV (by rfl) misinstance boot_isinstance (pa_cons (pv 0) (pa_cons (pe_glob (v := .ref (cs 1)) rfl g1 rfl) pa_nil))) (pa_cons (pe_callB call_isV (by rfl) misinstance boot_isinstance (pa_cons (pv 0) (pa_cons (pe_glob (v := .ref (cs 2)) rfl g2 rfl) pa_nil))) pa_nil)))))
      (pss_cons (ps_set (i := 1) nd rfl (.inl rfl) (pe_op op_cat (pv 1) (pe_lst (pa_cons (pe_callB call_isV (by rfl) misinstance boot_isinstance (pa_cons (pv 0) (pa_cons (pe_glob (v := .ref (cs 3)) rfl g3 rfl) pa_nil))) (pa_cons (pe_callB call_isV (by rfl) misinstance boot_isinstance (pa_cons (pv 0) (pa_cons (pe_glob (v := .ref (cs 4)) rfl g4 rfl) pa_nil))) (pa_cons (pe_callB call_isV (by rfl) misinstance boot_isinstance (pa_cons (pv 0) (pa_cons (pe_glob (v := .ref (cs 5)) rfl g5 rfl) pa_nil))) pa_nil))))))
      (pss_one (ps_ret (pe_op op_cat (pv 1) (pe_lst (pa_cons (pe_callB call_isV (by rfl) misinstance boot_isinstance (pa_cons (pv 0) (pa_cons (pe_glob (v := .ref (cs 6)) rfl g6 rfl) pa_nil))) (pa_cons (pe_callB call_isV (by rfl) misinstance boot_isinstance (pa_cons (pv 0) (pa_cons (pe_glob (v := .ref (cs 7)) rfl g7 rfl) pa_nil))) (pa_cons (pe_callB call_isV (by rfl) misinstance boot_isinstance (pa_cons (pv 0) (pa_cons (pe_glob (v := .ref (cs 8)) rfl g8 rfl) pa_nil))) pa_nil))))))))), ?_⟩
  refine ⟨.ref a, rfl, a, cs i, d, .ref (cs 0), .ref (cs 0), _, rfl, .own _, N.exc i hi, hE, N.kit i 0 hi (by omega), ?_⟩
  refine ⟨.ref a, rfl, a, cs i, d, .ref (cs 1), .ref (cs 1), _, rfl, .own _, N.exc i hi, hE, N.kit i 1 hi (by omega), ?_⟩
  refine ⟨.ref a, rfl, a, cs i, d, .ref (cs 2), .ref (cs 2), _, rfl, .own _, N.exc i hi, hE, N.kit i 2 hi (by omega), ?_⟩
  refine ⟨small_le (show 3 ≤ 1000 by decide), fun l1 n1 => ?_⟩
  have s1 := same_upd (o := .lst [.bl (decide (i = 0)), .bl (decide (i = 1)), .bl (decide (i = 2))]) n1
  have h1 : upd H l1 (.lst [.bl (decide (i = 0)), .bl (decide (i = 1)), .bl (decide (i = 2))]) l1 = _ := upd_same
  revert s1 h1
  generalize upd H l1 (.lst [.bl (decide (i = 0)), .bl (decide (i = 1)), .bl (decide (i = 2))]) = H1
  intro s1 h1
  have hE1 := Exv.same hE s1
  refine ⟨.ref l1, rfl, ?_⟩
  refine ⟨.ref a, rfl, a, cs i, d, .ref (cs 3), .ref (cs 3), _, rfl, .own _, N.exc i hi, hE1, N.kit i 3 hi (by omega), ?_⟩
  refine ⟨.ref a, rfl, a, cs i, d, .ref (cs 4), .ref (cs 4), _, rfl, .own _, N.exc i hi, hE1, N.kit i 4 hi (by omega), ?_⟩
  refine ⟨.ref a, rfl, a, cs i, d, .ref (cs 5), .ref (cs 5), _, rfl, .own _, N.exc i hi, hE1, N.kit i 5 hi (by omega), ?_⟩
  refine ⟨small_le (show 3 ≤ 1000 by decide), fun l2 n2 => ?_⟩
  have s2 := same_upd (o := .lst [.bl (decide (i = 3)), .bl (decide (i = 4)), .bl (decide (i = 5))]) n2
  have h2 : upd H1 l2 (.lst [.bl (decide (i = 3)), .bl (decide (i = 4)), .bl (decide (i = 5))]) l2 = _ := upd_same
  refine ⟨l1, l2, _, _, rfl, rfl, s2 _ _ h1, h2, small_le (show 6 ≤ 1000 by decide), fun l3 n3 => ?_⟩
  have s3 := s2.trans (same_upd (o := .lst ([.bl (decide (i = 0)), .bl (decide (i = 1)), .bl (decide (i = 2))] ++ [.bl (decide (i = 3)), .bl (decide (i = 4)), .bl (decide (i = 5))])) n3)
  have h3 : upd (upd H1 l2 (.lst [.bl (decide (i = 3)), .bl (decide (i = 4)), .bl (decide (i = 5))])) l3 (.lst ([.bl (decide (i = 0)), .bl (decide (i = 1)), .bl (decide (i = 2))] ++ [.bl (decide (i = 3)), .bl (decide (i = 4)), .bl (decide (i = 5))])) l3 = _ := upd_same
  revert s3 h3
  generalize upd (upd H1 l2 (.lst [.bl (decide (i = 3)), .bl (decide (i = 4)), .bl (decide (i = 5))])) l3 (.lst ([.bl (decide (i = 0)), .bl (decide (i = 1)), .bl (decide (i = 2))] ++ [.bl (decide (i = 3)), .bl (decide (i = 4)), .bl (decide (i = 5))])) = H3
  intro s3 h3
  have hE3 := Exv.same hE1 s3
  refine ⟨.ref l3, rfl, ?_⟩
  refine ⟨.ref a, rfl, a, cs i, d, .ref (cs 6), .ref (cs 6), _, rfl, .own _, N.exc i hi, hE3, N.kit i 6 hi (by omega), ?_⟩
  refine ⟨.ref a, rfl, a, cs i, d, .ref (cs 7), .ref (cs 7), _, rfl, .own _, N.exc i hi, hE3, N.kit i 7 hi (by omega), ?_⟩
  refine ⟨.ref a, rfl, a, cs i, d, .ref (cs 8), .ref (cs 8), _, rfl, .own _, N.exc i hi, hE3, N.kit i 8 hi (by omega), ?_⟩
  refine ⟨small_le (show 3 ≤ 1000 by decide), fun l4 n4 => ?_⟩
  have s4 := same_upd (o := .lst [.bl (decide (i = 6)), .bl (decide (i = 7)), .bl (decide (i = 8))]) n4
  have h4 : upd H3 l4 (.lst [.bl (decide (i = 6)), .bl (decide (i = 7)), .bl (decide (i = 8))]) l4 = _ := upd_same
  refine ⟨l3, l4, _, _, rfl, rfl, s4 _ _ h3, h4, small_le (show 9 ≤ 1000 by decide), fun l5 n5 => ?_⟩
  exact q _ _ ((s1.trans s3).trans (s4.trans (same_upd n5))) upd_same
end
end E1

set_option maxHeartbeats 1000000
namespace E1
open PySem PySem.Spec PyProof.Rows L2 GR AD ESv
theorem ini_same {C a dx : Addr} {fld : Str} {v : V} {H : Hp} (na : H a = none) (nx : upd H a (exo a C none) dx = none) (ne : dx ≠ a) : Same H (upd (upd (upd H a (exo a C none)) dx (exd dx [(fld, v)])) a (exo a C (some dx))) := fun b o e => by
  rw [upd_ne ne] at nx
  rw [upd_ne (ne_of_none e na), upd_ne (ne_of_none e nx), upd_ne (ne_of_none e na)]
  exact e
theorem ini_exv {C a dx : Addr} {fld : Str} {v : V} {H : Hp} (ne : dx ≠ a) : Exv (upd (upd (upd H a (exo a C none)) dx (exd dx [(fld, v)])) a (exo a C (some dx))) a C (some (dx, [(fld, v)])) := ⟨upd_same, by rw [upd_ne ne, upd_same]⟩
/-- a class whose own first def notes its argument in fld -/
def IniE (P : Program) (w : World) (K : PySem.W.Frag) (mg : Str → Option Value) (base : Heap) (k : Nat) (C : Addr) (fld : Str) : Prop :=
  ∃ (fI : Addr) (fd : FuncData) (par : Str), OexC K C ∧ PySem.W.findIn K (.ref C) "__init__" = some (some (.ref fI)) ∧ PySem.W.typeIn K (.ref fI) = some (.type "function") ∧ FnOk P w K mg base CX0 k fI fd [("self" : Str), par] (spIni C fld) ∧
    Binds K fd [("self" : Str), par] [] ∧ XfC K C ∧ PySem.W.findIn K (.ref C) fld = some none
/-- a class without one -/
def NoIni (K : PySem.W.Frag) (C : Addr) : Prop := ∃ (bmB : List Value) (B newId initId : String), ExcBaseFacts B newId initId bmB ∧ PySem.W.excIn K C bmB newId = true ∧ PySem.W.keepIn K (.ref C) = true
theorem dp_bools {K : PySem.W.Frag} {H : Hp} : ∀ bs : List Bool, DpAll K H (bs.map V.bl) (bs.map PyData.bool)
  | [] => .nil
  | b :: bs => .cons (.bl b) (dp_bools bs)
theorem lay_bools : ∀ bs : List Bool, PyData.canLayAll0 (bs.map PyData.bool) = true
  | [] => by simp only [List.map_nil, PyData.canLayAll0]
  | b :: bs => by simp only [List.map_cons, PyData.canLayAll0, PyData.canLay0, lay_bools bs, Bool.and_self]
theorem depth_bools : ∀ bs : List Bool, PyData.depthAll (bs.map PyData.bool) ≤ 1
  | [] => by simp only [List.map_nil, PyData.depthAll]; omega
  | b :: bs => by
    have := depth_bools bs
    simp only [List.map_cons, PyData.depthAll, PyData.depth]
    omega
theorem shaped_bools (bs : List Bool) : SeqAt.shaped (.list (bs.map PyData.bool)) = true := by
  have := depth_bools bs
  unfold SeqAt.shaped
  rw [Bool.and_eq_true]
  refine ⟨by simp only [PyData.canLay0, lay_bools], decide_eq_true ?_⟩
  simp only [PyData.depth]
  omega
theorem eqv_bools : ∀ bs : List Bool, PyData.eqvAll (bs.map PyData.bool) (bs.map PyData.bool) = true
  | [] => by simp only [List.map_nil, PyData.eqvAll]
  | b :: bs => by
    have := eqv_bools bs
    cases b <;> simp [List.map_cons, PyData.eqvAll, PyData.eqv, this]
section
variable {P : Program} {w : World} {K : PySem.W.Frag} {mg : Str → Option Value} {base : Heap}
abbrev s_law_right : Stmt := topS 17
abbrev N_ri : List Str := ["_law_thing_here", "_law_before", "_law_made", "_law_at", "_law_error", "_law_told", "_law_k"]
theorem sc_law_right : FnScope N_ri ["_law_thing_here"] (defScope s_law_right) := ⟨rfl, rfl, rfl, by decide +kernel, rfl, by decide +kernel, by decide +kernel⟩
def sp_right (K : PySem.W.Frag) : Sp := fun vs H Q _ => ∃ (v : V) (x : PyData), vs = [v] ∧ Dd K (fun _ => True) H v x ∧ Sz 7 2000 x ∧ ∀ H', Same H H' → Q (.bl true) H'
theorem ok_right {cs : Nat → Addr} {S : Addr} {f f_c : Addr} {fd d_c : FuncData} {k : Nat} (F : Fun K "_law_right" "_law_right" s_law_right f fd) (N : Nine K cs S)
    (GC : FnOk P w K mg base CX0 (k + 1) f_c d_c ["_law_error"] (sp_classes cs)) (gC : mg "_law_classes" = some (.ref f_c)) (KC : PySem.W.keepIn K (.ref f_c) = true) (bC : Binds K d_c ["_law_error"] [])
    (I0 : IniE P w K mg base k (cs 0) "line") (I1 : IniE P w K mg base k (cs 1) "number") (I2 : IniE P w K mg base k (cs 2) "wanted") (I3 : IniE P w K mg base k (cs 3) "slot") (I5 : IniE P w K mg base k (cs 5) "number") (I8 : IniE P w K mg base k (cs 8) "number")
    (I4 : NoIni K (cs 4)) (I6 : NoIni K (cs 6)) (I7 : NoIni K (cs 7))
    (g0 : mg "BadText" = some (.ref (cs 0))) (g1 : mg "Refused" = some (.ref (cs 1))) (g2 : mg "NotKept" = some (.ref (cs 2))) (g3 : mg "NoSlot" = some (.ref (cs 3))) (g4 : mg "TooLarge" = some (.ref (cs 4)))
    (g5 : mg "Conflict" = some (.ref (cs 5))) (g6 : mg "Closed" = some (.ref (cs 6))) (g7 : mg "BadRow" = some (.ref (cs 7))) (g8 : mg "NoSession" = some (.ref (cs 8))) (gS : mg "StoreError" = some (.ref S))
    (misinstance : mg "isinstance" = none) (mrepr : mg "repr" = none) (mrange : mg "range" = none) (menumerate : mg "enumerate" = none) (mVE : mg "ValueError" = none) (mKE : mg "KeyError" = none) :
    FnG P w K mg base CX0 (k + 1 + 1) f fd ["_law_thing_here"] (sp_right K) := by
  obtain ⟨f0, d0, p0, o0, i0, t0, F0, b0, x0, h0⟩ := I0
  obtain ⟨f1, d1, p1, o1, i1, t1, F1, b1, x1, h1⟩ := I1
  obtain ⟨f2, d2, p2, o2, i2, t2, F2, b2, x2, h2⟩ := I2
  obtain ⟨f3, d3, p3, o3, i3, t3, F3, b3, x3, h3⟩ := I3
  obtain ⟨f5, d5, p5, o5, i5, t5, F5, b5, x5, h5⟩ := I5
  obtain ⟨f8, d8, p8, o8, i8, t8, F8, b8, x8, h8⟩ := I8
  obtain ⟨bm4, B4, n4, i4, F4, e4, k4⟩ := I4
  obtain ⟨bm6, B6, n6, i6, F6, e6, k6⟩ := I6
  obtain ⟨bm7, B7, n7, i7, F7, e7, k7⟩ := I7
  have nd := sc_law_right.nd
  refine ok_g F sc_law_right (fun vs H Q E h => ?_) (fun cdv A outer s H vs Q E hg hr h => ?_)
  · obtain ⟨v, x, rfl, _⟩ := h
    rfl
  obtain ⟨v, x, rfl, hx, zx, q⟩ := h
  refine ⟨_, (pss_cons (ps_set (i := 1) nd rfl (.inl rfl) (pe_callB (call_reprN hg hr) (by rfl) mrepr boot_repr (pa_cons (pv 0) pa_nil)))
      (pss_cons (ps_set (i := 2) nd rfl (.inl rfl) (pe_lst (pa_cons (pe_oexV o0 i0 t0 F0 hr b0 pass0 (by rfl) g0 (pa_cons (pv 0) pa_nil)) (pa_cons (pe_oexV o1 i1 t1 F1 hr b1 pass0 (by rfl) g1 (pa_cons (pv 0) pa_nil)) (pa_cons (pe_oexV o2 i2 t2 F2 hr b2 pass0 (by rfl) g2 (pa_cons (pv 0) pa_nil)) (pa_cons (pe_oexV o3 i3 t3 F3 hr b3 pass0 (by rfl) g3 (pa_cons (pv 0) pa_nil)) (pa_cons (pe_ex0V F4 e4 g4 k4 (by rfl)) (pa_cons (pe_oexV o5 i5 t5 F5 hr b5 pass0 (by rfl) g5 (pa_cons (pv 0) pa_nil)) (pa_cons (pe_ex0V F6 e6 g6 k6 (by rfl)) pa_nil)))))))))
      (pss_cons (ps_set (i := 2) nd rfl (.inl rfl) (pe_op op_cat (pv 2) (pe_lst (pa_cons (pe_ex0V F7 e7 g7 k7 (by rfl)) (pa_cons (pe_oexV o8 i8 t8 F8 hr b8 pass0 (by rfl) g8 (pa_cons (pv 0) pa_nil)) pa_nil)))))
      (Evl.pss_cut (ps_for PassesOwn.never rfl (pi_enum (by rfl) menumerate (pa_cons (pv 2) pa_nil)) (pg_tup rfl (pgs_cons (pg_name (i := 3) nd rfl (Or.inr rfl)) (pgs_cons (pg_name (i := 4) nd rfl (Or.inl rfl)) pgs_nil)))
      (pss_cons (ps_if (PW.pt (pw_or (pt_cmpR (op_neD hr.units) (pe_call GC hr (by rfl) gC KC bC .nil pass0 (pa_cons (pv 4) pa_nil)) (pe_lc (own := [("_law_k", 6)]) (te := tOp rEq (tVar 3) (tVar 6)) rfl nd (pi_range1 rfl mrange (pa_cons pe_int pa_nil)) (blkOk_by (N := N_ri) (sc := defScope s_law_right) (by decide +kernel)) (fun _ _ _ _ _ => (pg_name (i := 6) nd rfl (Or.inl rfl))) (fun _ _ _ _ _ => pts_nil) (fun _ _ _ _ _ => (pe_cmpR op_eq (pv 3) (pv 6) (nomark _)))) (nomark _)) (pw_or1 (pt_val (pe_callB call_isV (by rfl) misinstance boot_isinstance (pa_cons (pv 4) (pa_cons (pe_bltn (v := .ty "KeyError") (by rfl) mKE boot_KeyError rfl) pa_nil)))))))
        (pss_one (ps_ret pe_bl))
        pss_nil)
        (pss_one (ps_if (PW.pt (pw_or (pt_not (pt_val (pe_callB call_isV (by rfl) misinstance boot_isinstance (pa_cons (pv 4) (pa_cons (pe_glob (v := .ref S) rfl gS rfl) pa_nil))))) (pw_or1 (pt_not (pt_val (pe_callB call_isV (by rfl) misinstance boot_isinstance (pa_cons (pv 4) (pa_cons (pe_bltn (v := .ty "ValueError") (by rfl) mVE boot_ValueError rfl) pa_nil))))))))
        (pss_one (ps_ret pe_bl))
        pss_nil))))
      (pss_cons (ps_set (i := 5) nd rfl (.inl rfl) (pe_lst (pa_cons (pe_xv x0 h0 (pe_ix ix_list (pv 2) pe_int (fun _ _ => rfl))) (pa_cons (pe_xv x1 h1 (pe_ix ix_list (pv 2) pe_int (fun _ _ => rfl))) (pa_cons (pe_xv x2 h2 (pe_ix ix_list (pv 2) pe_int (fun _ _ => rfl))) (pa_cons (pe_xv x3 h3 (pe_ix ix_list (pv 2) pe_int (fun _ _ => rfl))) (pa_cons (pe_xv x5 h5 (pe_ix ix_list (pv 2) pe_int (fun _ _ => rfl))) (pa_cons (pe_xv x8 h8 (pe_ix ix_list (pv 2) pe_int (fun _ _ => rfl))) pa_nil))))))))
      (pss_one (ps_ret (pe_and (pe_cmpR op_eq (pe_callB (call_reprN hg hr) (by rfl) mrepr boot_repr (pa_cons (pv 5) pa_nil)) (pe_callB (call_reprN hg hr) (by rfl) mrepr boot_repr (pa_cons (pe_op op_rep (pe_lst (pa_cons (pv 0) pa_nil)) pe_int) pa_nil)) (nomark _)) (pe_one (pe_cmpR op_eq (pe_callB (call_reprN hg hr) (by rfl) mrepr boot_repr (pa_cons (pv 0) pa_nil)) (pv 1) (nomark _))))))))))), ?_⟩
  have zs := zx.shown (by decide) (by decide)
  refine ⟨v, rfl, v, x, _, rfl, hx, zs, ?_⟩
  refine ⟨v, rfl, (show 1 ≤ 1000 by decide), fun a0 n0 => ⟨a0, v, rfl, upd_same, fun q0 x0 y0 => ⟨rfl, ?_⟩⟩⟩
  have s0 : Same H _ := ini_same (C := cs 0) (fld := "line") (v := v) n0 x0 y0
  have e0 : Exv (upd (upd (upd H a0 (exo a0 (cs 0) none)) q0 (exd q0 [("line", v)])) a0 (exo a0 (cs 0) (some q0))) _ _ _ := ini_exv y0
  revert s0 e0
  generalize upd (upd (upd H a0 (exo a0 (cs 0) none)) q0 (exd q0 [("line", v)])) a0 (exo a0 (cs 0) (some q0)) = H0
  intro s0 e0
  refine ⟨v, rfl, (show 1 ≤ 1000 by decide), fun a1 n1 => ⟨a1, v, rfl, upd_same, fun q1 x1 y1 => ⟨rfl, ?_⟩⟩⟩
  have s1 : Same H0 _ := ini_same (C := cs 1) (fld := "number") (v := v) n1 x1 y1
  have e1 : Exv (upd (upd (upd H0 a1 (exo a1 (cs 1) none)) q1 (exd q1 [("number", v)])) a1 (exo a1 (cs 1) (some q1))) _ _ _ := ini_exv y1
  revert s1 e1
  generalize upd (upd (upd H0 a1 (exo a1 (cs 1) none)) q1 (exd q1 [("number", v)])) a1 (exo a1 (cs 1) (some q1)) = H1
  intro s1 e1
  refine ⟨v, rfl, (show 1 ≤ 1000 by decide), fun a2 n2 => ⟨a2, v, rfl, upd_same, fun q2 x2 y2 => ⟨rfl, ?_⟩⟩⟩
  have s2 : Same H1 _ := ini_same (C := cs 2) (fld := "wanted") (v := v) n2 x2 y2
  have e2 : Exv (upd (upd (upd H1 a2 (exo a2 (cs 2) none)) q2 (exd q2 [("wanted", v)])) a2 (exo a2 (cs 2) (some q2))) _ _ _ := ini_exv y2
  revert s2 e2
  generalize upd (upd (upd H1 a2 (exo a2 (cs 2) none)) q2 (exd q2 [("wanted", v)])) a2 (exo a2 (cs 2) (some q2)) = H2
  intro s2 e2
  refine ⟨v, rfl, (show 1 ≤ 1000 by decide), fun a3 n3 => ⟨a3, v, rfl, upd_same, fun q3 x3 y3 => ⟨rfl, ?_⟩⟩⟩
  have s3 : Same H2 _ := ini_same (C := cs 3) (fld := "slot") (v := v) n3 x3 y3
  have e3 : Exv (upd (upd (upd H2 a3 (exo a3 (cs 3) none)) q3 (exd q3 [("slot", v)])) a3 (exo a3 (cs 3) (some q3))) _ _ _ := ini_exv y3
  revert s3 e3
  generalize upd (upd (upd H2 a3 (exo a3 (cs 3) none)) q3 (exd q3 [("slot", v)])) a3 (exo a3 (cs 3) (some q3)) = H3
  intro s3 e3
  intro a4 n4
  have s4 := same_upd (o := exo a4 (cs 4) none) n4
  have e4 : Exv (upd H3 a4 (exo a4 (cs 4) none)) a4 (cs 4) none := upd_same
  revert s4 e4
  generalize upd H3 a4 (exo a4 (cs 4) none) = H4
  intro s4 e4
  refine ⟨v, rfl, (show 1 ≤ 1000 by decide), fun a5 n5 => ⟨a5, v, rfl, upd_same, fun q5 x5 y5 => ⟨rfl, ?_⟩⟩⟩
  have s5 : Same H4 _ := ini_same (C := cs 5) (fld := "number") (v := v) n5 x5 y5
  have e5 : Exv (upd (upd (upd H4 a5 (exo a5 (cs 5) none)) q5 (exd q5 [("number", v)])) a5 (exo a5 (cs 5) (some q5))) _ _ _ := ini_exv y5
  revert s5 e5
  generalize upd (upd (upd H4 a5 (exo a5 (cs 5) none)) q5 (exd q5 [("number", v)])) a5 (exo a5 (cs 5) (some q5)) = H5
  intro s5 e5
  intro a6 n6
  have s6 := same_upd (o := exo a6 (cs 6) none) n6
  have e6 : Exv (upd H5 a6 (exo a6 (cs 6) none)) a6 (cs 6) none := upd_same
  revert s6 e6
  generalize upd H5 a6 (exo a6 (cs 6) none) = H6
  intro s6 e6
  refine ⟨small_le (show 7 ≤ 1000 by decide), fun l1 m1 => ?_⟩
  have sl := same_upd (o := .lst [.ref a0, .ref a1, .ref a2, .ref a3, .ref a4, .ref a5, .ref a6]) m1
  have hl1 : upd H6 l1 (.lst [.ref a0, .ref a1, .ref a2, .ref a3, .ref a4, .ref a5, .ref a6]) l1 = _ := upd_same
  revert sl hl1
  generalize upd H6 l1 (.lst [.ref a0, .ref a1, .ref a2, .ref a3, .ref a4, .ref a5, .ref a6]) = H7
  intro sl hl1
  refine ⟨.ref l1, rfl, ?_⟩
  intro a7 n7
  have s7 := same_upd (o := exo a7 (cs 7) none) n7
  have e7 : Exv (upd H7 a7 (exo a7 (cs 7) none)) a7 (cs 7) none := upd_same
  revert s7 e7
  generalize upd H7 a7 (exo a7 (cs 7) none) = Ha
  intro s7 e7
  refine ⟨v, rfl, (show 1 ≤ 1000 by decide), fun a8 n8 => ⟨a8, v, rfl, upd_same, fun q8 x8 y8 => ⟨rfl, ?_⟩⟩⟩
  have s8 : Same Ha _ := ini_same (C := cs 8) (fld := "number") (v := v) n8 x8 y8
  have e8 : Exv (upd (upd (upd Ha a8 (exo a8 (cs 8) none)) q8 (exd q8 [("number", v)])) a8 (exo a8 (cs 8) (some q8))) _ _ _ := ini_exv y8
  revert s8 e8
  generalize upd (upd (upd Ha a8 (exo a8 (cs 8) none)) q8 (exd q8 [("number", v)])) a8 (exo a8 (cs 8) (some q8)) = H8
  intro s8 e8
  refine ⟨small_le (show 2 ≤ 1000 by decide), fun l2 m2 => ?_⟩
  have sm := same_upd (o := .lst [.ref a7, .ref a8]) m2
  have hl2 : upd H8 l2 (.lst [.ref a7, .ref a8]) l2 = _ := upd_same
  refine ⟨l1, l2, _, _, rfl, rfl, sm _ _ (s8 _ _ (s7 _ _ hl1)), hl2, small_le (show 9 ≤ 1000 by decide), fun p np => ?_⟩
  have sp := same_upd (o := .lst ([.ref a0, .ref a1, .ref a2, .ref a3, .ref a4, .ref a5, .ref a6] ++ [.ref a7, .ref a8])) np
  have hp : upd (upd H8 l2 (.lst [.ref a7, .ref a8])) p (.lst ([.ref a0, .ref a1, .ref a2, .ref a3, .ref a4, .ref a5, .ref a6] ++ [.ref a7, .ref a8])) p = some (.lst [.ref a0, .ref a1, .ref a2, .ref a3, .ref a4, .ref a5, .ref a6, .ref a7, .ref a8]) := upd_same
  revert sp hp
  generalize upd (upd H8 l2 (.lst [.ref a7, .ref a8])) p (.lst ([.ref a0, .ref a1, .ref a2, .ref a3, .ref a4, .ref a5, .ref a6] ++ [.ref a7, .ref a8])) = H9
  intro sp hp
  -- all at the end
  have z8 := sm.trans sp
  have z7 := s8.trans z8
  have z6 := sl.trans (s7.trans z7)
  have z5 := s6.trans z6
  have z4 := s5.trans z5
  have z3 := s4.trans z4
  have z2 := s3.trans z3
  have z1 := s2.trans z2
  have z0 := s1.trans z1
  have zz := s0.trans z0
  have e0 := Exv.same e0 z0
  have e1 := Exv.same e1 z1
  have e2 := Exv.same e2 z2
  have e3 := Exv.same e3 z3
  have e4 := Exv.same e4 z4
  have e5 := Exv.same e5 z5
  have e6 := Exv.same e6 z6
  have e7 := Exv.same e7 z7
  have e8 := Exv.same e8 z8
  clear s0 s1 s2 s3 s4 s5 s6 s7 s8 sl sm sp z0 z1 z2 z3 z4 z5 z6 z7 z8 hl1 hl2
  have all : ∀ (i : Nat) (y : V), ([.ref a0, .ref a1, .ref a2, .ref a3, .ref a4, .ref a5, .ref a6, .ref a7, .ref a8] : List V)[i]? = some y → ∃ a d, y = .ref a ∧ i < 9 ∧ Exv H9 a (cs i) d := by
    intro i y hy
    match i, hy with
    | 0, hy => cases hy; exact ⟨_, _, rfl, by omega, e0⟩
    | 1, hy => cases hy; exact ⟨_, _, rfl, by omega, e1⟩
    | 2, hy => cases hy; exact ⟨_, _, rfl, by omega, e2⟩
    | 3, hy => cases hy; exact ⟨_, _, rfl, by omega, e3⟩
    | 4, hy => cases hy; exact ⟨_, none, rfl, by omega, e4⟩
    | 5, hy => cases hy; exact ⟨_, _, rfl, by omega, e5⟩
    | 6, hy => cases hy; exact ⟨_, none, rfl, by omega, e6⟩
    | 7, hy => cases hy; exact ⟨_, none, rfl, by omega, e7⟩
    | 8, hy => cases hy; exact ⟨_, _, rfl, by omega, e8⟩
    | n + 9, hy => simp at hy
  refine ⟨fun σ' H' => ∃ y3 y4, σ' = [some v, some (.str x.shown), some (.ref p), y3, y4, none, none] ∧ Same H9 H', ?_, ?_⟩
  · refine ⟨.ref p, rfl, p, _, rfl, .inl (.inl hp), ?_⟩
    refine for_it (walk_enum (xs := [.ref a0, .ref a1, .ref a2, .ref a3, .ref a4, .ref a5, .ref a6, .ref a7, .ref a8])) (fun i σ' H' => ∃ y3 y4, σ' = [some v, some (.str x.shown), some (.ref p), y3, y4, none, none] ∧ Same H9 H') ⟨none, none, rfl, fun _ _ e => e⟩ ?_ ?_ ?_
    · rintro i σ' H' _ ⟨y3, y4, rfl, s⟩
      exact .inl (.inl (s _ _ hp))
    · rintro i u σ' H0' H' hi ⟨y3, y4, rfl, s⟩ ⟨T1, xi, yi, rfl, hT1, rfl, hxi, hyi⟩
      obtain rfl : V.int (i : Int) = xi := Option.some.inj hxi
      obtain ⟨a, d, rfl, hi9, hE⟩ := all i yi hyi
      have sT := s.trans (same_upd (o := .tup [.int (i : Int), .ref a]) hT1)
      refine ⟨_, _, rfl, .inl (.inl upd_same), rfl, _, _, rfl, _, _, rfl, rfl, ?_⟩
      refine ⟨.ref a, rfl, a, i, d, rfl, hi9, Exv.same hE sT, fun H2 pl s2 hpl => ⟨9, rfl, by decide, by decide, fun B nB => ?_⟩⟩
      refine lc_range (n := 9) (fun j H' => H' B = some (.lst ((List.range j).map fun k => V.bl (decide (i = k)))) ∧ ∀ b o, b ≠ B → H2 b = some o → H' b = some o) ⟨upd_same, fun b o nb e => by rw [upd_ne nb]; exact e⟩ ?_ ?_
      · rintro j H3 hj ⟨hB, kb⟩
        refine ⟨rfl, yes_then ⟨.int (i : Int), rfl, .int (0 + (j : Int)), rfl, rfl, _, hB, small1000 (by rw [List.length_map, List.length_range]; omega), ?_, ?_⟩⟩
        · rw [upd_same, List.range_succ, List.map_append]
          have : decide (V.int (i : Int) = V.int (0 + (j : Int))) = decide (i = j) := by
            by_cases h : i = j
            · subst h; simp
            · have h' : ¬ V.int (i : Int) = V.int (0 + (j : Int)) := fun e => h (by have := V.int.inj e; omega)
              rw [decide_eq_false h, decide_eq_false h']
          rw [this]
          rfl
        · intro b o nb e
          rw [upd_ne nb]
          exact kb b o nb e
      · rintro H3 ⟨hB, kb⟩
        have s3 : Same H2 H3 := fun b o e => kb b o (ne_of_none e nB) e
        have hbs : (List.range 9).map (fun k => V.bl (decide (i = k))) = ((List.range 9).map fun k => decide (i = k)).map V.bl := by rw [List.map_map]; rfl
        refine ⟨_, _, .lst (.inl (.inl (by rw [s3 _ _ hpl, isl, hbs]))) (dp_bools _), .lst (.inl (.inl (by rw [hB, hbs]))) (dp_bools _), shaped_bools _, shaped_bools _, _, rfl, ?_⟩
        have hev : PyData.eqv (.list (((List.range 9).map fun k => decide (i = k)).map PyData.bool)) (.list (((List.range 9).map fun k => decide (i = k)).map PyData.bool)) = true := by
          rw [PyData.eqv]
          exact eqv_bools _
        rw [hev]
        have hE3 := Exv.same hE (sT.trans (s2.trans s3))
        refine iteF ⟨.ref a, rfl, a, cs i, d, .ty "KeyError", _, _, rfl, .ty _, N.exc i hi9, hE3, N.ke i hi9, _, rfl, iteF ?_⟩
        refine ⟨.ref a, rfl, a, cs i, d, .ref S, _, _, rfl, .own _, N.exc i hi9, hE3, N.st i hi9, _, rfl, iteF ⟨.ref a, rfl, a, cs i, d, .ty "ValueError", _, _, rfl, .ty _, N.exc i hi9, hE3, N.ve i hi9, _, rfl, iteF ?_⟩⟩
        exact ⟨_, _, rfl, sT.trans (s2.trans s3)⟩
    · rintro σ' H' ⟨y3, y4, rfl, s⟩
      exact ⟨_, _, rfl, s⟩
  · rintro σ' H' ⟨y3, y4, rfl, s⟩
    have at' : ∀ {i : Nat} {y : V}, ([.ref a0, .ref a1, .ref a2, .ref a3, .ref a4, .ref a5, .ref a6, .ref a7, .ref a8] : List V)[i]? = some y → atI [.ref a0, .ref a1, .ref a2, .ref a3, .ref a4, .ref a5, .ref a6, .ref a7, .ref a8] (i : Int) = some y := fun e => atI_nat e
    have hp' := s _ _ hp
    refine ⟨.ref p, rfl, p, _, 0, _, rfl, rfl, .inl (.inl hp'), at' (i := 0) rfl, a0, q0, _, v, rfl, Exv.same e0 s, rfl, ?_⟩
    refine ⟨.ref p, rfl, p, _, 1, _, rfl, rfl, .inl (.inl hp'), at' (i := 1) rfl, a1, q1, _, v, rfl, Exv.same e1 s, rfl, ?_⟩
    refine ⟨.ref p, rfl, p, _, 2, _, rfl, rfl, .inl (.inl hp'), at' (i := 2) rfl, a2, q2, _, v, rfl, Exv.same e2 s, rfl, ?_⟩
    refine ⟨.ref p, rfl, p, _, 3, _, rfl, rfl, .inl (.inl hp'), at' (i := 3) rfl, a3, q3, _, v, rfl, Exv.same e3 s, rfl, ?_⟩
    refine ⟨.ref p, rfl, p, _, 5, _, rfl, rfl, .inl (.inl hp'), at' (i := 5) rfl, a5, q5, _, v, rfl, Exv.same e5 s, rfl, ?_⟩
    refine ⟨.ref p, rfl, p, _, 8, _, rfl, rfl, .inl (.inl hp'), at' (i := 8) rfl, a8, q8, _, v, rfl, Exv.same e8 s, rfl, ?_⟩
    refine ⟨small_le (show 6 ≤ 1000 by decide), fun l nl => ?_⟩
    have s1 := zz.trans (s.trans (same_upd (o := .lst [v, v, v, v, v, v]) nl))
    have hl : upd H' l (.lst [v, v, v, v, v, v]) l = _ := upd_same
    revert s1 hl
    generalize upd H' l (.lst [v, v, v, v, v, v]) = H''
    intro s1 hl
    have six : ∀ {G : Hp}, Same H G → DdAll K (fun _ => True) G [v, v, v, v, v, v] [x, x, x, x, x, x] := fun g => by
      have := hx.keep (KeepO.of g)
      exact .cons this (.cons this (.cons this (.cons this (.cons this (.cons this .nil)))))
    have zl : Sz 8 (2000 * 6 + 5) (.list [x, x, x, x, x, x]) := (szs_all (ds := [x, x, x, x, x, x]) fun y hy => by
      simp only [List.mem_cons, List.not_mem_nil, or_false, or_self] at hy
      rw [hy]
      exact zx).lst
    have zls := zl.shown (by decide) (by decide)
    refine ⟨.ref l, rfl, .ref l, .list [x, x, x, x, x, x], _, rfl, .lst hl True.intro (six s1), zls, ?_⟩
    refine ⟨v, rfl, small_le (show 1 ≤ 1000 by decide), fun l2 n2 => ?_⟩
    have s2 := same_upd (o := .lst [v]) n2
    have hl2 : upd H'' l2 (.lst [v]) l2 = _ := upd_same
    refine ⟨l2, 6, [v], rfl, rfl, hl2, by decide, by decide, small_le (show 6 ≤ 1000 by decide), fun l3 n3 => ?_⟩
    have s3 := s1.trans (s2.trans (same_upd (o := .lst (List.replicate (6 : Int).toNat [v]).flatten) n3))
    have hl3 : upd (upd H'' l2 (.lst [v])) l3 (.lst (List.replicate (6 : Int).toNat [v]).flatten) l3 = some (.lst [v, v, v, v, v, v]) := upd_same
    refine ⟨.ref l3, .list [x, x, x, x, x, x], _, rfl, .lst hl3 True.intro (six s3), zls, ?_⟩
    refine ⟨rfl, _, rfl, ?_⟩
    rw [decide_eq_true rfl]
    refine iteT ⟨v, rfl, v, x, _, rfl, hx.keep (KeepO.of s3), zs, .str x.shown, rfl, rfl, ?_⟩
    rw [decide_eq_true rfl]
    exact q _ s3
end
end E1

set_option maxHeartbeats 1000000
namespace E1
open PySem PySem.Spec PyProof.Rows L2 GR AD ESv
section
variable {P : Program} {w : World} {K : PySem.W.Frag} {mg : Str → Option Value} {base : Heap}
abbrev s_law : Stmt := topS 18
abbrev N_law : List Str := ["_law_script", "_law_deck_here", "_law_turn"]
theorem sc_law : FnScope N_law ["_law_script"] (defScope s_law) := ⟨rfl, rfl, rfl, by decide +kernel, rfl, by decide +kernel, by decide +kernel⟩
def sp_law (K : PySem.W.Frag) : Sp := fun vs H Q _ => ∃ (a : Addr) (ns : List Int), vs = [.ref a] ∧ SqL K H a (ns.map V.int) ∧ ∀ H', Q (.bl true) H'
theorem ok_law {f f_deck f_th f_ri : Addr} {fd d_deck d_th d_ri : FuncData} {k : Nat} (F : Fun K "law" "law" s_law f fd)
    (G_deck : FnOk P w K mg base CX0 k f_deck d_deck ["_law_script"] (sp_deck K)) (g_deck : mg "_law_deck" = some (.ref f_deck)) (K_deck : PySem.W.keepIn K (.ref f_deck) = true) (b_deck : Binds K d_deck ["_law_script"] [])
    (G_th : FnOk P w K mg base CX0 k f_th d_th ["_law_deck_here", "_law_deep"] (sp_thing K 3)) (g_th : mg "_law_thing" = some (.ref f_th)) (K_th : PySem.W.keepIn K (.ref f_th) = true) (b_th : Binds K d_th ["_law_deck_here", "_law_deep"] [])
    (G_ri : FnG P w K mg base CX0 k f_ri d_ri ["_law_thing_here"] (sp_right K)) (g_ri : mg "_law_right" = some (.ref f_ri)) (K_ri : PySem.W.keepIn K (.ref f_ri) = true) (b_ri : Binds K d_ri ["_law_thing_here"] [])
    (mrange : mg "range" = none) : FnG P w K mg base CX0 (k + 1) f fd ["_law_script"] (sp_law K) := by
  have nd := sc_law.nd
  refine ok_g F sc_law (fun vs H Q E h => ?_) (fun cdv A outer s H vs Q E hg hr h => ?_)
  · obtain ⟨a, ns, rfl, _⟩ := h
    rfl
  obtain ⟨a, ns, rfl, hS, q⟩ := h
  refine ⟨_, (pss_cons (ps_set (i := 1) nd rfl (.inr rfl) (pe_call G_deck hr (by rfl) g_deck K_deck b_deck .nil pass0 (pa_cons (pv 0) pa_nil)))
      (pss_one (ps_ret (pe_cmpR (op_eqD hr.units) (pe_lc (own := [("_law_turn", 2)]) (tt := tNot (tB (tCall (sp_right K) [] E0 (tCons (tCall (sp_thing K 3) [] E0 (tCons (tVar 1) (tCons (tC (.int 3)) tNil))) tNil)))) rfl nd (pi_range1 rfl mrange (pa_cons pe_int pa_nil)) (blkOk_by (N := N_law) (sc := defScope s_law) (by decide +kernel)) (fun _ _ _ _ _ => (pg_name (i := 2) nd rfl (Or.inl rfl)))
        (fun _ _ _ _ _ => (pts_one (pt_not (pt_val (pe_callG G_ri hg hr (by rfl) g_ri K_ri b_ri pass0 (pa_cons (pe_call G_th hr (by rfl) g_th K_th b_th .nil pass0 (pa_cons (pv 1) (pa_cons pe_int pa_nil))) pa_nil)))))) (fun _ _ _ _ _ => (pv 2))) (pe_lst pa_nil) (nomark _))))), ?_⟩
  refine ⟨.ref a, rfl, a, ns, rfl, hS, fun H1 d c s1 n1 D1 => ⟨3, rfl, by decide, by decide, fun B nB => ?_⟩⟩
  have hB := D1.new nB
  have hdr : drT 3 = 186 := by decide
  have hz : szT 3 = 1681 := by decide
  refine lc_range (n := 3) (fun j H' => H' B = some (.lst []) ∧ Deck H' d c (200 * (j : Int))) ⟨upd_same, (D1.same (same_upd nB)).mono (by omega)⟩ ?_ ?_
  · rintro j H2 hj ⟨hb, D2⟩
    refine ⟨rfl, .ref d, rfl, d, c, _, 3, rfl, D2, by omega, by omega, by omega, fun H3 v x k3 D3 hv hx => ⟨v, x, rfl, hv.mono fun _ _ => True.intro, hx.mono (by omega) (by omega), fun H4 s4 => ⟨_, rfl, iteF ⟨s4 _ _ (k3 _ _ hB.1 hB.2 hb), (D3.same s4).mono (by omega)⟩⟩⟩⟩
  · rintro H5 ⟨hb, D5⟩
    refine ⟨Nat.zero_le _, fun l nl => ⟨.list [], .list [], .lst (.inl (.inl (same_upd nl _ _ hb))) .nil, .lst (.inl (.inl upd_same)) .nil, by decide +kernel, by decide +kernel, ?_⟩⟩
    have : PyData.eqv (.list []) (.list []) = true := by simp only [PyData.eqv, PyData.eqvAll]
    rw [this]
    exact q _
end
end E1

set_option maxHeartbeats 1000000
namespace E1
open PySem PySem.Spec PyProof.Rows L2 GR AD ESv NdefX
section
variable {P : Program} {w : World} {K : PySem.W.Frag} {mg : Str → Option Value} {base : Heap}
abbrev i_BadText : Stmt := inClass (topS 2) 0
theorem ini_BadText {C fI cc cda : Addr} {oc : Value} {od : Option Addr} {osl : Array (Option Value)} {kV doc pm ct : Value} {an : Option Addr} {k : Nat} (T : SuC P K mg C cc cda) (x : XfC K C) (hfld : PySem.W.findIn K (.ref C) "line" = some none) (hi : PySem.W.findIn K (.ref C) "__init__" = some (some (.ref fI))) (ty : PySem.W.typeIn K (.ref fI) = some (.type "function"))
    (lk : K.lookup fI = some ⟨oc, od, .func (PySem.W.fnX "__init__" "BadText.__init__" (defArgs i_BadText) (defBody i_BadText) (defScope i_BadText) [("__class__", cc)] .none kV doc pm an (.ref cda) ct), osl⟩) (hcd : PySem.W.codeIn K (.ref cda) "BadText.__init__" = true) :
    IniE P w K mg base (k + 1) C "line" :=
  ⟨fI, _, "line", T.oex, hi, ty, ok_ini (msg := "a text that cannot be read") (fld := "line") (par := "line") T hfld lk hcd (nscope_by (by decide +kernel)) (by decide +kernel) rfl rfl, fun s us _ hl => match us, hl with | [_, _], _ => .of_eq rfl, x, hfld⟩
abbrev i_Refused : Stmt := inClass (topS 3) 0
theorem ini_Refused {C fI cc cda : Addr} {oc : Value} {od : Option Addr} {osl : Array (Option Value)} {kV doc pm ct : Value} {an : Option Addr} {k : Nat} (T : SuC P K mg C cc cda) (x : XfC K C) (hfld : PySem.W.findIn K (.ref C) "number" = some none) (hi : PySem.W.findIn K (.ref C) "__init__" = some (some (.ref fI))) (ty : PySem.W.typeIn K (.ref fI) = some (.type "function"))
    (lk : K.lookup fI = some ⟨oc, od, .func (PySem.W.fnX "__init__" "Refused.__init__" (defArgs i_Refused) (defBody i_Refused) (defScope i_Refused) [("__class__", cc)] .none kV doc pm an (.ref cda) ct), osl⟩) (hcd : PySem.W.codeIn K (.ref cda) "Refused.__init__" = true) :
    IniE P w K mg base (k + 1) C "number" :=
  ⟨fI, _, "number", T.oex, hi, ty, ok_ini (msg := "a need of the transaction does not hold") (fld := "number") (par := "number") T hfld lk hcd (nscope_by (by decide +kernel)) (by decide +kernel) rfl rfl, fun s us _ hl => match us, hl with | [_, _], _ => .of_eq rfl, x, hfld⟩
abbrev i_NotKept : Stmt := inClass (topS 4) 0
theorem ini_NotKept {C fI cc cda : Addr} {oc : Value} {od : Option Addr} {osl : Array (Option Value)} {kV doc pm ct : Value} {an : Option Addr} {k : Nat} (T : SuC P K mg C cc cda) (x : XfC K C) (hfld : PySem.W.findIn K (.ref C) "wanted" = some none) (hi : PySem.W.findIn K (.ref C) "__init__" = some (some (.ref fI))) (ty : PySem.W.typeIn K (.ref fI) = some (.type "function"))
    (lk : K.lookup fI = some ⟨oc, od, .func (PySem.W.fnX "__init__" "NotKept.__init__" (defArgs i_NotKept) (defBody i_NotKept) (defScope i_NotKept) [("__class__", cc)] .none kV doc pm an (.ref cda) ct), osl⟩) (hcd : PySem.W.codeIn K (.ref cda) "NotKept.__init__" = true) :
    IniE P w K mg base (k + 1) C "wanted" :=
  ⟨fI, _, "wanted", T.oex, hi, ty, ok_ini (msg := "a moment that is not kept") (fld := "wanted") (par := "wanted") T hfld lk hcd (nscope_by (by decide +kernel)) (by decide +kernel) rfl rfl, fun s us _ hl => match us, hl with | [_, _], _ => .of_eq rfl, x, hfld⟩
abbrev i_NoSlot : Stmt := inClass (topS 5) 0
theorem ini_NoSlot {C fI cc cda : Addr} {oc : Value} {od : Option Addr} {osl : Array (Option Value)} {kV doc pm ct : Value} {an : Option Addr} {k : Nat} (T : SuC P K mg C cc cda) (x : XfC K C) (hfld : PySem.W.findIn K (.ref C) "slot" = some none) (hi : PySem.W.findIn K (.ref C) "__init__" = some (some (.ref fI))) (ty : PySem.W.typeIn K (.ref fI) = some (.type "function"))
    (lk : K.lookup fI = some ⟨oc, od, .func (PySem.W.fnX "__init__" "NoSlot.__init__" (defArgs i_NoSlot) (defBody i_NoSlot) (defScope i_NoSlot) [("__class__", cc)] .none kV doc pm an (.ref cda) ct), osl⟩) (hcd : PySem.W.codeIn K (.ref cda) "NoSlot.__init__" = true) :
    IniE P w K mg base (k + 1) C "slot" :=
  ⟨fI, _, "slot", T.oex, hi, ty, ok_ini (msg := "not a slot of the log") (fld := "slot") (par := "slot") T hfld lk hcd (nscope_by (by decide +kernel)) (by decide +kernel) rfl rfl, fun s us _ hl => match us, hl with | [_, _], _ => .of_eq rfl, x, hfld⟩
abbrev i_Conflict : Stmt := inClass (topS 7) 0
theorem ini_Conflict {C fI cc cda : Addr} {oc : Value} {od : Option Addr} {osl : Array (Option Value)} {kV doc pm ct : Value} {an : Option Addr} {k : Nat} (T : SuC P K mg C cc cda) (x : XfC K C) (hfld : PySem.W.findIn K (.ref C) "number" = some none) (hi : PySem.W.findIn K (.ref C) "__init__" = some (some (.ref fI))) (ty : PySem.W.typeIn K (.ref fI) = some (.type "function"))
    (lk : K.lookup fI = some ⟨oc, od, .func (PySem.W.fnX "__init__" "Conflict.__init__" (defArgs i_Conflict) (defBody i_Conflict) (defScope i_Conflict) [("__class__", cc)] .none kV doc pm an (.ref cda) ct), osl⟩) (hcd : PySem.W.codeIn K (.ref cda) "Conflict.__init__" = true) :
    IniE P w K mg base (k + 1) C "number" :=
  ⟨fI, _, "number", T.oex, hi, ty, ok_ini (msg := "an event of the session has another result") (fld := "number") (par := "number") T hfld lk hcd (nscope_by (by decide +kernel)) (by decide +kernel) rfl rfl, fun s us _ hl => match us, hl with | [_, _], _ => .of_eq rfl, x, hfld⟩
abbrev i_NoSession : Stmt := inClass (topS 10) 0
theorem ini_NoSession {C fI cc cda : Addr} {oc : Value} {od : Option Addr} {osl : Array (Option Value)} {kV doc pm ct : Value} {an : Option Addr} {k : Nat} (T : SuC P K mg C cc cda) (x : XfC K C) (hfld : PySem.W.findIn K (.ref C) "number" = some none) (hi : PySem.W.findIn K (.ref C) "__init__" = some (some (.ref fI))) (ty : PySem.W.typeIn K (.ref fI) = some (.type "function"))
    (lk : K.lookup fI = some ⟨oc, od, .func (PySem.W.fnX "__init__" "NoSession.__init__" (defArgs i_NoSession) (defBody i_NoSession) (defScope i_NoSession) [("__class__", cc)] .none kV doc pm an (.ref cda) ct), osl⟩) (hcd : PySem.W.codeIn K (.ref cda) "NoSession.__init__" = true) :
    IniE P w K mg base (k + 1) C "number" :=
  ⟨fI, _, "number", T.oex, hi, ty, ok_ini (msg := "no session has this number") (fld := "number") (par := "number") T hfld lk hcd (nscope_by (by decide +kernel)) (by decide +kernel) rfl rfl, fun s us _ hl => match us, hl with | [_, _], _ => .of_eq rfl, x, hfld⟩
end
end E1

namespace E1
open PySem PySem.Spec PyProof.Rows L2 GR AD ESv NdefX
/-- a def stands in the text's top -/
def Has (K : PySem.W.Frag) (x : Str) (st : Stmt) : Prop := ∃ (f : Addr) (fd : FuncData), PySem.W.nsIn K mainGlobals x = some (some (.ref f)) ∧ Fun K x x st f fd
theorem has_mk {K : PySem.W.Frag} {x : Str} {st : Stmt} {f : Addr} {oc : Value} {od an : Option Addr} {osl : Array (Option Value)} {kV doc pm cdv ct : Value} (a : PySem.W.nsIn K mainGlobals x = some (some (.ref f)))
    (l : K.lookup f = some ⟨oc, od, .func (PySem.W.fnOf x x (defArgs st) (defBody st) (defScope st) .none kV doc pm an cdv ct), osl⟩) (c : PySem.W.codeIn K cdv x = true) (k : PySem.W.keepIn K (.ref f) = true) : Has K x st := ⟨f, _, a, fun_mk l c k⟩
/-- what isinstance asks of a class -/
theorem exc_mk {K : PySem.W.Frag} {C : Addr} (hg : PySem.W.findIn K (.ref C) "__getattribute__" = some (some (.builtin "BaseException.__getattribute__"))) (hk : PySem.W.findIn K (.ref C) "__getattr__" = some none) (hs : PySem.W.subIn K (.ref C) (.type "BaseException") = some true)
    (hd : PySem.W.hasDictIn K C = true) (ha : PySem.W.findIn K (.ref C) "__class__" = some (some (.builtin "object.__class__"))) (hm : PySem.W.mroIn K C (.type "object") = some true)
    (hn : PySem.W.specialIn K (.builtin "object.__class__") "__get__" = some (some (.builtin "getset_descriptor.__get__"))) (ht : PySem.W.takesIn K (.builtin "object.__class__") = some true) : ExcC K C := ⟨hg, hk, hs, hd, ha, hn, ht, hm⟩
theorem suc_mk {P : Program} {K : PySem.W.Frag} {mg : Str → Option Value} {C cc cda : Addr} {nm q : Str} {N : Addr} {bs bm : List Value} {sn : List Str} {sub : List Value} {ab : Bool} {col : Option Bool} {dd : Option Addr} {k0 k1 k2 k3 k5 : Option Value} {cl ccl : Value} {cld cdd : Option Addr} {csl ccs : Array (Option Value)} {vs : Array Value} {file : Str} {tf : Tok}
    (nosup : mg "super" = none) (pl : PySem.W.nsIn K cStatics "thirdparty.any" = some none) (l : K.lookup C = some (excClassObj nm q C N bs bm true sn sub ab col dd k0 k1 k2 k3 k5 "ValueError.__new__")) (hb : PySem.HandSPX.refsVE bm = true)
    (sa : PySem.W.findIn K (.ref C) "__setattr__" = some (some (.builtin "object.__setattr__"))) (eC : PySem.W.subIn K (.ref C) (.type "BaseException") = some true) (tC : PySem.W.typeIn K (.ref C) = some (.type "type")) (kC : PySem.W.keepIn K (.ref C) = true)
    (al : PySem.W.ks_superIn K C C "__init__" = some (some (.builtin "ValueError.__init__"))) (iV : PySem.W.subIn K (.ref C) (.type "ValueError") = some true) (iC : PySem.W.mroIn K C (.ref C) = some true)
    (ce : K.lookup cc = some ⟨cl, cld, .cell (some (.ref C)), csl⟩) (co : K.lookup cda = some ⟨ccl, cdd, .fields vs, ccs⟩) (v2 : vs[2]? = some (.str file tf)) (fi : ((P.main.file : Str) == file) = true) (to : (P.main.scope.names.lookup ("super" : Str)).isSome = false) : SuC P K mg C cc cda :=
  ⟨⟨⟨_, _, _, _, _, _, _, _, _, _, _, _, _, _, _, l, hb⟩, sa, eC, tC, kC⟩, by unfold PySem.W.clsIn; rw [l]; rfl, al, pl, iV, iC, nosup, ⟨_, _, _, ce⟩, ⟨_, _, _, _, _, _, co, v2, fi⟩, to⟩
theorem all_mk {P : Program} {w : World} {K : PySem.W.Frag} {h : Heap} {mg : Str → Option Value} {fa : Addr} (X : K.In h) (G : h.Ns mainGlobals mg) (hfa : mg "law" = some (.ref fa))
    (X_law_deck : Has K "_law_deck" s_law_deck)
    (X_law_draw : Has K "_law_draw" s_law_draw)
    (X_law_pick : Has K "_law_pick" s_law_pick)
    (X_law_thing : Has K "_law_thing" s_law_thing)
    (X_law_classes : Has K "_law_classes" s_law_classes)
    (X_law_right : Has K "_law_right" s_law_right)
    (X_law : Has K "law" s_law)
    (z_list : PySem.W.nsIn K mainGlobals "list" = some none)
    (z_sum : PySem.W.nsIn K mainGlobals "sum" = some none)
    (z_len : PySem.W.nsIn K mainGlobals "len" = some none)
    (z_range : PySem.W.nsIn K mainGlobals "range" = some none)
    (z_tuple : PySem.W.nsIn K mainGlobals "tuple" = some none)
    (z_repr : PySem.W.nsIn K mainGlobals "repr" = some none)
    (z_isinstance : PySem.W.nsIn K mainGlobals "isinstance" = some none)
    (z_enumerate : PySem.W.nsIn K mainGlobals "enumerate" = some none)
    (z_ValueError : PySem.W.nsIn K mainGlobals "ValueError" = some none)
    (z_KeyError : PySem.W.nsIn K mainGlobals "KeyError" = some none)
    (z_super : PySem.W.nsIn K mainGlobals "super" = some none)
    {S : Addr} (aS : PySem.W.nsIn K mainGlobals "StoreError" = some (some (.ref S)))
    {c0 : Addr} (aC0 : PySem.W.nsIn K mainGlobals "BadText" = some (some (.ref c0)))
    {c1 : Addr} (aC1 : PySem.W.nsIn K mainGlobals "Refused" = some (some (.ref c1)))
    {c2 : Addr} (aC2 : PySem.W.nsIn K mainGlobals "NotKept" = some (some (.ref c2)))
    {c3 : Addr} (aC3 : PySem.W.nsIn K mainGlobals "NoSlot" = some (some (.ref c3)))
    {c4 : Addr} (aC4 : PySem.W.nsIn K mainGlobals "TooLarge" = some (some (.ref c4)))
    {c5 : Addr} (aC5 : PySem.W.nsIn K mainGlobals "Conflict" = some (some (.ref c5)))
    {c6 : Addr} (aC6 : PySem.W.nsIn K mainGlobals "Closed" = some (some (.ref c6)))
    {c7 : Addr} (aC7 : PySem.W.nsIn K mainGlobals "BadRow" = some (some (.ref c7)))
    {c8 : Addr} (aC8 : PySem.W.nsIn K mainGlobals "NoSession" = some (some (.ref c8)))
    (hn : PySem.W.specialIn K (.builtin "object.__class__") "__get__" = some (some (.builtin "getset_descriptor.__get__"))) (ht : PySem.W.takesIn K (.builtin "object.__class__") = some true)
    (hg0 : PySem.W.findIn K (.ref c0) "__getattribute__" = some (some (.builtin "BaseException.__getattribute__")))
    (hk0 : PySem.W.findIn K (.ref c0) "__getattr__" = some none)
    (hs0 : PySem.W.subIn K (.ref c0) (.type "BaseException") = some true)
    (hd0 : PySem.W.hasDictIn K c0 = true)
    (ha0 : PySem.W.findIn K (.ref c0) "__class__" = some (some (.builtin "object.__class__")))
    (hm0 : PySem.W.mroIn K c0 (.type "object") = some true)
    (hg1 : PySem.W.findIn K (.ref c1) "__getattribute__" = some (some (.builtin "BaseException.__getattribute__")))
    (hk1 : PySem.W.findIn K (.ref c1) "__getattr__" = some none)
    (hs1 : PySem.W.subIn K (.ref c1) (.type "BaseException") = some true)
    (hd1 : PySem.W.hasDictIn K c1 = true)
    (ha1 : PySem.W.findIn K (.ref c1) "__class__" = some (some (.builtin "object.__class__")))
    (hm1 : PySem.W.mroIn K c1 (.type "object") = some true)
    (hg2 : PySem.W.findIn K (.ref c2) "__getattribute__" = some (some (.builtin "BaseException.__getattribute__")))
    (hk2 : PySem.W.findIn K (.ref c2) "__getattr__" = some none)
    (hs2 : PySem.W.subIn K (.ref c2) (.type "BaseException") = some true)
    (hd2 : PySem.W.hasDictIn K c2 = true)
    (ha2 : PySem.W.findIn K (.ref c2) "__class__" = some (some (.builtin "object.__class__")))
    (hm2 : PySem.W.mroIn K c2 (.type "object") = some true)
    (hg3 : PySem.W.findIn K (.ref c3) "__getattribute__" = some (some (.builtin "BaseException.__getattribute__")))
    (hk3 : PySem.W.findIn K (.ref c3) "__getattr__" = some none)
    (hs3 : PySem.W.subIn K (.ref c3) (.type "BaseException") = some true)
    (hd3 : PySem.W.hasDictIn K c3 = true)
    (ha3 : PySem.W.findIn K (.ref c3) "__class__" = some (some (.builtin "object.__class__")))
    (hm3 : PySem.W.mroIn K c3 (.type "object") = some true)
    (hg4 : PySem.W.findIn K (.ref c4) "__getattribute__" = some (some (.builtin "BaseException.__getattribute__")))
    (hk4 : PySem.W.findIn K (.ref c4) "__getattr__" = some none)
    (hs4 : PySem.W.subIn K (.ref c4) (.type "BaseException") = some true)
    (hd4 : PySem.W.hasDictIn K c4 = true)
    (ha4 : PySem.W.findIn K (.ref c4) "__class__" = some (some (.builtin "object.__class__")))
    (hm4 : PySem.W.mroIn K c4 (.type "object") = some true)
    (hg5 : PySem.W.findIn K (.ref c5) "__getattribute__" = some (some (.builtin "BaseException.__getattribute__")))
    (hk5 : PySem.W.findIn K (.ref c5) "__getattr__" = some none)
    (hs5 : PySem.W.subIn K (.ref c5) (.type "BaseException") = some true)
    (hd5 : PySem.W.hasDictIn K c5 = true)
    (ha5 : PySem.W.findIn K (.ref c5) "__class__" = some (some (.builtin "object.__class__")))
    (hm5 : PySem.W.mroIn K c5 (.type "object") = some true)
    (hg6 : PySem.W.findIn K (.ref c6) "__getattribute__" = some (some (.builtin "BaseException.__getattribute__")))
    (hk6 : PySem.W.findIn K (.ref c6) "__getattr__" = some none)
    (hs6 : PySem.W.subIn K (.ref c6) (.type "BaseException") = some true)
    (hd6 : PySem.W.hasDictIn K c6 = true)
    (ha6 : PySem.W.findIn K (.ref c6) "__class__" = some (some (.builtin "object.__class__")))
    (hm6 : PySem.W.mroIn K c6 (.type "object") = some true)
    (hg7 : PySem.W.findIn K (.ref c7) "__getattribute__" = some (some (.builtin "BaseException.__getattribute__")))
    (hk7 : PySem.W.findIn K (.ref c7) "__getattr__" = some none)
    (hs7 : PySem.W.subIn K (.ref c7) (.type "BaseException") = some true)
    (hd7 : PySem.W.hasDictIn K c7 = true)
    (ha7 : PySem.W.findIn K (.ref c7) "__class__" = some (some (.builtin "object.__class__")))
    (hm7 : PySem.W.mroIn K c7 (.type "object") = some true)
    (hg8 : PySem.W.findIn K (.ref c8) "__getattribute__" = some (some (.builtin "BaseException.__getattribute__")))
    (hk8 : PySem.W.findIn K (.ref c8) "__getattr__" = some none)
    (hs8 : PySem.W.subIn K (.ref c8) (.type "BaseException") = some true)
    (hd8 : PySem.W.hasDictIn K c8 = true)
    (ha8 : PySem.W.findIn K (.ref c8) "__class__" = some (some (.builtin "object.__class__")))
    (hm8 : PySem.W.mroIn K c8 (.type "object") = some true)
    (t0_0 : PySem.W.kitOne K (.ref c0) (.ref c0) = some true)
    (t0_1 : PySem.W.kitOne K (.ref c0) (.ref c1) = some false)
    (t0_2 : PySem.W.kitOne K (.ref c0) (.ref c2) = some false)
    (t0_3 : PySem.W.kitOne K (.ref c0) (.ref c3) = some false)
    (t0_4 : PySem.W.kitOne K (.ref c0) (.ref c4) = some false)
    (t0_5 : PySem.W.kitOne K (.ref c0) (.ref c5) = some false)
    (t0_6 : PySem.W.kitOne K (.ref c0) (.ref c6) = some false)
    (t0_7 : PySem.W.kitOne K (.ref c0) (.ref c7) = some false)
    (t0_8 : PySem.W.kitOne K (.ref c0) (.ref c8) = some false)
    (tS0 : PySem.W.kitOne K (.ref c0) (.ref S) = some true) (tV0 : PySem.W.kitOne K (.ref c0) (.type "ValueError") = some true) (tK0 : PySem.W.kitOne K (.ref c0) (.type "KeyError") = some false)
    (t1_0 : PySem.W.kitOne K (.ref c1) (.ref c0) = some false)
    (t1_1 : PySem.W.kitOne K (.ref c1) (.ref c1) = some true)
    (t1_2 : PySem.W.kitOne K (.ref c1) (.ref c2) = some false)
    (t1_3 : PySem.W.kitOne K (.ref c1) (.ref c3) = some false)
    (t1_4 : PySem.W.kitOne K (.ref c1) (.ref c4) = some false)
    (t1_5 : PySem.W.kitOne K (.ref c1) (.ref c5) = some false)
    (t1_6 : PySem.W.kitOne K (.ref c1) (.ref c6) = some false)
    (t1_7 : PySem.W.kitOne K (.ref c1) (.ref c7) = some false)
    (t1_8 : PySem.W.kitOne K (.ref c1) (.ref c8) = some false)
    (tS1 : PySem.W.kitOne K (.ref c1) (.ref S) = some true) (tV1 : PySem.W.kitOne K (.ref c1) (.type "ValueError") = some true) (tK1 : PySem.W.kitOne K (.ref c1) (.type "KeyError") = some false)
    (t2_0 : PySem.W.kitOne K (.ref c2) (.ref c0) = some false)
    (t2_1 : PySem.W.kitOne K (.ref c2) (.ref c1) = some false)
    (t2_2 : PySem.W.kitOne K (.ref c2) (.ref c2) = some true)
    (t2_3 : PySem.W.kitOne K (.ref c2) (.ref c3) = some false)
    (t2_4 : PySem.W.kitOne K (.ref c2) (.ref c4) = some false)
    (t2_5 : PySem.W.kitOne K (.ref c2) (.ref c5) = some false)
    (t2_6 : PySem.W.kitOne K (.ref c2) (.ref c6) = some false)
    (t2_7 : PySem.W.kitOne K (.ref c2) (.ref c7) = some false)
    (t2_8 : PySem.W.kitOne K (.ref c2) (.ref c8) = some false)
    (tS2 : PySem.W.kitOne K (.ref c2) (.ref S) = some true) (tV2 : PySem.W.kitOne K (.ref c2) (.type "ValueError") = some true) (tK2 : PySem.W.kitOne K (.ref c2) (.type "KeyError") = some false)
    (t3_0 : PySem.W.kitOne K (.ref c3) (.ref c0) = some false)
    (t3_1 : PySem.W.kitOne K (.ref c3) (.ref c1) = some false)
    (t3_2 : PySem.W.kitOne K (.ref c3) (.ref c2) = some false)
    (t3_3 : PySem.W.kitOne K (.ref c3) (.ref c3) = some true)
    (t3_4 : PySem.W.kitOne K (.ref c3) (.ref c4) = some false)
    (t3_5 : PySem.W.kitOne K (.ref c3) (.ref c5) = some false)
    (t3_6 : PySem.W.kitOne K (.ref c3) (.ref c6) = some false)
    (t3_7 : PySem.W.kitOne K (.ref c3) (.ref c7) = some false)
    (t3_8 : PySem.W.kitOne K (.ref c3) (.ref c8) = some false)
    (tS3 : PySem.W.kitOne K (.ref c3) (.ref S) = some true) (tV3 : PySem.W.kitOne K (.ref c3) (.type "ValueError") = some true) (tK3 : PySem.W.kitOne K (.ref c3) (.type "KeyError") = some false)
    (t4_0 : PySem.W.kitOne K (.ref c4) (.ref c0) = some false)
    (t4_1 : PySem.W.kitOne K (.ref c4) (.ref c1) = some false)
    (t4_2 : PySem.W.kitOne K (.ref c4) (.ref c2) = some false)
    (t4_3 : PySem.W.kitOne K (.ref c4) (.ref c3) = some false)
    (t4_4 : PySem.W.kitOne K (.ref c4) (.ref c4) = some true)
    (t4_5 : PySem.W.kitOne K (.ref c4) (.ref c5) = some false)
    (t4_6 : PySem.W.kitOne K (.ref c4) (.ref c6) = some false)
    (t4_7 : PySem.W.kitOne K (.ref c4) (.ref c7) = some false)
    (t4_8 : PySem.W.kitOne K (.ref c4) (.ref c8) = some false)
    (tS4 : PySem.W.kitOne K (.ref c4) (.ref S) = some true) (tV4 : PySem.W.kitOne K (.ref c4) (.type "ValueError") = some true) (tK4 : PySem.W.kitOne K (.ref c4) (.type "KeyError") = some false)
    (t5_0 : PySem.W.kitOne K (.ref c5) (.ref c0) = some false)
    (t5_1 : PySem.W.kitOne K (.ref c5) (.ref c1) = some false)
    (t5_2 : PySem.W.kitOne K (.ref c5) (.ref c2) = some false)
    (t5_3 : PySem.W.kitOne K (.ref c5) (.ref c3) = some false)
    (t5_4 : PySem.W.kitOne K (.ref c5) (.ref c4) = some false)
    (t5_5 : PySem.W.kitOne K (.ref c5) (.ref c5) = some true)
    (t5_6 : PySem.W.kitOne K (.ref c5) (.ref c6) = some false)
    (t5_7 : PySem.W.kitOne K (.ref c5) (.ref c7) = some false)
    (t5_8 : PySem.W.kitOne K (.ref c5) (.ref c8) = some false)
    (tS5 : PySem.W.kitOne K (.ref c5) (.ref S) = some true) (tV5 : PySem.W.kitOne K (.ref c5) (.type "ValueError") = some true) (tK5 : PySem.W.kitOne K (.ref c5) (.type "KeyError") = some false)
    (t6_0 : PySem.W.kitOne K (.ref c6) (.ref c0) = some false)
    (t6_1 : PySem.W.kitOne K (.ref c6) (.ref c1) = some false)
    (t6_2 : PySem.W.kitOne K (.ref c6) (.ref c2) = some false)
    (t6_3 : PySem.W.kitOne K (.ref c6) (.ref c3) = some false)
    (t6_4 : PySem.W.kitOne K (.ref c6) (.ref c4) = some false)
    (t6_5 : PySem.W.kitOne K (.ref c6) (.ref c5) = some false)
    (t6_6 : PySem.W.kitOne K (.ref c6) (.ref c6) = some true)
    (t6_7 : PySem.W.kitOne K (.ref c6) (.ref c7) = some false)
    (t6_8 : PySem.W.kitOne K (.ref c6) (.ref c8) = some false)
    (tS6 : PySem.W.kitOne K (.ref c6) (.ref S) = some true) (tV6 : PySem.W.kitOne K (.ref c6) (.type "ValueError") = some true) (tK6 : PySem.W.kitOne K (.ref c6) (.type "KeyError") = some false)
    (t7_0 : PySem.W.kitOne K (.ref c7) (.ref c0) = some false)
    (t7_1 : PySem.W.kitOne K (.ref c7) (.ref c1) = some false)
    (t7_2 : PySem.W.kitOne K (.ref c7) (.ref c2) = some false)
    (t7_3 : PySem.W.kitOne K (.ref c7) (.ref c3) = some false)
    (t7_4 : PySem.W.kitOne K (.ref c7) (.ref c4) = some false)
    (t7_5 : PySem.W.kitOne K (.ref c7) (.ref c5) = some false)
    (t7_6 : PySem.W.kitOne K (.ref c7) (.ref c6) = some false)
    (t7_7 : PySem.W.kitOne K (.ref c7) (.ref c7) = some true)
    (t7_8 : PySem.W.kitOne K (.ref c7) (.ref c8) = some false)
    (tS7 : PySem.W.kitOne K (.ref c7) (.ref S) = some true) (tV7 : PySem.W.kitOne K (.ref c7) (.type "ValueError") = some true) (tK7 : PySem.W.kitOne K (.ref c7) (.type "KeyError") = some false)
    (t8_0 : PySem.W.kitOne K (.ref c8) (.ref c0) = some false)
    (t8_1 : PySem.W.kitOne K (.ref c8) (.ref c1) = some false)
    (t8_2 : PySem.W.kitOne K (.ref c8) (.ref c2) = some false)
    (t8_3 : PySem.W.kitOne K (.ref c8) (.ref c3) = some false)
    (t8_4 : PySem.W.kitOne K (.ref c8) (.ref c4) = some false)
    (t8_5 : PySem.W.kitOne K (.ref c8) (.ref c5) = some false)
    (t8_6 : PySem.W.kitOne K (.ref c8) (.ref c6) = some false)
    (t8_7 : PySem.W.kitOne K (.ref c8) (.ref c7) = some false)
    (t8_8 : PySem.W.kitOne K (.ref c8) (.ref c8) = some true)
    (tS8 : PySem.W.kitOne K (.ref c8) (.ref S) = some true) (tV8 : PySem.W.kitOne K (.ref c8) (.type "ValueError") = some true) (tK8 : PySem.W.kitOne K (.ref c8) (.type "KeyError") = some false)
    (pl : PySem.W.nsIn K cStatics "thirdparty.any" = some none) (to : (P.main.scope.names.lookup ("super" : Str)).isSome = false)
    {f0 cc0 cda0 N0 : Addr} {oc0 cl0 ccl0 : Value} {od0 an0 cld0 cdd0 dd0 : Option Addr} {osl0 csl0 ccs0 : Array (Option Value)} {kV0 doc0 pm0 ct0 : Value} {vs0 : Array Value} {nm0 q0 file0 : Str} {bs0 bm0 sub0 : List Value} {sn0 : List Str} {ab0 : Bool} {col0 : Option Bool} {ka0 kb0 kc0 kd0 ke0 : Option Value} {tf0 : Tok}
    (li0' : K.lookup c0 = some (excClassObj nm0 q0 c0 N0 bs0 bm0 true sn0 sub0 ab0 col0 dd0 ka0 kb0 kc0 kd0 ke0 "ValueError.__new__"))
    (hb0' : PySem.HandSPX.refsVE bm0 = true)
    (sa0' : PySem.W.findIn K (.ref c0) "__setattr__" = some (some (.builtin "object.__setattr__")))
    (tC0' : PySem.W.typeIn K (.ref c0) = some (.type "type"))
    (kC0' : PySem.W.keepIn K (.ref c0) = true)
    (al0' : PySem.W.ks_superIn K c0 c0 "__init__" = some (some (.builtin "ValueError.__init__")))
    (iV0' : PySem.W.subIn K (.ref c0) (.type "ValueError") = some true)
    (iC0' : PySem.W.mroIn K c0 (.ref c0) = some true)
    (fi0' : PySem.W.findIn K (.ref c0) "__init__" = some (some (.ref f0)))
    (ty0' : PySem.W.typeIn K (.ref f0) = some (.type "function"))
    (lk0' : K.lookup f0 = some ⟨oc0, od0, .func (PySem.W.fnX "__init__" "BadText.__init__" (defArgs i_BadText) (defBody i_BadText) (defScope i_BadText) [("__class__", cc0)] .none kV0 doc0 pm0 an0 (.ref cda0) ct0), osl0⟩)
    (ce0' : K.lookup cc0 = some ⟨cl0, cld0, .cell (some (.ref c0)), csl0⟩)
    (co0' : K.lookup cda0 = some ⟨ccl0, cdd0, .fields vs0, ccs0⟩)
    (v20' : vs0[2]? = some (.str file0 tf0))
    (fl0' : ((P.main.file : Str) == file0) = true)
    (cd0' : PySem.W.codeIn K (.ref cda0) "BadText.__init__" = true)
    (hf0' : PySem.W.findIn K (.ref c0) "line" = some none)
    {f1 cc1 cda1 N1 : Addr} {oc1 cl1 ccl1 : Value} {od1 an1 cld1 cdd1 dd1 : Option Addr} {osl1 csl1 ccs1 : Array (Option Value)} {kV1 doc1 pm1 ct1 : Value} {vs1 : Array Value} {nm1 q1 file1 : Str} {bs1 bm1 sub1 : List Value} {sn1 : List Str} {ab1 : Bool} {col1 : Option Bool} {ka1 kb1 kc1 kd1 ke1 : Option Value} {tf1 : Tok}
    (li1' : K.lookup c1 = some (excClassObj nm1 q1 c1 N1 bs1 bm1 true sn1 sub1 ab1 col1 dd1 ka1 kb1 kc1 kd1 ke1 "ValueError.__new__"))
    (hb1' : PySem.HandSPX.refsVE bm1 = true)
    (sa1' : PySem.W.findIn K (.ref c1) "__setattr__" = some (some (.builtin "object.__setattr__")))
    (tC1' : PySem.W.typeIn K (.ref c1) = some (.type "type"))
    (kC1' : PySem.W.keepIn K (.ref c1) = true)
    (al1' : PySem.W.ks_superIn K c1 c1 "__init__" = some (some (.builtin "ValueError.__init__")))
    (iV1' : PySem.W.subIn K (.ref c1) (.type "ValueError") = some true)
    (iC1' : PySem.W.mroIn K c1 (.ref c1) = some true)
    (fi1' : PySem.W.findIn K (.ref c1) "__init__" = some (some (.ref f1)))
    (ty1' : PySem.W.typeIn K (.ref f1) = some (.type "function"))
    (lk1' : K.lookup f1 = some ⟨oc1, od1, .func (PySem.W.fnX "__init__" "Refused.__init__" (defArgs i_Refused) (defBody i_Refused) (defScope i_Refused) [("__class__", cc1)] .none kV1 doc1 pm1 an1 (.ref cda1) ct1), osl1⟩)
    (ce1' : K.lookup cc1 = some ⟨cl1, cld1, .cell (some (.ref c1)), csl1⟩)
    (co1' : K.lookup cda1 = some ⟨ccl1, cdd1, .fields vs1, ccs1⟩)
    (v21' : vs1[2]? = some (.str file1 tf1))
    (fl1' : ((P.main.file : Str) == file1) = true)
    (cd1' : PySem.W.codeIn K (.ref cda1) "Refused.__init__" = true)
    (hf1' : PySem.W.findIn K (.ref c1) "number" = some none)
    {f2 cc2 cda2 N2 : Addr} {oc2 cl2 ccl2 : Value} {od2 an2 cld2 cdd2 dd2 : Option Addr} {osl2 csl2 ccs2 : Array (Option Value)} {kV2 doc2 pm2 ct2 : Value} {vs2 : Array Value} {nm2 q2 file2 : Str} {bs2 bm2 sub2 : List Value} {sn2 : List Str} {ab2 : Bool} {col2 : Option Bool} {ka2 kb2 kc2 kd2 ke2 : Option Value} {tf2 : Tok}
    (li2' : K.lookup c2 = some (excClassObj nm2 q2 c2 N2 bs2 bm2 true sn2 sub2 ab2 col2 dd2 ka2 kb2 kc2 kd2 ke2 "ValueError.__new__"))
    (hb2' : PySem.HandSPX.refsVE bm2 = true)
    (sa2' : PySem.W.findIn K (.ref c2) "__setattr__" = some (some (.builtin "object.__setattr__")))
    (tC2' : PySem.W.typeIn K (.ref c2) = some (.type "type"))
    (kC2' : PySem.W.keepIn K (.ref c2) = true)
    (al2' : PySem.W.ks_superIn K c2 c2 "__init__" = some (some (.builtin "ValueError.__init__")))
    (iV2' : PySem.W.subIn K (.ref c2) (.type "ValueError") = some true)
    (iC2' : PySem.W.mroIn K c2 (.ref c2) = some true)
    (fi2' : PySem.W.findIn K (.ref c2) "__init__" = some (some (.ref f2)))
    (ty2' : PySem.W.typeIn K (.ref f2) = some (.type "function"))
    (lk2' : K.lookup f2 = some ⟨oc2, od2, .func (PySem.W.fnX "__init__" "NotKept.__init__" (defArgs i_NotKept) (defBody i_NotKept) (defScope i_NotKept) [("__class__", cc2)] .none kV2 doc2 pm2 an2 (.ref cda2) ct2), osl2⟩)
    (ce2' : K.lookup cc2 = some ⟨cl2, cld2, .cell (some (.ref c2)), csl2⟩)
    (co2' : K.lookup cda2 = some ⟨ccl2, cdd2, .fields vs2, ccs2⟩)
    (v22' : vs2[2]? = some (.str file2 tf2))
    (fl2' : ((P.main.file : Str) == file2) = true)
    (cd2' : PySem.W.codeIn K (.ref cda2) "NotKept.__init__" = true)
    (hf2' : PySem.W.findIn K (.ref c2) "wanted" = some none)
    {f3 cc3 cda3 N3 : Addr} {oc3 cl3 ccl3 : Value} {od3 an3 cld3 cdd3 dd3 : Option Addr} {osl3 csl3 ccs3 : Array (Option Value)} {kV3 doc3 pm3 ct3 : Value} {vs3 : Array Value} {nm3 q3 file3 : Str} {bs3 bm3 sub3 : List Value} {sn3 : List Str} {ab3 : Bool} {col3 : Option Bool} {ka3 kb3 kc3 kd3 ke3 : Option Value} {tf3 : Tok}
    (li3' : K.lookup c3 = some (excClassObj nm3 q3 c3 N3 bs3 bm3 true sn3 sub3 ab3 col3 dd3 ka3 kb3 kc3 kd3 ke3 "ValueError.__new__"))
    (hb3' : PySem.HandSPX.refsVE bm3 = true)
    (sa3' : PySem.W.findIn K (.ref c3) "__setattr__" = some (some (.builtin "object.__setattr__")))
    (tC3' : PySem.W.typeIn K (.ref c3) = some (.type "type"))
    (kC3' : PySem.W.keepIn K (.ref c3) = true)
    (al3' : PySem.W.ks_superIn K c3 c3 "__init__" = some (some (.builtin "ValueError.__init__")))
    (iV3' : PySem.W.subIn K (.ref c3) (.type "ValueError") = some true)
    (iC3' : PySem.W.mroIn K c3 (.ref c3) = some true)
    (fi3' : PySem.W.findIn K (.ref c3) "__init__" = some (some (.ref f3)))
    (ty3' : PySem.W.typeIn K (.ref f3) = some (.type "function"))
    (lk3' : K.lookup f3 = some ⟨oc3, od3, .func (PySem.W.fnX "__init__" "NoSlot.__init__" (defArgs i_NoSlot) (defBody i_NoSlot) (defScope i_NoSlot) [("__class__", cc3)] .none kV3 doc3 pm3 an3 (.ref cda3) ct3), osl3⟩)
    (ce3' : K.lookup cc3 = some ⟨cl3, cld3, .cell (some (.ref c3)), csl3⟩)
    (co3' : K.lookup cda3 = some ⟨ccl3, cdd3, .fields vs3, ccs3⟩)
    (v23' : vs3[2]? = some (.str file3 tf3))
    (fl3' : ((P.main.file : Str) == file3) = true)
    (cd3' : PySem.W.codeIn K (.ref cda3) "NoSlot.__init__" = true)
    (hf3' : PySem.W.findIn K (.ref c3) "slot" = some none)
    {f5 cc5 cda5 N5 : Addr} {oc5 cl5 ccl5 : Value} {od5 an5 cld5 cdd5 dd5 : Option Addr} {osl5 csl5 ccs5 : Array (Option Value)} {kV5 doc5 pm5 ct5 : Value} {vs5 : Array Value} {nm5 q5 file5 : Str} {bs5 bm5 sub5 : List Value} {sn5 : List Str} {ab5 : Bool} {col5 : Option Bool} {ka5 kb5 kc5 kd5 ke5 : Option Value} {tf5 : Tok}
    (li5' : K.lookup c5 = some (excClassObj nm5 q5 c5 N5 bs5 bm5 true sn5 sub5 ab5 col5 dd5 ka5 kb5 kc5 kd5 ke5 "ValueError.__new__"))
    (hb5' : PySem.HandSPX.refsVE bm5 = true)
    (sa5' : PySem.W.findIn K (.ref c5) "__setattr__" = some (some (.builtin "object.__setattr__")))
    (tC5' : PySem.W.typeIn K (.ref c5) = some (.type "type"))
    (kC5' : PySem.W.keepIn K (.ref c5) = true)
    (al5' : PySem.W.ks_superIn K c5 c5 "__init__" = some (some (.builtin "ValueError.__init__")))
    (iV5' : PySem.W.subIn K (.ref c5) (.type "ValueError") = some true)
    (iC5' : PySem.W.mroIn K c5 (.ref c5) = some true)
    (fi5' : PySem.W.findIn K (.ref c5) "__init__" = some (some (.ref f5)))
    (ty5' : PySem.W.typeIn K (.ref f5) = some (.type "function"))
    (lk5' : K.lookup f5 = some ⟨oc5, od5, .func (PySem.W.fnX "__init__" "Conflict.__init__" (defArgs i_Conflict) (defBody i_Conflict) (defScope i_Conflict) [("__class__", cc5)] .none kV5 doc5 pm5 an5 (.ref cda5) ct5), osl5⟩)
    (ce5' : K.lookup cc5 = some ⟨cl5, cld5, .cell (some (.ref c5)), csl5⟩)
    (co5' : K.lookup cda5 = some ⟨ccl5, cdd5, .fields vs5, ccs5⟩)
    (v25' : vs5[2]? = some (.str file5 tf5))
    (fl5' : ((P.main.file : Str) == file5) = true)
    (cd5' : PySem.W.codeIn K (.ref cda5) "Conflict.__init__" = true)
    (hf5' : PySem.W.findIn K (.ref c5) "number" = some none)
    {f8 cc8 cda8 N8 : Addr} {oc8 cl8 ccl8 : Value} {od8 an8 cld8 cdd8 dd8 : Option Addr} {osl8 csl8 ccs8 : Array (Option Value)} {kV8 doc8 pm8 ct8 : Value} {vs8 : Array Value} {nm8 q8 file8 : Str} {bs8 bm8 sub8 : List Value} {sn8 : List Str} {ab8 : Bool} {col8 : Option Bool} {ka8 kb8 kc8 kd8 ke8 : Option Value} {tf8 : Tok}
    (li8' : K.lookup c8 = some (excClassObj nm8 q8 c8 N8 bs8 bm8 true sn8 sub8 ab8 col8 dd8 ka8 kb8 kc8 kd8 ke8 "ValueError.__new__"))
    (hb8' : PySem.HandSPX.refsVE bm8 = true)
    (sa8' : PySem.W.findIn K (.ref c8) "__setattr__" = some (some (.builtin "object.__setattr__")))
    (tC8' : PySem.W.typeIn K (.ref c8) = some (.type "type"))
    (kC8' : PySem.W.keepIn K (.ref c8) = true)
    (al8' : PySem.W.ks_superIn K c8 c8 "__init__" = some (some (.builtin "ValueError.__init__")))
    (iV8' : PySem.W.subIn K (.ref c8) (.type "ValueError") = some true)
    (iC8' : PySem.W.mroIn K c8 (.ref c8) = some true)
    (fi8' : PySem.W.findIn K (.ref c8) "__init__" = some (some (.ref f8)))
    (ty8' : PySem.W.typeIn K (.ref f8) = some (.type "function"))
    (lk8' : K.lookup f8 = some ⟨oc8, od8, .func (PySem.W.fnX "__init__" "NoSession.__init__" (defArgs i_NoSession) (defBody i_NoSession) (defScope i_NoSession) [("__class__", cc8)] .none kV8 doc8 pm8 an8 (.ref cda8) ct8), osl8⟩)
    (ce8' : K.lookup cc8 = some ⟨cl8, cld8, .cell (some (.ref c8)), csl8⟩)
    (co8' : K.lookup cda8 = some ⟨ccl8, cdd8, .fields vs8, ccs8⟩)
    (v28' : vs8[2]? = some (.str file8 tf8))
    (fl8' : ((P.main.file : Str) == file8) = true)
    (cd8' : PySem.W.codeIn K (.ref cda8) "NoSession.__init__" = true)
    (hf8' : PySem.W.findIn K (.ref c8) "number" = some none)
    (ex4 : PySem.W.excIn K c4 [.type "ValueError", .type "Exception", .type "BaseException", .type "object"] "ValueError.__new__" = true) (kC4' : PySem.W.keepIn K (.ref c4) = true)
    (ex6 : PySem.W.excIn K c6 [.type "ValueError", .type "Exception", .type "BaseException", .type "object"] "ValueError.__new__" = true) (kC6' : PySem.W.keepIn K (.ref c6) = true)
    (ex7 : PySem.W.excIn K c7 [.type "ValueError", .type "Exception", .type "BaseException", .type "object"] "ValueError.__new__" = true) (kC7' : PySem.W.keepIn K (.ref c7) = true)
    : ∃ fd : FuncData, (∀ (s : Shared) (v : Value), BindsTo s fd ⟨[v], []⟩ [("_law_script", v)]) ∧ ∀ base : Heap, K.In base → base.Ns mainGlobals mg → FnG P w K mg base CX0 19 fa fd ["_law_script"] (sp_law K) := by
  obtain ⟨f_law_deck, d_law_deck, a_law_deck, F_law_deck⟩ := X_law_deck
  have g_law_deck := PySem.W.mg_of X G a_law_deck
  have b_law_deck : Binds K d_law_deck ["_law_script"] [] := F_law_deck.binds (ps := ["_law_script"]) fun _ _ _ _ _ _ us hl => match us, hl with | [_], _ => rfl
  obtain ⟨f_law_draw, d_law_draw, a_law_draw, F_law_draw⟩ := X_law_draw
  have g_law_draw := PySem.W.mg_of X G a_law_draw
  have b_law_draw : Binds K d_law_draw ["_law_deck_here", "_law_most"] [] := F_law_draw.binds (ps := ["_law_deck_here", "_law_most"]) fun _ _ _ _ _ _ us hl => match us, hl with | [_, _], _ => rfl
  obtain ⟨f_law_pick, d_law_pick, a_law_pick, F_law_pick⟩ := X_law_pick
  have g_law_pick := PySem.W.mg_of X G a_law_pick
  have b_law_pick : Binds K d_law_pick ["_law_deck_here", "_law_some"] [] := F_law_pick.binds (ps := ["_law_deck_here", "_law_some"]) fun _ _ _ _ _ _ us hl => match us, hl with | [_, _], _ => rfl
  obtain ⟨f_law_thing, d_law_thing, a_law_thing, F_law_thing⟩ := X_law_thing
  have g_law_thing := PySem.W.mg_of X G a_law_thing
  have b_law_thing : Binds K d_law_thing ["_law_deck_here", "_law_deep"] [] := F_law_thing.binds (ps := ["_law_deck_here", "_law_deep"]) fun _ _ _ _ _ _ us hl => match us, hl with | [_, _], _ => rfl
  obtain ⟨f_law_classes, d_law_classes, a_law_classes, F_law_classes⟩ := X_law_classes
  have g_law_classes := PySem.W.mg_of X G a_law_classes
  have b_law_classes : Binds K d_law_classes ["_law_error"] [] := F_law_classes.binds (ps := ["_law_error"]) fun _ _ _ _ _ _ us hl => match us, hl with | [_], _ => rfl
  obtain ⟨f_law_right, d_law_right, a_law_right, F_law_right⟩ := X_law_right
  have g_law_right := PySem.W.mg_of X G a_law_right
  have b_law_right : Binds K d_law_right ["_law_thing_here"] [] := F_law_right.binds (ps := ["_law_thing_here"]) fun _ _ _ _ _ _ us hl => match us, hl with | [_], _ => rfl
  obtain ⟨f_law0, d_law0, a_law0, F_law0⟩ := X_law
  have e := hfa.symm.trans (PySem.W.mg_of X G a_law0)
  cases e
  have mlist := PySem.W.mg_none_of X G z_list
  have msum := PySem.W.mg_none_of X G z_sum
  have mlen := PySem.W.mg_none_of X G z_len
  have mrange := PySem.W.mg_none_of X G z_range
  have mtuple := PySem.W.mg_none_of X G z_tuple
  have mrepr := PySem.W.mg_none_of X G z_repr
  have misinstance := PySem.W.mg_none_of X G z_isinstance
  have menumerate := PySem.W.mg_none_of X G z_enumerate
  have mValueError := PySem.W.mg_none_of X G z_ValueError
  have mKeyError := PySem.W.mg_none_of X G z_KeyError
  have msuper := PySem.W.mg_none_of X G z_super
  have gS := PySem.W.mg_of X G aS
  have gC0 := PySem.W.mg_of X G aC0
  have gC1 := PySem.W.mg_of X G aC1
  have gC2 := PySem.W.mg_of X G aC2
  have gC3 := PySem.W.mg_of X G aC3
  have gC4 := PySem.W.mg_of X G aC4
  have gC5 := PySem.W.mg_of X G aC5
  have gC6 := PySem.W.mg_of X G aC6
  have gC7 := PySem.W.mg_of X G aC7
  have gC8 := PySem.W.mg_of X G aC8
  have NN : Nine K (fun i => ([c0, c1, c2, c3, c4, c5, c6, c7, c8] : List Addr).getD i 0) S := {
    exc := fun i hi => match i, hi with
      | 0, _ => exc_mk hg0 hk0 hs0 hd0 ha0 hm0 hn ht
      | 1, _ => exc_mk hg1 hk1 hs1 hd1 ha1 hm1 hn ht
      | 2, _ => exc_mk hg2 hk2 hs2 hd2 ha2 hm2 hn ht
      | 3, _ => exc_mk hg3 hk3 hs3 hd3 ha3 hm3 hn ht
      | 4, _ => exc_mk hg4 hk4 hs4 hd4 ha4 hm4 hn ht
      | 5, _ => exc_mk hg5 hk5 hs5 hd5 ha5 hm5 hn ht
      | 6, _ => exc_mk hg6 hk6 hs6 hd6 ha6 hm6 hn ht
      | 7, _ => exc_mk hg7 hk7 hs7 hd7 ha7 hm7 hn ht
      | 8, _ => exc_mk hg8 hk8 hs8 hd8 ha8 hm8 hn ht
      | n + 9, h => absurd h (by omega)
    kit := fun i j hi hj => match i, j, hi, hj with
      | 0, 0, _, _ => t0_0
      | 0, 1, _, _ => t0_1
      | 0, 2, _, _ => t0_2
      | 0, 3, _, _ => t0_3
      | 0, 4, _, _ => t0_4
      | 0, 5, _, _ => t0_5
      | 0, 6, _, _ => t0_6
      | 0, 7, _, _ => t0_7
      | 0, 8, _, _ => t0_8
      | 1, 0, _, _ => t1_0
      | 1, 1, _, _ => t1_1
      | 1, 2, _, _ => t1_2
      | 1, 3, _, _ => t1_3
      | 1, 4, _, _ => t1_4
      | 1, 5, _, _ => t1_5
      | 1, 6, _, _ => t1_6
      | 1, 7, _, _ => t1_7
      | 1, 8, _, _ => t1_8
      | 2, 0, _, _ => t2_0
      | 2, 1, _, _ => t2_1
      | 2, 2, _, _ => t2_2
      | 2, 3, _, _ => t2_3
      | 2, 4, _, _ => t2_4
      | 2, 5, _, _ => t2_5
      | 2, 6, _, _ => t2_6
      | 2, 7, _, _ => t2_7
      | 2, 8, _, _ => t2_8
      | 3, 0, _, _ => t3_0
      | 3, 1, _, _ => t3_1
      | 3, 2, _, _ => t3_2
      | 3, 3, _, _ => t3_3
      | 3, 4, _, _ => t3_4
      | 3, 5, _, _ => t3_5
      | 3, 6, _, _ => t3_6
      | 3, 7, _, _ => t3_7
      | 3, 8, _, _ => t3_8
      | 4, 0, _, _ => t4_0
      | 4, 1, _, _ => t4_1
      | 4, 2, _, _ => t4_2
      | 4, 3, _, _ => t4_3
      | 4, 4, _, _ => t4_4
      | 4, 5, _, _ => t4_5
      | 4, 6, _, _ => t4_6
      | 4, 7, _, _ => t4_7
      | 4, 8, _, _ => t4_8
      | 5, 0, _, _ => t5_0
      | 5, 1, _, _ => t5_1
      | 5, 2, _, _ => t5_2
      | 5, 3, _, _ => t5_3
      | 5, 4, _, _ => t5_4
      | 5, 5, _, _ => t5_5
      | 5, 6, _, _ => t5_6
      | 5, 7, _, _ => t5_7
      | 5, 8, _, _ => t5_8
      | 6, 0, _, _ => t6_0
      | 6, 1, _, _ => t6_1
      | 6, 2, _, _ => t6_2
      | 6, 3, _, _ => t6_3
      | 6, 4, _, _ => t6_4
      | 6, 5, _, _ => t6_5
      | 6, 6, _, _ => t6_6
      | 6, 7, _, _ => t6_7
      | 6, 8, _, _ => t6_8
      | 7, 0, _, _ => t7_0
      | 7, 1, _, _ => t7_1
      | 7, 2, _, _ => t7_2
      | 7, 3, _, _ => t7_3
      | 7, 4, _, _ => t7_4
      | 7, 5, _, _ => t7_5
      | 7, 6, _, _ => t7_6
      | 7, 7, _, _ => t7_7
      | 7, 8, _, _ => t7_8
      | 8, 0, _, _ => t8_0
      | 8, 1, _, _ => t8_1
      | 8, 2, _, _ => t8_2
      | 8, 3, _, _ => t8_3
      | 8, 4, _, _ => t8_4
      | 8, 5, _, _ => t8_5
      | 8, 6, _, _ => t8_6
      | 8, 7, _, _ => t8_7
      | 8, 8, _, _ => t8_8
      | n + 9, _, h, _ => absurd h (by omega)
      | _, n + 9, _, h => absurd h (by omega)
    st := fun i hi => match i, hi with
      | 0, _ => tS0
      | 1, _ => tS1
      | 2, _ => tS2
      | 3, _ => tS3
      | 4, _ => tS4
      | 5, _ => tS5
      | 6, _ => tS6
      | 7, _ => tS7
      | 8, _ => tS8
      | n + 9, h => absurd h (by omega)
    ve := fun i hi => match i, hi with
      | 0, _ => tV0
      | 1, _ => tV1
      | 2, _ => tV2
      | 3, _ => tV3
      | 4, _ => tV4
      | 5, _ => tV5
      | 6, _ => tV6
      | 7, _ => tV7
      | 8, _ => tV8
      | n + 9, h => absurd h (by omega)
    ke := fun i hi => match i, hi with
      | 0, _ => tK0
      | 1, _ => tK1
      | 2, _ => tK2
      | 3, _ => tK3
      | 4, _ => tK4
      | 5, _ => tK5
      | 6, _ => tK6
      | 7, _ => tK7
      | 8, _ => tK8
      | n + 9, h => absurd h (by omega) }
  obtain ⟨oc, od, kV, doc, pm, an, cdv, ct, osl, hfd, _, _⟩ := F_law0.ex
  refine ⟨d_law0, fun s v => ?_, fun base _ _ => ?_⟩
  · subst hfd
    exact .of_eq rfl
  ·
    have Gdraw := ok_draw (P := P) (w := w) (mg := mg) (base := base) (k := 0) F_law_draw
    have Gpick := ok_pick (k := 1) F_law_pick Gdraw g_law_draw F_law_draw.kp b_law_draw mlen
    have Gdeck := ok_deck (P := P) (w := w) (mg := mg) (base := base) (k := 0) F_law_deck mlist msum mlen
    have B0 : FnOk P w K mg base CX0 2 f_law_thing d_law_thing ["_law_deck_here", "_law_deep"] (sp_below K 0) := ⟨fun _ _ _ _ h => h.elim, fun _ _ _ _ _ _ _ _ _ _ _ _ _ h => h.elim⟩
    have T0 := ok_thing (j := 0) (k := 2) F_law_thing (Gdraw.mono (by decide)) g_law_draw F_law_draw.kp b_law_draw (Gpick.mono (by decide)) g_law_pick F_law_pick.kp b_law_pick (B0) g_law_thing F_law_thing.kp b_law_thing mrange mtuple
    have T1 := ok_thing (j := 1) (k := 3) F_law_thing (Gdraw.mono (by decide)) g_law_draw F_law_draw.kp b_law_draw (Gpick.mono (by decide)) g_law_pick F_law_pick.kp b_law_pick (T0) g_law_thing F_law_thing.kp b_law_thing mrange mtuple
    have T2 := ok_thing (j := 2) (k := 4) F_law_thing (Gdraw.mono (by decide)) g_law_draw F_law_draw.kp b_law_draw (Gpick.mono (by decide)) g_law_pick F_law_pick.kp b_law_pick (T1) g_law_thing F_law_thing.kp b_law_thing mrange mtuple
    have T3 := ok_thing (j := 3) (k := 5) F_law_thing (Gdraw.mono (by decide)) g_law_draw F_law_draw.kp b_law_draw (Gpick.mono (by decide)) g_law_pick F_law_pick.kp b_law_pick (T2) g_law_thing F_law_thing.kp b_law_thing mrange mtuple
    have Gcl := ok_classes (P := P) (w := w) (mg := mg) (base := base) (k := 1) F_law_classes NN misinstance gC0 gC1 gC2 gC3 gC4 gC5 gC6 gC7 gC8
    have I0 : IniE P w K mg base 1 c0 "line" := ini_BadText (suc_mk msuper pl li0' hb0' sa0' hs0 tC0' kC0' al0' iV0' iC0' ce0' co0' v20' fl0' to) ⟨hg0, hk0, hs0, hd0⟩ hf0' fi0' ty0' lk0' cd0'
    have I1 : IniE P w K mg base 1 c1 "number" := ini_Refused (suc_mk msuper pl li1' hb1' sa1' hs1 tC1' kC1' al1' iV1' iC1' ce1' co1' v21' fl1' to) ⟨hg1, hk1, hs1, hd1⟩ hf1' fi1' ty1' lk1' cd1'
    have I2 : IniE P w K mg base 1 c2 "wanted" := ini_NotKept (suc_mk msuper pl li2' hb2' sa2' hs2 tC2' kC2' al2' iV2' iC2' ce2' co2' v22' fl2' to) ⟨hg2, hk2, hs2, hd2⟩ hf2' fi2' ty2' lk2' cd2'
    have I3 : IniE P w K mg base 1 c3 "slot" := ini_NoSlot (suc_mk msuper pl li3' hb3' sa3' hs3 tC3' kC3' al3' iV3' iC3' ce3' co3' v23' fl3' to) ⟨hg3, hk3, hs3, hd3⟩ hf3' fi3' ty3' lk3' cd3'
    have I5 : IniE P w K mg base 1 c5 "number" := ini_Conflict (suc_mk msuper pl li5' hb5' sa5' hs5 tC5' kC5' al5' iV5' iC5' ce5' co5' v25' fl5' to) ⟨hg5, hk5, hs5, hd5⟩ hf5' fi5' ty5' lk5' cd5'
    have I8 : IniE P w K mg base 1 c8 "number" := ini_NoSession (suc_mk msuper pl li8' hb8' sa8' hs8 tC8' kC8' al8' iV8' iC8' ce8' co8' v28' fl8' to) ⟨hg8, hk8, hs8, hd8⟩ hf8' fi8' ty8' lk8' cd8'
    have I4 : NoIni K c4 := ⟨_, _, _, _, F.excBase_ValueError, ex4, kC4'⟩
    have I6 : NoIni K c6 := ⟨_, _, _, _, F.excBase_ValueError, ex6, kC6'⟩
    have I7 : NoIni K c7 := ⟨_, _, _, _, F.excBase_ValueError, ex7, kC7'⟩
    have Gri := ok_right (k := 1) F_law_right NN Gcl g_law_classes F_law_classes.kp b_law_classes I0 I1 I2 I3 I5 I8 I4 I6 I7 gC0 gC1 gC2 gC3 gC4 gC5 gC6 gC7 gC8 gS misinstance mrepr mrange menumerate mValueError mKeyError
    exact ok_law (k := 18) F_law0 (Gdeck.mono (by decide)) g_law_deck F_law_deck.kp b_law_deck (T3.mono (by decide)) g_law_thing F_law_thing.kp b_law_thing (FnG.mono Gri (by decide)) g_law_right F_law_right.kp b_law_right mrange
end E1
open PySem PySem.W PyProof.Rows
set_option maxHeartbeats 0 in
theorem PySem.Challenge.cw_lookdone_k01_errors_made_by_hand_holds : PySem.Challenge.rw_lookdone_k01_errors_made_by_hand.Holds := by
  w_on; o_law; k_head; (case hw => w_witness2)
  k_fill
  refine GR.walk_g (l := PySem.Challenge.rw_lookdone_k01_errors_made_by_hand) (n := 63) (k := 19) (x := "_law_script") (sp := E1.sp_law) rfl (by decide) rfl ⟨rfl, by decide, by decide⟩ (fun w h Y => PySem.W.kIn_of Y) ?F (fun _ _ a ns hl _ hS => ⟨a, ns, rfl, hS, fun _ => rfl⟩)
  case F =>
    intro w mg fa h KX G hmg
    refine' E1.all_mk KX G hmg (E1.has_mk ?a_law_deck ?l_law_deck ?c_law_deck ?k_law_deck) (E1.has_mk ?a_law_draw ?l_law_draw ?c_law_draw ?k_law_draw) (E1.has_mk ?a_law_pick ?l_law_pick ?c_law_pick ?k_law_pick) (E1.has_mk ?a_law_thing ?l_law_thing ?c_law_thing ?k_law_thing) (E1.has_mk ?a_law_classes ?l_law_classes ?c_law_classes ?k_law_classes) (E1.has_mk ?a_law_right ?l_law_right ?c_law_right ?k_law_right) (E1.has_mk ?a_law ?l_law ?c_law ?k_law) ?z_list ?z_sum ?z_len ?z_range ?z_tuple ?z_repr ?z_isinstance ?z_enumerate ?z_ValueError ?z_KeyError ?z_super ?aS ?aC0 ?aC1 ?aC2 ?aC3 ?aC4 ?aC5 ?aC6 ?aC7 ?aC8 ?hn ?ht ?hg0 ?hk0 ?hs0 ?hd0 ?ha0 ?hm0 ?hg1 ?hk1 ?hs1 ?hd1 ?ha1 ?hm1 ?hg2 ?hk2 ?hs2 ?hd2 ?ha2 ?hm2 ?hg3 ?hk3 ?hs3 ?hd3 ?ha3 ?hm3 ?hg4 ?hk4 ?hs4 ?hd4 ?ha4 ?hm4 ?hg5 ?hk5 ?hs5 ?hd5 ?ha5 ?hm5 ?hg6 ?hk6 ?hs6 ?hd6 ?ha6 ?hm6 ?hg7 ?hk7 ?hs7 ?hd7 ?ha7 ?hm7 ?hg8 ?hk8 ?hs8 ?hd8 ?ha8 ?hm8 ?t0_0 ?t0_1 ?t0_2 ?t0_3 ?t0_4 ?t0_5 ?t0_6 ?t0_7 ?t0_8 ?tS0 ?tV0 ?tK0 ?t1_0 ?t1_1 ?t1_2 ?t1_3 ?t1_4 ?t1_5 ?t1_6 ?t1_7 ?t1_8 ?tS1 ?tV1 ?tK1 ?t2_0 ?t2_1 ?t2_2 ?t2_3 ?t2_4 ?t2_5 ?t2_6 ?t2_7 ?t2_8 ?tS2 ?tV2 ?tK2 ?t3_0 ?t3_1 ?t3_2 ?t3_3 ?t3_4 ?t3_5 ?t3_6 ?t3_7 ?t3_8 ?tS3 ?tV3 ?tK3 ?t4_0 ?t4_1 ?t4_2 ?t4_3 ?t4_4 ?t4_5 ?t4_6 ?t4_7 ?t4_8 ?tS4 ?tV4 ?tK4 ?t5_0 ?t5_1 ?t5_2 ?t5_3 ?t5_4 ?t5_5 ?t5_6 ?t5_7 ?t5_8 ?tS5 ?tV5 ?tK5 ?t6_0 ?t6_1 ?t6_2 ?t6_3 ?t6_4 ?t6_5 ?t6_6 ?t6_7 ?t6_8 ?tS6 ?tV6 ?tK6 ?t7_0 ?t7_1 ?t7_2 ?t7_3 ?t7_4 ?t7_5 ?t7_6 ?t7_7 ?t7_8 ?tS7 ?tV7 ?tK7 ?t8_0 ?t8_1 ?t8_2 ?t8_3 ?t8_4 ?t8_5 ?t8_6 ?t8_7 ?t8_8 ?tS8 ?tV8 ?tK8 ?pl ?to ?li_0 ?hb_0 ?sa_0 ?tC_0 ?kC_0 ?al_0 ?iV_0 ?iC_0 ?fi_0 ?ty_0 ?lk_0 ?ce_0 ?co_0 ?v2_0 ?fl_0 ?cd_0 ?hf_0 ?li_1 ?hb_1 ?sa_1 ?tC_1 ?kC_1 ?al_1 ?iV_1 ?iC_1 ?fi_1 ?ty_1 ?lk_1 ?ce_1 ?co_1 ?v2_1 ?fl_1 ?cd_1 ?hf_1 ?li_2 ?hb_2 ?sa_2 ?tC_2 ?kC_2 ?al_2 ?iV_2 ?iC_2 ?fi_2 ?ty_2 ?lk_2 ?ce_2 ?co_2 ?v2_2 ?fl_2 ?cd_2 ?hf_2 ?li_3 ?hb_3 ?sa_3 ?tC_3 ?kC_3 ?al_3 ?iV_3 ?iC_3 ?fi_3 ?ty_3 ?lk_3 ?ce_3 ?co_3 ?v2_3 ?fl_3 ?cd_3 ?hf_3 ?li_5 ?hb_5 ?sa_5 ?tC_5 ?kC_5 ?al_5 ?iV_5 ?iC_5 ?fi_5 ?ty_5 ?lk_5 ?ce_5 ?co_5 ?v2_5 ?fl_5 ?cd_5 ?hf_5 ?li_8 ?hb_8 ?sa_8 ?tC_8 ?kC_8 ?al_8 ?iV_8 ?iC_8 ?fi_8 ?ty_8 ?lk_8 ?ce_8 ?co_8 ?v2_8 ?fl_8 ?cd_8 ?hf_8 ?ex4 ?kC_4 ?ex6 ?kC_6 ?ex7 ?kC_7
    (case a_law_deck => k_is)
    (case l_law_deck => k_is)
    (case c_law_deck => k_is)
    (case k_law_deck => k_is)
    (case a_law_draw => k_is)
    (case l_law_draw => k_is)
    (case c_law_draw => k_is)
    (case k_law_draw => k_is)
    (case a_law_pick => k_is)
    (case l_law_pick => k_is)
    (case c_law_pick => k_is)
    (case k_law_pick => k_is)
    (case a_law_thing => k_is)
    (case l_law_thing => k_is)
    (case c_law_thing => k_is)
    (case k_law_thing => k_is)
    (case a_law_classes => k_is)
    (case l_law_classes => k_is)
    (case c_law_classes => k_is)
    (case k_law_classes => k_is)
    (case a_law_right => k_is)
    (case l_law_right => k_is)
    (case c_law_right => k_is)
    (case k_law_right => k_is)
    (case a_law => k_is)
    (case l_law => k_is)
    (case c_law => k_is)
    (case k_law => k_is)
    (case z_list => k_is)
    (case z_sum => k_is)
    (case z_len => k_is)
    (case z_range => k_is)
    (case z_tuple => k_is)
    (case z_repr => k_is)
    (case z_isinstance => k_is)
    (case z_enumerate => k_is)
    (case z_ValueError => k_is)
    (case z_KeyError => k_is)
    (case z_super => k_is)
    (case aS => k_is)
    (case aC0 => k_is)
    (case aC1 => k_is)
    (case aC2 => k_is)
    (case aC3 => k_is)
    (case aC4 => k_is)
    (case aC5 => k_is)
    (case aC6 => k_is)
    (case aC7 => k_is)
    (case aC8 => k_is)
    (case hn => k_is)
    (case ht => k_is)
    (case hg0 => k_is)
    (case hk0 => k_is)
    (case hs0 => k_is)
    (case hd0 => k_is)
    (case ha0 => k_is)
    (case hm0 => k_is)
    (case hg1 => k_is)
    (case hk1 => k_is)
    (case hs1 => k_is)
    (case hd1 => k_is)
    (case ha1 => k_is)
    (case hm1 => k_is)
    (case hg2 => k_is)
    (case hk2 => k_is)
    (case hs2 => k_is)
    (case hd2 => k_is)
    (case ha2 => k_is)
    (case hm2 => k_is)
    (case hg3 => k_is)
    (case hk3 => k_is)
    (case hs3 => k_is)
    (case hd3 => k_is)
    (case ha3 => k_is)
    (case hm3 => k_is)
    (case hg4 => k_is)
    (case hk4 => k_is)
    (case hs4 => k_is)
    (case hd4 => k_is)
    (case ha4 => k_is)
    (case hm4 => k_is)
    (case hg5 => k_is)
    (case hk5 => k_is)
    (case hs5 => k_is)
    (case hd5 => k_is)
    (case ha5 => k_is)
    (case hm5 => k_is)
    (case hg6 => k_is)
    (case hk6 => k_is)
    (case hs6 => k_is)
    (case hd6 => k_is)
    (case ha6 => k_is)
    (case hm6 => k_is)
    (case hg7 => k_is)
    (case hk7 => k_is)
    (case hs7 => k_is)
    (case hd7 => k_is)
    (case ha7 => k_is)
    (case hm7 => k_is)
    (case hg8 => k_is)
    (case hk8 => k_is)
    (case hs8 => k_is)
    (case hd8 => k_is)
    (case ha8 => k_is)
    (case hm8 => k_is)
    (case t0_0 => kit_is)
    (case t0_1 => kit_is)
    (case t0_2 => kit_is)
    (case t0_3 => kit_is)
    (case t0_4 => kit_is)
    (case t0_5 => kit_is)
    (case t0_6 => kit_is)
    (case t0_7 => kit_is)
    (case t0_8 => kit_is)
    (case tS0 => kit_is)
    (case tV0 => kit_is)
    (case tK0 => kit_is)
    (case t1_0 => kit_is)
    (case t1_1 => kit_is)
    (case t1_2 => kit_is)
    (case t1_3 => kit_is)
    (case t1_4 => kit_is)
    (case t1_5 => kit_is)
    (case t1_6 => kit_is)
    (case t1_7 => kit_is)
    (case t1_8 => kit_is)
    (case tS1 => kit_is)
    (case tV1 => kit_is)
    (case tK1 => kit_is)
    (case t2_0 => kit_is)
    (case t2_1 => kit_is)
    (case t2_2 => kit_is)
    (case t2_3 => kit_is)
    (case t2_4 => kit_is)
    (case t2_5 => kit_is)
    (case t2_6 => kit_is)
    (case t2_7 => kit_is)
    (case t2_8 => kit_is)
    (case tS2 => kit_is)
    (case tV2 => kit_is)
    (case tK2 => kit_is)
    (case t3_0 => kit_is)
    (case t3_1 => kit_is)
    (case t3_2 => kit_is)
    (case t3_3 => kit_is)
    (case t3_4 => kit_is)
    (case t3_5 => kit_is)
    (case t3_6 => kit_is)
    (case t3_7 => kit_is)
    (case t3_8 => kit_is)
    (case tS3 => kit_is)
    (case tV3 => kit_is)
    (case tK3 => kit_is)
    (case t4_0 => kit_is)
    (case t4_1 => kit_is)
    (case t4_2 => kit_is)
    (case t4_3 => kit_is)
    (case t4_4 => kit_is)
    (case t4_5 => kit_is)
    (case t4_6 => kit_is)
    (case t4_7 => kit_is)
    (case t4_8 => kit_is)
    (case tS4 => kit_is)
    (case tV4 => kit_is)
    (case tK4 => kit_is)
    (case t5_0 => kit_is)
    (case t5_1 => kit_is)
    (case t5_2 => kit_is)
    (case t5_3 => kit_is)
    (case t5_4 => kit_is)
    (case t5_5 => kit_is)
    (case t5_6 => kit_is)
    (case t5_7 => kit_is)
    (case t5_8 => kit_is)
    (case tS5 => kit_is)
    (case tV5 => kit_is)
    (case tK5 => kit_is)
    (case t6_0 => kit_is)
    (case t6_1 => kit_is)
    (case t6_2 => kit_is)
    (case t6_3 => kit_is)
    (case t6_4 => kit_is)
    (case t6_5 => kit_is)
    (case t6_6 => kit_is)
    (case t6_7 => kit_is)
    (case t6_8 => kit_is)
    (case tS6 => kit_is)
    (case tV6 => kit_is)
    (case tK6 => kit_is)
    (case t7_0 => kit_is)
    (case t7_1 => kit_is)
    (case t7_2 => kit_is)
    (case t7_3 => kit_is)
    (case t7_4 => kit_is)
    (case t7_5 => kit_is)
    (case t7_6 => kit_is)
    (case t7_7 => kit_is)
    (case t7_8 => kit_is)
    (case tS7 => kit_is)
    (case tV7 => kit_is)
    (case tK7 => kit_is)
    (case t8_0 => kit_is)
    (case t8_1 => kit_is)
    (case t8_2 => kit_is)
    (case t8_3 => kit_is)
    (case t8_4 => kit_is)
    (case t8_5 => kit_is)
    (case t8_6 => kit_is)
    (case t8_7 => kit_is)
    (case t8_8 => kit_is)
    (case tS8 => kit_is)
    (case tV8 => kit_is)
    (case tK8 => kit_is)
    (case pl => k_is)
    (case to => rfl)
    (case li_0 => k_is)
    (case hb_0 => rfl)
    (case sa_0 => k_is)
    (case tC_0 => k_is)
    (case kC_0 => k_is)
    (case al_0 => ks_is)
    (case iV_0 => k_is)
    (case iC_0 => k_is)
    (case fi_0 => k_is)
    (case ty_0 => k_is)
    (case lk_0 => k_is)
    (case ce_0 => k_is)
    (case co_0 => k_is)
    (case v2_0 => rfl)
    (case fl_0 => rfl)
    (case cd_0 => k_is)
    (case hf_0 => k_is)
    (case li_1 => k_is)
    (case hb_1 => rfl)
    (case sa_1 => k_is)
    (case tC_1 => k_is)
    (case kC_1 => k_is)
    (case al_1 => ks_is)
    (case iV_1 => k_is)
    (case iC_1 => k_is)
    (case fi_1 => k_is)
    (case ty_1 => k_is)
    (case lk_1 => k_is)
    (case ce_1 => k_is)
    (case co_1 => k_is)
    (case v2_1 => rfl)
    (case fl_1 => rfl)
    (case cd_1 => k_is)
    (case hf_1 => k_is)
    (case li_2 => k_is)
    (case hb_2 => rfl)
    (case sa_2 => k_is)
    (case tC_2 => k_is)
    (case kC_2 => k_is)
    (case al_2 => ks_is)
    (case iV_2 => k_is)
    (case iC_2 => k_is)
    (case fi_2 => k_is)
    (case ty_2 => k_is)
    (case lk_2 => k_is)
    (case ce_2 => k_is)
    (case co_2 => k_is)
    (case v2_2 => rfl)
    (case fl_2 => rfl)
    (case cd_2 => k_is)
    (case hf_2 => k_is)
    (case li_3 => k_is)
    (case hb_3 => rfl)
    (case sa_3 => k_is)
    (case tC_3 => k_is)
    (case kC_3 => k_is)
    (case al_3 => ks_is)
    (case iV_3 => k_is)
    (case iC_3 => k_is)
    (case fi_3 => k_is)
    (case ty_3 => k_is)
    (case lk_3 => k_is)
    (case ce_3 => k_is)
    (case co_3 => k_is)
    (case v2_3 => rfl)
    (case fl_3 => rfl)
    (case cd_3 => k_is)
    (case hf_3 => k_is)
    (case li_5 => k_is)
    (case hb_5 => rfl)
    (case sa_5 => k_is)
    (case tC_5 => k_is)
    (case kC_5 => k_is)
    (case al_5 => ks_is)
    (case iV_5 => k_is)
    (case iC_5 => k_is)
    (case fi_5 => k_is)
    (case ty_5 => k_is)
    (case lk_5 => k_is)
    (case ce_5 => k_is)
    (case co_5 => k_is)
    (case v2_5 => rfl)
    (case fl_5 => rfl)
    (case cd_5 => k_is)
    (case hf_5 => k_is)
    (case li_8 => k_is)
    (case hb_8 => rfl)
    (case sa_8 => k_is)
    (case tC_8 => k_is)
    (case kC_8 => k_is)
    (case al_8 => ks_is)
    (case iV_8 => k_is)
    (case iC_8 => k_is)
    (case fi_8 => k_is)
    (case ty_8 => k_is)
    (case lk_8 => k_is)
    (case ce_8 => k_is)
    (case co_8 => k_is)
    (case v2_8 => rfl)
    (case fl_8 => rfl)
    (case cd_8 => k_is)
    (case hf_8 => k_is)
    (case ex4 => k_exc)
    (case kC_4 => k_is)
    (case ex6 => k_exc)
    (case kC_6 => k_is)
    (case ex7 => k_exc)
    (case kC_7 => k_is)
