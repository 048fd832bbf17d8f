import PyProof.Rows.All
import Wide.All
import OpenK.AllK
import Wide.FinOn
import HandS.ForMost
import PyProof.ReprRoads
import HandS.Wide
import HandS.Style
import HandS.Evl
import HandS.Conv
import HandS.Replace
import HandS.Small
import PyProof.AutoSeq1
import HandS.Zip
import HandS.More
import HandS.IsInst
import PyProof.P3In
import HandS.NoneIn
import HandS.WrittenGet
import HandS.Walk
import HandS.Text
import HandS.Flow
import PyProof.EqAt
import HandS.TupAny
import PySem.Challenge.RW_lookdone_k04_what_is_an_expression
set_option Elab.async false
set_option linter.all false
set_option maxRecDepth 100000
set_option maxHeartbeats 4000000
namespace GR
open PySem PySem.Spec PyProof.Rows L2

/-! ### data that stands in the abstract heap -/
section
variable {X : Cx} {pins : List (Addr × Obj)} {σ : L2.St} {H : Hp} {s : Shared}
mutual
theorem nodict {K : PySem.W.Frag} : ∀ {v : V} {d : PyData}, Dp K H v d → d.hasDict = false
  | _, _, .non => by simp only [PyData.hasDict]
  | _, _, .bl b => by simp only [PyData.hasDict]
  | _, _, .int i => by simp only [PyData.hasDict]
  | _, _, .str x => by simp only [PyData.hasDict]
  | _, _, .lst _ q => by simp only [PyData.hasDict, nodicts q]
  | _, _, .tup _ q => by simp only [PyData.hasDict, nodicts q]
theorem nodicts {K : PySem.W.Frag} : ∀ {vs : List V} {ds : List PyData}, DpAll K H vs ds → PyData.hasDictAll ds = false
  | _, _, .nil => by simp only [PyData.hasDictAll]
  | _, _, .cons h q => by simp only [PyData.hasDictAll, nodict h, nodicts q, Bool.or_self]
end

/-- repr of a list or a tuple of data -/
def rRepr (X : Cx) : List V → Hp → VK → Prop := fun xs H Q => ∃ (a : Addr) (d : PyData), xs = [.ref a] ∧ Dp X.K H (.ref a) d ∧ d.showable = true ∧ d.depth ≤ 60 ∧ d.shown.length ≤ sizeLine ∧ Q (.str d.shown) H
theorem call_reprD {k : Nat} (hg : X.A.guards = some []) (hr : Room k X.A) : CallR X (.builtin "repr") (rRepr X) := by
  intro pins s σ H xs us Q I r h
  obtain ⟨a, d, rfl, hd, hs, hdep, hz, q⟩ := h
  obtain ⟨u, rfl, rv⟩ := vals1 r
  obtain rfl : u = Value.ref a := rv
  obtain ⟨as, hR⟩ := Dp.reads I d _ _ hd rfl
  have hu := hr.units
  exact repr_of_reads' hR hs (PyData.noDict_hsm (nodict hd)) hg (by omega) (fun _ _ e => e) (fun h' u tk hk => ⟨.str d.shown, H, I.kept hk, ⟨_, rfl⟩, q⟩) hz
end

/-! ### defs that show things: a promise kept wherever nothing is being shown -/
structure FnG (P : Program) (w : World) (K : PySem.W.Frag) (mg : Str → Option Value) (base : Heap) (CX : CXT) (k : Nat) (f : Addr) (fd : FuncData) (ps : List Str) (sp : Sp) : Prop where
  size : ∀ vs H Q E, sp vs H Q E → vs.length = ps.length
  go : ∀ (A : Around) (outer : List Env) (s : Shared) (H : Hp) (args : Args) (us : List Value) (vs : List V) (Q : VK) (E : XK),
    A.guards = some [] → Room k A → Env0 P w K mg base A outer s H → BindsTo s fd args (ps.zip us) → Vals vs us → sp vs H Q E →
    codeAny (model P w) A (.call (.ref f) args) (CR CX outer P w H s Q E) s

section
variable {P : Program} {w : World} {K : PySem.W.Frag} {mg : Str → Option Value} {base : Heap}
theorem FnG.of {CX : CXT} {k : Nat} {f : Addr} {fd : FuncData} {ps : List Str} {sp : Sp} (F : FnOk P w K mg base CX k f fd ps sp) : FnG P w K mg base CX k f fd ps sp :=
  ⟨F.len, fun A outer s H args us vs Q E _ => F.run A outer s H args us vs Q E⟩

/-- a def by its body, where nothing is being shown -/
theorem ok_g {x qual : Str} {st : Stmt} {f : Addr} {fd : FuncData} {N ps : List Str} {k : Nat} {sp : Sp} (F : Fun K x qual st f fd) (S : FnScope N ps (defScope st)) (size : ∀ vs H Q E, sp vs H Q E → vs.length = ps.length)
    (body : ∀ (cdv : Value) (A : Around) (outer : List Env) (s : Shared) (H : Hp) (vs : List V) (Q : VK) (E : XK), A.guards = some [] → Room k (A.deeper (envOfC qual (defScope st) s.heap.objs.size f cdv)) → sp vs H Q E →
      ∃ t, PSs (cxOf CX0 P w K mg base N qual (defScope st) f cdv A outer s H E).nox (defBody st) t ∧ t { nx := fun _ H' => Q .non H', rt := Q } (start N vs) H) : FnG P w K mg base CX0 (k + 1) f fd ps sp := by
  obtain ⟨oc, od, kV, doc, pm, an, cdv, ct, osl, rfl, lk, hcd⟩ := F.ex
  constructor
  · exact size
  intro A outer s H args us vs Q E gA room e0 bnd rel hsp
  have inK : K.In s.heap := e0.mod.kin.keeps (fun b o q => (e0.bs b o q).1)
  have nolim := e0.mod.nolimit.keeps (fun b o q => (e0.bs b o q).1)
  obtain ⟨t, ht, hq⟩ := body cdv A outer s H vs Q E gA (room.deeper _) hsp
  refine codeAny_call_function room.depth (inK f _ lk) rfl S.co S.gen rfl (PySem.W.codeRec_of inK hcd) (bnd _ _ _ _ ?_)
  refine wpAny_newFunctionEnv_cells S.kind ?par (fun env he s1 inC => ?run)
  case par =>
    rintro ⟨n, v⟩ hy
    rcases S.par n (List.of_mem_zip hy).1 with q | q
    · exact Or.inl q
    · exact Or.inr ⟨q, PySem.W.cellsFrom_some _ _ _ (Or.inl q)⟩
  case run =>
    cases he
    refine And.intro (nolim.keeps inC.toInCall.keep) (codeAny_func ?_)
    have I0 := inv_start (CX := CX0) (P := P) (w := w) (K := K) (mg := mg) (base := base) (E := E) S room.hd e0 (size _ _ _ _ hsp) rel inC
    refine wpAny_mono (ht.nox.run [] s1 (start N vs) H _ I0 hq) ?_ (fun _ _ z => z)
    rintro fl s' hs
    have close : ∀ (σ' : L2.St) (H' : Hp) (v : V) (u : Value), Inv (cxOf CX0 P w K mg base N qual (defScope st) f cdv A outer s H E) [] σ' H' s' → RelV v u → Q v H' → CE outer P w H s Q u s' := by
      intro σ' H' v u J rv q
      exact ⟨v, H', J.os, J.bare, J.base, J.hok, rv, q⟩
    cases fl
    case ret u => obtain ⟨v, σ', H', J, rv, q⟩ := hs; exact close _ _ _ _ J rv q
    case next => obtain ⟨σ', H', J, q⟩ := hs; exact close _ _ V.non Value.none J rfl q
    case brk => obtain ⟨_, _, _, q⟩ := hs; exact q.elim
    case cont => obtain ⟨_, _, _, q⟩ := hs; exact q.elim
end

section
variable {X : Cx} {CX : CXT} {k : Nat} {f : Addr} {fd : FuncData} {ps : List Str} {sp : Sp} {E : XK} {x : Str} {p pos : Pos} {e : Expr} {es : List Expr} {t : TA}
/-- its call -/
theorem pe_callG (F : FnG X.prog X.w X.K X.mg X.base CX k f fd ps sp) (hg : X.A.guards = some []) (hr : Room k X.A) (gx : Gl X x) (hm : X.mg x = some (.ref f)) (hk : PySem.W.keepIn X.K (.ref f) = true) (hb : Binds X.K fd ps []) (hx : Passes CX X E)
    (ha : PA X (e :: es) t) (hdb : (x == ("__debug__" : Str)) = false := by decide) (he : starEach (e :: es) X.env = (false, eval e X.env) :: starEach es X.env := by rfl) (hpl : (backTo pos (starEach es X.env)).any (·.1) = false := by rfl) :
    PE X (.Call (.Name x p) (e :: es) [] pos) (tCall sp [] E t) := by
  constructor
  intro pins s σ H Q I h
  refine wpAny_Call_Name_kw (ld_glob I gx hm (PySem.W.callWith_K (h₀ := X.base) I.ok.mod.kin hk (thn (ha.run pos pins s σ H _ I h) ?_) he hpl) hdb)
  rintro us s1 ⟨vs, H1, I1, r, q⟩
  refine ⟨I1.kIn, ?_⟩
  have q' : sp vs H1 Q E := by simpa using q
  have hl : us.length = ps.length := by
    rw [← r.length]
    exact F.size _ _ _ _ q'
  have hB := hb s1 us I1.kIn (by simpa using hl)
  rw [List.append_nil] at hB
  refine wpAny_call (codeAny_mono (F.go X.A X.stack s1 H1 ⟨us, []⟩ us vs Q E hg hr I1.env0 hB r q') ?_)
  rintro (er | fl) s2 hq
  · exact hx pins σ H1 s1 er s2 I1 hq
  · cases fl
    case ret u => exact I1.after hq
    case next => exact hq.elim
    case brk => exact hq.elim
    case cont => exact hq.elim
end

/-- a comprehension without a test -/
theorem yes_then {σ : L2.St} {H : Hp} {A B : Hp → Prop} (h : A H) : tYes σ H (fun b H3 => if b = true then A H3 else B H3) := by
  show (if true = true then A H else B H)
  rw [if_pos rfl]
  exact h

/-! ### the law's own call -/
/-- the abstract heap in which the script alone is tracked, as it stands -/
def scriptHp (a : Addr) (o : Obj) (xs : List V) : Hp := fun b => if b = a then some (.frz o (.lst xs)) else none
theorem scriptHp_at {a : Addr} {o : Obj} {xs : List V} : scriptHp a o xs a = some (.frz o (.lst xs)) := if_pos rfl
theorem scriptHp_some {a b : Addr} {o : Obj} {xs : List V} {u : HO} (h : scriptHp a o xs b = some u) : b = a ∧ u = .frz o (.lst xs) := by
  unfold scriptHp at h
  split at h
  · rename_i e
    exact ⟨e, (Option.some.inj h).symm⟩
  · cases h

theorem ns_hid {h : Heap} {H : Hp} {b : Addr} {m : Str → Option Value} (q : h.Ns b m) (hb : H b = none) : (hidT h H).Ns b m := by
  obtain ⟨o, es, ep, e, r⟩ := q
  exact ⟨o, es, ep, hidT_get e hb, r⟩

theorem law_callG {P : Program} {w : World} {K : PySem.W.Frag} {mg mb : Str → Option Value} {k : Nat} {fa a : Addr} {fd : FuncData} {x : Str} {sp : Sp} {s₁ : Shared} {vs : List Value} {ns : List Int}
    (KX : K.In s₁.heap) (hns : s₁.heap.Ns mainGlobals mg) (hb : s₁.heap.Ns builtinsNs mb) (hbb : ∀ x : Str, x ≠ "__name__" → mb x = bootBuiltins x) (hlim : s₁.heap.NoLimit) (hg : s₁.gens = #[])
    (ha : s₁.heap.get? a = some { cls := .type "list", data := .seq vs.toArray }) (hi : IntsAre vs ns) (hl : ns.length ≤ sizeLine) (hr : Room k callerA)
    (F : ∀ base : Heap, K.In base → base.Ns mainGlobals mg → FnG P w K mg base CX0 k fa fd [x] sp) (hbind : ∀ (s : Shared) (u : Value), BindsTo s fd ⟨[u], []⟩ [(x, u)])
    (hsp : ∀ H : Hp, Only H → SqL K H a (ns.map V.int) → sp [.ref a] H (fun v _ => v = .bl true) fun _ _ _ => False) :
    codeAny (model P w) callerA (.call (.ref fa) ⟨[.ref a], []⟩) (fun r s' => r = .ok (.ret (.bool true)) ∧ OldK s₁.heap s'.heap ∧ s'.os = s₁.os ∧ AllBare s'.gens) s₁ := by
  have main : ∀ H : Hp, Only H → SqL K H a (ns.map V.int) → HOk P w H s₁.heap → (∀ b u, H b = some u → b = a ∧ K.lookup a = none) →
      codeAny (model P w) callerA (.call (.ref fa) ⟨[.ref a], []⟩) (fun r s' => r = .ok (.ret (.bool true)) ∧ OldK s₁.heap s'.heap ∧ s'.os = s₁.os ∧ AllBare s'.gens) s₁ := by
    intro H only seq ok one
    have free : ∀ b, (∀ o n, s₁.heap.get? b = some o → o.data ≠ .seq vs.toArray n) → H b = none := by
      intro b nb
      cases q : H b with
      | none => rfl
      | some u =>
        obtain ⟨rfl, _⟩ := one b u q
        exact absurd rfl (nb _ _ ha)
    have freeD : ∀ {b : Addr} {m : Str → Option Value}, s₁.heap.Ns b m → H b = none := by
      rintro b m ⟨o, es, ep, e, d, _⟩
      refine free b fun o' n e' d' => ?_
      rw [e] at e'
      cases e'
      rw [d] at d'
      cases d'
    have inB : K.In (hidT s₁.heap H) := by
      intro b o e
      refine hidT_get (KX b o e) ?_
      cases q : H b with
      | none => rfl
      | some u =>
        obtain ⟨rfl, z⟩ := one b u q
        rw [z] at e
        cases e
    have gB := ns_hid hns (freeD hns)
    have md : Mod K mg (hidT s₁.heap H) := by
      refine ⟨inB, gB, ⟨mb, ns_hid hb (freeD hb), hbb⟩, ?_⟩
      obtain ⟨mc, h1, h2⟩ := hlim
      exact ⟨mc, ns_hid h1 (freeD h1), h2⟩
    have start0 : Env0 P w K mg (hidT s₁.heap H) callerA [] s₁ H := by
      constructor
      · rfl
      · exact md
      · exact fun b o e => of_hidT e
      · exact Nat.le_of_eq (hidT_size _ _)
      · trivial
      · intro b hb
        exact absurd (show b ∈ ([] : List Addr) from hb) (by simp)
      · exact ok
      · exact .of_eq hg
    have run := (F _ inB gB).go callerA [] s₁ H ⟨[.ref a], []⟩ [.ref a] [.ref a] (fun v _ => v = .bl true) (fun _ _ _ => False) rfl hr start0 (hbind s₁ (.ref a)) (.cons rfl .nil) (hsp H only seq)
    refine codeAny_mono run ?_
    rintro (er | fl) s' h
    · exact False.elim h
    cases fl with
    | next => exact False.elim h
    | brk => exact False.elim h
    | cont => exact False.elim h
    | ret u =>
      obtain ⟨v, H', os, bare, un, ok', rv, q⟩ := h
      cases (show v = .bl true from q)
      cases (show u = Value.bool true from rv)
      refine ⟨rfl, OldK.of_keep ?_, os, bare⟩
      intro b o e
      cases z : H b with
      | none => exact un.keep b o e z (fun m => absurd (show b ∈ ([] : List Addr) from m) (by simp)) (by simp)
      | some u =>
        rcases only b with z' | ⟨ob, xs, z'⟩
        · rw [z] at z'
          cases z'
        · have e1 := (ok b _ z').1
          have e2 := (ok' b _ (un.frzs b ob _ z')).1
          rw [e] at e1
          rw [e1]
          exact e2
  have rv := vals_ints hi
  cases hk : K.lookup a with
  | some o =>
    have e := KX a o hk
    rw [ha] at e
    cases e
    refine main (fun _ => none) (fun _ => .inl rfl) (.inr ⟨_, vs.toArray, _, hk, rfl, rfl, rfl, ?_, by simpa using rv⟩) ?_ ?_
    · rw [List.size_toArray, hi.length]
      exact hl
    · intro b u z
      cases z
    · intro b u z
      cases z
  | none =>
    refine main (scriptHp a { cls := .type "list", data := .seq vs.toArray } (ns.map V.int)) ?_ (.inl (.inr ⟨_, scriptHp_at⟩)) ?_ ?_
    · intro b
      cases z : scriptHp a { cls := .type "list", data := .seq vs.toArray } (ns.map V.int) b with
      | none => exact .inl rfl
      | some u => exact .inr ⟨_, _, by rw [(scriptHp_some z).2]⟩
    · intro b u z
      obtain ⟨rfl, rfl⟩ := scriptHp_some z
      refine ⟨ha, ?_, vs, _, rv, ha⟩
      rw [List.length_map]
      exact hl
    · intro b u z
      exact ⟨(scriptHp_some z).1, hk⟩

theorem walk_g {l : PySem.W.OpenLaw} {n k : Nat} {q : Program} {loose : List Str} {XP : (Str → Option Value) → Heap → Prop} {YP : World → Heap → Prop} {d : DefRec} {K : Params → PySem.W.Frag} {sp : PySem.W.Frag → Sp} {x : Str}
    (hn : l.most = some n) (hn2 : n ≤ sizeLine) (hdf : d.params.defaults = []) (hr : Room k callerA)
    (hY : ∀ (w : World) (h : Heap), YP w h → (K w.params).In h)
    (F : ∀ (w : World) (mg : Str → Option Value) (fa : Addr) (h : Heap), (K w.params).In h → h.Ns mainGlobals mg → mg d.name = some (.ref fa) →
      ∃ fd : FuncData, (∀ (s : Shared) (u : Value), BindsTo s fd ⟨[u], []⟩ [(x, u)]) ∧
        ∀ base : Heap, (K w.params).In base → base.Ns mainGlobals mg → FnG l.prog w (K w.params) mg base CX0 k fa fd [x] (sp (K w.params)))
    (hsp : ∀ (K : PySem.W.Frag) (H : Hp) (a : Addr) (ns : List Int), ns.length ≤ n → Only H → SqL K H a (ns.map V.int) → sp K [.ref a] H (fun v _ => v = .bl true) fun _ _ _ => False) :
    PySem.W.WalkO q loose XP YP l.row.toRowW d [] (fun f vs => PySem.call f vs) := by
  apply Att.attach_call hn hdf
  intro w s₀ s₁ mg mb fa o pm cd doc a vs ns G Y ho hd hcd hmg hobj hints hlen hg
  obtain ⟨fd, bnd, keeps⟩ := F w mg fa _ (hY w _ Y) G.T.g hmg
  exact law_callG (hY w _ Y) G.T.g G.T.b G.T.builtins G.T.nolimit hg hobj hints (Nat.le_trans hlen hn2) hr keeps bnd (fun H => hsp _ H a ns hlen)
end GR

namespace L4
open PySem PySem.Spec PyProof.Rows L2 GR
abbrev LIM : Int := 1000000000000000000
def topS (i : Nat) : Stmt := PySem.Challenge.pw_lookdone_k04_what_is_an_expression.main.body.getD i (.Pass ⟨0, 0, 0, 0⟩)
theorem same_upd {H : Hp} {p : Addr} {o : HO} (h : H p = none) : Same H (upd H p o) := fun b x e => by
  rw [upd_ne (ne_of_none e h)]
  exact e
theorem le2 : 2 ≤ sizeLine := by decide
theorem at0 {xs : List V} {v : V} : atI (v :: xs) 0 = some v := atI_nat (j := 0) rfl
theorem at1 {xs : List V} {v u : V} : atI (u :: v :: xs) 1 = some v := atI_nat (j := 1) rfl
theorem at2 {xs : List V} {v u t : V} : atI (t :: u :: v :: xs) 2 = some v := atI_nat (j := 2) rfl
theorem at3 {xs : List V} {v u t s : V} : atI (s :: t :: u :: v :: xs) 3 = some v := atI_nat (j := 3) rfl
/-! ### the law's deck -/
/-- the deck at d: the cells at c, a number, the count of draws, at most N -/
def Deck (H : Hp) (d c : Addr) (N : Int) : Prop := ∃ (cells : List Int) (m n : Int), H d = some (.lst [.ref c, .int m, .int n]) ∧ H c = some (.lst (cells.map V.int)) ∧ cells.length ≤ 63 ∧ 0 ≤ n ∧ n ≤ N
theorem Deck.ne {H : Hp} {d c : Addr} {N : Int} (h : Deck H d c N) : c ≠ d := by
  obtain ⟨cells, m, n, h1, h2, _⟩ := h
  rintro rfl
  rw [h1] at h2
  have e := HO.lst.inj (Option.some.inj h2)
  cases cells with
  | nil => cases e
  | cons x r =>
    have := (List.cons.inj e).1
    cases this
theorem Deck.mono {H : Hp} {d c : Addr} {N M : Int} (h : Deck H d c N) (hm : N ≤ M) : Deck H d c M := by
  obtain ⟨cells, m, n, h1, h2, h3, h4, h5⟩ := h
  exact ⟨cells, m, n, h1, h2, h3, h4, Int.le_trans h5 hm⟩
/-- all but the deck is as it was -/
def Keep (d c : Addr) (H H' : Hp) : Prop := ∀ b o, b ≠ d → b ≠ c → H b = some o → H' b = some o
theorem Keep.refl {d c : Addr} {H : Hp} : Keep d c H H := fun _ _ _ _ e => e
theorem Keep.trans {d c : Addr} {H H1 H2 : Hp} (a : Keep d c H H1) (b : Keep d c H1 H2) : Keep d c H H2 := fun x o h1 h2 e => b x o h1 h2 (a x o h1 h2 e)
theorem Keep.of {d c : Addr} {H H' : Hp} (s : Same H H') : Keep d c H H' := fun b o _ _ e => s b o e
theorem Deck.same {H H' : Hp} {d c : Addr} {N : Int} (h : Deck H d c N) (s : Same H H') : Deck H' d c N := by
  obtain ⟨cells, m, n, h1, h2, h3⟩ := h
  exact ⟨cells, m, n, s _ _ h1, s _ _ h2, h3⟩
/-- a tuple, a list that is not the deck's stays -/
theorem Keep.tup {d c p : Addr} {H H' : Hp} {N : Int} {xs : List V} (s : Keep d c H H') (D : Deck H d c N) (h : H p = some (.tup xs)) : H' p = some (.tup xs) := by
  obtain ⟨cells, m, n, h1, h2, _⟩ := D
  exact s p _ (ne_of h h1 (fun z => by cases z)) (ne_of h h2 (fun z => by cases z)) h
theorem dp_ints {K : PySem.W.Frag} {H : Hp} : ∀ ns : List Int, DpAll K H (ns.map V.int) (ns.map PyData.int)
  | [] => .nil
  | n :: ns => .cons (.int n) (dp_ints ns)
theorem lay_ints : ∀ ns : List Int, PyData.canLayAll0 (ns.map PyData.int) = true
  | [] => by simp only [List.map_nil, PyData.canLayAll0]
  | n :: ns => by simp only [List.map_cons, PyData.canLayAll0, PyData.canLay0, lay_ints ns, Bool.and_self]
theorem depth_ints : ∀ ns : List Int, PyData.depthAll (ns.map PyData.int) ≤ 1
  | [] => by simp only [List.map_nil, PyData.depthAll]; omega
  | n :: ns => by
    have := depth_ints ns
    simp only [List.map_cons, PyData.depthAll, PyData.depth]
    omega
theorem shaped_ints (ns : List Int) : SeqAt.shaped (.list (ns.map PyData.int)) = true := by
  have := depth_ints ns
  unfold SeqAt.shaped
  rw [Bool.and_eq_true]
  refine ⟨by simp only [PyData.canLay0, lay_ints], decide_eq_true ?_⟩
  simp only [PyData.depth]
  omega
theorem neq_nil : ∀ ns : List Int, (!PyData.eqv (.list (ns.map PyData.int)) (.list [])) = !ns.isEmpty
  | [] => by simp only [List.map_nil, PyData.eqv, PyData.eqvAll, List.isEmpty_nil]
  | n :: ns => by simp only [List.map_cons, PyData.eqv, PyData.eqvAll, List.isEmpty_cons]

def num1 (z n : Int) : Int := (z % 2147483629 + 8311 * (n + 1) * (n + 1) + 47) * 48271 % 2147483647
theorem num1_rng (z n : Int) : -(2 ^ 64) < num1 z n ∧ num1 z n < 2 ^ 64 := by
  unfold num1
  omega
def num2 (x n : Int) : Int := (x * x + 69621 * x + (n + 1)) % 2147483587
theorem num2_rng (x n : Int) : -(2 ^ 64) < num2 x n ∧ num2 x n < 2 ^ 64 := by
  unfold num2
  omega

section
variable {P : Program} {w : World} {K : PySem.W.Frag} {mg : Str → Option Value} {base : Heap}
abbrev s_law_draw : Stmt := topS 19
theorem sc_law_draw : FnScope ["_law_deck_here", "_law_most", "_law_cell", "_law_number"] ["_law_deck_here", "_law_most"] (defScope s_law_draw) := ⟨rfl, rfl, rfl, by decide +kernel, rfl, by decide +kernel, by decide +kernel⟩
def sp_draw : Sp := fun vs H Q _ => ∃ (d c : Addr) (N most : Int), vs = [.ref d, .int most] ∧ Deck H d c N ∧ N < 2 ^ 60 ∧ 0 < most ∧ most < 2 ^ 100 ∧
  ∀ H' r, Keep d c H H' → Deck H' d c (N + 1) → 0 ≤ r → r < most → Q (.int r) H'
theorem ok_draw {f : Addr} {fd : FuncData} {k : Nat} (F : Fun K "_law_draw" "_law_draw" s_law_draw f fd) :
    FnOk P w K mg base CX0 (k + 1) f fd ["_law_deck_here", "_law_most"] sp_draw := by
  have nd := sc_law_draw.nd
  refine F.ok sc_law_draw (fun vs H Q E h => ?_) (fun cdv A outer s H vs Q E hr h => ?_)
  · obtain ⟨d, c, N, most, rfl, _⟩ := h
    rfl
  obtain ⟨d, c, N, most, rfl, D, hN, hm0, hm1, q⟩ := h
  have hcd := D.ne
  obtain ⟨cells, m, n, hd, hc, hlen, hn0, hn1⟩ := D
  refine ⟨_, (pss_cons (ps_asg (pe_op op_add (pe_ix ix_list (pv 0) pe_int (fun _ _ => rfl)) pe_int) (pg_sub (pv 0) pe_int set_list))
      (pss_cons (ps_set (i := 2) nd rfl (.inl rfl) (pe_ix ix_list (pv 0) pe_int (fun _ _ => rfl)))
      (Evl.pss_cut (ps_if (pt_cmpR (op_neD hr.units) (pe_ix ix_list (pv 0) pe_int (fun _ _ => rfl)) (pe_lst pa_nil) (nomark _))
      (pss_cons (ps_set (i := 2) nd rfl (.inl rfl) (pe_bm0 PySem.F.plainAttrs_list PySem.F.slot_list_pop PySem.F.type_list_pop mt_pop (pe_ix ix_list (pv 0) pe_int (fun _ _ => rfl))))
        (pss_one (ps_if (pt_cmpR op_ge (pv 2) (pe_op op_pow pe_int pe_int) (nomark _))
        (pss_cons (ps_expr (pe_bm PySem.F.plainAttrs_list PySem.F.slot_list_append PySem.F.type_list_append mt_append (pe_ix ix_list (pv 0) pe_int (fun _ _ => rfl)) (pa_cons (pe_op op_fdivW (pv 2) (pv 1)) pa_nil)))
          (pss_one (ps_ret (pe_op op_mod (pv 2) (pv 1)))))
        pss_nil)))
      pss_nil)
      (pss_cons (ps_set (i := 3) nd rfl (.inl rfl) (pe_op op_mod (pe_op op_mul (pe_op op_add (pe_op op_add (pe_op op_mod (pv 2) pe_int) (pe_op op_mul (pe_op op_mul pe_int (pe_ix ix_list (pv 0) pe_int (fun _ _ => rfl))) (pe_ix ix_list (pv 0) pe_int (fun _ _ => rfl)))) pe_int) pe_int) pe_int))
      (pss_cons (ps_set (i := 3) nd rfl (.inl rfl) (pe_op op_mod (pe_op op_add (pe_op op_add (pe_op op_mul (pv 3) (pv 3)) (pe_op op_mul pe_int (pv 3))) (pe_ix ix_list (pv 0) pe_int (fun _ _ => rfl))) pe_int))
      (pss_one (ps_ret (pe_op op_mod (pe_op op_fdivW (pe_op op_mod (pe_op op_mul (pv 3) (pe_op op_add (pe_op op_fdivW (pv 3) pe_int) pe_int)) pe_int) pe_int) (pv 1))))))))), ?_⟩
  refine ⟨.ref d, rfl, d, _, 2, _, rfl, rfl, .inl (.inl hd), at2, _, _, rfl, rfl, .ref d, rfl, d, _, 2, 2, rfl, rfl, hd, rfl, ?_⟩
  -- the deck with one draw more
  have h1d : upd H d (.lst [.ref c, .int m, .int (n + 1)]) d = some (.lst [.ref c, .int m, .int (n + 1)]) := upd_same
  have h1c : upd H d (.lst [.ref c, .int m, .int (n + 1)]) c = some (.lst (cells.map V.int)) := by
    rw [upd_ne hcd]
    exact hc
  have k1 : Keep d c H (upd H d (.lst [.ref c, .int m, .int (n + 1)])) := fun b o nb _ e => by
    rw [upd_ne nb]
    exact e
  refine ⟨.ref d, rfl, d, _, 1, _, rfl, rfl, .inl (.inl h1d), at1, ?_⟩
  have wd : CDivW 0 most := wide_div hm0 (b := 100) (by omega) (by decide) (by decide)
  refine ⟨fun σ' H' => ∃ (z : Int) (cells' : List Int), σ' = [some (.ref d), some (.int most), some (.int z), none] ∧ Keep d c H H' ∧ H' d = some (.lst [.ref c, .int m, .int (n + 1)]) ∧ H' c = some (.lst (cells'.map V.int)) ∧ cells'.length ≤ 63, ?_, ?_⟩
  · refine ⟨.ref d, rfl, d, _, 0, _, rfl, rfl, .inl (.inl h1d), at0, Nat.zero_le _, fun e ne => ?_⟩
    have s2 : Same (upd H d (.lst [.ref c, .int m, .int (n + 1)])) (upd (upd H d (.lst [.ref c, .int m, .int (n + 1)])) e (.lst [])) := same_upd ne
    have h2d := s2 _ _ h1d
    have h2c := s2 _ _ h1c
    have k2 := k1.trans (Keep.of s2)
    refine ⟨_, _, .lst (.inl (.inl h2c)) (dp_ints cells), .lst (.inl (.inl upd_same)) .nil, shaped_ints cells, shaped_ints [], _, rfl, ?_⟩
    rw [neq_nil]
    cases hcs : cells with
    | nil => exact iteF ⟨m, cells, rfl, k2, h2d, h2c, hlen⟩
    | cons x0 r0 =>
      refine iteT ?_
      have hne : cells ≠ [] := by
        rw [hcs]
        exact List.cons_ne_nil _ _
      have hlast : (cells.map V.int)[(cells.map V.int).length - 1]? = some (.int (cells.getLast hne)) := by
        rw [List.length_map, List.getElem?_map, ← List.getLast?_eq_getElem?, List.getLast?_eq_getLast hne]
        rfl
      refine ⟨.ref d, rfl, d, _, 0, _, rfl, rfl, .inl (.inl h2d), at0, .inl ⟨rfl, _, .inl (.inl h2c)⟩, c, _, _, rfl, rfl, h2c, hlast, ?_⟩
      have hdrop : (cells.map V.int).dropLast = cells.dropLast.map V.int := by rw [List.map_dropLast]
      rw [hdrop]
      have h3d : upd (upd (upd H d (.lst [.ref c, .int m, .int (n + 1)])) e (.lst [])) c (.lst (cells.dropLast.map V.int)) d = some (.lst [.ref c, .int m, .int (n + 1)]) := by
        rw [upd_ne hcd.symm]
        exact h2d
      have h3c : upd (upd (upd H d (.lst [.ref c, .int m, .int (n + 1)])) e (.lst [])) c (.lst (cells.dropLast.map V.int)) c = some (.lst (cells.dropLast.map V.int)) := upd_same
      have k3 : Keep d c H (upd (upd (upd H d (.lst [.ref c, .int m, .int (n + 1)])) e (.lst [])) c (.lst (cells.dropLast.map V.int))) := fun b o n1 n2 e1 => by
        rw [upd_ne n2]
        exact k2 b o n1 n2 e1
      have l3 : cells.dropLast.length + 1 ≤ 63 := by
        rw [List.length_dropLast, hcs, List.length_cons]
        rw [hcs, List.length_cons] at hlen
        omega
      generalize cells.getLast hne = z
      refine ⟨.int z, rfl, _, _, rfl, rfl, ⟨by decide, by decide, by decide⟩, _, _, rfl, rfl, _, rfl, ite2 (fun e5 => ?_) (fun e5 => ?_)⟩
      · refine ⟨.ref d, rfl, d, _, 0, _, rfl, rfl, .inl (.inl h3d), at0, .inl ⟨rfl, _, .inl (.inl h3c)⟩, .int z, rfl, .int most, rfl, z, most, rfl, rfl, wd, c, _, _, rfl, rfl, h3c, ?_, ?_⟩
        · rw [List.length_map]
          exact small1000 (by omega)
        · refine ⟨.int z, rfl, .int most, rfl, z, most, rfl, rfl, hm0, ?_⟩
          refine q _ _ ?_ ?_ (Int.emod_nonneg _ (by omega)) (Int.emod_lt_of_pos _ hm0)
          · intro b o n1 n2 e1
            rw [upd_ne n2]
            exact k3 b o n1 n2 e1
          · refine ⟨cells.dropLast ++ [z / most], m, n + 1, ?_, ?_, ?_, by omega, by omega⟩
            · rw [upd_ne hcd.symm]
              exact h3d
            · rw [upd_same, List.map_append]
              rfl
            · rw [List.length_append, List.length_singleton]
              exact l3
      · exact ⟨z, cells.dropLast, rfl, k3, h3d, h3c, by omega⟩
  · rintro σ' H' ⟨z, cells', rfl, kk, h5d, h5c, hl5⟩
    have hn2 : -(2 ^ 64) < n + 1 ∧ n + 1 < 2 ^ 64 := by omega
    refine ⟨.int z, rfl, z, 2147483629, rfl, rfl, (show (0 : Int) < 2147483629 by decide), .ref d, rfl, d, _, 2, _, rfl, rfl, .inl (.inl h5d), at2, 8311, n + 1, rfl, rfl, .inl ⟨by decide, by decide⟩, .ref d, rfl, d, _, 2, _, rfl, rfl, .inl (.inl h5d), at2, 8311 * (n + 1), n + 1, rfl, rfl, .inr hn2, _, _, rfl, rfl, _, _, rfl, rfl, _, 48271, rfl, rfl, .inr ⟨by decide, by decide⟩, _, 2147483647, rfl, rfl, (show (0 : Int) < 2147483647 by decide), ?_⟩
    have b1 := num1_rng z n
    refine ⟨.int (num1 z n), rfl, .int (num1 z n), rfl, num1 z n, num1 z n, rfl, rfl, .inl b1, .int (num1 z n), rfl, 69621, num1 z n, rfl, rfl, .inr b1, _, _, rfl, rfl, .ref d, rfl, d, _, 2, _, rfl, rfl, .inl (.inl h5d), at2, _, _, rfl, rfl, _, 2147483587, rfl, rfl, (show (0 : Int) < 2147483587 by decide), ?_⟩
    have b2 := num2_rng (num1 z n) n
    refine ⟨.int (num2 (num1 z n) n), rfl, .int (num2 (num1 z n) n), rfl, num2 (num1 z n) n, 5, rfl, rfl, ⟨by decide, by decide⟩, _, _, rfl, rfl, num2 (num1 z n) n, _, rfl, rfl, .inl b2, _, 2147483579, rfl, rfl, (show (0 : Int) < 2147483579 by decide), _, 64, rfl, rfl, ⟨by decide, by decide⟩, .int most, rfl, _, most, rfl, rfl, hm0, ?_⟩
    exact q _ _ kk ⟨cells', m, n + 1, h5d, h5c, hl5, by omega, by omega⟩ (Int.emod_nonneg _ (by omega)) (Int.emod_lt_of_pos _ hm0)
end
theorem Keep.seq {K : PySem.W.Frag} {d c a : Addr} {H H' : Hp} {xs : List V} (s : Keep d c H H') (h : SqL K H a xs) (h1 : a ≠ d) (h2 : a ≠ c) : SqL K H' a xs := by
  rcases h with (h | ⟨o, h⟩) | h
  · exact .inl (.inl (s _ _ h1 h2 h))
  · exact .inl (.inr ⟨o, s _ _ h1 h2 h⟩)
  · exact .inr h
theorem cut63 (ns : List Int) : ∃ ms : List Int, cutV (ns.map V.int) none (some 63) = ms.map V.int ∧ ms.length ≤ 63 := by
  refine ⟨ns.take (min 63 ns.length), ?_, ?_⟩
  · unfold cutV
    rw [HT.sIx_none, show HT.sIx (ns.map V.int).length (ns.map V.int).length (some 63) = min 63 (ns.map V.int).length from HT.sIx_nat _ _ 63, List.drop_zero, List.map_take, List.length_map, Nat.sub_zero]
  · rw [List.length_take]
    omega
theorem small_le {n : Nat} (h : n ≤ 1000) : n ≤ sizeLine := Nat.le_of_lt (small1000 h)
section
variable {P : Program} {w : World} {K : PySem.W.Frag} {mg : Str → Option Value} {base : Heap}
abbrev s_law_deck : Stmt := topS 18
theorem sc_law_deck : FnScope ["_law_script", "_law_cells"] ["_law_script"] (defScope s_law_deck) := ⟨rfl, rfl, rfl, by decide +kernel, rfl, by decide +kernel, by decide +kernel⟩
def sp_deck (K : PySem.W.Frag) : Sp := fun vs H Q _ => ∃ (a : Addr) (ns : List Int), vs = [.ref a] ∧ SqL K H a (ns.map V.int) ∧ ∀ H' d c, Same H H' → H d = none → Deck H' d c 0 → Q (.ref d) H'
theorem ok_deck {f : Addr} {fd : FuncData} {k : Nat} (F : Fun K "_law_deck" "_law_deck" s_law_deck f fd) (mlist : mg "list" = none) (msum : mg "sum" = none) (mlen : mg "len" = none) :
    FnOk P w K mg base CX0 (k + 1) f fd ["_law_script"] (sp_deck K) := by
  have nd := sc_law_deck.nd
  refine F.ok sc_law_deck (fun vs H Q E h => ?_) (fun cdv A outer s H vs Q E hr h => ?_)
  · obtain ⟨a, ns, rfl, _⟩ := h
    rfl
  obtain ⟨a, ns, rfl, hS, q⟩ := h
  obtain ⟨ms, hms, hl⟩ := cut63 ns
  refine ⟨_, (pss_cons (ps_set (i := 1) nd rfl (.inl rfl) (pe_callTy call_list_of (by rfl) mlist boot_list (pa_cons (pe_slice sl_list (pv 0) po_none (po_some pe_int)) pa_nil)))
      (pss_one (ps_ret (pe_lst (pa_cons (pe_revL (pv 1)) (pa_cons (pe_op op_add (pe_op op_mod (pe_callB (cr_sum rfl) (by rfl) msum boot_sum (pa_cons (pv 1) pa_nil)) pe_int) (pe_op op_mul pe_int (pe_callB call_len_seq (by rfl) mlen PySem.boot_len (pa_cons (pv 1) pa_nil)))) (pa_cons pe_int pa_nil))))))), ?_⟩
  refine ⟨.ref a, rfl, 63, rfl, a, _, rfl, hS, fun p np => ?_⟩
  rw [hms]
  have s1 : Same H (upd H p (.lst (ms.map V.int))) := same_upd np
  refine ⟨p, _, rfl, .inl (.inl (.inl upd_same)), fun l nl => ?_⟩
  have s2 := same_upd (o := .lst (ms.map V.int)) nl
  have hl2 : SqL K (upd (upd H p (.lst (ms.map V.int))) l (.lst (ms.map V.int))) l (ms.map V.int) := .inl (.inl upd_same)
  refine ⟨.ref l, rfl, l, _, rfl, hl2, fun c nc => ?_⟩
  have s3 := same_upd (o := .lst (ms.map V.int).reverse) nc
  refine ⟨.ref l, rfl, l, ms, rfl, s3.seq hl2, _, 2147483629, rfl, rfl, (show (0 : Int) < 2147483629 by decide), .ref l, rfl, l, _, rfl, .inl (s3.seq hl2), 16807, _, rfl, rfl, .inl ⟨by decide, by decide⟩, _, _, rfl, rfl, small_le (show 3 ≤ 1000 by decide), fun d nd' => ?_⟩
  refine q _ d c ((s1.trans s2).trans (s3.trans (same_upd nd'))) ?_ ?_
  · exact s1.free (s2.free (s3.free nd'))
  · refine ⟨ms.reverse, _, 0, upd_same, ?_, ?_, Int.le_refl 0, Int.le_refl 0⟩
    · have : c ≠ d := ne_of_none (show upd _ c _ c = _ from upd_same) nd'
      rw [upd_ne this, upd_same, List.map_reverse]
    · rw [List.length_reverse]
      exact hl
end
theorem Deck.new {H : Hp} {d c a : Addr} {N : Int} (D : Deck H d c N) (na : H a = none) : a ≠ d ∧ a ≠ c := by
  obtain ⟨cells, m, n, h1, h2, _⟩ := D
  exact ⟨(ne_of_none h1 na).symm, (ne_of_none h2 na).symm⟩
theorem Keep.free {d c a : Addr} {H H' : Hp} (s : Keep d c H H') (na : H' a = none) (h1 : a ≠ d) (h2 : a ≠ c) : H a = none := by
  cases q : H a with
  | none => rfl
  | some o =>
    rw [s a o h1 h2 q] at na
    cases na
end L4

namespace L4
open PySem PySem.Spec PyProof.Rows L2 GR
abbrev L26 : Str := "abcdefghijklmnopqrstuvwxyz"
def sgn (c : Nat) : Str := ⟨#[c]⟩
theorem l26_len : L26.length = 26 := by decide
theorem l26_at : ∀ k, k < 26 → L26.cps.toList[k]? = some (97 + k) := by decide
theorem l26_occ : ∀ k, k < 26 → Builtin.Str.occurrences L26 (sgn (97 + k)) 0 L26.length 1 = [k] := by decide +kernel
def Low (c : Nat) : Prop := 97 ≤ c ∧ c ≤ 122
/-- the words that are no names -/
def barred : List Str := ["key", "if", "at", "count", "sum", "most", "first", "let", "need", "put", "each", "tell"]
/-- a name -/
def Nm (z : Str) : Prop := 1 ≤ z.cps.toList.length ∧ z.cps.toList.length ≤ 8 ∧ (∀ c, c ∈ z.cps.toList → Low c) ∧ z ∉ barred
theorem nm_lit {z : Str} (h : (decide (1 ≤ z.cps.toList.length) && decide (z.cps.toList.length ≤ 8) && z.cps.toList.all (fun c => decide (97 ≤ c) && decide (c ≤ 122)) && decide (z ∉ barred)) = true) : Nm z := by
  simp only [Bool.and_eq_true, decide_eq_true_eq, List.all_eq_true] at h
  obtain ⟨⟨⟨h1, h2⟩, h3⟩, h4⟩ := h
  exact ⟨h1, h2, fun c hc => h3 c hc, h4⟩
theorem barred_q : ∀ z, z ∈ barred → z.cps.toList.head? ≠ some 113 := by decide
/-- the text of single signs, joined -/
theorem join_signs : ∀ cs : List Nat, (Txt.join Str.empty (cs.map sgn)).cps.toList = cs := by
  intro cs
  have hj : ∀ cs : List Nat, TL.joinL [] (cs.map fun c => [c]) = cs := by
    intro cs
    induction cs with
    | nil => rfl
    | cons a r ih =>
      cases r with
      | nil => rfl
      | cons b r =>
        show [a] ++ ([] ++ TL.joinL [] ((b :: r).map fun c => [c])) = a :: b :: r
        rw [ih]
        rfl
  have := TL.tl_join Str.empty (cs.map sgn)
  rw [List.map_map] at this
  rw [TL.join_eq]
  exact this.trans (hj cs)
section
variable {P : Program} {w : World} {K : PySem.W.Frag} {mg : Str → Option Value} {base : Heap}
abbrev s_law_pick : Stmt := topS 20
theorem sc_law_pick : FnScope ["_law_deck_here", "_law_some"] ["_law_deck_here", "_law_some"] (defScope s_law_pick) := ⟨rfl, rfl, rfl, by decide +kernel, rfl, by decide +kernel, by decide +kernel⟩
/-- a pick from a list, or from the letters -/
def sp_pick (K : PySem.W.Frag) : Sp := fun vs H Q _ =>
  (∃ (d c a : Addr) (N : Int) (xs : List V), vs = [.ref d, .ref a] ∧ Deck H d c N ∧ N < 2 ^ 60 ∧ SqL K H a xs ∧ xs ≠ [] ∧ xs.length ≤ 1000 ∧ a ≠ d ∧ a ≠ c ∧ ∀ H' v, Keep d c H H' → Deck H' d c (N + 1) → v ∈ xs → Q v H') ∨
  (∃ (d c : Addr) (N : Int), vs = [.ref d, .str L26] ∧ Deck H d c N ∧ N < 2 ^ 60 ∧ ∀ H' k, Keep d c H H' → Deck H' d c (N + 1) → k < 26 → Q (.str (sgn (97 + k))) H')
theorem ok_pick {f f_law_draw : Addr} {fd fd_law_draw : FuncData} {k : Nat} (F : Fun K "_law_pick" "_law_pick" s_law_pick f fd) (G_law_draw : FnOk P w K mg base CX0 k f_law_draw fd_law_draw ["_law_deck_here", "_law_most"] sp_draw)
    (g_law_draw : mg "_law_draw" = some (.ref f_law_draw)) (K_law_draw : PySem.W.keepIn K (.ref f_law_draw) = true) (b_law_draw : Binds K fd_law_draw ["_law_deck_here", "_law_most"] []) (mlen : mg "len" = none) :
    FnOk P w K mg base CX0 (k + 1) f fd ["_law_deck_here", "_law_some"] (sp_pick K) := by
  have nd := sc_law_pick.nd
  refine F.ok sc_law_pick (fun vs H Q E h => ?_) (fun cdv A outer s H vs Q E hr h => ?_)
  · rcases h with ⟨d, c, a, N, xs, rfl, _⟩ | ⟨d, c, N, rfl, _⟩ <;> rfl
  refine ⟨_, (pss_one (ps_ret (pe_ix ix_seq (pv 1) (pe_call G_law_draw hr (by rfl) g_law_draw K_law_draw b_law_draw .nil pass0 (pa_cons (pv 0) (pa_cons (pe_callB call_len (by rfl) mlen PySem.boot_len (pa_cons (pv 1) pa_nil)) pa_nil))) (fun _ _ => rfl)))), ?_⟩
  rcases h with ⟨d, c, a, N, xs, rfl, D, hN, hS, hne, hlen, had, hac, q⟩ | ⟨d, c, N, rfl, D, hN, q⟩
  · have hpos : 0 < xs.length := List.length_pos_iff.mpr hne
    refine ⟨.ref a, rfl, .ref d, rfl, .ref a, rfl, .ref a, xs.length, rfl, .inl ⟨xs, hS, rfl⟩, d, c, N, (xs.length : Int), rfl, D, hN, by omega, by omega, fun H' r kp D' r0 r1 => ?_⟩
    obtain ⟨j, rfl⟩ := Int.eq_ofNat_of_zero_le r0
    have hj : j < xs.length := by omega
    exact .inl ⟨a, xs, j, xs[j], rfl, rfl, kp.seq hS had hac, atI_nat (List.getElem?_eq_getElem hj), q H' _ kp D' (List.getElem_mem hj)⟩
  · refine ⟨.str L26, rfl, .ref d, rfl, .str L26, rfl, .str L26, 26, rfl, ⟨by rw [l26_len]; decide, l26_len.symm⟩, d, c, N, 26, rfl, D, hN, by decide, by decide, fun H' r kp D' r0 r1 => ?_⟩
    obtain ⟨j, rfl⟩ := Int.eq_ofNat_of_zero_le r0
    have hj : j < 26 := by omega
    exact .inr (.inr ⟨L26, j, 97 + j, rfl, rfl, by rw [l26_len]; decide, atI_nat (l26_at j hj), q H' j kp D' hj⟩)
end
end L4

namespace L4
open PySem PySem.Spec PyProof.Rows L2 GR
/-- lists of texts of single signs -/
def sg (cs : List Nat) : List V := (cs.map sgn).map V.str
theorem sg_length (cs : List Nat) : (sg cs).length = cs.length := by
  unfold sg
  rw [List.length_map, List.length_map]
theorem sg_snoc (cs : List Nat) (c : Nat) : sg cs ++ [V.str (sgn c)] = sg (cs ++ [c]) := by
  unfold sg
  simp
theorem sg_set (cs : List Nat) (i c : Nat) : (sg cs).set i (V.str (sgn c)) = sg (cs.set i c) := by
  unfold sg
  rw [List.map_set, List.map_set]
theorem sg_get {cs : List Nat} {i c : Nat} (h : cs[i]? = some c) : (sg cs)[i]? = some (V.str (sgn c)) := by
  unfold sg
  rw [List.getElem?_map, List.getElem?_map, h]
  rfl
theorem nm_signs {z : Str} {cs : List Nat} (hz : z.cps.toList = 113 :: cs) (h0 : cs.length ≤ 7) (hl : ∀ c, c ∈ cs → Low c) : Nm z := by
  refine ⟨by rw [hz]; simp, by rw [hz, List.length_cons]; omega, ?_, fun hb => ?_⟩
  · rw [hz]
    intro c hc
    rcases List.mem_cons.mp hc with rfl | hc
    · exact ⟨by decide, by decide⟩
    · exact hl c hc
  · have := barred_q z hb
    rw [hz] at this
    exact this rfl
theorem sgn_length (cs : List Nat) : ((cs.map sgn).map (·.length)).sum = cs.length := by
  induction cs with
  | nil => rfl
  | cons c r ih =>
    rw [List.map_cons, List.map_cons, List.sum_cons, ih, List.length_cons]
    show 1 + r.length = r.length + 1
    omega
section
variable {P : Program} {w : World} {K : PySem.W.Frag} {mg : Str → Option Value} {base : Heap}
abbrev s_law_names : Stmt := topS 21
abbrev N_names : List Str := ["_law_deck_here", "_law_many", "_law_letters", "_law_k", "_law_word", "_law_at", "_law_first", "_law_found"]
theorem sc_law_names : FnScope N_names ["_law_deck_here", "_law_many"] (defScope s_law_names) := ⟨rfl, rfl, rfl, by decide +kernel, rfl, by decide +kernel, by decide +kernel⟩
/-- a new list of names -/
def sp_names : Sp := fun vs H Q _ => ∃ (d c : Addr) (N : Int) (many : Nat), vs = [.ref d, .int (many : Int)] ∧ Deck H d c N ∧ N < 2 ^ 55 ∧ many ≤ 100 ∧
  ∀ H' p (zs : List Str), Keep d c H H' → Deck H' d c (N + 20) → H p = none → H' p = some (.lst (zs.map V.str)) → zs.length = many → (∀ z, z ∈ zs → Nm z) → Q (.ref p) H'
theorem ok_names {f f_law_draw f_law_pick : Addr} {fd fd_law_draw fd_law_pick : FuncData} {k : Nat} (F : Fun K "_law_names" "_law_names" s_law_names f fd) (G_law_draw : FnOk P w K mg base CX0 k f_law_draw fd_law_draw ["_law_deck_here", "_law_most"] sp_draw)
    (g_law_draw : mg "_law_draw" = some (.ref f_law_draw)) (K_law_draw : PySem.W.keepIn K (.ref f_law_draw) = true) (b_law_draw : Binds K fd_law_draw ["_law_deck_here", "_law_most"] [])
    (G_law_pick : FnOk P w K mg base CX0 k f_law_pick fd_law_pick ["_law_deck_here", "_law_some"] (sp_pick K))
    (g_law_pick : mg "_law_pick" = some (.ref f_law_pick)) (K_law_pick : PySem.W.keepIn K (.ref f_law_pick) = true) (b_law_pick : Binds K fd_law_pick ["_law_deck_here", "_law_some"] [])
    (mrange : mg "range" = none) (mlen : mg "len" = none) : FnOk P w K mg base CX0 (k + 1) f fd ["_law_deck_here", "_law_many"] sp_names := by
  have nd := sc_law_names.nd
  refine F.ok sc_law_names (fun vs H Q E h => ?_) (fun cdv A outer s H vs Q E hr h => ?_)
  · obtain ⟨d, c, N, many, rfl, _⟩ := h
    rfl
  obtain ⟨d, c, N, many, rfl, D, hN, hmany, q⟩ := h
  refine ⟨_, (pss_cons (ps_set (i := 2) nd rfl (.inr rfl) pe_str)
      (Evl.pss_cut (ps_set (i := 4) nd rfl (.inl rfl) (pe_op op_cat (pe_lst (pa_cons pe_str pa_nil)) (pe_lc (own := [("_law_k", 3)]) rfl nd (pi_range1 rfl mrange (pa_cons (pe_op op_add pe_int (pe_call G_law_draw hr (by rfl) g_law_draw K_law_draw b_law_draw .nil pass0 (pa_cons (pv 0) (pa_cons pe_int pa_nil)))) pa_nil)) (blkOk_by (N := N_names) (sc := defScope s_law_names) (by decide +kernel)) (fun _ _ _ _ _ => (pg_name (i := 3) nd rfl (Or.inl rfl))) (fun _ _ _ _ _ => pts_nil)
          (te := tCall (sp_pick K) [] E0 (tCons (tVar 0) (tCons (tVar 2) tNil)))
          (fun _ _ _ _ _ => (pe_call G_law_pick hr (by rfl) g_law_pick K_law_pick b_law_pick .nil pass0 (pa_cons (pv 0) (pa_cons (pv 2) pa_nil)))))))
      (pss_cons (ps_set (i := 5) nd rfl (.inl rfl) (pe_op op_add pe_int (pe_call G_law_draw hr (by rfl) g_law_draw K_law_draw b_law_draw .nil pass0 (pa_cons (pv 0) (pa_cons (pe_op op_sub (pe_callB call_len_seq (by rfl) mlen PySem.boot_len (pa_cons (pv 4) pa_nil)) pe_int) pa_nil)))))
      (pss_cons (ps_set (i := 6) nd rfl (.inl rfl) (pe_bm PySem.F.plainAttrs_str PySem.F.slot_str_index PySem.F.type_str_index mt_sindex (pv 2) (pa_cons (pe_ix ix_list (pv 4) (pv 5) (fun _ _ => rfl)) pa_nil)))
      (pss_cons (ps_set (i := 7) nd rfl (.inl rfl) (pe_lst pa_nil))
      (pss_cons (ps_for PassesOwn.never rfl (pi_range1 rfl mrange (pa_cons (pv 1) pa_nil)) (pg_name (i := 3) nd rfl (Or.inl rfl))
      (pss_cons (ps_asg (pe_ix ix_str (pv 2) (pe_op op_mod (pe_op op_add (pv 6) (pv 3)) pe_int) (fun _ _ => rfl)) (pg_sub (pv 4) (pv 5) set_list))
        (pss_one (ps_expr (pe_bm PySem.F.plainAttrs_list PySem.F.slot_list_append PySem.F.type_list_append mt_append (pv 7) (pa_cons (pe_join pe_str (pv 4)) pa_nil))))))
      (pss_one (ps_ret (pv 7))))))))), ?_⟩
  -- word = ['q'] + [..]
  refine ⟨fun σ' H' => ∃ wd cs, σ' = [some (.ref d), some (.int (many : Int)), some (.str L26), none, some (.ref wd), none, none, none] ∧ Keep d c H H' ∧ Deck H' d c (N + 8) ∧ H wd = none ∧ wd ≠ d ∧ wd ≠ c ∧ H' wd = some (.lst (sg (113 :: cs))) ∧ 1 ≤ cs.length ∧ cs.length ≤ 7 ∧ (∀ x, x ∈ cs → Low x), ?_, ?_⟩
  · refine ⟨Nat.le_of_lt (small1000 (show 1 ≤ 1000 by decide)), fun l nl => ?_⟩
    have sl := same_upd (o := .lst [.str "q"]) nl
    have D1 := D.same sl
    have hl := D.new nl
    have hl1 : upd H l (.lst [.str "q"]) l = some (.lst [.str "q"]) := upd_same
    refine ⟨.ref d, rfl, d, c, N, 7, rfl, D1, by omega, by decide, by decide, fun H1 r k1 D2 r0 r1 => ?_⟩
    obtain ⟨n, rfl⟩ := Int.eq_ofNat_of_zero_le r0
    refine ⟨1, (n : Int), rfl, rfl, 1 + (n : Int), rfl, by omega, by omega, fun B nB => ?_⟩
    have hB := D2.new nB
    have nlB : l ≠ B := ne_of_none (k1 _ _ hl.1 hl.2 hl1) nB
    have e1n : (1 + (n : Int)).toNat = n + 1 := by omega
    rw [e1n]
    refine lc_range (n := n + 1) (fun i H' => ∃ cs, cs.length = i ∧ (∀ x, x ∈ cs → Low x) ∧ H' B = some (.lst (sg cs)) ∧ (∀ b o, b ≠ d → b ≠ c → b ≠ B → H1 b = some o → H' b = some o) ∧ Deck H' d c (N + 1 + (i : Int))) ?_ ?_ ?_
    · refine ⟨[], rfl, fun x hx => (nomatch hx), upd_same, fun b o _ _ nb e => by rw [upd_ne nb]; exact e, ?_⟩
      exact (D2.same (same_upd nB)).mono (by omega)
    · rintro i H3 hi ⟨cs, hlen, hlow, hB3, k3, D3⟩
      refine ⟨rfl, yes_then ⟨.ref d, rfl, .str L26, rfl, .inr ⟨d, c, _, rfl, D3, by omega, fun H4 j k4 D4 hj => ?_⟩⟩⟩
      refine ⟨_, k4 _ _ hB.1 hB.2 hB3, ?_, cs ++ [97 + j], ?_, ?_, ?_, ?_, ?_⟩
      · rw [sg_length]
        exact small1000 (by omega)
      · rw [List.length_append, hlen]
        rfl
      · intro x hx
        rcases List.mem_append.mp hx with hx | hx
        · exact hlow x hx
        · rw [List.mem_singleton.mp hx]
          unfold Low
          omega
      · rw [upd_same, sg_snoc]
      · intro b o n1 n2 n3 e
        rw [upd_ne n3]
        exact k4 _ _ n1 n2 (k3 b o n1 n2 n3 e)
      · obtain ⟨cells, m, x, g1, g2, g3, g4, g5⟩ := D4
        refine ⟨cells, m, x, ?_, ?_, g3, g4, by omega⟩
        · rw [upd_ne hB.1.symm]
          exact g1
        · rw [upd_ne hB.2.symm]
          exact g2
    · rintro H3 ⟨cs, hlen, hlow, hB3, k3, D3⟩
      have hl3 := k3 _ _ hl.1 hl.2 nlB (k1 _ _ hl.1 hl.2 hl1)
      refine ⟨l, B, _, _, rfl, rfl, hl3, hB3, ?_, fun wd nwd => ?_⟩
      · rw [sg_length]
        exact small_le (show 1 + cs.length ≤ 1000 by omega)
      have hw := D3.new nwd
      have sw := same_upd (o := .lst ([.str "q"] ++ sg cs)) nwd
      refine ⟨wd, cs, rfl, ?_, (D3.same sw).mono (by omega), ?_, hw.1, hw.2, ?_, by omega, by omega, hlow⟩
      · intro b o n1 n2 e
        refine sw _ _ (k3 b o n1 n2 ?_ (k1 _ _ n1 n2 (sl _ _ e)))
        exact ne_of_none (k1 _ _ n1 n2 (sl _ _ e)) nB
      · cases e : H wd with
        | none => rfl
        | some o =>
          have nb := ne_of_none (k1 _ _ hw.1 hw.2 (sl _ _ e)) nB
          rw [k3 wd o hw.1 hw.2 nb (k1 _ _ hw.1 hw.2 (sl _ _ e))] at nwd
          cases nwd
      · exact upd_same
  rintro σ' H1 ⟨wd, cs, rfl, k1, D1, nwd, hwd, hwc, hw1, c1, c7, hlow⟩
  -- at, first
  refine ⟨.ref d, rfl, .ref wd, rfl, wd, _, rfl, .inl (.inl (.inl hw1)), _, 1, rfl, rfl, d, c, N + 8, ((sg (113 :: cs)).length : Int) - 1, rfl, D1, by omega, ?_, ?_, fun H2 r k2 D2 r0 r1 => ⟨_, _, rfl, rfl, ?_⟩⟩
  · rw [sg_length, List.length_cons]
    omega
  · rw [sg_length, List.length_cons]
    omega
  rw [sg_length, List.length_cons] at r1
  obtain ⟨j, rfl⟩ := Int.eq_ofNat_of_zero_le r0
  have hj : j < cs.length := by omega
  have hw2 := k2 _ _ hwd hwc hw1
  have hcj : (113 :: cs)[j + 1]? = some cs[j] := by
    rw [List.getElem?_cons_succ]
    exact List.getElem?_eq_getElem hj
  have hlj := hlow _ (List.getElem_mem hj)
  obtain ⟨m, hm, hm26⟩ : ∃ m, cs[j] = 97 + m ∧ m < 26 := ⟨cs[j] - 97, by unfold Low at hlj; omega, by unfold Low at hlj; omega⟩
  refine ⟨.str L26, rfl, rfl, .ref wd, rfl, .int (1 + (j : Int)), rfl, wd, _, 1 + (j : Int), .str (sgn (97 + m)), rfl, rfl, .inl (.inl hw2), at_of (j := j + 1) (by omega) (by rw [sg_get hcj, hm]), L26, sgn (97 + m), m, [], rfl, rfl, l26_occ m hm26, ?_⟩
  refine ⟨Nat.zero_le _, fun fo nfo => ?_⟩
  have sf := same_upd (o := .lst []) nfo
  have hfo := D2.new nfo
  have nwf : wd ≠ fo := ne_of_none hw2 nfo
  refine ⟨.int (many : Int), rfl, (many : Int), rfl, by omega, by omega, ?_⟩
  have emany : ((many : Int)).toNat = many := by omega
  rw [emany]
  refine for_range (n := many) (fun i σ H' => ∃ (y3 : Option V) (cs' : List Nat) (zs : List Str), σ = [some (.ref d), some (.int (many : Int)), some (.str L26), y3, some (.ref wd), some (.int (1 + (j : Int))), some (.int (m : Int)), some (.ref fo)] ∧ H' wd = some (.lst (sg (113 :: cs'))) ∧ cs'.length = cs.length ∧ (∀ x, x ∈ cs' → Low x) ∧
      H' fo = some (.lst (zs.map V.str)) ∧ zs.length = i ∧ (∀ z, z ∈ zs → Nm z) ∧ (∀ b o, b ≠ wd → b ≠ fo → H2 b = some o → H' b = some o)) ?_ ?_ ?_
  · refine ⟨none, cs, [], rfl, ?_, rfl, hlow, upd_same, rfl, fun z hz => (nomatch hz), fun b o n1 n2 e => by rw [upd_ne n2]; exact e⟩
    rw [upd_ne nwf]
    exact hw2
  · rintro i σ H3 hi ⟨y3, cs', zs, rfl, hw3, hl3, hlow3, hf3, hz3, hnm3, k3⟩
    have hmod : ∃ t : Nat, ((m : Int) + (0 + (i : Int))) % 26 = (t : Int) ∧ t < 26 := ⟨(m + i) % 26, by omega, Nat.mod_lt _ (by decide)⟩
    obtain ⟨t, ht, ht26⟩ := hmod
    refine ⟨.str L26, rfl, .int (m : Int), rfl, .int (0 + (i : Int)), rfl, _, _, rfl, rfl, _, 26, rfl, rfl, (show (0 : Int) < 26 by decide), L26, (t : Int), 97 + t, rfl, congrArg V.int ht, by rw [l26_len]; decide, atI_nat (l26_at t ht26), ?_⟩
    have hix : ixN (sg (113 :: cs')).length (1 + (j : Int)) = some (j + 1) := by
      unfold ixN
      rw [if_pos (by omega), if_pos (by rw [sg_length, List.length_cons]; omega)]
      exact congrArg some (by omega)
    refine ⟨.ref wd, rfl, .int (1 + (j : Int)), rfl, wd, _, 1 + (j : Int), j + 1, rfl, rfl, hw3, hix, ?_⟩
    have hset : (sg (113 :: cs')).set (j + 1) (.str (sgn (97 + t))) = sg (113 :: cs'.set j (97 + t)) := sg_set _ _ _
    have hw4 : upd H3 wd (.lst ((sg (113 :: cs')).set (j + 1) (.str (sgn (97 + t))))) wd = some (.lst (sg (113 :: cs'.set j (97 + t)))) := by rw [upd_same, hset]
    have hf4 : upd H3 wd (.lst ((sg (113 :: cs')).set (j + 1) (.str (sgn (97 + t))))) fo = some (.lst (zs.map V.str)) := by
      rw [upd_ne nwf.symm]
      exact hf3
    refine ⟨.ref fo, rfl, .inl ⟨rfl, _, .inl (.inl hf4)⟩, ⟨_, rfl⟩, .ref wd, rfl, Str.empty, wd, (113 :: cs'.set j (97 + t)).map sgn, rfl, rfl, .inl (.inl (.inl hw4)), ?_, fo, _, _, rfl, rfl, hf4, ?_, ?_⟩
    · rw [sgn_length, List.length_map, List.length_cons, List.length_set]
      show _ + _ * 0 ≤ _
      omega
    · rw [List.length_map]
      exact small1000 (by omega)
    · refine ⟨_, cs'.set j (97 + t), zs ++ [Txt.join Str.empty ((113 :: cs'.set j (97 + t)).map sgn)], rfl, ?_, by rw [List.length_set]; exact hl3, ?_, ?_, by rw [List.length_append, hz3]; rfl, ?_, ?_⟩
      · rw [upd_ne nwf]
        exact hw4
      · intro x hx
        rcases List.mem_or_eq_of_mem_set hx with hx | rfl
        · exact hlow3 x hx
        · unfold Low
          omega
      · rw [upd_same, List.map_append]
        rfl
      · intro z hz
        rcases List.mem_append.mp hz with hz | hz
        · exact hnm3 z hz
        · rw [List.mem_singleton.mp hz]
          refine nm_signs (cs := cs'.set j (97 + t)) (join_signs _) (by rw [List.length_set]; omega) ?_
          intro x hx
          rcases List.mem_or_eq_of_mem_set hx with hx | rfl
          · exact hlow3 x hx
          · unfold Low
            omega
      · intro b o n1 n2 e
        rw [upd_ne n2, upd_ne n1]
        exact k3 b o n1 n2 e
  · rintro σ H3 ⟨y3, cs', zs, rfl, hw3, hl3, hlow3, hf3, hz3, hnm3, k3⟩
    have nHfo : H fo = none := (k1.trans k2).free nfo hfo.1 hfo.2
    refine ⟨.ref fo, rfl, q H3 fo zs ?_ ?_ nHfo hf3 hz3 hnm3⟩
    · intro b o n1 n2 e
      exact k3 b o (ne_of_none e nwd) (ne_of_none e nHfo) (k2 _ _ n1 n2 (k1 _ _ n1 n2 e))
    · obtain ⟨cells, mm, x, e1, e2, e3, e4, e5⟩ := D2
      exact ⟨cells, mm, x, k3 _ _ hwd.symm hfo.1.symm e1, k3 _ _ hwc.symm hfo.2.symm e2, e3, e4, by omega⟩
end
end L4

namespace L4
open PySem PySem.Spec PyProof.Rows L2 GR
/-- all but the deck and the world is as it was -/
def KeepW (d c u : Addr) (H H' : Hp) : Prop := ∀ b o, b ≠ d → b ≠ c → b ≠ u → H b = some o → H' b = some o
theorem KeepW.refl {d c u : Addr} {H : Hp} : KeepW d c u H H := fun _ _ _ _ _ e => e
theorem KeepW.trans {d c u : Addr} {H H1 H2 : Hp} (a : KeepW d c u H H1) (b : KeepW d c u H1 H2) : KeepW d c u H H2 := fun x o h1 h2 h3 e => b x o h1 h2 h3 (a x o h1 h2 h3 e)
theorem Keep.w {d c : Addr} {H H' : Hp} (s : Keep d c H H') (u : Addr) : KeepW d c u H H' := fun b o h1 h2 _ e => s b o h1 h2 e
theorem KeepW.of {d c u : Addr} {H H' : Hp} (s : Same H H') : KeepW d c u H H' := fun b o _ _ _ e => s b o e
theorem Keep.dct {d c p : Addr} {H H' : Hp} {N : Int} {kvs : List (Key × V)} (s : Keep d c H H') (D : Deck H d c N) (h : H p = some (.dK kvs)) : H' p = some (.dK kvs) := by
  obtain ⟨cells, m, n, h1, h2, _⟩ := D
  exact s p _ (ne_of h h1 (fun z => by cases z)) (ne_of h h2 (fun z => by cases z)) h
def wK (nl : Addr) (L : Int) : List (Key × V) := [(.inr "names", .ref nl), (.inr "left", .int L)]
theorem wK_names (nl : Addr) (L : Int) : valV (wK nl L) (.inr "names") = some (.ref nl) := valV_pos rfl
theorem wK_left (nl : Addr) (L : Int) : valV (wK nl L) (.inr "left") = some (.int L) := (valV_neg (show ¬ ((.inr "names" : Key) = .inr "left") by decide)).trans (valV_pos rfl)
theorem wK_put (nl : Addr) (L M : Int) : putK (wK nl L) (.inr "left") (.int M) = wK nl M := by
  unfold putK wK
  simp
  decide
/-- the world at u: the list of names at nl, how many parts may come -/
structure Wo (H : Hp) (d c u nl : Addr) (zs : List Str) : Prop where
  dct : ∃ L : Int, H u = some (.dK (wK nl L))
  nms : H nl = some (.lst (zs.map V.str))
  nd : nl ≠ d
  nc : nl ≠ c
  len : zs.length = 6
  all : ∀ z, z ∈ zs → Nm z
  inn : ("in" : Str) ∈ zs
theorem Wo.ud {H : Hp} {d c u nl : Addr} {zs : List Str} {N : Int} (W : Wo H d c u nl zs) (D : Deck H d c N) : u ≠ d ∧ u ≠ c := by
  obtain ⟨cells, m, n, h1, h2, _⟩ := D
  obtain ⟨L, hL⟩ := W.dct
  exact ⟨ne_of hL h1 (fun z => by cases z), ne_of hL h2 (fun z => by cases z)⟩
theorem Wo.un {H : Hp} {d c u nl : Addr} {zs : List Str} (W : Wo H d c u nl zs) : nl ≠ u := by
  obtain ⟨L, hL⟩ := W.dct
  exact ne_of W.nms hL (fun z => by cases z)
theorem Wo.keep {H H' : Hp} {d c u nl : Addr} {zs : List Str} {N : Int} (W : Wo H d c u nl zs) (D : Deck H d c N) (k : Keep d c H H') : Wo H' d c u nl zs := by
  obtain ⟨L, hL⟩ := W.dct
  have := W.ud D
  exact ⟨⟨L, k _ _ this.1 this.2 hL⟩, k _ _ W.nd W.nc W.nms, W.nd, W.nc, W.len, W.all, W.inn⟩
theorem in_nm : Nm "in" := nm_lit (by decide)
abbrev sixes : List Str := ["in", "a", "int", "cell", "var", "rows"]
theorem six_nm : ∀ z, z ∈ sixes → Nm z := by
  intro z hz
  simp only [List.mem_cons, List.not_mem_nil, or_false] at hz
  rcases hz with rfl | rfl | rfl | rfl | rfl | rfl <;> exact nm_lit (by decide)
section
variable {P : Program} {w : World} {K : PySem.W.Frag} {mg : Str → Option Value} {base : Heap}
abbrev s_law_world : Stmt := topS 22
theorem sc_law_world : FnScope ["_law_deck_here", "_law_names_here"] ["_law_deck_here"] (defScope s_law_world) := ⟨rfl, rfl, rfl, by decide +kernel, rfl, by decide +kernel, by decide +kernel⟩
def sp_world : Sp := fun vs H Q _ => ∃ (d c : Addr) (N : Int), vs = [.ref d] ∧ Deck H d c N ∧ N < 2 ^ 54 ∧
  ∀ H' u nl zs, Keep d c H H' → Deck H' d c (N + 30) → H u = none → H nl = none → Wo H' d c u nl zs → Q (.ref u) H'
theorem ok_world {f f_law_draw f_law_pick f_law_names : Addr} {fd fd_law_draw fd_law_pick fd_law_names : FuncData} {k : Nat} (F : Fun K "_law_world" "_law_world" s_law_world f fd) (G_law_draw : FnOk P w K mg base CX0 k f_law_draw fd_law_draw ["_law_deck_here", "_law_most"] sp_draw)
    (g_law_draw : mg "_law_draw" = some (.ref f_law_draw)) (K_law_draw : PySem.W.keepIn K (.ref f_law_draw) = true) (b_law_draw : Binds K fd_law_draw ["_law_deck_here", "_law_most"] [])
    (G_law_pick : FnOk P w K mg base CX0 k f_law_pick fd_law_pick ["_law_deck_here", "_law_some"] (sp_pick K))
    (g_law_pick : mg "_law_pick" = some (.ref f_law_pick)) (K_law_pick : PySem.W.keepIn K (.ref f_law_pick) = true) (b_law_pick : Binds K fd_law_pick ["_law_deck_here", "_law_some"] [])
    (G_law_names : FnOk P w K mg base CX0 k f_law_names fd_law_names ["_law_deck_here", "_law_many"] sp_names)
    (g_law_names : mg "_law_names" = some (.ref f_law_names)) (K_law_names : PySem.W.keepIn K (.ref f_law_names) = true) (b_law_names : Binds K fd_law_names ["_law_deck_here", "_law_many"] []) : FnOk P w K mg base CX0 (k + 1) f fd ["_law_deck_here"] sp_world := by
  have nd := sc_law_world.nd
  refine F.ok sc_law_world (fun vs H Q E h => ?_) (fun cdv A outer s H vs Q E hr h => ?_)
  · obtain ⟨d, c, N, rfl, _⟩ := h
    rfl
  obtain ⟨d, c, N, rfl, D, hN, q⟩ := h
  refine ⟨_, (pss_cons (ps_set (i := 1) nd rfl (.inl rfl) (pe_call G_law_names hr (by rfl) g_law_names K_law_names b_law_names .nil pass0 (pa_cons (pv 0) (pa_cons pe_int pa_nil))))
      (pss_cons (ps_asg (pe_call G_law_pick hr (by rfl) g_law_pick K_law_pick b_law_pick .nil pass0 (pa_cons (pv 0) (pa_cons (pe_lst (pa_cons pe_str (pa_cons pe_str (pa_cons pe_str (pa_cons pe_str (pa_cons pe_str (pa_cons pe_str pa_nil))))))) pa_nil))) (pg_sub (pv 1) (pe_call G_law_draw hr (by rfl) g_law_draw K_law_draw b_law_draw .nil pass0 (pa_cons (pv 0) (pa_cons pe_int pa_nil))) set_list))
      (pss_one (ps_ret (pe_disp (pps_cons pe_str (pe_op op_cat (pv 1) (pe_lst (pa_cons pe_str pa_nil))) (pps_cons pe_str pe_int pps_nil)) (by decide) rfl (by simp) (by decide)))))), ?_⟩
  refine ⟨.ref d, rfl, d, c, N, 5, rfl, D, by omega, by decide, fun H1 p zs k1 D1 np hp hlen hnm => ?_⟩
  have hpn : p ≠ d ∧ p ≠ c := by
    obtain ⟨cells, m, n, h1, h2, _⟩ := D
    exact ⟨(ne_of_none h1 np).symm, (ne_of_none h2 np).symm⟩
  refine ⟨.ref d, rfl, small_le (show 6 ≤ 1000 by decide), fun l nl => ?_⟩
  have sl := same_upd (o := .lst [.str "in", .str "a", .str "int", .str "cell", .str "var", .str "rows"]) nl
  have hl := D1.new nl
  have hl1 : SqL K (upd H1 l (.lst [.str "in", .str "a", .str "int", .str "cell", .str "var", .str "rows"])) l (sixes.map V.str) := .inl (.inl upd_same)
  refine .inl ⟨d, c, l, N + 20, _, rfl, D1.same sl, by omega, hl1, List.cons_ne_nil _ _, by decide, hl.1, hl.2, fun H2 v k2 D2 hv => ?_⟩
  obtain ⟨z, hz, rfl⟩ := List.mem_map.mp hv
  refine ⟨.ref p, rfl, .ref d, rfl, d, c, N + 20 + 1, 5, rfl, D2, by omega, by decide, by decide, fun H3 r k3 D3 r0 r1 => ?_⟩
  obtain ⟨j, rfl⟩ := Int.eq_ofNat_of_zero_le r0
  have hj : j < 5 := by omega
  have hp3 := k3 _ _ hpn.1 hpn.2 (k2 _ _ hpn.1 hpn.2 (sl _ _ hp))
  refine ⟨p, _, (j : Int), j, rfl, rfl, hp3, ?_, ?_⟩
  · unfold ixN
    rw [if_pos (by omega), List.length_map, hlen, if_pos (by omega)]
    exact congrArg some (by omega)
  rw [← List.map_set]
  have k03 : Keep d c H H3 := ((k1.trans (Keep.of sl)).trans k2).trans k3
  have k4 : Keep d c H (upd H3 p (.lst ((zs.set j z).map V.str))) := fun b o n1 n2 e => by
    rw [upd_ne (ne_of_none e np)]
    exact k03 b o n1 n2 e
  have D4 : Deck (upd H3 p (.lst ((zs.set j z).map V.str))) d c (N + 30) := by
    obtain ⟨cells, mm, x, e1, e2, e3, e4, e5⟩ := D3
    refine ⟨cells, mm, x, ?_, ?_, e3, e4, by omega⟩
    · rw [upd_ne hpn.1.symm]
      exact e1
    · rw [upd_ne hpn.2.symm]
      exact e2
  have hp4 : upd H3 p (.lst ((zs.set j z).map V.str)) p = some (.lst ((zs.set j z).map V.str)) := upd_same
  revert k4 D4 hp4
  generalize upd H3 p (.lst ((zs.set j z).map V.str)) = H4
  intro k4 D4 hp4
  intro u nu
  have su := same_upd (o := .dK []) nu
  have hu := D4.new nu
  refine ⟨.ref p, rfl, small_le (show 1 ≤ 1000 by decide), fun l2 nl2 => ?_⟩
  have s2 := same_upd (o := .lst [.str "in"]) nl2
  refine ⟨p, l2, _, _, rfl, rfl, s2 _ _ (su _ _ hp4), upd_same, ?_, fun x nx => ?_⟩
  · rw [List.length_map, List.length_set, hlen]
    exact small_le (show 6 ≤ 1000 by decide)
  have s3 := same_upd (o := .lst ((zs.set j z).map V.str ++ [.str "in"])) nx
  have u3 := s3 _ _ (s2 _ _ (show upd H4 u (.dK []) u = _ from upd_same))
  have hx := D4.new (su.free (s2.free nx))
  have n3 : H u = none := k4.free nu hu.1 hu.2
  have nx3 : H x = none := k4.free (su.free (s2.free nx)) hx.1 hx.2
  have hxu : x ≠ u := (ne_of_none (s2 _ _ (show upd H4 u (.dK []) u = _ from upd_same)) nx).symm
  refine ⟨u3, wK x 30, rfl, (show 2 ≤ 15 by decide), q _ u x (zs.set j z ++ [("in" : Str)]) ?_ ?_ n3 nx3 ?_⟩
  · intro b o n1 n2 e
    rw [upd_ne (ne_of_none e n3)]
    exact s3 _ _ (s2 _ _ (su _ _ (k4 _ _ n1 n2 e)))
  · obtain ⟨cells, mm, y, e1, e2, e3, e4, e5⟩ := D4
    refine ⟨cells, mm, y, ?_, ?_, e3, e4, e5⟩
    · rw [upd_ne hu.1.symm]
      exact s3 _ _ (s2 _ _ (su _ _ e1))
    · rw [upd_ne hu.2.symm]
      exact s3 _ _ (s2 _ _ (su _ _ e2))
  · refine ⟨⟨30, upd_same⟩, ?_, hx.1, hx.2, ?_, ?_, ?_⟩
    · rw [upd_ne hxu, List.map_append]
      exact upd_same
    · rw [List.length_append, List.length_set, hlen]
      rfl
    · intro y hy
      rcases List.mem_append.mp hy with hy | hy
      · rcases List.mem_or_eq_of_mem_set hy with hy | rfl
        · exact hnm y hy
        · exact six_nm _ hz
      · rw [List.mem_singleton.mp hy]
        exact in_nm
    · exact List.mem_append_right _ (List.mem_singleton.mpr rfl)
end
end L4

namespace L4
open PySem PySem.Spec PyProof.Rows L2 GR
abbrev aggs : List (Str × Nat) := [("count", 2), ("sum", 3), ("most", 4), ("first", 3)]
abbrev opws : List Str := ["+", "-", "*", "<", "=", "at"]
/-- one that contains none -/
inductive Leaf (zs : List Str) : PyData → Prop
  | int (i : Int) : -(10 ^ 18) ≤ i → i ≤ 10 ^ 18 → Leaf zs (.tuple [.str "int", .int i])
  | let_ (i : Int) : 0 ≤ i → i ≤ 9999 → Leaf zs (.tuple [.str "let", .int i])
  | key : Leaf zs (.tuple [.str "key"])
  | var (z : Str) : z ∈ zs → Leaf zs (.tuple [.str "var", .str z])
/-- an expression of depth n at most; its names are among zs -/
inductive Ex (zs : List Str) : Nat → PyData → Prop
  | leaf (n : Nat) (x : PyData) : Leaf zs x → Ex zs (n + 1) x
  | cell (n : Nat) (t v : Str) (x : PyData) : t ∈ zs → v ∈ zs → Ex zs n x → Ex zs (n + 1) (.tuple [.str "cell", .str t, x, .str v])
  | op (n : Nat) (o : Str) (x y : PyData) : o ∈ opws → Ex zs n x → Ex zs n y → Ex zs (n + 1) (.tuple [.str o, x, y])
  | iff (n : Nat) (x y z : PyData) : Ex zs n x → Ex zs n y → Ex zs n z → Ex zs (n + 1) (.tuple [.str "if", x, y, z])
  | agg (n : Nat) (o t : Str) (xs ys : List PyData) : (o, ys.length) ∈ aggs → t ∈ zs → xs.length ≤ 2 → (∀ x, x ∈ xs → Ex zs n x) → (∀ y, y ∈ ys → Ex zs n y) → Ex zs (n + 1) (.tuple (.str o :: .str t :: .tuple xs :: ys))
theorem Ex.mono {zs : List Str} : ∀ {n m : Nat} {x : PyData}, Ex zs n x → n ≤ m → Ex zs m x := by
  intro n m x h
  induction h generalizing m with
  | leaf n x h =>
    intro hm
    obtain ⟨k, rfl⟩ : ∃ k, m = k + 1 := ⟨m - 1, by omega⟩
    exact .leaf k x h
  | cell n t v x h1 h2 h3 ih =>
    intro hm
    obtain ⟨k, rfl⟩ : ∃ k, m = k + 1 := ⟨m - 1, by omega⟩
    exact .cell k t v x h1 h2 (ih (by omega))
  | op n o x y h1 h2 h3 ih1 ih2 =>
    intro hm
    obtain ⟨k, rfl⟩ : ∃ k, m = k + 1 := ⟨m - 1, by omega⟩
    exact .op k o x y h1 (ih1 (by omega)) (ih2 (by omega))
  | iff n x y z h1 h2 h3 ih1 ih2 ih3 =>
    intro hm
    obtain ⟨k, rfl⟩ : ∃ k, m = k + 1 := ⟨m - 1, by omega⟩
    exact .iff k x y z (ih1 (by omega)) (ih2 (by omega)) (ih3 (by omega))
  | agg n o t xs ys h1 h2 h3 h4 h5 ih1 ih2 =>
    intro hm
    obtain ⟨k, rfl⟩ : ∃ k, m = k + 1 := ⟨m - 1, by omega⟩
    exact .agg k o t xs ys h1 h2 h3 (fun x hx => ih1 x hx (by omega)) (fun y hy => ih2 y hy (by omega))
/-! ### data of tuples, texts and ints -/
mutual
/-- no lists in it -/
def flatD : PyData → Bool
  | .tuple ds => flatDs ds
  | .int _ => true
  | .str _ => true
  | .bool _ => true
  | .none => true
  | _ => false
def flatDs : List PyData → Bool
  | [] => true
  | d :: ds => flatD d && flatDs ds
end
theorem flatDs_of : ∀ {ds : List PyData}, (∀ d, d ∈ ds → flatD d = true) → flatDs ds = true
  | [], _ => by rw [flatDs]
  | d :: ds, h => by
    rw [flatDs, h d List.mem_cons_self, flatDs_of fun x hx => h x (List.mem_cons_of_mem _ hx)]
    rfl
theorem Ex.flat {zs : List Str} : ∀ {n : Nat} {x : PyData}, Ex zs n x → flatD x = true := by
  intro n x h
  induction h with
  | leaf n x h => cases h <;> simp only [flatD, flatDs, Bool.and_self]
  | cell n t v x h1 h2 h3 ih => simp only [flatD, flatDs, ih, Bool.and_self]
  | op n o x y h1 h2 h3 ih1 ih2 => simp only [flatD, flatDs, ih1, ih2, Bool.and_self]
  | iff n x y z h1 h2 h3 ih1 ih2 ih3 => simp only [flatD, flatDs, ih1, ih2, ih3, Bool.and_self]
  | agg n o t xs ys h1 h2 h3 h4 h5 ih1 ih2 => simp only [flatD, flatDs, flatDs_of ih1, flatDs_of ih2, Bool.and_self]
/-- the tuples stay -/
def KeepT (H H' : Hp) : Prop := (∀ b xs, H b = some (.tup xs) → H' b = some (.tup xs)) ∧ ∀ b o xs, H b = some (.frz o (.tup xs)) → H' b = some (.frz o (.tup xs))
theorem KeepT.of {H H' : Hp} (s : Same H H') : KeepT H H' := ⟨fun b xs e => s b _ e, fun b o xs e => s b _ e⟩
theorem KeepT.refl {H : Hp} : KeepT H H := ⟨fun _ _ e => e, fun _ _ _ e => e⟩
theorem KeepT.trans {H H1 H2 : Hp} (a : KeepT H H1) (b : KeepT H1 H2) : KeepT H H2 := ⟨fun x xs e => b.1 x xs (a.1 x xs e), fun x o xs e => b.2 x o xs (a.2 x o xs e)⟩
theorem KeepT.seqt {K : PySem.W.Frag} {H H' : Hp} (s : KeepT H H') {a : Addr} {xs : List V} (h : SqT K H a xs) : SqT K H' a xs := by
  rcases h with (h | ⟨o, h⟩) | h
  · exact .inl (.inl (s.1 _ _ h))
  · exact .inl (.inr ⟨o, s.2 _ _ _ h⟩)
  · exact .inr h
theorem KeepT.upd {H : Hp} {a : Addr} {o : HO} (ha : ∀ xs, H a ≠ some (.tup xs)) (hb : ∀ u xs, H a ≠ some (.frz u (.tup xs))) : KeepT H (L2.upd H a o) := by
  refine ⟨fun b xs e => ?_, fun b u xs e => ?_⟩
  · have : b ≠ a := by
      rintro rfl
      exact ha xs e
    rw [upd_ne this]
    exact e
  · have : b ≠ a := by
      rintro rfl
      exact hb u xs e
    rw [upd_ne this]
    exact e
theorem KeepT.lst {H : Hp} {a : Addr} {ys : List V} {o : HO} (h : H a = some (.lst ys)) : KeepT H (L2.upd H a o) := KeepT.upd (fun xs e => by rw [h] at e; cases e) (fun u xs e => by rw [h] at e; cases e)
theorem KeepT.dk {H : Hp} {a : Addr} {ys : List (Key × V)} {o : HO} (h : H a = some (.dK ys)) : KeepT H (L2.upd H a o) := KeepT.upd (fun xs e => by rw [h] at e; cases e) (fun u xs e => by rw [h] at e; cases e)
theorem KeepT.non {H : Hp} {a : Addr} {o : HO} (h : H a = none) : KeepT H (L2.upd H a o) := KeepT.of (same_upd h)
/-- what keeps all but the deck and the world keeps the tuples -/
theorem KeepW.t {H H' : Hp} {d c u nl : Addr} {zs : List Str} {N : Int} (k : KeepW d c u H H') (D : Deck H d c N) (W : Wo H d c u nl zs) : KeepT H H' := by
  obtain ⟨cells, m, n, h1, h2, _⟩ := D
  obtain ⟨L, hL⟩ := W.dct
  exact ⟨fun b xs e => k _ _ (ne_of e h1 (fun z => by cases z)) (ne_of e h2 (fun z => by cases z)) (ne_of e hL (fun z => by cases z)) e,
    fun b o xs e => k _ _ (ne_of e h1 (fun z => by cases z)) (ne_of e h2 (fun z => by cases z)) (ne_of e hL (fun z => by cases z)) e⟩
theorem Keep.t {H H' : Hp} {d c : Addr} {N : Int} (k : Keep d c H H') (D : Deck H d c N) : KeepT H H' := by
  obtain ⟨cells, m, n, h1, h2, _⟩ := D
  exact ⟨fun b xs e => k _ _ (ne_of e h1 (fun z => by cases z)) (ne_of e h2 (fun z => by cases z)) e,
    fun b o xs e => k _ _ (ne_of e h1 (fun z => by cases z)) (ne_of e h2 (fun z => by cases z)) e⟩
mutual
theorem dp_keep {K : PySem.W.Frag} {H H' : Hp} (s : KeepT H H') : ∀ (d : PyData) (v : V), flatD d = true → Dp K H v d → Dp K H' v d
  | .none, _, _, h => by
    cases h
    exact .non
  | .bool b, _, _, h => by
    cases h
    exact .bl b
  | .int i, _, _, h => by
    cases h
    exact .int i
  | .str z, _, _, h => by
    cases h
    exact .str z
  | .tuple ds, _, hf, h => by
    cases h with
    | tup h1 h2 => exact .tup (s.seqt h1) (dp_keepAll s ds _ (by rw [flatD] at hf; exact hf) h2)
  | .list ds, _, hf, h => by simp only [flatD, Bool.false_eq_true] at hf
  | .dict ds, _, hf, h => by cases h
theorem dp_keepAll {K : PySem.W.Frag} {H H' : Hp} (s : KeepT H H') : ∀ (ds : List PyData) (vs : List V), flatDs ds = true → DpAll K H vs ds → DpAll K H' vs ds
  | [], _, _, h => by
    cases h
    exact .nil
  | d :: ds, _, hf, h => by
    rw [flatDs, Bool.and_eq_true] at hf
    cases h with
    | cons h1 h2 => exact .cons (dp_keep s d _ hf.1 h1) (dp_keepAll s ds _ hf.2 h2)
end
end L4

namespace L4
open PySem PySem.Spec PyProof.Rows L2 GR
theorem noSl_str {z : Str} {pos : Pos} {k} : NoSl (.Constant (.str z) k pos) := fun _ _ => rfl
theorem dp_two {K : PySem.W.Frag} {H : Hp} {p : Addr} {a : Str} {v : V} {x : PyData} (h : Dp K H v x) (np : H p = none) : Dp K (upd H p (.tup [.str a, v])) (.ref p) (.tuple [.str a, x]) ∨ flatD x = false := by
  cases hf : flatD x with
  | false => exact .inr rfl
  | true => exact .inl (.tup (.inl (.inl upd_same)) (.cons (.str a) (.cons (dp_keep (KeepT.non np) x v hf h) .nil)))
section
variable {P : Program} {w : World} {K : PySem.W.Frag} {mg : Str → Option Value} {base : Heap}
abbrev s_law_leaf : Stmt := topS 23
theorem sc_law_leaf : FnScope ["_law_deck_here", "_law_world_here", "_law_way", "_law_some"] ["_law_deck_here", "_law_world_here"] (defScope s_law_leaf) := ⟨rfl, rfl, rfl, by decide +kernel, rfl, by decide +kernel, by decide +kernel⟩
def sp_leaf (K : PySem.W.Frag) : Sp := fun vs H Q _ => ∃ (d c u nl : Addr) (N : Int) (zs : List Str), vs = [.ref d, .ref u] ∧ Deck H d c N ∧ N < 2 ^ 59 ∧ Wo H d c u nl zs ∧
  ∀ H' v x, Keep d c H H' → Deck H' d c (N + 6) → Leaf zs x → Dp K H' v x → Q v H'
theorem ok_leaf {f f_law_draw f_law_pick : Addr} {fd fd_law_draw fd_law_pick : FuncData} {k : Nat} (F : Fun K "_law_leaf" "_law_leaf" s_law_leaf f fd) (G_law_draw : FnOk P w K mg base CX0 k f_law_draw fd_law_draw ["_law_deck_here", "_law_most"] sp_draw)
    (g_law_draw : mg "_law_draw" = some (.ref f_law_draw)) (K_law_draw : PySem.W.keepIn K (.ref f_law_draw) = true) (b_law_draw : Binds K fd_law_draw ["_law_deck_here", "_law_most"] [])
    (G_law_pick : FnOk P w K mg base CX0 k f_law_pick fd_law_pick ["_law_deck_here", "_law_some"] (sp_pick K))
    (g_law_pick : mg "_law_pick" = some (.ref f_law_pick)) (K_law_pick : PySem.W.keepIn K (.ref f_law_pick) = true) (b_law_pick : Binds K fd_law_pick ["_law_deck_here", "_law_some"] []) :
    FnOk P w K mg base CX0 (k + 1) f fd ["_law_deck_here", "_law_world_here"] (sp_leaf K) := by
  have nd := sc_law_leaf.nd
  refine F.ok sc_law_leaf (fun vs H Q E h => ?_) (fun cdv A outer s H vs Q E hr h => ?_)
  · obtain ⟨d, c, u, nl, N, zs, rfl, _⟩ := h
    rfl
  obtain ⟨d, c, u, nl, N, zs, rfl, D, hN, W, q⟩ := h
  have hu1 : (A.deeper (envOfC "_law_leaf" (defScope s_law_leaf) s.heap.objs.size f cdv)).units + 1 < cLine := by
    have := hr.units
    omega
  refine ⟨_, (pss_cons (ps_set (i := 2) nd rfl (.inl rfl) (pe_call G_law_draw hr (by rfl) g_law_draw K_law_draw b_law_draw .nil pass0 (pa_cons (pv 0) (pa_cons pe_int pa_nil))))
      (pss_cons (ps_if (pt_cmpR op_lt (pv 2) pe_int (nomark _))
      (pss_cons (ps_set (i := 3) nd rfl (.inl rfl) (pe_lst (pa_cons (pe_op op_sub (pe_call G_law_draw hr (by rfl) g_law_draw K_law_draw b_law_draw .nil pass0 (pa_cons (pv 0) (pa_cons pe_int pa_nil))) pe_int) (pa_cons pe_int (pa_cons (pe_op op_pow pe_int pe_int) (pa_cons (pe_op op_sub pe_int (pe_op op_pow pe_int pe_int)) (pa_cons (pe_op op_mul (pe_call G_law_draw hr (by rfl) g_law_draw K_law_draw b_law_draw .nil pass0 (pa_cons (pv 0) (pa_cons (pe_op op_pow pe_int pe_int) pa_nil))) (pe_op op_pow pe_int pe_int)) pa_nil)))))))
        (pss_one (ps_ret (pe_tup (pa_cons pe_str (pa_cons (pe_call G_law_pick hr (by rfl) g_law_pick K_law_pick b_law_pick .nil pass0 (pa_cons (pv 0) (pa_cons (pv 3) pa_nil))) pa_nil))))))
      pss_nil)
      (pss_cons (ps_if (pt_cmpR op_eq (pv 2) pe_int (nomark _))
      (pss_one (ps_ret (pe_tup (pa_cons pe_str (pa_cons (pe_call G_law_pick hr (by rfl) g_law_pick K_law_pick b_law_pick .nil pass0 (pa_cons (pv 0) (pa_cons (pe_lst (pa_cons pe_int (pa_cons pe_int (pa_cons (pe_call G_law_draw hr (by rfl) g_law_draw K_law_draw b_law_draw .nil pass0 (pa_cons (pv 0) (pa_cons pe_int pa_nil))) (pa_cons pe_int pa_nil))))) pa_nil))) pa_nil)))))
      pss_nil)
      (pss_one (ps_ret (pe_ifExp (pt_cmpR op_eq (pv 2) pe_int (nomark _)) (pe_tup (pa_cons pe_str pa_nil)) (pe_tup (pa_cons pe_str (pa_cons (pe_call G_law_pick hr (by rfl) g_law_pick K_law_pick b_law_pick .nil pass0 (pa_cons (pv 0) (pa_cons (pe_dget hu1 (pv 1) pe_str noSl_str) pa_nil))) pa_nil))))))))), ?_⟩
  -- a tuple of a word and an int, of two texts
  have done : ∀ (H1 : Hp) (M : Int) (a : Str) (v : V) (x : PyData), Keep d c H H1 → Deck H1 d c M → M ≤ N + 6 → Leaf zs (.tuple [.str a, x]) → Dp K H1 v x → flatD x = true → 2 ≤ sizeLine ∧ ∀ p, H1 p = none → Q (.ref p) (upd H1 p (.tup [.str a, v])) := by
    intro H1 M a v x k1 D1 hM hx hv hf
    refine ⟨le2, fun p np => ?_⟩
    have s := same_upd (o := .tup [.str a, v]) np
    refine q _ _ _ (k1.trans (Keep.of s)) ((D1.same s).mono hM) hx ?_
    rcases dp_two (a := a) hv np with h | h
    · exact h
    · rw [hf] at h
      cases h
  refine ⟨.ref d, rfl, d, c, N, 6, rfl, D, by omega, by decide, by decide, fun H1 way k1 D1 w0 w1 => ?_⟩
  refine ⟨.int way, rfl, _, _, rfl, rfl, _, rfl, ite2 (fun e1 => ?_) (fun e1 => ?_)⟩
  · refine ⟨.ref d, rfl, d, c, N + 1, 12, rfl, D1, by omega, by decide, by decide, fun H2 r2 k2 D2 r20 r21 => ?_⟩
    refine ⟨_, _, rfl, rfl, _, _, rfl, rfl, ⟨by decide, by decide, by decide⟩, _, _, rfl, rfl, ⟨by decide, by decide, by decide⟩, _, _, rfl, rfl, .ref d, rfl, _, _, rfl, rfl, ⟨by decide, by decide, by decide⟩, d, c, N + 1 + 1, 10 ^ 9, rfl, D2, by omega, by decide, by decide, fun H3 r3 k3 D3 r30 r31 => ?_⟩
    refine ⟨_, _, rfl, rfl, ⟨by decide, by decide, by decide⟩, r3, 10 ^ 9, rfl, rfl, .inr ⟨by decide, by decide⟩, small_le (show 5 ≤ 1000 by decide), fun l nl => ?_⟩
    have sl := same_upd (o := .lst [.int (r2 - 4), .int 0, .int (10 ^ 18), .int (0 - 10 ^ 18), .int (r3 * 10 ^ 9)]) nl
    have hl := D3.new nl
    have kk := ((k1.trans k2).trans k3).trans (Keep.of sl)
    have D4 := D3.same sl
    have hl1 : SqL K (upd H3 l (.lst [.int (r2 - 4), .int 0, .int (10 ^ 18), .int (0 - 10 ^ 18), .int (r3 * 10 ^ 9)])) l [.int (r2 - 4), .int 0, .int (10 ^ 18), .int (0 - 10 ^ 18), .int (r3 * 10 ^ 9)] := .inl (.inl upd_same)
    refine ⟨.ref d, rfl, .ref l, rfl, .inl ⟨d, c, l, N + 1 + 1 + 1, _, rfl, D4, by omega, hl1, List.cons_ne_nil _ _, (show 5 ≤ 1000 by decide), hl.1, hl.2, fun H5 v k5 D5 hv => ?_⟩⟩
    have hi : ∃ i : Int, v = .int i ∧ -(10 ^ 18) ≤ i ∧ i ≤ 10 ^ 18 := by
      simp only [List.mem_cons, List.not_mem_nil, or_false] at hv
      rcases hv with rfl | rfl | rfl | rfl | rfl
      · exact ⟨_, rfl, by omega, by omega⟩
      · exact ⟨_, rfl, by omega, by omega⟩
      · exact ⟨_, rfl, by omega, by omega⟩
      · exact ⟨_, rfl, by omega, by omega⟩
      · exact ⟨_, rfl, by omega, by omega⟩
    obtain ⟨i, rfl, i0, i1⟩ := hi
    exact done H5 _ "int" _ _ (kk.trans k5) D5 (by omega) (.int i i0 i1) (.int i) rfl
  · refine ⟨.int way, rfl, rfl, _, rfl, ite2 (fun e2 => ?_) (fun e2 => ?_)⟩
    · refine ⟨.ref d, rfl, .ref d, rfl, d, c, N + 1, 400, rfl, D1, by omega, by decide, by decide, fun H2 r2 k2 D2 r20 r21 => ?_⟩
      refine ⟨small_le (show 4 ≤ 1000 by decide), fun l nl => ?_⟩
      have sl := same_upd (o := .lst [.int 0, .int 1, .int r2, .int 9999]) nl
      have hl := D2.new nl
      have kk := (k1.trans k2).trans (Keep.of sl)
      have D4 := D2.same sl
      have hl1 : SqL K (upd H2 l (.lst [.int 0, .int 1, .int r2, .int 9999])) l [.int 0, .int 1, .int r2, .int 9999] := .inl (.inl upd_same)
      refine .inl ⟨d, c, l, N + 1 + 1, _, rfl, D4, by omega, hl1, List.cons_ne_nil _ _, (show 4 ≤ 1000 by decide), hl.1, hl.2, fun H5 v k5 D5 hv => ?_⟩
      have hi : ∃ i : Int, v = .int i ∧ 0 ≤ i ∧ i ≤ 9999 := by
        simp only [List.mem_cons, List.not_mem_nil, or_false] at hv
        rcases hv with rfl | rfl | rfl | rfl <;> exact ⟨_, rfl, by omega, by omega⟩
      obtain ⟨i, rfl, i0, i1⟩ := hi
      exact done H5 _ "let" _ _ (kk.trans k5) D5 (by omega) (.let_ i i0 i1) (.int i) rfl
    · refine ⟨.int way, rfl, rfl, _, rfl, ite2 (fun e3 => ?_) (fun e3 => ?_)⟩
      · refine ⟨Nat.le_trans (by decide) le2, fun p np => ?_⟩
        have s := same_upd (o := .tup [.str "key"]) np
        exact q _ _ _ (k1.trans (Keep.of s)) ((D1.same s).mono (by omega)) .key (.tup (.inl (.inl upd_same)) (.cons (.str "key") .nil))
      · have W1 := W.keep D k1
        obtain ⟨L, hL⟩ := W1.dct
        refine ⟨.ref d, rfl, .ref u, rfl, u, .ref nl, rfl, ?_, ?_⟩
        · rw [← wK_names nl L]
          exact DGet.k (k := .inr "names") hL
        · refine .inl ⟨d, c, nl, N + 1, _, rfl, D1, by omega, .inl (.inl W1.nms), ?_, ?_, W1.nd, W1.nc, fun H5 v k5 D5 hv => ?_⟩
          · intro e
            have := congrArg List.length e
            rw [List.length_map, W1.len] at this
            cases this
          · rw [List.length_map, W1.len]
            decide
          · obtain ⟨z, hz, rfl⟩ := List.mem_map.mp hv
            exact done H5 _ "var" _ _ (k1.trans k5) D5 (by omega) (.var z hz) (.str z) rfl
end
end L4

namespace L4
open PySem PySem.Spec PyProof.Rows L2 GR
/-- the draws of a term of depth n, at most -/
def dr : Nat → Int
  | 0 => 10
  | n + 1 => 20 + 6 * dr n
theorem dr_pos : ∀ n, 10 ≤ dr n
  | 0 => by simp only [dr]; omega
  | n + 1 => by
    have := dr_pos n
    simp only [dr]
    omega
theorem Wo.upd {H : Hp} {d c u nl a : Addr} {zs : List Str} {o : HO} (W : Wo H d c u nl zs) (h1 : a ≠ u) (h2 : a ≠ nl) : Wo (L2.upd H a o) d c u nl zs := by
  obtain ⟨L, hL⟩ := W.dct
  refine ⟨⟨L, ?_⟩, ?_, W.nd, W.nc, W.len, W.all, W.inn⟩
  · rw [upd_ne h1.symm]
    exact hL
  · rw [upd_ne h2.symm]
    exact W.nms
theorem Wo.new {H : Hp} {d c u nl a : Addr} {zs : List Str} (W : Wo H d c u nl zs) (na : H a = none) : a ≠ u ∧ a ≠ nl := by
  obtain ⟨L, hL⟩ := W.dct
  exact ⟨(ne_of_none hL na).symm, (ne_of_none W.nms na).symm⟩
theorem Wo.same {H H' : Hp} {d c u nl : Addr} {zs : List Str} (W : Wo H d c u nl zs) (s : Same H H') : Wo H' d c u nl zs := by
  obtain ⟨L, hL⟩ := W.dct
  exact ⟨⟨L, s _ _ hL⟩, s _ _ W.nms, W.nd, W.nc, W.len, W.all, W.inn⟩
theorem Deck.upd {H : Hp} {d c a : Addr} {N : Int} {o : HO} (D : Deck H d c N) (h1 : a ≠ d) (h2 : a ≠ c) : Deck (L2.upd H a o) d c N := by
  obtain ⟨cells, m, n, g1, g2, g3⟩ := D
  refine ⟨cells, m, n, ?_, ?_, g3⟩
  · rw [upd_ne h1.symm]
    exact g1
  · rw [upd_ne h2.symm]
    exact g2
theorem dpAll_len {K : PySem.W.Frag} {H : Hp} : ∀ {vs : List V} {ds : List PyData}, DpAll K H vs ds → vs.length = ds.length
  | [], _, h => by
    cases h
    rfl
  | v :: vs, _, h => by
    cases h with
    | cons _ h2 => rw [List.length_cons, List.length_cons, dpAll_len h2]
theorem dpAll_append {K : PySem.W.Frag} {H : Hp} : ∀ {vs us : List V} {ds es : List PyData}, DpAll K H vs ds → DpAll K H us es → DpAll K H (vs ++ us) (ds ++ es)
  | [], _, _, _, h, g => by
    cases h
    exact g
  | v :: vs, _, _, _, h, g => by
    cases h with
    | cons h1 h2 => exact .cons h1 (dpAll_append h2 g)
/-- terms are being made into the list at b -/
def TInv (K : PySem.W.Frag) (n : Nat) (d c u nl : Addr) (zs : List Str) (H1 : Hp) (b : Addr) (N : Int) (i : Nat) (H : Hp) : Prop :=
  ∃ vs ds, vs.length = i ∧ H b = some (.lst vs) ∧ (∀ a o, a ≠ d → a ≠ c → a ≠ u → a ≠ b → H1 a = some o → H a = some o) ∧ Deck H d c (N + (i : Int) * dr n) ∧ Wo H d c u nl zs ∧ DpAll K H vs ds ∧ ∀ x, x ∈ ds → Ex zs (n + 2) x
/-- any expression -/
def sp_term (K : PySem.W.Frag) (n : Nat) : Sp := fun vs H Q _ => ∃ (d c u nl : Addr) (N deep ins : Int) (zs : List Str), vs = [.ref d, .ref u, .int deep, .int ins] ∧ Deck H d c N ∧ N + dr n < 2 ^ 58 ∧ Wo H d c u nl zs ∧ deep ≤ (n : Int) ∧
  ∀ H' v x, KeepW d c u H H' → Deck H' d c (N + dr n) → Wo H' d c u nl zs → Ex zs (n + 2) x → Dp K H' v x → Q v H'
theorem TInv.start {K : PySem.W.Frag} {n : Nat} {d c u nl : Addr} {zs : List Str} {H1 : Hp} {b : Addr} {N : Int} (D : Deck H1 d c N) (W : Wo H1 d c u nl zs) (nb : H1 b = none) : TInv K n d c u nl zs H1 b N 0 (L2.upd H1 b (.lst [])) := by
  have s := same_upd (o := .lst []) nb
  refine ⟨[], [], rfl, upd_same, fun a o _ _ _ h e => s _ _ e, (D.same s).mono ?_, W.same s, .nil, fun x hx => (nomatch hx)⟩
  rw [Int.natCast_zero, Int.zero_mul]
  omega
theorem TInv.step {K : PySem.W.Frag} {n : Nat} {d c u nl : Addr} {zs : List Str} {H1 H : Hp} {b : Addr} {N M deep ins : Int} {i : Nat} {Q : VK} {E : XK} (D : Deck H1 d c M) (W : Wo H1 d c u nl zs) (nb : H1 b = none) (T : TInv K n d c u nl zs H1 b N i H) (hi : i ≤ 2)
    (hN : N + 3 * dr n < 2 ^ 58) (hd : deep ≤ (n : Int)) (q : ∀ H' v, (∃ acc, H' b = some (.lst acc) ∧ acc.length < sizeLine ∧ TInv K n d c u nl zs H1 b N (i + 1) (L2.upd H' b (.lst (acc ++ [v])))) → Q v H') :
    sp_term K n [.ref d, .ref u, .int deep, .int ins] H Q E := by
  obtain ⟨vs, ds, hlen, hb, kk, D2, W2, hdp, hex⟩ := T
  have h1 := D.new nb
  have h2 := W.new nb
  have p := dr_pos n
  have hm : (i : Int) * dr n ≤ 2 * dr n := Int.mul_le_mul_of_nonneg_right (by omega) (by omega)
  have hs : ((i + 1 : Nat) : Int) * dr n = (i : Int) * dr n + dr n := by rw [Int.natCast_succ, Int.add_mul, Int.one_mul]
  refine ⟨d, c, u, nl, _, deep, ins, zs, rfl, D2, ?_, W2, hd, fun H' v x k D3 W3 he hv => q _ _ ?_⟩
  · omega
  have hb3 := k b _ h1.1 h1.2 h2.1 hb
  have kt := k.t D2 W2
  have kt2 : KeepT H' (L2.upd H' b (.lst (vs ++ [v]))) := KeepT.lst hb3
  refine ⟨vs, hb3, small1000 (by omega), vs ++ [v], ds ++ [x], by rw [List.length_append, hlen]; rfl, upd_same, ?_, ?_, W3.upd h2.1 h2.2, ?_, ?_⟩
  · intro a o n1 n2 n3 n4 e
    rw [upd_ne n4]
    exact k _ _ n1 n2 n3 (kk a o n1 n2 n3 n4 e)
  · refine (D3.upd h1.1 h1.2).mono ?_
    omega
  · refine dpAll_append (dp_keepAll (kt.trans kt2) _ _ (flatDs_of fun y hy => (hex y hy).flat) hdp) (.cons (dp_keep kt2 _ _ he.flat hv) .nil)
  · intro y hy
    rcases List.mem_append.mp hy with hy | hy
    · exact hex y hy
    · rw [List.mem_singleton.mp hy]
      exact he
end L4

namespace L4
open PySem PySem.Spec PyProof.Rows L2 GR
theorem noSl_name {x : Str} {pos : Pos} : NoSl (.Name x pos) := fun _ _ => rfl
abbrev fours : List Str := ["count", "sum", "most", "first"]
def manyK : List (Key × V) := [(.inr "count", .int 1), (.inr "sum", .int 2), (.inr "most", .int 3), (.inr "first", .int 2)]
theorem many_of : ∀ o, o ∈ fours → ∃ m : Nat, valV (mergeK [] manyK) (.inr o) = some (.int (m : Int)) ∧ (o, m + 1) ∈ aggs ∧ m ≤ 3 ∧ 1 ≤ m := by
  intro o ho
  simp only [List.mem_cons, List.not_mem_nil, or_false] at ho
  rcases ho with rfl | rfl | rfl | rfl
  · exact ⟨1, by decide, by decide, by decide, by decide⟩
  · exact ⟨2, by decide, by decide, by decide, by decide⟩
  · exact ⟨3, by decide, by decide, by decide, by decide⟩
  · exact ⟨2, by decide, by decide, by decide, by decide⟩
theorem TInv.keep {K : PySem.W.Frag} {n : Nat} {d c u nl : Addr} {zs : List Str} {H0 H1 H : Hp} {b : Addr} {N : Int} {i : Nat} (T : TInv K n d c u nl zs H1 b N i H) (k : KeepW d c u H0 H1) (nb : H0 b = none) : KeepW d c u H0 H := by
  obtain ⟨vs, ds, hlen, hb, kk, _⟩ := T
  exact fun a o n1 n2 n3 e => kk a o n1 n2 n3 (ne_of_none e nb) (k a o n1 n2 n3 e)
theorem KeepW.free {d c u a : Addr} {H H' : Hp} (s : KeepW d c u H H') (na : H' a = none) (h1 : a ≠ d) (h2 : a ≠ c) (h3 : a ≠ u) : H a = none := by
  cases q : H a with
  | none => rfl
  | some o =>
    rw [s a o h1 h2 h3 q] at na
    cases na
section
variable {P : Program} {w : World} {K : PySem.W.Frag} {mg : Str → Option Value} {base : Heap}
abbrev s_law_rows : Stmt := topS 24
abbrev N_rows : List Str := ["_law_deck_here", "_law_world_here", "_law_deep", "_law_inside", "_law_table", "_law_word", "_law_extra", "_law_test", "_law_many", "_law_k"]
abbrev ps_term : List Str := ["_law_deck_here", "_law_world_here", "_law_deep", "_law_inside"]
theorem sc_law_rows : FnScope N_rows ps_term (defScope s_law_rows) := ⟨rfl, rfl, rfl, by decide +kernel, rfl, by decide +kernel, by decide +kernel⟩
/-- an aggregate whose parts are terms of depth n -/
def sp_rows (K : PySem.W.Frag) (n : Nat) : Sp := fun vs H Q _ => ∃ (d c u nl : Addr) (N deep ins : Int) (zs : List Str), vs = [.ref d, .ref u, .int deep, .int ins] ∧ Deck H d c N ∧ N + 10 + 6 * dr n < 2 ^ 58 ∧ Wo H d c u nl zs ∧ deep ≤ (n : Int) + 1 ∧
  ∀ H' v x, KeepW d c u H H' → Deck H' d c (N + 10 + 6 * dr n) → Wo H' d c u nl zs → Ex zs (n + 3) x → Dp K H' v x → Q v H'
theorem ok_rows {n : Nat} {f f_law_draw f_law_pick f_law_term : Addr} {fd fd_law_draw fd_law_pick fd_law_term : FuncData} {k : Nat} (F : Fun K "_law_rows" "_law_rows" s_law_rows f fd) (G_law_draw : FnOk P w K mg base CX0 k f_law_draw fd_law_draw ["_law_deck_here", "_law_most"] sp_draw)
    (g_law_draw : mg "_law_draw" = some (.ref f_law_draw)) (K_law_draw : PySem.W.keepIn K (.ref f_law_draw) = true) (b_law_draw : Binds K fd_law_draw ["_law_deck_here", "_law_most"] [])
    (G_law_pick : FnOk P w K mg base CX0 k f_law_pick fd_law_pick ["_law_deck_here", "_law_some"] (sp_pick K))
    (g_law_pick : mg "_law_pick" = some (.ref f_law_pick)) (K_law_pick : PySem.W.keepIn K (.ref f_law_pick) = true) (b_law_pick : Binds K fd_law_pick ["_law_deck_here", "_law_some"] [])
    (G_law_term : FnOk P w K mg base CX0 k f_law_term fd_law_term ps_term (sp_term K n))
    (g_law_term : mg "_law_term" = some (.ref f_law_term)) (K_law_term : PySem.W.keepIn K (.ref f_law_term) = true) (b_law_term : Binds K fd_law_term ps_term [])
    (mrange : mg "range" = none) (mtuple : mg "tuple" = none) :
    FnOk P w K mg base CX0 (k + 1) f fd ps_term (sp_rows K n) := by
  have nd := sc_law_rows.nd
  refine F.ok sc_law_rows (fun vs H Q E h => ?_) (fun cdv A outer s H vs Q E hr h => ?_)
  · obtain ⟨d, c, u, nl, N, deep, ins, zs, rfl, _⟩ := h
    rfl
  obtain ⟨d, c, u, nl, N, deep, ins, zs, rfl, D, hN, W, hdeep, q⟩ := h
  have hp := dr_pos n
  have hu1 : (A.deeper (envOfC "_law_rows" (defScope s_law_rows) s.heap.objs.size f cdv)).units + 1 < cLine := by
    have := hr.units
    omega
  refine ⟨_, (pss_cons (ps_set (i := 4) nd rfl (.inl rfl) (pe_call G_law_pick hr (by rfl) g_law_pick K_law_pick b_law_pick .nil pass0 (pa_cons (pv 0) (pa_cons (pe_dget hu1 (pv 1) pe_str noSl_str) pa_nil))))
      (pss_cons (ps_set (i := 5) nd rfl (.inl rfl) (pe_call G_law_pick hr (by rfl) g_law_pick K_law_pick b_law_pick .nil pass0 (pa_cons (pv 0) (pa_cons (pe_lst (pa_cons pe_str (pa_cons pe_str (pa_cons pe_str (pa_cons pe_str pa_nil))))) pa_nil))))
      (pss_cons (ps_par (i := 6) (j := 7) rfl nd rfl rfl (by decide) rfl rfl (pa_cons (pe_tup pa_nil) (pa_cons (pe_tup (pa_cons pe_str (pa_cons (pv 4) (pa_cons (pe_tup (pa_cons pe_str pa_nil)) (pa_cons pe_str pa_nil))))) pa_nil)) (by rfl))
      (Evl.pss_cut (ps_if (pt_cmpR op_eq (pe_call G_law_draw hr (by rfl) g_law_draw K_law_draw b_law_draw .nil pass0 (pa_cons (pv 0) (pa_cons pe_int pa_nil))) pe_int (nomark _))
      (pss_cons (ps_set (i := 6) nd rfl (.inl rfl) (pe_callTy call_tuple_of (by rfl) mtuple boot_tuple (pa_cons (pe_lc (own := [("_law_k", 9)]) rfl nd (pi_range1 rfl mrange (pa_cons (pe_call G_law_draw hr (by rfl) g_law_draw K_law_draw b_law_draw .nil pass0 (pa_cons (pv 0) (pa_cons pe_int pa_nil))) pa_nil)) (blkOk_by (N := N_rows) (sc := defScope s_law_rows) (by decide +kernel)) (fun _ _ _ _ _ => (pg_name (i := 9) nd rfl (Or.inl rfl))) (fun _ _ _ _ _ => pts_nil)
          (te := tCall (sp_term K n) [] E0 (tCons (tVar 0) (tCons (tVar 1) (tCons (tOp (rI0 fun i j => .int (i - j)) (tVar 2) (tC (.int 1))) (tCons (tVar 3) tNil)))))
          (fun _ _ _ _ _ => (pe_call G_law_term hr (by rfl) g_law_term K_law_term b_law_term .nil pass0 (pa_cons (pv 0) (pa_cons (pv 1) (pa_cons (pe_op op_sub (pv 2) pe_int) (pa_cons (pv 3) pa_nil))))))) pa_nil)))
        (pss_one (ps_if (pt_cmpR op_eq (pe_call G_law_draw hr (by rfl) g_law_draw K_law_draw b_law_draw .nil pass0 (pa_cons (pv 0) (pa_cons pe_int pa_nil))) pe_int (nomark _))
        (pss_one (ps_set (i := 7) nd rfl (.inl rfl) (pe_call G_law_term hr (by rfl) g_law_term K_law_term b_law_term .nil pass0 (pa_cons (pv 0) (pa_cons (pv 1) (pa_cons (pe_op op_sub (pv 2) pe_int) (pa_cons (pv 3) pa_nil)))))))
        pss_nil)))
      pss_nil)
      (pss_cons (ps_set (i := 8) nd rfl (.inl rfl) (pe_dget hu1 (pe_disp (pps_cons pe_str pe_int (pps_cons pe_str pe_int (pps_cons pe_str pe_int (pps_cons pe_str pe_int pps_nil)))) (by decide) rfl (by simp) (by decide)) (pv 5) noSl_name))
      (pss_one (ps_ret (pe_op op_catT (pe_tup (pa_cons (pv 5) (pa_cons (pv 4) (pa_cons (pv 6) (pa_cons (pv 7) pa_nil))))) (pe_callTy call_tuple_of (by rfl) mtuple boot_tuple (pa_cons (pe_lc (own := [("_law_k", 9)]) rfl nd (pi_range1 rfl mrange (pa_cons (pv 8) pa_nil)) (blkOk_by (N := N_rows) (sc := defScope s_law_rows) (by decide +kernel)) (fun _ _ _ _ _ => (pg_name (i := 9) nd rfl (Or.inl rfl))) (fun _ _ _ _ _ => pts_nil)
          (te := tCall (sp_term K n) [] E0 (tCons (tVar 0) (tCons (tVar 1) (tCons (tOp (rI0 fun i j => .int (i - j)) (tVar 2) (tC (.int 1))) (tCons (tVar 3) tNil)))))
          (fun _ _ _ _ _ => (pe_call G_law_term hr (by rfl) g_law_term K_law_term b_law_term .nil pass0 (pa_cons (pv 0) (pa_cons (pv 1) (pa_cons (pe_op op_sub (pv 2) pe_int) (pa_cons (pv 3) pa_nil))))))) pa_nil)))))))))), ?_⟩
  -- table
  obtain ⟨L, hL⟩ := W.dct
  refine ⟨.ref d, rfl, .ref u, rfl, u, .ref nl, rfl, ?_, .inl ⟨d, c, nl, N, _, rfl, D, by omega, .inl (.inl W.nms), ?_, ?_, W.nd, W.nc, fun H1 v1 k1 D1 hv1 => ?_⟩⟩
  · rw [← wK_names nl L]
    exact DGet.k (k := .inr "names") hL
  · intro e
    have := congrArg List.length e
    rw [List.length_map, W.len] at this
    cases this
  · rw [List.length_map, W.len]
    decide
  obtain ⟨t, ht, rfl⟩ := List.mem_map.mp hv1
  have W1 := W.keep D k1
  -- word
  refine ⟨.ref d, rfl, small_le (show 4 ≤ 1000 by decide), fun l nl' => ?_⟩
  have sl := same_upd (o := .lst [.str "count", .str "sum", .str "most", .str "first"]) nl'
  have hl := D1.new nl'
  have hl1 : SqL K (upd H1 l (.lst [.str "count", .str "sum", .str "most", .str "first"])) l (fours.map V.str) := .inl (.inl upd_same)
  refine .inl ⟨d, c, l, N + 1, _, rfl, D1.same sl, by omega, hl1, List.cons_ne_nil _ _, by decide, hl.1, hl.2, fun H2 v2 k2 D2 hv2 => ?_⟩
  obtain ⟨o, ho, rfl⟩ := List.mem_map.mp hv2
  have W2 := (W1.same sl).keep (D1.same sl) k2
  have k02 : KeepW d c u H H2 := ((k1.trans (Keep.of sl)).trans k2).w u
  clear hl1 hL
  -- the pair
  refine ⟨Nat.zero_le _, fun p0 np0 => ⟨.str t, rfl, Nat.le_trans (by decide) le2, fun p1 np1 => ⟨small_le (show 4 ≤ 1000 by decide), fun p2 np2 => ?_⟩⟩⟩
  have s0 := same_upd (o := .tup []) np0
  have s1 := same_upd (o := .tup [.str "key"]) np1
  have s2 := same_upd (o := .tup [.str "cell", .str t, .ref p1, .str "in"]) np2
  have s02 := (s0.trans s1).trans s2
  have x0 := s2 _ _ (s1 _ _ (show upd H2 p0 (.tup []) p0 = _ from upd_same))
  have x1 := s2 _ _ (show upd (upd H2 p0 (.tup [])) p1 (.tup [.str "key"]) p1 = _ from upd_same)
  have x2 : upd (upd (upd H2 p0 (.tup [])) p1 (.tup [.str "key"])) p2 (.tup [.str "cell", .str t, .ref p1, .str "in"]) p2 = some (.tup [.str "cell", .str t, .ref p1, .str "in"]) := upd_same
  refine ⟨_, _, rfl, ?_⟩
  revert s02 x0 x1 x2
  generalize upd (upd (upd H2 p0 (.tup [])) p1 (.tup [.str "key"])) p2 (.tup [.str "cell", .str t, .ref p1, .str "in"]) = H3
  intro s02 x0 x1 x2
  have k03 := k02.trans (KeepW.of s02)
  have D3 := D2.same s02
  have W3 := W2.same s02
  have dp0 : Dp K H3 (.ref p0) (.tuple []) := .tup (.inl (.inl x0)) .nil
  have dp2 : Dp K H3 (.ref p2) (.tuple [.str "cell", .str t, .tuple [.str "key"], .str "in"]) := .tup (.inl (.inl x2)) (.cons (.str _) (.cons (.str _) (.cons (.tup (.inl (.inl x1)) (.cons (.str _) .nil)) (.cons (.str _) .nil))))
  have ex2 : Ex zs (n + 2) (.tuple [.str "cell", .str t, .tuple [.str "key"], .str "in"]) := .cell (n + 1) t _ _ ht W.inn (.leaf n _ .key)
  refine ⟨fun σ' H' => ∃ (pe : Addr) (te : V) (xs : List PyData) (y : PyData), σ' = [some (.ref d), some (.ref u), some (.int deep), some (.int ins), some (.str t), some (.str o), some (.ref pe), some te, none, none] ∧ KeepW d c u H H' ∧ Deck H' d c (N + 5 + 3 * dr n) ∧ Wo H' d c u nl zs ∧
    Dp K H' (.ref pe) (.tuple xs) ∧ xs.length ≤ 2 ∧ (∀ x, x ∈ xs → Ex zs (n + 2) x) ∧ Dp K H' te y ∧ Ex zs (n + 2) y, ?_, ?_⟩
  · refine ⟨.ref d, rfl, d, c, N + 1 + 1, 2, rfl, D3, by omega, by decide, by decide, fun H4 r4 k4 D4 r40 r41 => ⟨rfl, _, rfl, ite2 (fun e4 => ?_) (fun e4 => ?_)⟩⟩
    · have W4 := W3.keep D3 k4
      refine ⟨.ref d, rfl, d, c, N + 1 + 1 + 1, 3, rfl, D4, by omega, by decide, by decide, fun H5 r5 k5 D5 r50 r51 => ?_⟩
      obtain ⟨m, rfl⟩ := Int.eq_ofNat_of_zero_le r50
      have W5 := W4.keep D4 k5
      refine ⟨(m : Int), rfl, by omega, by omega, fun B nB => ?_⟩
      have em : ((m : Int)).toNat = m := by omega
      rw [em]
      have hm : (m : Int) * dr n ≤ 2 * dr n := Int.mul_le_mul_of_nonneg_right (by omega) (by omega)
      refine lc_range (n := m) (fun i H' => TInv K n d c u nl zs H5 B (N + 1 + 1 + 1 + 1) i H') (TInv.start D5 W5 nB) ?_ ?_
      · rintro i H6 hi T
        exact ⟨rfl, yes_then ⟨.ref d, rfl, .ref u, rfl, .int deep, rfl, deep, 1, rfl, rfl, .int ins, rfl, TInv.step (E := E) D5 W5 nB T (by omega) (by omega) (by omega) (fun H' v h => h)⟩⟩
      · rintro H6 T
        have k36 := T.keep (((k4.trans k5).w u)) (Keep.free (k4.trans k5) nB (D5.new nB).1 (D5.new nB).2)
        obtain ⟨vs, ds, hlen, hb, kk, D6, W6, hdp, hex⟩ := T
        refine ⟨B, _, rfl, .inl ⟨.inl (.inl hb), fun l1 nl1 => ?_⟩⟩
        have s7 := same_upd (o := .tup vs) nl1
        have D7 := D6.same s7
        have W7 := W6.same s7
        have k37 := k36.trans (KeepW.of s7)
        have dpx : Dp K (upd H6 l1 (.tup vs)) (.ref l1) (.tuple ds) := .tup (.inl (.inl upd_same)) (dp_keepAll (KeepT.of s7) _ _ (flatDs_of fun y hy => (hex y hy).flat) hdp)
        have fds : flatD (.tuple ds) = true := by rw [flatD]; exact flatDs_of fun y hy => (hex y hy).flat
        have ldx : ds.length ≤ 2 := by
          rw [← dpAll_len hdp, hlen]
          omega
        revert D7 W7 k37 dpx
        generalize upd H6 l1 (.tup vs) = H7
        intro D7 W7 k37 dpx
        refine ⟨.ref d, rfl, d, c, _, 2, rfl, D7, by omega, by decide, by decide, fun H8 r8 k8 D8 r80 r81 => ⟨rfl, _, rfl, ite2 (fun e8 => ?_) (fun e8 => ?_)⟩⟩
        · have W8 := W7.keep D7 k8
          refine ⟨.ref d, rfl, .ref u, rfl, .int deep, rfl, deep, 1, rfl, rfl, .int ins, rfl, d, c, u, nl, _, deep - 1, ins, zs, rfl, D8, by omega, W8, by omega, fun H9 v x k9 D9 W9 he hv => ?_⟩
          refine ⟨l1, v, ds, x, rfl, (k03.trans k37).trans ((k8.w u).trans k9), D9.mono (by omega), W9, dp_keep ((k8.t D7).trans (k9.t D8 W8)) _ _ fds dpx, ldx, hex, hv, he⟩
        · refine ⟨l1, .ref p2, ds, _, rfl, (k03.trans k37).trans (k8.w u), D8.mono (by omega), W7.keep D7 k8, dp_keep (k8.t D7) _ _ fds dpx, ldx, hex, dp_keep ((k37.t D3 W3).trans (k8.t D7)) _ _ ex2.flat dp2, ex2⟩
    · exact ⟨p0, .ref p2, [], _, rfl, k03.trans (k4.w u), D4.mono (by omega), W3.keep D3 k4, dp_keep (k4.t D3) _ _ rfl dp0, Nat.zero_le _, fun x hx => (nomatch hx), dp_keep (k4.t D3) _ _ ex2.flat dp2, ex2⟩
  rintro σ' H4 ⟨pe, te, xs, y, rfl, k4, D4, W4, dpe, lxs, hxs, dte, hy⟩
  obtain ⟨m, hm1, hm2, hm3, hm4⟩ := many_of o ho
  intro p np
  have sp := same_upd (o := .dK []) np
  refine ⟨upd_same, manyK, rfl, by decide, .str o, rfl, p, .int (m : Int), rfl, by rw [← hm1]; exact DGet.k (k := .inr o) upd_same, ?_⟩
  have s5 : Same H4 (upd (upd H4 p (.dK [])) p (.dK (mergeK [] manyK))) := fun b ob e => by
    rw [upd_ne (ne_of_none e np)]
    exact sp _ _ e
  revert s5
  generalize upd (upd H4 p (.dK [])) p (.dK (mergeK [] manyK)) = H5
  intro s5
  refine ⟨.str o, rfl, .str t, rfl, .ref pe, rfl, te, rfl, small_le (show 4 ≤ 1000 by decide), fun a na => ?_⟩
  have s6 := same_upd (o := .tup [.str o, .str t, .ref pe, te]) na
  have ha : upd H5 a (.tup [.str o, .str t, .ref pe, te]) a = some (.tup [.str o, .str t, .ref pe, te]) := upd_same
  revert s6 ha
  generalize upd H5 a (.tup [.str o, .str t, .ref pe, te]) = H6
  intro s6 ha
  have s46 := s5.trans s6
  have k6 := k4.trans (KeepW.of s46)
  have D6 := D4.same s46
  have W6 := W4.same s46
  have fx : flatD (.tuple xs) = true := by rw [flatD]; exact flatDs_of fun x hx => (hxs x hx).flat
  refine ⟨.int (m : Int), rfl, (m : Int), rfl, by omega, by omega, fun B nB => ?_⟩
  have em : ((m : Int)).toNat = m := by omega
  rw [em]
  have hm : (m : Int) * dr n ≤ 3 * dr n := Int.mul_le_mul_of_nonneg_right (by omega) (by omega)
  refine lc_range (n := m) (fun i H' => TInv K n d c u nl zs H6 B (N + 5 + 3 * dr n) i H') (TInv.start D6 W6 nB) ?_ ?_
  · rintro i H7 hi T
    exact ⟨rfl, yes_then ⟨.ref d, rfl, .ref u, rfl, .int deep, rfl, deep, 1, rfl, rfl, .int ins, rfl, TInv.step (E := E) D6 W6 nB T (by omega) (by omega) (by omega) (fun H' v h => h)⟩⟩
  · rintro H7 T
    have k7 := T.keep KeepW.refl nB
    obtain ⟨vs, ds, hlen, hb, kk, D7, W7, hdp, hex⟩ := T
    refine ⟨B, _, rfl, .inl ⟨.inl (.inl hb), fun l nl1 => ?_⟩⟩
    have s8 := same_upd (o := .tup vs) nl1
    have t67 := k7.t D6 W6
    have t68 := t67.trans (KeepT.of s8)
    have ha8 := t68.1 _ _ ha
    have hl8 : upd H7 l (.tup vs) l = some (.tup vs) := upd_same
    refine ⟨a, l, _, _, rfl, rfl, .inl (.inl ha8), .inl (.inl hl8), List.cons_ne_nil _ _, ?_, fun e => ?_, fun _ r nr => ?_⟩
    · rw [hlen]
      exact small_le (show 4 + m ≤ 1000 by omega)
    · rw [e] at hlen
      rw [← hlen] at hm4
      exact absurd hm4 (by decide)
    have s9 := same_upd (o := .tup ([.str o, .str t, .ref pe, te] ++ vs)) nr
    have t69 := t68.trans (KeepT.of s9)
    have t49 := (KeepT.of s46).trans t69
    refine q _ _ (.tuple (.str o :: .str t :: .tuple xs :: y :: ds)) (k6.trans (k7.trans (KeepW.of (s8.trans s9)))) (((D7.same s8).same s9).mono (by omega)) ((W7.same s8).same s9) ?_ ?_
    · refine .agg (n + 2) o t xs (y :: ds) ?_ ht lxs hxs ?_
      · rw [List.length_cons, ← dpAll_len hdp, hlen]
        exact hm2
      · intro z hz
        rcases List.mem_cons.mp hz with rfl | hz
        · exact hy
        · exact hex z hz
    · refine .tup (.inl (.inl upd_same)) (.cons (.str o) (.cons (.str t) (.cons (dp_keep t49 _ _ fx dpe) (.cons (dp_keep t49 _ _ hy.flat dte) ?_))))
      exact dp_keepAll ((KeepT.of s8).trans (KeepT.of s9)) _ _ (flatDs_of fun z hz => (hex z hz).flat) hdp
end
end L4

namespace L4
open PySem PySem.Spec PyProof.Rows L2 GR
abbrev sevens : List Str := ["+", "-", "*", "<", "=", "at", "at"]
theorem seven_op : ∀ o, o ∈ sevens → o ∈ opws := by
  intro o ho
  simp only [List.mem_cons, List.not_mem_nil, or_false] at ho
  rcases ho with rfl | rfl | rfl | rfl | rfl | rfl | rfl <;> decide
section
variable {P : Program} {w : World} {K : PySem.W.Frag} {mg : Str → Option Value} {base : Heap}
abbrev s_law_term : Stmt := topS 25
abbrev N_term : List Str := ["_law_deck_here", "_law_world_here", "_law_deep", "_law_inside", "_law_way", "_law_one", "_law_other"]
theorem sc_law_term : FnScope N_term ps_term (defScope s_law_term) := ⟨rfl, rfl, rfl, by decide +kernel, rfl, by decide +kernel, by decide +kernel⟩
/-- one step: the terms of depth n, the aggregates upon them give the terms of depth n + 1; at depth 0 there are leaves only (j = 0) -/
theorem ok_term_step {j : Nat} {f f_law_draw f_law_pick f_law_leaf f_law_rows : Addr} {fd fd_law_draw fd_law_pick fd_law_leaf fd_law_rows : FuncData} {k : Nat} (F : Fun K "_law_term" "_law_term" s_law_term f fd) (G_law_draw : FnOk P w K mg base CX0 k f_law_draw fd_law_draw ["_law_deck_here", "_law_most"] sp_draw)
    (g_law_draw : mg "_law_draw" = some (.ref f_law_draw)) (K_law_draw : PySem.W.keepIn K (.ref f_law_draw) = true) (b_law_draw : Binds K fd_law_draw ["_law_deck_here", "_law_most"] [])
    (G_law_pick : FnOk P w K mg base CX0 k f_law_pick fd_law_pick ["_law_deck_here", "_law_some"] (sp_pick K))
    (g_law_pick : mg "_law_pick" = some (.ref f_law_pick)) (K_law_pick : PySem.W.keepIn K (.ref f_law_pick) = true) (b_law_pick : Binds K fd_law_pick ["_law_deck_here", "_law_some"] [])
    (G_law_leaf : FnOk P w K mg base CX0 k f_law_leaf fd_law_leaf ["_law_deck_here", "_law_world_here"] (sp_leaf K))
    (g_law_leaf : mg "_law_leaf" = some (.ref f_law_leaf)) (K_law_leaf : PySem.W.keepIn K (.ref f_law_leaf) = true) (b_law_leaf : Binds K fd_law_leaf ["_law_deck_here", "_law_world_here"] [])
    (G_law_rows : FnOk P w K mg base CX0 k f_law_rows fd_law_rows ps_term (fun vs H Q E => ∃ n, j = n + 1 ∧ sp_rows K n vs H Q E))
    (g_law_rows : mg "_law_rows" = some (.ref f_law_rows)) (K_law_rows : PySem.W.keepIn K (.ref f_law_rows) = true) (b_law_rows : Binds K fd_law_rows ps_term [])
    (G_law_term : FnOk P w K mg base CX0 k f fd ps_term (fun vs H Q E => ∃ n, j = n + 1 ∧ sp_term K n vs H Q E))
    (g_law_term : mg "_law_term" = some (.ref f)) (K_law_term : PySem.W.keepIn K (.ref f) = true) (b_law_term : Binds K fd ps_term []) :
    FnOk P w K mg base CX0 (k + 1) f fd ps_term (sp_term K j) := by
  have nd := sc_law_term.nd
  refine F.ok sc_law_term (fun vs H Q E h => ?_) (fun cdv A outer s H vs Q E hr h => ?_)
  · obtain ⟨d, c, u, nl, N, deep, ins, zs, rfl, _⟩ := h
    rfl
  obtain ⟨d, c, u, nl, N, deep, ins, zs, rfl, D, hN, W, hdeep, q⟩ := h
  have hp := dr_pos j
  have hu1 : (A.deeper (envOfC "_law_term" (defScope s_law_term) s.heap.objs.size f cdv)).units + 1 < cLine := by
    have := hr.units
    omega
  refine ⟨_, (pss_cons (ps_asg (pe_op op_sub (pe_dget hu1 (pv 1) pe_str noSl_str) pe_int) (pg_sub (pv 1) pe_str (set_dict hu1)))
      (pss_cons (ps_set (i := 4) nd rfl (.inl rfl) (pe_call G_law_draw hr (by rfl) g_law_draw K_law_draw b_law_draw .nil pass0 (pa_cons (pv 0) (pa_cons pe_int pa_nil))))
      (pss_cons (ps_if (PW.pt (pw_or (pt_cmpR op_lt (pv 2) pe_int (nomark _)) (pw_or (pt_cmpR op_lt (pe_dget hu1 (pv 1) pe_str noSl_str) pe_int (nomark _)) (pw_or1 (pt_cmpR op_lt (pv 4) pe_int (nomark _))))))
      (pss_one (ps_ret (pe_call G_law_leaf hr (by rfl) g_law_leaf K_law_leaf b_law_leaf .nil pass0 (pa_cons (pv 0) (pa_cons (pv 1) pa_nil)))))
      pss_nil)
      (Evl.pss_cut (ps_if (PW.pt (pw_and (pt_cmpR op_gt (pv 4) pe_int (nomark _)) (pw_and1 (pt_cmpR op_lt (pv 3) pe_int (nomark _)))))
      (pss_one (ps_ret (pe_call G_law_rows hr (by rfl) g_law_rows K_law_rows b_law_rows .nil pass0 (pa_cons (pv 0) (pa_cons (pv 1) (pa_cons (pv 2) (pa_cons (pe_op op_add (pv 3) pe_int) pa_nil)))))))
      pss_nil)
      (pss_cons (ps_set (i := 5) nd rfl (.inl rfl) (pe_call G_law_term hr (by rfl) g_law_term K_law_term b_law_term .nil pass0 (pa_cons (pv 0) (pa_cons (pv 1) (pa_cons (pe_op op_sub (pv 2) pe_int) (pa_cons (pv 3) pa_nil))))))
      (pss_cons (ps_if (pt_cmpR op_lt (pv 4) pe_int (nomark _))
      (pss_one (ps_ret (pe_tup (pa_cons pe_str (pa_cons (pe_call G_law_pick hr (by rfl) g_law_pick K_law_pick b_law_pick .nil pass0 (pa_cons (pv 0) (pa_cons (pe_dget hu1 (pv 1) pe_str noSl_str) pa_nil))) (pa_cons (pv 5) (pa_cons (pe_call G_law_pick hr (by rfl) g_law_pick K_law_pick b_law_pick .nil pass0 (pa_cons (pv 0) (pa_cons (pe_dget hu1 (pv 1) pe_str noSl_str) pa_nil))) pa_nil)))))))
      pss_nil)
      (pss_cons (ps_set (i := 6) nd rfl (.inl rfl) (pe_call G_law_term hr (by rfl) g_law_term K_law_term b_law_term .nil pass0 (pa_cons (pv 0) (pa_cons (pv 1) (pa_cons (pe_op op_sub (pv 2) pe_int) (pa_cons (pv 3) pa_nil))))))
      (pss_cons (ps_if (pt_cmpR op_eq (pv 4) pe_int (nomark _))
      (pss_one (ps_ret (pe_tup (pa_cons pe_str (pa_cons (pv 5) (pa_cons (pv 6) (pa_cons (pe_call G_law_term hr (by rfl) g_law_term K_law_term b_law_term .nil pass0 (pa_cons (pv 0) (pa_cons (pv 1) (pa_cons (pe_op op_sub (pv 2) pe_int) (pa_cons (pv 3) pa_nil))))) pa_nil)))))))
      pss_nil)
      (pss_one (ps_ret (pe_tup (pa_cons (pe_call G_law_pick hr (by rfl) g_law_pick K_law_pick b_law_pick .nil pass0 (pa_cons (pv 0) (pa_cons (pe_lst (pa_cons pe_str (pa_cons pe_str (pa_cons pe_str (pa_cons pe_str (pa_cons pe_str (pa_cons pe_str (pa_cons pe_str pa_nil)))))))) pa_nil))) (pa_cons (pv 5) (pa_cons (pv 6) pa_nil)))))))))))))), ?_⟩
  -- one less may come
  obtain ⟨L, hL⟩ := W.dct
  refine ⟨.ref u, rfl, u, .int L, rfl, by rw [← wK_left nl L]; exact DGet.k (k := .inr "left") hL, L, 1, rfl, rfl, .ref u, rfl, u, _, rfl, DPut.k (k := .inr "left") hL (small1000 (show 2 ≤ 1000 by decide)), ?_⟩
  rw [wK_put]
  have hud := W.ud D
  have k1 : KeepW d c u H (upd H u (.dK (wK nl (L - 1)))) := fun b o n1 n2 n3 e => by
    rw [upd_ne n3]
    exact e
  have D1 := D.upd (o := .dK (wK nl (L - 1))) hud.1 hud.2
  have W1 : Wo (upd H u (.dK (wK nl (L - 1)))) d c u nl zs := by
    refine ⟨⟨L - 1, upd_same⟩, ?_, W.nd, W.nc, W.len, W.all, W.inn⟩
    rw [upd_ne W.un]
    exact W.nms
  revert k1 D1 W1
  generalize upd H u (.dK (wK nl (L - 1))) = H1
  intro k1 D1 W1
  clear hL
  refine ⟨.ref d, rfl, d, c, N, 14, rfl, D1, by omega, by decide, by decide, fun H2 way k2 D2 w0 w1 => ?_⟩
  have W2 := W1.keep D1 k2
  have k02 := k1.trans (k2.w u)
  obtain ⟨L2', hL2⟩ := W2.dct
  have lf : ∀ E', sp_leaf K [.ref d, .ref u] H2 Q E' := fun E' => ⟨d, c, u, nl, N + 1, zs, rfl, D2, by omega, W2, fun H' v x k D' hx hv => q H' v x (k02.trans (k.w u)) (D'.mono (by omega)) (W2.keep D2 k) (.leaf (j + 1) x hx) hv⟩
  refine ⟨.int deep, rfl, _, _, rfl, rfl, _, rfl, ite2 (fun e1 => iteT ⟨.ref d, rfl, .ref u, rfl, lf E⟩) (fun e1 => ⟨.ref u, rfl, u, .int L2', rfl, by rw [← wK_left nl L2']; exact DGet.k (k := .inr "left") hL2, _, _, rfl, rfl, _, rfl, ite2 (fun e2 => iteT ⟨.ref d, rfl, .ref u, rfl, lf E⟩) (fun e2 => ⟨.int way, rfl, _, _, rfl, rfl, _, rfl, ite2 (fun e3 => ⟨.ref d, rfl, .ref u, rfl, lf E⟩) (fun e3 => ?_)⟩)⟩)⟩
  have hd1 : ¬ deep < 1 := fun z => e1 (decide_eq_true z)
  obtain ⟨n, rfl⟩ : ∃ n, j = n + 1 := ⟨j - 1, by omega⟩
  have hpn := dr_pos n
  have hdr : dr (n + 1) = 20 + 6 * dr n := rfl
  have hlen7 : zs.map V.str ≠ [] := by
    intro e
    have := congrArg List.length e
    rw [List.length_map, W2.len] at this
    cases this
  have hlen8 : (zs.map V.str).length ≤ 1000 := by
    rw [List.length_map, W2.len]
    decide
  refine ⟨fun σ' H' => σ' = [some (.ref d), some (.ref u), some (.int deep), some (.int ins), some (.int way), none, none] ∧ H' = H2, ?_, ?_⟩
  · refine ⟨.int way, rfl, _, _, rfl, rfl, _, rfl, ite2 (fun e4 => ⟨.int ins, rfl, _, _, rfl, rfl, _, rfl, ite2 (fun e5 => ?_) (fun e5 => ⟨rfl, rfl⟩)⟩) (fun e4 => iteF ⟨rfl, rfl⟩)⟩
    exact ⟨.ref d, rfl, .ref u, rfl, .int deep, rfl, .int ins, rfl, ins, 1, rfl, rfl, n, rfl, d, c, u, nl, N + 1, deep, ins + 1, zs, rfl, D2, by omega, W2, by omega, fun H' v x k D' W' hx hv => q H' v x (k02.trans k) (D'.mono (by omega)) W' hx hv⟩
  rintro σ' H' ⟨rfl, rfl⟩
  refine ⟨.ref d, rfl, .ref u, rfl, .int deep, rfl, deep, 1, rfl, rfl, .int ins, rfl, n, rfl, d, c, u, nl, N + 1, deep - 1, ins, zs, rfl, D2, by omega, W2, by omega, fun H3 v1 x1 k3 D3 W3 he1 hv1 => ?_⟩
  have k03 := k02.trans k3
  refine ⟨.int way, rfl, _, _, rfl, rfl, _, rfl, ite2 (fun e6 => ?_) (fun e6 => ?_)⟩
  · -- a cell
    obtain ⟨L3, hL3⟩ := W3.dct
    refine ⟨.ref d, rfl, .ref u, rfl, u, .ref nl, rfl, by rw [← wK_names nl L3]; exact DGet.k (k := .inr "names") hL3, .inl ⟨d, c, nl, _, _, rfl, D3, by omega, .inl (.inl W3.nms), hlen7, hlen8, W3.nd, W3.nc, fun H4 v4 k4 D4 hv4 => ?_⟩⟩
    obtain ⟨t, ht, rfl⟩ := List.mem_map.mp hv4
    have W4 := W3.keep D3 k4
    obtain ⟨L4, hL4⟩ := W4.dct
    refine ⟨v1, rfl, .ref d, rfl, .ref u, rfl, u, .ref nl, rfl, by rw [← wK_names nl L4]; exact DGet.k (k := .inr "names") hL4, .inl ⟨d, c, nl, _, _, rfl, D4, by omega, .inl (.inl W4.nms), hlen7, hlen8, W4.nd, W4.nc, fun H5 v5 k5 D5 hv5 => ?_⟩⟩
    obtain ⟨y, hy, rfl⟩ := List.mem_map.mp hv5
    have W5 := W4.keep D4 k5
    refine ⟨small_le (show 4 ≤ 1000 by decide), fun p np => ?_⟩
    have s := same_upd (o := .tup [.str "cell", .str t, v1, .str y]) np
    refine q _ _ _ (k03.trans (((k4.trans k5).w u).trans (KeepW.of s))) ((D5.same s).mono (by omega)) (W5.same s) (.cell (n + 2) t y x1 ht hy he1) (.tup (.inl (.inl upd_same)) (.cons (.str _) (.cons (.str t) (.cons ?_ (.cons (.str y) .nil)))))
    exact dp_keep (((k4.t D3).trans (k5.t D4)).trans (KeepT.of s)) _ _ he1.flat hv1
  refine ⟨.ref d, rfl, .ref u, rfl, .int deep, rfl, deep, 1, rfl, rfl, .int ins, rfl, n, rfl, d, c, u, nl, _, deep - 1, ins, zs, rfl, D3, by omega, W3, by omega, fun H4 v2 x2 k4 D4 W4 he2 hv2 => ?_⟩
  have k04 := k03.trans k4
  have t4 := k4.t D3 W3
  refine ⟨.int way, rfl, rfl, _, rfl, ite2 (fun e7 => ?_) (fun e7 => ?_)⟩
  · -- an if
    refine ⟨v1, rfl, v2, rfl, .ref d, rfl, .ref u, rfl, .int deep, rfl, deep, 1, rfl, rfl, .int ins, rfl, n, rfl, d, c, u, nl, _, deep - 1, ins, zs, rfl, D4, by omega, W4, by omega, fun H5 v3 x3 k5 D5 W5 he3 hv3 => ⟨small_le (show 4 ≤ 1000 by decide), fun p np => ?_⟩⟩
    have s := same_upd (o := .tup [.str "if", v1, v2, v3]) np
    have t5 := k5.t D4 W4
    refine q _ _ _ (k04.trans (k5.trans (KeepW.of s))) ((D5.same s).mono (by omega)) (W5.same s) (.iff (n + 2) x1 x2 x3 he1 he2 he3) (.tup (.inl (.inl upd_same)) (.cons (.str _) (.cons ?_ (.cons ?_ (.cons ?_ .nil)))))
    · exact dp_keep ((t4.trans t5).trans (KeepT.of s)) _ _ he1.flat hv1
    · exact dp_keep (t5.trans (KeepT.of s)) _ _ he2.flat hv2
    · exact dp_keep (KeepT.of s) _ _ he3.flat hv3
  -- one of two
  refine ⟨.ref d, rfl, small_le (show 7 ≤ 1000 by decide), fun l nl' => ?_⟩
  have sl := same_upd (o := .lst [.str "+", .str "-", .str "*", .str "<", .str "=", .str "at", .str "at"]) nl'
  have hl := D4.new nl'
  have hl1 : SqL K (upd H4 l (.lst [.str "+", .str "-", .str "*", .str "<", .str "=", .str "at", .str "at"])) l (sevens.map V.str) := .inl (.inl upd_same)
  have D5 := D4.same sl
  have W5 := W4.same sl
  refine .inl ⟨d, c, l, _, _, rfl, D5, by omega, hl1, List.cons_ne_nil _ _, by decide, hl.1, hl.2, fun H6 v6 k6 D6 hv6 => ?_⟩
  obtain ⟨o, ho, rfl⟩ := List.mem_map.mp hv6
  have W6 := W5.keep D5 k6
  have t6 := (KeepT.of sl).trans (k6.t D5)
  refine ⟨v1, rfl, v2, rfl, small_le (show 3 ≤ 1000 by decide), fun p np => ?_⟩
  have s := same_upd (o := .tup [.str o, v1, v2]) np
  refine q _ _ _ (k04.trans ((KeepW.of sl).trans ((k6.w u).trans (KeepW.of s)))) ((D6.same s).mono (by omega)) (W6.same s) (.op (n + 2) o x1 x2 (seven_op o ho) he1 he2) (.tup (.inl (.inl upd_same)) (.cons (.str o) (.cons ?_ (.cons ?_ .nil))))
  · exact dp_keep ((t4.trans t6).trans (KeepT.of s)) _ _ he1.flat hv1
  · exact dp_keep (t6.trans (KeepT.of s)) _ _ he2.flat hv2
end
end L4

namespace L4
open PySem PySem.Spec PyProof.Rows L2 GR
section
variable {P : Program} {w : World} {K : PySem.W.Frag} {mg : Str → Option Value} {base : Heap}
theorem ok_none {k : Nat} {f : Addr} {fd : FuncData} {ps : List Str} {sp : Sp} (h : ∀ vs H Q E, ¬ sp vs H Q E) : FnOk P w K mg base CX0 k f fd ps sp :=
  ⟨fun vs H Q E q => absurd q (h vs H Q E), fun A outer s H args us vs Q E hr he hb hv hs => absurd hs (h vs H Q E)⟩
/-- terms of each depth, two levels a depth -/
theorem ok_terms {f f_law_draw f_law_pick f_law_leaf f_law_rows : Addr} {fd fd_law_draw fd_law_pick fd_law_leaf fd_law_rows : FuncData} {k : Nat} (F : Fun K "_law_term" "_law_term" s_law_term f fd) (R : Fun K "_law_rows" "_law_rows" s_law_rows f_law_rows fd_law_rows)
    (G_law_draw : FnOk P w K mg base CX0 k f_law_draw fd_law_draw ["_law_deck_here", "_law_most"] sp_draw)
    (g_law_draw : mg "_law_draw" = some (.ref f_law_draw)) (K_law_draw : PySem.W.keepIn K (.ref f_law_draw) = true) (b_law_draw : Binds K fd_law_draw ["_law_deck_here", "_law_most"] [])
    (G_law_pick : FnOk P w K mg base CX0 k f_law_pick fd_law_pick ["_law_deck_here", "_law_some"] (sp_pick K))
    (g_law_pick : mg "_law_pick" = some (.ref f_law_pick)) (K_law_pick : PySem.W.keepIn K (.ref f_law_pick) = true) (b_law_pick : Binds K fd_law_pick ["_law_deck_here", "_law_some"] [])
    (G_law_leaf : FnOk P w K mg base CX0 k f_law_leaf fd_law_leaf ["_law_deck_here", "_law_world_here"] (sp_leaf K))
    (g_law_leaf : mg "_law_leaf" = some (.ref f_law_leaf)) (K_law_leaf : PySem.W.keepIn K (.ref f_law_leaf) = true) (b_law_leaf : Binds K fd_law_leaf ["_law_deck_here", "_law_world_here"] [])
    (g_law_rows : mg "_law_rows" = some (.ref f_law_rows)) (K_law_rows : PySem.W.keepIn K (.ref f_law_rows) = true) (b_law_rows : Binds K fd_law_rows ps_term [])
    (g_law_term : mg "_law_term" = some (.ref f)) (K_law_term : PySem.W.keepIn K (.ref f) = true) (b_law_term : Binds K fd ps_term [])
    (mrange : mg "range" = none) (mtuple : mg "tuple" = none) : ∀ n : Nat, FnOk P w K mg base CX0 (k + 2 * n + 1) f fd ps_term (sp_term K n)
  | 0 => ok_term_step F G_law_draw g_law_draw K_law_draw b_law_draw G_law_pick g_law_pick K_law_pick b_law_pick G_law_leaf g_law_leaf K_law_leaf b_law_leaf (ok_none fun vs H Q E ⟨n, h, _⟩ => by omega) g_law_rows K_law_rows b_law_rows (ok_none fun vs H Q E ⟨n, h, _⟩ => by omega) g_law_term K_law_term b_law_term
  | n + 1 => by
    have ih := ok_terms F R G_law_draw g_law_draw K_law_draw b_law_draw G_law_pick g_law_pick K_law_pick b_law_pick G_law_leaf g_law_leaf K_law_leaf b_law_leaf g_law_rows K_law_rows b_law_rows g_law_term K_law_term b_law_term mrange mtuple n
    have rw1 := ok_rows (n := n) R (G_law_draw.mono (show k ≤ k + 2 * n + 1 by omega)) g_law_draw K_law_draw b_law_draw (G_law_pick.mono (show k ≤ k + 2 * n + 1 by omega)) g_law_pick K_law_pick b_law_pick ih g_law_term K_law_term b_law_term mrange mtuple
    refine ok_term_step (k := k + 2 * n + 2) F (G_law_draw.mono (by omega)) g_law_draw K_law_draw b_law_draw (G_law_pick.mono (by omega)) g_law_pick K_law_pick b_law_pick (G_law_leaf.mono (by omega)) g_law_leaf K_law_leaf b_law_leaf (rw1.imp ?_) g_law_rows K_law_rows b_law_rows ((ih.mono (by omega)).imp ?_) g_law_term K_law_term b_law_term
    · rintro vs H Q E ⟨m, hm, h⟩
      obtain rfl : n = m := by omega
      exact h
    · rintro vs H Q E ⟨m, hm, h⟩
      obtain rfl : n = m := by omega
      exact h
end
end L4

namespace WX
open PySem PySem.Spec PySem.AutoSeq1
theorem ext_tup (l : Addr) (items : Array Value) (n : Nat) (b : Addr) (items2 : Array Value) (n2 : Nat) (dd : Option Addr) (sl : Array (Option Value)) (hs0 : ¬(!items.isEmpty && Builtin.List.listTooLong (items.size + items2.size)) = true) (hs1 : items.size ≤ sizeLine) (hs2 : items.size + items2.size ≤ sizeLine + 1) :
    Meets (Builtin.«list.extend» ⟨[.ref l, .ref b], []⟩) (fun _ R s => s.heap.get? l = some { cls := .type "list", dict := none, data := .seq items n, slots := #[] } ∧ s.heap.get? b = some { cls := .type "tuple", dict := dd, data := .seq items2 n2, slots := sl } ∧ R (.ok (.ret Value.none)) { s with heap := s.heap.update l (Obj.mapSeq fun x => x ++ items2), toks := s.toks }) := by
  refine .of_wp fun prog w A R s h => ?_
  obtain ⟨hp, g, d, tk, os⟩ := s
  obtain ⟨hl, hb, h⟩ := h
  have f1 := idx_int
  have f2 := sub_tuple_tuple
  have f3 := sub_list_list
  have f4 := sub_tuple_list
  have f5 := sub_list_tuple
  have hz' : (items ++ items2).size ≤ sizeLine + 1 := by
    rw [Array.size_append]
    exact hs2
  wp_walk using (wpAny_updateSeq hl rfl (hz := hs1) (_hz' := hz')), wpAny_loadPart' hl, wpAny_loadPart' hb
  exact ⟨_, rfl, h⟩
end WX

/-! Words that the hand layer lacks: a list extended by a tuple. -/
namespace WX
open PySem PySem.Spec PyProof.Rows L2
def rExtendT (K : PySem.W.Frag) : V → List V → Hp → VK → Prop := fun x vs H Q => ∃ (l b : Addr) (xs zs : List V), x = .ref l ∧ vs = [.ref b] ∧ H l = some (.lst xs) ∧ SqT K H b zs ∧ xs.length + zs.length ≤ sizeLine ∧ Q .non (upd H l (.lst (xs ++ zs)))
section
variable {X : Cx}
theorem mt_extendT : MtM X "list.extend" (rExtendT X.K) := by
  intro pins s σ H x vs v us Q I rx rv h
  obtain ⟨l, b, xs, zs, rfl, rfl, hH, hB, hz, q⟩ := h
  cases rx
  obtain ⟨u, rfl, ru⟩ := rv.one
  cases ru
  obtain ⟨z, its, n, r, hl, e⟩ := I.lstM hH
  obtain ⟨its2, r2, ⟨⟨c2, d2, dat2, sl2⟩, g2, hc2, n2, hd2⟩, z2⟩ := I.tuple hB
  have hc2 : c2 = .type "tuple" := hc2
  have hd2 : dat2 = .seq its2.toArray n2 := hd2
  subst hc2
  subst hd2
  have hl2 := r2.length
  have small : its.toArray.size + its2.toArray.size ≤ sizeLine := by
    rw [List.size_toArray, List.size_toArray]
    omega
  have short : ¬ (!its.toArray.isEmpty && Builtin.List.listTooLong (its.toArray.size + its2.toArray.size)) = true := by
    rw [notLongL small, Bool.and_false]
    exact Bool.false_ne_true
  refine call_meets F.slot_list_extend ⟨_, e, rfl⟩ F.entry_list_extend (F.args_list_extend_2 _ _)
    (ext_tup l its.toArray n b its2.toArray n2 d2 sl2 short (by rw [List.size_toArray]; omega) (by omega)) ⟨e, g2, ?_⟩
  refine ⟨.non, _, I.lset (its' := its ++ its2) hH e (by simp) (r.append r2) ?_, rfl, q⟩
  rw [List.length_append]
  omega
/-- a list extended by a list or by a tuple -/
def rExtendA (K : PySem.W.Frag) : V → List V → Hp → VK → Prop := fun x vs H Q => rExtend x vs H Q ∨ rExtendT K x vs H Q
theorem mt_extendA : MtM X "list.extend" (rExtendA X.K) := by
  intro pins s σ H x vs v us Q I rx rv h
  rcases h with h | h
  · exact mt_extend pins s σ H x vs v us Q I rx rv h
  · exact mt_extendT pins s σ H x vs v us Q I rx rv h
end
end WX

namespace L4
open PySem PySem.Spec PyProof.Rows L2 GR
/-- what stands behind each word -/
def table : List (Str × List Str) := [("int", ["value"]), ("var", ["name"]), ("key", []), ("let", ["position"]), ("cell", ["name", "free", "name"]), ("+", ["free", "free"]), ("-", ["free", "free"]), ("*", ["free", "free"]), ("<", ["free", "free"]), ("=", ["free", "free"]),
  ("if", ["free", "free", "free"]), ("at", ["free", "bound"]), ("count", ["name", "extra", "bound", "bound"]), ("sum", ["name", "extra", "bound", "bound", "bound"]), ("most", ["name", "extra", "bound", "bound", "bound", "free"]), ("first", ["name", "extra", "bound", "bound", "free"])]
def items : PyData → List PyData
  | .tuple xs => xs
  | _ => []
def pick (wanted : List Str) : List Str → List PyData → List PyData
  | f :: fs, d :: ds => (if f = "extra" then items d else if f ∈ wanted then [d] else []) ++ pick wanted fs ds
  | _, _ => []
/-- what stands behind the word fits its kinds, as far as contained_of asks -/
inductive Fits : List Str → List PyData → Prop
  | nil : Fits [] []
  | cons {f : Str} {d : PyData} {fs : List Str} {ds : List PyData} : (f = "extra" → ∃ xs, d = .tuple xs) → Fits fs ds → Fits (f :: fs) (d :: ds)
/-- the form of an expression -/
def Form (x : PyData) (w : Str) (fs : List Str) (rest : List PyData) : Prop := x = .tuple (.str w :: rest) ∧ (w, fs) ∈ table ∧ Fits fs rest
theorem fit1 {f : Str} {d : PyData} {fs : List Str} {ds : List PyData} (h : f ≠ "extra") (t : Fits fs ds) : Fits (f :: fs) (d :: ds) := .cons (fun e => absurd e h) t
theorem Ex.form {zs : List Str} {n : Nat} {x : PyData} (h : Ex zs n x) : ∃ w fs rest, Form x w fs rest := by
  cases h with
  | leaf n x h =>
    cases h with
    | int i _ _ => exact ⟨"int", ["value"], _, rfl, by decide, fit1 (by decide) .nil⟩
    | let_ i _ _ => exact ⟨"let", ["position"], _, rfl, by decide, fit1 (by decide) .nil⟩
    | key => exact ⟨"key", [], _, rfl, by decide, .nil⟩
    | var z _ => exact ⟨"var", ["name"], _, rfl, by decide, fit1 (by decide) .nil⟩
  | cell n t v x h1 h2 h3 => exact ⟨"cell", ["name", "free", "name"], _, rfl, by decide, fit1 (by decide) (fit1 (by decide) (fit1 (by decide) .nil))⟩
  | op n o x y h1 h2 h3 =>
    simp only [opws, List.mem_cons, List.not_mem_nil, or_false] at h1
    rcases h1 with rfl | rfl | rfl | rfl | rfl | rfl
    · exact ⟨_, ["free", "free"], _, rfl, by decide, fit1 (by decide) (fit1 (by decide) .nil)⟩
    · exact ⟨_, ["free", "free"], _, rfl, by decide, fit1 (by decide) (fit1 (by decide) .nil)⟩
    · exact ⟨_, ["free", "free"], _, rfl, by decide, fit1 (by decide) (fit1 (by decide) .nil)⟩
    · exact ⟨_, ["free", "free"], _, rfl, by decide, fit1 (by decide) (fit1 (by decide) .nil)⟩
    · exact ⟨_, ["free", "free"], _, rfl, by decide, fit1 (by decide) (fit1 (by decide) .nil)⟩
    · exact ⟨_, ["free", "bound"], _, rfl, by decide, fit1 (by decide) (fit1 (by decide) .nil)⟩
  | iff n x y z h1 h2 h3 => exact ⟨"if", ["free", "free", "free"], _, rfl, by decide, fit1 (by decide) (fit1 (by decide) (fit1 (by decide) .nil))⟩
  | agg n o t xs ys h1 h2 h3 h4 h5 =>
    have tl : ∀ d : PyData, (("extra" : Str) = "extra" → ∃ us, d = .tuple us) ∨ True := fun _ => .inr trivial
    simp only [aggs, List.mem_cons, List.not_mem_nil, or_false, Prod.mk.injEq] at h1
    rcases h1 with ⟨rfl, h⟩ | ⟨rfl, h⟩ | ⟨rfl, h⟩ | ⟨rfl, h⟩
    · match ys, h with
      | [_, _], _ => exact ⟨_, ["name", "extra", "bound", "bound"], _, rfl, by decide, fit1 (by decide) (.cons (fun _ => ⟨xs, rfl⟩) (fit1 (by decide) (fit1 (by decide) .nil)))⟩
    · match ys, h with
      | [_, _, _], _ => exact ⟨_, ["name", "extra", "bound", "bound", "bound"], _, rfl, by decide, fit1 (by decide) (.cons (fun _ => ⟨xs, rfl⟩) (fit1 (by decide) (fit1 (by decide) (fit1 (by decide) .nil))))⟩
    · match ys, h with
      | [_, _, _, _], _ => exact ⟨_, ["name", "extra", "bound", "bound", "bound", "free"], _, rfl, by decide, fit1 (by decide) (.cons (fun _ => ⟨xs, rfl⟩) (fit1 (by decide) (fit1 (by decide) (fit1 (by decide) (fit1 (by decide) .nil)))))⟩
    · match ys, h with
      | [_, _, _], _ => exact ⟨_, ["name", "extra", "bound", "bound", "free"], _, rfl, by decide, fit1 (by decide) (.cons (fun _ => ⟨xs, rfl⟩) (fit1 (by decide) (fit1 (by decide) (fit1 (by decide) .nil))))⟩
/-- the written table at fA -/
def Flds (K : PySem.W.Frag) (w : World) (fA : Addr) : Prop := ∀ wd fs, (wd, fs) ∈ table → ∃ p, KDct K w fA wd (.ref p) ∧ ∀ H, SqT K H p (fs.map V.str)
end L4
namespace L4
open PySem PySem.Spec PyProof.Rows L2 GR
/-- what one field gives -/
def pick1 (wanted : List Str) (f : Str) (d : PyData) : List PyData := if f = "extra" then items d else if f ∈ wanted then [d] else []
theorem pick_take (W : List Str) : ∀ {fs : List Str} {ds : List PyData} (i : Nat) {f : Str} {d : PyData}, fs[i]? = some f → ds[i]? = some d → pick W (fs.take (i + 1)) (ds.take (i + 1)) = pick W (fs.take i) (ds.take i) ++ pick1 W f d
  | f0 :: fs, d0 :: ds, 0, f, d, hf, hd => by
    cases hf
    cases hd
    simp only [List.take_succ_cons, List.take_zero, pick, pick1, List.append_nil, List.nil_append]
  | f0 :: fs, d0 :: ds, i + 1, f, d, hf, hd => by
    rw [List.getElem?_cons_succ] at hf hd
    have := pick_take W i hf hd
    simp only [List.take_succ_cons, pick]
    rw [this, List.append_assoc]
  | [], _, _, _, _, hf, _ => by simp at hf
  | _ :: _, [], _, _, _, _, hd => by simp at hd
theorem pick_len (W : List Str) : ∀ {fs : List Str} {ds : List PyData} (i : Nat), (pick W (fs.take i) (ds.take i)).length ≤ (pick W fs ds).length
  | f0 :: fs, d0 :: ds, 0 => by simp only [List.take_zero, pick]; exact Nat.zero_le _
  | f0 :: fs, d0 :: ds, i + 1 => by
    have := pick_len W (fs := fs) (ds := ds) i
    simp only [List.take_succ_cons, pick, List.length_append]
    omega
  | [], ds, i => by simp only [List.take_nil, pick]; exact Nat.zero_le _
  | f0 :: fs, [], i => by
    simp only [List.take_nil]
    cases fs.take i <;> cases i <;> simp [pick]
theorem flatDs_at : ∀ {ds : List PyData} {i : Nat} {d : PyData}, flatDs ds = true → ds[i]? = some d → flatD d = true
  | d0 :: ds, 0, d, h, e => by
    cases e
    rw [flatDs, Bool.and_eq_true] at h
    exact h.1
  | d0 :: ds, i + 1, d, h, e => by
    rw [flatDs, Bool.and_eq_true] at h
    rw [List.getElem?_cons_succ] at e
    exact flatDs_at h.2 e
  | [], _, _, _, e => by simp at e
theorem flatDs_append : ∀ {xs ys : List PyData}, flatDs xs = true → flatDs ys = true → flatDs (xs ++ ys) = true
  | [], _, _, h => h
  | x :: xs, ys, h, g => by
    rw [flatDs, Bool.and_eq_true] at h
    rw [List.cons_append, flatDs, h.1, flatDs_append h.2 g]
    rfl
theorem flat_pick1 {W : List Str} {f : Str} {d : PyData} (h : flatD d = true) : flatDs (pick1 W f d) = true := by
  unfold pick1
  split
  · cases d <;> simp only [items, flatDs]
    rw [flatD] at h
    exact h
  · split
    · rw [flatDs, h, flatDs]
      rfl
    · rw [flatDs]
theorem flat_pick {W : List Str} : ∀ {fs : List Str} {ds : List PyData}, flatDs ds = true → flatDs (pick W fs ds) = true
  | f :: fs, d :: ds, h => by
    rw [flatDs, Bool.and_eq_true] at h
    exact flatDs_append (flat_pick1 (W := W) (f := f) h.1) (flat_pick h.2)
  | [], _, _ => by simp only [pick, flatDs]
  | _ :: _, [], _ => by simp only [pick, flatDs]
theorem flatDs_take {ds : List PyData} (i : Nat) (h : flatDs ds = true) : flatDs (ds.take i) = true := by
  induction ds generalizing i with
  | nil => simp only [List.take_nil, flatDs]
  | cons d ds ih =>
    rw [flatDs, Bool.and_eq_true] at h
    cases i with
    | zero => simp only [List.take_zero, flatDs]
    | succ i =>
      rw [List.take_succ_cons, flatDs, h.1, ih i h.2]
      rfl
theorem Fits.len {fs : List Str} {ds : List PyData} (h : Fits fs ds) : fs.length = ds.length := by
  induction h with
  | nil => rfl
  | cons _ _ ih => rw [List.length_cons, List.length_cons, ih]
theorem Fits.at' {fs : List Str} {ds : List PyData} (h : Fits fs ds) : ∀ {i : Nat} {d : PyData}, fs[i]? = some ("extra" : Str) → ds[i]? = some d → ∃ xs, d = .tuple xs := by
  induction h with
  | nil =>
    intro i d e
    simp at e
  | cons h1 h2 ih =>
    intro i d e1 e2
    cases i with
    | zero =>
      simp only [List.getElem?_cons_zero, Option.some.injEq] at e1 e2
      obtain ⟨xs, rfl⟩ := h1 e1
      exact ⟨xs, e2.symm⟩
    | succ i =>
      rw [List.getElem?_cons_succ] at e1 e2
      exact ih e1 e2
theorem dpAll_at {K : PySem.W.Frag} {H : Hp} : ∀ {vs : List V} {ds : List PyData} {i : Nat} {v : V}, DpAll K H vs ds → vs[i]? = some v → ∃ d, ds[i]? = some d ∧ Dp K H v d
  | _, _, 0, v, .cons h _, e => by
    cases e
    exact ⟨_, rfl, h⟩
  | _, _, i + 1, v, .cons _ h, e => by
    rw [List.getElem?_cons_succ] at e ⊢
    exact dpAll_at h e
  | _, _, _, _, .nil, e => by simp at e
end L4

namespace GR
open PySem PySem.Spec PyProof.Rows L2
theorem FnG.mono {P : Program} {w : World} {K : PySem.W.Frag} {mg : Str → Option Value} {base : Heap} {CX : CXT} {j k : Nat} {f : Addr} {fd : FuncData} {ps : List Str} {sp : Sp} (F : FnG P w K mg base CX j f fd ps sp) (h : j ≤ k) : FnG P w K mg base CX k f fd ps sp :=
  ⟨F.size, fun A outer s H args us vs Q E g hr => F.go A outer s H args us vs Q E g (hr.mono h)⟩
/-! ### the signs of what repr shows -/
abbrev SO (x : Str) : Prop := ∀ c, c ∈ x.cps.toList → c < 0x110000
theorem so_iff {x : Str} : PyData.strOk x = true ↔ SO x := by
  unfold PyData.strOk
  rw [Array.all_eq_true']
  constructor
  · intro h c hc
    have := h c (by simpa using hc)
    simpa using this
  · intro h c hc
    have := h c (by simpa using hc)
    simpa using this
theorem so_append {x y : Str} (hx : SO x) (hy : SO y) : SO (x ++ y) := fun c hc => by
  rcases mem_cps_append.mp hc with h | h
  · exact hx c h
  · exact hy c h
theorem so_join {sep : Str} (hs : SO sep) {ts : List Str} (h : ∀ t, t ∈ ts → SO t) : SO (Str.join sep ts) := fun c hc => by
  rcases (mem_join sep c ts).mp hc with ⟨t, ht, hc⟩ | ⟨_, hc⟩
  · exact h t ht c hc
  · exact hs c hc
theorem hex_so (w c : Nat) : ∀ k, k ∈ List.replicate (w - ((Nat.toDigits 16 c).map Char.toNat).length) 48 ++ (Nat.toDigits 16 c).map Char.toNat → k < 0x110000 := by
  intro k hk
  rcases List.mem_append.mp hk with h | h
  · have := List.eq_of_mem_replicate h
    omega
  · obtain ⟨ch, _, rfl⟩ := List.mem_map.mp h
    have := ch.valid
    have e : ch.toNat = ch.val.toNat := rfl
    rcases this with h | ⟨_, h⟩
    · have h' : ch.val.toNat < 0xd800 := h
      omega
    · have h' : ch.val.toNat < 0x110000 := h
      omega
theorem reprChar_so {q c : Nat} (hc : c < 0x110000) : ∀ k, k ∈ Builtin.Str.reprChar q c → k < 0x110000 := by
  intro k hk
  have h8 := hex_so 8 c k
  have h4 := hex_so 4 c k
  have h2 := hex_so 2 c k
  unfold Builtin.Str.reprChar at hk
  dsimp only at hk
  repeat' split at hk
  all_goals first
    | (rcases List.mem_append.mp hk with hk | hk
       · (simp only [List.mem_cons, List.not_mem_nil, or_false] at hk; omega)
       · first | exact h2 hk | exact h4 hk | exact h8 hk)
    | (simp only [List.mem_cons, List.not_mem_nil, or_false] at hk; omega)
theorem fold_so {q : Nat} : ∀ (l : List Nat) (acc : Array Nat), (∀ c, c ∈ l → c < 0x110000) → (∀ c, c ∈ acc.toList → c < 0x110000) → ∀ c, c ∈ (l.foldl (fun out c => out ++ (Builtin.Str.reprChar q c).toArray) acc).toList → c < 0x110000
  | [], acc, _, h => h
  | d :: r, acc, hl, h => by
    rw [List.foldl_cons]
    refine fold_so r _ (fun c hc => hl c (List.mem_cons_of_mem _ hc)) fun c hc => ?_
    rw [Array.toList_append, List.mem_append] at hc
    rcases hc with hc | hc
    · exact h c hc
    · exact reprChar_so (hl d List.mem_cons_self) c (by simpa using hc)
theorem repr_so {x : Str} (h : SO x) : SO (reprText x) := fun c hc => by
  have hq : reprQuote x < 0x110000 := by
    unfold reprQuote
    split <;> decide
  unfold reprText at hc
  have hc' : c ∈ ((x.cps.foldl (fun out c => out ++ (Builtin.Str.reprChar (reprQuote x) c).toArray) #[reprQuote x]).push (reprQuote x)).toList := hc
  rw [Array.toList_push, List.mem_append] at hc'
  rcases hc' with hc' | hc'
  · rw [← Array.foldl_toList] at hc'
    refine fold_so x.cps.toList _ h (fun c hc => ?_) c hc'
    have : c = reprQuote x := by simpa using hc
    rw [this]
    exact hq
  · have : c = reprQuote x := by simpa using hc'
    rw [this]
    exact hq
mutual
theorem shown_so : ∀ d : PyData, d.canLay0 = true → SO d.shown
  | .none, _ => by rw [PyData.shown_none]; decide
  | .bool b, _ => by
    rw [PyData.shown_bool]
    cases b <;> decide
  | .int i, _ => fun c hc => by
    by_cases h : 57 < c
    · exact absurd hc (shown_int_free' (k := c) ⟨by omega, .inr h⟩ i)
    · omega
  | .str x, h => by
    rw [PyData.shown_str]
    exact repr_so (so_iff.mp (by simpa [PyData.canLay0] using h))
  | .list xs, h => by
    rw [PyData.shown_list]
    exact so_append (so_append (by decide) (so_join (by decide) (shownAll_so xs (by simpa [PyData.canLay0] using h)))) (by decide)
  | .tuple xs, h => by
    rw [PyData.shown_tuple]
    refine so_append (so_append (by decide) (so_join (by decide) (shownAll_so xs (by simpa [PyData.canLay0] using h)))) ?_
    split <;> decide
  | .dict _, h => by simp [PyData.canLay0] at h
theorem shownAll_so : ∀ xs : List PyData, PyData.canLayAll0 xs = true → ∀ t, t ∈ PyData.shownAll xs → SO t
  | [], _, t, ht => by rw [PyData.shownAll_nil] at ht; exact absurd ht (by simp)
  | x :: xs, h, t, ht => by
    have h' : x.canLay0 = true ∧ PyData.canLayAll0 xs = true := by simpa [PyData.canLayAll0] using h
    rw [PyData.shownAll_cons, List.mem_cons] at ht
    rcases ht with rfl | ht
    · exact shown_so x h'.1
    · exact shownAll_so xs h'.2 t ht
end
theorem shown_ok {d : PyData} (h : d.canLay0 = true) : PyData.strOk d.shown = true := so_iff.mpr (shown_so d h)
section
variable {X : Cx} {pins : List (Addr × Obj)} {σ : L2.St} {H : Hp} {s : Shared}
/-- repr of a truth -/
def rReprB : List V → Hp → VK → Prop := fun xs H Q => ∃ b, xs = [.bl b] ∧ Q (.str (PyData.bool b).shown) H
theorem call_reprB : CallR X (.builtin "repr") rReprB := by
  intro pins s σ H xs us Q I r h
  obtain ⟨b, rfl, q⟩ := h
  obtain ⟨u, rfl, rv⟩ := vals1 r
  obtain rfl : u = Value.bool b := rv
  rw [PyData.shown_bool] at q
  exact P.repr_of_bool ⟨.str _, H, I.kept fun _ _ e => e, ⟨_, rfl⟩, q⟩
end
end GR

/-! Data of all kinds, dicts too, in the abstract heap; ok tells which addresses its lists and dicts may have. -/
namespace AD
open PySem PySem.Spec PyProof.Rows L2 GR
def keyD : Key → PyData
  | .inl i => .int i
  | .inr x => .str x
mutual
inductive Dd (K : PySem.W.Frag) (ok : Addr → Prop) (H : Hp) : V → PyData → Prop
  | non : Dd K ok H .non .none
  | bl (b : Bool) : Dd K ok H (.bl b) (.bool b)
  | int (i : Int) : Dd K ok H (.int i) (.int i)
  | str (x : Str) : Dd K ok H (.str x) (.str x)
  | lst {a : Addr} {xs : List V} {ds : List PyData} : H a = some (.lst xs) → ok a → DdAll K ok H xs ds → Dd K ok H (.ref a) (.list ds)
  | tup {a : Addr} {xs : List V} {ds : List PyData} : SqT K H a xs → DdAll K ok H xs ds → Dd K ok H (.ref a) (.tuple ds)
  | dk {a : Addr} {kvs : List (Key × V)} {ds : List PyData} : H a = some (.dK kvs) → ok a → DdAll K ok H (kvs.map (·.2)) ds → Dd K ok H (.ref a) (.dict ((kvs.map fun p => keyD p.1).zip ds))
inductive DdAll (K : PySem.W.Frag) (ok : Addr → Prop) (H : Hp) : List V → List PyData → Prop
  | nil : DdAll K ok H [] []
  | cons {v : V} {vs : List V} {d : PyData} {ds : List PyData} : Dd K ok H v d → DdAll K ok H vs ds → DdAll K ok H (v :: vs) (d :: ds)
end
/-- tuples stay, and what lies where ok allows it -/
structure KeepO (ok : Addr → Prop) (H H' : Hp) : Prop where
  tup : ∀ b xs, H b = some (.tup xs) → H' b = some (.tup xs)
  frz : ∀ b o xs, H b = some (.frz o (.tup xs)) → H' b = some (.frz o (.tup xs))
  oth : ∀ b o, ok b → H b = some o → H' b = some o
theorem KeepO.of {ok : Addr → Prop} {H H' : Hp} (s : Same H H') : KeepO ok H H' := ⟨fun b _ e => s b _ e, fun b _ _ e => s b _ e, fun b _ _ e => s b _ e⟩
theorem KeepO.trans {ok : Addr → Prop} {H H1 H2 : Hp} (a : KeepO ok H H1) (b : KeepO ok H1 H2) : KeepO ok H H2 := ⟨fun x _ e => b.tup x _ (a.tup x _ e), fun x _ _ e => b.frz x _ _ (a.frz x _ _ e), fun x o h e => b.oth x o h (a.oth x o h e)⟩
theorem KeepO.seqt {ok : Addr → Prop} {K : PySem.W.Frag} {H H' : Hp} (s : KeepO ok H H') {a : Addr} {xs : List V} (h : SqT K H a xs) : SqT K H' a xs := by
  rcases h with (h | ⟨o, h⟩) | h
  · exact .inl (.inl (s.tup _ _ h))
  · exact .inl (.inr ⟨o, s.frz _ _ _ h⟩)
  · exact .inr h
section
variable {K : PySem.W.Frag} {ok ok' : Addr → Prop} {H H' : Hp}
mutual
theorem Dd.keep (k : KeepO ok H H') : ∀ {v : V} {d : PyData}, Dd K ok H v d → Dd K ok H' v d
  | _, _, .non => .non
  | _, _, .bl b => .bl b
  | _, _, .int i => .int i
  | _, _, .str x => .str x
  | _, _, .lst h o q => .lst (k.oth _ _ o h) o (DdAll.keep k q)
  | _, _, .tup h q => .tup (k.seqt h) (DdAll.keep k q)
  | _, _, .dk h o q => .dk (k.oth _ _ o h) o (DdAll.keep k q)
theorem DdAll.keep (k : KeepO ok H H') : ∀ {vs : List V} {ds : List PyData}, DdAll K ok H vs ds → DdAll K ok H' vs ds
  | _, _, .nil => .nil
  | _, _, .cons h q => .cons (Dd.keep k h) (DdAll.keep k q)
end
mutual
theorem Dd.mono (k : ∀ a, ok a → ok' a) : ∀ {v : V} {d : PyData}, Dd K ok H v d → Dd K ok' H v d
  | _, _, .non => .non
  | _, _, .bl b => .bl b
  | _, _, .int i => .int i
  | _, _, .str x => .str x
  | _, _, .lst h o q => .lst h (k _ o) (DdAll.mono k q)
  | _, _, .tup h q => .tup h (DdAll.mono k q)
  | _, _, .dk h o q => .dk h (k _ o) (DdAll.mono k q)
theorem DdAll.mono (k : ∀ a, ok a → ok' a) : ∀ {vs : List V} {ds : List PyData}, DdAll K ok H vs ds → DdAll K ok' H vs ds
  | _, _, .nil => .nil
  | _, _, .cons h q => .cons (Dd.mono k h) (DdAll.mono k q)
end
theorem DdAll.len : ∀ {vs : List V} {ds : List PyData}, DdAll K ok H vs ds → vs.length = ds.length
  | _, _, .nil => rfl
  | _, _, .cons _ q => by rw [List.length_cons, List.length_cons, DdAll.len q]
end
/-- the entries of a dict, its keys read -/
theorem keys_read {P : Program} {w : World} {h : Heap} {es : List DictEntry} {vs : List (Key × Value)} (p : PySem.Pairs (mixKind P w) es vs) : ReadsAll h (es.map (·.key)) (vs.map fun q => keyD q.1) [] := by
  induction p with
  | nil => exact .nil
  | @cons e kv es kvs h1 _ _ ih =>
    rw [List.map_cons, List.map_cons]
    rcases keyIs_shape h1 with ⟨i, t, e1, e2⟩ | ⟨x, t, e1, e2⟩
    · rw [e1, e2]
      exact .cons (.int i t) ih
    · rw [e1, e2]
      exact .cons (.str x t) ih
theorem pairs_val {P : Program} {w : World} {es : List DictEntry} {vs : List (Key × Value)} (p : PySem.Pairs (mixKind P w) es vs) : es.map (·.val) = vs.map (·.2) := by
  induction p with
  | nil => rfl
  | cons _ h2 _ ih => rw [List.map_cons, List.map_cons, h2, ih]
theorem kv_keys {kvs : List (Key × V)} {vs : List (Key × Value)} (r : KV kvs vs) : vs.map (fun q => keyD q.1) = kvs.map fun q => keyD q.1 := by
  induction r with
  | nil => rfl
  | cons h _ ih => rw [List.map_cons, List.map_cons, ih, h.1]
theorem kv_vals {kvs : List (Key × V)} {vs : List (Key × Value)} (r : KV kvs vs) : Vals (kvs.map (·.2)) (vs.map (·.2)) := by
  induction r with
  | nil => exact .nil
  | cons h _ ih => exact .cons h.2 ih
section
variable {X : Cx} {pins : List (Addr × Obj)} {σ : L2.St} {H : Hp} {s : Shared} {ok : Addr → Prop}
mutual
theorem Dd.reads (I : Inv X pins σ H s) (hok : ∀ a, ok a → a ≠ sysModules) : ∀ {v : V} {d : PyData}, Dd X.K ok H v d → ∀ u, RelV v u → ∃ as, Reads s.heap u d as ∧ sysModules ∉ as
  | _, _, .non, _, r => by
    cases r
    exact ⟨_, .none, List.not_mem_nil⟩
  | _, _, .bl b, _, r => by
    cases r
    exact ⟨_, .bool b, List.not_mem_nil⟩
  | _, _, .int i, _, r => by
    obtain ⟨t, rfl⟩ := r
    exact ⟨_, .int i t, List.not_mem_nil⟩
  | _, _, .str x, _, r => by
    obtain ⟨t, rfl⟩ := r
    exact ⟨_, .str x t, List.not_mem_nil⟩
  | _, _, .lst hs o q, _, r => by
    cases r
    obtain ⟨its, rv, ⟨ob, n, ho, hc, _, hd⟩, _⟩ := I.list (.inl (.inl hs))
    obtain ⟨as, hr, hn⟩ := DdAll.reads I hok q its rv
    exact ⟨_, .list ho hc hd hr, fun z => (List.mem_cons.mp z).elim (fun e => hok _ o e.symm) hn⟩
  | _, _, .tup hs q, _, r => by
    cases r
    obtain ⟨its, rv, ⟨ob, ho, hc, n, hd⟩, _⟩ := I.tuple hs
    obtain ⟨as, hr, hn⟩ := DdAll.reads I hok q its rv
    exact ⟨_, .tuple ho hc hd hr, hn⟩
  | _, _, .dk (kvs := kvs) (ds := ds) hs o q, _, r => by
    cases r
    obtain ⟨_, hsys, vs, rk, ob, es, ep, ho, hex, hd, _, hp, _⟩ := I.hok _ _ hs
    obtain ⟨as, hr, hn⟩ := DdAll.reads I hok q _ (kv_vals rk)
    have hk := keys_read (h := s.heap) hp
    have hv := pairs_val hp
    have hl := q.len
    rw [List.length_map] at hl
    rw [kv_keys rk] at hk
    rw [← hv] at hr
    refine ⟨_, .dict (kvs := (kvs.map fun p => keyD p.1).zip ds) ho hex.1 hd (as := []) (bs := as) ?_ ?_, fun z => ?_⟩
    · rw [List.map_fst_zip (by rw [List.length_map]; omega)]
      exact hk
    · rw [List.map_snd_zip (by rw [List.length_map]; omega)]
      exact hr
    · rcases List.mem_append.mp z with z | z
      · exact hok _ o (List.mem_singleton.mp z).symm
      · exact hn z
theorem DdAll.reads (I : Inv X pins σ H s) (hok : ∀ a, ok a → a ≠ sysModules) : ∀ {vs : List V} {ds : List PyData}, DdAll X.K ok H vs ds → ∀ us, Vals vs us → ∃ as, ReadsAll s.heap us ds as ∧ sysModules ∉ as
  | _, _, .nil, _, r => by
    cases r
    exact ⟨_, .nil, List.not_mem_nil⟩
  | _, _, .cons h q, _, r => by
    cases r with
    | cons r1 r2 =>
      obtain ⟨as, q1, n1⟩ := Dd.reads I hok h _ r1
      obtain ⟨bs, q2, n2⟩ := DdAll.reads I hok q _ r2
      exact ⟨_, .cons q1 q2, fun z => (List.mem_append.mp z).elim n1 n2⟩
end
/-- what is shown fits -/
structure Shw (d : PyData) : Prop where
  shw : d.showable = true
  dep : d.depth ≤ 60
  len : d.shown.length ≤ sizeLine
/-- repr of anything -/
def rReprA (X : Cx) : List V → Hp → VK → Prop := fun xs H Q => ∃ (v : V) (d : PyData) (ok : Addr → Prop), xs = [v] ∧ (∀ a, ok a → a ≠ sysModules) ∧ Dd X.K ok H v d ∧ Shw d ∧ Q (.str d.shown) H
theorem call_reprA {k : Nat} (hg : X.A.guards = some []) (hr : Room k X.A) : CallR X (.builtin "repr") (rReprA X) := by
  intro pins s σ H xs us Q I r h
  obtain ⟨v, d, ok, rfl, hok, hd, ⟨h1, h2, h3⟩, q⟩ := h
  obtain ⟨u, rfl, rv⟩ := vals1 r
  obtain ⟨as, hR, hn⟩ := Dd.reads I hok hd u rv
  have hu := hr.units
  have big : ∀ a, u = .ref a → wpAny (model X.prog X.w) X.A (call (.builtin "repr") [.ref a]) (EP X pins σ Q) X.xe s := fun a e => by
    rw [e] at hR
    exact repr_of_reads' hR h1 (fun _ => hn) hg (by omega) (fun _ _ e => e) (fun h' u tk hk => ⟨.str d.shown, H, I.kept hk, ⟨_, rfl⟩, q⟩) h3
  cases hd with
  | non =>
    cases rv
    rw [PyData.shown_none] at q
    exact PySem.P.repr_of_none ⟨.str _, H, I.tok _, ⟨_, rfl⟩, q⟩
  | bl b =>
    cases rv
    rw [PyData.shown_bool] at q
    exact P.repr_of_bool ⟨.str _, H, I.kept fun _ _ e => e, ⟨_, rfl⟩, q⟩
  | int i =>
    obtain ⟨t, rfl⟩ := rv
    rw [PyData.shown_int] at q
    exact PySem.P.repr_of_int (by simpa [PyData.showable] using h1) ⟨.str _, H, I.tok _, ⟨_, rfl⟩, q⟩
  | str x =>
    obtain ⟨t, rfl⟩ := rv
    rw [PyData.shown_str] at q h3
    exact P.repr_of_str ⟨.str _, H, I.tok _, ⟨_, rfl⟩, q⟩ h3
  | lst _ _ _ =>
    cases rv
    exact big _ rfl
  | tup _ _ =>
    cases rv
    exact big _ rfl
  | dk _ _ _ =>
    cases rv
    exact big _ rfl
/-- str of a list, a tuple, a dict -/
def rStrA (X : Cx) : List V → Hp → VK → Prop := fun xs H Q => ∃ (a : Addr) (d : PyData) (ok : Addr → Prop), xs = [.ref a] ∧ (∀ a, ok a → a ≠ sysModules) ∧ Dd X.K ok H (.ref a) d ∧ Shw d ∧ Q (.str d.shown) H
theorem call_strA {k : Nat} (hg : X.A.guards = some []) (hr : Room k X.A) : CallR X (.type "str") (rStrA X) := by
  intro pins s σ H xs us Q I r h
  obtain ⟨a, d, ok, rfl, hok, hd, ⟨h1, h2, h3⟩, q⟩ := h
  obtain ⟨u, rfl, rv⟩ := vals1 r
  obtain rfl : u = Value.ref a := rv
  obtain ⟨as, hR, hn⟩ := Dd.reads I hok hd _ rfl
  have hu := hr.units
  exact str_of_reads hR h1 (fun _ => hn) hg (by omega) (fun _ _ e => e) (fun h' u tk hk => ⟨.str d.shown, H, I.kept hk, ⟨_, rfl⟩, q⟩) h3
/-- the class's name -/
def tyN : PyData → String
  | .none => "NoneType"
  | .bool _ => "bool"
  | .int _ => "int"
  | .str _ => "str"
  | .list _ => "list"
  | .tuple _ => "tuple"
  | .dict _ => "dict"
theorem Dd.ty {K : PySem.W.Frag} {v : V} {d : PyData} (h : Dd K ok H v d) : TyX K H v (.type (tyN d)) := by
  cases h with
  | non => exact .base .non
  | bl b => exact .base (.bl b)
  | int i => exact .base (.int i)
  | str x => exact .base (.str x)
  | lst h _ _ => exact .base (.lst h)
  | tup h _ =>
    rcases h with (h | ⟨o, h⟩) | ⟨o, its, n, h1, h2, _⟩
    · exact .base (.tup h)
    · exact .fTuple h
    · exact .kTuple h1 h2
  | dk h _ _ => exact .base (.dK h)
/-- == of anything but dicts -/
def rEqA (X : Cx) : R2 := fun x y H Q => ∃ (d e : PyData) (ok : Addr → Prop), (∀ a, ok a → a ≠ sysModules) ∧ Dd X.K ok H x d ∧ Dd X.K ok H y e ∧ SeqAt.shaped d = true ∧ SeqAt.shaped e = true ∧ Q (.bl (PyData.eqv d e)) H
theorem op_eqA (hu : X.A.units + 64 < cLine) : OpR X (compareOp .Eq) (rEqA X) := by
  intro pins s σ H x y v u Q I rx ry h
  obtain ⟨d, e, ok, hok, hd, he, sd, se, q⟩ := h
  obtain ⟨as, r1, _⟩ := Dd.reads I hok hd v rx
  obtain ⟨bs, r2, _⟩ := Dd.reads I hok he u ry
  exact SeqAt.compareEq_shaped r1 r2 sd se hu ⟨.bl _, H, I, rfl, q⟩
/-- in, not in, of anything but dicts, in a tuple of such -/
def rInA (X : Cx) (neg : Bool) : R2 := fun x y H Q => ∃ (d : PyData) (ds : List PyData) (ok : Addr → Prop), (∀ a, ok a → a ≠ sysModules) ∧ Dd X.K ok H x d ∧ Dd X.K ok H y (.tuple ds) ∧ SeqAt.shaped d = true ∧ SeqAt.shaped (.tuple ds) = true ∧ Q (.bl (if neg then !ds.any (fun z => PyData.eqv z d) else ds.any fun z => PyData.eqv z d)) H
theorem op_inA (hu : X.A.units + 65 < cLine) : OpR X (compareOp .In) (rInA X false) := by
  intro pins s σ H x y v u Q I rx ry h
  obtain ⟨d, ds, ok, hok, hd, he, sd, se, q⟩ := h
  obtain ⟨as, r1, _⟩ := Dd.reads I hok hd v rx
  obtain ⟨bs, r2, _⟩ := Dd.reads I hok he u ry
  exact SeqAt.in_tuple_reads r2 r1 (SeqAt.canLay_of_shaped se) (SeqAt.canLay_of_shaped sd) (room_in_shaped sd hu) ⟨.bl _, H, I, rfl, q⟩
theorem op_notInA (hu : X.A.units + 65 < cLine) : OpR X (compareOp .NotIn) (rInA X true) := by
  intro pins s σ H x y v u Q I rx ry h
  obtain ⟨d, ds, ok, hok, hd, he, sd, se, q⟩ := h
  obtain ⟨as, r1, _⟩ := Dd.reads I hok hd v rx
  obtain ⟨bs, r2, _⟩ := Dd.reads I hok he u ry
  exact SeqAt.notIn_tuple_reads r2 r1 (SeqAt.canLay_of_shaped se) (SeqAt.canLay_of_shaped sd) (room_in_shaped sd hu) ⟨.bl _, H, I, rfl, q⟩
/-- [e, ..]: a new list, not where the modules are -/
def tLstS (t : TA) : TE := fun σ H Q => t σ H fun xs H1 => xs.length ≤ sizeLine ∧ ∀ p, H1 p = none → p ≠ sysModules → Q (.ref p) (upd H1 p (.lst xs))
theorem pe_lstS {es : List Expr} {pos : Pos} {t : TA} (h : PA X es t) : PE X (.List es pos) (tLstS t) := by
  constructor
  intro pins s σ H Q I hq
  refine wpAny_List_spliced (thn (h.run pos pins s σ H _ I hq) ?_)
  rintro us s1 ⟨xs, H1, I1, r, z, q⟩
  refine ⟨by rw [← r.length]; exact z, ?_⟩
  have new := I1.hok.fresh (Nat.le_refl s1.heap.objs.size)
  have far : s1.heap.objs.size ≠ sysModules := (Nat.ne_of_lt I1.big).symm
  refine ⟨.ref s1.heap.objs.size, _, I1.laid (t' := s1.toks) (o := .lst xs) (fun b u e => Heap.get?_push_of_some _ e) (Nat.le_refl _) ⟨z, us, 0, r, Heap.get?_push_size _ rfl⟩, rfl, q _ new far⟩
/-- a dict does not lie where the modules are -/
def tSys (t : TE) : TE := fun σ H Q => t σ H fun v H' => (∀ a kvs, H' a = some (.dK kvs) → a ≠ sysModules) → Q v H'
theorem pe_sys {e : Expr} {t : TE} (h : PE X e t) : PE X e (tSys t) := by
  constructor
  intro pins s σ H Q I hq
  refine thn (h.run pins s σ H _ I hq) ?_
  rintro u s1 ⟨v, H1, I1, r, q⟩
  exact ⟨v, H1, I1, r, q fun a kvs e => fun z => by
    have := (I1.hok a _ e).2.1
    rw [z] at this
    exact absurd this (by decide)⟩
end
end AD

/-! d.get(y) of a written dict of texts, y a text (there or not) or None. -/
namespace FG
open PySem PySem.Spec PyProof.Rows L2 GR
/-- what the dict at p says of y -/
def Says (es : Array DictEntry) (y r : V) : Prop := (y = .non ∧ r = .non) ∨ ∃ z, y = .str z ∧ ((∃ u, findBy Value.isStrOf es z = some u ∧ RelV r u) ∨ (findBy Value.isStrOf es z = none ∧ r = .non))
def tKGet (K : PySem.W.Frag) (w : World) (td ty : TE) : TE := fun σ H Q => td σ H fun x H1 => ∃ (p : Addr) (es : Array DictEntry) (n : Nat), x = .ref p ∧ K.lookup p = some ⟨.type "dict", none, .dict es n, #[]⟩ ∧ PySem.W.KeysLit w.params es.toList ∧ (p == sysModules) = false ∧
  ty σ H1 fun y H2 => ∃ r, Says es y r ∧ Q r H2
/-- None is no key of it -/
theorem none_at {P : Program} {w : World} {h : Heap} {p : Addr} {es : Array DictEntry} {n : Nat} (hp : h.get? p = some ⟨.type "dict", none, .dict es n, #[]⟩) (hk : PySem.W.KeysLit w.params es.toList) : ∃ f, h.MapOf (noneKind P w) p f ∧ f none = none := by
  refine ⟨fun k => findBy (noneKind P w).is es k, ⟨_, es, n, hp, ⟨rfl, rfl, rfl⟩, rfl, fun e he => ?_, fun _ => rfl⟩, ?_⟩
  · obtain ⟨x, t, e1, e2⟩ := hk.all e (Array.mem_toList_iff.mpr he)
    exact ⟨some (.inr x), by rw [e1]; show keyIs (.inr x) (.str x t) = true; simp only [keyIs, PySem.W.isStr_of]; show (x == x) = true; exact beq_self_eq_true x, e2⟩
  · have q : (es.find? fun e => nkIs none e.key) = none := by
      rw [Array.find?_eq_none]
      intro e he hq
      obtain ⟨x, t, e1, _⟩ := hk.all e (Array.mem_toList_iff.mpr he)
      rw [e1] at hq
      exact absurd (nk_none hq) (fun z => nomatch z)
    show (es.find? fun e => nkIs none e.key).map (·.val) = none
    rw [q]
    rfl
section
variable {X : Cx} {o e : Expr} {apos cpos : Pos} {td ty : TE}
theorem pe_kget (ho : PE X o td) (he : PE X e ty) (m : M1 X o "get" apos e cpos) : PE X (.Call (.Attribute o "get" apos) [e] [] cpos) (tKGet X.K X.w td ty) := by
  refine ⟨fun pins s σ H Q I h => ?_⟩
  refine wpAny_Call_method m.base m.few m.line PySem.F.plainAttrs_dict PySem.F.slot_dict_get PySem.F.type_dict_get (thn (ho.run pins s σ H _ I h) fun u s1 ⟨x, H1, I1, rx, p, es, n, ex, hl, hk, hd, q1⟩ => ?_)
  subst ex
  obtain rfl : u = Value.ref p := rx
  have hp := I1.kIn _ _ hl
  refine ⟨⟨_, hp, rfl⟩, fun b q => ⟨_, by cases q; exact hp, rfl⟩, ?_⟩
  rw [m.trees]
  refine Calls.callWith_builtin rfl (Calls.evalArgs_plain (Calls.spliced_cons (thn (he.run pins s1 σ H1 _ I1 q1) fun iv s2 ⟨y, H2, I2, ry, r, hs, q2⟩ => Calls.spliced_nil ?_)))
  have hp2 := I2.kIn _ _ hl
  have hm := PySem.W.mapOf_K (prog := X.prog) (w := X.w) I2.kIn hl hk
  rcases hs with ⟨rfl, rfl⟩ | ⟨z, rfl, hz⟩
  · obtain rfl : iv = Value.none := ry
    obtain ⟨f, hf, hn⟩ := none_at (P := X.prog) (w := X.w) hp2 hk
    refine call_meetsIn PySem.F.slot_dict_get ⟨_, hp2, rfl⟩ PySem.F.entry_dict_get (PySem.F.args_dict_get_2 _ _) (meets_dict_get (noneKind X.prog X.w) p (show (noneKind X.prog X.w).is none .none = true from rfl) hd) ⟨_, hf, ?_⟩
    rw [hn]
    exact ⟨.non, H2, I2.tok _, rfl, q2⟩
  · obtain ⟨t, rfl⟩ := (show ∃ t, iv = Value.str z t from ry)
    refine call_meetsIn PySem.F.slot_dict_get ⟨_, hp2, rfl⟩ PySem.F.entry_dict_get (PySem.F.args_dict_get_2 _ _) (meets_dict_get (strKind X.prog X.w) p (strKind_is X.prog X.w z t) hd) ⟨_, hm, ?_⟩
    rcases hz with ⟨u, hu, rr⟩ | ⟨hu, rfl⟩
    · rw [hu]
      exact ⟨r, H2, I2.tok _, rr, q2⟩
    · rw [hu]
      exact ⟨.non, H2, I2.tok _, rfl, q2⟩
end
end FG

namespace L4
open PySem PySem.Spec PyProof.Rows L2 GR AD
theorem h1000 {n : Nat} (h : n ≤ 1000) : n ≤ sizeLine := small_le h
def isI : PyData → Bool
  | .int _ => true
  | _ => false
def isS : PyData → Bool
  | .str _ => true
  | _ => false
def isTu : PyData → Bool
  | .tuple _ => true
  | _ => false
def isIB : PyData → Bool
  | .int _ => true
  | .bool _ => true
  | _ => false
def isB : PyData → Bool
  | .bool _ => true
  | _ => false
theorem kit_i (K : PySem.W.Frag) : ∀ d : PyData, PySem.W.kitOne K (.type (tyN d)) (.type "int") = some (isIB d)
  | .none => kit_ty (show kitB "NoneType" "int" = some false by decide +kernel)
  | .bool _ => kit_ty (show kitB "bool" "int" = some true by decide +kernel)
  | .int _ => kit_ty (show kitB "int" "int" = some true by decide +kernel)
  | .str _ => kit_ty (show kitB "str" "int" = some false by decide +kernel)
  | .list _ => kit_ty (show kitB "list" "int" = some false by decide +kernel)
  | .tuple _ => kit_ty (show kitB "tuple" "int" = some false by decide +kernel)
  | .dict _ => kit_ty (show kitB "dict" "int" = some false by decide +kernel)
theorem kit_b (K : PySem.W.Frag) : ∀ d : PyData, PySem.W.kitOne K (.type (tyN d)) (.type "bool") = some (isB d)
  | .none => kit_ty (show kitB "NoneType" "bool" = some false by decide +kernel)
  | .bool _ => kit_ty (show kitB "bool" "bool" = some true by decide +kernel)
  | .int _ => kit_ty (show kitB "int" "bool" = some false by decide +kernel)
  | .str _ => kit_ty (show kitB "str" "bool" = some false by decide +kernel)
  | .list _ => kit_ty (show kitB "list" "bool" = some false by decide +kernel)
  | .tuple _ => kit_ty (show kitB "tuple" "bool" = some false by decide +kernel)
  | .dict _ => kit_ty (show kitB "dict" "bool" = some false by decide +kernel)
theorem kit_s (K : PySem.W.Frag) : ∀ d : PyData, PySem.W.kitOne K (.type (tyN d)) (.type "str") = some (isS d)
  | .none => kit_ty (show kitB "NoneType" "str" = some false by decide +kernel)
  | .bool _ => kit_ty (show kitB "bool" "str" = some false by decide +kernel)
  | .int _ => kit_ty (show kitB "int" "str" = some false by decide +kernel)
  | .str _ => kit_ty (show kitB "str" "str" = some true by decide +kernel)
  | .list _ => kit_ty (show kitB "list" "str" = some false by decide +kernel)
  | .tuple _ => kit_ty (show kitB "tuple" "str" = some false by decide +kernel)
  | .dict _ => kit_ty (show kitB "dict" "str" = some false by decide +kernel)
theorem kit_t (K : PySem.W.Frag) : ∀ d : PyData, PySem.W.kitOne K (.type (tyN d)) (.type "tuple") = some (isTu d)
  | .none => kit_ty (show kitB "NoneType" "tuple" = some false by decide +kernel)
  | .bool _ => kit_ty (show kitB "bool" "tuple" = some false by decide +kernel)
  | .int _ => kit_ty (show kitB "int" "tuple" = some false by decide +kernel)
  | .str _ => kit_ty (show kitB "str" "tuple" = some false by decide +kernel)
  | .list _ => kit_ty (show kitB "list" "tuple" = some false by decide +kernel)
  | .tuple _ => kit_ty (show kitB "tuple" "tuple" = some true by decide +kernel)
  | .dict _ => kit_ty (show kitB "dict" "tuple" = some false by decide +kernel)
/-- a test whose answer is told -/
theorem iteB {c : Bool} {A B : Prop} (h1 : c = true → A) (h2 : c = false → B) : if c = true then A else B := by
  cases c with
  | true => exact iteT (h1 rfl)
  | false => exact iteF (h2 rfl)
theorem Dd.tup_inv {K : PySem.W.Frag} {ok : Addr → Prop} {H : Hp} {v : V} {ds : List PyData} (h : Dd K ok H v (.tuple ds)) : ∃ a xs, v = .ref a ∧ SqT K H a xs ∧ DdAll K ok H xs ds := by
  cases h with
  | tup h1 h2 => exact ⟨_, _, rfl, h1, h2⟩
section
variable {P : Program} {w : World} {K : PySem.W.Frag} {mg : Str → Option Value} {base : Heap}
/-- a def of one thing that tells a truth of it -/
def sp_is (K : PySem.W.Frag) (f : PyData → Bool) : Sp := fun vs H Q _ => ∃ (v : V) (d : PyData) (ok : Addr → Prop), vs = [v] ∧ Dd K ok H v d ∧ Q (.bl (f d)) H
abbrev s_is_integer : Stmt := topS 5
theorem sc_is_integer : FnScope ["thing"] ["thing"] (defScope s_is_integer) := ⟨rfl, rfl, rfl, by decide +kernel, rfl, by decide +kernel, by decide +kernel⟩
theorem ok_is_integer {f : Addr} {fd : FuncData} {k : Nat} (F : Fun K "is_integer" "is_integer" s_is_integer f fd) (misi : mg "isinstance" = none) (mint : mg "int" = none) (mbool : mg "bool" = none) : FnOk P w K mg base CX0 (k + 1) f fd ["thing"] (sp_is K isI) := by
  have nd := sc_is_integer.nd
  refine F.ok sc_is_integer (fun vs H Q E h => ?_) (fun cdv A outer s H vs Q E hr h => ?_)
  · obtain ⟨v, d, ok, rfl, _⟩ := h
    rfl
  obtain ⟨v, d, ok, rfl, hd, q⟩ := h
  refine ⟨_, (pss_one (ps_ret (pe_and (pe_callB call_isi (by rfl) misi boot_isinstance (pa_cons (pv 0) (pa_cons (pe_bltn (v := .ty "int") (by rfl) mint boot_int rfl) pa_nil))) (pe_one (pe_not (pe_callB call_isi (by rfl) misi boot_isinstance (pa_cons (pv 0) (pa_cons (pe_bltn (v := .ty "bool") (by rfl) mbool boot_bool rfl) pa_nil)))))))), ?_⟩
  refine ⟨v, rfl, v, .ty "int", _, _, _, rfl, .ty "int", hd.ty, kit_i K d, _, rfl, ?_⟩
  cases d with
  | int i => exact iteT ⟨v, rfl, v, .ty "bool", _, _, _, rfl, .ty "bool", hd.ty, kit_b K _, _, rfl, q⟩
  | bool b => exact iteT ⟨v, rfl, v, .ty "bool", _, _, _, rfl, .ty "bool", hd.ty, kit_b K _, _, rfl, q⟩
  | _ => exact iteF q
/-- a value of the language -/
def isV : PyData → Bool
  | .int i => decide (-LIM ≤ i) && decide (i ≤ LIM)
  | _ => false
abbrev s_is_value : Stmt := topS 6
theorem sc_is_value : FnScope ["thing"] ["thing"] (defScope s_is_value) := ⟨rfl, rfl, rfl, by decide +kernel, rfl, by decide +kernel, by decide +kernel⟩
theorem ok_is_value {f fi : Addr} {fd di : FuncData} {k : Nat} {tl : Tok} (F : Fun K "is_value" "is_value" s_is_value f fd) (G : FnOk P w K mg base CX0 k fi di ["thing"] (sp_is K isI)) (g : mg "is_integer" = some (.ref fi)) (Kf : PySem.W.keepIn K (.ref fi) = true) (b : Binds K di ["thing"] []) (mLIMIT : mg "LIMIT" = some (.int LIM tl)) :
    FnOk P w K mg base CX0 (k + 1) f fd ["thing"] (sp_is K isV) := by
  have nd := sc_is_value.nd
  refine F.ok sc_is_value (fun vs H Q E h => ?_) (fun cdv A outer s H vs Q E hr h => ?_)
  · obtain ⟨v, d, ok, rfl, _⟩ := h
    rfl
  obtain ⟨v, d, ok, rfl, hd, q⟩ := h
  refine ⟨_, (pss_one (ps_ret (pe_and (pe_call G hr (by rfl) g Kf b .nil pass0 (pa_cons (pv 0) pa_nil)) (pe_one (pe_chain op_le op_le (pe_un un_neg (pe_glob (v := .int LIM) rfl mLIMIT ⟨_, rfl⟩)) (pv 0) (pe_glob (v := .int LIM) rfl mLIMIT ⟨_, rfl⟩)))))), ?_⟩
  refine ⟨v, rfl, v, d, ok, rfl, hd, _, rfl, ?_⟩
  cases hd with
  | int i =>
    replace q : Q (.bl (decide (-LIM ≤ i) && decide (i ≤ LIM))) H := q
    refine iteT ⟨LIM, rfl, .int i, rfl, -LIM, i, rfl, rfl, _, rfl, ?_⟩
    cases c : decide (-LIM ≤ i) with
    | true =>
      refine iteT ⟨i, LIM, rfl, rfl, ?_⟩
      rw [c, Bool.true_and] at q
      exact q
    | false =>
      rw [c, Bool.false_and] at q
      exact iteF q
  | _ => exact iteF q
/-! ### names -/
abbrev BARW : List Str := ["key", "if", "at", "count", "sum", "most", "first", "let", "need", "put", "each", "tell"]
def lowC (c : Nat) : Bool := decide (97 ≤ c) && decide (c ≤ 122)
def isN : PyData → Bool
  | .str z => (decide (1 ≤ z.length) && decide (z.length ≤ 8)) && (!decide (z ∈ BARW) && z.cps.toList.all lowC)
  | _ => false
theorem mem26 (c : Nat) : decide (c ∈ L26.cps.toList) = lowC c := by
  rw [Bool.eq_iff_iff, decide_eq_true_eq]
  unfold lowC
  rw [Bool.and_eq_true, decide_eq_true_eq, decide_eq_true_eq]
  constructor
  · exact (show ∀ c, c ∈ L26.cps.toList → 97 ≤ c ∧ c ≤ 122 by decide) c
  · rintro ⟨h1, h2⟩
    have := l26_at (c - 97) (by omega)
    rw [show 97 + (c - 97) = c by omega] at this
    exact List.mem_of_getElem? this
/-- a written tuple of texts -/
def KTx (K : PySem.W.Frag) (p : Addr) (fs : List Str) : Prop := ∀ H, SqT K H p (fs.map V.str)
def Sh (d : PyData) : Prop := ∀ z, d = .str z → z.length ≤ 1000 ∧ PyData.strOk z = true
def sp_isS (K : PySem.W.Frag) (f : PyData → Bool) : Sp := fun vs H Q _ => ∃ (v : V) (d : PyData) (ok : Addr → Prop), vs = [v] ∧ Dd K ok H v d ∧ Sh d ∧ ∀ H', Same H H' → Q (.bl (f d)) H'
theorem in_strs (z : Str) (W : List Str) : inV (.str z) (W.map V.str) = decide (z ∈ W) := by
  unfold inV
  rw [List.any_map, Bool.eq_iff_iff, List.any_eq_true, decide_eq_true_eq]
  constructor
  · rintro ⟨f, hf, e⟩
    have : z = f := by
      have e' : eqV (.str f) (.str z) = true := e
      simp [eqV] at e'
      exact e'.symm
    rw [this]
    exact hf
  · intro h
    exact ⟨z, h, by show eqV (.str z) (.str z) = true; simp [eqV]⟩
theorem take_at {α : Type} {l : List α} {i : Nat} {x : α} (h : l[i]? = some x) : l.take (i + 1) = l.take i ++ [x] := by
  rw [List.take_add_one, h]
  rfl
abbrev s_is_name : Stmt := topS 7
theorem sc_is_name : FnScope ["thing", "sign"] ["thing"] (defScope s_is_name) := ⟨rfl, rfl, rfl, by decide +kernel, rfl, by decide +kernel, by decide +kernel⟩
theorem flat_strsW (W : List Str) : (W.map V.str).all flatV = true := by
  rw [List.all_map, List.all_eq_true]
  intro z _
  rfl
theorem ok_is_name {f aW : Addr} {fd : FuncData} {k : Nat} {tn : Tok} {tl : Tok} (F : Fun K "is_name" "is_name" s_is_name f fd) (misi : mg "isinstance" = none) (mstr : mg "str" = none) (mlen : mg "len" = none) (mall : mg "all" = none)
    (mWORDS : mg "WORDS" = some (.ref aW)) (TW : KTx K aW BARW) (mLONGEST_NAME : mg "LONGEST_NAME" = some (.int 8 tn)) (mLETTERS : mg "LETTERS" = some (.str L26 tl)) : FnOk P w K mg base CX0 (k + 1) f fd ["thing"] (sp_isS K isN) := by
  have nd := sc_is_name.nd
  refine F.ok sc_is_name (fun vs H Q E h => ?_) (fun cdv A outer s H vs Q E hr h => ?_)
  · obtain ⟨v, d, ok, rfl, _⟩ := h
    rfl
  obtain ⟨v, d, ok, rfl, hd, hsh, q⟩ := h
  refine ⟨_, (pss_cons (ps_if (PW.pt (pw_or (pt_not (pt_val (pe_callB call_isi (by rfl) misi boot_isinstance (pa_cons (pv 0) (pa_cons (pe_bltn (v := .ty "str") (by rfl) mstr boot_str rfl) pa_nil)))))
        (pw_or1 (pt_not (pt_chain op_le op_le pe_int (pe_callB call_len_str (by rfl) mlen PySem.boot_len (pa_cons (pv 0) pa_nil)) (pe_glob (v := .int 8) rfl mLONGEST_NAME ⟨_, rfl⟩))))))
      (pss_one (ps_ret pe_bl))
      pss_nil)
      (pss_one (ps_ret (pe_and (pe_cmpR op_notIn_seq (pv 0) (pe_glob (v := .ref aW) rfl mWORDS rfl) (by rfl)) (pe_one (pe_callB (cr_all rfl) (by rfl) mall boot_all (pa_cons (pe_lc (own := [("sign", 1)]) (tt := tYes) (te := tOp (fun x y H Q => ∃ (c : Nat) (z : Str), x = .str ⟨#[c]⟩ ∧ y = .str z ∧ Q (.bl (decide (c ∈ z.cps.toList))) H) (tVar 1) (tC (.str L26))) rfl nd (pi_str (pv 0)) (blkOk_by (N := ["thing", "sign"]) (sc := defScope s_is_name) (by decide +kernel))
        (fun _ _ _ _ _ => (pg_name (i := 1) nd rfl (Or.inl rfl))) (fun _ _ _ _ _ => pts_nil) (fun _ _ _ _ _ => (pe_cmpR op_in_sign (pv 1) (pe_glob (v := .str L26) rfl mLETTERS ⟨_, rfl⟩) (by rfl)))) pa_nil))))))), ?_⟩
  have q0 := q H fun _ _ e => e
  refine ⟨v, rfl, v, .ty "str", _, _, _, rfl, .ty "str", hd.ty, kit_s K d, _, rfl, ?_⟩
  cases hd with
  | str z =>
    have hz := (hsh z rfl).1
    have q1 : ∀ H', Same H H' → Q (.bl ((decide (1 ≤ z.length) && decide (z.length ≤ 8)) && (!decide (z ∈ BARW) && z.cps.toList.all lowC))) H' := q
    have e1 : decide ((1 : Int) ≤ (z.length : Int)) = decide (1 ≤ z.length) := decide_eq_decide.mpr (by omega)
    have e2 : decide ((z.length : Int) ≤ (8 : Int)) = decide (z.length ≤ 8) := decide_eq_decide.mpr (by omega)
    refine iteF ⟨.str z, rfl, z, rfl, h1000 hz, 1, (z.length : Int), rfl, rfl, _, rfl, ?_⟩
    rw [e1]
    cases c1 : decide (1 ≤ z.length) with
    | false =>
      rw [c1, Bool.false_and, Bool.false_and] at q1
      exact iteF ⟨_, rfl, iteT (q1 H fun _ _ e => e)⟩
    | true =>
    rw [c1, Bool.true_and] at q1
    refine iteT ⟨(z.length : Int), 8, rfl, rfl, _, rfl, ?_⟩
    rw [e2]
    cases c2 : decide (z.length ≤ 8) with
    | false =>
      rw [c2, Bool.false_and] at q1
      exact iteT (q1 H fun _ _ e => e)
    | true =>
    rw [c2, Bool.true_and] at q1
    refine iteF ⟨.str z, rfl, aW, BARW.map V.str, rfl, .inr (TW H), rfl, flat_strsW _, _, rfl, ?_⟩
    show if (!inV (.str z) (BARW.map V.str)) = true then _ else _
    rw [in_strs]
    cases c3 : decide (z ∈ BARW) with
    | true =>
      rw [c3] at q1
      exact iteF (q1 H fun _ _ e => e)
    | false =>
    rw [c3, Bool.not_false, Bool.true_and] at q1
    have hlen : z.cps.size ≤ 1000 := hz
    refine iteT ⟨.str z, rfl, z, rfl, fun D nD => ?_⟩
    refine lc_it walk_str (fun i H' => H' D = some (.lst (((z.cps.toList.take i).map lowC).map V.bl)) ∧ ∀ b o, b ≠ D → H b = some o → H' b = some o) ?_ (fun _ _ _ _ => trivial) ?_ ?_
    · exact ⟨upd_same, fun b o nb e => by rw [upd_ne nb]; exact e⟩
    · rintro i x H1 H' hi ⟨hD, kp⟩ ⟨rfl, c, hc, rfl⟩
      have hc' : z.cps.toList[i]? = some c := by rw [Array.getElem?_toList]; exact hc
      refine ⟨rfl, yes_then ⟨.str ⟨#[c]⟩, rfl, c, L26, rfl, rfl, _, hD, small1000 (by rw [List.length_map, List.length_map, List.length_take]; rw [Array.length_toList]; omega), ?_, fun b o nb e => by rw [upd_ne nb]; exact kp b o nb e⟩⟩
      rw [mem26, take_at hc', List.map_append, List.map_append]
      exact upd_same
    · rintro H1 ⟨hD, kp⟩
      have sD : Same H H1 := fun b o e => kp b o (ne_of_none e nD) e
      rw [← Array.length_toList, List.take_length] at hD
      refine ⟨D, z.cps.toList.map lowC, rfl, .inl (.inl hD), ?_⟩
      rw [List.all_map]
      exact q1 H1 sD
  | _ => exact iteT (iteT q0)
end
end L4

namespace L4
open PySem PySem.Spec PyProof.Rows L2 GR AD
/-! ### the form of an expression -/
/-- its word, if it has one -/
def wordV : PyData → V
  | .tuple (.str w :: _) => .str w
  | _ => .non
def fitsD (f : Str) (d : PyData) : Bool := if f = "value" then isV d else if f = "name" then isN d else if f = "position" then (match d with | .int i => decide (0 ≤ i) | _ => false) else if f = "extra" then isTu d else true
/-- the kinds that stand behind a word -/
def look (w : Str) : Option (List Str) := (table.find? fun p => decide (p.1 = w)).map (·.2)
def fitsAll : List Str → List PyData → Bool
  | [], [] => true
  | f :: fs, d :: ds => fitsD f d && fitsAll fs ds
  | _, _ => false
def hasForm : PyData → Bool
  | .tuple (.str w :: r) => (match look w with | some fs => fitsAll fs r | none => false)
  | _ => false
section
variable {P : Program} {w : World} {K : PySem.W.Frag} {mg : Str → Option Value} {base : Heap}
abbrev s_word_of : Stmt := topS 8
theorem sc_word_of : FnScope ["thing"] ["thing"] (defScope s_word_of) := ⟨rfl, rfl, rfl, by decide +kernel, rfl, by decide +kernel, by decide +kernel⟩
def sp_word (K : PySem.W.Frag) : Sp := fun vs H Q _ => ∃ (v : V) (d : PyData) (ok : Addr → Prop), vs = [v] ∧ Dd K ok H v d ∧ Q (wordV d) H
theorem ok_word_of {f : Addr} {fd : FuncData} {k : Nat} (F : Fun K "word_of" "word_of" s_word_of f fd) (misi : mg "isinstance" = none) (mtuple : mg "tuple" = none) (mstr : mg "str" = none) : FnOk P w K mg base CX0 (k + 1) f fd ["thing"] (sp_word K) := by
  have nd := sc_word_of.nd
  refine F.ok sc_word_of (fun vs H Q E h => ?_) (fun cdv A outer s H vs Q E hr h => ?_)
  · obtain ⟨v, d, ok, rfl, _⟩ := h
    rfl
  obtain ⟨v, d, ok, rfl, hd, q⟩ := h
  refine ⟨_, (pss_cons (ps_if (PW.pt (pw_and (pt_val (pe_callB call_isi (by rfl) misi boot_isinstance (pa_cons (pv 0) (pa_cons (pe_bltn (v := .ty "tuple") (by rfl) mtuple boot_tuple rfl) pa_nil)))) (pw_and (pt_truth (pv 0) (fun _ => rfl)) (pw_and1 (pt_val (pe_callB call_isi (by rfl) misi boot_isinstance (pa_cons (pe_ix ix_tup (pv 0) pe_int (fun _ _ => rfl)) (pa_cons (pe_bltn (v := .ty "str") (by rfl) mstr boot_str rfl) pa_nil))))))))
      (pss_one (ps_ret (pe_ix ix_tup (pv 0) pe_int (fun _ _ => rfl))))
      pss_nil)
      (pss_one (ps_ret pe_non))), ?_⟩
  refine ⟨v, rfl, v, .ty "tuple", _, _, _, rfl, .ty "tuple", hd.ty, kit_t K d, _, rfl, ?_⟩
  cases hd with
  | tup hs ha =>
    rename_i a xs ds
    refine iteT ⟨.ref a, rfl, !xs.isEmpty, .inr (.inl ⟨xs, hs, rfl⟩), ?_⟩
    cases ha with
    | nil => exact iteF q
    | cons h1 r1 =>
      rename_i v1 vs1 d1 ds1
      refine iteT ⟨.ref a, rfl, a, _, 0, v1, rfl, rfl, hs, at0, v1, .ty "str", _, _, _, rfl, .ty "str", h1.ty, kit_s K d1, _, rfl, ?_⟩
      cases h1 with
      | str z => exact iteT ⟨.ref a, rfl, a, _, 0, .str z, rfl, rfl, hs, at0, q⟩
      | _ => exact iteF q
  | _ => exact iteF q
abbrev s_fits : Stmt := topS 14
theorem sc_fits : FnScope ["kind", "part"] ["kind", "part"] (defScope s_fits) := ⟨rfl, rfl, rfl, by decide +kernel, rfl, by decide +kernel, by decide +kernel⟩
def sp_fits (K : PySem.W.Frag) : Sp := fun vs H Q _ => ∃ (z : Str) (v : V) (d : PyData) (ok : Addr → Prop), vs = [.str z, v] ∧ Dd K ok H v d ∧ Sh d ∧ ∀ H', Same H H' → Q (.bl (fitsD z d)) H'
theorem ok_fits {f fv fn fi : Addr} {fd dv dn di : FuncData} {k : Nat} (F : Fun K "fits" "fits" s_fits f fd) (Gv : FnOk P w K mg base CX0 k fv dv ["thing"] (sp_is K isV)) (gv : mg "is_value" = some (.ref fv)) (Kv : PySem.W.keepIn K (.ref fv) = true) (bv : Binds K dv ["thing"] [])
    (Gn : FnOk P w K mg base CX0 k fn dn ["thing"] (sp_isS K isN)) (gn : mg "is_name" = some (.ref fn)) (Kn : PySem.W.keepIn K (.ref fn) = true) (bn : Binds K dn ["thing"] [])
    (Gi : FnOk P w K mg base CX0 k fi di ["thing"] (sp_is K isI)) (gi : mg "is_integer" = some (.ref fi)) (Ki : PySem.W.keepIn K (.ref fi) = true) (bi : Binds K di ["thing"] [])
    (misi : mg "isinstance" = none) (mtuple : mg "tuple" = none) : FnOk P w K mg base CX0 (k + 1) f fd ["kind", "part"] (sp_fits K) := by
  have nd := sc_fits.nd
  refine F.ok sc_fits (fun vs H Q E h => ?_) (fun cdv A outer s H vs Q E hr h => ?_)
  · obtain ⟨z, v, d, ok, rfl, _⟩ := h
    rfl
  obtain ⟨z, v, d, ok, rfl, hd, hsh, q⟩ := h
  refine ⟨_, (pss_cons (ps_if (pt_cmpR op_eq (pv 0) pe_str (nomark _)) (pss_one (ps_ret (pe_call Gv hr (by rfl) gv Kv bv .nil pass0 (pa_cons (pv 1) pa_nil)))) pss_nil)
      (pss_cons (ps_if (pt_cmpR op_eq (pv 0) pe_str (nomark _)) (pss_one (ps_ret (pe_call Gn hr (by rfl) gn Kn bn .nil pass0 (pa_cons (pv 1) pa_nil)))) pss_nil)
      (pss_cons (ps_if (pt_cmpR op_eq (pv 0) pe_str (nomark _)) (pss_one (ps_ret (pe_and (pe_call Gi hr (by rfl) gi Ki bi .nil pass0 (pa_cons (pv 1) pa_nil)) (pe_one (pe_cmpR op_ge (pv 1) pe_int (nomark _)))))) pss_nil)
      (pss_cons (ps_if (pt_cmpR op_eq (pv 0) pe_str (nomark _)) (pss_one (ps_ret (pe_callB call_isi (by rfl) misi boot_isinstance (pa_cons (pv 1) (pa_cons (pe_bltn (v := .ty "tuple") (by rfl) mtuple boot_tuple rfl) pa_nil))))) pss_nil)
      (pss_one (ps_ret pe_bl)))))), ?_⟩
  have q0 : Q (.bl (fitsD z d)) H := q H fun _ _ e => e
  unfold fitsD at q q0
  refine ⟨.str z, rfl, rfl, _, rfl, ite2 (fun e1 => ?_) (fun e1 => ?_)⟩
  · have e1 : z = "value" := by simpa using e1
    rw [if_pos e1] at q0
    exact ⟨v, rfl, v, d, ok, rfl, hd, q0⟩
  have e1 : z ≠ "value" := fun x => e1 (by simpa using x)
  rw [if_neg e1] at q0
  simp only [if_neg e1] at q
  refine ⟨.str z, rfl, rfl, _, rfl, ite2 (fun e2 => ?_) (fun e2 => ?_)⟩
  · have e2 : z = "name" := by simpa using e2
    simp only [if_pos e2] at q
    exact ⟨v, rfl, v, d, ok, rfl, hd, hsh, q⟩
  have e2 : z ≠ "name" := fun x => e2 (by simpa using x)
  rw [if_neg e2] at q0
  refine ⟨.str z, rfl, rfl, _, rfl, ite2 (fun e3 => ?_) (fun e3 => ?_)⟩
  · have e3 : z = "position" := by simpa using e3
    rw [if_pos e3] at q0
    refine ⟨v, rfl, v, d, ok, rfl, hd, ?_⟩
    cases hd with
    | int i => exact ⟨true, rfl, iteT ⟨.int i, rfl, i, 0, rfl, rfl, q0⟩⟩
    | _ => exact ⟨false, rfl, iteF q0⟩
  have e3 : z ≠ "position" := fun x => e3 (by simpa using x)
  rw [if_neg e3] at q0
  refine ⟨.str z, rfl, rfl, _, rfl, ite2 (fun e4 => ?_) (fun e4 => ?_)⟩
  · have e4 : z = "extra" := by simpa using e4
    rw [if_pos e4] at q0
    exact ⟨v, rfl, v, .ty "tuple", _, _, _, rfl, .ty "tuple", hd.ty, kit_t K d, q0⟩
  have e4 : z ≠ "extra" := fun x => e4 (by simpa using x)
  rw [if_neg e4] at q0
  exact q0
end
end L4

namespace L4
open PySem PySem.Spec PyProof.Rows L2 GR AD RZ
theorem walk_zipT {K : PySem.W.Frag} {a b : Addr} {xs ys : List V} {n : Nat} (hx : n = xs.length) (hy : n = ys.length) : Walk (ItzT K a b) n (fun H => SqT K H a xs ∧ SqT K H b ys) (YPair (fun i => xs[i]?) (fun i => ys[i]?)) := by
  refine ⟨fun i H hi q => ⟨xs, ys, xs[i]'(by omega), ys[i]'(by omega), q.1, q.2, List.getElem?_eq_getElem _, List.getElem?_eq_getElem _⟩, fun H q => ⟨xs, ys, q.1, q.2, .inl (by omega)⟩, fun i H v H' hi q y => ?_⟩
  obtain ⟨T, x, z, h1, h2, h3, h4, h5⟩ := y
  exact ⟨T, x, z, h1, h2, h3, h4 xs q.1, h5 ys q.2⟩
/-- the table of kinds, as it is written -/
structure Tab (K : PySem.W.Frag) (w : World) (fA : Addr) (es : Array DictEntry) (n : Nat) : Prop where
  at' : K.lookup fA = some ⟨.type "dict", none, .dict es n, #[]⟩
  keys : PySem.W.KeysLit w.params es.toList
  low : (fA == sysModules) = false
  yes : ∀ wd fs, (wd, fs) ∈ table → ∃ p, findBy Value.isStrOf es wd = some (.ref p) ∧ KTx K p fs
  no : ∀ wd, look wd = none → findBy Value.isStrOf es wd = none
theorem look_some {w : Str} {fs : List Str} (h : look w = some fs) : (w, fs) ∈ table := by
  unfold look at h
  obtain ⟨p, hp, rfl⟩ := Option.map_eq_some_iff.mp h
  have h1 := List.find?_some hp
  have h2 := List.mem_of_find?_eq_some hp
  rw [decide_eq_true_eq] at h1
  rw [← h1]
  exact h2
theorem form_some {z : Str} {r : List PyData} {fs : List Str} (h : look z = some fs) : hasForm (.tuple (.str z :: r)) = fitsAll fs r := by
  show (match look z with | some fs => fitsAll fs r | none => false) = _
  rw [h]
theorem form_none {z : Str} {r : List PyData} (h : look z = none) : hasForm (.tuple (.str z :: r)) = false := by
  show (match look z with | some fs => fitsAll fs r | none => false) = _
  rw [h]
theorem fitsAll_len : ∀ {fs : List Str} {ds : List PyData}, fs.length ≠ ds.length → fitsAll fs ds = false
  | [], [], h => absurd rfl h
  | [], _ :: _, _ => rfl
  | _ :: _, [], _ => rfl
  | f :: fs, d :: ds, h => by
    show (fitsD f d && fitsAll fs ds) = false
    rw [fitsAll_len (fs := fs) (ds := ds) (fun e => h (by rw [List.length_cons, List.length_cons, e])), Bool.and_false]
/-- the answers so far -/
def fitsUp (fs : List Str) (ds : List PyData) (i : Nat) : List Bool := ((fs.zip ds).take i).map fun p => fitsD p.1 p.2
theorem fitsAll_zip : ∀ {fs : List Str} {ds : List PyData}, fs.length = ds.length → fitsAll fs ds = ((fs.zip ds).map fun p => fitsD p.1 p.2).all id
  | [], [], _ => rfl
  | f :: fs, d :: ds, h => by
    show (fitsD f d && fitsAll fs ds) = _
    rw [fitsAll_zip (fs := fs) (ds := ds) (by simpa using h), List.zip_cons_cons, List.map_cons, List.all_cons]
    rfl
theorem table_len : ∀ p, p ∈ table → p.2.length ≤ 6 := by decide
theorem dd_at {K : PySem.W.Frag} {ok : Addr → Prop} {H : Hp} : ∀ {vs : List V} {ds : List PyData}, DdAll K ok H vs ds → ∀ {i : Nat} {v : V}, vs[i]? = some v → ∃ d, ds[i]? = some d ∧ Dd K ok H v d
  | _, _, .nil, i, v, h => by simp at h
  | _, _, .cons h1 t, 0, v, h => by cases h; exact ⟨_, rfl, h1⟩
  | _, _, .cons h1 t, i + 1, v, h => by
    obtain ⟨d, e1, e2⟩ := dd_at t (by simpa using h)
    exact ⟨d, by simpa using e1, e2⟩
section
variable {P : Program} {w : World} {K : PySem.W.Frag} {mg : Str → Option Value} {base : Heap}
abbrev s_has_form : Stmt := topS 13
abbrev N_hf : List Str := ["thing", "kinds", "kind", "part"]
theorem sc_has_form : FnScope N_hf ["thing"] (defScope s_has_form) := ⟨rfl, rfl, rfl, by decide +kernel, rfl, by decide +kernel, by decide +kernel⟩
def sp_hf (K : PySem.W.Frag) : Sp := fun vs H Q _ => ∃ (v : V) (d : PyData) (ok : Addr → Prop), vs = [v] ∧ Dd K ok H v d ∧ (∀ ds, d = .tuple ds → ∀ y, y ∈ ds → Sh y) ∧ ∀ H', Same H H' → Q (.bl (hasForm d)) H'
theorem ok_has_form {f fw ff fA : Addr} {fd dw df : FuncData} {k : Nat} {es : Array DictEntry} {n : Nat} (F : Fun K "has_form" "has_form" s_has_form f fd) (Gw : FnOk P w K mg base CX0 k fw dw ["thing"] (sp_word K)) (gw : mg "word_of" = some (.ref fw)) (Kw : PySem.W.keepIn K (.ref fw) = true) (bw : Binds K dw ["thing"] [])
    (Gf : FnOk P w K mg base CX0 k ff df ["kind", "part"] (sp_fits K)) (gf : mg "fits" = some (.ref ff)) (Kf : PySem.W.keepIn K (.ref ff) = true) (bf : Binds K df ["kind", "part"] [])
    (mFIELDS : mg "FIELDS" = some (.ref fA)) (T : Tab K w fA es n) (mlen : mg "len" = none) (mzip : mg "zip" = none) (mall : mg "all" = none) : FnOk P w K mg base CX0 (k + 1) f fd ["thing"] (sp_hf K) := by
  have nd := sc_has_form.nd
  refine F.ok sc_has_form (fun vs H Q E h => ?_) (fun cdv A outer s H vs Q E hr h => ?_)
  · obtain ⟨v, d, ok, rfl, _⟩ := h
    rfl
  obtain ⟨v, d, ok, rfl, hd, hsh, q⟩ := h
  refine ⟨_, (pss_cons (ps_set (i := 1) nd rfl (.inl rfl) (FG.pe_kget (pe_glob rfl mFIELDS (v := .ref fA) rfl) (pe_call Gw hr (by rfl) gw Kw bw .nil pass0 (pa_cons (pv 0) pa_nil)) ⟨by rfl, by rfl, by rfl, by rfl⟩))
      (pss_cons (ps_if (PW.pt (pw_or (pt_cmpR op_isN (pv 1) pe_non (nomark _)) (pw_or1 (pt_cmpR op_ne (pe_callB call_len_seq (by rfl) mlen PySem.boot_len (pa_cons (pv 0) pa_nil)) (pe_op op_add pe_int (pe_callB call_len_seq (by rfl) mlen PySem.boot_len (pa_cons (pv 1) pa_nil))) (nomark _)))))
        (pss_one (ps_ret pe_bl))
        pss_nil)
      (pss_one (ps_ret (pe_callB (cr_all rfl) (by rfl) mall boot_all (pa_cons (pe_lc (own := [("kind", 2), ("part", 3)]) (g := gTup K 2 (gCons (gName 2) (gCons (gName 3) gNil))) (tt := tYes) (te := tCall (sp_fits K) [] E0 (tCons (tVar 2) (tCons (tVar 3) tNil))) rfl nd
          (pi_zipA (by rfl) mzip (pa_cons (pv 1) (pa_cons (pe_slice L2.sl_tup (pv 0) (po_some pe_int) po_none) pa_nil))) (blkOk_by (N := N_hf) (sc := defScope s_has_form) (by decide +kernel))
          (fun _ _ _ _ _ => (pg_tup rfl (pgs_cons (pg_name (i := 2) (x := "kind") nd rfl (Or.inl rfl)) (pgs_cons (pg_name (i := 3) (x := "part") nd rfl (Or.inl rfl)) pgs_nil))))
          (fun _ _ _ _ _ => pts_nil) (fun _ _ _ _ _ => (pe_call Gf hr (by rfl) gf Kf bf .nil pass0 (pa_cons (pv 2) (pa_cons (pv 3) pa_nil))))) pa_nil)))))), ?_⟩
  refine ⟨fA, es, n, rfl, T.at', T.keys, T.low, v, rfl, v, d, ok, rfl, hd, ?_⟩
  cases hd with
  | tup hs ha =>
    rename_i a xs ds
    cases ha with
    | nil => exact ⟨.non, .inl ⟨rfl, rfl⟩, .non, rfl, rfl, _, rfl, iteT (iteT (q H fun _ _ e => e))⟩
    | cons h1 r1 =>
      rename_i v1 vs1 d1 ds1
      cases h1 with
      | str z =>
        cases hlk : look z with
        | none =>
          refine ⟨.non, .inr ⟨z, rfl, .inr ⟨T.no z hlk, rfl⟩⟩, .non, rfl, rfl, _, rfl, iteT (iteT ?_)⟩
          have := q H fun _ _ e => e
          rw [form_none hlk] at this
          exact this
        | some fs =>
          have hq : ∀ H', Same H H' → Q (.bl (fitsAll fs ds1)) H' := fun H' s => by
            have := q H' s
            rw [form_some hlk] at this
            exact this
          obtain ⟨p, hp1, hp2⟩ := T.yes z fs (look_some hlk)
          have hlen := r1.len
          have hf6 : fs.length ≤ 6 := table_len _ (look_some hlk)
          refine ⟨.ref p, .inr ⟨z, rfl, .inl ⟨.ref p, hp1, rfl⟩⟩, .ref p, rfl, rfl, _, rfl, ?_⟩
          rw [decide_eq_false (fun z => nomatch z)]
          refine iteF ⟨.ref a, rfl, a, _, rfl, .inr hs, .ref p, rfl, p, _, rfl, .inr (hp2 H), 1, _, rfl, rfl, rfl, _, rfl, ?_⟩
          by_cases c : fs.length = ds1.length
          case neg =>
            rw [fitsAll_len c] at hq
            rw [show (!decide (V.int (((V.str z :: vs1).length : Nat) : Int) = V.int (1 + (((fs.map V.str).length : Nat) : Int)))) = true from by
              rw [decide_eq_false (fun e => c (by injection e with e; rw [List.length_cons, List.length_map] at e; omega))]; rfl]
            exact iteT (hq H fun _ _ e => e)
          rw [show (!decide (V.int (((V.str z :: vs1).length : Nat) : Int) = V.int (1 + (((fs.map V.str).length : Nat) : Int)))) = false from by
            rw [decide_eq_true (by congr 1; rw [List.length_cons, List.length_map]; omega)]; rfl]
          refine iteF ⟨.ref p, rfl, .ref a, rfl, 1, rfl, a, _, rfl, hs, ?_, fun c1 nc => ?_⟩
          · rw [List.length_cons]
            rintro ⟨e, _⟩
            have : HT.sIx (vs1.length + 1) 0 (some 1) = min 1 (vs1.length + 1) := HT.sIx_nat _ _ 1
            rw [this] at e
            omega
          have hcut : cutV (.str z :: vs1) (some 1) none = vs1 := by
            unfold cutV
            rw [HT.sIx_none, show HT.sIx (V.str z :: vs1).length 0 (some 1) = min 1 (V.str z :: vs1).length from HT.sIx_nat _ _ 1, List.length_cons, show min 1 (vs1.length + 1) = 1 by omega, List.drop_succ_cons, List.drop_zero, show vs1.length + 1 - 1 = vs1.length by omega, List.take_length]
          rw [hcut]
          have sc := same_upd (o := .tup vs1) nc
          have hc1 : upd H c1 (.tup vs1) c1 = some (.tup vs1) := upd_same
          revert sc hc1
          generalize upd H c1 (.tup vs1) = H1
          intro sc hc1
          refine ⟨p, c1, fs.map V.str, vs1, rfl, .inr ⟨hp2 H1, .inl (.inl hc1), fun D nD => ?_⟩⟩
          refine lc_it (walk_zipT (xs := fs.map V.str) (ys := vs1) (n := fs.length) (by rw [List.length_map]) (by omega)) (fun i H' => H' D = some (.lst ((fitsUp fs ds1 i).map V.bl)) ∧ ∀ b o, b ≠ D → H1 b = some o → H' b = some o) ?_ ?_ ?_ ?_
          · exact ⟨upd_same, fun b o nb e => by rw [upd_ne nb]; exact e⟩
          · rintro i H' _ ⟨_, kp⟩
            exact ⟨hp2 H', .inl (.inl (kp _ _ (ne_of_none hc1 nD) hc1))⟩
          · rintro i x H2 H' hi ⟨hD, kp⟩ ⟨T1, x1, y1, rfl, hT, rfl, hx1, hy1⟩
            replace hx1 : (fs.map V.str)[i]? = some x1 := hx1
            replace hy1 : vs1[i]? = some y1 := hy1
            rw [List.getElem?_map] at hx1
            obtain ⟨fi, hfi, rfl⟩ := Option.map_eq_some_iff.mp hx1
            have sT := same_upd (o := .tup [.str fi, y1]) hT
            have s12 : Same H1 H2 := fun b o e => kp b o (ne_of_none e nD) e
            have s02 := sc.trans (s12.trans sT)
            obtain ⟨di, hdi, hyd⟩ := dd_at (r1.keep (KeepO.of s02)) hy1
            have hDT := sT _ _ hD
            refine ⟨_, _, rfl, .inl (.inl upd_same), rfl, _, _, rfl, _, _, rfl, rfl, rfl, yes_then ⟨.str fi, rfl, y1, rfl, fi, y1, di, ok, rfl, hyd, hsh _ rfl di (List.mem_cons_of_mem _ (List.mem_of_getElem? hdi)), fun H3 s3 => ⟨_, s3 _ _ hDT, small1000 ?_, ?_, fun b o nb e => ?_⟩⟩⟩
            · unfold fitsUp
              rw [List.length_map, List.length_map, List.length_take]
              omega
            · have hz : (fs.zip ds1)[i]? = some (fi, di) := List.getElem?_zip_eq_some.mpr ⟨hfi, hdi⟩
              unfold fitsUp
              rw [take_at hz, List.map_append, List.map_append]
              exact upd_same
            · rw [upd_ne nb]
              exact s3 _ _ (sT _ _ (kp b o nb e))
          · rintro H2 ⟨hD, kp⟩
            have s12 : Same H1 H2 := fun b o e => kp b o (ne_of_none e nD) e
            have hzl : fs.length = (fs.zip ds1).length := by
              rw [List.length_zip]
              omega
            unfold fitsUp at hD
            rw [hzl, List.take_length] at hD
            refine ⟨D, (fs.zip ds1).map fun p => fitsD p.1 p.2, rfl, .inl (.inl hD), ?_⟩
            rw [← fitsAll_zip c]
            exact hq H2 (sc.trans s12)
      | _ => exact ⟨.non, .inl ⟨rfl, rfl⟩, .non, rfl, rfl, _, rfl, iteT (iteT (q H fun _ _ e => e))⟩
  | _ => exact ⟨.non, .inl ⟨rfl, rfl⟩, .non, rfl, rfl, _, rfl, iteT (iteT (q H fun _ _ e => e))⟩
end
end L4

namespace L4
open PySem PySem.Spec PyProof.Rows L2 GR AD RZ WX
mutual
theorem _root_.AD.Dd.off {K : PySem.W.Frag} {ok : Addr → Prop} {H : Hp} {p : Addr} (n : H p = none) : ∀ {v : V} {d : PyData}, Dd K ok H v d → Dd K (fun b => ok b ∧ b ≠ p) H v d
  | _, _, .non => .non
  | _, _, .bl b => .bl b
  | _, _, .int i => .int i
  | _, _, .str x => .str x
  | _, _, .lst h o q => .lst h ⟨o, ne_of_none h n⟩ (AD.DdAll.off n q)
  | _, _, .tup h q => .tup h (AD.DdAll.off n q)
  | _, _, .dk h o q => .dk h ⟨o, ne_of_none h n⟩ (AD.DdAll.off n q)
theorem _root_.AD.DdAll.off {K : PySem.W.Frag} {ok : Addr → Prop} {H : Hp} {p : Addr} (n : H p = none) : ∀ {vs : List V} {ds : List PyData}, DdAll K ok H vs ds → DdAll K (fun b => ok b ∧ b ≠ p) H vs ds
  | _, _, .nil => .nil
  | _, _, .cons h q => .cons (AD.Dd.off n h) (AD.DdAll.off n q)
end
theorem _root_.AD.DdAll.app {K : PySem.W.Frag} {ok : Addr → Prop} {H : Hp} : ∀ {vs us : List V} {ds es : List PyData}, DdAll K ok H vs ds → DdAll K ok H us es → DdAll K ok H (vs ++ us) (ds ++ es)
  | _, _, _, _, .nil, h => h
  | _, _, _, _, .cons a t, h => .cons a (t.app h)
section
variable {P : Program} {w : World} {K : PySem.W.Frag} {mg : Str → Option Value} {base : Heap}
abbrev s_contained_of : Stmt := topS 16
theorem sc_contained_of : FnScope ["expression", "wanted", "found", "kind", "part"] ["expression", "wanted"] (defScope s_contained_of) := ⟨rfl, rfl, rfl, by decide +kernel, rfl, by decide +kernel, by decide +kernel⟩
def sp_contained_of (K : PySem.W.Frag) : Sp := fun vs H Q _ => ∃ (a wA : Addr) (wd : Str) (fs wanted : List Str) (rest : List PyData) (ok : Addr → Prop), vs = [.ref a, .ref wA] ∧ Dd K ok H (.ref a) (.tuple (.str wd :: rest)) ∧ (wd, fs) ∈ table ∧ Fits fs rest ∧ (pick wanted fs rest).length ≤ 4000000 ∧ SqT K H wA (wanted.map V.str) ∧
  ∀ H' p us, Same H H' → H p = none → H' p = some (.lst us) → DdAll K ok H' us (pick wanted fs rest) → Q (.ref p) H'
theorem wanted_in (f : Str) (W : List Str) : inV (.str f) (W.map V.str) = decide (f ∈ W) := by
  unfold inV
  rw [List.any_map, Bool.eq_iff_iff, List.any_eq_true, decide_eq_true_eq]
  constructor
  · rintro ⟨z, hz, e⟩
    have : eqV (.str z) (.str f) = true := e
    have e2 : z = f := by
      simpa [eqV] using this
    exact e2 ▸ hz
  · intro h
    exact ⟨f, h, by show eqV (.str f) (.str f) = true; simp [eqV]⟩
theorem flat_strs (W : List Str) : (W.map V.str).all flatV = true := by
  rw [List.all_map, List.all_eq_true]
  intro z _
  rfl
theorem ok_contained_of {f fA : Addr} {fd : FuncData} {k : Nat} (F : Fun K "contained_of" "contained_of" s_contained_of f fd) (mFIELDS : mg "FIELDS" = some (.ref fA)) (T : Flds K w fA) (mzip : mg "zip" = none) :
    FnOk P w K mg base CX0 (k + 1) f fd ["expression", "wanted"] (sp_contained_of K) := by
  have nd := sc_contained_of.nd
  refine F.ok sc_contained_of (fun vs H Q E h => ?_) (fun cdv A outer s H vs Q E hr h => ?_)
  · obtain ⟨a, wA, wd, fs, wanted, rest, ok, rfl, _⟩ := h
    rfl
  obtain ⟨a, wA, wd, fs, wanted, rest, ok, rfl, hd, ht, hfit, hlen, hW, q⟩ := h
  refine ⟨_, (pss_cons (ps_set (i := 2) nd rfl (.inl rfl) (pe_lst pa_nil))
      (pss_cons (ps_for PassesOwn.never rfl (pi_zipA (by rfl) mzip (pa_cons (pe_ix ix_kdict (pe_glob rfl mFIELDS (v := .ref fA) rfl) (pe_ix ix_tup (pv 0) pe_int (fun _ _ => rfl)) (fun _ _ => rfl)) (pa_cons (pe_slice sl_tup (pv 0) (po_some pe_int) po_none) pa_nil))) (pg_tup rfl (pgs_cons (pg_name (i := 3) nd rfl (Or.inl rfl)) (pgs_cons (pg_name (i := 4) nd rfl (Or.inl rfl)) pgs_nil)))
      (pss_one (ps_if (pt_cmpR op_eq (pv 3) pe_str (nomark _))
        (pss_one (ps_expr (pe_bm PySem.F.plainAttrs_list PySem.F.slot_list_extend PySem.F.type_list_extend mt_extendT (pv 2) (pa_cons (pv 4) pa_nil))))
        (pss_one (ps_if (pt_cmpR op_in_seq (pv 3) (pv 1) (by rfl))
          (pss_one (ps_expr (pe_bm PySem.F.plainAttrs_list PySem.F.slot_list_append PySem.F.type_list_append mt_append (pv 2) (pa_cons (pv 4) pa_nil))))
          pss_nil)))))
      (pss_one (ps_ret (pv 2))))), ?_⟩
  cases hd with
  | tup hS hA =>
  cases hA with
  | cons hw hA =>
  cases hw
  rename_i vs0
  obtain ⟨fp, hK, hF⟩ := T wd fs ht
  have hl0 := hA.len
  refine ⟨Nat.zero_le _, fun fo nfo => ?_⟩
  have sf := same_upd (o := .lst []) nfo
  refine ⟨.ref a, rfl, a, _, 0, .str wd, rfl, rfl, (KeepT.of sf).seqt hS, at0, fA, wd, .ref fp, rfl, rfl, hK, .ref a, rfl, 1, rfl, a, _, rfl, (KeepT.of sf).seqt hS, ?_, fun c nc => ?_⟩
  · rw [List.length_cons]
    rintro ⟨e, _⟩
    have : HT.sIx (vs0.length + 1) 0 (some 1) = min 1 (vs0.length + 1) := HT.sIx_nat _ _ 1
    rw [this] at e
    omega
  have hcut : cutV (.str wd :: vs0) (some 1) none = vs0 := by
    unfold cutV
    rw [HT.sIx_none, show HT.sIx (V.str wd :: vs0).length 0 (some 1) = min 1 (V.str wd :: vs0).length from HT.sIx_nat _ _ 1, List.length_cons, show min 1 (vs0.length + 1) = 1 by omega, List.drop_succ_cons, List.drop_zero, show vs0.length + 1 - 1 = vs0.length by omega, List.take_length]
  rw [hcut]
  have sc := same_upd (o := .tup vs0) nc
  have hc1 : upd (upd H fo (.lst [])) c (.tup vs0) c = some (.tup vs0) := upd_same
  have hf1 := sc _ _ (show upd H fo (.lst []) fo = _ from upd_same)
  have s2 := sf.trans sc
  revert hc1 hf1 s2
  generalize upd (upd H fo (.lst [])) c (.tup vs0) = H1
  intro hc1 hf1 s2
  have hl : (fs.map V.str).length = vs0.length := by rw [List.length_map, hfit.len, hl0]
  refine ⟨fp, c, fs.map V.str, vs0, rfl, .inr ⟨hF H1, .inl (.inl hc1), ?_⟩⟩
  refine for_zipT hl (fun i σ H' => ∃ (y3 y4 : Option V) (us : List V), σ = [some (.ref a), some (.ref wA), some (.ref fo), y3, y4] ∧ H' fo = some (.lst us) ∧ DdAll K (fun b => ok b ∧ b ≠ fo) H' us (pick wanted (fs.take i) (rest.take i)) ∧ (∀ b o, b ≠ fo → H1 b = some o → H' b = some o)) ?_ ?_ ?_ ?_
  · refine ⟨none, none, [], rfl, hf1, ?_, fun b o _ e => e⟩
    simp only [List.take_zero, pick]
    exact .nil
  · rintro i σ H' ⟨y3, y4, us, rfl, hu, hdp, kk⟩
    exact ⟨hF H', .inl (.inl (kk _ _ (ne_of hc1 hf1 (fun z => by cases z)) hc1))⟩
  · rintro i x y t σ H' hx hy ⟨y3, y4, us, rfl, hu, hdp, kk⟩ nt
    rw [List.getElem?_map] at hx
    obtain ⟨fi, hfi, rfl⟩ : ∃ fi, fs[i]? = some fi ∧ x = .str fi := by
      cases e : fs[i]? with
      | none =>
        rw [e] at hx
        cases hx
      | some fi =>
        rw [e] at hx
        cases hx
        exact ⟨fi, rfl, rfl⟩
    obtain ⟨di, hdi, hyd⟩ := dd_at (hA.off nfo) hy
    have st := same_upd (o := .tup [.str fi, y]) nt
    have kt : KeepT H (upd H' t (.tup [.str fi, y])) := ⟨fun b xs e => st _ _ (kk _ _ (ne_of_none e nfo) (s2 _ _ e)), fun b o xs e => st _ _ (kk _ _ (ne_of_none e nfo) (s2 _ _ e))⟩
    have ko : KeepO (fun b => ok b ∧ b ≠ fo) H (upd H' t (.tup [.str fi, y])) := ⟨kt.1, kt.2, fun b o hb e => st _ _ (kk _ _ hb.2 (s2 _ _ e))⟩
    have hyd2 := hyd.keep ko
    have hu2 := st _ _ hu
    have ntf : t ≠ fo := (ne_of_none hu nt).symm
    have hp : pick wanted (fs.take (i + 1)) (rest.take (i + 1)) = pick wanted (fs.take i) (rest.take i) ++ pick1 wanted fi di := pick_take wanted i hfi hdi
    have hl2 := pick_len wanted (fs := fs) (ds := rest) (i + 1)
    have hlu := hdp.len
    rw [hp, List.length_append] at hl2
    -- what is put behind us
    have turn : ∀ zs' : List V, DdAll K (fun b => ok b ∧ b ≠ fo) (upd H' t (.tup [.str fi, y])) zs' (pick1 wanted fi di) → ∃ (z3 z4 : Option V) (us' : List V), [some (.ref a), some (.ref wA), some (.ref fo), some (.str fi), some y] = [some (.ref a), some (.ref wA), some (.ref fo), z3, z4] ∧
        upd (upd H' t (.tup [.str fi, y])) fo (.lst (us ++ zs')) fo = some (.lst us') ∧ DdAll K (fun b => ok b ∧ b ≠ fo) (upd (upd H' t (.tup [.str fi, y])) fo (.lst (us ++ zs'))) us' (pick wanted (fs.take (i + 1)) (rest.take (i + 1))) ∧ (∀ b o, b ≠ fo → H1 b = some o → upd (upd H' t (.tup [.str fi, y])) fo (.lst (us ++ zs')) b = some o) := by
      intro zs' hz
      have k2 : KeepT (upd H' t (.tup [.str fi, y])) (upd (upd H' t (.tup [.str fi, y])) fo (.lst (us ++ zs'))) := KeepT.lst hu2
      refine ⟨_, _, us ++ zs', rfl, upd_same, ?_, fun b o hb e => ?_⟩
      · rw [hp]
        have ko2 : KeepO (fun b => ok b ∧ b ≠ fo) (upd H' t (.tup [.str fi, y])) (upd (upd H' t (.tup [.str fi, y])) fo (.lst (us ++ zs'))) := ⟨k2.1, k2.2, fun b o hb e => by rw [upd_ne hb.2]; exact e⟩
        exact ((hdp.keep (KeepO.of st)).keep ko2).app (hz.keep ko2)
      · rw [upd_ne hb]
        exact st _ _ (kk b o hb e)
    refine ⟨t, [.str fi, y], rfl, .inl (.inl upd_same), rfl, _, _, rfl, _, _, rfl, rfl, ?_⟩
    refine ⟨.str fi, rfl, rfl, _, rfl, ite2 (fun e1 => ?_) (fun e1 => ?_)⟩
    · have e1 : fi = "extra" := by simpa using e1
      subst e1
      obtain ⟨xs, rfl⟩ := hfit.at' hfi hdi
      cases hyd2 with
      | tup hys hyA =>
      rename_i ya zs'
      have hz := hyA.len
      refine ⟨.ref fo, rfl, .inl ⟨rfl, _, .inl (.inl hu2)⟩, .ref ya, rfl, fo, ya, us, zs', rfl, rfl, hu2, hys, ?_, turn zs' ?_⟩
      · rw [hlu, hz]
        unfold pick1 at hl2
        rw [if_pos rfl, items] at hl2
        exact Nat.le_trans (show _ ≤ 4000000 by omega) (by rw [sizeLine_eq]; decide)
      · unfold pick1
        rw [if_pos rfl]
        exact hyA
    · have e1 : fi ≠ "extra" := fun z => e1 (by simpa using z)
      refine ⟨.str fi, rfl, .ref wA, rfl, wA, wanted.map V.str, rfl, .inr ((KeepT.trans ⟨fun b xs e => kk _ _ (ne_of_none e nfo) (s2 _ _ e), fun b o xs e => kk _ _ (ne_of_none e nfo) (s2 _ _ e)⟩ (KeepT.of st)).seqt hW), rfl, flat_strs wanted, _, rfl, ?_⟩
      rw [wanted_in]
      refine ite2 (fun e2 => ?_) (fun e2 => ?_)
      · have e2 : fi ∈ wanted := by simpa using e2
        refine ⟨.ref fo, rfl, .inl ⟨rfl, _, .inl (.inl hu2)⟩, y, rfl, fo, _, _, rfl, rfl, hu2, ?_, turn [y] ?_⟩
        · rw [hlu]
          exact Nat.lt_of_le_of_lt (show _ ≤ 4000000 by omega) (by rw [sizeLine_eq]; decide)
        · unfold pick1
          rw [if_neg e1, if_pos e2]
          exact .cons hyd2 .nil
      · have e2 : fi ∉ wanted := fun z => e2 (by simpa using z)
        refine ⟨_, _, us, rfl, hu2, ?_, fun b o hb e => st _ _ (kk b o hb e)⟩
        rw [hp]
        unfold pick1
        rw [if_neg e1, if_neg e2, List.append_nil]
        exact hdp.keep (KeepO.of st)
  · rintro σ H' ⟨y3, y4, us, rfl, hu, hdp, kk⟩
    have e1 : fs.take (fs.map V.str).length = fs := by rw [List.length_map, List.take_length]
    have e2 : rest.take (fs.map V.str).length = rest := by rw [List.length_map, hfit.len, List.take_length]
    rw [e1, e2] at hdp
    refine ⟨.ref fo, rfl, q H' fo us (fun b o e => kk _ _ (ne_of_none e nfo) (s2 _ _ e)) nfo hu (hdp.mono fun _ h => h.1)⟩
end
end L4

namespace L4
open PySem PySem.Spec PyProof.Rows L2 GR AD RZ WX
/-! ### expressions among any data -/
abbrev W2 : List Str := ["free", "bound"]
/-- what an expression of good form contains -/
def kidsE : PyData → List PyData
  | .tuple (.str w :: r) => (match look w with | some fs => pick W2 fs r | none => [])
  | _ => []
mutual
/-- its size, and that its texts are short -/
def sz : PyData → Nat
  | .tuple ds => 1 + szs ds
  | _ => 1
def szs : List PyData → Nat
  | [] => 0
  | d :: ds => sz d + szs ds
end
mutual
def shB : PyData → Bool
  | .tuple ds => shBs ds
  | .str z => decide (z.length ≤ 1000) && PyData.strOk z
  | _ => true
def shBs : List PyData → Bool
  | [] => true
  | d :: ds => shB d && shBs ds
end
theorem shBs_mem : ∀ {ds : List PyData}, shBs ds = true → ∀ d, d ∈ ds → shB d = true
  | [], _, d, h => (nomatch h)
  | x :: ds, h, d, hd => by
    rw [shBs, Bool.and_eq_true] at h
    rcases List.mem_cons.mp hd with rfl | hd
    · exact h.1
    · exact shBs_mem h.2 d hd
theorem shB_sh {d : PyData} (h : shB d = true) : Sh d := fun z e => by
  subst e
  rw [shB, Bool.and_eq_true] at h
  exact ⟨of_decide_eq_true h.1, h.2⟩
theorem shB_items {d : PyData} (h : shB d = true) : ∀ y, y ∈ items d → shB y = true := by
  cases d with
  | tuple ds => exact shBs_mem (by rw [shB] at h; exact h)
  | _ => exact fun y hy => (nomatch hy)
theorem sz_pos : ∀ d : PyData, 1 ≤ sz d
  | .tuple ds => by rw [sz]; omega
  | .none => Nat.le_refl 1
  | .bool _ => Nat.le_refl 1
  | .int _ => Nat.le_refl 1
  | .str _ => Nat.le_refl 1
  | .list _ => Nat.le_refl 1
  | .dict _ => Nat.le_refl 1
theorem szs_append : ∀ a b : List PyData, szs (a ++ b) = szs a + szs b
  | [], b => by rw [List.nil_append, szs, Nat.zero_add]
  | x :: a, b => by rw [List.cons_append, szs, szs, szs_append a b]; omega
theorem szs_len : ∀ a : List PyData, a.length ≤ szs a
  | [] => Nat.zero_le _
  | x :: a => by
    have := szs_len a
    have := sz_pos x
    rw [List.length_cons, szs]
    omega
theorem szs_items : ∀ d : PyData, szs (items d) ≤ sz d
  | .tuple ds => by rw [items, sz]; omega
  | .none => Nat.zero_le _
  | .bool _ => Nat.zero_le _
  | .int _ => Nat.zero_le _
  | .str _ => Nat.zero_le _
  | .list _ => Nat.zero_le _
  | .dict _ => Nat.zero_le _
theorem szs_pick (W : List Str) : ∀ (fs : List Str) (ds : List PyData), szs (pick W fs ds) ≤ szs ds
  | [], _ => by rw [pick]; exact Nat.zero_le _; all_goals simp
  | f :: fs, [] => by rw [pick]; exact Nat.zero_le _; all_goals simp
  | f :: fs, d :: ds => by
    have h1 := szs_pick W fs ds
    have h2 := szs_items d
    rw [pick, szs_append, szs]
    split
    · omega
    · split
      · rw [szs, szs]; omega
      · rw [szs]; omega
theorem pick_sh (W : List Str) : ∀ {fs : List Str} {ds : List PyData}, (∀ d, d ∈ ds → shB d = true) → ∀ y, y ∈ pick W fs ds → shB y = true
  | [], _, _, y, hy => by rw [pick] at hy; exact (nomatch hy); all_goals simp
  | f :: fs, [], _, y, hy => by rw [pick] at hy; exact (nomatch hy); all_goals simp
  | f :: fs, d :: ds, h, y, hy => by
    rw [pick] at hy
    rcases List.mem_append.mp hy with hy | hy
    · split at hy
      · exact shB_items (h d List.mem_cons_self) y hy
      · split at hy
        · rw [List.mem_singleton.mp hy]
          exact h d List.mem_cons_self
        · exact (nomatch hy)
    · exact pick_sh W (fun x hx => h x (List.mem_cons_of_mem _ hx)) y hy
theorem kids_sz (d : PyData) (h : hasForm d = true) : szs (kidsE d) < sz d ∧ (shB d = true → ∀ y, y ∈ kidsE d → shB y = true) ∧ ∃ w fs r, d = .tuple (.str w :: r) ∧ look w = some fs ∧ fitsAll fs r = true ∧ kidsE d = pick W2 fs r := by
  unfold hasForm at h
  split at h
  · rename_i w r
    split at h
    · rename_i fs hl
      have e : kidsE (.tuple (.str w :: r)) = pick W2 fs r := by
        show (match look w with | some fs => pick W2 fs r | none => []) = _
        rw [hl]
      refine ⟨?_, fun hs => ?_, w, fs, r, rfl, hl, h, e⟩
      · rw [e, sz, szs]
        have := szs_pick W2 fs r
        omega
      · rw [e]
        rw [shB] at hs
        exact pick_sh W2 fun d hd => shBs_mem hs d (List.mem_cons_of_mem _ hd)
    · cases h
  · cases h
/-- an expression, looked at n deep -/
def isE : Nat → PyData → Bool
  | 0, _ => false
  | n + 1, d => hasForm d && (kidsE d).all (isE n)
theorem sz_mem : ∀ {l : List PyData} {y : PyData}, y ∈ l → sz y ≤ szs l
  | x :: l, y, h => by
    rw [szs]
    rcases List.mem_cons.mp h with rfl | h
    · omega
    · have := sz_mem h
      omega
theorem isE_same : ∀ {n m : Nat} {d : PyData}, sz d ≤ n → sz d ≤ m → isE n d = isE m d
  | 0, _, d, h, _ => by have := sz_pos d; omega
  | _ + 1, 0, d, _, h => by have := sz_pos d; omega
  | n + 1, m + 1, d, h1, h2 => by
    rw [isE, isE]
    cases hf : hasForm d with
    | false => rfl
    | true =>
      have hk := (kids_sz d hf).1
      rw [Bool.true_and, Bool.true_and, Bool.eq_iff_iff, List.all_eq_true, List.all_eq_true]
      have key : ∀ y, y ∈ kidsE d → isE n y = isE m y := fun y hy => by
        have := sz_mem hy
        exact isE_same (by omega) (by omega)
      exact ⟨fun g y hy => by rw [← key y hy]; exact g y hy, fun g y hy => by rw [key y hy]; exact g y hy⟩
def isX (d : PyData) : Bool := isE (sz d) d
theorem isX_step (d : PyData) : isX d = (hasForm d && (kidsE d).all isX) := by
  unfold isX
  have hp := sz_pos d
  obtain ⟨n, hn⟩ : ∃ n, sz d = n + 1 := ⟨sz d - 1, by omega⟩
  rw [hn, isE]
  cases hf : hasForm d with
  | false => rfl
  | true =>
    have hk := (kids_sz d hf).1
    rw [Bool.true_and, Bool.true_and, Bool.eq_iff_iff, List.all_eq_true, List.all_eq_true]
    have key : ∀ y, y ∈ kidsE d → isE n y = isE (sz y) y := fun y hy => by
      have := sz_mem hy
      exact isE_same (by omega) (Nat.le_refl _)
    exact ⟨fun g y hy => by rw [← key y hy]; exact g y hy, fun g y hy => by rw [key y hy]; exact g y hy⟩
theorem fits_of : ∀ {fs : List Str} {ds : List PyData}, fitsAll fs ds = true → Fits fs ds
  | [], [], _ => .nil
  | [], _ :: _, h => by cases h
  | _ :: _, [], h => by cases h
  | f :: fs, d :: ds, h => by
    have h' : (fitsD f d && fitsAll fs ds) = true := h
    rw [Bool.and_eq_true] at h'
    refine .cons (fun e => ?_) (fits_of h'.2)
    subst e
    have := h'.1
    unfold fitsD at this
    rw [if_neg (by decide), if_neg (by decide), if_neg (by decide), if_pos rfl] at this
    cases d with
    | tuple xs => exact ⟨xs, rfl⟩
    | _ => cases this
end L4

namespace L4
open PySem PySem.Spec PyProof.Rows L2 GR AD RZ WX
theorem dd_split {K : PySem.W.Frag} {ok : Addr → Prop} {H : Hp} : ∀ {us ws : List V} {xs : List PyData}, DdAll K ok H (us ++ ws) xs → ∃ d1 d2, xs = d1 ++ d2 ∧ DdAll K ok H us d1 ∧ DdAll K ok H ws d2
  | [], ws, xs, h => ⟨[], xs, rfl, .nil, h⟩
  | u :: us, ws, _, .cons h t => by
    obtain ⟨d1, d2, rfl, h1, h2⟩ := dd_split t
    exact ⟨_ :: d1, d2, rfl, .cons h h1, h2⟩
theorem dd_last {K : PySem.W.Frag} {ok : Addr → Prop} {H : Hp} {us : List V} {xs : List PyData} (h : DdAll K ok H us xs) (hne : us ≠ []) : ∃ y d xs', xs = xs' ++ [d] ∧ us[us.length - 1]? = some y ∧ DdAll K ok H us.dropLast xs' ∧ Dd K ok H y d := by
  have e := List.dropLast_concat_getLast hne
  rw [← e] at h
  obtain ⟨d1, d2, rfl, g1, g2⟩ := dd_split h
  cases g2 with
  | cons g3 g4 =>
  cases g4
  refine ⟨us.getLast hne, _, d1, rfl, ?_, g1, g3⟩
  rw [← List.getLast?_eq_getElem?, List.getLast?_eq_getLast hne]
section
variable {P : Program} {w : World} {K : PySem.W.Frag} {mg : Str → Option Value} {base : Heap}
abbrev s_contained : Stmt := topS 15
theorem sc_contained : FnScope ["expression"] ["expression"] (defScope s_contained) := ⟨rfl, rfl, rfl, by decide +kernel, rfl, by decide +kernel, by decide +kernel⟩
def sp_contained (K : PySem.W.Frag) : Sp := fun vs H Q _ => ∃ (v : V) (d : PyData) (ok : Addr → Prop), vs = [v] ∧ Dd K ok H v d ∧ hasForm d = true ∧ (kidsE d).length ≤ 4000000 ∧ ∀ H' p us, Same H H' → H p = none → H' p = some (.lst us) → DdAll K ok H' us (kidsE d) → Q (.ref p) H'
theorem ok_contained {f fc aP : Addr} {fd dc : FuncData} {k : Nat} (F : Fun K "contained" "contained" s_contained f fd) (Gc : FnOk P w K mg base CX0 k fc dc ["expression", "wanted"] (sp_contained_of K)) (gc : mg "contained_of" = some (.ref fc)) (Kc : PySem.W.keepIn K (.ref fc) = true) (bc : Binds K dc ["expression", "wanted"] [])
    (mALL : mg "ALL_PARTS" = some (.ref aP)) (TA : KTx K aP W2) : FnOk P w K mg base CX0 (k + 1) f fd ["expression"] (sp_contained K) := by
  have nd := sc_contained.nd
  refine F.ok sc_contained (fun vs H Q E h => ?_) (fun cdv A outer s H vs Q E hr h => ?_)
  · obtain ⟨v, d, ok, rfl, _⟩ := h
    rfl
  obtain ⟨v, d, ok, rfl, hd, hf, hl, q⟩ := h
  refine ⟨_, (pss_one (ps_ret (pe_call Gc hr (by rfl) gc Kc bc .nil pass0 (pa_cons (pv 0) (pa_cons (pe_glob (v := .ref aP) rfl mALL rfl) pa_nil))))), ?_⟩
  obtain ⟨_, _, w', fs, r, rfl, hlk, hfit, hk⟩ := kids_sz d hf
  rw [hk] at q hl
  cases hd with
  | tup hs ha =>
  exact ⟨_, rfl, _, aP, w', fs, W2, r, ok, rfl, .tup hs ha, look_some hlk, fits_of hfit, hl, TA H, q⟩
abbrev s_is_expression : Stmt := topS 12
theorem sc_is_expression : FnScope ["thing", "todo", "part"] ["thing"] (defScope s_is_expression) := ⟨rfl, rfl, rfl, by decide +kernel, rfl, by decide +kernel, by decide +kernel⟩
/-- what is still to do: the list at td -/
def XInv (K : PySem.W.Frag) (ok : Addr → Prop) (d : PyData) (v : V) (td : Addr) (H0 : Hp) (m : Nat) (σ : L2.St) (H : Hp) : Prop :=
  ∃ (z : Option V) (us : List V) (xs : List PyData), σ = [some v, some (.ref td), z] ∧ H td = some (.lst us) ∧ DdAll K (fun b => ok b ∧ b ≠ td) H us xs ∧ (∀ y, y ∈ xs → shB y = true) ∧ m = szs xs ∧ m ≤ 4000000 ∧ isX d = xs.all isX ∧ (∀ b o, b ≠ td → H0 b = some o → H b = some o)
def sp_isx (K : PySem.W.Frag) : Sp := fun vs H Q _ => ∃ (v : V) (d : PyData) (ok : Addr → Prop), vs = [v] ∧ Dd K ok H v d ∧ shB d = true ∧ sz d ≤ 4000000 ∧ ∀ H', Same H H' → Q (.bl (isX d)) H'
theorem ok_is_expression {f fh fc : Addr} {fd dh dc : FuncData} {k : Nat} (F : Fun K "is_expression" "is_expression" s_is_expression f fd) (Gh : FnOk P w K mg base CX0 k fh dh ["thing"] (sp_hf K)) (gh : mg "has_form" = some (.ref fh)) (Kh : PySem.W.keepIn K (.ref fh) = true) (bh : Binds K dh ["thing"] [])
    (Gc : FnOk P w K mg base CX0 k fc dc ["expression"] (sp_contained K)) (gc : mg "contained" = some (.ref fc)) (Kc : PySem.W.keepIn K (.ref fc) = true) (bc : Binds K dc ["expression"] []) :
    FnOk P w K mg base CX0 (k + 1) f fd ["thing"] (sp_isx K) := by
  have nd := sc_is_expression.nd
  refine F.ok sc_is_expression (fun vs H Q E h => ?_) (fun cdv A outer s H vs Q E hr h => ?_)
  · obtain ⟨v, d, ok, rfl, _⟩ := h
    rfl
  obtain ⟨v, d, ok, rfl, hd, hsh, hsz, q⟩ := h
  refine ⟨_, (pss_cons (ps_set (i := 1) nd rfl (.inl rfl) (pe_lst (pa_cons (pv 0) pa_nil)))
      (pss_cons (ps_while PassesOwn.never (pt_truth (pv 1) (fun _ => rfl))
      (pss_cons (ps_set (i := 2) nd rfl (.inl rfl) (pe_bm0 PySem.F.plainAttrs_list PySem.F.slot_list_pop PySem.F.type_list_pop mt_pop (pv 1)))
        (pss_cons (ps_if (pt_not (pt_val (pe_call Gh hr (by rfl) gh Kh bh .nil pass0 (pa_cons (pv 2) pa_nil))))
        (pss_one (ps_ret pe_bl))
        pss_nil)
        (pss_one (ps_expr (pe_bm PySem.F.plainAttrs_list PySem.F.slot_list_extend PySem.F.type_list_extend mt_extend (pv 1) (pa_cons (pe_call Gc hr (by rfl) gc Kc bc .nil pass0 (pa_cons (pv 2) pa_nil)) pa_nil)))))))
      (pss_one (ps_ret pe_bl)))), ?_⟩
  refine ⟨v, rfl, small_le (show 1 ≤ 1000 by decide), fun td ntd => ?_⟩
  have sl := same_upd (o := .lst [v]) ntd
  refine ⟨XInv K ok d v td H, ⟨szs [d], none, [v], [d], rfl, upd_same, .cons ((hd.off ntd).keep (KeepO.of sl)) .nil, ?_, rfl, ?_, ?_, fun b o _ e => sl _ _ e⟩, ?_⟩
  · intro y hy
    rw [List.mem_singleton.mp hy]
    exact hsh
  · rw [szs, szs]
    omega
  · rw [List.all_cons, List.all_nil, Bool.and_true]
  · rintro m σ H' ⟨z, us, xs, rfl, hu, hA, hE, rfl, hm, hf, kk⟩
    have lu := hA.len
    have fin : ∀ H2, (∀ b o, b ≠ td → H' b = some o → H2 b = some o) → Same H H2 := fun H2 s2 b o e => s2 _ _ (ne_of_none e ntd) (kk _ _ (ne_of_none e ntd) e)
    refine ⟨.ref td, rfl, !us.isEmpty, .inl ⟨us, .inl (.inl hu), rfl⟩, ?_⟩
    cases hus : us with
    | nil =>
      subst hus
      cases hA
      rw [List.all_nil] at hf
      refine iteF ?_
      have := q H' (fin H' fun b o _ e => e)
      rw [hf] at this
      exact this
    | cons u0 ur =>
      have hne : us ≠ [] := by
        rw [hus]
        exact List.cons_ne_nil _ _
      rw [← hus]
      have full : (!us.isEmpty) = true := by
        rw [hus]
        rfl
      rw [full]
      obtain ⟨y, e, xs', rfl, hy, hA', hyd⟩ := dd_last hA hne
      have hsy := hE e (List.mem_append_right _ (List.mem_singleton.mpr rfl))
      have hE' : ∀ y, y ∈ xs' → shB y = true := fun y hy => hE y (List.mem_append_left _ hy)
      have hpos := sz_pos e
      have hse : szs (xs' ++ [e]) = szs xs' + sz e := by rw [szs_append, szs, szs]; omega
      rw [hse] at hm
      rw [List.all_append, List.all_cons, List.all_nil, Bool.and_true, isX_step e] at hf
      refine iteT ⟨fun σ' H'' => ∃ m', m' < szs (xs' ++ [e]) ∧ XInv K ok d v td H m' σ' H'', fun σ' H'' h => h, ?_⟩
      refine ⟨.ref td, rfl, .inl ⟨rfl, _, .inl (.inl hu)⟩, td, us, y, rfl, rfl, hu, hy, ?_⟩
      have ko1 : KeepO (fun b => ok b ∧ b ≠ td) H' (upd H' td (.lst us.dropLast)) := ⟨(KeepT.lst hu).1, (KeepT.lst hu).2, fun b o hb e => by rw [upd_ne hb.2]; exact e⟩
      have hu1 : upd H' td (.lst us.dropLast) td = some (.lst us.dropLast) := upd_same
      have keep1 : ∀ b o, b ≠ td → H' b = some o → upd H' td (.lst us.dropLast) b = some o := fun b o hb e => by
        rw [upd_ne hb]
        exact e
      have hA1 := hA'.keep ko1
      have hyd1 := hyd.keep ko1
      revert hu1 keep1 hA1 hyd1
      generalize upd H' td (.lst us.dropLast) = H1
      intro hu1 keep1 hA1 hyd1
      refine ⟨y, rfl, y, e, _, rfl, hyd1, fun ds he z hz => shB_sh (shBs_mem (by subst he; rw [shB] at hsy; exact hsy) z hz), fun H2 s2 => ⟨_, rfl, ?_⟩⟩
      have keep2 : ∀ b o, b ≠ td → H' b = some o → H2 b = some o := fun b o hb e => s2 _ _ (keep1 b o hb e)
      cases hff : hasForm e with
      | false =>
        rw [hff, Bool.false_and, Bool.and_false] at hf
        have := q H2 (fin H2 keep2)
        rw [hf] at this
        exact iteT this
      | true =>
        rw [hff, Bool.true_and, ← List.all_append] at hf
        obtain ⟨hk1, hk2, _⟩ := kids_sz e hff
        have hkl := szs_len (kidsE e)
        have hA2 := hA1.keep (KeepO.of s2)
        have hu2 := s2 _ _ hu1
        refine iteF ⟨.ref td, rfl, .inl ⟨rfl, _, .inl (.inl hu2)⟩, y, rfl, y, e, _, rfl, hyd1.keep (KeepO.of s2), hff, by omega, fun H3 p us2 s3 np hp hus2 => ?_⟩
        have htd3 := s3 _ _ hu2
        have l1 := hA2.len
        have l2 := hus2.len
        have hxl := szs_len xs'
        have ko3 : KeepO (fun b => ok b ∧ b ≠ td) H3 (upd H3 td (.lst (us.dropLast ++ us2))) := ⟨(KeepT.lst htd3).1, (KeepT.lst htd3).2, fun b o hb e => by rw [upd_ne hb.2]; exact e⟩
        refine ⟨td, p, us.dropLast, us2, rfl, rfl, htd3, hp, ?_, szs (xs' ++ kidsE e), ?_, some y, us.dropLast ++ us2, xs' ++ kidsE e, rfl, upd_same, ?_, ?_, rfl, ?_, hf, fun b o hb e => ?_⟩
        · rw [l1, l2]
          exact Nat.le_trans (show _ ≤ 8000000 by omega) (by rw [sizeLine_eq]; decide)
        · rw [szs_append, hse]
          omega
        · exact ((hA2.keep (KeepO.of s3)).keep ko3).app (hus2.keep ko3)
        · intro z hz
          rcases List.mem_append.mp hz with hz | hz
          · exact hE' z hz
          · exact hk2 hsy z hz
        · rw [szs_append]
          omega
        · rw [upd_ne hb]
          exact s3 _ _ (keep2 b o hb (kk _ _ hb e))
end
end L4

namespace L4
open PySem PySem.Spec PyProof.Rows L2 GR AD RZ WX
def wholeD (low : Int) : PyData → Bool
  | .int i => decide (low ≤ i)
  | _ => false
theorem split_barred : Txt.split "key if at count sum most first let need put each tell" " " = BARW := by decide +kernel
theorem dp_signs {K : PySem.W.Frag} {H : Hp} : ∀ l : List Nat, DpAll K H (l.map fun c => V.str ⟨#[c]⟩) (l.map fun c => PyData.str ⟨#[c]⟩)
  | [] => .nil
  | c :: l => .cons (.str _) (dp_signs l)
theorem shaped_signs {l : List Nat} (h : ∀ c, c ∈ l → c < 1114112) : SeqAt.shaped (.list (l.map fun c => PyData.str ⟨#[c]⟩)) = true := by
  have h1 : PyData.canLayAll0 (l.map fun c => PyData.str ⟨#[c]⟩) = true ∧ PyData.depthAll (l.map fun c => PyData.str ⟨#[c]⟩) ≤ 1 := by
    induction l with
    | nil => exact ⟨by simp only [List.map_nil, PyData.canLayAll0], by simp only [List.map_nil, PyData.depthAll]; omega⟩
    | cons c l ih =>
      obtain ⟨a, b⟩ := ih fun y hy => h y (List.mem_cons_of_mem _ hy)
      have hc : PyData.strOk ⟨#[c]⟩ = true := so_iff.mpr fun y hy => by
        have : y = c := by simpa using hy
        rw [this]
        exact h c List.mem_cons_self
      refine ⟨by simp only [List.map_cons, PyData.canLayAll0, PyData.canLay0, hc, a, Bool.and_self], ?_⟩
      simp only [List.map_cons, PyData.depthAll, PyData.depth]
      omega
  unfold SeqAt.shaped
  rw [Bool.and_eq_true]
  refine ⟨by simp only [PyData.canLay0, h1.1], decide_eq_true ?_⟩
  simp only [PyData.depth]
  omega
theorem eqv_signs : ∀ {l : List Nat}, PyData.eqv (.list ((l.filter fun c => !lowC c).map fun c => .str ⟨#[c]⟩)) (.list []) = l.all lowC
  | [] => rfl
  | c :: l => by
    cases h : lowC c with
    | true =>
      have ih := eqv_signs (l := l)
      rw [List.filter_cons, h, List.all_cons, h, Bool.true_and]
      simp only [Bool.not_true, Bool.false_eq_true, if_false]
      exact ih
    | false =>
      rw [List.filter_cons, h, List.all_cons, h, Bool.false_and]
      simp only [Bool.not_false, if_true, List.map_cons, PyData.eqv, PyData.eqvAll]
section
variable {P : Program} {w : World} {K : PySem.W.Frag} {mg : Str → Option Value} {base : Heap}
abbrev s_law_is_whole : Stmt := topS 27
theorem sc_law_is_whole : FnScope ["_law_thing", "_law_low"] ["_law_thing", "_law_low"] (defScope s_law_is_whole) := ⟨rfl, rfl, rfl, by decide +kernel, rfl, by decide +kernel, by decide +kernel⟩
def sp_lw (K : PySem.W.Frag) : Sp := fun vs H Q _ => ∃ (v : V) (d : PyData) (ok : Addr → Prop) (low : Int), vs = [v, .int low] ∧ Dd K ok H v d ∧ Q (.bl (wholeD low d)) H
theorem ok_law_whole {f : Addr} {fd : FuncData} {k : Nat} (F : Fun K "_law_is_whole" "_law_is_whole" s_law_is_whole f fd) (misi : mg "isinstance" = none) (mint : mg "int" = none) (mbool : mg "bool" = none) : FnOk P w K mg base CX0 (k + 1) f fd ["_law_thing", "_law_low"] (sp_lw K) := by
  have nd := sc_law_is_whole.nd
  refine F.ok sc_law_is_whole (fun vs H Q E h => ?_) (fun cdv A outer s H vs Q E hr h => ?_)
  · obtain ⟨v, d, ok, low, rfl, _⟩ := h
    rfl
  obtain ⟨v, d, ok, low, rfl, hd, q⟩ := h
  refine ⟨_, (pss_one (ps_ret (pe_and (pe_callB call_isi (by rfl) misi boot_isinstance (pa_cons (pv 0) (pa_cons (pe_bltn (v := .ty "int") (by rfl) mint boot_int rfl) pa_nil))) (pe_and (pe_not (pe_callB call_isi (by rfl) misi boot_isinstance (pa_cons (pv 0) (pa_cons (pe_bltn (v := .ty "bool") (by rfl) mbool boot_bool rfl) pa_nil)))) (pe_one (pe_cmpR op_le (pv 1) (pv 0) (nomark _))))))), ?_⟩
  refine ⟨v, rfl, v, .ty "int", _, _, _, rfl, .ty "int", hd.ty, kit_i K d, _, rfl, ?_⟩
  cases hd with
  | int i => exact iteT ⟨.int i, rfl, .int i, .ty "bool", _, _, _, rfl, .ty "bool", .base (.int i), kit_b K (.int i), _, rfl, _, rfl, iteT ⟨.int low, rfl, .int i, rfl, low, i, rfl, rfl, q⟩⟩
  | bl b => exact iteT ⟨.bl b, rfl, .bl b, .ty "bool", _, _, _, rfl, .ty "bool", .base (.bl b), kit_b K (.bool b), _, rfl, _, rfl, iteF q⟩
  | _ => exact iteF q
abbrev s_law_is_name : Stmt := topS 26
abbrev N_lin : List Str := ["_law_thing", "_law_barred", "_law_sign"]
theorem sc_law_is_name : FnScope N_lin ["_law_thing"] (defScope s_law_is_name) := ⟨rfl, rfl, rfl, by decide +kernel, rfl, by decide +kernel, by decide +kernel⟩
theorem ok_law_is_name {f : Addr} {fd : FuncData} {k : Nat} (F : Fun K "_law_is_name" "_law_is_name" s_law_is_name f fd) (misi : mg "isinstance" = none) (mstr : mg "str" = none) (mlen : mg "len" = none) : FnOk P w K mg base CX0 (k + 1) f fd ["_law_thing"] (sp_isS K isN) := by
  have nd := sc_law_is_name.nd
  refine F.ok sc_law_is_name (fun vs H Q E h => ?_) (fun cdv A outer s H vs Q E hr h => ?_)
  · obtain ⟨v, d, ok, rfl, _⟩ := h
    rfl
  obtain ⟨v, d, ok, rfl, hd, hsh, q⟩ := h
  refine ⟨_, (pss_cons (ps_set (i := 1) nd rfl (.inl rfl) (pe_split pe_str pe_str))
      (pss_cons (ps_if (PW.pt (pw_or (pt_not (pt_val (pe_callB call_isi (by rfl) misi boot_isinstance (pa_cons (pv 0) (pa_cons (pe_bltn (v := .ty "str") (by rfl) mstr boot_str rfl) pa_nil)))))
        (pw_or (pt_not (pt_chain op_lt op_lt pe_int (pe_callB call_len_str (by rfl) mlen PySem.boot_len (pa_cons (pv 0) pa_nil)) pe_int)) (pw_or1 (pt_cmpR op_in_seq (pv 0) (pv 1) (by rfl))))))
      (pss_one (ps_ret pe_bl))
      pss_nil)
      (pss_one (ps_ret (pe_cmpR (op_eqD hr.units) (pe_lc (own := [("_law_sign", 2)]) (tt := tTest (tOp (fun x y H Q => ∃ (c : Nat) (z : Str), x = .str ⟨#[c]⟩ ∧ y = .str z ∧ Q (.bl (!decide (c ∈ z.cps.toList))) H) (tVar 2) (tC (.str L26)))) (te := tVar 2) rfl nd (pi_str (pv 0)) (blkOk_by (N := N_lin) (sc := defScope s_law_is_name) (by decide +kernel))
        (fun _ _ _ _ _ => (pg_name (i := 2) nd rfl (Or.inl rfl))) (fun _ _ _ _ _ => pts_one (pt_cmpR op_notIn_sign (pv 2) pe_str (by rfl))) (fun _ _ _ _ _ => (pv 2))) (pe_lst pa_nil) (nomark _)))))), ?_⟩
  refine ⟨⟨_, rfl⟩, _, _, rfl, rfl, by decide, h1000 (by decide), fun B nB => ?_⟩
  rw [split_barred]
  have sB := same_upd (o := .lst (BARW.map V.str)) nB
  have hB : upd H B (.lst (BARW.map V.str)) B = some (.lst (BARW.map V.str)) := upd_same
  revert sB hB
  generalize upd H B (.lst (BARW.map V.str)) = H1
  intro sB hB
  have q0 := q H1 sB
  refine ⟨v, rfl, v, .ty "str", _, _, _, rfl, .ty "str", (hd.keep (KeepO.of sB)).ty, kit_s K d, _, rfl, ?_⟩
  cases hd with
  | str z =>
    obtain ⟨hz, hzo⟩ := hsh z rfl
    have q1 : ∀ H', Same H H' → Q (.bl ((decide (1 ≤ z.length) && decide (z.length ≤ 8)) && (!decide (z ∈ BARW) && z.cps.toList.all lowC))) H' := q
    have e1 : decide ((0 : Int) < (z.length : Int)) = decide (1 ≤ z.length) := decide_eq_decide.mpr (by omega)
    have e2 : decide ((z.length : Int) < (9 : Int)) = decide (z.length ≤ 8) := decide_eq_decide.mpr (by omega)
    refine iteF ⟨.str z, rfl, z, rfl, h1000 hz, 0, (z.length : Int), rfl, rfl, _, rfl, ?_⟩
    rw [e1]
    cases c1 : decide (1 ≤ z.length) with
    | false =>
      rw [c1, Bool.false_and, Bool.false_and] at q1
      exact iteF ⟨_, rfl, iteT (iteT (q1 H1 sB))⟩
    | true =>
    rw [c1, Bool.true_and] at q1
    refine iteT ⟨(z.length : Int), 9, rfl, rfl, _, rfl, ?_⟩
    rw [e2]
    cases c2 : decide (z.length ≤ 8) with
    | false =>
      rw [c2, Bool.false_and] at q1
      exact iteT (iteT (q1 H1 sB))
    | true =>
    rw [c2, Bool.true_and] at q1
    refine iteF ⟨.str z, rfl, .ref B, rfl, B, BARW.map V.str, rfl, .inl (.inl (.inl hB)), rfl, flat_strsW _, _, rfl, ?_⟩
    show if inV (.str z) (BARW.map V.str) = true then _ else _
    rw [in_strs]
    cases c3 : decide (z ∈ BARW) with
    | true =>
      rw [c3] at q1
      exact iteT (q1 H1 sB)
    | false =>
    rw [c3, Bool.not_false, Bool.true_and] at q1
    have hlen : z.cps.size ≤ 1000 := hz
    refine iteF ⟨.str z, rfl, z, rfl, fun D nD => ?_⟩
    refine lc_it walk_str (fun i H' => H' D = some (.lst (((z.cps.toList.take i).filter fun c => !lowC c).map fun c => V.str ⟨#[c]⟩)) ∧ ∀ b o, b ≠ D → H1 b = some o → H' b = some o) ?_ (fun _ _ _ _ => trivial) ?_ ?_
    · exact ⟨upd_same, fun b o nb e => by rw [upd_ne nb]; exact e⟩
    · rintro i x H2 H' hi ⟨hD, kp⟩ ⟨rfl, c, hc, rfl⟩
      have hc' : z.cps.toList[i]? = some c := by rw [Array.getElem?_toList]; exact hc
      refine ⟨rfl, .str ⟨#[c]⟩, rfl, c, L26, rfl, rfl, _, rfl, ?_⟩
      rw [mem26, take_at hc', List.filter_append, List.map_append]
      cases cl : lowC c with
      | true =>
        refine iteF ⟨?_, kp⟩
        rw [List.filter_cons, cl]
        simp only [Bool.not_true, Bool.false_eq_true, if_false, List.filter_nil, List.map_nil, List.append_nil]
        exact hD
      | false =>
        refine iteT ⟨.str ⟨#[c]⟩, rfl, _, hD, small1000 ?_, ?_, fun b o nb e => by rw [upd_ne nb]; exact kp b o nb e⟩
        · rw [List.length_map]
          refine Nat.le_trans (List.length_filter_le _ _) ?_
          rw [List.length_take, Array.length_toList]
          omega
        · rw [List.filter_cons, cl]
          simp only [Bool.not_false, if_true, List.filter_nil, List.map_cons, List.map_nil]
          exact upd_same
    · rintro H2 ⟨hD, kp⟩
      have sD : Same H1 H2 := fun b o e => kp b o (ne_of_none e nD) e
      rw [← Array.length_toList, List.take_length] at hD
      refine ⟨Nat.zero_le _, fun l nl => ?_⟩
      have sl := same_upd (o := .lst []) nl
      have hD2 := sl _ _ hD
      have hq := q1 _ (sB.trans (sD.trans sl))
      refine ⟨.list ((z.cps.toList.filter fun c => !lowC c).map fun c => .str ⟨#[c]⟩), .list [], .lst (.inl (.inl hD2)) (dp_signs _), .lst (.inl (.inl upd_same)) .nil, shaped_signs fun c hc => so_iff.mp hzo c ((List.mem_filter.mp hc).1), by decide +kernel, ?_⟩
      rw [eqv_signs]
      exact hq
  | _ => exact iteT (iteT q0)
end
end L4

/-! == of a tuple, of a list, whatever they hold, with the empty one -/
namespace ZE
open PySem PySem.Spec PyProof.Rows L2 GR
def rT0 (K : PySem.W.Frag) : R2 := fun x y H Q => ∃ (a b : Addr) (xs : List V), x = .ref a ∧ y = .ref b ∧ SqT K H a xs ∧ SqT K H b [] ∧ Q (.bl xs.isEmpty) H
def rL0 (K : PySem.W.Frag) : R2 := fun x y H Q => ∃ (a b : Addr) (xs : List V), x = .ref a ∧ y = .ref b ∧ SqL K H a xs ∧ SqL K H b [] ∧ Q (.bl xs.isEmpty) H
section
variable {X : Cx}
theorem empty_size {its : List Value} {xs : List V} (r : Vals xs its) : (its.toArray.size == 0) = xs.isEmpty := by
  cases r <;> rfl
theorem op_eqT0 (hu : X.A.units < cLine) : OpR X (compareOp .Eq) (rT0 X.K) := by
  intro pins s σ H x y v u Q I rx ry h
  obtain ⟨a, b, xs, rfl, rfl, ha, hb, q⟩ := h
  cases rx
  cases ry
  obtain ⟨its, rv, pt, hz⟩ := I.tuple ha
  obtain ⟨its2, rv2, pt2, hz2⟩ := I.tuple hb
  cases rv2
  refine SeqAt.eq_tupleAt (e := fun _ => true) pt pt2 hu (fun j h1 h2 => absurd h2 (Nat.not_lt_zero _)) ?_
  refine ⟨.bl xs.isEmpty, H, I, ?_, q⟩
  show Value.bool _ = Value.bool _
  rw [← empty_size rv]
  simp
theorem op_eqL0 (hu : X.A.units < cLine) : OpR X (compareOp .Eq) (rL0 X.K) := by
  intro pins s σ H x y v u Q I rx ry h
  obtain ⟨a, b, xs, rfl, rfl, ha, hb, q⟩ := h
  cases rx
  cases ry
  obtain ⟨its, rv, pl, hz⟩ := I.list ha
  obtain ⟨its2, rv2, pl2, hz2⟩ := I.list hb
  cases rv2
  cases rv with
  | nil => exact SeqAt.eq_listAt (e := fun _ => true) pl.isList pl2.isList rfl hu (fun j h1 h2 => absurd h2 (Nat.not_lt_zero _)) ⟨.bl true, H, I, rfl, q⟩
  | cons r t => exact SeqAt.eq_list_lengthsAt pl.isList pl2.isList (by simp) hu ⟨.bl false, H, I, rfl, q⟩
end
end ZE

namespace L4
open PySem PySem.Spec PyProof.Rows L2 GR AD RZ WX
theorem isX_some {z : Str} {fs : List Str} {r : List PyData} (h : look z = some fs) : isX (.tuple (.str z :: r)) = (fitsAll fs r && (pick W2 fs r).all isX) := by
  rw [isX_step, form_some h]
  congr 1
  show (match look z with | some fs => pick W2 fs r | none => []).all isX = _
  rw [h]
theorem isX_nf {d : PyData} (h : hasForm d = false) : isX d = false := by
  rw [isX_step, h, Bool.false_and]
theorem isX_none {z : Str} {r : List PyData} (h : look z = none) : isX (.tuple (.str z :: r)) = false := by
  rw [isX_step, form_none h, Bool.false_and]
theorem isX_len {z : Str} {fs : List Str} {r : List PyData} (h : look z = some fs) (hl : fs.length ≠ r.length) : isX (.tuple (.str z :: r)) = false := by
  rw [isX_some h, fitsAll_len hl, Bool.false_and]
theorem merge_has : ∀ (more acc : List (Key × V)) (k : Key), (valV (mergeK acc more) k).isSome = ((valV acc k).isSome || more.any fun q => decide (q.1 = k))
  | [], acc, k => by rw [List.any_nil, Bool.or_false]; rfl
  | q :: more, acc, k => by
    show (valV (mergeK (putK acc q.1 q.2) more) k).isSome = _
    rw [merge_has more, List.any_cons, ← Bool.or_assoc]
    congr 1
    rw [valV_put]
    by_cases c : q.1 = k
    · rw [decide_eq_true c, Bool.or_true, if_pos c.symm]
      rfl
    · rw [decide_eq_false c, Bool.or_false, if_neg (fun z => c z.symm)]
theorem cut_three {x y z : V} {r : List V} : cutV (x :: y :: z :: r) (some 3) none = r := by
  unfold cutV
  rw [show HT.sIx (x :: y :: z :: r).length (x :: y :: z :: r).length none = (x :: y :: z :: r).length from rfl, show (some (3 : Int)) = some ((3 : Nat) : Int) from rfl, HT.sIx_nat, show min 3 (x :: y :: z :: r).length = 3 by rw [List.length_cons, List.length_cons, List.length_cons]; omega]
  show r.take (r.length + 3 - 3) = r
  rw [Nat.add_sub_cancel, List.take_length]
theorem no_three {x y z : V} {r : List V} : ¬ (HT.sIx (x :: y :: z :: r).length 0 (some 3) = 0 ∧ HT.sIx (x :: y :: z :: r).length (x :: y :: z :: r).length none = (x :: y :: z :: r).length) := fun h => by
  have := h.1
  rw [show (some (3 : Int)) = some ((3 : Nat) : Int) from rfl, HT.sIx_nat, List.length_cons, List.length_cons, List.length_cons] at this
  omega
theorem depth_mem : ∀ {ds : List PyData} {y : PyData}, y ∈ ds → y.depth ≤ PyData.depthAll ds
  | x :: ds, y, h => by
    rw [PyData.depthAll]
    rcases List.mem_cons.mp h with rfl | h
    · omega
    · have := depth_mem h
      omega
theorem isX_cell (x y u : PyData) : isX (.tuple [.str "cell", x, y, u]) = (isN x && (isN u && isX y)) := by
  rw [isX_some (fs := ["name", "free", "name"]) (by decide)]
  show ((isN x && (true && (isN u && true))) && (isX y && true)) = _
  rw [Bool.and_true, Bool.and_true, Bool.true_and, Bool.and_assoc]
abbrev manyW : List Str := ["+", "-", "*", "<", "=", "at", "if"]
abbrev mnyK : List (Key × V) := [(.inr "+", .int 3), (.inr "-", .int 3), (.inr "*", .int 3), (.inr "<", .int 3), (.inr "=", .int 3), (.inr "at", .int 3), (.inr "if", .int 4)]
abbrev aggW : List Str := ["count", "sum", "most", "first"]
abbrev aggK : List (Key × V) := [(.inr "count", .int 5), (.inr "sum", .int 6), (.inr "most", .int 7), (.inr "first", .int 6)]
theorem many2 {z : Str} {fs : List Str} (h : look z = some fs) (hf : fs = (["free", "free"] : List Str) ∨ fs = (["free", "bound"] : List Str)) : ∀ r, fs.length = r.length → isX (.tuple (.str z :: r)) = r.all isX := fun r hr => by
  have : r.length = 2 := by rcases hf with rfl | rfl <;> exact hr.symm
  obtain ⟨x, y, rfl⟩ : ∃ x y, r = [x, y] := by
    match r, this with
    | [x, y], _ => exact ⟨x, y, rfl⟩
  rw [isX_some h]
  rcases hf with rfl | rfl
  · show ((true && (true && true)) && (isX x && (isX y && true))) = (isX x && (isX y && true))
    simp
  · show ((true && (true && true)) && (isX x && (isX y && true))) = (isX x && (isX y && true))
    simp
theorem many_ok {z : Str} (h : z ∈ manyW) : ∃ fs, look z = some fs ∧ valV (mergeK [] mnyK) (.inr z) = some (.int ((fs.length : Int) + 1)) ∧ ∀ r, fs.length = r.length → isX (.tuple (.str z :: r)) = r.all isX := by
  simp only [List.mem_cons, List.not_mem_nil, or_false] at h
  rcases h with rfl | rfl | rfl | rfl | rfl | rfl | rfl
  · exact ⟨["free", "free"], by decide, rfl, many2 (by decide) (.inl rfl)⟩
  · exact ⟨["free", "free"], by decide, rfl, many2 (by decide) (.inl rfl)⟩
  · exact ⟨["free", "free"], by decide, rfl, many2 (by decide) (.inl rfl)⟩
  · exact ⟨["free", "free"], by decide, rfl, many2 (by decide) (.inl rfl)⟩
  · exact ⟨["free", "free"], by decide, rfl, many2 (by decide) (.inl rfl)⟩
  · exact ⟨["free", "bound"], by decide, rfl, many2 (by decide) (.inr rfl)⟩
  · refine ⟨["free", "free", "free"], by decide, rfl, fun r hr => ?_⟩
    match r, hr with
    | [x, y, u], _ =>
      rw [isX_some (fs := ["free", "free", "free"]) (by decide)]
      show ((true && (true && (true && true))) && (isX x && (isX y && (isX u && true)))) = (isX x && (isX y && (isX u && true)))
      simp
theorem many_no {z : Str} (h : z ∉ manyW) : valV (mergeK [] mnyK) (.inr z) = none := by
  have := merge_has mnyK [] (.inr z)
  have e : (mnyK.any fun q => decide (q.1 = (.inr z : Key))) = false := by
    rw [List.any_eq_false]
    intro q hq
    rw [decide_eq_true_eq]
    intro e
    simp only [List.mem_cons, List.not_mem_nil, or_false] at hq
    rcases hq with rfl | rfl | rfl | rfl | rfl | rfl | rfl <;> (injection e with e; exact h (e ▸ by decide))
  rw [e] at this
  cases hv : valV (mergeK [] mnyK) (.inr z) with
  | none => rfl
  | some x => rw [hv] at this; cases this
theorem agg_no {z : Str} (h : z ∉ aggW) : valV (mergeK [] aggK) (.inr z) = none := by
  have := merge_has aggK [] (.inr z)
  have e : (aggK.any fun q => decide (q.1 = (.inr z : Key))) = false := by
    rw [List.any_eq_false]
    intro q hq
    rw [decide_eq_true_eq]
    intro e
    simp only [List.mem_cons, List.not_mem_nil, or_false] at hq
    rcases hq with rfl | rfl | rfl | rfl <;> (injection e with e; exact h (e ▸ by decide))
  rw [e] at this
  cases hv : valV (mergeK [] aggK) (.inr z) with
  | none => rfl
  | some x => rw [hv] at this; cases this
theorem agg_ok {z : Str} (h : z ∈ aggW) : ∃ fs, look z = some fs ∧ 4 ≤ fs.length ∧ valV (mergeK [] aggK) (.inr z) = some (.int ((fs.length : Int) + 1)) ∧ ∀ x b r, fs.length = r.length + 2 → isX (.tuple (.str z :: x :: b :: r)) = (isN x && (isTu b && (items b ++ r).all isX)) := by
  simp only [List.mem_cons, List.not_mem_nil, or_false] at h
  rcases h with rfl | rfl | rfl | rfl
  · refine ⟨["name", "extra", "bound", "bound"], by decide, by decide, rfl, fun x b r hr => ?_⟩
    match r, hr with
    | [p1, p2], _ =>
      rw [isX_some (fs := ["name", "extra", "bound", "bound"]) (by decide)]
      show ((isN x && (isTu b && (true && (true && true)))) && (items b ++ [p1, p2]).all isX) = _
      simp [Bool.and_assoc]
  · refine ⟨["name", "extra", "bound", "bound", "bound"], by decide, by decide, rfl, fun x b r hr => ?_⟩
    match r, hr with
    | [p1, p2, p3], _ =>
      rw [isX_some (fs := ["name", "extra", "bound", "bound", "bound"]) (by decide)]
      show ((isN x && (isTu b && (true && (true && (true && true))))) && (items b ++ [p1, p2, p3]).all isX) = _
      simp [Bool.and_assoc]
  · refine ⟨["name", "extra", "bound", "bound", "bound", "free"], by decide, by decide, rfl, fun x b r hr => ?_⟩
    match r, hr with
    | [p1, p2, p3, p4], _ =>
      rw [isX_some (fs := ["name", "extra", "bound", "bound", "bound", "free"]) (by decide)]
      show ((isN x && (isTu b && (true && (true && (true && (true && true)))))) && (items b ++ [p1, p2, p3, p4]).all isX) = _
      simp [Bool.and_assoc]
  · refine ⟨["name", "extra", "bound", "bound", "free"], by decide, by decide, rfl, fun x b r hr => ?_⟩
    match r, hr with
    | [p1, p2, p3], _ =>
      rw [isX_some (fs := ["name", "extra", "bound", "bound", "free"]) (by decide)]
      show ((isN x && (isTu b && (true && (true && (true && true))))) && (items b ++ [p1, p2, p3]).all isX) = _
      simp [Bool.and_assoc]
theorem look_no {z : Str} (h1 : z ≠ "key") (h2 : z ∉ (["int", "let", "var"] : List Str)) (h3 : z ≠ "cell") (h4 : z ∉ manyW) (h5 : z ∉ aggW) : look z = none := by
  unfold look
  rw [Option.map_eq_none_iff, List.find?_eq_none]
  intro p hp
  rw [decide_eq_true_eq]
  rintro rfl
  have : p.1 ∈ table.map (·.1) := List.mem_map.mpr ⟨p, hp, rfl⟩
  simp only [table, List.map_cons, List.map_nil, List.mem_cons, List.not_mem_nil, or_false, not_or] at this h2 h4 h5
  rcases this with h | h | h | h | h | h | h | h | h | h | h | h | h | h | h | h <;> simp_all
abbrev MANY : List (Str × Int) := [("+", 3), ("-", 3), ("*", 3), ("<", 3), ("=", 3), ("at", 3), ("if", 4)]
abbrev AGGN : List (Str × Int) := [("count", 5), ("sum", 6), ("most", 7), ("first", 6)]
section
variable {P : Program} {w : World} {K : PySem.W.Frag} {mg : Str → Option Value} {base : Heap}
abbrev s_law_is : Stmt := topS 28
abbrev N_is : List Str := ["_law_thing", "_law_word", "_law_size", "_law_many", "_law_one"]
theorem sc_law_is : FnScope N_is ["_law_thing"] (defScope s_law_is) := ⟨rfl, rfl, rfl, by decide +kernel, rfl, by decide +kernel, by decide +kernel⟩
def sp_lis (K : PySem.W.Frag) (n : Nat) : Sp := fun vs H Q _ => ∃ (v : V) (d : PyData) (ok : Addr → Prop), vs = [v] ∧ Dd K ok H v d ∧ shB d = true ∧ d.depth < n ∧ sz d ≤ 4000000 ∧ ∀ H', Same H H' → Q (.bl (isX d)) H'
theorem ok_law_is_step {n : Nat} {f fw fn : Addr} {fd dw dn : FuncData} {k : Nat} (F : Fun K "_law_is" "_law_is" s_law_is f fd)
    (Gw : FnOk P w K mg base CX0 k fw dw ["_law_thing", "_law_low"] (sp_lw K)) (gw : mg "_law_is_whole" = some (.ref fw)) (Kw : PySem.W.keepIn K (.ref fw) = true) (bw : Binds K dw ["_law_thing", "_law_low"] [])
    (Gn : FnOk P w K mg base CX0 k fn dn ["_law_thing"] (sp_isS K isN)) (gn : mg "_law_is_name" = some (.ref fn)) (Kn : PySem.W.keepIn K (.ref fn) = true) (bn : Binds K dn ["_law_thing"] [])
    (G : FnOk P w K mg base CX0 k f fd ["_law_thing"] (sp_lis K n)) (g : mg "_law_is" = some (.ref f)) (Kf : PySem.W.keepIn K (.ref f) = true) (b : Binds K fd ["_law_thing"] [])
    (misi : mg "isinstance" = none) (mtuple : mg "tuple" = none) (mstr : mg "str" = none) (mlen : mg "len" = none) : FnOk P w K mg base CX0 (k + 1) f fd ["_law_thing"] (sp_lis K (n + 1)) := by
  have nd := sc_law_is.nd
  refine F.ok sc_law_is (fun vs H Q E h => ?_) (fun cdv A outer s H vs Q E hr h => ?_)
  · obtain ⟨v, d, ok, rfl, _⟩ := h
    rfl
  obtain ⟨v, d, ok, rfl, hd, hsh, hdp, hsz, q⟩ := h
  have hu1 := hu_of hr
  have hu0 : (A.deeper (envOfC "_law_is" (defScope s_law_is) s.heap.objs.size f cdv)).units < cLine := by omega
  refine ⟨_, (pss_cons (ps_if (PW.pt (pw_or (pt_not (pt_val (pe_callB call_isi (by rfl) misi boot_isinstance (pa_cons (pv 0) (pa_cons (pe_bltn (v := .ty "tuple") (by rfl) mtuple boot_tuple rfl) pa_nil))))) (pw_or (pt_cmpR (ZE.op_eqT0 hu0) (pv 0) (pe_tup pa_nil) (nomark _))
        (pw_or1 (pt_not (pt_val (pe_callB call_isi (by rfl) misi boot_isinstance (pa_cons (pe_ix ix_tup (pv 0) pe_int (fun _ _ => rfl)) (pa_cons (pe_bltn (v := .ty "str") (by rfl) mstr boot_str rfl) pa_nil))))))))) (pss_one (ps_ret pe_bl)) pss_nil)
      (pss_cons (ps_par (i := 1) (j := 2) rfl nd rfl rfl (by decide) rfl rfl (pa_cons (pe_ix ix_tup (pv 0) pe_int (fun _ _ => rfl)) (pa_cons (pe_callB call_len_seq (by rfl) mlen PySem.boot_len (pa_cons (pv 0) pa_nil)) pa_nil)) (by rfl))
      (pss_cons (ps_if (pt_cmpR op_eq (pv 1) pe_str (nomark _)) (pss_one (ps_ret (pe_cmpR op_eq (pv 2) pe_int (nomark _)))) pss_nil)
      (pss_cons (ps_if (pt_cmpR op_in_seq (pv 1) (pe_tup (pa_cons pe_str (pa_cons pe_str (pa_cons pe_str pa_nil)))) (by rfl))
        (pss_cons (ps_if (PW.pt (pw_and (pt_cmpR op_eq (pv 2) pe_int (nomark _)) (pw_and1 (pt_cmpR op_eq (pv 1) pe_str (nomark _)))))
            (pss_one (ps_ret (pe_and (pe_call Gw hr (by rfl) gw Kw bw .nil pass0 (pa_cons (pe_ix ix_tup (pv 0) pe_int (fun _ _ => rfl)) (pa_cons (pe_op op_sub pe_int (pe_op op_pow pe_int pe_int)) pa_nil))) (pe_one (pe_cmpR op_le (pe_ix ix_tup (pv 0) pe_int (fun _ _ => rfl)) (pe_op op_pow pe_int pe_int) (nomark _))))))
            pss_nil)
          (pss_one (ps_ret (pe_and (pe_cmpR op_eq (pv 2) pe_int (nomark _)) (pe_one (pe_ifExp (pt_cmpR op_eq (pv 1) pe_str (nomark _)) (pe_call Gn hr (by rfl) gn Kn bn .nil pass0 (pa_cons (pe_ix ix_tup (pv 0) pe_int (fun _ _ => rfl)) pa_nil)) (pe_call Gw hr (by rfl) gw Kw bw .nil pass0 (pa_cons (pe_ix ix_tup (pv 0) pe_int (fun _ _ => rfl)) (pa_cons pe_int pa_nil)))))))))
        pss_nil)
      (pss_cons (ps_if (pt_cmpR op_eq (pv 1) pe_str (nomark _))
        (pss_one (ps_ret (pe_and (pe_cmpR op_eq (pv 2) pe_int (nomark _)) (pe_and (pe_call Gn hr (by rfl) gn Kn bn .nil pass0 (pa_cons (pe_ix ix_tup (pv 0) pe_int (fun _ _ => rfl)) pa_nil)) (pe_and (pe_call Gn hr (by rfl) gn Kn bn .nil pass0 (pa_cons (pe_ix ix_tup (pv 0) pe_int (fun _ _ => rfl)) pa_nil)) (pe_one (pe_call G hr (by rfl) g Kf b .nil pass0 (pa_cons (pe_ix ix_tup (pv 0) pe_int (fun _ _ => rfl)) pa_nil))))))))
        pss_nil)
      (pss_cons (ps_set (i := 3) nd rfl (.inl rfl) (pe_disp (pps_cons pe_str pe_int (pps_cons pe_str pe_int (pps_cons pe_str pe_int (pps_cons pe_str pe_int (pps_cons pe_str pe_int (pps_cons pe_str pe_int (pps_cons pe_str pe_int pps_nil))))))) (by decide) rfl (by simp) (by decide)))
      (pss_cons (ps_if (pt_cmp (pc_din hu1 (pv 1) (pv 3)))
        (pss_one (ps_ret (pe_and (pe_cmpR op_eq (pv 2) (pe_dget hu1 (pv 3) (pv 1) noSl_name) (nomark _)) (pe_one (pe_cmpR (ZE.op_eqL0 hu0) (pe_lc (own := [("_law_one", 4)]) (tt := tNot (tB (tCall (sp_lis K n) [] E0 (tCons (tVar 4) tNil)))) (te := tVar 4) rfl nd (pi_tup (pe_slice L2.sl_tup (pv 0) (po_some pe_int) po_none)) (blkOk_by (N := N_is) (sc := defScope s_law_is) (by decide +kernel))
          (fun _ _ _ _ _ => (pg_name (i := 4) nd rfl (Or.inl rfl))) (fun _ _ _ _ _ => pts_one (pt_not (pt_val (pe_call G hr (by rfl) g Kf b .nil pass0 (pa_cons (pv 4) pa_nil))))) (fun _ _ _ _ _ => (pv 4))) (pe_lst pa_nil) (nomark _))))))
        pss_nil)
      (pss_cons (ps_if (pt_cmpR op_ne (pe_dget2 hu1 (pe_disp (pps_cons pe_str pe_int (pps_cons pe_str pe_int (pps_cons pe_str pe_int (pps_cons pe_str pe_int pps_nil)))) (by decide) rfl (by simp) (by decide)) (pv 1) pe_int ⟨by rfl, by rfl, by rfl, by rfl⟩) (pv 2) (nomark _)) (pss_one (ps_ret pe_bl)) pss_nil)
      (pss_cons (ps_if (PW.pt (pw_or (pt_not (pt_val (pe_call Gn hr (by rfl) gn Kn bn .nil pass0 (pa_cons (pe_ix ix_tup (pv 0) pe_int (fun _ _ => rfl)) pa_nil)))) (pw_or1 (pt_not (pt_val (pe_callB call_isi (by rfl) misi boot_isinstance (pa_cons (pe_ix ix_tup (pv 0) pe_int (fun _ _ => rfl)) (pa_cons (pe_bltn (v := .ty "tuple") (by rfl) mtuple boot_tuple rfl) pa_nil)))))))) (pss_one (ps_ret pe_bl)) pss_nil)
      (pss_one (ps_ret (pe_cmpR (ZE.op_eqL0 hu0) (pe_lc (own := [("_law_one", 4)]) (tt := tNot (tB (tCall (sp_lis K n) [] E0 (tCons (tVar 4) tNil)))) (te := tVar 4) rfl nd (pi_tup (pe_op op_catA (pe_ix ix_tup (pv 0) pe_int (fun _ _ => rfl)) (pe_slice L2.sl_tup (pv 0) (po_some pe_int) po_none))) (blkOk_by (N := N_is) (sc := defScope s_law_is) (by decide +kernel))
          (fun _ _ _ _ _ => (pg_name (i := 4) nd rfl (Or.inl rfl))) (fun _ _ _ _ _ => pts_one (pt_not (pt_val (pe_call G hr (by rfl) g Kf b .nil pass0 (pa_cons (pv 4) pa_nil))))) (fun _ _ _ _ _ => (pv 4))) (pe_lst pa_nil) (nomark _))))))))))))), ?_⟩
  have q0 := q H fun _ _ e => e
  refine ⟨v, rfl, v, .ty "tuple", _, _, _, rfl, .ty "tuple", hd.ty, kit_t K d, _, rfl, ?_⟩
  cases hd with
  | tup hs ha =>
    rename_i a xs ds
    refine iteF ⟨.ref a, rfl, Nat.zero_le _, fun t0 nt0 => ?_⟩
    have s0 := same_upd (o := .tup []) nt0
    refine ⟨a, t0, xs, rfl, rfl, (KeepT.of s0).seqt hs, .inl (.inl upd_same), _, rfl, ?_⟩
    have hs1 := (KeepT.of s0).seqt hs
    have ha1 := ha.keep (KeepO.of (ok := ok) s0)
    have q1 : ∀ H', Same (upd H t0 (.tup [])) H' → Q (.bl (isX (.tuple ds))) H' := fun H' s' => q H' (s0.trans s')
    clear q q0 hs ha
    revert hs1 ha1 q1
    generalize upd H t0 (.tup []) = H1
    intro hs1 ha1 q1
    clear s0 nt0
    have q0 := q1 H1 fun _ _ e => e
    cases ha1 with
    | nil =>
      rw [isX_nf rfl] at q0
      exact iteT (iteT q0)
    | cons h1 r1 =>
    rename_i v1 vr d1 r
    refine iteF ⟨.ref a, rfl, a, _, 0, v1, rfl, rfl, hs1, at0, v1, .ty "str", _, _, _, rfl, .ty "str", h1.ty, kit_s K d1, _, rfl, ?_⟩
    cases h1 with
    | str z =>
      refine iteF ⟨.ref a, rfl, a, _, 0, .str z, rfl, rfl, hs1, at0, .ref a, rfl, a, _, rfl, .inr hs1, ?_⟩
      have hl := r1.len
      have hsr : ∀ y, y ∈ r → shB y = true := fun y hy => by
        rw [shB] at hsh
        exact shBs_mem hsh y (List.mem_cons_of_mem _ hy)
      have hsr' : ∀ y, y ∈ r → Sh y := fun y hy => shB_sh (hsr y hy)
      have hlen : (V.int (((V.str z :: vr).length : Nat) : Int)) = .int ((r.length : Int) + 1) := by
        congr 1
        rw [List.length_cons, hl]
        omega
      rw [hlen]
      -- the j-th of what stands behind the word
      have nth : ∀ {j : Nat} {y : PyData} {H' : Hp}, Same H1 H' → r[j]? = some y → ∃ u, (V.str z :: vr)[j + 1]? = some u ∧ SqT K H' a (V.str z :: vr) ∧ Dd K ok H' u y := fun {j y H'} s' hj => by
        have hjl : j < r.length := (List.getElem?_eq_some_iff.mp hj).1
        have hu : vr[j]? = some (vr[j]'(by omega)) := List.getElem?_eq_getElem _
        obtain ⟨y', e1, e2⟩ := dd_at (r1.keep (KeepO.of s')) hu
        rw [hj] at e1
        cases e1
        exact ⟨_, by rw [List.getElem?_cons_succ]; exact hu, (KeepT.of s').seqt hs1, e2⟩
      -- key
      refine ⟨_, _, rfl, .str z, rfl, rfl, _, rfl, ite2 (fun e1 => ?_) (fun e1 => ?_)⟩
      · have e1 : z = "key" := by simpa using e1
        subst e1
        rw [isX_some (fs := []) (by decide)] at q0
        refine ⟨.int _, rfl, rfl, ?_⟩
        cases r with
        | nil => exact q0
        | cons y r => rw [decide_eq_false (fun e => by injection e with e; rw [List.length_cons] at e; omega)]; exact q0
      have e1 : z ≠ "key" := fun x => e1 (by simpa using x)
      -- int, let, var
      refine ⟨.str z, rfl, h1000 (show 3 ≤ 1000 by decide), fun t1 nt1 => ?_⟩
      have s2 := same_upd (o := .tup [.str "int", .str "let", .str "var"]) nt1
      refine ⟨t1, _, rfl, .inr (.inl (.inl upd_same)), rfl, rfl, _, rfl, ?_⟩
      show if inV (.str z) ((["int", "let", "var"] : List Str).map V.str) = true then _ else _
      rw [in_strs]
      revert s2
      generalize upd H1 t1 (.tup [.str "int", .str "let", .str "var"]) = H2
      intro s2
      have q2 := q1 H2 s2
      by_cases e2 : z ∈ (["int", "let", "var"] : List Str)
      · rw [decide_eq_true e2]
        have one : ∃ f, look z = some [f] := by
          simp only [List.mem_cons, List.not_mem_nil, or_false] at e2
          rcases e2 with rfl | rfl | rfl
          · exact ⟨"value", by decide⟩
          · exact ⟨"position", by decide⟩
          · exact ⟨"name", by decide⟩
        refine iteT ⟨.int _, rfl, rfl, _, rfl, ?_⟩
        by_cases c : r.length = 1
        case neg =>
          obtain ⟨f, hf⟩ := one
          rw [isX_len hf (fun e => c (by rw [← e]; rfl))] at q2
          rw [decide_eq_false (fun e => c (by injection e with e; omega))]
          exact iteF ⟨.int _, rfl, rfl, _, rfl, by rw [decide_eq_false (fun e => c (by injection e with e; omega))]; exact iteF q2⟩
        obtain ⟨y, rfl⟩ := List.length_eq_one_iff.mp c
        rw [decide_eq_true (by rfl)]
        obtain ⟨u, hu1, hu2, hu3⟩ := nth (j := 0) s2 rfl
        refine iteT ⟨.str z, rfl, rfl, _, rfl, ite2 (fun e3 => ?_) (fun e3 => ?_)⟩
        · have e3 : z = "int" := by simpa using e3
          subst e3
          rw [isX_some (fs := ["value"]) (by decide)] at q2
          replace q2 : Q (.bl ((isV y && true) && true)) H2 := q2
          rw [Bool.and_true, Bool.and_true] at q2
          refine ⟨.ref a, rfl, a, _, 1, u, rfl, rfl, hu2, atI_nat (j := 1) hu1, 10, 18, rfl, rfl, ⟨by decide, by decide, by decide⟩, 0, 10 ^ 18, rfl, rfl, u, y, ok, _, rfl, hu3, _, rfl, ?_⟩
          cases y with
          | int i =>
            have hw : wholeD (0 - 10 ^ 18) (.int i) = decide (-LIM ≤ i) := rfl
            cases hu3
            replace q2 : Q (.bl (decide (-LIM ≤ i) && decide (i ≤ LIM))) H2 := q2
            rw [hw]
            cases c1 : decide (-LIM ≤ i) with
            | false =>
              rw [c1, Bool.false_and] at q2
              exact iteF q2
            | true =>
              rw [c1, Bool.true_and] at q2
              exact iteT ⟨.ref a, rfl, a, _, 1, .int i, rfl, rfl, hu2, atI_nat (j := 1) hu1, 10, 18, rfl, rfl, ⟨by decide, by decide, by decide⟩, i, 10 ^ 18, rfl, rfl, q2⟩
          | _ => exact iteF q2
        · have e3 : z ≠ "int" := fun x => e3 (by simpa using x)
          refine ⟨.int _, rfl, rfl, _, rfl, ?_⟩
          rw [decide_eq_true (by rfl)]
          refine iteT ⟨.str z, rfl, rfl, _, rfl, ite2 (fun e4 => ?_) (fun e4 => ?_)⟩
          · have e4 : z = "var" := by simpa using e4
            subst e4
            refine ⟨.ref a, rfl, a, _, 1, u, rfl, rfl, hu2, atI_nat (j := 1) hu1, u, y, ok, rfl, hu3, hsr' y List.mem_cons_self, fun H3 s3 => ?_⟩
            have q3 := q1 H3 (s2.trans s3)
            rw [isX_some (fs := ["name"]) (by decide)] at q3
            replace q3 : Q (.bl ((isN y && true) && true)) H3 := q3
            rw [Bool.and_true, Bool.and_true] at q3
            exact q3
          · have e4 : z ≠ "var" := fun x => e4 (by simpa using x)
            obtain rfl : z = "let" := by
              simp only [List.mem_cons, List.not_mem_nil, or_false] at e2
              rcases e2 with h | h | h
              · exact absurd h e3
              · exact h
              · exact absurd h e4
            rw [isX_some (fs := ["position"]) (by decide)] at q2
            refine ⟨.ref a, rfl, a, _, 1, u, rfl, rfl, hu2, atI_nat (j := 1) hu1, u, y, ok, 0, rfl, hu3, ?_⟩
            cases y with
            | int i =>
              replace q2 : Q (.bl ((decide (0 ≤ i) && true) && true)) H2 := q2
              rw [Bool.and_true, Bool.and_true] at q2
              exact q2
            | _ => exact q2
      rw [decide_eq_false e2]
      refine iteF ?_
      have hdr : ∀ y, y ∈ r → y.depth < n := fun y hy => by
        have := depth_mem hy
        rw [PyData.depth, PyData.depthAll] at hdp
        omega
      have hzr : ∀ y, y ∈ r → sz y ≤ 4000000 := fun y hy => by
        have := sz_mem hy
        rw [sz, szs] at hsz
        omega
      have hrl : r.length ≤ 4000000 := by
        have := szs_len r
        rw [sz, szs] at hsz
        omega
      -- cell
      refine ⟨.str z, rfl, rfl, _, rfl, ite2 (fun e3 => ?_) (fun e3 => ?_)⟩
      · have e3 : z = "cell" := by simpa using e3
        subst e3
        by_cases c : r.length = 3
        case neg =>
          rw [isX_len (fs := ["name", "free", "name"]) (by decide) (fun e => c (by rw [← e]; rfl))] at q2
          exact ⟨.int _, rfl, rfl, _, rfl, by rw [decide_eq_false (fun e => c (by injection e with e; omega))]; exact iteF q2⟩
        obtain ⟨x, y, u, rfl⟩ : ∃ x y u, r = [x, y, u] := by
          match r, c with
          | [x, y, u], _ => exact ⟨x, y, u, rfl⟩
        obtain ⟨ux, a1, a2, a3⟩ := nth (j := 0) s2 rfl
        refine ⟨.int _, rfl, rfl, _, rfl, ?_⟩
        rw [decide_eq_true (by rfl)]
        refine iteT ⟨.ref a, rfl, a, _, 1, ux, rfl, rfl, a2, atI_nat (j := 1) a1, ux, x, ok, rfl, a3, hsr' x (by simp), fun H3 s3 => ⟨_, rfl, ?_⟩⟩
        have q3 := q1 H3 (s2.trans s3)
        rw [isX_cell] at q3
        cases hx : isN x with
        | false =>
          rw [hx, Bool.false_and] at q3
          exact iteF q3
        | true =>
        rw [hx, Bool.true_and] at q3
        obtain ⟨uu, b1, b2, b3⟩ := nth (j := 2) (s2.trans s3) rfl
        refine iteT ⟨.ref a, rfl, a, _, 3, uu, rfl, rfl, b2, atI_nat (j := 3) b1, uu, u, ok, rfl, b3, hsr' u (by simp), fun H4 s4 => ⟨_, rfl, ?_⟩⟩
        have q4 := q1 H4 ((s2.trans s3).trans s4)
        rw [isX_cell, hx, Bool.true_and] at q4
        cases hu : isN u with
        | false =>
          rw [hu, Bool.false_and] at q4
          exact iteF q4
        | true =>
        obtain ⟨uy, c1, c2, c3⟩ := nth (j := 1) ((s2.trans s3).trans s4) rfl
        refine iteT ⟨.ref a, rfl, a, _, 2, uy, rfl, rfl, c2, atI_nat (j := 2) c1, uy, y, ok, rfl, c3, hsr y (by simp), hdr y (by simp), hzr y (by simp), fun H5 s5 => ?_⟩
        have q5 := q1 H5 (((s2.trans s3).trans s4).trans s5)
        rw [isX_cell, hx, hu, Bool.true_and, Bool.true_and] at q5
        exact q5
      have e3 : z ≠ "cell" := fun x => e3 (by simpa using x)
      intro dm ndm
      refine ⟨upd_same, mnyK, rfl, by decide, ?_⟩
      have s3 : Same H2 (upd (upd H2 dm (.dK [])) dm (.dK (mergeK [] mnyK))) := fun b o e => by rw [upd_ne (ne_of_none e ndm), upd_ne (ne_of_none e ndm)]; exact e
      have hdm : upd (upd H2 dm (.dK [])) dm (.dK (mergeK [] mnyK)) dm = some (.dK (mergeK [] mnyK)) := upd_same
      revert s3 hdm
      generalize upd (upd H2 dm (.dK [])) dm (.dK (mergeK [] mnyK)) = H3
      intro s3 hdm
      have s13 := s2.trans s3
      have q3 := q1 H3 s13
      have hs3 := (KeepT.of s13).seqt hs1
      have r3 := r1.keep (KeepO.of (ok := ok) s13)
      refine ⟨.str z, rfl, .ref dm, rfl, dm, _, rfl, DGet.k (k := .inr z) hdm, _, rfl, ?_⟩
      by_cases hm : z ∈ manyW
      · obtain ⟨fs, lk, hv, heq⟩ := many_ok hm
        rw [hv]
        refine iteT ⟨.int _, rfl, .ref dm, rfl, .str z, rfl, dm, _, rfl, hv ▸ DGet.k (k := .inr z) hdm, rfl, _, rfl, ?_⟩
        by_cases c : fs.length = r.length
        case neg =>
          rw [isX_len lk c] at q3
          rw [decide_eq_false (fun e => c (by injection e with e; omega))]
          exact iteF q3
        rw [decide_eq_true (by congr 1; omega)]
        refine iteT ⟨.ref a, rfl, 1, rfl, a, _, rfl, hs3, ?_, fun c1 nc => ?_⟩
        · rw [List.length_cons]
          rintro ⟨e, _⟩
          have : HT.sIx (vr.length + 1) 0 (some 1) = min 1 (vr.length + 1) := HT.sIx_nat _ _ 1
          rw [this] at e
          omega
        have hcut : cutV (.str z :: vr) (some 1) none = vr := by
          unfold cutV
          rw [HT.sIx_none, show HT.sIx (V.str z :: vr).length 0 (some 1) = min 1 (V.str z :: vr).length from HT.sIx_nat _ _ 1, List.length_cons, show min 1 (vr.length + 1) = 1 by omega, List.drop_succ_cons, List.drop_zero, show vr.length + 1 - 1 = vr.length by omega, List.take_length]
        rw [hcut]
        have s4 := same_upd (o := .tup vr) nc
        have hc1 : upd H3 c1 (.tup vr) c1 = some (.tup vr) := upd_same
        revert s4 hc1
        generalize upd H3 c1 (.tup vr) = H4
        intro s4 hc1
        have hc2 : SqT K H4 c1 vr := .inl (.inl hc1)
        have r4 := r3.keep (KeepO.of (ok := ok) s4)
        have good : ∀ y, y ∈ r → shB y = true ∧ y.depth < n ∧ sz y ≤ 4000000 := fun y hy => ⟨hsr y hy, hdr y hy, hzr y hy⟩
        refine ⟨c1, rfl, ⟨_, hc2⟩, fun D nD => ?_⟩
        refine lc_tup (xs := vr) (fun i H' => ∃ bad : List V, H' D = some (.lst bad) ∧ bad.length ≤ i ∧ bad.isEmpty = ((r).take i).all isX ∧ ∀ b o, b ≠ D → H4 b = some o → H' b = some o) ?_ ?_ ?_ ?_
        · exact ⟨[], upd_same, Nat.le_refl _, rfl, fun b o nb e => by rw [upd_ne nb]; exact e⟩
        · rintro i H' _ ⟨_, _, _, _, kp⟩
          exact (KeepT.of (show Same H4 H' from fun b o e => kp b o (ne_of_none e nD) e)).seqt hc2
        · rintro i u H' hu ⟨bad, hD, hbl, hbe, kp⟩
          have sD : Same H4 H' := fun b o e => kp b o (ne_of_none e nD) e
          obtain ⟨y, hy, hyd⟩ := dd_at (r4.keep (KeepO.of sD)) hu
          have hi : i < (r).length := (List.getElem?_eq_some_iff.mp hy).1
          obtain ⟨g1, g2, g3⟩ := good y (List.mem_of_getElem? hy)
          refine ⟨rfl, u, rfl, u, y, ok, rfl, hyd, g1, g2, g3, fun H8 s8 => ⟨_, rfl, ?_⟩⟩
          rw [take_at hy, List.all_append, ← hbe, List.all_cons, List.all_nil, Bool.and_true]
          cases hx : isX y with
          | true =>
            rw [Bool.and_true]
            exact iteF ⟨bad, s8 _ _ hD, by omega, rfl, fun b o nb e => s8 _ _ (kp b o nb e)⟩
          | false =>
            refine iteT ⟨u, rfl, bad, s8 _ _ hD, Nat.lt_of_le_of_lt hbl (Nat.lt_of_lt_of_le hi (Nat.le_trans hrl (by decide))), bad ++ [u], upd_same, by rw [List.length_append]; show bad.length + 1 ≤ i + 1; omega, ?_, fun b o nb e => by rw [upd_ne nb]; exact s8 _ _ (kp b o nb e)⟩
            rw [Bool.and_false]
            cases bad <;> rfl
        · rintro H5 ⟨bad, hD, hbl, hbe, kp⟩
          have s5 : Same H4 H5 := fun b o e => kp b o (ne_of_none e nD) e
          rw [hl, List.take_length] at hbe
          refine ⟨Nat.zero_le _, fun l nl => ?_⟩
          have s6 := same_upd (o := .lst []) nl
          refine ⟨D, l, bad, rfl, rfl, .inl (.inl (s6 _ _ hD)), .inl (.inl upd_same), ?_⟩
          have q5 := q1 _ (s13.trans (s4.trans (s5.trans s6)))
          rw [heq r c, ← hbe] at q5
          exact q5
      rw [many_no hm]
      refine iteF ?_
      -- an aggregate
      intro dg ndg
      refine ⟨upd_same, aggK, rfl, by decide, ?_⟩
      have s4 : Same H3 (upd (upd H3 dg (.dK [])) dg (.dK (mergeK [] aggK))) := fun b o e => by rw [upd_ne (ne_of_none e ndg), upd_ne (ne_of_none e ndg)]; exact e
      have hdg : upd (upd H3 dg (.dK [])) dg (.dK (mergeK [] aggK)) dg = some (.dK (mergeK [] aggK)) := upd_same
      revert s4 hdg
      generalize upd (upd H3 dg (.dK [])) dg (.dK (mergeK [] aggK)) = H4
      intro s4 hdg
      have s14 := s13.trans s4
      have q4 := q1 H4 s14
      refine ⟨dg, rfl, .inl ⟨_, .inl hdg⟩, .str z, rfl, _, DGet.k (k := .inr z) hdg, .int _, rfl, ?_⟩
      by_cases hg : z ∈ aggW
      case neg =>
        rw [agg_no hg]
        rw [isX_none (look_no e1 e2 e3 hm hg)] at q4
        refine ⟨rfl, _, rfl, ?_⟩
        rw [show (!decide ((none : Option V).getD (.int 0) = V.int ((r.length : Int) + 1))) = true from by
          rw [decide_eq_false (fun e => by have e : V.int 0 = V.int ((r.length : Int) + 1) := e; injection e with e; omega)]; rfl]
        exact iteT q4
      obtain ⟨fs, lk, hf4, hv, heq⟩ := agg_ok hg
      rw [hv]
      refine ⟨rfl, _, rfl, ?_⟩
      by_cases c0 : fs.length = r.length
      case neg =>
        rw [isX_len lk c0] at q4
        rw [show (!decide ((some (V.int ((fs.length : Int) + 1))).getD (.int 0) = V.int ((r.length : Int) + 1))) = true from by
          rw [decide_eq_false (fun e => by have e : V.int ((fs.length : Int) + 1) = V.int ((r.length : Int) + 1) := e; injection e with e; omega)]; rfl]
        exact iteT q4
      rw [show (!decide ((some (V.int ((fs.length : Int) + 1))).getD (.int 0) = V.int ((r.length : Int) + 1))) = false from by
        rw [decide_eq_true (by show V.int ((fs.length : Int) + 1) = V.int ((r.length : Int) + 1); congr 1; omega)]; rfl]
      obtain ⟨x, b', rest, rfl⟩ : ∃ x y u, r = x :: y :: u := by
        match r, c0 with
        | [], h => rw [h] at hf4; exact absurd hf4 (by decide)
        | [_], h => rw [h] at hf4; exact absurd hf4 (by simp)
        | x :: y :: u, _ => exact ⟨x, y, u, rfl⟩
      have c : fs.length = rest.length + 2 := c0
      obtain ⟨ux, a1, a2, a3⟩ := nth (j := 0) s14 rfl
      refine iteF ⟨.ref a, rfl, a, _, 1, ux, rfl, rfl, a2, atI_nat (j := 1) a1, ux, x, ok, rfl, a3, hsr' x (by simp), fun H5 s5 => ⟨_, rfl, ?_⟩⟩
      have s15 := s14.trans s5
      have q5 := q1 H5 s15
      rw [heq x b' rest c] at q5
      cases hx0 : isN x with
      | false =>
        rw [hx0, Bool.false_and] at q5
        exact iteT (iteT q5)
      | true =>
      rw [hx0, Bool.true_and] at q5
      have r5 := r1.keep (KeepO.of (ok := ok) s15)
      have hs5 := (KeepT.of s15).seqt hs1
      cases r5 with
      | cons ex r5 =>
      cases r5 with
      | cons eb r5 =>
      rename_i vx vb vrest
      refine iteF ⟨.ref a, rfl, a, _, 2, vb, rfl, rfl, hs5, atI_nat (j := 2) rfl, vb, .ty "tuple", _, _, _, rfl, .ty "tuple", eb.ty, kit_t K b', _, rfl, ?_⟩
      cases eb with
      | tup hb hbs =>
        rename_i ba bsv bs
        have hcr := r5.len
        have gb : ∀ y, y ∈ bs → shB y = true ∧ y.depth < n ∧ sz y ≤ 4000000 := fun y hy => by
          have h1 := hsr (.tuple bs) (by simp)
          have h2 := hdr (.tuple bs) (by simp)
          have h3 := hzr (.tuple bs) (by simp)
          rw [shB] at h1
          rw [sz] at h3
          rw [PyData.depth] at h2
          have := depth_mem hy
          have := sz_mem hy
          exact ⟨shBs_mem h1 y hy, by omega, by omega⟩
        have gr : ∀ y, y ∈ rest → shB y = true ∧ y.depth < n ∧ sz y ≤ 4000000 := fun y hy => ⟨hsr y (by simp [hy]), hdr y (by simp [hy]), hzr y (by simp [hy])⟩
        have hbl2 : bs.length ≤ 4000000 := by
          have h3 := hzr (.tuple bs) (by simp)
          rw [sz] at h3
          have := szs_len bs
          omega
        have hrl2 : rest.length ≤ 4000000 := by
          rw [List.length_cons, List.length_cons] at hrl
          omega
        refine iteF ⟨.ref a, rfl, a, _, 2, .ref ba, rfl, rfl, hs5, atI_nat (j := 2) rfl, .ref a, rfl, 3, rfl, a, _, rfl, hs5, no_three, fun c1 nc => ?_⟩
        rw [cut_three]
        have s6 := same_upd (o := .tup vrest) nc
        have hc1 : upd H5 c1 (.tup vrest) c1 = some (.tup vrest) := upd_same
        revert s6 hc1
        generalize upd H5 c1 (.tup vrest) = H6
        intro s6 hc1
        have s16 := s15.trans s6
        have hb6 := (KeepT.of s6).seqt hb
        have r6 := r5.keep (KeepO.of (ok := ok) s6)
        have b6 := hbs.keep (KeepO.of (ok := ok) s6)
        have hbsl := hbs.len
        have hvr : vrest ≠ [] := fun e => by
          rw [e] at hcr
          have : rest.length = 0 := hcr.symm
          omega
        have hc2 : SqT K H6 c1 vrest := .inl (.inl hc1)
        refine ⟨ba, c1, bsv, vrest, rfl, rfl, hb6, hc2, Nat.le_trans (show _ ≤ 8000000 by omega) (by rw [sizeLine_eq]; decide), fun e => ?_, fun _ e => absurd e hvr, fun _ _ p np => ?_⟩
        · subst e
          cases hbs
          refine ⟨c1, rfl, ⟨_, hc2⟩, fun D nD => ?_⟩
          refine lc_tup (xs := vrest) (fun i H' => ∃ bad : List V, H' D = some (.lst bad) ∧ bad.length ≤ i ∧ bad.isEmpty = ((rest).take i).all isX ∧ ∀ b o, b ≠ D → H6 b = some o → H' b = some o) ?_ ?_ ?_ ?_
          · exact ⟨[], upd_same, Nat.le_refl _, rfl, fun b o nb e => by rw [upd_ne nb]; exact e⟩
          · rintro i H' _ ⟨_, _, _, _, kp⟩
            exact (KeepT.of (show Same H6 H' from fun b o e => kp b o (ne_of_none e nD) e)).seqt hc2
          · rintro i u H' hu ⟨bad, hD, hbl, hbe, kp⟩
            have sD : Same H6 H' := fun b o e => kp b o (ne_of_none e nD) e
            obtain ⟨y, hy, hyd⟩ := dd_at (r6.keep (KeepO.of sD)) hu
            have hi : i < (rest).length := (List.getElem?_eq_some_iff.mp hy).1
            obtain ⟨g1, g2, g3⟩ := gr y (List.mem_of_getElem? hy)
            refine ⟨rfl, u, rfl, u, y, ok, rfl, hyd, g1, g2, g3, fun H8 s8 => ⟨_, rfl, ?_⟩⟩
            rw [take_at hy, List.all_append, ← hbe, List.all_cons, List.all_nil, Bool.and_true]
            cases hx : isX y with
            | true =>
              rw [Bool.and_true]
              exact iteF ⟨bad, s8 _ _ hD, by omega, rfl, fun b o nb e => s8 _ _ (kp b o nb e)⟩
            | false =>
              refine iteT ⟨u, rfl, bad, s8 _ _ hD, Nat.lt_of_le_of_lt hbl (Nat.lt_of_lt_of_le hi (Nat.le_trans hrl2 (by decide))), bad ++ [u], upd_same, by rw [List.length_append]; show bad.length + 1 ≤ i + 1; omega, ?_, fun b o nb e => by rw [upd_ne nb]; exact s8 _ _ (kp b o nb e)⟩
              rw [Bool.and_false]
              cases bad <;> rfl
          · rintro H9 ⟨bad, hD, hbl, hbe, kp⟩
            have s9 : Same H6 H9 := fun b o e => kp b o (ne_of_none e nD) e
            rw [hcr, List.take_length] at hbe
            refine ⟨Nat.zero_le _, fun l nl => ?_⟩
            have s10 := same_upd (o := .lst []) nl
            refine ⟨D, l, bad, rfl, rfl, .inl (.inl (s10 _ _ hD)), .inl (.inl upd_same), ?_⟩
            have q5 := q1 _ (s16.trans (s9.trans s10))
            rw [heq x _ rest c, hx0, Bool.true_and] at q5
            replace q5 : Q (.bl (([] ++ rest).all isX)) _ := q5
            rw [hbe]
            exact q5
        · have s7 := same_upd (o := .tup (bsv ++ vrest)) np
          have hp : upd H6 p (.tup (bsv ++ vrest)) p = some (.tup (bsv ++ vrest)) := upd_same
          revert s7 hp
          generalize upd H6 p (.tup (bsv ++ vrest)) = H7
          intro s7 hp
          have s17 := s16.trans s7
          have hp2 : SqT K H7 p (bsv ++ vrest) := .inl (.inl hp)
          have d7 := (b6.keep (KeepO.of (ok := ok) s7)).app (r6.keep (KeepO.of (ok := ok) s7))
          have g7 : ∀ y, y ∈ bs ++ rest → shB y = true ∧ y.depth < n ∧ sz y ≤ 4000000 := fun y hy => by
            rcases List.mem_append.mp hy with hy | hy
            · exact gb y hy
            · exact gr y hy
          have hl7 : (bs ++ rest).length ≤ 8000000 := by rw [List.length_append]; omega
          refine ⟨p, rfl, ⟨_, hp2⟩, fun D nD => ?_⟩
          refine lc_tup (xs := bsv ++ vrest) (fun i H' => ∃ bad : List V, H' D = some (.lst bad) ∧ bad.length ≤ i ∧ bad.isEmpty = ((bs ++ rest).take i).all isX ∧ ∀ b o, b ≠ D → H7 b = some o → H' b = some o) ?_ ?_ ?_ ?_
          · exact ⟨[], upd_same, Nat.le_refl _, rfl, fun b o nb e => by rw [upd_ne nb]; exact e⟩
          · rintro i H' _ ⟨_, _, _, _, kp⟩
            exact (KeepT.of (show Same H7 H' from fun b o e => kp b o (ne_of_none e nD) e)).seqt hp2
          · rintro i u H' hu ⟨bad, hD, hbl, hbe, kp⟩
            have sD : Same H7 H' := fun b o e => kp b o (ne_of_none e nD) e
            obtain ⟨y, hy, hyd⟩ := dd_at (d7.keep (KeepO.of sD)) hu
            have hi : i < (bs ++ rest).length := (List.getElem?_eq_some_iff.mp hy).1
            obtain ⟨g1, g2, g3⟩ := g7 y (List.mem_of_getElem? hy)
            refine ⟨rfl, u, rfl, u, y, ok, rfl, hyd, g1, g2, g3, fun H8 s8 => ⟨_, rfl, ?_⟩⟩
            rw [take_at hy, List.all_append, ← hbe, List.all_cons, List.all_nil, Bool.and_true]
            cases hx : isX y with
            | true =>
              rw [Bool.and_true]
              exact iteF ⟨bad, s8 _ _ hD, by omega, rfl, fun b o nb e => s8 _ _ (kp b o nb e)⟩
            | false =>
              refine iteT ⟨u, rfl, bad, s8 _ _ hD, Nat.lt_of_le_of_lt hbl (Nat.lt_of_lt_of_le hi (Nat.le_trans hl7 (by decide))), bad ++ [u], upd_same, by rw [List.length_append]; show bad.length + 1 ≤ i + 1; omega, ?_, fun b o nb e => by rw [upd_ne nb]; exact s8 _ _ (kp b o nb e)⟩
              rw [Bool.and_false]
              cases bad <;> rfl
          · rintro H9 ⟨bad, hD, hbl, hbe, kp⟩
            have s9 : Same H7 H9 := fun b o e => kp b o (ne_of_none e nD) e
            rw [d7.len, List.take_length] at hbe
            refine ⟨Nat.zero_le _, fun l nl => ?_⟩
            have s10 := same_upd (o := .lst []) nl
            refine ⟨D, l, bad, rfl, rfl, .inl (.inl (s10 _ _ hD)), .inl (.inl upd_same), ?_⟩
            have q5 := q1 _ (s17.trans (s9.trans s10))
            rw [heq x _ rest c, hx0, Bool.true_and] at q5
            replace q5 : Q (.bl ((bs ++ rest).all isX)) _ := q5
            rw [hbe]
            exact q5
      | _ => exact iteT q5
    | _ =>
      rw [isX_nf rfl] at q0
      exact iteT q0
  | _ =>
    rw [isX_nf rfl] at q0
    exact iteT (iteT q0)
theorem ok_law_is {f fw fn : Addr} {fd dw dn : FuncData} {k : Nat} (F : Fun K "_law_is" "_law_is" s_law_is f fd)
    (Gw : FnOk P w K mg base CX0 k fw dw ["_law_thing", "_law_low"] (sp_lw K)) (gw : mg "_law_is_whole" = some (.ref fw)) (Kw : PySem.W.keepIn K (.ref fw) = true) (bw : Binds K dw ["_law_thing", "_law_low"] [])
    (Gn : FnOk P w K mg base CX0 k fn dn ["_law_thing"] (sp_isS K isN)) (gn : mg "_law_is_name" = some (.ref fn)) (Kn : PySem.W.keepIn K (.ref fn) = true) (bn : Binds K dn ["_law_thing"] [])
    (g : mg "_law_is" = some (.ref f)) (Kf : PySem.W.keepIn K (.ref f) = true) (b : Binds K fd ["_law_thing"] [])
    (misi : mg "isinstance" = none) (mtuple : mg "tuple" = none) (mstr : mg "str" = none) (mlen : mg "len" = none) : ∀ n : Nat, FnOk P w K mg base CX0 (k + n) f fd ["_law_thing"] (sp_lis K n)
  | 0 => ⟨fun vs H Q E h => by obtain ⟨_, _, _, _, _, _, h, _⟩ := h; exact absurd h (Nat.not_lt_zero _), fun A outer s H args us vs Q E hr he hb hv hs => by obtain ⟨_, _, _, _, _, _, h, _⟩ := hs; exact absurd h (Nat.not_lt_zero _)⟩
  | n + 1 => ok_law_is_step (k := k + n) F (Gw.mono (by omega)) gw Kw bw (Gn.mono (by omega)) gn Kn bn (ok_law_is F Gw gw Kw bw Gn gn Kn bn g Kf b misi mtuple mstr mlen n) g Kf b misi mtuple mstr mlen
end
end L4

namespace L4
open PySem PySem.Spec PyProof.Rows L2 GR AD RZ WX
theorem bool_ok (b : Bool) : PyData.strOk (PyData.bool b).shown = true := by
  rw [PyData.shown_bool]
  cases b <;> decide +kernel
theorem shaped3 {a b c : Str} (ha : PyData.strOk a = true) (hb : PyData.strOk b = true) (hc : PyData.strOk c = true) : SeqAt.shaped (.list [.str a, .str b, .str c]) = true := by
  unfold SeqAt.shaped
  simp only [PyData.canLay0, PyData.canLayAll0, ha, hb, hc, PyData.depth, PyData.depthAll]
  rfl
section
variable {P : Program} {w : World} {K : PySem.W.Frag} {mg : Str → Option Value} {base : Heap}
abbrev s_law_right : Stmt := topS 31
abbrev N_ri : List Str := ["_law_thing", "_law_before", "_law_due"]
theorem sc_law_right : FnScope N_ri ["_law_thing"] (defScope s_law_right) := ⟨rfl, rfl, rfl, by decide +kernel, rfl, by decide +kernel, by decide +kernel⟩
/-- what may be asked about -/
structure Ask (K : PySem.W.Frag) (ok : Addr → Prop) (H : Hp) (v : V) (d : PyData) : Prop where
  dd : Dd K ok H v d
  far : ∀ a, ok a → a ≠ sysModules
  sh : shB d = true
  dep : d.depth < 40
  sz : sz d ≤ 4000000
  shw : Shw d
  so : PyData.strOk d.shown = true
def sp_right (K : PySem.W.Frag) : Sp := fun vs H Q _ => ∃ (v : V) (d : PyData) (ok : Addr → Prop), vs = [v] ∧ Ask K ok H v d ∧ ∀ H', Same H H' → Q (.bl true) H'
theorem ok_right {f fl fx : Addr} {fd dl dx : FuncData} {k : Nat} (F : Fun K "_law_right" "_law_right" s_law_right f fd)
    (Gl : FnOk P w K mg base CX0 k fl dl ["_law_thing"] (sp_lis K 40)) (gl : mg "_law_is" = some (.ref fl)) (Kl : PySem.W.keepIn K (.ref fl) = true) (bl : Binds K dl ["_law_thing"] [])
    (Gx : FnOk P w K mg base CX0 k fx dx ["thing"] (sp_isx K)) (gx : mg "is_expression" = some (.ref fx)) (Kx : PySem.W.keepIn K (.ref fx) = true) (bx : Binds K dx ["thing"] [])
    (mrepr : mg "repr" = none) : FnG P w K mg base CX0 (k + 1) f fd ["_law_thing"] (sp_right K) := by
  have nd := sc_law_right.nd
  refine ok_g F sc_law_right (fun vs H Q E h => ?_) (fun cdv A outer s H vs Q E hg hr h => ?_)
  · obtain ⟨v, d, ok, rfl, _⟩ := h
    rfl
  obtain ⟨v, d, ok, rfl, a, q⟩ := h
  refine ⟨_, (pss_cons (ps_par (i := 1) (j := 2) rfl nd rfl rfl (by decide) rfl rfl (pa_cons (pe_callB (call_reprA hg hr) (by rfl) mrepr boot_repr (pa_cons (pv 0) pa_nil)) (pa_cons (pe_callB call_reprB (by rfl) mrepr boot_repr (pa_cons (pe_call Gl hr (by rfl) gl Kl bl .nil pass0 (pa_cons (pv 0) pa_nil)) pa_nil)) pa_nil)) (by rfl))
      (pss_one (ps_ret (pe_cmpR (op_eqD hr.units) (pe_lst (pa_cons (pe_callB call_reprB (by rfl) mrepr boot_repr (pa_cons (pe_call Gx hr (by rfl) gx Kx bx .nil pass0 (pa_cons (pv 0) pa_nil)) pa_nil)) (pa_cons (pe_callB call_reprB (by rfl) mrepr boot_repr (pa_cons (pe_call Gx hr (by rfl) gx Kx bx .nil pass0 (pa_cons (pv 0) pa_nil)) pa_nil)) (pa_cons (pe_callB (call_reprA hg hr) (by rfl) mrepr boot_repr (pa_cons (pv 0) pa_nil)) pa_nil)))) (pe_lst (pa_cons (pv 2) (pa_cons (pv 2) (pa_cons (pv 1) pa_nil)))) (nomark _))))), ?_⟩
  refine ⟨v, rfl, v, d, ok, rfl, a.far, a.dd, a.shw, v, rfl, v, d, ok, rfl, a.dd, a.sh, a.dep, a.sz, fun H1 s1 => ⟨_, rfl, ?_⟩⟩
  generalize hb : (PyData.bool (isX d)).shown = t
  have tok : PyData.strOk t = true := hb ▸ bool_ok (isX d)
  refine ⟨_, _, rfl, v, rfl, v, d, ok, rfl, a.dd.keep (KeepO.of s1), a.sh, a.sz, fun H2 s2 => ⟨_, rfl, ?_⟩⟩
  rw [hb]
  have s02 := s1.trans s2
  refine ⟨v, rfl, v, d, ok, rfl, a.dd.keep (KeepO.of s02), a.sh, a.sz, fun H3 s3 => ⟨_, rfl, ?_⟩⟩
  rw [hb]
  have s03 := s02.trans s3
  refine ⟨v, rfl, v, d, ok, rfl, a.far, a.dd.keep (KeepO.of s03), a.shw, small_le (show 3 ≤ 1000 by decide), fun l1 n1 => ⟨.str t, rfl, .str t, rfl, .str d.shown, rfl, small_le (show 3 ≤ 1000 by decide), fun l2 n2 => ?_⟩⟩
  have s4 := same_upd (o := .lst [.str t, .str t, .str d.shown]) n1
  have s5 := same_upd (o := .lst [.str t, .str t, .str d.shown]) n2
  have hS := shaped3 tok tok a.so
  refine ⟨.list [.str t, .str t, .str d.shown], .list [.str t, .str t, .str d.shown], .lst (.inl (.inl (s5 _ _ upd_same))) (.cons (.str _) (.cons (.str _) (.cons (.str _) .nil))), .lst (.inl (.inl upd_same)) (.cons (.str _) (.cons (.str _) (.cons (.str _) .nil))), hS, hS, ?_⟩
  have : PyData.eqv (.list [.str t, .str t, .str d.shown]) (.list [.str t, .str t, .str d.shown]) = true := by simp only [PyData.eqv, PyData.eqvAll, beq_self_eq_true, Bool.and_self]
  rw [this]
  exact q _ (s03.trans (s4.trans s5))
end
end L4

namespace L4
open PySem PySem.Spec PyProof.Rows L2 GR AD RZ WX
/-! ### how long a text is -/
mutual
/-- what its text takes at most -/
def sl : PyData → Nat
  | .tuple ds => sls ds + 3
  | .list ds => sls ds + 3
  | .dict kvs => (PyData.dict kvs).shown.length
  | .str z => (PyData.str z).shown.length
  | .int i => (PyData.int i).shown.length
  | .bool b => (PyData.bool b).shown.length
  | .none => PyData.none.shown.length
def sls : List PyData → Nat
  | [] => 0
  | d :: ds => sl d + 2 + sls ds
end
mutual
theorem shown_sl : ∀ d : PyData, d.shown.length ≤ sl d
  | .tuple ds => by
    have h1 := tupleText_len_le (PyData.shownAll ds)
    have h2 := shown_sls ds
    rw [PyData.shownAll_length] at h1
    simp only [PyData.shown, sl]
    omega
  | .list ds => by
    have h1 := listText_len_le (PyData.shownAll ds)
    have h2 := shown_sls ds
    rw [PyData.shownAll_length] at h1
    simp only [PyData.shown, sl]
    omega
  | .dict kvs => by rw [sl]; omega
  | .str z => by rw [sl]; omega
  | .int i => by rw [sl]; omega
  | .bool b => by rw [sl]; omega
  | .none => by rw [sl]; omega
theorem shown_sls : ∀ ds : List PyData, ((PyData.shownAll ds).map (·.length)).sum + 2 * ds.length ≤ sls ds
  | [] => by simp only [PyData.shownAll, List.map_nil, List.sum_nil, List.length_nil, sls]; omega
  | d :: ds => by
    have := shown_sl d
    have := shown_sls ds
    simp only [PyData.shownAll, List.map_cons, List.sum_cons, List.length_cons, sls]
    omega
end
theorem sls_append : ∀ (xs ys : List PyData), sls (xs ++ ys) = sls xs + sls ys
  | [], ys => by simp only [List.nil_append, sls, Nat.zero_add]
  | x :: xs, ys => by
    have := sls_append xs ys
    simp only [List.cons_append, sls]
    omega
theorem sls_le {b : PyData → Nat} : ∀ {ds : List PyData}, (∀ d, d ∈ ds → sl d + 2 ≤ b d) → sls ds ≤ (ds.map b).sum
  | [], _ => Nat.le_refl _
  | d :: ds, h => by
    have h1 := h d List.mem_cons_self
    have h2 := sls_le fun x hx => h x (List.mem_cons_of_mem _ hx)
    simp only [sls, List.map_cons, List.sum_cons]
    omega
theorem sl_tup (ds : List PyData) : sl (.tuple ds) ≤ sls ds + 3 := by
  rw [sl]
  omega
theorem sl_lst (ds : List PyData) : sl (.list ds) ≤ sls ds + 3 := by
  rw [sl]
  omega
theorem char1 : ∀ c, c < 123 → 97 ≤ c → (Builtin.Str.reprChar 39 c).length = 1 := by decide +kernel
theorem fold_len : ∀ (l : List Nat) (acc : Array Nat), (∀ c, c ∈ l → Low c) → (l.foldl (fun out c => out ++ (Builtin.Str.reprChar 39 c).toArray) acc).size = acc.size + l.length
  | [], acc, _ => rfl
  | c :: l, acc, h => by
    have hc := h c List.mem_cons_self
    have h1 := char1 c (Nat.lt_of_le_of_lt hc.2 (by decide)) hc.1
    have h2 : (Builtin.Str.reprChar 39 c).toArray.size = 1 := by rw [List.size_toArray]; exact h1
    rw [List.foldl_cons, fold_len l _ fun d hd => h d (List.mem_cons_of_mem _ hd), Array.size_append, h2, List.length_cons]
    omega
/-- a name shows as itself within quotes -/
theorem sl_nm {z : Str} (h : Nm z) : sl (.str z) ≤ 10 := by
  obtain ⟨_, h2, h3, _⟩ := h
  have hq : PySem.reprQuote z = 39 := by
    unfold PySem.reprQuote
    rw [if_neg]
    intro e
    rw [Bool.and_eq_true] at e
    have := e.1
    rw [Array.contains_iff_mem] at this
    have := (h3 39 (Array.mem_toList_iff.mpr this)).1
    omega
  rw [sl, PyData.shown_str]
  unfold PySem.reprText
  rw [hq]
  show ((z.cps.foldl (fun out c => out ++ (Builtin.Str.reprChar 39 c).toArray) #[39]).push 39).size ≤ 10
  rw [Array.size_push, ← Array.foldl_toList, fold_len _ _ h3]
  show 1 + z.cps.toList.length + 1 ≤ 10
  omega
theorem int_nat {n : Int} (h1 : -(10 ^ 18) ≤ n) (h2 : n ≤ 10 ^ 18) : n.natAbs ≤ 1000000000000000000 := by omega
theorem int_log {n : Int} (h1 : -(10 ^ 18) ≤ n) (h2 : n ≤ 10 ^ 18) : n.natAbs.log2 < 60 := by
  by_cases e : n.natAbs = 0
  · rw [e]; decide
  · exact (Nat.log2_lt e).mpr (Nat.lt_of_le_of_lt (int_nat h1 h2) (by decide))
theorem sl_int {n : Int} (h1 : -(10 ^ 18) ≤ n) (h2 : n ≤ 10 ^ 18) : sl (.int n) ≤ 20 := by
  have e := int_text_length_le10 (k := 19) (by decide) (Nat.lt_of_le_of_lt (int_nat h1 h2) (by decide : 1000000000000000000 < 10 ^ 19))
  rw [sl, PyData.shown_int, PySem.ofString_length]
  exact e
theorem sl_word : ∀ w, w ∈ (["int", "let", "key", "var", "cell", "if", "+", "-", "*", "<", "=", "at", "count", "sum", "most", "first"] : List Str) → sl (.str w) ≤ 7 := by decide +kernel
/-- how big an expression of depth n may be, shown and in parts -/
def tE : Nat → Nat
  | 0 => 0
  | n + 1 => 6 * tE n + 45
def sE : Nat → Nat
  | 0 => 0
  | n + 1 => 6 * sE n + 4
structure Big (n : Nat) (x : PyData) : Prop where
  len : sl x ≤ tE n
  sz : sz x ≤ sE n
  sh : shB x = true
  shw : x.showable = true
  dep : x.depth ≤ 2 * n
theorem big_all {n : Nat} : ∀ {l : List PyData}, (∀ x, x ∈ l → Big n x) → sls l ≤ (tE n + 2) * l.length ∧ szs l ≤ sE n * l.length ∧ shBs l = true ∧ PyData.showableAll l = true ∧ PyData.depthAll l ≤ 2 * n
  | [], _ => ⟨Nat.le_refl _, Nat.le_refl _, rfl, by simp only [PyData.showableAll], by simp only [PyData.depthAll]; omega⟩
  | x :: l, h => by
    have a := h x List.mem_cons_self
    obtain ⟨b1, b2, b3, b4, b5⟩ := big_all fun y hy => h y (List.mem_cons_of_mem _ hy)
    have a1 := a.len
    have a2 := a.sz
    have a5 := a.dep
    refine ⟨?_, ?_, by rw [shBs, a.sh, b3]; rfl, by simp only [PyData.showableAll, a.shw, b4, Bool.and_self], by simp only [PyData.depthAll]; omega⟩
    · rw [sls, List.length_cons, Nat.mul_add, Nat.mul_one]
      omega
    · rw [szs, List.length_cons, Nat.mul_add, Nat.mul_one]
      omega
end L4

namespace L4
open PySem PySem.Spec PyProof.Rows L2 GR AD RZ WX
theorem nm_so {z : Str} (h : Nm z) : PyData.strOk z = true := so_iff.mpr fun c hc => Nat.lt_of_le_of_lt (h.2.2.1 c hc).2 (by decide)
theorem big_str {z : Str} (h : Nm z) : sl (.str z) ≤ 10 ∧ shB (.str z) = true := by
  refine ⟨sl_nm h, ?_⟩
  rw [shB, nm_so h, Bool.and_true]
  refine decide_eq_true ?_
  have := h.2.1
  rw [Array.length_toList] at this
  show z.cps.size ≤ 1000
  omega
theorem word_sh : ∀ w, w ∈ (["int", "let", "key", "var", "cell", "if", "+", "-", "*", "<", "=", "at", "count", "sum", "most", "first"] : List Str) → shB (.str w) = true := by decide +kernel
theorem showable_int {i : Int} (h1 : -(10 ^ 18) ≤ i) (h2 : i ≤ 10 ^ 18) : (PyData.int i).showable = true := by
  have := int_log h1 h2
  simp only [PyData.showable]
  exact decide_eq_true (by omega)
theorem Ex.big {zs : List Str} (hz : ∀ z, z ∈ zs → Nm z) {n : Nat} {x : PyData} (h : Ex zs n x) : Big n x := by
  induction h with
  | leaf n x h =>
    have ht : tE (n + 1) = 6 * tE n + 45 := rfl
    have hs : sE (n + 1) = 6 * sE n + 4 := rfl
    cases h with
    | int i h1 h2 =>
      have a1 := sl_word "int" (by decide)
      have a2 := sl_int h1 h2
      have a3 := sl_tup [.str "int", .int i]
      simp only [sls] at a3
      refine ⟨by omega, by simp only [sz, szs]; omega, by simp only [shB, shBs]; decide +kernel, by simp only [PyData.showable, PyData.showableAll, showable_int h1 h2, Bool.and_self]; exact Bool.and_true _ ▸ showable_int h1 h2, by simp only [PyData.depth, PyData.depthAll]; omega⟩
    | let_ i h1 h2 =>
      have a1 := sl_word "let" (by decide)
      have a2 := sl_int (n := i) (by omega) (by omega)
      have a3 := sl_tup [.str "let", .int i]
      simp only [sls] at a3
      refine ⟨by omega, by simp only [sz, szs]; omega, by simp only [shB, shBs]; decide +kernel, by simp only [PyData.showable, PyData.showableAll]; exact Bool.and_true _ ▸ showable_int (i := i) (by omega) (by omega), by simp only [PyData.depth, PyData.depthAll]; omega⟩
    | key =>
      have a1 := sl_word "key" (by decide)
      have a3 := sl_tup [.str "key"]
      simp only [sls] at a3
      refine ⟨by omega, by simp only [sz, szs]; omega, by decide +kernel, by simp only [PyData.showable, PyData.showableAll, Bool.and_self], by simp only [PyData.depth, PyData.depthAll]; omega⟩
    | var z h1 =>
      have a1 := sl_word "var" (by decide)
      obtain ⟨a2, a4⟩ := big_str (hz z h1)
      have a3 := sl_tup [.str "var", .str z]
      simp only [sls] at a3
      refine ⟨by omega, by simp only [sz, szs]; omega, by rw [shB, shBs, shBs, shBs, a4, word_sh "var" (by decide)]; rfl, by simp only [PyData.showable, PyData.showableAll, Bool.and_self], by simp only [PyData.depth, PyData.depthAll]; omega⟩
  | cell n t v x h1 h2 _ ih =>
    have ht : tE (n + 1) = 6 * tE n + 45 := rfl
    have hs : sE (n + 1) = 6 * sE n + 4 := rfl
    have a1 := sl_word "cell" (by decide)
    obtain ⟨b1, b2⟩ := big_str (hz t h1)
    obtain ⟨c1, c2⟩ := big_str (hz v h2)
    have a3 := sl_tup [.str "cell", .str t, x, .str v]
    simp only [sls] at a3
    have i1 := ih.len
    have i2 := ih.sz
    have i5 := ih.dep
    refine ⟨by omega, by simp only [sz, szs]; omega, by rw [shB, shBs, shBs, shBs, shBs, shBs, b2, c2, ih.sh, word_sh "cell" (by decide)]; rfl, by simp only [PyData.showable, PyData.showableAll, ih.shw, Bool.and_self], by simp only [PyData.depth, PyData.depthAll]; omega⟩
  | op n o x y h1 _ _ ih1 ih2 =>
    have ht : tE (n + 1) = 6 * tE n + 45 := rfl
    have hs : sE (n + 1) = 6 * sE n + 4 := rfl
    have hw : o ∈ (["int", "let", "key", "var", "cell", "if", "+", "-", "*", "<", "=", "at", "count", "sum", "most", "first"] : List Str) := by
      simp only [opws, List.mem_cons, List.not_mem_nil, or_false] at h1
      rcases h1 with rfl | rfl | rfl | rfl | rfl | rfl <;> decide
    have a1 := sl_word o hw
    have a3 := sl_tup [.str o, x, y]
    simp only [sls] at a3
    have i1 := ih1.len
    have j1 := ih2.len
    have i2 := ih1.sz
    have j2 := ih2.sz
    have i5 := ih1.dep
    have j5 := ih2.dep
    refine ⟨by omega, by simp only [sz, szs]; omega, by rw [shB, shBs, shBs, shBs, shBs, ih1.sh, ih2.sh, word_sh o hw]; rfl, by simp only [PyData.showable, PyData.showableAll, ih1.shw, ih2.shw, Bool.and_self], by simp only [PyData.depth, PyData.depthAll]; omega⟩
  | iff n x y z _ _ _ ih1 ih2 ih3 =>
    have ht : tE (n + 1) = 6 * tE n + 45 := rfl
    have hs : sE (n + 1) = 6 * sE n + 4 := rfl
    have a1 := sl_word "if" (by decide)
    have a3 := sl_tup [.str "if", x, y, z]
    simp only [sls] at a3
    have i1 := ih1.len
    have j1 := ih2.len
    have k1 := ih3.len
    have i2 := ih1.sz
    have j2 := ih2.sz
    have k2 := ih3.sz
    have i5 := ih1.dep
    have j5 := ih2.dep
    have k5 := ih3.dep
    refine ⟨by omega, by simp only [sz, szs]; omega, by rw [shB, shBs, shBs, shBs, shBs, shBs, ih1.sh, ih2.sh, ih3.sh, word_sh "if" (by decide)]; rfl, by simp only [PyData.showable, PyData.showableAll, ih1.shw, ih2.shw, ih3.shw, Bool.and_self], by simp only [PyData.depth, PyData.depthAll]; omega⟩
  | agg n o t xs ys h1 h2 h3 _ _ ih1 ih2 =>
    have ht : tE (n + 1) = 6 * tE n + 45 := rfl
    have hs : sE (n + 1) = 6 * sE n + 4 := rfl
    have hw : o ∈ (["int", "let", "key", "var", "cell", "if", "+", "-", "*", "<", "=", "at", "count", "sum", "most", "first"] : List Str) ∧ ys.length ≤ 4 := by
      simp only [aggs, List.mem_cons, List.not_mem_nil, or_false, Prod.mk.injEq] at h1
      rcases h1 with ⟨rfl, h⟩ | ⟨rfl, h⟩ | ⟨rfl, h⟩ | ⟨rfl, h⟩ <;> exact ⟨by decide, by omega⟩
    have a1 := sl_word o hw.1
    obtain ⟨b1, b2⟩ := big_str (hz t h2)
    obtain ⟨c1, c2, c3, c4, c5⟩ := big_all ih1
    obtain ⟨d1, d2, d3, d4, d5⟩ := big_all ih2
    have a3 := sl_tup (.str o :: .str t :: .tuple xs :: ys)
    have a4 := sl_tup xs
    simp only [sls] at a3
    have m1 : (tE n + 2) * xs.length ≤ (tE n + 2) * 2 := Nat.mul_le_mul_left _ h3
    have m2 : (tE n + 2) * ys.length ≤ (tE n + 2) * 4 := Nat.mul_le_mul_left _ hw.2
    have m3 : sE n * xs.length ≤ sE n * 2 := Nat.mul_le_mul_left _ h3
    have m4 : sE n * ys.length ≤ sE n * 4 := Nat.mul_le_mul_left _ hw.2
    refine ⟨by omega, by simp only [sz, szs]; omega, by rw [shB, shBs, shBs, shBs, b2, d3, word_sh o hw.1, shB, c3]; rfl, by simp only [PyData.showable, PyData.showableAll, c4, d4, Bool.and_self], by simp only [PyData.depth, PyData.depthAll]; omega⟩
end L4

namespace L4
open PySem PySem.Spec PyProof.Rows L2 GR AD RZ WX
/-- the one dict with something in it that the law makes -/
abbrev oneD : PyData := .dict [(.str "int", .int 1)]
def soK : List (PyData × PyData) → Bool
  | [] => true
  | [(.str z, .int i)] => decide (z = "int") && decide (i = 1)
  | _ => false
mutual
/-- its texts are of signs there are -/
def soB : PyData → Bool
  | .str x => PyData.strOk x
  | .list xs => soBs xs
  | .tuple xs => soBs xs
  | .dict kvs => soK kvs
  | _ => true
def soBs : List PyData → Bool
  | [] => true
  | x :: xs => soB x && soBs xs
end
theorem so_nil : PyData.strOk (PyData.dict []).shown = true := by decide +kernel
theorem so_one : PyData.strOk oneD.shown = true := by decide +kernel
theorem so_dict {kvs : List (PyData × PyData)} (h : soK kvs = true) : SO (PyData.dict kvs).shown := by
  unfold soK at h
  split at h
  · exact so_iff.mp so_nil
  · rw [Bool.and_eq_true, decide_eq_true_eq, decide_eq_true_eq] at h
    obtain ⟨rfl, rfl⟩ := h
    exact so_iff.mp so_one
  · cases h
mutual
theorem so_shown : ∀ d : PyData, soB d = true → SO d.shown
  | .none, _ => by rw [PyData.shown_none]; decide
  | .bool b, _ => by
    rw [PyData.shown_bool]
    cases b <;> decide
  | .int i, _ => shown_so (.int i) (by simp only [PyData.canLay0])
  | .str x, h => shown_so (.str x) (by rw [soB] at h; simp only [PyData.canLay0, h])
  | .list xs, h => by
    rw [PyData.shown_list]
    exact so_append (so_append (by decide) (so_join (by decide) (so_shownAll xs (by rw [soB] at h; exact h)))) (by decide)
  | .tuple xs, h => by
    rw [PyData.shown_tuple]
    refine so_append (so_append (by decide) (so_join (by decide) (so_shownAll xs (by rw [soB] at h; exact h)))) ?_
    split <;> decide
  | .dict kvs, h => so_dict (by rw [soB] at h; exact h)
theorem so_shownAll : ∀ xs : List PyData, soBs xs = true → ∀ t, t ∈ PyData.shownAll xs → SO t
  | [], _, t, ht => by simp only [PyData.shownAll, List.not_mem_nil] at ht
  | x :: xs, h, t, ht => by
    rw [soBs, Bool.and_eq_true] at h
    simp only [PyData.shownAll, List.mem_cons] at ht
    rcases ht with rfl | ht
    · exact so_shown x h.1
    · exact so_shownAll xs h.2 t ht
end
end L4

namespace L4
open PySem PySem.Spec PyProof.Rows L2 GR AD RZ WX
/-! ### bounds of what may be asked about -/
/-- what one thing keeps -/
structure El (p : Nat) (x : PyData) : Prop where
  dep : x.depth ≤ p
  sh : shB x = true
  shw : x.showable = true
  so : soB x = true
structure Bd (l s p : Nat) (x : PyData) : Prop extends El p x where
  len : sl x ≤ l
  sz : sz x ≤ s
structure Bds (l s p : Nat) (xs : List PyData) : Prop where
  els : ∀ y, y ∈ xs → El p y
  len : sls xs ≤ l
  sz : szs xs ≤ s
theorem El.mono {p q : Nat} {x : PyData} (h : El p x) (e : p ≤ q) : El q x := ⟨Nat.le_trans h.dep e, h.sh, h.shw, h.so⟩
theorem Bd.mono {l s p l' s' p' : Nat} {x : PyData} (h : Bd l s p x) (hl : l ≤ l') (hs : s ≤ s') (hp : p ≤ p') : Bd l' s' p' x := ⟨h.toEl.mono hp, Nat.le_trans h.len hl, Nat.le_trans h.sz hs⟩
theorem depthAll_of {p : Nat} : ∀ {xs : List PyData}, (∀ y, y ∈ xs → El p y) → PyData.depthAll xs ≤ p
  | [], _ => by simp only [PyData.depthAll]; omega
  | x :: xs, h => by
    have h1 := (h x List.mem_cons_self).dep
    have h2 := depthAll_of fun y hy => h y (List.mem_cons_of_mem _ hy)
    simp only [PyData.depthAll]
    omega
theorem shBs_of {p : Nat} : ∀ {xs : List PyData}, (∀ y, y ∈ xs → El p y) → shBs xs = true
  | [], _ => by rw [shBs]
  | x :: xs, h => by rw [shBs, (h x List.mem_cons_self).sh, shBs_of fun y hy => h y (List.mem_cons_of_mem _ hy)]; rfl
theorem shw_of {p : Nat} : ∀ {xs : List PyData}, (∀ y, y ∈ xs → El p y) → PyData.showableAll xs = true
  | [], _ => by simp only [PyData.showableAll]
  | x :: xs, h => by simp only [PyData.showableAll, (h x List.mem_cons_self).shw, shw_of fun y hy => h y (List.mem_cons_of_mem _ hy), Bool.and_self]
theorem soBs_of {p : Nat} : ∀ {xs : List PyData}, (∀ y, y ∈ xs → El p y) → soBs xs = true
  | [], _ => by rw [soBs]
  | x :: xs, h => by rw [soBs, (h x List.mem_cons_self).so, soBs_of fun y hy => h y (List.mem_cons_of_mem _ hy)]; rfl
theorem El.tup {p : Nat} {xs : List PyData} (h : ∀ y, y ∈ xs → El p y) : El (p + 1) (.tuple xs) := by
  have := depthAll_of h
  exact ⟨by simp only [PyData.depth]; omega, by rw [shB]; exact shBs_of h, by simp only [PyData.showable]; exact shw_of h, by rw [soB]; exact soBs_of h⟩
theorem El.lst {p : Nat} {xs : List PyData} (h : ∀ y, y ∈ xs → El p y) : El (p + 1) (.list xs) := by
  have := depthAll_of h
  exact ⟨by simp only [PyData.depth]; omega, rfl, by simp only [PyData.showable]; exact shw_of h, by rw [soB]; exact soBs_of h⟩
theorem Bds.tup {l s p : Nat} {xs : List PyData} (h : Bds l s p xs) : Bd (l + 3) (s + 1) (p + 1) (.tuple xs) :=
  ⟨El.tup h.els, by rw [sl]; have := h.len; omega, by rw [L4.sz]; have := h.sz; omega⟩
theorem Bds.lst {l s p : Nat} {xs : List PyData} (h : Bds l s p xs) : Bd (l + 3) (s + 1) (p + 1) (.list xs) :=
  ⟨El.lst h.els, by rw [sl]; have := h.len; omega, by show 1 ≤ s + 1; omega⟩
theorem els_inv {p : Nat} : ∀ {xs : List PyData}, PyData.depthAll xs ≤ p → shBs xs = true → PyData.showableAll xs = true → soBs xs = true → ∀ y, y ∈ xs → El p y
  | [], _, _, _, _, y, hy => (nomatch hy)
  | x :: xs, h1, h2, h3, h4, y, hy => by
    simp only [PyData.depthAll] at h1
    simp only [PyData.showableAll, Bool.and_eq_true] at h3
    rw [shBs, Bool.and_eq_true] at h2
    rw [soBs, Bool.and_eq_true] at h4
    rcases List.mem_cons.mp hy with rfl | hy
    · exact ⟨by omega, h2.1, h3.1, h4.1⟩
    · exact els_inv (by omega) h2.2 h3.2 h4.2 y hy
/-- what a tuple's items keep -/
theorem Bd.inv {l s p : Nat} {xs : List PyData} (h : Bd l s (p + 1) (.tuple xs)) : Bds (l - 3) (s - 1) p xs := by
  have h1 := h.dep
  have h2 := h.sh
  have h3 := h.shw
  have h4 := h.so
  have h5 := h.len
  have h6 := h.sz
  simp only [PyData.depth] at h1
  simp only [PyData.showable] at h3
  rw [shB] at h2
  rw [soB] at h4
  rw [sl] at h5
  rw [L4.sz] at h6
  exact ⟨els_inv (by omega) h2 h3 h4, by omega, by omega⟩
theorem Bd.len3 {l s p : Nat} {xs : List PyData} (h : Bd l s p (.tuple xs)) : 3 ≤ l ∧ 1 ≤ s ∧ 1 ≤ p := by
  have h1 := h.dep
  have h5 := h.len
  have h6 := h.sz
  simp only [PyData.depth] at h1
  rw [sl] at h5
  rw [L4.sz] at h6
  omega
theorem cut_at {α : Type} {xs : List α} {i : Nat} {x : α} (h : xs[i]? = some x) : xs = xs.take i ++ x :: xs.drop (i + 1) := by
  have hi := (List.getElem?_eq_some_iff.mp h).1
  have e : xs[i] = x := (List.getElem?_eq_some_iff.mp h).2
  have := List.take_append_drop i xs
  rw [List.drop_eq_getElem_cons hi, e] at this
  exact this.symm
/-- what the items of one list give to another -/
theorem Bds.sub {l s p : Nat} {A B xs : List PyData} (h : Bds l s p xs) (e : xs = A ++ B) : Bds l s p A ∧ Bds l s p B ∧ sls A + sls B ≤ l ∧ szs A + szs B ≤ s := by
  subst e
  have h1 := h.len
  have h2 := h.sz
  rw [sls_append] at h1
  rw [szs_append] at h2
  exact ⟨⟨fun y hy => h.els y (List.mem_append_left _ hy), by omega, by omega⟩, ⟨fun y hy => h.els y (List.mem_append_right _ hy), by omega, by omega⟩, h1, h2⟩
/-- one item, and what lies around it -/
structure Around1 (l s p : Nat) (A : List PyData) (x : PyData) (B : List PyData) : Prop where
  ela : ∀ y, y ∈ A → El p y
  elx : El p x
  elb : ∀ y, y ∈ B → El p y
  len : sls A + (sl x + 2) + sls B ≤ l
  sz : szs A + sz x + szs B ≤ s
theorem Bds.around {l s p i : Nat} {xs : List PyData} {x : PyData} (h : Bds l s p xs) (hx : xs[i]? = some x) : Around1 l s p (xs.take i) x (xs.drop (i + 1)) := by
  have e := cut_at hx
  have h1 := h.len
  have h2 := h.sz
  have h3 := h.els
  rw [e] at h1 h2
  rw [sls_append, sls] at h1
  rw [szs_append, szs] at h2
  exact ⟨fun y hy => h3 y (List.mem_of_mem_take hy), h3 x (List.mem_of_getElem? hx), fun y hy => h3 y (List.mem_of_mem_drop hy), by omega, by omega⟩
theorem mem3 {P : PyData → Prop} {A B : List PyData} (ha : ∀ y, y ∈ A → P y) (hb : ∀ y, y ∈ B → P y) : ∀ y, y ∈ A ++ B → P y := fun y hy => by
  rcases List.mem_append.mp hy with hy | hy
  · exact ha y hy
  · exact hb y hy
theorem mem1 {P : PyData → Prop} {x : PyData} (h : P x) : ∀ y, y ∈ [x] → P y := fun y hy => by
  rw [List.mem_singleton.mp hy]
  exact h
/-! what a bend makes of it -/
section
variable {l s p : Nat} {A B : List PyData} {x : PyData}
theorem bend_out (h : Around1 l s p A x B) : Bds l s p (A ++ B) := by
  have h1 := h.len
  have h2 := h.sz
  exact ⟨mem3 h.ela h.elb, by rw [sls_append]; omega, by rw [szs_append]; omega⟩
theorem bend_twice (h : Around1 l s p A x B) : Bds (2 * l) (2 * s) p ((A ++ [x]) ++ (x :: B)) := by
  have h1 := h.len
  have h2 := h.sz
  refine ⟨mem3 (mem3 h.ela (mem1 h.elx)) (fun y hy => ?_), ?_, ?_⟩
  · rcases List.mem_cons.mp hy with rfl | hy
    · exact h.elx
    · exact h.elb y hy
  · rw [sls_append, sls_append, sls, sls, sls]; omega
  · rw [szs_append, szs_append, szs, szs, szs]; omega
theorem bend_put {y : PyData} {m n q : Nat} (h : Around1 l s p A x B) (hy : Bd (2 * sl x + m) (2 * L4.sz x + n) (p + q) y) : Bds (2 * l + m) (2 * s + n) (p + q) ((A ++ [y]) ++ B) := by
  have h1 := h.len
  have h2 := h.sz
  have h3 := hy.len
  have h4 := hy.sz
  refine ⟨mem3 (mem3 (fun y hy => (h.ela y hy).mono (by omega)) (mem1 hy.toEl)) (fun y hy => (h.elb y hy).mono (by omega)), ?_, ?_⟩
  · rw [sls_append, sls_append, sls, sls]; omega
  · rw [szs_append, szs_append, szs, szs]; omega
end
/-- two items changed about -/
theorem bend_turn {l s p i : Nat} {xs : List PyData} (h : Bds l s p xs) : Bds l s p ((xs.take i ++ ((xs.drop i).take 2).reverse) ++ xs.drop (i + 2)) := by
  have e1 : xs = xs.take i ++ ((xs.drop i).take 2 ++ xs.drop (i + 2)) := by
    rw [← List.drop_drop, List.take_append_drop, List.take_append_drop]
  have h1 := h.len
  have h2 := h.sz
  have h3 := h.els
  rw [e1] at h1 h2
  rw [sls_append, sls_append] at h1
  rw [szs_append, szs_append] at h2
  have r1 : ∀ zs : List PyData, sls zs.reverse = sls zs := fun zs => by
    induction zs with
    | nil => rfl
    | cons z zs ih => rw [List.reverse_cons, sls_append, ih, sls, sls, sls]; omega
  have r2 : ∀ zs : List PyData, szs zs.reverse = szs zs := fun zs => by
    induction zs with
    | nil => rfl
    | cons z zs ih => rw [List.reverse_cons, szs_append, ih, szs, szs, szs]; omega
  refine ⟨mem3 (mem3 (fun y hy => h3 y (List.mem_of_mem_take hy)) (fun y hy => ?_)) (fun y hy => h3 y (List.mem_of_mem_drop hy)), ?_, ?_⟩
  · exact h3 y (List.mem_of_mem_drop (List.mem_of_mem_take (List.mem_reverse.mp hy)))
  · rw [sls_append, sls_append, r1]; omega
  · rw [szs_append, szs_append, r2]; omega
/-- what a term is -/
theorem Ex.so {zs : List Str} (hz : ∀ z, z ∈ zs → Nm z) {n : Nat} {x : PyData} (h : Ex zs n x) : soB x = true := by
  have hs : ∀ z, z ∈ zs → PyData.strOk z = true := fun z h => nm_so (hz z h)
  have hw : ∀ w, w ∈ (["int", "let", "key", "var", "cell", "if", "+", "-", "*", "<", "=", "at", "count", "sum", "most", "first"] : List Str) → PyData.strOk w = true := by decide +kernel
  induction h with
  | leaf n x h =>
    cases h with
    | int i h1 h2 => simp only [soB, soBs, hw "int" (by decide), Bool.and_self]
    | let_ i h1 h2 => simp only [soB, soBs, hw "let" (by decide), Bool.and_self]
    | key => simp only [soB, soBs, hw "key" (by decide), Bool.and_self]
    | var z h1 => simp only [soB, soBs, hw "var" (by decide), hs z h1, Bool.and_self]
  | cell n t v x h1 h2 _ ih => simp only [soB, soBs, hw "cell" (by decide), hs t h1, hs v h2, ih, Bool.and_self]
  | op n o x y h1 _ _ ih1 ih2 =>
    have : PyData.strOk o = true := by
      simp only [opws, List.mem_cons, List.not_mem_nil, or_false] at h1
      rcases h1 with rfl | rfl | rfl | rfl | rfl | rfl <;> exact hw _ (by decide)
    simp only [soB, soBs, this, ih1, ih2, Bool.and_self]
  | iff n x y z _ _ _ ih1 ih2 ih3 => simp only [soB, soBs, hw "if" (by decide), ih1, ih2, ih3, Bool.and_self]
  | agg n o t xs ys h1 h2 h3 _ _ ih1 ih2 =>
    have : PyData.strOk o = true := by
      simp only [aggs, List.mem_cons, List.not_mem_nil, or_false, Prod.mk.injEq] at h1
      rcases h1 with ⟨rfl, _⟩ | ⟨rfl, _⟩ | ⟨rfl, _⟩ | ⟨rfl, _⟩ <;> exact hw _ (by decide)
    have all : ∀ l : List PyData, (∀ x, x ∈ l → soB x = true) → soBs l = true := fun l => by
      induction l with
      | nil => intro _; rw [soBs]
      | cons a l ih => intro h; rw [soBs, h a List.mem_cons_self, ih fun x hx => h x (List.mem_cons_of_mem _ hx)]; rfl
    simp only [soB, soBs, this, hs t h2, all xs ih1, all ys ih2, Bool.and_self]
theorem Ex.bd {zs : List Str} (hz : ∀ z, z ∈ zs → Nm z) {n : Nat} {x : PyData} (h : Ex zs n x) : Bd (tE n) (sE n) (2 * n) x := by
  have b := h.big hz
  exact ⟨⟨b.dep, b.sh, b.shw, h.so hz⟩, b.len, b.sz⟩
/-- so it may be asked about -/
theorem Bd.ask {K : PySem.W.Frag} {ok : Addr → Prop} {H : Hp} {v : V} {l s p : Nat} {x : PyData} (h : Bd l s p x) (hd : Dd K ok H v x) (hf : ∀ a, ok a → a ≠ sysModules) (hl : l ≤ 16777216) (hs : s ≤ 4000000) (hp : p < 40) : Ask K ok H v x :=
  ⟨hd, hf, h.sh, Nat.lt_of_le_of_lt h.dep hp, Nat.le_trans h.sz hs, ⟨h.shw, Nat.le_trans h.dep (by omega), Nat.le_trans (shown_sl x) (Nat.le_trans h.len (Nat.le_trans hl (by decide)))⟩, so_iff.mpr (so_shown x h.so)⟩
end L4

namespace L4
open PySem PySem.Spec PyProof.Rows L2 GR AD RZ WX
/-- the value of one that lies nowhere -/
def vOf : PyData → V
  | .bool b => .bl b
  | .int i => .int i
  | .str z => .str z
  | _ => .non
def isAtom : PyData → Bool
  | .none => true
  | .bool _ => true
  | .int _ => true
  | .str _ => true
  | _ => false
theorem dd_atoms {K : PySem.W.Frag} {ok : Addr → Prop} {H : Hp} : ∀ {ds : List PyData}, ds.all isAtom = true → DdAll K ok H (ds.map vOf) ds
  | [], _ => .nil
  | d :: ds, h => by
    rw [List.all_cons, Bool.and_eq_true] at h
    refine .cons ?_ (dd_atoms h.2)
    cases d with
    | none => exact .non
    | bool b => exact .bl b
    | int i => exact .int i
    | str z => exact .str z
    | _ => exact absurd h.1 (by simp [isAtom])
theorem dd_mem {K : PySem.W.Frag} {ok : Addr → Prop} {H : Hp} {v : V} : ∀ {vs : List V} {ds : List PyData}, DdAll K ok H vs ds → v ∈ vs → ∃ d, d ∈ ds ∧ Dd K ok H v d
  | _, _, .nil, h => (nomatch h)
  | _, _, .cons a t, h => by
    rcases List.mem_cons.mp h with rfl | h
    · exact ⟨_, List.mem_cons_self, a⟩
    · obtain ⟨d, hd, e⟩ := dd_mem t h
      exact ⟨d, List.mem_cons_of_mem _ hd, e⟩
/-- a new tuple of atoms -/
theorem dd_new {K : PySem.W.Frag} {ok : Addr → Prop} {H : Hp} {p : Addr} (ds : List PyData) (h : ds.all isAtom = true) : Dd K ok (upd H p (.tup (ds.map vOf))) (.ref p) (.tuple ds) := .tup (.inl (.inl upd_same)) (dd_atoms h)
/-- not the deck's, not where the modules are -/
def Off (d c : Addr) : Addr → Prop := fun b => b ≠ d ∧ b ≠ c ∧ b ≠ sysModules
theorem Keep.off {d c : Addr} {H H' : Hp} {N : Int} (k : Keep d c H H') (D : Deck H d c N) : KeepO (Off d c) H H' := by
  have t := k.t D
  exact ⟨t.1, t.2, fun b o h e => k b o h.1 h.2.1 e⟩
abbrev od1 : List PyData := [.none, .bool true, .bool false, .int 0, .int 1, .int (10 ^ 18 + 1), .int (0 - 10 ^ 18 - 1), .int (10 ^ 39), .int (-1), .str "", .str "a", .str "key", .str "in", .str "abcdefgh", .str "abcdefghi"]
abbrev od2a : List PyData := [.str "A", .str "a1", .str "a b", .str "count", .str "let", .str "+", .str "/", .str "int"]
abbrev od2b : List PyData := [.tuple [], .tuple [.str "key"], .tuple [.str "int", .bool true], .tuple [.str "int", .int (10 ^ 18)]]
abbrev od3 : List PyData := [.tuple [.str "int", .int (10 ^ 18 + 1)], .tuple [.str "let", .int (-1)], .tuple [.str "let", .bool false], .tuple [.str "var", .str "if"], .tuple [.str "key", .int 0], .tuple [.str "var"], .list [], .dict []]
abbrev od4 : List PyData := [.list [.tuple [.str "key"]]]
abbrev od5 : List PyData := [.tuple [.str "cell", .str "a", .tuple [.str "int", .int 1], .str "b"], .tuple [.str "at", .tuple [.str "int", .int 1]], .tuple [.str "int", .str "1"], oneD]
abbrev odd : List PyData := od1 ++ (od2a ++ od2b) ++ od3 ++ od4 ++ od5
def bdB (l s p : Nat) (x : PyData) : Bool := decide (x.depth ≤ p) && (shB x && (x.showable && (soB x && (decide (sl x ≤ l) && decide (sz x ≤ s)))))
theorem bd_of {l s p : Nat} {x : PyData} (h : bdB l s p x = true) : Bd l s p x := by
  unfold bdB at h
  simp only [Bool.and_eq_true, decide_eq_true_eq] at h
  obtain ⟨h1, h2, h3, h4, h5, h6⟩ := h
  exact ⟨⟨h1, h2, h3, h4⟩, h5, h6⟩
theorem odd_bd : ∀ x, x ∈ odd → Bd 60 8 3 x := by
  have : odd.all (bdB 60 8 3) = true := by decide +kernel
  intro x hx
  exact bd_of (List.all_eq_true.mp this x hx)
end L4

namespace L4
open PySem PySem.Spec PyProof.Rows L2 GR AD RZ WX
theorem dd_newM {K : PySem.W.Frag} {ok : Addr → Prop} {H : Hp} {p : Addr} (m : H p = none) (ds : List PyData) (h : ds.all isAtom = true) : Dd K ok (upd H p (.tup (ds.map vOf))) (.ref p) (.tuple ds) := .tup (.inl (.inl upd_same)) (dd_atoms h)
theorem dd_tupM {K : PySem.W.Frag} {ok : Addr → Prop} {H : Hp} {p : Addr} {xs : List V} {ds : List PyData} (m : H p = none) (h : DdAll K ok (upd H p (.tup xs)) xs ds) : Dd K ok (upd H p (.tup xs)) (.ref p) (.tuple ds) := .tup (.inl (.inl upd_same)) h
theorem dd_lstM {K : PySem.W.Frag} {ok : Addr → Prop} {H : Hp} {p : Addr} {xs : List V} {ds : List PyData} (m : H p = none) (o : ok p) (h : DdAll K ok (upd H p (.lst xs)) xs ds) : Dd K ok (upd H p (.lst xs)) (.ref p) (.list ds) := .lst upd_same o h
theorem dd_dkM {K : PySem.W.Frag} {ok : Addr → Prop} {H : Hp} {p : Addr} {kvs : List (Key × V)} {ds : List PyData} (m : H p = none) (o : ok p) (h : DdAll K ok (upd H p (.dK kvs)) (kvs.map (·.2)) ds) : Dd K ok (upd H p (.dK kvs)) (.ref p) (.dict ((kvs.map fun q => keyD q.1).zip ds)) := .dk upd_same o h
theorem dd_dkM2 {K : PySem.W.Frag} {ok : Addr → Prop} {H : Hp} {p : Addr} {o : HO} {kvs : List (Key × V)} {ds : List PyData} (m : H p = none) (a : ok p) (h : DdAll K ok (upd (upd H p o) p (.dK kvs)) (kvs.map (·.2)) ds) : Dd K ok (upd (upd H p o) p (.dK kvs)) (.ref p) (.dict ((kvs.map fun q => keyD q.1).zip ds)) := .dk upd_same a h
theorem same_upd2 {H : Hp} {p : Addr} {o o' : HO} (h : H p = none) : Same H (upd (upd H p o) p o') := fun b x e => by
  rw [upd_ne (ne_of_none e h), upd_ne (ne_of_none e h)]
  exact e
section
variable {P : Program} {w : World} {K : PySem.W.Frag} {mg : Str → Option Value} {base : Heap}
abbrev s_law_odd : Stmt := topS 29
theorem sc_law_odd : FnScope ["_law_deck_here", "_law_far", "_law_some"] ["_law_deck_here"] (defScope s_law_odd) := ⟨rfl, rfl, rfl, by decide +kernel, rfl, by decide +kernel, by decide +kernel⟩
def sp_odd (K : PySem.W.Frag) : Sp := fun vs H Q _ => ∃ (d c : Addr) (N : Int), vs = [.ref d] ∧ Deck H d c N ∧ N < 2 ^ 60 ∧ ∀ H' v x, Keep d c H H' → Deck H' d c (N + 1) → Dd K (Off d c) H' v x → x ∈ odd → Q v H'
theorem ok_odd {f fp : Addr} {fd dp : FuncData} {k : Nat} (F : Fun K "_law_odd" "_law_odd" s_law_odd f fd) (G : FnOk P w K mg base CX0 k fp dp ["_law_deck_here", "_law_some"] (sp_pick K))
    (g : mg "_law_pick" = some (.ref fp)) (Kf : PySem.W.keepIn K (.ref fp) = true) (b : Binds K dp ["_law_deck_here", "_law_some"] []) :
    FnOk P w K mg base CX0 (k + 1) f fd ["_law_deck_here"] (sp_odd K) := by
  have nd := sc_law_odd.nd
  refine F.ok sc_law_odd (fun vs H Q E h => ?_) (fun cdv A outer s H vs Q E hr h => ?_)
  · obtain ⟨d, c, N, rfl, _⟩ := h
    rfl
  obtain ⟨d, c, N, rfl, D, hN, q⟩ := h
  refine ⟨_, (pss_cons (ps_set (i := 1) nd rfl (.inl rfl) (pe_op op_pow pe_int pe_int))
      (Evl.pss_cut (ps_set (i := 2) nd rfl (.inl rfl) (pe_lst (pa_cons pe_non (pa_cons pe_bl (pa_cons pe_bl (pa_cons pe_int (pa_cons pe_int (pa_cons (pe_op op_add (pv 1) pe_int) (pa_cons (pe_op op_sub (pe_op op_sub pe_int (pv 1)) pe_int) (pa_cons (pe_op op_pow pe_int pe_int) (pa_cons (pe_un un_neg pe_int) (pa_cons pe_str (pa_cons pe_str (pa_cons pe_str (pa_cons pe_str (pa_cons pe_str (pa_cons pe_str pa_nil)))))))))))))))))
      (Evl.pss_cut (ps_set (i := 2) nd rfl (.inl rfl) (pe_op op_cat (pv 2) (pe_lst (pa_cons pe_str (pa_cons pe_str (pa_cons pe_str (pa_cons pe_str (pa_cons pe_str (pa_cons pe_str (pa_cons pe_str (pa_cons pe_str (pa_cons (pe_tup pa_nil) (pa_cons (pe_tup (pa_cons pe_str pa_nil)) (pa_cons (pe_tup (pa_cons pe_str (pa_cons pe_bl pa_nil))) (pa_cons (pe_tup (pa_cons pe_str (pa_cons (pv 1) pa_nil))) pa_nil)))))))))))))))
      (Evl.pss_cut (ps_set (i := 2) nd rfl (.inl rfl) (pe_op op_cat (pv 2) (pe_lst (pa_cons (pe_tup (pa_cons pe_str (pa_cons (pe_op op_add (pv 1) pe_int) pa_nil))) (pa_cons (pe_tup (pa_cons pe_str (pa_cons (pe_un un_neg pe_int) pa_nil))) (pa_cons (pe_tup (pa_cons pe_str (pa_cons pe_bl pa_nil))) (pa_cons (pe_tup (pa_cons pe_str (pa_cons pe_str pa_nil))) (pa_cons (pe_tup (pa_cons pe_str (pa_cons pe_int pa_nil))) (pa_cons (pe_tup (pa_cons pe_str pa_nil)) (pa_cons (pe_lstS pa_nil) (pa_cons (pe_sys pe_dnewK) pa_nil)))))))))))
      (Evl.pss_cut (ps_expr (pe_bm PySem.F.plainAttrs_list PySem.F.slot_list_append PySem.F.type_list_append mt_append (pv 2) (pa_cons (pe_lstS (pa_cons (pe_tup (pa_cons pe_str pa_nil)) pa_nil)) pa_nil)))
      (pss_one (ps_ret (pe_call G hr (by rfl) g Kf b .nil pass0 (pa_cons (pv 0) (pa_cons (pe_op op_cat (pv 2) (pe_lst (pa_cons (pe_tup (pa_cons pe_str (pa_cons pe_str (pa_cons (pe_tup (pa_cons pe_str (pa_cons pe_int pa_nil))) (pa_cons pe_str pa_nil))))) (pa_cons (pe_tup (pa_cons pe_str (pa_cons (pe_tup (pa_cons pe_str (pa_cons pe_int pa_nil))) pa_nil))) (pa_cons (pe_tup (pa_cons pe_str (pa_cons pe_str pa_nil))) (pa_cons (pe_sys (pe_disp (pps_cons pe_str pe_int pps_nil) (by decide) rfl (by simp) (by decide))) pa_nil)))))) pa_nil)))))))))), ?_⟩
  have z2 : 2 ≤ sizeLine := le2
  have z1 : 1 ≤ sizeLine := Nat.le_trans (by decide) le2
  refine ⟨10, 18, rfl, rfl, ⟨by decide, by decide, by decide⟩, ?_⟩
  -- the first fifteen
  refine ⟨fun σ' H' => ∃ l1, σ' = [some (.ref d), some (.int (10 ^ 18)), some (.ref l1)] ∧ Same H H' ∧ H' l1 = some (.lst (od1.map vOf)), ?_, ?_⟩
  · exact ⟨_, rfl, _, _, rfl, rfl, _, rfl, _, _, rfl, rfl, _, _, rfl, rfl, _, _, rfl, rfl, ⟨by decide, by decide, by decide⟩, _, rfl, small_le (show 15 ≤ 1000 by decide), fun l1 n1 => ⟨l1, rfl, same_upd n1, upd_same⟩⟩
  rintro σ1 H1 ⟨l1, rfl, s1, h1⟩
  -- twelve more
  refine ⟨fun σ' H' => ∃ (p : Addr) (xs : List V), σ' = [some (.ref d), some (.int (10 ^ 18)), some (.ref p)] ∧ Same H H' ∧ H' p = some (.lst xs) ∧ DdAll K (Off d c) H' xs (od1 ++ (od2a ++ od2b)), ?_, ?_⟩
  · refine ⟨.ref l1, rfl, Nat.zero_le _, fun t1 m1 => ⟨z1, fun t2 m2 => ⟨z2, fun t3 m3 => ⟨.int (10 ^ 18), rfl, z2, fun t4 m4 => ⟨small_le (show 12 ≤ 1000 by decide), fun l2 n2 => ?_⟩⟩⟩⟩⟩
    have a1 := same_upd (o := .tup []) m1
    have a2 := same_upd (o := .tup [.str "key"]) m2
    have a3 := same_upd (o := .tup [.str "int", .bl true]) m3
    have a4 := same_upd (o := .tup [.str "int", .int (10 ^ 18)]) m4
    have e1 : Dd K (Off d c) _ (.ref t1) (.tuple []) := dd_newM m1 [] rfl
    have e2 : Dd K (Off d c) _ (.ref t2) (.tuple [.str "key"]) := dd_newM m2 [.str "key"] rfl
    have e3 : Dd K (Off d c) _ (.ref t3) (.tuple [.str "int", .bool true]) := dd_newM m3 [.str "int", .bool true] rfl
    have e4 : Dd K (Off d c) _ (.ref t4) (.tuple [.str "int", .int (10 ^ 18)]) := dd_newM m4 [.str "int", .int (10 ^ 18)] rfl
    have b1 := e1.keep (KeepO.of (a2.trans (a3.trans a4)))
    have b2 := e2.keep (KeepO.of (a3.trans a4))
    have b3 := e3.keep (KeepO.of a4)
    have all : DdAll K (Off d c) _ (od1.map vOf ++ (od2a.map vOf ++ [.ref t1, .ref t2, .ref t3, .ref t4])) (od1 ++ (od2a ++ od2b)) := (dd_atoms rfl).app ((dd_atoms rfl).app (.cons b1 (.cons b2 (.cons b3 (.cons e4 .nil)))))
    have a5 := same_upd (o := .lst (od2a.map vOf ++ [.ref t1, .ref t2, .ref t3, .ref t4])) n2
    have s5 := (a1.trans (a2.trans (a3.trans a4))).trans a5
    refine ⟨l1, l2, _, _, rfl, rfl, s5 _ _ h1, upd_same, small_le (show 27 ≤ 1000 by decide), fun p np => ?_⟩
    have a6 := same_upd (o := .lst (od1.map vOf ++ (od2a.map vOf ++ [.ref t1, .ref t2, .ref t3, .ref t4]))) np
    exact ⟨p, _, rfl, s1.trans (s5.trans a6), upd_same, all.keep (KeepO.of (a5.trans a6))⟩
  rintro σ2 H2 ⟨p2, xs2, rfl, s2, h2, d2⟩
  have L2 := d2.len
  -- eight more
  refine ⟨fun σ' H' => ∃ (p : Addr) (xs : List V), σ' = [some (.ref d), some (.int (10 ^ 18)), some (.ref p)] ∧ Same H H' ∧ H p = none ∧ H' p = some (.lst xs) ∧ DdAll K (fun b => Off d c b ∧ b ≠ p) H' xs (od1 ++ (od2a ++ od2b) ++ od3), ?_, ?_⟩
  · refine ⟨.ref p2, rfl, .int (10 ^ 18), rfl, _, _, rfl, rfl, z2, fun t1 m1 => ⟨_, rfl, z2, fun t2 m2 => ⟨z2, fun t3 m3 => ⟨z2, fun t4 m4 => ⟨z2, fun t5 m5 => ⟨z1, fun t6 m6 => ⟨Nat.zero_le _, fun t7 m7 far7 => ?_⟩⟩⟩⟩⟩⟩⟩
    refine fun t8 m8 far8 => ⟨small_le (show 8 ≤ 1000 by decide), fun l3 n3 => ?_⟩
    have a1 := same_upd (o := .tup [.str "int", .int (10 ^ 18 + 1)]) m1
    have a2 := same_upd (o := .tup [.str "let", .int (-1)]) m2
    have a3 := same_upd (o := .tup [.str "let", .bl false]) m3
    have a4 := same_upd (o := .tup [.str "var", .str "if"]) m4
    have a5 := same_upd (o := .tup [.str "key", .int 0]) m5
    have a6 := same_upd (o := .tup [.str "var"]) m6
    have a7 := same_upd (o := .lst []) m7
    have a8 := same_upd (o := .dK []) m8
    have s7 := s2.trans (a1.trans (a2.trans (a3.trans (a4.trans (a5.trans a6)))))
    have D7 := D.same s7
    have D8 := D7.same a7
    have e1 : Dd K (Off d c) _ (.ref t1) (.tuple [.str "int", .int (10 ^ 18 + 1)]) := dd_newM m1 [.str "int", .int (10 ^ 18 + 1)] rfl
    have e2 : Dd K (Off d c) _ (.ref t2) (.tuple [.str "let", .int (-1)]) := dd_newM m2 [.str "let", .int (-1)] rfl
    have e3 : Dd K (Off d c) _ (.ref t3) (.tuple [.str "let", .bool false]) := dd_newM m3 [.str "let", .bool false] rfl
    have e4 : Dd K (Off d c) _ (.ref t4) (.tuple [.str "var", .str "if"]) := dd_newM m4 [.str "var", .str "if"] rfl
    have e5 : Dd K (Off d c) _ (.ref t5) (.tuple [.str "key", .int 0]) := dd_newM m5 [.str "key", .int 0] rfl
    have e6 : Dd K (Off d c) _ (.ref t6) (.tuple [.str "var"]) := dd_newM m6 [.str "var"] rfl
    have e7 : Dd K (Off d c) _ (.ref t7) (.list []) := dd_lstM (xs := []) (ds := []) m7 ⟨(D7.new m7).1, (D7.new m7).2, far7⟩ .nil
    have e8 : Dd K (Off d c) _ (.ref t8) (.dict []) := dd_dkM (kvs := []) (ds := []) m8 ⟨(D8.new m8).1, (D8.new m8).2, far8 t8 [] upd_same⟩ .nil
    have b1 := e1.keep (KeepO.of (a2.trans (a3.trans (a4.trans (a5.trans (a6.trans (a7.trans a8)))))))
    have b2 := e2.keep (KeepO.of (a3.trans (a4.trans (a5.trans (a6.trans (a7.trans a8))))))
    have b3 := e3.keep (KeepO.of (a4.trans (a5.trans (a6.trans (a7.trans a8)))))
    have b4 := e4.keep (KeepO.of (a5.trans (a6.trans (a7.trans a8))))
    have b5 := e5.keep (KeepO.of (a6.trans (a7.trans a8)))
    have b6 := e6.keep (KeepO.of (a7.trans a8))
    have b7 := e7.keep (KeepO.of a8)
    have s28 := a1.trans (a2.trans (a3.trans (a4.trans (a5.trans (a6.trans (a7.trans a8))))))
    have all : DdAll K (Off d c) _ (xs2 ++ [.ref t1, .ref t2, .ref t3, .ref t4, .ref t5, .ref t6, .ref t7, .ref t8]) (od1 ++ (od2a ++ od2b) ++ od3) := (d2.keep (KeepO.of s28)).app (.cons b1 (.cons b2 (.cons b3 (.cons b4 (.cons b5 (.cons b6 (.cons b7 (.cons e8 .nil))))))))
    have a9 := same_upd (o := .lst [.ref t1, .ref t2, .ref t3, .ref t4, .ref t5, .ref t6, .ref t7, .ref t8]) n3
    refine ⟨p2, l3, _, _, rfl, rfl, (s28.trans a9) _ _ h2, upd_same, small_le (by rw [L2]; exact (show 35 ≤ 1000 by decide)), fun p np => ?_⟩
    have a10 := same_upd (o := .lst (xs2 ++ [.ref t1, .ref t2, .ref t3, .ref t4, .ref t5, .ref t6, .ref t7, .ref t8])) np
    have s29 := s2.trans (s28.trans a9)
    exact ⟨p, _, rfl, s29.trans a10, s29.free np, upd_same, ((all.keep (KeepO.of a9)).off np).keep (KeepO.of a10)⟩
  rintro σ3 H3 ⟨p3, xs3, rfl, s3, n3, h3, d3⟩
  have L3 := d3.len
  have D3 := D.same s3
  -- a list of one
  refine ⟨fun σ' H' => ∃ (p : Addr) (xs : List V), σ' = [some (.ref d), some (.int (10 ^ 18)), some (.ref p)] ∧ Same H H' ∧ H' p = some (.lst xs) ∧ DdAll K (Off d c) H' xs (od1 ++ (od2a ++ od2b) ++ od3 ++ od4), ?_, ?_⟩
  · refine ⟨.ref p3, rfl, .inl ⟨rfl, _, .inl (.inl h3)⟩, z1, fun t1 m1 => ⟨z1, fun t2 m2 far2 => ?_⟩⟩
    have a1 := same_upd (o := .tup [.str "key"]) m1
    have a2 := same_upd (o := .lst [.ref t1]) m2
    have e1 : Dd K (fun b => Off d c b ∧ b ≠ p3) _ (.ref t1) (.tuple [.str "key"]) := dd_newM m1 [.str "key"] rfl
    have D4 := D3.same a1
    have ne2 : t2 ≠ p3 := (ne_of_none (a1 _ _ h3) m2).symm
    have e2 : Dd K (fun b => Off d c b ∧ b ≠ p3) _ (.ref t2) (.list [.tuple [.str "key"]]) := dd_lstM m2 ⟨⟨(D4.new m2).1, (D4.new m2).2, far2⟩, ne2⟩ (.cons (e1.keep (KeepO.of a2)) .nil)
    have h4 := (a1.trans a2) _ _ h3
    refine ⟨p3, xs3, .ref t2, rfl, rfl, h4, small1000 (by rw [L3]; decide), p3, _, rfl, ?_, upd_same, ?_⟩
    · intro b o e
      rw [upd_ne (ne_of_none e n3)]
      exact (a1.trans a2) _ _ (s3 _ _ e)
    · have kk := KeepT.lst (o := .lst (xs3 ++ [.ref t2])) h4
      have ko : KeepO (fun b => Off d c b ∧ b ≠ p3) _ (upd _ p3 (.lst (xs3 ++ [.ref t2]))) := ⟨kk.1, kk.2, fun b o hb e => by rw [upd_ne hb.2]; exact e⟩
      exact (((d3.keep (KeepO.of (a1.trans a2))).app (.cons e2 .nil)).keep ko).mono fun _ h => h.1
  rintro σ4 H4 ⟨p4, xs4, rfl, s4, h4, d4⟩
  have L4' := d4.len
  -- the last four
  refine ⟨.ref d, rfl, .ref p4, rfl, z2, fun t1 m1 => ⟨small_le (show 4 ≤ 1000 by decide), fun t2 m2 => ⟨z2, fun t3 m3 => ⟨z2, fun t4 m4 => ⟨z2, fun t5 m5 => fun t6 m6 => ⟨upd_same, [(.inr "int", .int 1)], rfl, by decide, fun far6 => ⟨small_le (show 4 ≤ 1000 by decide), fun l5 n5 => ?_⟩⟩⟩⟩⟩⟩⟩
  have a1 := same_upd (o := .tup [.str "int", .int 1]) m1
  have a2 := same_upd (o := .tup [.str "cell", .str "a", .ref t1, .str "b"]) m2
  have a3 := same_upd (o := .tup [.str "int", .int 1]) m3
  have a4 := same_upd (o := .tup [.str "at", .ref t3]) m4
  have a5 := same_upd (o := .tup [.str "int", .str "1"]) m5
  have s45 := a1.trans (a2.trans (a3.trans (a4.trans a5)))
  have D5 := D.same (s4.trans s45)
  have a6 := same_upd2 (o := .dK []) (o' := .dK [(.inr "int", .int 1)]) m6
  have e1 : Dd K (Off d c) _ (.ref t1) (.tuple [.str "int", .int 1]) := dd_newM m1 [.str "int", .int 1] rfl
  have e2 : Dd K (Off d c) _ (.ref t2) (.tuple [.str "cell", .str "a", .tuple [.str "int", .int 1], .str "b"]) := dd_tupM m2 (.cons (.str _) (.cons (.str _) (.cons (e1.keep (KeepO.of a2)) (.cons (.str _) .nil))))
  have e3 : Dd K (Off d c) _ (.ref t3) (.tuple [.str "int", .int 1]) := dd_newM m3 [.str "int", .int 1] rfl
  have e4 : Dd K (Off d c) _ (.ref t4) (.tuple [.str "at", .tuple [.str "int", .int 1]]) := dd_tupM m4 (.cons (.str _) (.cons (e3.keep (KeepO.of a4)) .nil))
  have e5 : Dd K (Off d c) _ (.ref t5) (.tuple [.str "int", .str "1"]) := dd_newM m5 [.str "int", .str "1"] rfl
  have e6 : Dd K (Off d c) _ (.ref t6) oneD := dd_dkM2 (o := .dK []) (kvs := [(.inr "int", .int 1)]) (ds := [.int 1]) m6 ⟨(D5.new m6).1, (D5.new m6).2, far6 t6 _ upd_same⟩ (.cons (.int 1) .nil)
  have b2 := e2.keep (KeepO.of (a3.trans (a4.trans (a5.trans a6))))
  have b4 := e4.keep (KeepO.of (a5.trans a6))
  have b5 := e5.keep (KeepO.of a6)
  have s46 := s45.trans a6
  have all : DdAll K (Off d c) _ (xs4 ++ [.ref t2, .ref t4, .ref t5, .ref t6]) odd := (d4.keep (KeepO.of s46)).app (.cons b2 (.cons b4 (.cons b5 (.cons e6 .nil))))
  have a7 := same_upd (o := .lst [.ref t2, .ref t4, .ref t5, .ref t6]) n5
  refine ⟨p4, l5, _, _, rfl, rfl, (s46.trans a7) _ _ h4, upd_same, small_le (by rw [L4']; exact (show 40 ≤ 1000 by decide)), fun p np => ?_⟩
  have a8 := same_upd (o := .lst (xs4 ++ [.ref t2, .ref t4, .ref t5, .ref t6])) np
  have s48 := s4.trans ((s46.trans a7).trans a8)
  have D8 := D.same s48
  have hp := (D.same (s4.trans (s46.trans a7))).new np
  have dd8 := all.keep (KeepO.of (a7.trans a8))
  refine .inl ⟨d, c, p, N, xs4 ++ [.ref t2, .ref t4, .ref t5, .ref t6], rfl, D8, hN, .inl (.inl upd_same), ?_, ?_, hp.1, hp.2, fun H9 v k9 D9 hv => ?_⟩
  · intro e
    have := congrArg List.length e
    rw [List.length_append] at this
    simp at this
  · rw [dd8.len]
    decide
  · obtain ⟨x, hx, hd⟩ := dd_mem (dd8.keep (k9.off D8)) hv
    exact q H9 v x ((Keep.of s48).trans k9) D9 hd hx
end
end L4

/-! t[::-1] of a tuple; list(t) not where the modules are. -/
namespace RVT
open PySem PySem.Spec PyProof.Rows L2 HT
theorem adjust_rev (n : Nat) : Builtin.Slice.sliceAdjust none none (-1) (n : Int) = ((n : Int) - 1, -1) := by
  unfold Builtin.Slice.sliceAdjust
  have h1 : ((-1 : Int) < 0) := by decide
  simp only [h1, if_true]
theorem places_rev (n : Nat) : Builtin.Slice.slicePlaces ((n : Int) - 1) (-1) (-1) = n := by
  unfold Builtin.Slice.slicePlaces
  have h1 : ¬ ((-1 : Int) > 0) := by decide
  simp only [h1, if_false]
  by_cases h : (n : Int) - 1 > -1
  · rw [if_pos h, show (- -1 : Int) = 1 by decide, Int.ediv_one]
    omega
  · rw [if_neg h]
    omega
theorem pick_rev (xs : Array Value) : ((List.range xs.size).filterMap fun (m : Nat) => xs[((xs.size : Int) - 1 + (m : Int) * (-1)).toNat]?).toArray = xs.toList.reverse.toArray := by
  have e : (List.range xs.size).filterMap (fun (m : Nat) => xs[((xs.size : Int) - 1 + (m : Int) * (-1)).toNat]?) = ((List.range xs.size).map fun k => xs.size - 1 - k).filterMap (xs[·]?) := by
    have g : ∀ l : List Nat, (∀ m, m ∈ l → m < xs.size) → l.filterMap (fun (m : Nat) => xs[((xs.size : Int) - 1 + (m : Int) * (-1)).toNat]?) = (l.map fun k => xs.size - 1 - k).filterMap (xs[·]?) := by
      intro l
      induction l with
      | nil => intro _; rfl
      | cons m l ih =>
        intro h
        have hm := h m List.mem_cons_self
        have e1 : ((xs.size : Int) - 1 + (m : Int) * (-1)).toNat = xs.size - 1 - m := by omega
        rw [List.map_cons, List.filterMap_cons, List.filterMap_cons, e1, ih fun y hy => h y (List.mem_cons_of_mem _ hy)]
    exact g _ fun m hm => List.mem_range.mp hm
  rw [e, PySem.W.krv_range, List.filterMap_reverse, PySem.W.krv_all]
section
variable {prog : Program} {w : World} {A : Around} {E : Value → Shared → Prop} {s : Shared}
theorem sliceApplied_rev {sl : Addr} {vl vu vs : Value} {n : Nat} {Q : Int × Int × Nat → Shared → Prop} (hs : s.heap.IsSliceOf sl vl vu vs) (pl : IsPart vl none) (pu : IsPart vu none) (ps : IsPart vs (some (-1)))
    (h : Q ((n : Int) - 1, -1, n) s) : wpAny (model prog w) A (Builtin.Slice.sliceApplied (.ref sl) (pure (n : Int))) Q E s := by
  obtain ⟨os, hos, hcs, hds⟩ := id hs
  unfold Builtin.Slice.sliceApplied Builtin.Slice.sliceFields
  refine wpAny_bind (wpAny_bind (wpAny_field hos hds (x := vl) rfl (wpAny_bind (wpAny_field hos hds (x := vu) rfl (wpAny_bind (wpAny_field hos hds (x := vs) rfl (wpAny_pure ?_)))))))
  refine wpAny_bind (slicePart_ ps ?_)
  show wpAny _ _ (if ((-1 : Int) == 0) = true then _ else _) _ _ s
  rw [if_neg (by decide)]
  refine wpAny_bind (slicePart_ pl (wpAny_bind (slicePart_ pu (wpAny_bind (wpAny_pure ?_)))))
  show wpAny _ _ (match Builtin.Slice.sliceAdjust none none (-1) (n : Int) with | (lo, hi) => pure (lo, (-1 : Int), Builtin.Slice.slicePlaces lo hi (-1))) _ _ s
  rw [adjust_rev]
  show wpAny _ _ (pure ((n : Int) - 1, (-1 : Int), Builtin.Slice.slicePlaces ((n : Int) - 1) (-1) (-1))) _ _ s
  rw [places_rev]
  exact wpAny_pure h
theorem getItem_tuple_rev {t sl : Addr} {items : Array Value} {vl vu vs : Value} {Q : Value → Shared → Prop} (ht : IsTup s.heap t items) (hs : s.heap.IsSliceOf sl vl vu vs) (pl : IsPart vl none) (pu : IsPart vu none) (ps : IsPart vs (some (-1)))
    (h : Q (.ref s.heap.objs.size) { s with heap := s.heap.push { cls := .type "tuple", data := .seq items.toList.reverse.toArray } })
    (hsz : items.size ≤ sizeLine) : wpAny (model prog w) A (getItem (.ref t) (.ref sl)) Q E s := by
  have htake : sizeOk (.seq items.toList.reverse.toArray) := by
    show items.toList.reverse.toArray.size ≤ sizeLine
    rw [List.size_toArray, List.length_reverse, Array.length_toList]
    exact hsz
  obtain ⟨os, hos, hcs, hds⟩ := id hs
  have hTs : s.TypeIs (.ref sl) "slice" := ⟨os, hos, hcs⟩
  unfold getItem
  try with_reducible refine wpAny_holding ?_
  first | refine wpAny_bind (wpAny_pure ?_) | skip
  refine wpAny_bind (wpAny_sequenceKey ht.typeIs (by decide) ?_)
  refine wpAny_bind (wpAny_callSpecial?_slot (name := Str.ofString "__getitem__") ht.typeIs PyProof.Rows.slot_tuple_getitem
    (wpAny_call_entry PyProof.Rows.slot_tuple_getitem ht.typeIs entry_tuple_getitem ?_ (args_tuple_getitem _ _)))
  show wpAny _ _ (Builtin.Tuple.tupleItemsOf (.ref t) >>= _) _ _ s
  refine wpAny_bind (tupleItemsOf_ ht ?_)
  refine wpAny_bind (wpAny_typeOf hTs ?_)
  rw [if_pos (by decide)]
  refine wpAny_bind (sliceApplied_rev hs pl pu ps ?_)
  have hno : ¬ ((((items.size : Int) - 1) == 0 && (-1 : Int) == 1 && items.size == items.size) = true) := by
    intro q
    rw [Bool.and_eq_true, Bool.and_eq_true] at q
    exact absurd q.1.2 (by decide)
  show wpAny _ _ (if (((items.size : Int) - 1) == 0 && (-1 : Int) == 1 && items.size == items.size) = true then _ else _) _ _ s
  rw [if_neg hno, pick_rev]
  first
    | exact wpAny_bind (m := Builtin.Tuple.tupleExact _) (wpAny_newObj_type (wpAny_pure ⟨_, rfl, wpAny_pure h⟩) htake)
    | exact wpAny_bind (m := Builtin.Tuple.tupleExact _) (wpAny_newObj_type (wpAny_bind (wpAny_pure (wpAny_pure ⟨_, rfl, wpAny_pure h⟩))) htake)
    | exact wpAny_bind (wpAny_bind (m := Builtin.Tuple.tupleExact _) (wpAny_newObj_type (wpAny_pure (wpAny_pure ⟨_, rfl, wpAny_pure h⟩)) htake))
    | exact wpAny_bind (wpAny_bind (m := Builtin.Tuple.tupleExact _) (wpAny_newObj_type (wpAny_pure ⟨_, rfl, wpAny_pure h⟩) htake))
end
section
variable {X : Cx}
def tRevT (K : PySem.W.Frag) (te : TE) : TE := fun σ H Q => te σ H fun x H1 => ∃ a xs, x = .ref a ∧ SqT K H1 a xs ∧ ∀ p, H1 p = none → Q (.ref p) (upd H1 p (.tup xs.reverse))
theorem pe_revT {e : Expr} {te : TE} {k : Nat} {p1 p2 p3 pos : Pos} (he : PE X e te) : PE X (.Subscript e (.Slice none none (some (.UnaryOp .USub (.Constant (.int 1) k p1) p2)) p3) pos) (tRevT X.K te) := by
  refine ⟨fun pins s σ H Q I h => ?_⟩
  refine Subscript_ (thn (he.run pins s σ H _ I h) fun v s1 ⟨x, H1, I1, r1, q1⟩ => ?_)
  obtain ⟨a, xs, ex, hx, q⟩ := q1
  subst ex
  cases r1
  have hst : PO X (some (.UnaryOp .USub (.Constant (.int 1) k p1) p2)) (tPart (tUn (rU fun i => .int (-i)) (tC (.int 1)))) := po_some (pe_un un_neg pe_int)
  refine wpAny_Slice (thn (po_none.run pins s1 σ H1 (fun o H2 => o = none ∧ H2 = H1) I1 ⟨rfl, rfl⟩) fun vl s2 ⟨l, H2, I2, pl, el, e2⟩ => ?_)
  subst el e2
  refine thn (po_none.run pins s2 σ H2 (fun o H3 => o = none ∧ H3 = H2) I2 ⟨rfl, rfl⟩) fun vu s3 ⟨u, H3, I3, pu, eu, e3⟩ => ?_
  subst eu e3
  refine thn (hst.run pins s3 σ H3 (fun o H4 => o = some (-1) ∧ H4 = H3) I3 ⟨1, rfl, -1, rfl, rfl, rfl⟩) fun vs s4 ⟨o, H4, I4, ps, eo, e4⟩ => ?_
  subst eo e4
  have I5 : Inv X pins σ H4 { s4 with heap := s4.heap.push { cls := .type "slice", data := .fields #[vl, vu, vs] } } := I4.kept (t' := s4.toks) fun b ob q => Heap.get?_push_of_some _ q
  obtain ⟨its, r, ht, hz⟩ := I5.tuple hx
  have hlen := r.length
  show wpAny (model X.prog X.w) X.A (subscriptTail e (.Slice none none (some (.UnaryOp .USub (.Constant (.int 1) k p1) p2)) p3) (.ref a) (.ref s4.heap.objs.size)) (EP X pins σ Q) X.xe { s4 with heap := s4.heap.push { cls := .type "slice", data := .fields #[vl, vu, vs] } }
  refine tail_any (ops := [.ref a, .ref s4.heap.objs.size]) ht.typeIs (PyProof.Rows.slot_tuple_getitem.lookup) ?_ (by with_unfolding_all rfl)
  refine getItem_tuple_rev ht (Heap.IsSliceOf.new _ vl vu vs) pl pu ps ?_ (by rw [List.size_toArray]; omega)
  refine ⟨.ref _, _, I5.laid (t' := s4.toks) (o := .tup xs.reverse) (fun b ob q => Heap.get?_push_of_some _ q) (Nat.le_refl _) ?_, rfl, q _ (I5.hok.fresh (Nat.le_refl _))⟩
  exact ⟨by rw [List.length_reverse]; exact hz, _, r.reverse, IsTup.new _ _⟩
/-- list(t), a new one -/
theorem call_listS : CallR X (.type "list") (fun xs H Q => ∃ p ys, xs = [.ref p] ∧ SqT X.K H p ys ∧ ∀ l, H l = none → l ≠ sysModules → Q (.ref l) (upd H l (.lst ys))) := by
  intro pins s σ H xs us Q I r h
  obtain ⟨p, ys, rfl, hq, q⟩ := h
  obtain ⟨u, rfl, rx⟩ := vals1 r
  cases rx
  have far : s.heap.objs.size ≠ sysModules := (Nat.ne_of_lt I.big).symm
  have fin : ∀ (its : List Value), Vals ys its → ys.length ≤ sizeLine → ∀ (h' : Heap) (c' : Nat), (∀ b o', s.heap.get? b = some o' → h'.get? b = some o') →
      h'.get? s.heap.objs.size = some { cls := .type "list", dict := none, data := .seq its.toArray c', slots := #[] } → EP X pins σ Q (.ref s.heap.objs.size) { s with heap := h' } := fun its r' hz h' c' kp e =>
    ⟨.ref s.heap.objs.size, _, I.laid (t' := s.toks) kp (Nat.le_refl _) (show ObjOk X.prog X.w _ h' _ (.lst ys) from ⟨hz, its, c', r', e⟩), rfl, q _ (I.hok.fresh (Nat.le_refl _)) far⟩
  obtain ⟨its, r', pl, hz⟩ := I.tuple hq
  have hlen := r'.length
  obtain ⟨o, ho, hc, n, hd⟩ := pl
  exact call_list_seq p (.inr rfl) ho hc hd (fun h' c' kp e => fin its r' hz h' c' kp e) (by simp only [List.size_toArray] <;> omega)
end
end RVT

namespace L4
open PySem PySem.Spec PyProof.Rows L2 GR AD RZ WX ZE RVT
abbrev N_be : List Str := ["_law_deck_here", "_law_thing", "_law_way", "_law_at", "_law_words"]
abbrev bentW : List Str := ["+", "if", "at", "cell", "count", "sum", "most", "first", "var", "int", "let", "key", "or"]
theorem bentW_bd : ∀ z, z ∈ bentW → Bd 7 1 0 (.str z) := by
  have : bentW.all (fun z => bdB 7 1 0 (.str z)) = true := by decide +kernel
  exact fun z hz => bd_of (List.all_eq_true.mp this z hz)
/-! slices by a place within -/
theorem six_lo (n j : Nat) : HT.sIx n 0 (some (j : Int)) = min j n := HT.sIx_nat _ _ j
theorem six_hi (n j : Nat) : HT.sIx n n (some (j : Int)) = min j n := HT.sIx_nat _ _ j
theorem cut_to {xs : List V} {j : Nat} (h : j ≤ xs.length) : cutV xs none (some (j : Int)) = xs.take j := by
  unfold cutV
  rw [HT.sIx_none, six_hi, List.drop_zero, Nat.min_eq_left h, Nat.sub_zero]
theorem cut_from {xs : List V} {j : Nat} (h : j ≤ xs.length) : cutV xs (some (j : Int)) none = xs.drop j := by
  unfold cutV
  rw [HT.sIx_none, six_lo, Nat.min_eq_left h]
  exact List.take_of_length_le (by rw [List.length_drop]; omega)
theorem cut_both {xs : List V} {i j : Nat} (h : i ≤ xs.length) : cutV xs (some (i : Int)) (some (j : Int)) = (xs.drop i).take (j - i) := by
  unfold cutV
  rw [six_lo, six_hi, Nat.min_eq_left h]
  by_cases e : j ≤ xs.length
  · rw [Nat.min_eq_left e]
  · rw [Nat.min_eq_right (by omega), List.take_of_length_le (by rw [List.length_drop]; omega), List.take_of_length_le (by rw [List.length_drop]; omega)]
/-- t[..] of a tuple as a value: some tuple of these, all as it was -/
theorem slice_any {K : PySem.W.Frag} {H : Hp} {a : Addr} {xs : List V} {lo hi : Option Int} {Q : VK} (hx : SqT K H a xs) (h : ∀ H' p, Same H H' → SqT K H' p (cutV xs lo hi) → Q (.ref p) H') : rSlA K (.ref a) lo hi H Q := by
  refine ⟨a, xs, rfl, hx, fun hw => ?_, fun hw p np => h _ p (same_upd np) (.inl (.inl upd_same))⟩
  refine h H a (fun _ _ e => e) ?_
  have : cutV xs lo hi = xs := by
    unfold cutV
    rw [hw.1, hw.2, List.drop_zero, Nat.sub_zero, List.take_length]
  rw [this]
  exact hx
theorem slice_from {σ : L2.St} {K : PySem.W.Frag} {H : Hp} {a : Addr} {xs : List V} {lo : Option Int} {Q : VK} (hx : SqT K H a xs) (h : ∀ H' p, Same H H' → SqT K H' p (cutV xs lo none) → Q (.ref p) H') : tNoPart σ H fun u H3 => rSlA K (.ref a) lo u H3 Q := slice_any hx h
/-- t + u of tuples as a value -/
theorem cat_any {K : PySem.W.Frag} {H : Hp} {a b : Addr} {xs ys : List V} {Q : VK} (hx : SqT K H a xs) (hy : SqT K H b ys) (hl : xs.length + ys.length ≤ sizeLine) (h : ∀ H' p, Same H H' → SqT K H' p (xs ++ ys) → Q (.ref p) H') : rCatA K (.ref a) (.ref b) H Q := by
  refine ⟨a, b, xs, ys, rfl, rfl, hx, hy, hl, fun e => ?_, fun _ e => ?_, fun _ _ p np => h _ p (same_upd np) (.inl (.inl upd_same))⟩
  · subst e
    exact h H b (fun _ _ e => e) hy
  · subst e
    exact h H a (fun _ _ e => e) (by rw [List.append_nil]; exact hx)
theorem dd_take {K : PySem.W.Frag} {ok : Addr → Prop} {H : Hp} : ∀ {vs : List V} {ds : List PyData} (i : Nat), DdAll K ok H vs ds → DdAll K ok H (vs.take i) (ds.take i)
  | _, _, 0, _ => by rw [List.take_zero, List.take_zero]; exact .nil
  | _, _, i + 1, .nil => by rw [List.take_nil, List.take_nil]; exact .nil
  | _, _, i + 1, .cons a t => by rw [List.take_succ_cons, List.take_succ_cons]; exact .cons a (dd_take i t)
theorem dd_drop {K : PySem.W.Frag} {ok : Addr → Prop} {H : Hp} : ∀ {vs : List V} {ds : List PyData} (i : Nat), DdAll K ok H vs ds → DdAll K ok H (vs.drop i) (ds.drop i)
  | _, _, 0, h => h
  | _, _, i + 1, .nil => by rw [List.drop_nil, List.drop_nil]; exact .nil
  | _, _, i + 1, .cons a t => by rw [List.drop_succ_cons, List.drop_succ_cons]; exact dd_drop i t
theorem dd_rev {K : PySem.W.Frag} {ok : Addr → Prop} {H : Hp} : ∀ {vs : List V} {ds : List PyData}, DdAll K ok H vs ds → DdAll K ok H vs.reverse ds.reverse
  | _, _, .nil => .nil
  | _, _, .cons a t => by rw [List.reverse_cons, List.reverse_cons]; exact (dd_rev t).app (.cons a .nil)
end L4

namespace L4
open PySem PySem.Spec PyProof.Rows L2 GR AD RZ WX ZE RVT
theorem Bds.mono {l s p l' s' p' : Nat} {xs : List PyData} (h : Bds l s p xs) (hl : l ≤ l') (hs : s ≤ s') (hp : p ≤ p') : Bds l' s' p' xs := ⟨fun y hy => (h.els y hy).mono hp, Nat.le_trans h.len hl, Nat.le_trans h.sz hs⟩
theorem sls_len : ∀ ds : List PyData, 2 * ds.length ≤ sls ds
  | [] => Nat.le_refl _
  | d :: ds => by
    have := sls_len ds
    rw [sls, List.length_cons]
    omega
section
variable {P : Program} {w : World} {K : PySem.W.Frag} {mg : Str → Option Value} {base : Heap}
abbrev s_law_bent : Stmt := topS 30
theorem sc_law_bent : FnScope N_be ["_law_deck_here", "_law_thing"] (defScope s_law_bent) := ⟨rfl, rfl, rfl, by decide +kernel, rfl, by decide +kernel, by decide +kernel⟩
/-- a bend of a thing of depth less than n -/
def sp_bent (K : PySem.W.Frag) (n : Nat) : Sp := fun vs H Q _ => ∃ (d c : Addr) (N : Int) (v : V) (x : PyData) (p : Nat), vs = [.ref d, v] ∧ Deck H d c N ∧ N + 3 * (n : Int) < 2 ^ 58 ∧ Dd K (Off d c) H v x ∧ x.depth < n ∧ El p x ∧ sl x ≤ 8000000 ∧
  ∀ H' v' x', Keep d c H H' → Deck H' d c (N + 3 * (n : Int)) → Dd K (Off d c) H' v' x' → Bd (2 * sl x + 60) (2 * L4.sz x + 8) (p + 3) x' → Q v' H'
theorem ok_bent_step {n : Nat} {f fd' fp fo : Addr} {fd dd dp do' : FuncData} {k : Nat} (F : Fun K "_law_bent" "_law_bent" s_law_bent f fd)
    (Gd : FnOk P w K mg base CX0 k fd' dd ["_law_deck_here", "_law_most"] sp_draw) (gd : mg "_law_draw" = some (.ref fd')) (Kd : PySem.W.keepIn K (.ref fd') = true) (bd : Binds K dd ["_law_deck_here", "_law_most"] [])
    (Gp : FnOk P w K mg base CX0 k fp dp ["_law_deck_here", "_law_some"] (sp_pick K)) (gp : mg "_law_pick" = some (.ref fp)) (Kp : PySem.W.keepIn K (.ref fp) = true) (bp : Binds K dp ["_law_deck_here", "_law_some"] [])
    (Go : FnOk P w K mg base CX0 k fo do' ["_law_deck_here"] (sp_odd K)) (go : mg "_law_odd" = some (.ref fo)) (Ko : PySem.W.keepIn K (.ref fo) = true) (bo : Binds K do' ["_law_deck_here"] [])
    (Gb : FnOk P w K mg base CX0 k f fd ["_law_deck_here", "_law_thing"] (sp_bent K n)) (gb : mg "_law_bent" = some (.ref f)) (Kb : PySem.W.keepIn K (.ref f) = true) (bb : Binds K fd ["_law_deck_here", "_law_thing"] [])
    (misi : mg "isinstance" = none) (mtuple : mg "tuple" = none) (mlen : mg "len" = none) (mlist : mg "list" = none) : FnOk P w K mg base CX0 (k + 1) f fd ["_law_deck_here", "_law_thing"] (sp_bent K (n + 1)) := by
  have nd := sc_law_bent.nd
  refine F.ok sc_law_bent (fun vs H Q E h => ?_) (fun cdv A outer s H vs Q E hr h => ?_)
  · obtain ⟨d, c, N, v, x, p, rfl, _⟩ := h
    rfl
  obtain ⟨d, c, N, v, x, p, rfl, D, hN, hd, hdep, hel, hlen, q⟩ := h
  refine ⟨_, (pss_cons (ps_set (i := 2) nd rfl (.inl rfl) (pe_call Gd hr (by rfl) gd Kd bd .nil pass0 (pa_cons (pv 0) (pa_cons pe_int pa_nil))))
      (pss_cons (ps_if (PW.pt (pw_or (pt_not (pt_val (pe_callB call_isi (by rfl) misi boot_isinstance (pa_cons (pv 1) (pa_cons (pe_bltn (v := .ty "tuple") (by rfl) mtuple boot_tuple rfl) pa_nil))))) (pw_or (pt_cmpR (op_eqT0 (Nat.lt_of_le_of_lt (Nat.le_add_right _ _) hr.units)) (pv 1) (pe_tup pa_nil) (nomark _)) (pw_or1 (pt_cmpR op_eq (pv 2) pe_int (nomark _))))))
      (pss_one (ps_ret (pe_call Go hr (by rfl) go Ko bo .nil pass0 (pa_cons (pv 0) pa_nil))))
      pss_nil)
      (pss_cons (ps_set (i := 3) nd rfl (.inl rfl) (pe_call Gd hr (by rfl) gd Kd bd .nil pass0 (pa_cons (pv 0) (pa_cons (pe_callB call_len_seq (by rfl) mlen PySem.boot_len (pa_cons (pv 1) pa_nil)) pa_nil))))
      (pss_cons (ps_if (pt_cmpR op_eq (pv 2) pe_int (nomark _))
      (pss_one (ps_ret (pe_op op_catA (pe_slice sl_tupA (pv 1) po_none (po_some (pv 3))) (pe_slice sl_tupA (pv 1) (po_some (pe_op op_add (pv 3) pe_int)) po_none))))
      pss_nil)
      (pss_cons (ps_if (pt_cmpR op_eq (pv 2) pe_int (nomark _))
      (pss_one (ps_ret (pe_op op_catA (pe_slice sl_tupA (pv 1) po_none (po_some (pe_op op_add (pv 3) pe_int))) (pe_slice sl_tupA (pv 1) (po_some (pv 3)) po_none))))
      pss_nil)
      (pss_cons (ps_if (pt_cmpR op_eq (pv 2) pe_int (nomark _))
      (pss_one (ps_ret (pe_op op_catA (pe_op op_catA (pe_slice sl_tupA (pv 1) po_none (po_some (pv 3))) (pe_revT (pe_slice sl_tupA (pv 1) (po_some (pv 3)) (po_some (pe_op op_add (pv 3) pe_int))))) (pe_slice sl_tupA (pv 1) (po_some (pe_op op_add (pv 3) pe_int)) po_none))))
      pss_nil)
      (pss_cons (ps_if (pt_cmpR op_eq (pv 2) pe_int (nomark _))
      (pss_one (ps_ret (pe_callTy call_listS (by rfl) mlist boot_list (pa_cons (pv 1) pa_nil))))
      pss_nil)
      (pss_cons (ps_if (pt_cmpR op_eq (pv 2) pe_int (nomark _))
      (pss_cons (ps_set (i := 4) nd rfl (.inl rfl) (pe_lst (pa_cons pe_str (pa_cons pe_str (pa_cons pe_str (pa_cons pe_str (pa_cons pe_str (pa_cons pe_str (pa_cons pe_str (pa_cons pe_str (pa_cons pe_str (pa_cons pe_str (pa_cons pe_str (pa_cons pe_str (pa_cons pe_str pa_nil)))))))))))))))
        (pss_one (ps_ret (pe_op op_catA (pe_tup (pa_cons (pe_call Gp hr (by rfl) gp Kp bp .nil pass0 (pa_cons (pv 0) (pa_cons (pv 4) pa_nil))) pa_nil)) (pe_slice sl_tupA (pv 1) (po_some pe_int) po_none)))))
      pss_nil)
      (pss_one (ps_ret (pe_op op_catA (pe_op op_catA (pe_slice sl_tupA (pv 1) po_none (po_some (pv 3))) (pe_tup (pa_cons (pe_call Gb hr (by rfl) gb Kb bb .nil pass0 (pa_cons (pv 0) (pa_cons (pe_ix ix_tup (pv 1) (pv 3) (fun _ _ => rfl)) pa_nil))) pa_nil))) (pe_slice sl_tupA (pv 1) (po_some (pe_op op_add (pv 3) pe_int)) po_none)))))))))))), ?_⟩
  refine ⟨.ref d, rfl, d, c, N, 12, rfl, D, by omega, by decide, by decide, fun H1 way k1 D1 w0 w1 => ?_⟩
  have hd1 := hd.keep (k1.off D)
  have q1 : ∀ H' v' x', Keep d c H1 H' → Deck H' d c (N + 3 * ((n : Int) + 1)) → Dd K (Off d c) H' v' x' → Bd (2 * sl x + 60) (2 * L4.sz x + 8) (p + 3) x' → Q v' H' := fun H' v' x' k D' h b => q H' v' x' (k1.trans k) (D'.mono (by omega)) h b
  have od : ∀ (E' : XK) (H2 : Hp), Same H1 H2 → sp_odd K [.ref d] H2 Q E' := fun E' H2 s2 => ⟨d, c, N + 1, rfl, D1.same s2, by omega, fun H3 v3 x3 k3 D3 hd3 hx3 => q1 H3 v3 x3 ((Keep.of s2).trans k3) (D3.mono (by omega)) hd3 ((odd_bd x3 hx3).mono (by omega) (by omega) (by omega))⟩
  have od1' := fun E' => od E' H1 (fun _ _ e => e)
  clear q
  refine ⟨v, rfl, v, .ty "tuple", _, _, _, rfl, .ty "tuple", hd1.ty, kit_t K x, _, rfl, ?_⟩
  cases hd1 with
  | tup hs ha =>
    rename_i a xs ds
    refine iteF ⟨.ref a, rfl, Nat.zero_le _, fun e0 ne0 => ?_⟩
    have se := same_upd (o := .tup []) ne0
    have hs2 := (KeepT.of se).seqt hs
    have ha2 := ha.keep (KeepO.of (ok := Off d c) se)
    have D2 := D1.same se
    have od2 := fun E' => od E' _ se
    refine ⟨a, e0, xs, rfl, rfl, hs2, .inl (.inl upd_same), _, rfl, ?_⟩
    have q2 : ∀ H' v' x', Keep d c (upd H1 e0 (.tup [])) H' → Deck H' d c (N + 3 * ((n : Int) + 1)) → Dd K (Off d c) H' v' x' → Bd (2 * sl (.tuple ds) + 60) (2 * L4.sz (.tuple ds) + 8) (p + 3) x' → Q v' H' := fun H' v' x' k D' h b => q1 H' v' x' ((Keep.of se).trans k) D' h b
    revert hs2 ha2 D2 od2 q2
    generalize upd H1 e0 (.tup []) = H2
    intro hs2 ha2 D2 od2 q2
    cases hem : xs.isEmpty with
    | true => exact iteT (iteT ⟨.ref d, rfl, od2 E⟩)
    | false =>
    have hne : xs ≠ [] := fun e => by rw [e] at hem; cases hem
    have hpos : 0 < xs.length := List.length_pos_iff.mpr hne
    refine iteF ⟨.int way, rfl, rfl, _, rfl, ite2 (fun _ => ⟨.ref d, rfl, od2 E⟩) (fun _ => ?_)⟩
    have lx := ha2.len
    obtain ⟨p', rfl⟩ : ∃ p', p = p' + 1 := ⟨p - 1, by have := hel.dep; simp only [PyData.depth] at this; omega⟩
    have B : Bds (sls ds) (szs ds) p' ds := ((show Bd (sls ds + 3) (szs ds + 1) (p' + 1) (.tuple ds) from ⟨hel, by rw [sl]; omega, by rw [L4.sz]; omega⟩).inv).mono (by omega) (by omega) (by omega)
    have esl : sl (.tuple ds) = sls ds + 3 := by rw [sl]
    have esz : L4.sz (.tuple ds) = 1 + szs ds := by rw [L4.sz]
    rw [esl, esz] at q2
    rw [esl] at hlen
    have hll := sls_len ds
    have hxl : xs.length ≤ 4000000 := by omega
    have big : 8000010 ≤ sizeLine := by rw [sizeLine_eq]; decide
    refine ⟨.ref d, rfl, .ref a, rfl, a, xs, rfl, .inr hs2, d, c, N + 1, (xs.length : Int), rfl, D2, by omega, by omega, by omega, fun H3 at' k3 D3 a0 a1 => ?_⟩
    obtain ⟨j, rfl⟩ := Int.eq_ofNat_of_zero_le a0
    have hj : j < xs.length := by omega
    have hs3 := (k3.t D2).seqt hs2
    have ha3 := ha2.keep (k3.off D2)
    obtain ⟨xj, hxj⟩ : ∃ xj, ds[j]? = some xj := ⟨ds[j]'(by omega), List.getElem?_eq_getElem _⟩
    obtain ⟨vj, hvj⟩ : ∃ vj, xs[j]? = some vj := ⟨xs[j], List.getElem?_eq_getElem _⟩
    have ar := B.around hxj
    -- a tuple, new or old, at the end
    have fin : ∀ H' t (us : List V) (es : List PyData), Keep d c H3 H' → Deck H' d c (N + 3 * ((n : Int) + 1)) → SqT K H' t us → DdAll K (Off d c) H' us es → Bds (2 * sls ds + 63) (2 * szs ds + 9) (p' + 3) es → Q (.ref t) H' := fun H' t us es k D' ht hd' hb => q2 H' _ _ (k3.trans k) D' (.tup ht hd') ((hb.tup).mono (by omega) (by omega) (by omega))
    have fin1 : ∀ H' t (us : List V) (es : List PyData), Same H3 H' → SqT K H' t us → DdAll K (Off d c) H3 us es → Bds (2 * sls ds + 63) (2 * szs ds + 9) (p' + 3) es → Q (.ref t) H' := fun H' t us es s ht hd' hb => fin H' t us es (Keep.of s) ((D3.same s).mono (by omega)) ht (hd'.keep (KeepO.of s)) hb
    have tk : ∀ i, DdAll K (Off d c) H3 (xs.take i) (ds.take i) := fun i => dd_take i ha3
    have dr : ∀ i, DdAll K (Off d c) H3 (xs.drop i) (ds.drop i) := fun i => dd_drop i ha3
    have ltk : ∀ i, (xs.take i).length ≤ 4000000 := fun i => by rw [List.length_take]; omega
    have ldr : ∀ i, (xs.drop i).length ≤ 4000000 := fun i => by rw [List.length_drop]; omega
    refine ⟨.int way, rfl, rfl, _, rfl, ite2 (fun _ => ?_) (fun _ => ?_)⟩
    · refine ⟨.ref a, rfl, .int (j : Int), rfl, (j : Int), rfl, slice_any hs3 fun H4 p4 s4 h4 => ⟨.ref a, rfl, .int (j : Int), rfl, (j : Int), 1, rfl, rfl, (j : Int) + 1, rfl, slice_from ((KeepT.of s4).seqt hs3) fun H5 p5 s5 h5 => ?_⟩⟩
      have h4' : SqT K H4 p4 (xs.take j) := by rw [← cut_to (Nat.le_of_lt hj)]; exact h4
      have h5' : SqT K H5 p5 (xs.drop (j + 1)) := by rw [← cut_from (by omega)]; exact h5
      have := ltk j
      have := ldr (j + 1)
      refine cat_any ((KeepT.of s5).seqt h4') h5' (by omega) fun H6 p6 s6 h6 => ?_
      exact fin1 H6 p6 _ _ (s4.trans (s5.trans s6)) h6 ((tk j).app (dr (j + 1))) ((bend_out ar).mono (by omega) (by omega) (by omega))
    refine ⟨.int way, rfl, rfl, _, rfl, ite2 (fun _ => ?_) (fun _ => ?_)⟩
    · refine ⟨.ref a, rfl, .int (j : Int), rfl, (j : Int), 1, rfl, rfl, (j : Int) + 1, rfl, slice_any hs3 fun H4 p4 s4 h4 => ⟨.ref a, rfl, .int (j : Int), rfl, (j : Int), rfl, slice_from ((KeepT.of s4).seqt hs3) fun H5 p5 s5 h5 => ?_⟩⟩
      have h4' : SqT K H4 p4 (xs.take (j + 1)) := by rw [← cut_to (by omega)]; exact h4
      have h5' : SqT K H5 p5 (xs.drop j) := by rw [← cut_from (Nat.le_of_lt hj)]; exact h5
      have := ltk (j + 1)
      have := ldr j
      refine cat_any ((KeepT.of s5).seqt h4') h5' (by omega) fun H6 p6 s6 h6 => ?_
      have hb := (bend_twice ar).mono (l' := 2 * sls ds + 63) (s' := 2 * szs ds + 9) (p' := p' + 3) (by omega) (by omega) (by omega)
      have hdr : ds.drop j = xj :: ds.drop (j + 1) := by
        rw [List.drop_eq_getElem_cons (by omega), (List.getElem?_eq_some_iff.mp hxj).2]
      rw [← take_at hxj, ← hdr] at hb
      exact fin1 H6 p6 _ _ (s4.trans (s5.trans s6)) h6 ((tk (j + 1)).app (dr j)) hb
    refine ⟨.int way, rfl, rfl, _, rfl, ite2 (fun _ => ?_) (fun _ => ?_)⟩
    · have e5 : cutV xs (some (j : Int)) (some ((j : Int) + 2)) = (xs.drop j).take 2 := by
        rw [show (j : Int) + 2 = ((j + 2 : Nat) : Int) from rfl, cut_both (Nat.le_of_lt hj), show j + 2 - j = 2 by omega]
      refine ⟨.ref a, rfl, .int (j : Int), rfl, (j : Int), rfl, slice_any hs3 fun H4 p4 s4 h4 => ⟨.ref a, rfl, .int (j : Int), rfl, (j : Int), rfl, .int (j : Int), rfl, (j : Int), 2, rfl, rfl, (j : Int) + 2, rfl, slice_any ((KeepT.of s4).seqt hs3) fun H5 p5 s5 h5 => ⟨p5, (xs.drop j).take 2, rfl, e5 ▸ h5, fun p6 n6 => ?_⟩⟩⟩
      have h4' : SqT K H4 p4 (xs.take j) := by rw [← cut_to (Nat.le_of_lt hj)]; exact h4
      have s6 := same_upd (o := .tup ((xs.drop j).take 2).reverse) n6
      have l2 : ((xs.drop j).take 2).reverse.length ≤ 2 := by rw [List.length_reverse, List.length_take]; omega
      have := ltk j
      have := ldr (j + 2)
      refine cat_any ((KeepT.of (s5.trans s6)).seqt h4') (.inl (.inl upd_same)) (by omega) fun H7 p7 s7 h7 => ⟨.ref a, rfl, .int (j : Int), rfl, (j : Int), 2, rfl, rfl, (j : Int) + 2, rfl, slice_from ((KeepT.of (s4.trans (s5.trans (s6.trans s7)))).seqt hs3) fun H8 p8 s8 h8 => ?_⟩
      have h8' : SqT K H8 p8 (xs.drop (j + 2)) := by
        by_cases h : j + 2 ≤ xs.length
        · rw [← cut_from h]; exact h8
        · have e : cutV xs (some ((j : Int) + 2)) none = xs.drop (j + 2) := by
            rw [show (j : Int) + 2 = ((j + 2 : Nat) : Int) from rfl]
            unfold cutV
            rw [HT.sIx_none, six_lo, Nat.min_eq_right (by omega), List.drop_of_length_le (by omega), List.drop_of_length_le (by omega), List.take_nil]
          rw [← e]
          exact h8
      refine cat_any ((KeepT.of s8).seqt h7) h8' (by rw [List.length_append]; omega) fun H9 p9 s9 h9 => ?_
      exact fin1 H9 p9 _ _ (s4.trans (s5.trans (s6.trans (s7.trans (s8.trans s9))))) h9 (((tk j).app (dd_rev (dd_take 2 (dr j)))).app (dr (j + 2))) ((bend_turn B).mono (by omega) (by omega) (by omega))
    refine ⟨.int way, rfl, rfl, _, rfl, ite2 (fun _ => ?_) (fun _ => ?_)⟩
    · refine ⟨.ref a, rfl, a, xs, rfl, hs3, fun l nl far => ?_⟩
      have sl4 := same_upd (o := .lst xs) nl
      have hl := D3.new nl
      exact q2 _ _ (.list ds) (k3.trans (Keep.of sl4)) ((D3.same sl4).mono (by omega)) (.lst upd_same ⟨hl.1, hl.2, far⟩ (ha3.keep (KeepO.of sl4))) ((B.lst).mono (by omega) (by omega) (by omega))
    refine ⟨.int way, rfl, rfl, _, rfl, ite2 (fun _ => ?_) (fun _ => ?_)⟩
    · refine ⟨small_le (show 13 ≤ 1000 by decide), fun l nl => ?_⟩
      have s4 := same_upd (o := .lst (bentW.map V.str)) nl
      have hl := D3.new nl
      refine ⟨.ref d, rfl, .ref l, rfl, .inl ⟨d, c, l, _, bentW.map V.str, rfl, D3.same s4, by omega, .inl (.inl upd_same), List.cons_ne_nil _ _, by decide, hl.1, hl.2, fun H5 v5 k5 D5 hv5 => ⟨Nat.le_trans (show 1 ≤ 2 by decide) le2, fun p6 n6 => ?_⟩⟩⟩
      obtain ⟨z, hz, rfl⟩ := List.mem_map.mp hv5
      have s6 := same_upd (o := .tup [.str z]) n6
      have kT : KeepT H3 H5 := (KeepT.of s4).trans (k5.t (D3.same s4))
      refine ⟨.ref a, rfl, 1, rfl, slice_from ((kT.trans (KeepT.of s6)).seqt hs3) fun H7 p7 s7 h7 => ?_⟩
      have h7' : SqT K H7 p7 (xs.drop 1) := by rw [← cut_from (by omega)]; exact h7
      have := ldr 1
      refine cat_any ((KeepT.of s7).seqt (.inl (.inl upd_same))) h7' (by rw [List.length_singleton]; omega) fun H8 p8 s8 h8 => ?_
      have s68 := s6.trans (s7.trans s8)
      have k38 : Keep d c H3 H8 := (Keep.of s4).trans (k5.trans (Keep.of s68))
      have hb := bentW_bd z hz
      refine fin H8 p8 _ _ k38 ((D5.same s68).mono (by omega)) h8 ((DdAll.cons (.str z) .nil).app ((dr 1).keep (k38.off D3))) ⟨mem3 (mem1 (hb.toEl.mono (by omega))) (fun y hy => (B.els y (List.mem_of_mem_drop hy)).mono (by omega)), ?_, ?_⟩
      · have h1 := hb.len
        have h2 := (B.sub (A := ds.take 1) (B := ds.drop 1) (List.take_append_drop 1 ds).symm).2.2.1
        rw [sls_append, sls, sls]
        omega
      · have h1 := hb.sz
        have h2 := (B.sub (A := ds.take 1) (B := ds.drop 1) (List.take_append_drop 1 ds).symm).2.2.2
        rw [szs_append, szs, szs]
        omega
    · refine ⟨.ref a, rfl, .int (j : Int), rfl, (j : Int), rfl, slice_any hs3 fun H4 p4 s4 h4 => ⟨.ref d, rfl, .ref a, rfl, .int (j : Int), rfl, a, xs, (j : Int), vj, rfl, rfl, (KeepT.of s4).seqt hs3, atI_nat hvj, ?_⟩⟩
      have h4' : SqT K H4 p4 (xs.take j) := by rw [← cut_to (Nat.le_of_lt hj)]; exact h4
      obtain ⟨y, hy, hyd⟩ := dd_at (ha3.keep (KeepO.of (ok := Off d c) s4)) hvj
      rw [hxj] at hy
      obtain rfl : xj = y := Option.some.inj hy
      have hyl : sl xj ≤ 8000000 := by
        have := ar.len
        omega
      have hyn : xj.depth < n := by
        have h1 := depth_mem (List.mem_of_getElem? hxj)
        simp only [PyData.depth] at hdep
        omega
      refine ⟨d, c, _, vj, xj, p', rfl, D3.same s4, by omega, hyd, hyn, ar.elx, hyl, fun H5 v5 x5 k5 D5 hd5 hb5 => ⟨Nat.le_trans (show 1 ≤ 2 by decide) le2, fun p6 n6 => ?_⟩⟩
      have s6 := same_upd (o := .tup [v5]) n6
      have kT : KeepT H4 H5 := k5.t (D3.same s4)
      have := ltk j
      have := ldr (j + 1)
      refine cat_any ((kT.trans (KeepT.of s6)).seqt h4') (.inl (.inl upd_same)) (by rw [List.length_singleton]; omega) fun H7 p7 s7 h7 => ⟨.ref a, rfl, .int (j : Int), rfl, (j : Int), 1, rfl, rfl, (j : Int) + 1, rfl, slice_from ((((KeepT.of s4).trans kT).trans (KeepT.of (s6.trans s7))).seqt hs3) fun H8 p8 s8 h8 => ?_⟩
      have h8' : SqT K H8 p8 (xs.drop (j + 1)) := by rw [← cut_from (by omega)]; exact h8
      refine cat_any ((KeepT.of s8).seqt h7) h8' (by rw [List.length_append, List.length_singleton]; omega) fun H9 p9 s9 h9 => ?_
      have s59 := s6.trans (s7.trans (s8.trans s9))
      have k39 : Keep d c H3 H9 := (Keep.of s4).trans (k5.trans (Keep.of s59))
      refine fin H9 p9 _ _ k39 ((D5.same s59).mono (by omega)) h9 ((((tk j).keep (k39.off D3)).app (.cons (hd5.keep (KeepO.of s59)) .nil)).app ((dr (j + 1)).keep (k39.off D3))) ((bend_put (q := 3) (m := 60) (n := 8) ar hb5).mono (by omega) (by omega) (by omega))
  | _ => exact iteT (iteT ⟨.ref d, rfl, od1' E⟩)
theorem ok_bent {f fd' fp fo : Addr} {fd dd dp do' : FuncData} {k : Nat} (F : Fun K "_law_bent" "_law_bent" s_law_bent f fd)
    (Gd : FnOk P w K mg base CX0 k fd' dd ["_law_deck_here", "_law_most"] sp_draw) (gd : mg "_law_draw" = some (.ref fd')) (Kd : PySem.W.keepIn K (.ref fd') = true) (bd : Binds K dd ["_law_deck_here", "_law_most"] [])
    (Gp : FnOk P w K mg base CX0 k fp dp ["_law_deck_here", "_law_some"] (sp_pick K)) (gp : mg "_law_pick" = some (.ref fp)) (Kp : PySem.W.keepIn K (.ref fp) = true) (bp : Binds K dp ["_law_deck_here", "_law_some"] [])
    (Go : FnOk P w K mg base CX0 k fo do' ["_law_deck_here"] (sp_odd K)) (go : mg "_law_odd" = some (.ref fo)) (Ko : PySem.W.keepIn K (.ref fo) = true) (bo : Binds K do' ["_law_deck_here"] [])
    (gb : mg "_law_bent" = some (.ref f)) (Kb : PySem.W.keepIn K (.ref f) = true) (bb : Binds K fd ["_law_deck_here", "_law_thing"] [])
    (misi : mg "isinstance" = none) (mtuple : mg "tuple" = none) (mlen : mg "len" = none) (mlist : mg "list" = none) : ∀ n : Nat, FnOk P w K mg base CX0 (k + n) f fd ["_law_deck_here", "_law_thing"] (sp_bent K n)
  | 0 => ok_none fun vs H Q E h => by obtain ⟨_, _, _, _, _, _, _, _, _, _, h, _⟩ := h; exact absurd h (Nat.not_lt_zero _)
  | n + 1 => ok_bent_step (k := k + n) F (Gd.mono (by omega)) gd Kd bd (Gp.mono (by omega)) gp Kp bp (Go.mono (by omega)) go Ko bo (ok_bent F Gd gd Kd bd Gp gp Kp bp Go go Ko bo gb Kb bb misi mtuple mlen mlist n) gb Kb bb misi mtuple mlen mlist
end
end L4

namespace L4
open PySem PySem.Spec PyProof.Rows L2 GR AD RZ WX ZE RVT
theorem isN_nm {z : Str} (h : Nm z) : isN (.str z) = true := by
  obtain ⟨h1, h2, h3, h4⟩ := h
  rw [Array.length_toList] at h1 h2
  have e1 : decide (1 ≤ z.length) = true := decide_eq_true h1
  have e2 : decide (z.length ≤ 8) = true := decide_eq_true h2
  have e3 : decide (z ∈ BARW) = false := decide_eq_false h4
  have e4 : z.cps.toList.all lowC = true := List.all_eq_true.mpr fun c hc => by
    have := h3 c hc
    unfold lowC
    rw [decide_eq_true this.1, decide_eq_true this.2]
    rfl
  show ((decide (1 ≤ z.length) && decide (z.length ≤ 8)) && (!decide (z ∈ BARW) && z.cps.toList.all lowC)) = true
  rw [e1, e2, e3, e4]
  rfl
theorem isV_ok {i : Int} (h1 : -(10 ^ 18) ≤ i) (h2 : i ≤ 10 ^ 18) : isV (.int i) = true := by
  show (decide (-LIM ≤ i) && decide (i ≤ LIM)) = true
  rw [decide_eq_true (by show -(1000000000000000000 : Int) ≤ i; omega), decide_eq_true (by show i ≤ (1000000000000000000 : Int); omega)]
  rfl
theorem Ex.isx {zs : List Str} (hz : ∀ z, z ∈ zs → Nm z) {n : Nat} {x : PyData} (h : Ex zs n x) : isX x = true := by
  induction h with
  | leaf n x h =>
    cases h with
    | int i h1 h2 =>
      rw [isX_some (fs := ["value"]) (by decide)]
      show ((isV (.int i) && true) && true) = true
      rw [isV_ok h1 h2]
      rfl
    | let_ i h1 h2 =>
      rw [isX_some (fs := ["position"]) (by decide)]
      show ((decide (0 ≤ i) && true) && true) = true
      rw [decide_eq_true h1]
      rfl
    | key => rw [isX_some (fs := []) (by decide)]; rfl
    | var z h1 =>
      rw [isX_some (fs := ["name"]) (by decide)]
      show ((isN (.str z) && true) && true) = true
      rw [isN_nm (hz z h1)]
      rfl
  | cell n t v x h1 h2 _ ih => rw [isX_cell, isN_nm (hz t h1), isN_nm (hz v h2), ih]; rfl
  | op n o x y h1 _ _ ih1 ih2 =>
    have two : ∃ fs, look o = some fs ∧ (fs = (["free", "free"] : List Str) ∨ fs = (["free", "bound"] : List Str)) := by
      simp only [opws, List.mem_cons, List.not_mem_nil, or_false] at h1
      rcases h1 with rfl | rfl | rfl | rfl | rfl | rfl
      · exact ⟨_, by decide, .inl rfl⟩
      · exact ⟨_, by decide, .inl rfl⟩
      · exact ⟨_, by decide, .inl rfl⟩
      · exact ⟨_, by decide, .inl rfl⟩
      · exact ⟨_, by decide, .inl rfl⟩
      · exact ⟨_, by decide, .inr rfl⟩
    obtain ⟨fs, h2, h3⟩ := two
    rw [many2 h2 h3 [x, y] (by rcases h3 with rfl | rfl <;> rfl), List.all_cons, List.all_cons, List.all_nil, ih1, ih2]
    rfl
  | iff n x y z _ _ _ ih1 ih2 ih3 =>
    rw [isX_some (fs := ["free", "free", "free"]) (by decide)]
    show ((true && (true && (true && true))) && (isX x && (isX y && (isX z && true)))) = true
    rw [ih1, ih2, ih3]
    rfl
  | agg n o t xs ys h1 h2 h3 _ _ ih1 ih2 =>
    have hw : o ∈ aggW ∧ ∀ fs, look o = some fs → fs.length = ys.length + 2 := by
      simp only [aggs, List.mem_cons, List.not_mem_nil, or_false, Prod.mk.injEq] at h1
      rcases h1 with ⟨rfl, h⟩ | ⟨rfl, h⟩ | ⟨rfl, h⟩ | ⟨rfl, h⟩
      · exact ⟨by decide, fun fs e => by rw [show look "count" = some (["name", "extra", "bound", "bound"] : List Str) by decide] at e; rw [← Option.some.inj e, h]; rfl⟩
      · exact ⟨by decide, fun fs e => by rw [show look "sum" = some (["name", "extra", "bound", "bound", "bound"] : List Str) by decide] at e; rw [← Option.some.inj e, h]; rfl⟩
      · exact ⟨by decide, fun fs e => by rw [show look "most" = some (["name", "extra", "bound", "bound", "bound", "free"] : List Str) by decide] at e; rw [← Option.some.inj e, h]; rfl⟩
      · exact ⟨by decide, fun fs e => by rw [show look "first" = some (["name", "extra", "bound", "bound", "free"] : List Str) by decide] at e; rw [← Option.some.inj e, h]; rfl⟩
    obtain ⟨fs, lk, _, _, heq⟩ := agg_ok hw.1
    rw [heq (.str t) (.tuple xs) ys (hw.2 fs lk), isN_nm (hz t h2)]
    show (true && (true && (xs ++ ys).all isX)) = true
    rw [List.all_append, List.all_eq_true.mpr ih1, List.all_eq_true.mpr ih2]
    rfl
mutual
theorem dd_of {K : PySem.W.Frag} {ok : Addr → Prop} {H : Hp} : ∀ (x : PyData) (v : V), flatD x = true → Dp K H v x → Dd K ok H v x
  | .none, _, _, h => by cases h; exact .non
  | .bool b, _, _, h => by cases h; exact .bl b
  | .int i, _, _, h => by cases h; exact .int i
  | .str z, _, _, h => by cases h; exact .str z
  | .tuple ds, _, hf, h => by
    cases h with
    | tup h1 h2 => exact .tup h1 (dd_ofs ds _ (by rw [flatD] at hf; exact hf) h2)
  | .list ds, _, hf, h => by simp only [flatD, Bool.false_eq_true] at hf
  | .dict ds, _, hf, h => by cases h
theorem dd_ofs {K : PySem.W.Frag} {ok : Addr → Prop} {H : Hp} : ∀ (xs : List PyData) (vs : List V), flatDs xs = true → DpAll K H vs xs → DdAll K ok H vs xs
  | [], _, _, h => by cases h; exact .nil
  | x :: xs, _, hf, h => by
    rw [flatDs, Bool.and_eq_true] at hf
    cases h with
    | cons h1 h2 => exact .cons (dd_of x _ hf.1 h1) (dd_ofs xs _ hf.2 h2)
end
/-! the words of the end -/
abbrev lastW : List Str := ["key", "if", "at", "count", "sum", "most", "first", "let", "need", "put", "each", "tell", "in", "keys"]
theorem split_last : Txt.split "key if at count sum most first let need put each tell in keys" " " = lastW := by decide +kernel
abbrev things (z : Str) : List PyData := [.tuple [.str "var", .str z], .tuple [.str "cell", .str z, .tuple [.str "int", .int 1], .str "a"], .tuple [.str "cell", .str "a", .tuple [.str "int", .int 1], .str z], .tuple [.str "count", .str z, .tuple [], .tuple [.str "int", .int 1], .tuple [.str "int", .int 1]]]
theorem things_bd : ∀ z, z ∈ lastW → ∀ x, x ∈ things z → Bd 100 20 4 x := by
  have : lastW.all (fun z => (things z).all (bdB 100 20 4)) = true := by decide +kernel
  exact fun z hz x hx => bd_of (List.all_eq_true.mp (List.all_eq_true.mp this z hz) x hx)
theorem tE7 : tE 7 = 2519415 := by decide
theorem sE7 : sE 7 = 223948 := by decide
/-- a deeper one -/
theorem atom_bd (z : Str) (h : bdB 10 1 0 (.str z) = true) : Bd 10 1 0 (.str z) := bd_of h
theorem Bds.two {l s p l' s' : Nat} {x : PyData} {xs : List PyData} (h : Bd l s p x) (t : Bds l' s' p xs) : Bds (l + 2 + l') (s + s') p (x :: xs) := by
  refine ⟨fun y hy => ?_, ?_, ?_⟩
  · rcases List.mem_cons.mp hy with rfl | hy
    · exact h.toEl
    · exact t.els y hy
  · rw [sls]; have := h.len; have := t.len; omega
  · rw [szs]; have := h.sz; have := t.sz; omega
theorem Bds.nil {p : Nat} : Bds 0 0 p [] := ⟨fun y hy => (nomatch hy), Nat.le_refl _, Nat.le_refl _⟩
section
variable {l s p : Nat} {x : PyData}
theorem deep_plus (h : Bd l s p x) (hp : 1 ≤ p) : Bd (l + 60) (s + 10) (p + 1) (.tuple [.str "+", .tuple [.str "key"], x]) :=
  (((Bds.two ((bd_of (l := 10) (s := 1) (p := 0) (show bdB 10 1 0 (.str "+") = true by decide +kernel)).mono (Nat.le_refl _) (Nat.le_refl _) (Nat.zero_le p)) (Bds.two ((bd_of (l := 20) (s := 2) (p := 1) (show bdB 20 2 1 (.tuple [.str "key"]) = true by decide +kernel)).mono (Nat.le_refl _) (Nat.le_refl _) hp) (Bds.two h .nil))).tup)).mono (by omega) (by omega) (by omega)
theorem deep_at {i : Int} (h : Bd l s p x) (hp : 1 ≤ p) (h0 : 0 ≤ i) (h1 : i ≤ 100) : Bd (l + 60) (s + 10) (p + 1) (.tuple [.str "at", x, .tuple [.str "let", .int i]]) := by
  have b : Bd 20 1 0 (.int i) := ⟨⟨by simp only [PyData.depth]; omega, rfl, showable_int (by omega) (by omega), rfl⟩, sl_int (by omega) (by omega), Nat.le_refl _⟩
  have b2 : Bd 35 3 1 (.tuple [.str "let", .int i]) := ((Bds.two (bd_of (l := 8) (s := 1) (p := 0) (show bdB 8 1 0 (.str "let") = true by decide +kernel)) (Bds.two b .nil)).tup).mono (by omega) (by omega) (by omega)
  exact (((Bds.two ((bd_of (l := 8) (s := 1) (p := 0) (show bdB 8 1 0 (.str "at") = true by decide +kernel)).mono (Nat.le_refl _) (Nat.le_refl _) (Nat.zero_le p)) (Bds.two h (Bds.two (b2.mono (Nat.le_refl _) (Nat.le_refl _) hp) .nil))).tup)).mono (by omega) (by omega) (by omega)
theorem deep_cell (h : Bd l s p x) : Bd (l + 60) (s + 10) (p + 1) (.tuple [.str "cell", .str "in", x, .str "in"]) := by
  have b : Bd 8 1 p (.str "in") := (bd_of (l := 8) (s := 1) (p := 0) (show bdB 8 1 0 (.str "in") = true by decide +kernel)).mono (Nat.le_refl _) (Nat.le_refl _) (Nat.zero_le p)
  exact (((Bds.two ((bd_of (l := 8) (s := 1) (p := 0) (show bdB 8 1 0 (.str "cell") = true by decide +kernel)).mono (Nat.le_refl _) (Nat.le_refl _) (Nat.zero_le p)) (Bds.two b (Bds.two h (Bds.two b .nil)))).tup)).mono (by omega) (by omega) (by omega)
end
end L4

namespace L4
open PySem PySem.Spec PyProof.Rows L2 GR AD RZ WX ZE RVT
section
variable {P : Program} {w : World} {K : PySem.W.Frag} {mg : Str → Option Value} {base : Heap}
abbrev s_law : Stmt := topS 32
abbrev N_law : List Str := ["_law_script", "_law_deck_here", "_law_term_here", "_law_turn", "_law_again", "_law_bent_here", "_law_deep", "_law_k", "_law_word", "_law_some", "_law_thing"]
theorem sc_law : FnScope N_law ["_law_script"] (defScope s_law) := ⟨rfl, rfl, rfl, by decide +kernel, rfl, by decide +kernel, by decide +kernel⟩
def sp_law (K : PySem.W.Frag) : Sp := fun vs H Q _ => ∃ (a : Addr) (ns : List Int), vs = [.ref a] ∧ SqL K H a (ns.map V.int) ∧ ∀ H', Q (.bl true) H'
/-- the term that is at hand -/
structure Tm (K : PySem.W.Frag) (d c : Addr) (H : Hp) (v : V) (x : PyData) : Prop where
  dd : Dd K (Off d c) H v x
  isx : isX x = true
  bd : Bd 2519415 223948 14 x
theorem Tm.keep {K : PySem.W.Frag} {d c : Addr} {H H' : Hp} {v : V} {x : PyData} (t : Tm K d c H v x) (k : KeepO (Off d c) H H') : Tm K d c H' v x := ⟨t.dd.keep k, t.isx, t.bd⟩
theorem off_far {d c : Addr} : ∀ a, Off d c a → a ≠ sysModules := fun a h => h.2.2
theorem ok_law {f f_deck f_draw f_world f_term f_right f_bent f_odd f_x : Addr} {fd d_deck d_draw d_world d_term d_right d_bent d_odd d_x : FuncData} {k : Nat} (F : Fun K "law" "law" s_law f fd)
    (G_deck : FnOk P w K mg base CX0 k f_deck d_deck ["_law_script"] (sp_deck K)) (g_deck : mg "_law_deck" = some (.ref f_deck)) (K_deck : PySem.W.keepIn K (.ref f_deck) = true) (b_deck : Binds K d_deck ["_law_script"] [])
    (G_draw : FnOk P w K mg base CX0 k f_draw d_draw ["_law_deck_here", "_law_most"] sp_draw) (g_draw : mg "_law_draw" = some (.ref f_draw)) (K_draw : PySem.W.keepIn K (.ref f_draw) = true) (b_draw : Binds K d_draw ["_law_deck_here", "_law_most"] [])
    (G_world : FnOk P w K mg base CX0 k f_world d_world ["_law_deck_here"] sp_world) (g_world : mg "_law_world" = some (.ref f_world)) (K_world : PySem.W.keepIn K (.ref f_world) = true) (b_world : Binds K d_world ["_law_deck_here"] [])
    (G_term : FnOk P w K mg base CX0 k f_term d_term ps_term (sp_term K 5)) (g_term : mg "_law_term" = some (.ref f_term)) (K_term : PySem.W.keepIn K (.ref f_term) = true) (b_term : Binds K d_term ps_term [])
    (G_right : FnG P w K mg base CX0 k f_right d_right ["_law_thing"] (sp_right K)) (g_right : mg "_law_right" = some (.ref f_right)) (K_right : PySem.W.keepIn K (.ref f_right) = true) (b_right : Binds K d_right ["_law_thing"] [])
    (G_bent : FnOk P w K mg base CX0 k f_bent d_bent ["_law_deck_here", "_law_thing"] (sp_bent K 20)) (g_bent : mg "_law_bent" = some (.ref f_bent)) (K_bent : PySem.W.keepIn K (.ref f_bent) = true) (b_bent : Binds K d_bent ["_law_deck_here", "_law_thing"] [])
    (G_odd : FnOk P w K mg base CX0 k f_odd d_odd ["_law_deck_here"] (sp_odd K)) (g_odd : mg "_law_odd" = some (.ref f_odd)) (K_odd : PySem.W.keepIn K (.ref f_odd) = true) (b_odd : Binds K d_odd ["_law_deck_here"] [])
    (G_x : FnOk P w K mg base CX0 k f_x d_x ["thing"] (sp_isx K)) (g_x : mg "is_expression" = some (.ref f_x)) (K_x : PySem.W.keepIn K (.ref f_x) = true) (b_x : Binds K d_x ["thing"] [])
    (mrange : mg "range" = none) : FnG P w K mg base CX0 (k + 1) f fd ["_law_script"] (sp_law K) := by
  have nd := sc_law.nd
  refine ok_g F sc_law (fun vs H Q E h => ?_) (fun cdv A outer s H vs Q E hg hr h => ?_)
  · obtain ⟨a, ns, rfl, _⟩ := h
    rfl
  obtain ⟨a, ns, rfl, hS, q⟩ := h
  refine ⟨_, (pss_cons (ps_set (i := 1) nd rfl (.inl rfl) (pe_call G_deck hr (by rfl) g_deck K_deck b_deck .nil pass0 (pa_cons (pv 0) pa_nil)))
      (pss_cons (ps_set (i := 2) nd rfl (.inl rfl) (pe_tup (pa_cons pe_str pa_nil)))
      (Evl.pss_cut (ps_for PassesOwn.never rfl (pi_range1 rfl mrange (pa_cons pe_int pa_nil)) (pg_name (i := 3) nd rfl (Or.inl rfl))
      (pss_cons (ps_set (i := 2) nd rfl (.inl rfl) (pe_call G_term hr (by rfl) g_term K_term b_term .nil pass0 (pa_cons (pv 1) (pa_cons (pe_call G_world hr (by rfl) g_world K_world b_world .nil pass0 (pa_cons (pv 1) pa_nil)) (pa_cons pe_int (pa_cons pe_int pa_nil))))))
        (pss_cons (ps_if (PW.pt (pw_or (pt_cmpR op_notBl (pe_call G_x hr (by rfl) g_x K_x b_x .nil pass0 (pa_cons (pv 2) pa_nil)) pe_bl (nomark _)) (pw_or1 (pt_not (pt_val (pe_callG G_right hg hr (by rfl) g_right K_right b_right pass0 (pa_cons (pv 2) pa_nil)))))))
        (pss_one (ps_ret pe_bl))
        pss_nil)
        (pss_one (ps_for PassesOwn.never rfl (pi_range1 rfl mrange (pa_cons pe_int pa_nil)) (pg_name (i := 4) nd rfl (Or.inl rfl))
        (pss_cons (ps_set (i := 5) nd rfl (.inl rfl) (pe_call G_bent hr (by rfl) g_bent K_bent b_bent .nil pass0 (pa_cons (pv 1) (pa_cons (pv 2) pa_nil))))
          (Evl.pss_cut (ps_set (i := 5) nd rfl (.inl rfl) (pe_ifExp (pt_cmpR op_eq (pe_call G_draw hr (by rfl) g_draw K_draw b_draw .nil pass0 (pa_cons (pv 1) (pa_cons pe_int pa_nil))) pe_int (nomark _)) (pe_call G_bent hr (by rfl) g_bent K_bent b_bent .nil pass0 (pa_cons (pv 1) (pa_cons (pv 5) pa_nil))) (pv 5)))
          (pss_one (ps_if (PW.pt (pw_or (pt_not (pt_val (pe_callG G_right hg hr (by rfl) g_right K_right b_right pass0 (pa_cons (pv 5) pa_nil)))) (pw_or1 (pt_not (pt_val (pe_callG G_right hg hr (by rfl) g_right K_right b_right pass0 (pa_cons (pe_call G_odd hr (by rfl) g_odd K_odd b_odd .nil pass0 (pa_cons (pv 1) pa_nil)) pa_nil)))))))
          (pss_one (ps_ret pe_bl))
          pss_nil)))))))))
      (pss_cons (ps_set (i := 6) nd rfl (.inl rfl) (pe_tup (pa_cons pe_str (pa_cons pe_int pa_nil))))
      (Evl.pss_cut (ps_for PassesOwn.never rfl (pi_range1 rfl mrange (pa_cons pe_int pa_nil)) (pg_name (i := 7) nd rfl (Or.inl rfl))
      (pss_one (ps_set (i := 6) nd rfl (.inl rfl) (pe_ix ix_list (pe_lst (pa_cons (pe_tup (pa_cons pe_str (pa_cons (pe_tup (pa_cons pe_str pa_nil)) (pa_cons (pv 6) pa_nil)))) (pa_cons (pe_tup (pa_cons pe_str (pa_cons (pv 6) (pa_cons (pe_tup (pa_cons pe_str (pa_cons (pv 7) pa_nil))) pa_nil)))) (pa_cons (pe_tup (pa_cons pe_str (pa_cons pe_str (pa_cons (pv 6) (pa_cons pe_str pa_nil))))) pa_nil)))) (pe_call G_draw hr (by rfl) g_draw K_draw b_draw .nil pass0 (pa_cons (pv 1) (pa_cons pe_int pa_nil))) (fun _ _ => rfl)))))
      (Evl.pss_cut (ps_for PassesOwn.never rfl (pi_list (pe_split pe_str pe_str)) (pg_name (i := 8) nd rfl (Or.inl rfl))
      (pss_cons (ps_set (i := 9) nd rfl (.inl rfl) (pe_lst (pa_cons (pe_tup (pa_cons pe_str (pa_cons (pv 8) pa_nil))) (pa_cons (pe_tup (pa_cons pe_str (pa_cons (pv 8) (pa_cons (pe_tup (pa_cons pe_str (pa_cons pe_int pa_nil))) (pa_cons pe_str pa_nil))))) (pa_cons (pe_tup (pa_cons pe_str (pa_cons pe_str (pa_cons (pe_tup (pa_cons pe_str (pa_cons pe_int pa_nil))) (pa_cons (pv 8) pa_nil))))) pa_nil)))))
        (Evl.pss_cut (ps_expr (pe_bm PySem.F.plainAttrs_list PySem.F.slot_list_append PySem.F.type_list_append mt_append (pv 9) (pa_cons (pe_tup (pa_cons pe_str (pa_cons (pv 8) (pa_cons (pe_tup pa_nil) (pa_cons (pe_tup (pa_cons pe_str (pa_cons pe_int pa_nil))) (pa_cons (pe_tup (pa_cons pe_str (pa_cons pe_int pa_nil))) pa_nil)))))) pa_nil)))
        (pss_one (ps_if (pt_cmpR (op_neD hr.units) (pe_lc (own := [("_law_thing", 10)]) (tt := tNot (tB (tCall (sp_right K) [] E0 (tCons (tVar 10) tNil)))) rfl nd (pi_list (pv 9)) (blkOk_by (N := N_law) (sc := defScope s_law) (by decide +kernel)) (fun _ _ _ _ _ => (pg_name (i := 10) nd rfl (Or.inl rfl))) (fun _ _ _ _ _ => (pts_one (pt_not (pt_val (pe_callG G_right hg hr (by rfl) g_right K_right b_right pass0 (pa_cons (pv 10) pa_nil)))))) (fun _ _ _ _ _ => (pv 10))) (pe_lst pa_nil) (nomark _))
        (pss_one (ps_ret pe_bl))
        pss_nil)))))
      (pss_one (ps_ret (pe_and (pe_callG G_right hg hr (by rfl) g_right K_right b_right pass0 (pa_cons (pv 6) pa_nil)) (pe_and (pe_callG G_right hg hr (by rfl) g_right K_right b_right pass0 (pa_cons (pv 2) pa_nil)) (pe_one (pe_callG G_right hg hr (by rfl) g_right K_right b_right pass0 (pa_cons (pe_op op_catA (pe_slice sl_tupA (pv 6) po_none (po_some pe_int)) (pe_tup (pa_cons (pv 6) pa_nil))) pa_nil))))))))))))), ?_⟩
  have z1 : 1 ≤ sizeLine := Nat.le_trans (show 1 ≤ 2 by decide) le2
  have z3 : 3 ≤ sizeLine := small_le (show 3 ≤ 1000 by decide)
  have z4 : 4 ≤ sizeLine := small_le (show 4 ≤ 1000 by decide)
  have z5 : 5 ≤ sizeLine := small_le (show 5 ≤ 1000 by decide)
  have hdr5 : dr 5 = 108860 := by decide
  refine ⟨.ref a, rfl, a, ns, rfl, hS, fun H1 d c s1 n1 D1 => ?_⟩
  refine ⟨z1, fun t0 nt0 => ?_⟩
  -- three terms, each bent
  refine ⟨fun σ' H' => ∃ y3 y4 y5 v x, σ' = [some (.ref a), some (.ref d), some v, y3, y4, y5, none, none, none, none, none] ∧ Deck H' d c 600000 ∧ Tm K d c H' v x, ?_, ?_⟩
  · have s2 := same_upd (o := .tup [.str "key"]) nt0
    refine ⟨3, rfl, by decide, by decide, ?_⟩
    refine for_range (n := 3) (fun i σ H' => ∃ y3 y4 y5 v x, σ = [some (.ref a), some (.ref d), some v, y3, y4, y5, none, none, none, none, none] ∧ Deck H' d c (200000 * (i : Int)) ∧ Tm K d c H' v x) ?_ ?_ ?_
    · exact ⟨none, none, none, .ref t0, .tuple [.str "key"], rfl, (D1.same s2).mono (by omega), ⟨dd_newM nt0 [.str "key"] rfl, by decide +kernel, (bd_of (l := 20) (s := 2) (p := 1) (by decide +kernel)).mono (by omega) (by omega) (by omega)⟩⟩
    · rintro i σ H2 hi ⟨y3, y4, y5, v0, x0, rfl, D2, T2⟩
      refine ⟨.ref d, rfl, .ref d, rfl, d, c, _, rfl, D2, by omega, fun H3 u nl zs k3 D3 nu nn W3 => ?_⟩
      refine ⟨d, c, u, nl, _, 5, 0, zs, rfl, D3, by omega, W3, by decide, fun H4 v x k4 D4 W4 hx hv => ?_⟩
      have hb := hx.bd W3.all
      rw [tE7, sE7] at hb
      have T4 : Tm K d c H4 v x := ⟨dd_of x v hx.flat hv, hx.isx W3.all, hb⟩
      clear k4 W4 W3 k3 hv hx
      refine ⟨v, rfl, v, x, Off d c, rfl, T4.dd, T4.bd.sh, Nat.le_trans T4.bd.sz (by decide), fun H5 s5 => ⟨true, true, by rw [T4.isx], rfl, _, rfl, iteF ?_⟩⟩
      refine ⟨v, rfl, v, x, Off d c, rfl, T4.bd.ask (T4.dd.keep (KeepO.of s5)) off_far (by decide) (by decide) (by decide), fun H6 s6 => ⟨_, rfl, iteF ?_⟩⟩
      refine ⟨20, rfl, by decide, by decide, ?_⟩
      refine for_range (n := 20) (fun j σ H' => ∃ z3 y4 y5, σ = [some (.ref a), some (.ref d), some v, z3, y4, y5, none, none, none, none, none] ∧ Deck H' d c (200000 * (i : Int) + 110000 + 200 * (j : Int)) ∧ Tm K d c H' v x) ?_ ?_ ?_
      · exact ⟨_, _, _, rfl, (D4.same (s5.trans s6)).mono (by omega), T4.keep (KeepO.of (s5.trans s6))⟩
      · rintro j σ H7 hj ⟨z3', y4', y5', rfl, D7, T7⟩
        refine ⟨.ref d, rfl, v, rfl, d, c, _, v, x, 14, rfl, D7, by omega, T7.dd, Nat.lt_of_le_of_lt T7.bd.dep (by decide), T7.bd.toEl, Nat.le_trans T7.bd.len (by decide), fun H8 v8 x8 k8 D8 h8 b8 => ?_⟩
        have hl7 := T7.bd.len
        have hs7 := T7.bd.sz
        have hl8 := b8.len
        have hs8 := b8.sz
        have T8 := T7.keep (k8.off D7)
        refine ⟨fun σ' H' => ∃ y4 v9 x9, σ' = [some (.ref a), some (.ref d), some v, z3', y4, some v9, none, none, none, none, none] ∧ Deck H' d c (200000 * (i : Int) + 110000 + 200 * (j : Int) + 130) ∧ Tm K d c H' v x ∧ Dd K (Off d c) H' v9 x9 ∧ Bd 16000000 2000000 30 x9, ?_, ?_⟩
        · refine ⟨.ref d, rfl, d, c, _, 3, rfl, D8, by omega, by decide, by decide, fun H9 r k9 D9 r0 r1 => ⟨rfl, _, rfl, ite2 (fun _ => ?_) (fun _ => ?_)⟩⟩
          · refine ⟨.ref d, rfl, v8, rfl, d, c, _, v8, x8, 17, rfl, D9, by omega, h8.keep (k9.off D8), Nat.lt_of_le_of_lt b8.dep (by decide), b8.toEl, by omega, fun H10 v10 x10 k10 D10 h10 b10 => ?_⟩
            exact ⟨_, v10, x10, rfl, D10.mono (by omega), (T8.keep (k9.off D8)).keep (k10.off D9), h10, b10.mono (by omega) (by omega) (by decide)⟩
          · exact ⟨v8, rfl, _, v8, x8, rfl, D9.mono (by omega), T8.keep (k9.off D8), h8.keep (k9.off D8), b8.mono (by omega) (by omega) (by decide)⟩
        rintro σ' H10 ⟨y4'', v9, x9, rfl, D10, T10, h9, b9⟩
        refine ⟨v9, rfl, v9, x9, Off d c, rfl, b9.ask h9 off_far (by decide) (by decide) (by decide), fun H11 s11 => ⟨_, rfl, iteF ?_⟩⟩
        refine ⟨.ref d, rfl, d, c, _, rfl, D10.same s11, by omega, fun H12 v12 x12 k12 D12 h12 o12 => ⟨v12, x12, Off d c, rfl, (odd_bd x12 o12).ask h12 off_far (by decide) (by decide) (by decide), fun H13 s13 => ⟨_, rfl, iteF ?_⟩⟩⟩
        exact ⟨_, _, _, rfl, (D12.same s13).mono (by omega), ((T10.keep (KeepO.of s11)).keep (k12.off (D10.same s11))).keep (KeepO.of s13)⟩
      · rintro σ H7 ⟨z3', y4', y5', rfl, D7, T7⟩
        exact ⟨_, _, _, v, x, rfl, D7.mono (by omega), T7⟩
    · rintro σ H2 ⟨y3, y4, y5, v, x, rfl, D2, T2⟩
      exact ⟨y3, y4, y5, v, x, rfl, D2.mono (by omega), T2⟩
  rintro σ1 H2 ⟨y3, y4, y5, tv, tx, rfl, D2, T2⟩
  -- one deeper and deeper
  refine ⟨le2, fun t1 nt1 => ?_⟩
  refine ⟨fun σ' H' => ∃ y7 dv dx, σ' = [some (.ref a), some (.ref d), some tv, y3, y4, y5, some dv, y7, none, none, none] ∧ Deck H' d c 700000 ∧ Tm K d c H' tv tx ∧ Dd K (Off d c) H' dv dx ∧ Bd 2000 400 30 dx ∧ isTu dx = true, ?_, ?_⟩
  · have s2 := same_upd (o := .tup [.str "int", .int 1]) nt1
    refine ⟨24, rfl, by decide, by decide, ?_⟩
    refine for_range (n := 24) (fun i σ H' => ∃ y7 dv dx, σ = [some (.ref a), some (.ref d), some tv, y3, y4, y5, some dv, y7, none, none, none] ∧ Deck H' d c (600000 + 10 * (i : Int)) ∧ Tm K d c H' tv tx ∧ Dd K (Off d c) H' dv dx ∧ Bd (100 + 60 * i) (10 + 10 * i) (1 + i) dx ∧ isTu dx = true) ?_ ?_ ?_
    · exact ⟨none, .ref t1, .tuple [.str "int", .int 1], rfl, (D2.same s2).mono (by omega), T2.keep (KeepO.of s2), dd_newM nt1 [.str "int", .int 1] rfl, bd_of (by decide +kernel), rfl⟩
    · rintro i σ H3 hi ⟨y7, dv, dx, rfl, D3, T3, h3, b3, e3⟩
      refine ⟨z1, fun t1 m1 => ⟨dv, rfl, z3, fun t2 m2 => ⟨dv, rfl, .int (0 + (i : Int)), rfl, le2, fun t3 m3 => ⟨z3, fun t4 m4 => ⟨dv, rfl, z4, fun t5 m5 => ⟨z3, fun l nl => ?_⟩⟩⟩⟩⟩⟩
      have a1 := same_upd (o := .tup [.str "key"]) m1
      have a2 := same_upd (o := .tup [.str "+", .ref t1, dv]) m2
      have a3 := same_upd (o := .tup [.str "let", .int (0 + (i : Int))]) m3
      have a4 := same_upd (o := .tup [.str "at", dv, .ref t3]) m4
      have a5 := same_upd (o := .tup [.str "cell", .str "in", dv, .str "in"]) m5
      have a6 := same_upd (o := .lst [.ref t2, .ref t4, .ref t5]) nl
      have e1 : Dd K (Off d c) _ (.ref t1) (.tuple [.str "key"]) := dd_newM m1 [.str "key"] rfl
      have e2 : Dd K (Off d c) _ (.ref t2) (.tuple [.str "+", .tuple [.str "key"], dx]) := dd_tupM m2 (.cons (.str _) (.cons (e1.keep (KeepO.of a2)) (.cons (h3.keep (KeepO.of (a1.trans a2))) .nil)))
      have e3' : Dd K (Off d c) _ (.ref t3) (.tuple [.str "let", .int (0 + (i : Int))]) := dd_newM m3 [.str "let", .int (0 + (i : Int))] rfl
      have e4 : Dd K (Off d c) _ (.ref t4) (.tuple [.str "at", dx, .tuple [.str "let", .int (0 + (i : Int))]]) := dd_tupM m4 (.cons (.str _) (.cons (h3.keep (KeepO.of (a1.trans (a2.trans (a3.trans a4))))) (.cons (e3'.keep (KeepO.of a4)) .nil)))
      have e5 : Dd K (Off d c) _ (.ref t5) (.tuple [.str "cell", .str "in", dx, .str "in"]) := dd_tupM m5 (.cons (.str _) (.cons (.str _) (.cons (h3.keep (KeepO.of (a1.trans (a2.trans (a3.trans (a4.trans a5)))))) (.cons (.str _) .nil))))
      have all : DdAll K (Off d c) _ [.ref t2, .ref t4, .ref t5] [.tuple [.str "+", .tuple [.str "key"], dx], .tuple [.str "at", dx, .tuple [.str "let", .int (0 + (i : Int))]], .tuple [.str "cell", .str "in", dx, .str "in"]] := .cons (e2.keep (KeepO.of (a3.trans (a4.trans (a5.trans a6))))) (.cons (e4.keep (KeepO.of (a5.trans a6))) (.cons (e5.keep (KeepO.of a6)) .nil))
      have s36 := a1.trans (a2.trans (a3.trans (a4.trans (a5.trans a6))))
      have hl := (D3.same (a1.trans (a2.trans (a3.trans (a4.trans a5))))).new nl
      have D4 := D3.same s36
      refine ⟨.ref d, rfl, d, c, _, 3, rfl, D4, by omega, by decide, by decide, fun H5 r k5 D5 r0 r1 => ?_⟩
      obtain ⟨j, rfl⟩ := Int.eq_ofNat_of_zero_le r0
      have hj : j < 3 := by omega
      have all5 := all.keep (k5.off D4)
      obtain ⟨vj, hvj⟩ : ∃ vj, ([.ref t2, .ref t4, .ref t5] : List V)[j]? = some vj := ⟨_, List.getElem?_eq_getElem (by exact hj)⟩
      obtain ⟨xj, hxj, hdj⟩ := dd_at all5 hvj
      refine ⟨l, _, (j : Int), vj, rfl, rfl, .inl (.inl (k5 _ _ hl.1 hl.2 upd_same)), atI_nat hvj, ?_⟩
      have key : Bd (100 + 60 * i + 60) (10 + 10 * i + 10) (1 + i + 1) xj ∧ isTu xj = true := by
        have hm := List.mem_of_getElem? hxj
        simp only [List.mem_cons, List.not_mem_nil, or_false] at hm
        rcases hm with rfl | rfl | rfl
        · exact ⟨deep_plus b3 (by omega), rfl⟩
        · exact ⟨deep_at b3 (by omega) (by omega) (by omega), rfl⟩
        · exact ⟨deep_cell b3, rfl⟩
      exact ⟨_, vj, xj, rfl, D5.mono (by omega), (T3.keep (KeepO.of s36)).keep (k5.off D4), hdj, key.1.mono (by omega) (by omega) (by omega), key.2⟩
    · rintro σ H3 ⟨y7, dv, dx, rfl, D3, T3, h3, b3, e3⟩
      exact ⟨y7, dv, dx, rfl, D3.mono (by omega), T3, h3, b3.mono (by decide) (by decide) (by decide), e3⟩
  rintro σ2 H3 ⟨y7, dv, dx, rfl, D3, T3, h3, b3, e3⟩
  -- the words
  refine ⟨fun σ' H' => ∃ y8 y9, σ' = [some (.ref a), some (.ref d), some tv, y3, y4, y5, some dv, y7, y8, y9, none] ∧ Same H3 H', ?_, ?_⟩
  · refine ⟨⟨_, rfl⟩, _, _, rfl, rfl, by decide, h1000 (by decide), fun B nB => ?_⟩
    rw [split_last]
    have sB := same_upd (o := .lst (lastW.map V.str)) nB
    have hB : upd H3 B (.lst (lastW.map V.str)) B = some (.lst (lastW.map V.str)) := upd_same
    revert sB hB
    generalize upd H3 B (.lst (lastW.map V.str)) = H4
    intro sB hB
    refine ⟨B, rfl, ⟨_, .inl (.inl hB)⟩, ?_⟩
    refine for_list (xs := lastW.map V.str) (fun i σ H' => ∃ y8 y9, σ = [some (.ref a), some (.ref d), some tv, y3, y4, y5, some dv, y7, y8, y9, none] ∧ Same H4 H') ?_ ?_ ?_ ?_
    · exact ⟨none, none, rfl, fun _ _ e => e⟩
    · rintro i σ H' _ ⟨y8, y9, rfl, s4⟩
      exact .inl (.inl (s4 _ _ hB))
    · rintro i v σ H' hx ⟨y8, y9, rfl, s4⟩
      obtain ⟨z, hz, rfl⟩ := List.mem_map.mp (List.mem_of_getElem? hx)
      refine ⟨.str z, rfl, le2, fun t1 m1 => ⟨.str z, rfl, le2, fun t2 m2 => ⟨z4, fun t3 m3 => ⟨le2, fun t4 m4 => ⟨.str z, rfl, z4, fun t5 m5 => ⟨z3, fun l nl => ?_⟩⟩⟩⟩⟩⟩
      refine ⟨fun σ'' H'' => ∃ xs, σ'' = [some (.ref a), some (.ref d), some tv, y3, y4, y5, some dv, y7, some (.str z), some (.ref l), none] ∧ Same H' H'' ∧ H'' l = some (.lst xs) ∧ DdAll K (fun _ => False) H'' xs (things z), ?_, ?_⟩
      · have a1 := same_upd (o := .tup [.str "var", .str z]) m1
        have a2 := same_upd (o := .tup [.str "int", .int 1]) m2
        have a3 := same_upd (o := .tup [.str "cell", .str z, .ref t2, .str "a"]) m3
        have a4 := same_upd (o := .tup [.str "int", .int 1]) m4
        have a5 := same_upd (o := .tup [.str "cell", .str "a", .ref t4, .str z]) m5
        have a6 := same_upd (o := .lst [.ref t1, .ref t3, .ref t5]) nl
        have e1 : Dd K (fun _ => False) _ (.ref t1) (.tuple [.str "var", .str z]) := dd_newM m1 [.str "var", .str z] rfl
        have e2 : Dd K (fun _ => False) _ (.ref t2) (.tuple [.str "int", .int 1]) := dd_newM m2 [.str "int", .int 1] rfl
        have e3 : Dd K (fun _ => False) _ (.ref t3) (.tuple [.str "cell", .str z, .tuple [.str "int", .int 1], .str "a"]) := dd_tupM m3 (.cons (.str _) (.cons (.str _) (.cons (e2.keep (KeepO.of a3)) (.cons (.str _) .nil))))
        have e4 : Dd K (fun _ => False) _ (.ref t4) (.tuple [.str "int", .int 1]) := dd_newM m4 [.str "int", .int 1] rfl
        have e5 : Dd K (fun _ => False) _ (.ref t5) (.tuple [.str "cell", .str "a", .tuple [.str "int", .int 1], .str z]) := dd_tupM m5 (.cons (.str _) (.cons (.str _) (.cons (e4.keep (KeepO.of a5)) (.cons (.str _) .nil))))
        have s15 := a1.trans (a2.trans (a3.trans (a4.trans a5)))
        have fl := s15.free nl
        refine ⟨.ref l, rfl, .inl ⟨rfl, _, .inl (.inl upd_same)⟩, .str z, rfl, Nat.zero_le _, fun t6 m6 => ⟨le2, fun t7 m7 => ⟨le2, fun t8 m8 => ⟨z5, fun t9 m9 => ?_⟩⟩⟩⟩
        have a7 := same_upd (o := .tup []) m6
        have a8 := same_upd (o := .tup [.str "int", .int 1]) m7
        have a9 := same_upd (o := .tup [.str "int", .int 1]) m8
        have a10 := same_upd (o := .tup [.str "count", .str z, .ref t6, .ref t7, .ref t8]) m9
        have e6 : Dd K (fun _ => False) _ (.ref t6) (.tuple []) := dd_newM m6 [] rfl
        have e7 : Dd K (fun _ => False) _ (.ref t7) (.tuple [.str "int", .int 1]) := dd_newM m7 [.str "int", .int 1] rfl
        have e8 : Dd K (fun _ => False) _ (.ref t8) (.tuple [.str "int", .int 1]) := dd_newM m8 [.str "int", .int 1] rfl
        have e9 : Dd K (fun _ => False) _ (.ref t9) (.tuple [.str "count", .str z, .tuple [], .tuple [.str "int", .int 1], .tuple [.str "int", .int 1]]) := dd_tupM m9 (.cons (.str _) (.cons (.str _) (.cons (e6.keep (KeepO.of (a8.trans (a9.trans a10)))) (.cons (e7.keep (KeepO.of (a9.trans a10))) (.cons (e8.keep (KeepO.of a10)) .nil)))))
        have s7 := a7.trans (a8.trans (a9.trans a10))
        have hl7 := s7 _ _ (show _ from upd_same)
        refine ⟨l, _, .ref t9, rfl, rfl, hl7, small1000 (show 3 ≤ 1000 by decide), [.ref t1, .ref t3, .ref t5] ++ [.ref t9], rfl, fun b o e => ?_, upd_same, ?_⟩
        · rw [upd_ne (ne_of_none e fl)]
          exact s7 _ _ (a6 _ _ (s15 _ _ e))
        · have kt := KeepT.lst (o := .lst ([.ref t1, .ref t3, .ref t5] ++ [.ref t9])) hl7
          have ko : KeepO (fun _ => False) _ (upd _ l (.lst ([.ref t1, .ref t3, .ref t5] ++ [.ref t9]))) := ⟨kt.1, kt.2, fun b o hb e => hb.elim⟩
          have all : DdAll K (fun _ => False) _ [.ref t1, .ref t3, .ref t5, .ref t9] (things z) := .cons (e1.keep (KeepO.of (a2.trans (a3.trans (a4.trans (a5.trans (a6.trans s7))))))) (.cons (e3.keep (KeepO.of (a4.trans (a5.trans (a6.trans s7))))) (.cons (e5.keep (KeepO.of (a6.trans s7))) (.cons e9 .nil)))
          exact all.keep ko
      rintro σ'' H5 ⟨xs, rfl, s5, hl5, all⟩
      refine ⟨.ref l, rfl, l, rfl, ⟨_, .inl (.inl hl5)⟩, fun B2 nB2 => ?_⟩
      refine lc_list (xs := xs) (fun j H' => H' B2 = some (.lst []) ∧ ∀ b o, b ≠ B2 → H5 b = some o → H' b = some o) ?_ ?_ ?_ ?_
      · exact ⟨upd_same, fun b o nb e => by rw [upd_ne nb]; exact e⟩
      · rintro j H' _ ⟨_, kb⟩
        exact .inl (.inl (kb _ _ (ne_of_none hl5 nB2) hl5))
      · rintro j u H6 hu ⟨hB2, kb⟩
        have s6 : Same H5 H6 := fun b o e => kb b o (ne_of_none e nB2) e
        obtain ⟨x, hx, hxd⟩ := dd_at (all.keep (KeepO.of s6)) hu
        have hb := things_bd z hz x (List.mem_of_getElem? hx)
        exact ⟨rfl, u, rfl, u, x, (fun _ => False), rfl, hb.ask hxd (fun _ h => h.elim) (by decide) (by decide) (by decide), fun H8 s8 => ⟨_, rfl, iteF ⟨s8 _ _ hB2, fun b o nb e => s8 _ _ (kb b o nb e)⟩⟩⟩
      · rintro H8 ⟨hB2, kb⟩
        have s8 : Same H5 H8 := fun b o e => kb b o (ne_of_none e nB2) e
        refine ⟨Nat.zero_le _, fun l2 nl2 => ⟨.list [], .list [], .lst (.inl (.inl (same_upd nl2 _ _ hB2))) .nil, .lst (.inl (.inl upd_same)) .nil, by decide +kernel, by decide +kernel, _, rfl, ?_⟩⟩
        have : PyData.eqv (.list []) (.list []) = true := by simp only [PyData.eqv, PyData.eqvAll]
        rw [this]
        exact iteF ⟨_, _, rfl, s4.trans (s5.trans (s8.trans (same_upd nl2)))⟩
    · rintro σ H' ⟨y8, y9, rfl, s4⟩
      exact ⟨y8, y9, rfl, sB.trans s4⟩
  rintro σ3 H4 ⟨y8, y9, rfl, s4⟩
  have T4 := T3.keep (KeepO.of s4)
  have h4 := h3.keep (KeepO.of (ok := Off d c) s4)
  refine ⟨dv, rfl, dv, dx, Off d c, rfl, b3.ask h4 off_far (by decide) (by decide) (by decide), fun H5 s5 => ⟨_, rfl, iteT ⟨tv, rfl, tv, tx, Off d c, rfl, T4.bd.ask (T4.dd.keep (KeepO.of s5)) off_far (by decide) (by decide) (by decide), fun H6 s6 => ⟨_, rfl, iteT ?_⟩⟩⟩⟩
  have h6 := h4.keep (KeepO.of (ok := Off d c) (s5.trans s6))
  cases dx with
  | tuple ds =>
    obtain ⟨da, us, rfl, hus, hds⟩ := L4.Dd.tup_inv h6
    have lu := hds.len
    have hll := sls_len ds
    have hsl := b3.len
    rw [sl] at hsl
    refine ⟨.ref da, rfl, 1, rfl, slice_any hus fun H7 p7 s7 h7 => ⟨.ref da, rfl, z1, fun p8 n8 => ?_⟩⟩
    have s8 := same_upd (o := .tup [.ref da]) n8
    have h7' : SqT K H7 p7 (us.take 1) := by
      by_cases e : 1 ≤ us.length
      · rw [← cut_to e]; exact h7
      · have : us = [] := List.eq_nil_of_length_eq_zero (by omega)
        subst this
        exact h7
    refine cat_any ((KeepT.of s8).seqt h7') (.inl (.inl upd_same)) (by rw [List.length_take, List.length_singleton]; exact small_le (by omega)) fun H9 p9 s9 h9 => ?_
    have s79 := s7.trans (s8.trans s9)
    have hd9 : DdAll K (Off d c) H9 (us.take 1 ++ [.ref da]) (ds.take 1 ++ [.tuple ds]) := ((dd_take 1 hds).keep (KeepO.of s79)).app (.cons (h6.keep (KeepO.of s79)) .nil)
    have bs : Bds 2000 400 29 ds := (Bd.inv (p := 29) b3).mono (by omega) (by omega) (Nat.le_refl _)
    have bt := bs.sub (A := ds.take 1) (B := ds.drop 1) (List.take_append_drop 1 ds).symm
    have fin : Bd 5000 900 31 (.tuple (ds.take 1 ++ [.tuple ds])) := by
      refine (Bds.tup (l := 4900) (s := 850) (p := 30) ⟨mem3 (fun y hy => (bt.1.els y hy).mono (by omega)) (mem1 b3.toEl), ?_, ?_⟩).mono (by omega) (by omega) (by omega)
      · have h1 := bt.1.len
        have h2 := b3.len
        rw [sls_append, sls, sls]
        omega
      · have h1 := bt.1.sz
        have h2 := b3.sz
        rw [szs_append, szs, szs]
        omega
    exact ⟨.ref p9, _, Off d c, rfl, fin.ask (.tup h9 hd9) off_far (by decide) (by decide) (by decide), fun H10 s10 => q _⟩
  | _ => exact absurd e3 (by simp [isTu])
end
end L4

namespace L4
open PySem PySem.Spec PyProof.Rows L2 GR WX AD
/-- a def stands in the text's top -/
def Has (K : PySem.W.Frag) (x : Str) (st : Stmt) : Prop := ∃ (f : Addr) (fd : FuncData), PySem.W.nsIn K mainGlobals x = some (some (.ref f)) ∧ Fun K x x st f fd
theorem has_mk {K : PySem.W.Frag} {x : Str} {st : Stmt} {f : Addr} {oc : Value} {od an : Option Addr} {osl : Array (Option Value)} {kV doc pm cdv ct : Value} (a : PySem.W.nsIn K mainGlobals x = some (some (.ref f)))
    (l : K.lookup f = some ⟨oc, od, .func (PySem.W.fnOf x x (defArgs st) (defBody st) (defScope st) .none kV doc pm an cdv ct), osl⟩) (c : PySem.W.codeIn K cdv x = true) (k : PySem.W.keepIn K (.ref f) = true) : Has K x st := ⟨f, _, a, fun_mk l c k⟩
theorem FnG.mono {P : Program} {w : World} {K : PySem.W.Frag} {mg : Str → Option Value} {base : Heap} {CX : CXT} {j k : Nat} {f : Addr} {fd : FuncData} {ps : List Str} {sp : Sp} (F : FnG P w K mg base CX j f fd ps sp) (h : j ≤ k) : FnG P w K mg base CX k f fd ps sp :=
  ⟨F.size, fun A outer s H args us vs Q E hg hr => F.go A outer s H args us vs Q E hg (hr.mono h)⟩
theorem ktx_mk {K : PySem.W.Frag} {p : Addr} {fs : List Str} {d : Option Addr} {its : Array Value} {n : Nat} {sl : Array (Option Value)} (l : K.lookup p = some ⟨.type "tuple", d, .seq its n, sl⟩) (hv : Vals (fs.map V.str) its.toList) (hs : fs.length ≤ 100) : KTx K p fs := fun H =>
  .inr ⟨_, its, n, l, rfl, rfl, by have h1 := hv.length; rw [List.length_map] at h1; have h2 : its.toList.length = its.size := Array.length_toList ..; exact small_le (by omega), hv⟩
theorem tab_no {w : World} {es : Array DictEntry} (kl : PySem.W.KeysLit w.params es.toList) (hk : (es.toList.all fun e => table.any fun p => Value.isStrOf p.1 e.key) = true) (wd : Str) (h : look wd = none) : findBy Value.isStrOf es wd = none := by
  have q : (es.find? fun e => Value.isStrOf wd e.key) = none := by
    rw [Array.find?_eq_none]
    intro e he hq
    have he' := Array.mem_toList_iff.mpr he
    obtain ⟨x, t, e1, _⟩ := kl.all e he'
    have h1 := List.all_eq_true.mp hk e he'
    rw [List.any_eq_true] at h1
    obtain ⟨p, hp, h2⟩ := h1
    rw [e1] at hq h2
    have e3 : x = wd := eq_of_beq (show (x == wd) = true from hq)
    have e4 : x = p.1 := eq_of_beq (show (x == p.1) = true from h2)
    unfold look at h
    rw [Option.map_eq_none_iff, List.find?_eq_none] at h
    exact h p hp (decide_eq_true (e4.symm.trans e3))
  show (es.find? fun e => Value.isStrOf wd e.key).map (·.val) = none
  rw [q]
  rfl
theorem flds_mk {K : PySem.W.Frag} {w : World} {fA : Addr} {es : Array DictEntry} {n : Nat} (l : K.lookup fA = some ⟨.type "dict", none, .dict es n, #[]⟩) (kl : PySem.W.KeysLit w.params es.toList) (hk : (es.toList.all fun e => table.any fun p => Value.isStrOf p.1 e.key) = true) (low : (fA == sysModules) = false)
    {p0 : Addr} (q0 : PySem.W.nsIn K fA "int" = some (some (.ref p0))) (r0 : KTx K p0 ["value"])
    {p1 : Addr} (q1 : PySem.W.nsIn K fA "var" = some (some (.ref p1))) (r1 : KTx K p1 ["name"])
    {p2 : Addr} (q2 : PySem.W.nsIn K fA "key" = some (some (.ref p2))) (r2 : KTx K p2 [])
    {p3 : Addr} (q3 : PySem.W.nsIn K fA "let" = some (some (.ref p3))) (r3 : KTx K p3 ["position"])
    {p4 : Addr} (q4 : PySem.W.nsIn K fA "cell" = some (some (.ref p4))) (r4 : KTx K p4 ["name", "free", "name"])
    {p5 : Addr} (q5 : PySem.W.nsIn K fA "+" = some (some (.ref p5))) (r5 : KTx K p5 ["free", "free"])
    {p6 : Addr} (q6 : PySem.W.nsIn K fA "-" = some (some (.ref p6))) (r6 : KTx K p6 ["free", "free"])
    {p7 : Addr} (q7 : PySem.W.nsIn K fA "*" = some (some (.ref p7))) (r7 : KTx K p7 ["free", "free"])
    {p8 : Addr} (q8 : PySem.W.nsIn K fA "<" = some (some (.ref p8))) (r8 : KTx K p8 ["free", "free"])
    {p9 : Addr} (q9 : PySem.W.nsIn K fA "=" = some (some (.ref p9))) (r9 : KTx K p9 ["free", "free"])
    {p10 : Addr} (q10 : PySem.W.nsIn K fA "if" = some (some (.ref p10))) (r10 : KTx K p10 ["free", "free", "free"])
    {p11 : Addr} (q11 : PySem.W.nsIn K fA "at" = some (some (.ref p11))) (r11 : KTx K p11 ["free", "bound"])
    {p12 : Addr} (q12 : PySem.W.nsIn K fA "count" = some (some (.ref p12))) (r12 : KTx K p12 ["name", "extra", "bound", "bound"])
    {p13 : Addr} (q13 : PySem.W.nsIn K fA "sum" = some (some (.ref p13))) (r13 : KTx K p13 ["name", "extra", "bound", "bound", "bound"])
    {p14 : Addr} (q14 : PySem.W.nsIn K fA "most" = some (some (.ref p14))) (r14 : KTx K p14 ["name", "extra", "bound", "bound", "bound", "free"])
    {p15 : Addr} (q15 : PySem.W.nsIn K fA "first" = some (some (.ref p15))) (r15 : KTx K p15 ["name", "extra", "bound", "bound", "free"])
    : Tab K w fA es n ∧ Flds K w fA := by
  have ex : ∀ wd fs, (wd, fs) ∈ table → ∃ p, PySem.W.nsIn K fA wd = some (some (.ref p)) ∧ KTx K p fs := by
    intro wd fs h
    simp only [table, List.mem_cons, List.not_mem_nil, or_false, Prod.mk.injEq] at h
    rcases h with ⟨rfl, rfl⟩ | ⟨rfl, rfl⟩ | ⟨rfl, rfl⟩ | ⟨rfl, rfl⟩ | ⟨rfl, rfl⟩ | ⟨rfl, rfl⟩ | ⟨rfl, rfl⟩ | ⟨rfl, rfl⟩ | ⟨rfl, rfl⟩ | ⟨rfl, rfl⟩ | ⟨rfl, rfl⟩ | ⟨rfl, rfl⟩ | ⟨rfl, rfl⟩ | ⟨rfl, rfl⟩ | ⟨rfl, rfl⟩ | ⟨rfl, rfl⟩
    · exact ⟨p0, q0, r0⟩
    · exact ⟨p1, q1, r1⟩
    · exact ⟨p2, q2, r2⟩
    · exact ⟨p3, q3, r3⟩
    · exact ⟨p4, q4, r4⟩
    · exact ⟨p5, q5, r5⟩
    · exact ⟨p6, q6, r6⟩
    · exact ⟨p7, q7, r7⟩
    · exact ⟨p8, q8, r8⟩
    · exact ⟨p9, q9, r9⟩
    · exact ⟨p10, q10, r10⟩
    · exact ⟨p11, q11, r11⟩
    · exact ⟨p12, q12, r12⟩
    · exact ⟨p13, q13, r13⟩
    · exact ⟨p14, q14, r14⟩
    · exact ⟨p15, q15, r15⟩
  refine ⟨⟨l, kl, low, fun wd fs h => ?_, tab_no kl hk⟩, fun wd fs h => ?_⟩
  · obtain ⟨p, h1, h2⟩ := ex wd fs h
    exact ⟨p, PySem.W.find_K l h1, h2⟩
  · obtain ⟨p, h1, h2⟩ := ex wd fs h
    exact ⟨p, ⟨es, n, _, l, kl, h1, rfl⟩, h2⟩
theorem all_mk {P : Program} {w : World} {K : PySem.W.Frag} {h : Heap} {mg : Str → Option Value} {fa : Addr} (X : K.In h) (G : h.Ns mainGlobals mg) (hfa : mg "law" = some (.ref fa))
    (X_is_integer : Has K "is_integer" s_is_integer)
    (X_is_value : Has K "is_value" s_is_value)
    (X_is_name : Has K "is_name" s_is_name)
    (X_word_of : Has K "word_of" s_word_of)
    (X_is_expression : Has K "is_expression" s_is_expression)
    (X_has_form : Has K "has_form" s_has_form)
    (X_fits : Has K "fits" s_fits)
    (X_contained : Has K "contained" s_contained)
    (X_contained_of : Has K "contained_of" s_contained_of)
    (X_law_deck : Has K "_law_deck" s_law_deck)
    (X_law_draw : Has K "_law_draw" s_law_draw)
    (X_law_pick : Has K "_law_pick" s_law_pick)
    (X_law_names : Has K "_law_names" s_law_names)
    (X_law_world : Has K "_law_world" s_law_world)
    (X_law_leaf : Has K "_law_leaf" s_law_leaf)
    (X_law_rows : Has K "_law_rows" s_law_rows)
    (X_law_term : Has K "_law_term" s_law_term)
    (X_law_is_name : Has K "_law_is_name" s_law_is_name)
    (X_law_is_whole : Has K "_law_is_whole" s_law_is_whole)
    (X_law_is : Has K "_law_is" s_law_is)
    (X_law_odd : Has K "_law_odd" s_law_odd)
    (X_law_bent : Has K "_law_bent" s_law_bent)
    (X_law_right : Has K "_law_right" s_law_right)
    (X_law : Has K "law" s_law)
    (z_list : PySem.W.nsIn K mainGlobals "list" = some none) (z_sum : PySem.W.nsIn K mainGlobals "sum" = some none) (z_len : PySem.W.nsIn K mainGlobals "len" = some none) (z_range : PySem.W.nsIn K mainGlobals "range" = some none) (z_int : PySem.W.nsIn K mainGlobals "int" = some none) (z_bool : PySem.W.nsIn K mainGlobals "bool" = some none) (z_repr : PySem.W.nsIn K mainGlobals "repr" = some none) (z_tuple : PySem.W.nsIn K mainGlobals "tuple" = some none) (z_str : PySem.W.nsIn K mainGlobals "str" = some none) (z_isinstance : PySem.W.nsIn K mainGlobals "isinstance" = some none) (z_all : PySem.W.nsIn K mainGlobals "all" = some none) (z_zip : PySem.W.nsIn K mainGlobals "zip" = some none)
    {tk_LIMIT : Tok} (c_LIMIT : PySem.W.nsIn K mainGlobals "LIMIT" = some (some (.int LIM tk_LIMIT))) {tk_LONGEST_NAME : Tok} (c_LONGEST_NAME : PySem.W.nsIn K mainGlobals "LONGEST_NAME" = some (some (.int 8 tk_LONGEST_NAME)))
    {fA : Addr} {es : Array DictEntry} {nF : Nat} (z_FIELDS : PySem.W.nsIn K mainGlobals "FIELDS" = some (some (.ref fA))) (T_FIELDS : Tab K w fA es nF ∧ Flds K w fA) {aA : Addr} (z_ALL : PySem.W.nsIn K mainGlobals "ALL_PARTS" = some (some (.ref aA))) (T_ALL : KTx K aA W2) {aW : Addr} (z_WORDS : PySem.W.nsIn K mainGlobals "WORDS" = some (some (.ref aW))) (T_WORDS : KTx K aW BARW) {tk_LET : Tok} (z_LETTERS : PySem.W.nsIn K mainGlobals "LETTERS" = some (some (.str L26 tk_LET)))
    : ∃ fd : FuncData, (∀ (s : Shared) (v : Value), BindsTo s fd ⟨[v], []⟩ [("_law_script", v)]) ∧ ∀ base : Heap, K.In base → base.Ns mainGlobals mg → FnG P w K mg base CX0 43 fa fd ["_law_script"] (sp_law K) := by
  obtain ⟨fis_integer, dis_integer, ais_integer, Fis_integer⟩ := X_is_integer
  have gis_integer := PySem.W.mg_of X G ais_integer
  have bis_integer : Binds K dis_integer ["thing"] [] := Fis_integer.binds (ps := ["thing"]) fun _ _ _ _ _ _ us hl => match us, hl with | [_], _ => rfl
  obtain ⟨fis_value, dis_value, ais_value, Fis_value⟩ := X_is_value
  have gis_value := PySem.W.mg_of X G ais_value
  have bis_value : Binds K dis_value ["thing"] [] := Fis_value.binds (ps := ["thing"]) fun _ _ _ _ _ _ us hl => match us, hl with | [_], _ => rfl
  obtain ⟨fis_name, dis_name, ais_name, Fis_name⟩ := X_is_name
  have gis_name := PySem.W.mg_of X G ais_name
  have bis_name : Binds K dis_name ["thing"] [] := Fis_name.binds (ps := ["thing"]) fun _ _ _ _ _ _ us hl => match us, hl with | [_], _ => rfl
  obtain ⟨fword_of, dword_of, aword_of, Fword_of⟩ := X_word_of
  have gword_of := PySem.W.mg_of X G aword_of
  have bword_of : Binds K dword_of ["thing"] [] := Fword_of.binds (ps := ["thing"]) fun _ _ _ _ _ _ us hl => match us, hl with | [_], _ => rfl
  obtain ⟨fis_expression, dis_expression, ais_expression, Fis_expression⟩ := X_is_expression
  have gis_expression := PySem.W.mg_of X G ais_expression
  have bis_expression : Binds K dis_expression ["thing"] [] := Fis_expression.binds (ps := ["thing"]) fun _ _ _ _ _ _ us hl => match us, hl with | [_], _ => rfl
  obtain ⟨fhas_form, dhas_form, ahas_form, Fhas_form⟩ := X_has_form
  have ghas_form := PySem.W.mg_of X G ahas_form
  have bhas_form : Binds K dhas_form ["thing"] [] := Fhas_form.binds (ps := ["thing"]) fun _ _ _ _ _ _ us hl => match us, hl with | [_], _ => rfl
  obtain ⟨ffits, dfits, afits, Ffits⟩ := X_fits
  have gfits := PySem.W.mg_of X G afits
  have bfits : Binds K dfits ["kind", "part"] [] := Ffits.binds (ps := ["kind", "part"]) fun _ _ _ _ _ _ us hl => match us, hl with | [_, _], _ => rfl
  obtain ⟨fcontained, dcontained, acontained, Fcontained⟩ := X_contained
  have gcontained := PySem.W.mg_of X G acontained
  have bcontained : Binds K dcontained ["expression"] [] := Fcontained.binds (ps := ["expression"]) fun _ _ _ _ _ _ us hl => match us, hl with | [_], _ => rfl
  obtain ⟨fcontained_of, dcontained_of, acontained_of, Fcontained_of⟩ := X_contained_of
  have gcontained_of := PySem.W.mg_of X G acontained_of
  have bcontained_of : Binds K dcontained_of ["expression", "wanted"] [] := Fcontained_of.binds (ps := ["expression", "wanted"]) fun _ _ _ _ _ _ us hl => match us, hl with | [_, _], _ => rfl
  obtain ⟨f_law_deck, d_law_deck, a_law_deck, F_law_deck⟩ := X_law_deck
  have g_law_deck := PySem.W.mg_of X G a_law_deck
  have b_law_deck : Binds K d_law_deck ["_law_script"] [] := F_law_deck.binds (ps := ["_law_script"]) fun _ _ _ _ _ _ us hl => match us, hl with | [_], _ => rfl
  obtain ⟨f_law_draw, d_law_draw, a_law_draw, F_law_draw⟩ := X_law_draw
  have g_law_draw := PySem.W.mg_of X G a_law_draw
  have b_law_draw : Binds K d_law_draw ["_law_deck_here", "_law_most"] [] := F_law_draw.binds (ps := ["_law_deck_here", "_law_most"]) fun _ _ _ _ _ _ us hl => match us, hl with | [_, _], _ => rfl
  obtain ⟨f_law_pick, d_law_pick, a_law_pick, F_law_pick⟩ := X_law_pick
  have g_law_pick := PySem.W.mg_of X G a_law_pick
  have b_law_pick : Binds K d_law_pick ["_law_deck_here", "_law_some"] [] := F_law_pick.binds (ps := ["_law_deck_here", "_law_some"]) fun _ _ _ _ _ _ us hl => match us, hl with | [_, _], _ => rfl
  obtain ⟨f_law_names, d_law_names, a_law_names, F_law_names⟩ := X_law_names
  have g_law_names := PySem.W.mg_of X G a_law_names
  have b_law_names : Binds K d_law_names ["_law_deck_here", "_law_many"] [] := F_law_names.binds (ps := ["_law_deck_here", "_law_many"]) fun _ _ _ _ _ _ us hl => match us, hl with | [_, _], _ => rfl
  obtain ⟨f_law_world, d_law_world, a_law_world, F_law_world⟩ := X_law_world
  have g_law_world := PySem.W.mg_of X G a_law_world
  have b_law_world : Binds K d_law_world ["_law_deck_here"] [] := F_law_world.binds (ps := ["_law_deck_here"]) fun _ _ _ _ _ _ us hl => match us, hl with | [_], _ => rfl
  obtain ⟨f_law_leaf, d_law_leaf, a_law_leaf, F_law_leaf⟩ := X_law_leaf
  have g_law_leaf := PySem.W.mg_of X G a_law_leaf
  have b_law_leaf : Binds K d_law_leaf ["_law_deck_here", "_law_world_here"] [] := F_law_leaf.binds (ps := ["_law_deck_here", "_law_world_here"]) fun _ _ _ _ _ _ us hl => match us, hl with | [_, _], _ => rfl
  obtain ⟨f_law_rows, d_law_rows, a_law_rows, F_law_rows⟩ := X_law_rows
  have g_law_rows := PySem.W.mg_of X G a_law_rows
  have b_law_rows : Binds K d_law_rows ["_law_deck_here", "_law_world_here", "_law_deep", "_law_inside"] [] := F_law_rows.binds (ps := ["_law_deck_here", "_law_world_here", "_law_deep", "_law_inside"]) fun _ _ _ _ _ _ us hl => match us, hl with | [_, _, _, _], _ => rfl
  obtain ⟨f_law_term, d_law_term, a_law_term, F_law_term⟩ := X_law_term
  have g_law_term := PySem.W.mg_of X G a_law_term
  have b_law_term : Binds K d_law_term ["_law_deck_here", "_law_world_here", "_law_deep", "_law_inside"] [] := F_law_term.binds (ps := ["_law_deck_here", "_law_world_here", "_law_deep", "_law_inside"]) fun _ _ _ _ _ _ us hl => match us, hl with | [_, _, _, _], _ => rfl
  obtain ⟨f_law_is_name, d_law_is_name, a_law_is_name, F_law_is_name⟩ := X_law_is_name
  have g_law_is_name := PySem.W.mg_of X G a_law_is_name
  have b_law_is_name : Binds K d_law_is_name ["_law_thing"] [] := F_law_is_name.binds (ps := ["_law_thing"]) fun _ _ _ _ _ _ us hl => match us, hl with | [_], _ => rfl
  obtain ⟨f_law_is_whole, d_law_is_whole, a_law_is_whole, F_law_is_whole⟩ := X_law_is_whole
  have g_law_is_whole := PySem.W.mg_of X G a_law_is_whole
  have b_law_is_whole : Binds K d_law_is_whole ["_law_thing", "_law_low"] [] := F_law_is_whole.binds (ps := ["_law_thing", "_law_low"]) fun _ _ _ _ _ _ us hl => match us, hl with | [_, _], _ => rfl
  obtain ⟨f_law_is, d_law_is, a_law_is, F_law_is⟩ := X_law_is
  have g_law_is := PySem.W.mg_of X G a_law_is
  have b_law_is : Binds K d_law_is ["_law_thing"] [] := F_law_is.binds (ps := ["_law_thing"]) fun _ _ _ _ _ _ us hl => match us, hl with | [_], _ => rfl
  obtain ⟨f_law_odd, d_law_odd, a_law_odd, F_law_odd⟩ := X_law_odd
  have g_law_odd := PySem.W.mg_of X G a_law_odd
  have b_law_odd : Binds K d_law_odd ["_law_deck_here"] [] := F_law_odd.binds (ps := ["_law_deck_here"]) fun _ _ _ _ _ _ us hl => match us, hl with | [_], _ => rfl
  obtain ⟨f_law_bent, d_law_bent, a_law_bent, F_law_bent⟩ := X_law_bent
  have g_law_bent := PySem.W.mg_of X G a_law_bent
  have b_law_bent : Binds K d_law_bent ["_law_deck_here", "_law_thing"] [] := F_law_bent.binds (ps := ["_law_deck_here", "_law_thing"]) fun _ _ _ _ _ _ us hl => match us, hl with | [_, _], _ => rfl
  obtain ⟨f_law_right, d_law_right, a_law_right, F_law_right⟩ := X_law_right
  have g_law_right := PySem.W.mg_of X G a_law_right
  have b_law_right : Binds K d_law_right ["_law_thing"] [] := F_law_right.binds (ps := ["_law_thing"]) fun _ _ _ _ _ _ us hl => match us, hl with | [_], _ => rfl
  obtain ⟨f_law0, d_law0, a_law0, F_law0⟩ := X_law
  have e := hfa.symm.trans (PySem.W.mg_of X G a_law0)
  cases e
  have mlist := PySem.W.mg_none_of X G z_list
  have msum := PySem.W.mg_none_of X G z_sum
  have mlen := PySem.W.mg_none_of X G z_len
  have mrange := PySem.W.mg_none_of X G z_range
  have mint := PySem.W.mg_none_of X G z_int
  have mbool := PySem.W.mg_none_of X G z_bool
  have mrepr := PySem.W.mg_none_of X G z_repr
  have mtuple := PySem.W.mg_none_of X G z_tuple
  have mstr := PySem.W.mg_none_of X G z_str
  have misinstance := PySem.W.mg_none_of X G z_isinstance
  have mall := PySem.W.mg_none_of X G z_all
  have mzip := PySem.W.mg_none_of X G z_zip
  have mLIMIT := PySem.W.mg_of X G c_LIMIT
  have mLONGEST_NAME := PySem.W.mg_of X G c_LONGEST_NAME
  have mFIELDS := PySem.W.mg_of X G z_FIELDS
  have mALL := PySem.W.mg_of X G z_ALL
  have mWORDS := PySem.W.mg_of X G z_WORDS
  have mLETTERS := PySem.W.mg_of X G z_LETTERS
  obtain ⟨oc, od, kV, doc, pm, an, cdv, ct, osl, hfd, _, _⟩ := F_law0.ex
  refine ⟨d_law0, fun s v => ?_, fun base _ _ => ?_⟩
  · subst hfd
    exact .of_eq rfl
  · have Gdraw := ok_draw (P := P) (w := w) (mg := mg) (base := base) (k := 0) F_law_draw
    have Gpick := ok_pick (k := 1) F_law_pick Gdraw g_law_draw F_law_draw.kp b_law_draw mlen
    have Gnames := ok_names (k := 2) F_law_names (Gdraw.mono (by decide)) g_law_draw F_law_draw.kp b_law_draw Gpick g_law_pick F_law_pick.kp b_law_pick mrange mlen
    have Gworld := ok_world (k := 3) F_law_world (Gdraw.mono (by decide)) g_law_draw F_law_draw.kp b_law_draw (Gpick.mono (by decide)) g_law_pick F_law_pick.kp b_law_pick Gnames g_law_names F_law_names.kp b_law_names
    have Gdeck := ok_deck (P := P) (w := w) (mg := mg) (base := base) (k := 0) F_law_deck mlist msum mlen
    have Gleaf := ok_leaf (k := 2) F_law_leaf (Gdraw.mono (by decide)) g_law_draw F_law_draw.kp b_law_draw Gpick g_law_pick F_law_pick.kp b_law_pick
    have Gterm := ok_terms (k := 3) F_law_term F_law_rows (Gdraw.mono (by decide)) g_law_draw F_law_draw.kp b_law_draw (Gpick.mono (by decide)) g_law_pick F_law_pick.kp b_law_pick Gleaf g_law_leaf F_law_leaf.kp b_law_leaf g_law_rows F_law_rows.kp b_law_rows g_law_term F_law_term.kp b_law_term mrange mtuple 5
    have Gii := ok_is_integer (P := P) (w := w) (mg := mg) (base := base) (k := 0) Fis_integer misinstance mint mbool
    have Giv := ok_is_value (k := 1) Fis_value Gii gis_integer Fis_integer.kp bis_integer mLIMIT
    have Gin := ok_is_name (P := P) (w := w) (mg := mg) (base := base) (k := 0) Fis_name misinstance mstr mlen mall mWORDS T_WORDS mLONGEST_NAME mLETTERS
    have Gwo := ok_word_of (P := P) (w := w) (mg := mg) (base := base) (k := 0) Fword_of misinstance mtuple mstr
    have Gfi := ok_fits (k := 2) Ffits Giv gis_value Fis_value.kp bis_value (Gin.mono (by decide)) gis_name Fis_name.kp bis_name (Gii.mono (by decide)) gis_integer Fis_integer.kp bis_integer misinstance mtuple
    have Ghf := ok_has_form (k := 3) Fhas_form (Gwo.mono (by decide)) gword_of Fword_of.kp bword_of Gfi gfits Ffits.kp bfits mFIELDS T_FIELDS.1 mlen mzip mall
    have Gof := ok_contained_of (P := P) (w := w) (mg := mg) (base := base) (k := 0) Fcontained_of mFIELDS T_FIELDS.2 mzip
    have Gcon := ok_contained (k := 1) Fcontained Gof gcontained_of Fcontained_of.kp bcontained_of mALL T_ALL
    have Gx := ok_is_expression (k := 4) Fis_expression Ghf ghas_form Fhas_form.kp bhas_form (Gcon.mono (by decide)) gcontained Fcontained.kp bcontained
    have Glw := ok_law_whole (P := P) (w := w) (mg := mg) (base := base) (k := 0) F_law_is_whole misinstance mint mbool
    have Gln := ok_law_is_name (P := P) (w := w) (mg := mg) (base := base) (k := 0) F_law_is_name misinstance mstr mlen
    have Gli := ok_law_is (k := 1) F_law_is Glw g_law_is_whole F_law_is_whole.kp b_law_is_whole Gln g_law_is_name F_law_is_name.kp b_law_is_name g_law_is F_law_is.kp b_law_is misinstance mtuple mstr mlen 40
    have Gri := ok_right (k := 41) F_law_right Gli g_law_is F_law_is.kp b_law_is (Gx.mono (by decide)) gis_expression Fis_expression.kp bis_expression mrepr
    have God := ok_odd (k := 2) F_law_odd Gpick g_law_pick F_law_pick.kp b_law_pick
    have Gbe := ok_bent (k := 3) F_law_bent (Gdraw.mono (by decide)) g_law_draw F_law_draw.kp b_law_draw (Gpick.mono (by decide)) g_law_pick F_law_pick.kp b_law_pick God g_law_odd F_law_odd.kp b_law_odd g_law_bent F_law_bent.kp b_law_bent misinstance mtuple mlen mlist 20
    exact ok_law (k := 42) F_law0 (Gdeck.mono (by decide)) g_law_deck F_law_deck.kp b_law_deck (Gdraw.mono (by decide)) g_law_draw F_law_draw.kp b_law_draw (Gworld.mono (by decide)) g_law_world F_law_world.kp b_law_world (Gterm.mono (by decide)) g_law_term F_law_term.kp b_law_term Gri g_law_right F_law_right.kp b_law_right (Gbe.mono (by decide)) g_law_bent F_law_bent.kp b_law_bent (God.mono (by decide)) g_law_odd F_law_odd.kp b_law_odd (Gx.mono (by decide)) gis_expression Fis_expression.kp bis_expression mrange
end L4
open PySem PySem.W PyProof.Rows
set_option maxHeartbeats 0 in
theorem PySem.Challenge.cw_lookdone_k04_what_is_an_expression_holds : PySem.Challenge.rw_lookdone_k04_what_is_an_expression.Holds := by
  w_on; o_law; k_head; (case hw => w_witness2)
  k_fill
  refine GR.walk_g (l := PySem.Challenge.rw_lookdone_k04_what_is_an_expression) (n := 63) (k := 43) (x := "_law_script") (sp := L4.sp_law) rfl (by decide) rfl ⟨rfl, by decide, by decide⟩ (fun w h Y => PySem.W.kIn_of Y) ?F (fun _ _ a ns hl _ hS => ⟨a, ns, rfl, hS, fun _ => rfl⟩)
  case F =>
    intro w mg fa h KX G hmg
    refine' L4.all_mk KX G hmg (L4.has_mk ?a_is_integer ?l_is_integer ?c_is_integer ?k_is_integer) (L4.has_mk ?a_is_value ?l_is_value ?c_is_value ?k_is_value) (L4.has_mk ?a_is_name ?l_is_name ?c_is_name ?k_is_name) (L4.has_mk ?a_word_of ?l_word_of ?c_word_of ?k_word_of) (L4.has_mk ?a_is_expression ?l_is_expression ?c_is_expression ?k_is_expression) (L4.has_mk ?a_has_form ?l_has_form ?c_has_form ?k_has_form) (L4.has_mk ?a_fits ?l_fits ?c_fits ?k_fits) (L4.has_mk ?a_contained ?l_contained ?c_contained ?k_contained) (L4.has_mk ?a_contained_of ?l_contained_of ?c_contained_of ?k_contained_of) (L4.has_mk ?a_law_deck ?l_law_deck ?c_law_deck ?k_law_deck) (L4.has_mk ?a_law_draw ?l_law_draw ?c_law_draw ?k_law_draw) (L4.has_mk ?a_law_pick ?l_law_pick ?c_law_pick ?k_law_pick) (L4.has_mk ?a_law_names ?l_law_names ?c_law_names ?k_law_names) (L4.has_mk ?a_law_world ?l_law_world ?c_law_world ?k_law_world) (L4.has_mk ?a_law_leaf ?l_law_leaf ?c_law_leaf ?k_law_leaf) (L4.has_mk ?a_law_rows ?l_law_rows ?c_law_rows ?k_law_rows) (L4.has_mk ?a_law_term ?l_law_term ?c_law_term ?k_law_term) (L4.has_mk ?a_law_is_name ?l_law_is_name ?c_law_is_name ?k_law_is_name) (L4.has_mk ?a_law_is_whole ?l_law_is_whole ?c_law_is_whole ?k_law_is_whole) (L4.has_mk ?a_law_is ?l_law_is ?c_law_is ?k_law_is) (L4.has_mk ?a_law_odd ?l_law_odd ?c_law_odd ?k_law_odd) (L4.has_mk ?a_law_bent ?l_law_bent ?c_law_bent ?k_law_bent) (L4.has_mk ?a_law_right ?l_law_right ?c_law_right ?k_law_right) (L4.has_mk ?a_law ?l_law ?c_law ?k_law) ?z_list ?z_sum ?z_len ?z_range ?z_int ?z_bool ?z_repr ?z_tuple ?z_str ?z_isinstance ?z_all ?z_zip ?c0_LIMIT ?c0_LONGEST_NAME ?z_FIELDS (L4.flds_mk ?l_F ?kl_F ?hk_F ?low_F ?q_0 (L4.ktx_mk ?l_0 ?v_0 (by decide)) ?q_1 (L4.ktx_mk ?l_1 ?v_1 (by decide)) ?q_2 (L4.ktx_mk ?l_2 ?v_2 (by decide)) ?q_3 (L4.ktx_mk ?l_3 ?v_3 (by decide)) ?q_4 (L4.ktx_mk ?l_4 ?v_4 (by decide)) ?q_5 (L4.ktx_mk ?l_5 ?v_5 (by decide)) ?q_6 (L4.ktx_mk ?l_6 ?v_6 (by decide)) ?q_7 (L4.ktx_mk ?l_7 ?v_7 (by decide)) ?q_8 (L4.ktx_mk ?l_8 ?v_8 (by decide)) ?q_9 (L4.ktx_mk ?l_9 ?v_9 (by decide)) ?q_10 (L4.ktx_mk ?l_10 ?v_10 (by decide)) ?q_11 (L4.ktx_mk ?l_11 ?v_11 (by decide)) ?q_12 (L4.ktx_mk ?l_12 ?v_12 (by decide)) ?q_13 (L4.ktx_mk ?l_13 ?v_13 (by decide)) ?q_14 (L4.ktx_mk ?l_14 ?v_14 (by decide)) ?q_15 (L4.ktx_mk ?l_15 ?v_15 (by decide))) ?z_ALL (L4.ktx_mk (fs := ["free", "bound"]) ?l_A ?v_A (by decide)) ?z_WORDS (L4.ktx_mk (fs := ["key", "if", "at", "count", "sum", "most", "first", "let", "need", "put", "each", "tell"]) ?l_W ?v_W (by decide)) ?z_LETTERS
    (case a_is_integer => k_is)
    (case l_is_integer => k_is)
    (case c_is_integer => k_is)
    (case k_is_integer => k_is)
    (case a_is_value => k_is)
    (case l_is_value => k_is)
    (case c_is_value => k_is)
    (case k_is_value => k_is)
    (case a_is_name => k_is)
    (case l_is_name => k_is)
    (case c_is_name => k_is)
    (case k_is_name => k_is)
    (case a_word_of => k_is)
    (case l_word_of => k_is)
    (case c_word_of => k_is)
    (case k_word_of => k_is)
    (case a_is_expression => k_is)
    (case l_is_expression => k_is)
    (case c_is_expression => k_is)
    (case k_is_expression => k_is)
    (case a_has_form => k_is)
    (case l_has_form => k_is)
    (case c_has_form => k_is)
    (case k_has_form => k_is)
    (case a_fits => k_is)
    (case l_fits => k_is)
    (case c_fits => k_is)
    (case k_fits => k_is)
    (case a_contained => k_is)
    (case l_contained => k_is)
    (case c_contained => k_is)
    (case k_contained => k_is)
    (case a_contained_of => k_is)
    (case l_contained_of => k_is)
    (case c_contained_of => k_is)
    (case k_contained_of => k_is)
    (case a_law_deck => k_is)
    (case l_law_deck => k_is)
    (case c_law_deck => k_is)
    (case k_law_deck => k_is)
    (case a_law_draw => k_is)
    (case l_law_draw => k_is)
    (case c_law_draw => k_is)
    (case k_law_draw => k_is)
    (case a_law_pick => k_is)
    (case l_law_pick => k_is)
    (case c_law_pick => k_is)
    (case k_law_pick => k_is)
    (case a_law_names => k_is)
    (case l_law_names => k_is)
    (case c_law_names => k_is)
    (case k_law_names => k_is)
    (case a_law_world => k_is)
    (case l_law_world => k_is)
    (case c_law_world => k_is)
    (case k_law_world => k_is)
    (case a_law_leaf => k_is)
    (case l_law_leaf => k_is)
    (case c_law_leaf => k_is)
    (case k_law_leaf => k_is)
    (case a_law_rows => k_is)
    (case l_law_rows => k_is)
    (case c_law_rows => k_is)
    (case k_law_rows => k_is)
    (case a_law_term => k_is)
    (case l_law_term => k_is)
    (case c_law_term => k_is)
    (case k_law_term => k_is)
    (case a_law_is_name => k_is)
    (case l_law_is_name => k_is)
    (case c_law_is_name => k_is)
    (case k_law_is_name => k_is)
    (case a_law_is_whole => k_is)
    (case l_law_is_whole => k_is)
    (case c_law_is_whole => k_is)
    (case k_law_is_whole => k_is)
    (case a_law_is => k_is)
    (case l_law_is => k_is)
    (case c_law_is => k_is)
    (case k_law_is => k_is)
    (case a_law_odd => k_is)
    (case l_law_odd => k_is)
    (case c_law_odd => k_is)
    (case k_law_odd => k_is)
    (case a_law_bent => k_is)
    (case l_law_bent => k_is)
    (case c_law_bent => k_is)
    (case k_law_bent => k_is)
    (case a_law_right => k_is)
    (case l_law_right => k_is)
    (case c_law_right => k_is)
    (case k_law_right => k_is)
    (case a_law => k_is)
    (case l_law => k_is)
    (case c_law => k_is)
    (case k_law => k_is)
    (case z_list => k_is)
    (case z_sum => k_is)
    (case z_len => k_is)
    (case z_range => k_is)
    (case z_int => k_is)
    (case z_bool => k_is)
    (case z_repr => k_is)
    (case z_tuple => k_is)
    (case z_str => k_is)
    (case z_isinstance => k_is)
    (case z_all => k_is)
    (case z_zip => k_is)
    (case c0_LIMIT => k_is)
    (case c0_LONGEST_NAME => k_is)
    (case z_FIELDS => k_is)
    (case l_F => k_is)
    (case kl_F => k_keys)
    (case hk_F => rfl)
    (case low_F => rfl)
    (case q_0 => k_is)
    (case l_0 => k_is)
    (case v_0 => repeat (first | exact .nil | refine .cons ⟨_, rfl⟩ ?_))
    (case q_1 => k_is)
    (case l_1 => k_is)
    (case v_1 => repeat (first | exact .nil | refine .cons ⟨_, rfl⟩ ?_))
    (case q_2 => k_is)
    (case l_2 => k_is)
    (case v_2 => repeat (first | exact .nil | refine .cons ⟨_, rfl⟩ ?_))
    (case q_3 => k_is)
    (case l_3 => k_is)
    (case v_3 => repeat (first | exact .nil | refine .cons ⟨_, rfl⟩ ?_))
    (case q_4 => k_is)
    (case l_4 => k_is)
    (case v_4 => repeat (first | exact .nil | refine .cons ⟨_, rfl⟩ ?_))
    (case q_5 => k_is)
    (case l_5 => k_is)
    (case v_5 => repeat (first | exact .nil | refine .cons ⟨_, rfl⟩ ?_))
    (case q_6 => k_is)
    (case l_6 => k_is)
    (case v_6 => repeat (first | exact .nil | refine .cons ⟨_, rfl⟩ ?_))
    (case q_7 => k_is)
    (case l_7 => k_is)
    (case v_7 => repeat (first | exact .nil | refine .cons ⟨_, rfl⟩ ?_))
    (case q_8 => k_is)
    (case l_8 => k_is)
    (case v_8 => repeat (first | exact .nil | refine .cons ⟨_, rfl⟩ ?_))
    (case q_9 => k_is)
    (case l_9 => k_is)
    (case v_9 => repeat (first | exact .nil | refine .cons ⟨_, rfl⟩ ?_))
    (case q_10 => k_is)
    (case l_10 => k_is)
    (case v_10 => repeat (first | exact .nil | refine .cons ⟨_, rfl⟩ ?_))
    (case q_11 => k_is)
    (case l_11 => k_is)
    (case v_11 => repeat (first | exact .nil | refine .cons ⟨_, rfl⟩ ?_))
    (case q_12 => k_is)
    (case l_12 => k_is)
    (case v_12 => repeat (first | exact .nil | refine .cons ⟨_, rfl⟩ ?_))
    (case q_13 => k_is)
    (case l_13 => k_is)
    (case v_13 => repeat (first | exact .nil | refine .cons ⟨_, rfl⟩ ?_))
    (case q_14 => k_is)
    (case l_14 => k_is)
    (case v_14 => repeat (first | exact .nil | refine .cons ⟨_, rfl⟩ ?_))
    (case q_15 => k_is)
    (case l_15 => k_is)
    (case v_15 => repeat (first | exact .nil | refine .cons ⟨_, rfl⟩ ?_))
    (case z_ALL => k_is)
    (case l_A => k_is)
    (case v_A => repeat (first | exact .nil | refine .cons ⟨_, rfl⟩ ?_))
    (case z_WORDS => k_is)
    (case l_W => k_is)
    (case v_W => repeat (first | exact .nil | refine .cons ⟨_, rfl⟩ ?_))
    (case z_LETTERS => k_is)
