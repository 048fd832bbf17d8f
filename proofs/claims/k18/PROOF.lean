import PyProof.Rows.All
import Wide.All
import OpenK.AllK
import Wide.FinOn
import HandS.ForMost
import PyProof.ReprRoads
import HandS.Wide
import HandS.Style
import HandS.Evl
import HandS.Conv
import HandS.Replace
import PyProof.AutoSeq1
import HandS.Star
import HandS.SortKw
import KE.DatumOrd
import KE.KDictPairs
import HandS.IsInst
import PyProof.P3In
import HandS.More
import HandS.Walk
import PySem.Challenge.RW_lookdone_k18_what_is_a_slot
set_option Elab.async false
set_option linter.all false
set_option maxRecDepth 100000
set_option maxHeartbeats 4000000
namespace GR
open PySem PySem.Spec PyProof.Rows L2

/-! ### data that stands in the abstract heap -/
section
variable {X : Cx} {pins : List (Addr × Obj)} {σ : L2.St} {H : Hp} {s : Shared}
mutual
theorem nodict {K : PySem.W.Frag} : ∀ {v : V} {d : PyData}, Dp K H v d → d.hasDict = false
  | _, _, .non => by simp only [PyData.hasDict]
  | _, _, .bl b => by simp only [PyData.hasDict]
  | _, _, .int i => by simp only [PyData.hasDict]
  | _, _, .str x => by simp only [PyData.hasDict]
  | _, _, .lst _ q => by simp only [PyData.hasDict, nodicts q]
  | _, _, .tup _ q => by simp only [PyData.hasDict, nodicts q]
theorem nodicts {K : PySem.W.Frag} : ∀ {vs : List V} {ds : List PyData}, DpAll K H vs ds → PyData.hasDictAll ds = false
  | _, _, .nil => by simp only [PyData.hasDictAll]
  | _, _, .cons h q => by simp only [PyData.hasDictAll, nodict h, nodicts q, Bool.or_self]
end

/-- repr of a list or a tuple of data -/
def rRepr (X : Cx) : List V → Hp → VK → Prop := fun xs H Q => ∃ (a : Addr) (d : PyData), xs = [.ref a] ∧ Dp X.K H (.ref a) d ∧ d.showable = true ∧ d.depth ≤ 60 ∧ d.shown.length ≤ sizeLine ∧ Q (.str d.shown) H
theorem call_reprD {k : Nat} (hg : X.A.guards = some []) (hr : Room k X.A) : CallR X (.builtin "repr") (rRepr X) := by
  intro pins s σ H xs us Q I r h
  obtain ⟨a, d, rfl, hd, hs, hdep, hz, q⟩ := h
  obtain ⟨u, rfl, rv⟩ := vals1 r
  obtain rfl : u = Value.ref a := rv
  obtain ⟨as, hR⟩ := Dp.reads I d _ _ hd rfl
  have hu := hr.units
  exact repr_of_reads' hR hs (PyData.noDict_hsm (nodict hd)) hg (by omega) (fun _ _ e => e) (fun h' u tk hk => ⟨.str d.shown, H, I.kept hk, ⟨_, rfl⟩, q⟩) hz
end

/-! ### defs that show things: a promise kept wherever nothing is being shown -/
structure FnG (P : Program) (w : World) (K : PySem.W.Frag) (mg : Str → Option Value) (base : Heap) (CX : CXT) (k : Nat) (f : Addr) (fd : FuncData) (ps : List Str) (sp : Sp) : Prop where
  size : ∀ vs H Q E, sp vs H Q E → vs.length = ps.length
  go : ∀ (A : Around) (outer : List Env) (s : Shared) (H : Hp) (args : Args) (us : List Value) (vs : List V) (Q : VK) (E : XK),
    A.guards = some [] → Room k A → Env0 P w K mg base A outer s H → BindsTo s fd args (ps.zip us) → Vals vs us → sp vs H Q E →
    codeAny (model P w) A (.call (.ref f) args) (CR CX outer P w H s Q E) s

section
variable {P : Program} {w : World} {K : PySem.W.Frag} {mg : Str → Option Value} {base : Heap}
theorem FnG.of {CX : CXT} {k : Nat} {f : Addr} {fd : FuncData} {ps : List Str} {sp : Sp} (F : FnOk P w K mg base CX k f fd ps sp) : FnG P w K mg base CX k f fd ps sp :=
  ⟨F.len, fun A outer s H args us vs Q E _ => F.run A outer s H args us vs Q E⟩

/-- a def by its body, where nothing is being shown -/
theorem ok_g {x qual : Str} {st : Stmt} {f : Addr} {fd : FuncData} {N ps : List Str} {k : Nat} {sp : Sp} (F : Fun K x qual st f fd) (S : FnScope N ps (defScope st)) (size : ∀ vs H Q E, sp vs H Q E → vs.length = ps.length)
    (body : ∀ (cdv : Value) (A : Around) (outer : List Env) (s : Shared) (H : Hp) (vs : List V) (Q : VK) (E : XK), A.guards = some [] → Room k (A.deeper (envOfC qual (defScope st) s.heap.objs.size f cdv)) → sp vs H Q E →
      ∃ t, PSs (cxOf CX0 P w K mg base N qual (defScope st) f cdv A outer s H E).nox (defBody st) t ∧ t { nx := fun _ H' => Q .non H', rt := Q } (start N vs) H) : FnG P w K mg base CX0 (k + 1) f fd ps sp := by
  obtain ⟨oc, od, kV, doc, pm, an, cdv, ct, osl, rfl, lk, hcd⟩ := F.ex
  constructor
  · exact size
  intro A outer s H args us vs Q E gA room e0 bnd rel hsp
  have inK : K.In s.heap := e0.mod.kin.keeps (fun b o q => (e0.bs b o q).1)
  have nolim := e0.mod.nolimit.keeps (fun b o q => (e0.bs b o q).1)
  obtain ⟨t, ht, hq⟩ := body cdv A outer s H vs Q E gA (room.deeper _) hsp
  refine codeAny_call_function room.depth (inK f _ lk) rfl S.co S.gen rfl (PySem.W.codeRec_of inK hcd) (bnd _ _ _ _ ?_)
  refine wpAny_newFunctionEnv_cells S.kind ?par (fun env he s1 inC => ?run)
  case par =>
    rintro ⟨n, v⟩ hy
    rcases S.par n (List.of_mem_zip hy).1 with q | q
    · exact Or.inl q
    · exact Or.inr ⟨q, PySem.W.cellsFrom_some _ _ _ (Or.inl q)⟩
  case run =>
    cases he
    refine And.intro (nolim.keeps inC.toInCall.keep) (codeAny_func ?_)
    have I0 := inv_start (CX := CX0) (P := P) (w := w) (K := K) (mg := mg) (base := base) (E := E) S room.hd e0 (size _ _ _ _ hsp) rel inC
    refine wpAny_mono (ht.nox.run [] s1 (start N vs) H _ I0 hq) ?_ (fun _ _ z => z)
    rintro fl s' hs
    have close : ∀ (σ' : L2.St) (H' : Hp) (v : V) (u : Value), Inv (cxOf CX0 P w K mg base N qual (defScope st) f cdv A outer s H E) [] σ' H' s' → RelV v u → Q v H' → CE outer P w H s Q u s' := by
      intro σ' H' v u J rv q
      exact ⟨v, H', J.os, J.bare, J.base, J.hok, rv, q⟩
    cases fl
    case ret u => obtain ⟨v, σ', H', J, rv, q⟩ := hs; exact close _ _ _ _ J rv q
    case next => obtain ⟨σ', H', J, q⟩ := hs; exact close _ _ V.non Value.none J rfl q
    case brk => obtain ⟨_, _, _, q⟩ := hs; exact q.elim
    case cont => obtain ⟨_, _, _, q⟩ := hs; exact q.elim
end

section
variable {X : Cx} {CX : CXT} {k : Nat} {f : Addr} {fd : FuncData} {ps : List Str} {sp : Sp} {E : XK} {x : Str} {p pos : Pos} {e : Expr} {es : List Expr} {t : TA}
/-- its call -/
theorem pe_callG (F : FnG X.prog X.w X.K X.mg X.base CX k f fd ps sp) (hg : X.A.guards = some []) (hr : Room k X.A) (gx : Gl X x) (hm : X.mg x = some (.ref f)) (hk : PySem.W.keepIn X.K (.ref f) = true) (hb : Binds X.K fd ps []) (hx : Passes CX X E)
    (ha : PA X (e :: es) t) (hdb : (x == ("__debug__" : Str)) = false := by decide) (he : starEach (e :: es) X.env = (false, eval e X.env) :: starEach es X.env := by rfl) (hpl : (backTo pos (starEach es X.env)).any (·.1) = false := by rfl) :
    PE X (.Call (.Name x p) (e :: es) [] pos) (tCall sp [] E t) := by
  constructor
  intro pins s σ H Q I h
  refine wpAny_Call_Name_kw (ld_glob I gx hm (PySem.W.callWith_K (h₀ := X.base) I.ok.mod.kin hk (thn (ha.run pos pins s σ H _ I h) ?_) he hpl) hdb)
  rintro us s1 ⟨vs, H1, I1, r, q⟩
  refine ⟨I1.kIn, ?_⟩
  have q' : sp vs H1 Q E := by simpa using q
  have hl : us.length = ps.length := by
    rw [← r.length]
    exact F.size _ _ _ _ q'
  have hB := hb s1 us I1.kIn (by simpa using hl)
  rw [List.append_nil] at hB
  refine wpAny_call (codeAny_mono (F.go X.A X.stack s1 H1 ⟨us, []⟩ us vs Q E hg hr I1.env0 hB r q') ?_)
  rintro (er | fl) s2 hq
  · exact hx pins σ H1 s1 er s2 I1 hq
  · cases fl
    case ret u => exact I1.after hq
    case next => exact hq.elim
    case brk => exact hq.elim
    case cont => exact hq.elim
end

/-- a comprehension without a test -/
theorem yes_then {σ : L2.St} {H : Hp} {A B : Hp → Prop} (h : A H) : tYes σ H (fun b H3 => if b = true then A H3 else B H3) := by
  show (if true = true then A H else B H)
  rw [if_pos rfl]
  exact h

/-! ### the law's own call -/
/-- the abstract heap in which the script alone is tracked, as it stands -/
def scriptHp (a : Addr) (o : Obj) (xs : List V) : Hp := fun b => if b = a then some (.frz o (.lst xs)) else none
theorem scriptHp_at {a : Addr} {o : Obj} {xs : List V} : scriptHp a o xs a = some (.frz o (.lst xs)) := if_pos rfl
theorem scriptHp_some {a b : Addr} {o : Obj} {xs : List V} {u : HO} (h : scriptHp a o xs b = some u) : b = a ∧ u = .frz o (.lst xs) := by
  unfold scriptHp at h
  split at h
  · rename_i e
    exact ⟨e, (Option.some.inj h).symm⟩
  · cases h

theorem ns_hid {h : Heap} {H : Hp} {b : Addr} {m : Str → Option Value} (q : h.Ns b m) (hb : H b = none) : (hidT h H).Ns b m := by
  obtain ⟨o, es, ep, e, r⟩ := q
  exact ⟨o, es, ep, hidT_get e hb, r⟩

theorem law_callG {P : Program} {w : World} {K : PySem.W.Frag} {mg mb : Str → Option Value} {k : Nat} {fa a : Addr} {fd : FuncData} {x : Str} {sp : Sp} {s₁ : Shared} {vs : List Value} {ns : List Int}
    (KX : K.In s₁.heap) (hns : s₁.heap.Ns mainGlobals mg) (hb : s₁.heap.Ns builtinsNs mb) (hbb : ∀ x : Str, x ≠ "__name__" → mb x = bootBuiltins x) (hlim : s₁.heap.NoLimit) (hg : s₁.gens = #[])
    (ha : s₁.heap.get? a = some { cls := .type "list", data := .seq vs.toArray }) (hi : IntsAre vs ns) (hl : ns.length ≤ sizeLine) (hr : Room k callerA)
    (F : ∀ base : Heap, K.In base → base.Ns mainGlobals mg → FnG P w K mg base CX0 k fa fd [x] sp) (hbind : ∀ (s : Shared) (u : Value), BindsTo s fd ⟨[u], []⟩ [(x, u)])
    (hsp : ∀ H : Hp, Only H → SqL K H a (ns.map V.int) → sp [.ref a] H (fun v _ => v = .bl true) fun _ _ _ => False) :
    codeAny (model P w) callerA (.call (.ref fa) ⟨[.ref a], []⟩) (fun r s' => r = .ok (.ret (.bool true)) ∧ OldK s₁.heap s'.heap ∧ s'.os = s₁.os ∧ AllBare s'.gens) s₁ := by
  have main : ∀ H : Hp, Only H → SqL K H a (ns.map V.int) → HOk P w H s₁.heap → (∀ b u, H b = some u → b = a ∧ K.lookup a = none) →
      codeAny (model P w) callerA (.call (.ref fa) ⟨[.ref a], []⟩) (fun r s' => r = .ok (.ret (.bool true)) ∧ OldK s₁.heap s'.heap ∧ s'.os = s₁.os ∧ AllBare s'.gens) s₁ := by
    intro H only seq ok one
    have free : ∀ b, (∀ o n, s₁.heap.get? b = some o → o.data ≠ .seq vs.toArray n) → H b = none := by
      intro b nb
      cases q : H b with
      | none => rfl
      | some u =>
        obtain ⟨rfl, _⟩ := one b u q
        exact absurd rfl (nb _ _ ha)
    have freeD : ∀ {b : Addr} {m : Str → Option Value}, s₁.heap.Ns b m → H b = none := by
      rintro b m ⟨o, es, ep, e, d, _⟩
      refine free b fun o' n e' d' => ?_
      rw [e] at e'
      cases e'
      rw [d] at d'
      cases d'
    have inB : K.In (hidT s₁.heap H) := by
      intro b o e
      refine hidT_get (KX b o e) ?_
      cases q : H b with
      | none => rfl
      | some u =>
        obtain ⟨rfl, z⟩ := one b u q
        rw [z] at e
        cases e
    have gB := ns_hid hns (freeD hns)
    have md : Mod K mg (hidT s₁.heap H) := by
      refine ⟨inB, gB, ⟨mb, ns_hid hb (freeD hb), hbb⟩, ?_⟩
      obtain ⟨mc, h1, h2⟩ := hlim
      exact ⟨mc, ns_hid h1 (freeD h1), h2⟩
    have start0 : Env0 P w K mg (hidT s₁.heap H) callerA [] s₁ H := by
      constructor
      · rfl
      · exact md
      · exact fun b o e => of_hidT e
      · exact Nat.le_of_eq (hidT_size _ _)
      · trivial
      · intro b hb
        exact absurd (show b ∈ ([] : List Addr) from hb) (by simp)
      · exact ok
      · exact .of_eq hg
    have run := (F _ inB gB).go callerA [] s₁ H ⟨[.ref a], []⟩ [.ref a] [.ref a] (fun v _ => v = .bl true) (fun _ _ _ => False) rfl hr start0 (hbind s₁ (.ref a)) (.cons rfl .nil) (hsp H only seq)
    refine codeAny_mono run ?_
    rintro (er | fl) s' h
    · exact False.elim h
    cases fl with
    | next => exact False.elim h
    | brk => exact False.elim h
    | cont => exact False.elim h
    | ret u =>
      obtain ⟨v, H', os, bare, un, ok', rv, q⟩ := h
      cases (show v = .bl true from q)
      cases (show u = Value.bool true from rv)
      refine ⟨rfl, OldK.of_keep ?_, os, bare⟩
      intro b o e
      cases z : H b with
      | none => exact un.keep b o e z (fun m => absurd (show b ∈ ([] : List Addr) from m) (by simp)) (by simp)
      | some u =>
        rcases only b with z' | ⟨ob, xs, z'⟩
        · rw [z] at z'
          cases z'
        · have e1 := (ok b _ z').1
          have e2 := (ok' b _ (un.frzs b ob _ z')).1
          rw [e] at e1
          rw [e1]
          exact e2
  have rv := vals_ints hi
  cases hk : K.lookup a with
  | some o =>
    have e := KX a o hk
    rw [ha] at e
    cases e
    refine main (fun _ => none) (fun _ => .inl rfl) (.inr ⟨_, vs.toArray, _, hk, rfl, rfl, rfl, ?_, by simpa using rv⟩) ?_ ?_
    · rw [List.size_toArray, hi.length]
      exact hl
    · intro b u z
      cases z
    · intro b u z
      cases z
  | none =>
    refine main (scriptHp a { cls := .type "list", data := .seq vs.toArray } (ns.map V.int)) ?_ (.inl (.inr ⟨_, scriptHp_at⟩)) ?_ ?_
    · intro b
      cases z : scriptHp a { cls := .type "list", data := .seq vs.toArray } (ns.map V.int) b with
      | none => exact .inl rfl
      | some u => exact .inr ⟨_, _, by rw [(scriptHp_some z).2]⟩
    · intro b u z
      obtain ⟨rfl, rfl⟩ := scriptHp_some z
      refine ⟨ha, ?_, vs, _, rv, ha⟩
      rw [List.length_map]
      exact hl
    · intro b u z
      exact ⟨(scriptHp_some z).1, hk⟩

theorem walk_g {l : PySem.W.OpenLaw} {n k : Nat} {q : Program} {loose : List Str} {XP : (Str → Option Value) → Heap → Prop} {YP : World → Heap → Prop} {d : DefRec} {K : Params → PySem.W.Frag} {sp : PySem.W.Frag → Sp} {x : Str}
    (hn : l.most = some n) (hn2 : n ≤ sizeLine) (hdf : d.params.defaults = []) (hr : Room k callerA)
    (hY : ∀ (w : World) (h : Heap), YP w h → (K w.params).In h)
    (F : ∀ (w : World) (mg : Str → Option Value) (fa : Addr) (h : Heap), (K w.params).In h → h.Ns mainGlobals mg → mg d.name = some (.ref fa) →
      ∃ fd : FuncData, (∀ (s : Shared) (u : Value), BindsTo s fd ⟨[u], []⟩ [(x, u)]) ∧
        ∀ base : Heap, (K w.params).In base → base.Ns mainGlobals mg → FnG l.prog w (K w.params) mg base CX0 k fa fd [x] (sp (K w.params)))
    (hsp : ∀ (K : PySem.W.Frag) (H : Hp) (a : Addr) (ns : List Int), ns.length ≤ n → Only H → SqL K H a (ns.map V.int) → sp K [.ref a] H (fun v _ => v = .bl true) fun _ _ _ => False) :
    PySem.W.WalkO q loose XP YP l.row.toRowW d [] (fun f vs => PySem.call f vs) := by
  apply Att.attach_call hn hdf
  intro w s₀ s₁ mg mb fa o pm cd doc a vs ns G Y ho hd hcd hmg hobj hints hlen hg
  obtain ⟨fd, bnd, keeps⟩ := F w mg fa _ (hY w _ Y) G.T.g hmg
  exact law_callG (hY w _ Y) G.T.g G.T.b G.T.builtins G.T.nolimit hg hobj hints (Nat.le_trans hlen hn2) hr keeps bnd (fun H => hsp _ H a ns hlen)
end GR

namespace L18
open PySem PySem.Spec PyProof.Rows L2 GR
abbrev LIM : Int := 1000000000000000000
def topS (i : Nat) : Stmt := PySem.Challenge.pw_lookdone_k18_what_is_a_slot.main.body.getD i (.Pass ⟨0, 0, 0, 0⟩)
theorem same_upd {H : Hp} {p : Addr} {o : HO} (h : H p = none) : Same H (upd H p o) := fun b x e => by
  rw [upd_ne (ne_of_none e h)]
  exact e
theorem le2 : 2 ≤ sizeLine := by decide
theorem at0 {xs : List V} {v : V} : atI (v :: xs) 0 = some v := atI_nat (j := 0) rfl
theorem at1 {xs : List V} {v u : V} : atI (u :: v :: xs) 1 = some v := atI_nat (j := 1) rfl
theorem at2 {xs : List V} {v u t : V} : atI (t :: u :: v :: xs) 2 = some v := atI_nat (j := 2) rfl
theorem at3 {xs : List V} {v u t s : V} : atI (s :: t :: u :: v :: xs) 3 = some v := atI_nat (j := 3) rfl
/-! ### the law's deck -/
/-- the deck at d: the cells at c, a number, the count of draws, at most N -/
def Deck (H : Hp) (d c : Addr) (N : Int) : Prop := ∃ (cells : List Int) (m n : Int), H d = some (.lst [.ref c, .int m, .int n]) ∧ H c = some (.lst (cells.map V.int)) ∧ cells.length ≤ 63 ∧ 0 ≤ n ∧ n ≤ N
theorem Deck.ne {H : Hp} {d c : Addr} {N : Int} (h : Deck H d c N) : c ≠ d := by
  obtain ⟨cells, m, n, h1, h2, _⟩ := h
  rintro rfl
  rw [h1] at h2
  have e := HO.lst.inj (Option.some.inj h2)
  cases cells with
  | nil => cases e
  | cons x r =>
    have := (List.cons.inj e).1
    cases this
theorem Deck.mono {H : Hp} {d c : Addr} {N M : Int} (h : Deck H d c N) (hm : N ≤ M) : Deck H d c M := by
  obtain ⟨cells, m, n, h1, h2, h3, h4, h5⟩ := h
  exact ⟨cells, m, n, h1, h2, h3, h4, Int.le_trans h5 hm⟩
/-- all but the deck is as it was -/
def Keep (d c : Addr) (H H' : Hp) : Prop := ∀ b o, b ≠ d → b ≠ c → H b = some o → H' b = some o
theorem Keep.refl {d c : Addr} {H : Hp} : Keep d c H H := fun _ _ _ _ e => e
theorem Keep.trans {d c : Addr} {H H1 H2 : Hp} (a : Keep d c H H1) (b : Keep d c H1 H2) : Keep d c H H2 := fun x o h1 h2 e => b x o h1 h2 (a x o h1 h2 e)
theorem Keep.of {d c : Addr} {H H' : Hp} (s : Same H H') : Keep d c H H' := fun b o _ _ e => s b o e
theorem Deck.same {H H' : Hp} {d c : Addr} {N : Int} (h : Deck H d c N) (s : Same H H') : Deck H' d c N := by
  obtain ⟨cells, m, n, h1, h2, h3⟩ := h
  exact ⟨cells, m, n, s _ _ h1, s _ _ h2, h3⟩
/-- a tuple, a list that is not the deck's stays -/
theorem Keep.tup {d c p : Addr} {H H' : Hp} {N : Int} {xs : List V} (s : Keep d c H H') (D : Deck H d c N) (h : H p = some (.tup xs)) : H' p = some (.tup xs) := by
  obtain ⟨cells, m, n, h1, h2, _⟩ := D
  exact s p _ (ne_of h h1 (fun z => by cases z)) (ne_of h h2 (fun z => by cases z)) h
theorem dp_ints {K : PySem.W.Frag} {H : Hp} : ∀ ns : List Int, DpAll K H (ns.map V.int) (ns.map PyData.int)
  | [] => .nil
  | n :: ns => .cons (.int n) (dp_ints ns)
theorem lay_ints : ∀ ns : List Int, PyData.canLayAll0 (ns.map PyData.int) = true
  | [] => by simp only [List.map_nil, PyData.canLayAll0]
  | n :: ns => by simp only [List.map_cons, PyData.canLayAll0, PyData.canLay0, lay_ints ns, Bool.and_self]
theorem depth_ints : ∀ ns : List Int, PyData.depthAll (ns.map PyData.int) ≤ 1
  | [] => by simp only [List.map_nil, PyData.depthAll]; omega
  | n :: ns => by
    have := depth_ints ns
    simp only [List.map_cons, PyData.depthAll, PyData.depth]
    omega
theorem shaped_ints (ns : List Int) : SeqAt.shaped (.list (ns.map PyData.int)) = true := by
  have := depth_ints ns
  unfold SeqAt.shaped
  rw [Bool.and_eq_true]
  refine ⟨by simp only [PyData.canLay0, lay_ints], decide_eq_true ?_⟩
  simp only [PyData.depth]
  omega
theorem neq_nil : ∀ ns : List Int, (!PyData.eqv (.list (ns.map PyData.int)) (.list [])) = !ns.isEmpty
  | [] => by simp only [List.map_nil, PyData.eqv, PyData.eqvAll, List.isEmpty_nil]
  | n :: ns => by simp only [List.map_cons, PyData.eqv, PyData.eqvAll, List.isEmpty_cons]

def num1 (z n : Int) : Int := (z % 2147483629 + 7919 * (n + 1) * (n + 1) + 31) * 48271 % 2147483647
theorem num1_rng (z n : Int) : -(2 ^ 64) < num1 z n ∧ num1 z n < 2 ^ 64 := by
  unfold num1
  omega
def num2 (x n : Int) : Int := (x * x + 69621 * x + (n + 1)) % 2147483587
theorem num2_rng (x n : Int) : -(2 ^ 64) < num2 x n ∧ num2 x n < 2 ^ 64 := by
  unfold num2
  omega

section
variable {P : Program} {w : World} {K : PySem.W.Frag} {mg : Str → Option Value} {base : Heap}
abbrev s_law_draw : Stmt := topS 13
theorem sc_law_draw : FnScope ["_law_deck_here", "_law_most", "_law_cell", "_law_number"] ["_law_deck_here", "_law_most"] (defScope s_law_draw) := ⟨rfl, rfl, rfl, by decide +kernel, rfl, by decide +kernel, by decide +kernel⟩
def sp_draw : Sp := fun vs H Q _ => ∃ (d c : Addr) (N most : Int), vs = [.ref d, .int most] ∧ Deck H d c N ∧ N < 2 ^ 60 ∧ 0 < most ∧ most < 2 ^ 100 ∧
  ∀ H' r, Keep d c H H' → Deck H' d c (N + 1) → 0 ≤ r → r < most → Q (.int r) H'
theorem ok_draw {f : Addr} {fd : FuncData} {k : Nat} (F : Fun K "_law_draw" "_law_draw" s_law_draw f fd) :
    FnOk P w K mg base CX0 (k + 1) f fd ["_law_deck_here", "_law_most"] sp_draw := by
  have nd := sc_law_draw.nd
  refine F.ok sc_law_draw (fun vs H Q E h => ?_) (fun cdv A outer s H vs Q E hr h => ?_)
  · obtain ⟨d, c, N, most, rfl, _⟩ := h
    rfl
  obtain ⟨d, c, N, most, rfl, D, hN, hm0, hm1, q⟩ := h
  have hcd := D.ne
  obtain ⟨cells, m, n, hd, hc, hlen, hn0, hn1⟩ := D
  refine ⟨_, (pss_cons (ps_asg (pe_op op_add (pe_ix ix_list (pv 0) pe_int (fun _ _ => rfl)) pe_int) (pg_sub (pv 0) pe_int set_list))
      (pss_cons (ps_set (i := 2) nd rfl (.inl rfl) (pe_ix ix_list (pv 0) pe_int (fun _ _ => rfl)))
      (Evl.pss_cut (ps_if (pt_cmpR (op_neD hr.units) (pe_ix ix_list (pv 0) pe_int (fun _ _ => rfl)) (pe_lst pa_nil) (nomark _))
      (pss_cons (ps_set (i := 2) nd rfl (.inl rfl) (pe_bm0 PySem.F.plainAttrs_list PySem.F.slot_list_pop PySem.F.type_list_pop mt_pop (pe_ix ix_list (pv 0) pe_int (fun _ _ => rfl))))
        (pss_one (ps_if (pt_cmpR op_ge (pv 2) (pe_op op_pow pe_int pe_int) (nomark _))
        (pss_cons (ps_expr (pe_bm PySem.F.plainAttrs_list PySem.F.slot_list_append PySem.F.type_list_append mt_append (pe_ix ix_list (pv 0) pe_int (fun _ _ => rfl)) (pa_cons (pe_op op_fdivW (pv 2) (pv 1)) pa_nil)))
          (pss_one (ps_ret (pe_op op_mod (pv 2) (pv 1)))))
        pss_nil)))
      pss_nil)
      (pss_cons (ps_set (i := 3) nd rfl (.inl rfl) (pe_op op_mod (pe_op op_mul (pe_op op_add (pe_op op_add (pe_op op_mod (pv 2) pe_int) (pe_op op_mul (pe_op op_mul pe_int (pe_ix ix_list (pv 0) pe_int (fun _ _ => rfl))) (pe_ix ix_list (pv 0) pe_int (fun _ _ => rfl)))) pe_int) pe_int) pe_int))
      (pss_cons (ps_set (i := 3) nd rfl (.inl rfl) (pe_op op_mod (pe_op op_add (pe_op op_add (pe_op op_mul (pv 3) (pv 3)) (pe_op op_mul pe_int (pv 3))) (pe_ix ix_list (pv 0) pe_int (fun _ _ => rfl))) pe_int))
      (pss_one (ps_ret (pe_op op_mod (pe_op op_fdivW (pe_op op_mod (pe_op op_mul (pv 3) (pe_op op_add (pe_op op_fdivW (pv 3) pe_int) pe_int)) pe_int) pe_int) (pv 1))))))))), ?_⟩
  refine ⟨.ref d, rfl, d, _, 2, _, rfl, rfl, .inl (.inl hd), at2, _, _, rfl, rfl, .ref d, rfl, d, _, 2, 2, rfl, rfl, hd, rfl, ?_⟩
  -- the deck with one draw more
  have h1d : upd H d (.lst [.ref c, .int m, .int (n + 1)]) d = some (.lst [.ref c, .int m, .int (n + 1)]) := upd_same
  have h1c : upd H d (.lst [.ref c, .int m, .int (n + 1)]) c = some (.lst (cells.map V.int)) := by
    rw [upd_ne hcd]
    exact hc
  have k1 : Keep d c H (upd H d (.lst [.ref c, .int m, .int (n + 1)])) := fun b o nb _ e => by
    rw [upd_ne nb]
    exact e
  refine ⟨.ref d, rfl, d, _, 1, _, rfl, rfl, .inl (.inl h1d), at1, ?_⟩
  have wd : CDivW 0 most := wide_div hm0 (b := 100) (by omega) (by decide) (by decide)
  refine ⟨fun σ' H' => ∃ (z : Int) (cells' : List Int), σ' = [some (.ref d), some (.int most), some (.int z), none] ∧ Keep d c H H' ∧ H' d = some (.lst [.ref c, .int m, .int (n + 1)]) ∧ H' c = some (.lst (cells'.map V.int)) ∧ cells'.length ≤ 63, ?_, ?_⟩
  · refine ⟨.ref d, rfl, d, _, 0, _, rfl, rfl, .inl (.inl h1d), at0, Nat.zero_le _, fun e ne => ?_⟩
    have s2 : Same (upd H d (.lst [.ref c, .int m, .int (n + 1)])) (upd (upd H d (.lst [.ref c, .int m, .int (n + 1)])) e (.lst [])) := same_upd ne
    have h2d := s2 _ _ h1d
    have h2c := s2 _ _ h1c
    have k2 := k1.trans (Keep.of s2)
    refine ⟨_, _, .lst (.inl (.inl h2c)) (dp_ints cells), .lst (.inl (.inl upd_same)) .nil, shaped_ints cells, shaped_ints [], _, rfl, ?_⟩
    rw [neq_nil]
    cases hcs : cells with
    | nil => exact iteF ⟨m, cells, rfl, k2, h2d, h2c, hlen⟩
    | cons x0 r0 =>
      refine iteT ?_
      have hne : cells ≠ [] := by
        rw [hcs]
        exact List.cons_ne_nil _ _
      have hlast : (cells.map V.int)[(cells.map V.int).length - 1]? = some (.int (cells.getLast hne)) := by
        rw [List.length_map, List.getElem?_map, ← List.getLast?_eq_getElem?, List.getLast?_eq_getLast hne]
        rfl
      refine ⟨.ref d, rfl, d, _, 0, _, rfl, rfl, .inl (.inl h2d), at0, .inl ⟨rfl, _, .inl (.inl h2c)⟩, c, _, _, rfl, rfl, h2c, hlast, ?_⟩
      have hdrop : (cells.map V.int).dropLast = cells.dropLast.map V.int := by rw [List.map_dropLast]
      rw [hdrop]
      have h3d : upd (upd (upd H d (.lst [.ref c, .int m, .int (n + 1)])) e (.lst [])) c (.lst (cells.dropLast.map V.int)) d = some (.lst [.ref c, .int m, .int (n + 1)]) := by
        rw [upd_ne hcd.symm]
        exact h2d
      have h3c : upd (upd (upd H d (.lst [.ref c, .int m, .int (n + 1)])) e (.lst [])) c (.lst (cells.dropLast.map V.int)) c = some (.lst (cells.dropLast.map V.int)) := upd_same
      have k3 : Keep d c H (upd (upd (upd H d (.lst [.ref c, .int m, .int (n + 1)])) e (.lst [])) c (.lst (cells.dropLast.map V.int))) := fun b o n1 n2 e1 => by
        rw [upd_ne n2]
        exact k2 b o n1 n2 e1
      have l3 : cells.dropLast.length + 1 ≤ 63 := by
        rw [List.length_dropLast, hcs, List.length_cons]
        rw [hcs, List.length_cons] at hlen
        omega
      generalize cells.getLast hne = z
      refine ⟨.int z, rfl, _, _, rfl, rfl, ⟨by decide, by decide, by decide⟩, _, _, rfl, rfl, _, rfl, ite2 (fun e5 => ?_) (fun e5 => ?_)⟩
      · refine ⟨.ref d, rfl, d, _, 0, _, rfl, rfl, .inl (.inl h3d), at0, .inl ⟨rfl, _, .inl (.inl h3c)⟩, .int z, rfl, .int most, rfl, z, most, rfl, rfl, wd, c, _, _, rfl, rfl, h3c, ?_, ?_⟩
        · rw [List.length_map]
          exact small1000 (by omega)
        · refine ⟨.int z, rfl, .int most, rfl, z, most, rfl, rfl, hm0, ?_⟩
          refine q _ _ ?_ ?_ (Int.emod_nonneg _ (by omega)) (Int.emod_lt_of_pos _ hm0)
          · intro b o n1 n2 e1
            rw [upd_ne n2]
            exact k3 b o n1 n2 e1
          · refine ⟨cells.dropLast ++ [z / most], m, n + 1, ?_, ?_, ?_, by omega, by omega⟩
            · rw [upd_ne hcd.symm]
              exact h3d
            · rw [upd_same, List.map_append]
              rfl
            · rw [List.length_append, List.length_singleton]
              exact l3
      · exact ⟨z, cells.dropLast, rfl, k3, h3d, h3c, by omega⟩
  · rintro σ' H' ⟨z, cells', rfl, kk, h5d, h5c, hl5⟩
    have hn2 : -(2 ^ 64) < n + 1 ∧ n + 1 < 2 ^ 64 := by omega
    refine ⟨.int z, rfl, z, 2147483629, rfl, rfl, (show (0 : Int) < 2147483629 by decide), .ref d, rfl, d, _, 2, _, rfl, rfl, .inl (.inl h5d), at2, 7919, n + 1, rfl, rfl, .inl ⟨by decide, by decide⟩, .ref d, rfl, d, _, 2, _, rfl, rfl, .inl (.inl h5d), at2, 7919 * (n + 1), n + 1, rfl, rfl, .inr hn2, _, _, rfl, rfl, _, _, rfl, rfl, _, 48271, rfl, rfl, .inr ⟨by decide, by decide⟩, _, 2147483647, rfl, rfl, (show (0 : Int) < 2147483647 by decide), ?_⟩
    have b1 := num1_rng z n
    refine ⟨.int (num1 z n), rfl, .int (num1 z n), rfl, num1 z n, num1 z n, rfl, rfl, .inl b1, .int (num1 z n), rfl, 69621, num1 z n, rfl, rfl, .inr b1, _, _, rfl, rfl, .ref d, rfl, d, _, 2, _, rfl, rfl, .inl (.inl h5d), at2, _, _, rfl, rfl, _, 2147483587, rfl, rfl, (show (0 : Int) < 2147483587 by decide), ?_⟩
    have b2 := num2_rng (num1 z n) n
    refine ⟨.int (num2 (num1 z n) n), rfl, .int (num2 (num1 z n) n), rfl, num2 (num1 z n) n, 5, rfl, rfl, ⟨by decide, by decide⟩, _, _, rfl, rfl, num2 (num1 z n) n, _, rfl, rfl, .inl b2, _, 2147483579, rfl, rfl, (show (0 : Int) < 2147483579 by decide), _, 64, rfl, rfl, ⟨by decide, by decide⟩, .int most, rfl, _, most, rfl, rfl, hm0, ?_⟩
    exact q _ _ kk ⟨cells', m, n + 1, h5d, h5c, hl5, by omega, by omega⟩ (Int.emod_nonneg _ (by omega)) (Int.emod_lt_of_pos _ hm0)
end
theorem Keep.seq {K : PySem.W.Frag} {d c a : Addr} {H H' : Hp} {xs : List V} (s : Keep d c H H') (h : SqL K H a xs) (h1 : a ≠ d) (h2 : a ≠ c) : SqL K H' a xs := by
  rcases h with (h | ⟨o, h⟩) | h
  · exact .inl (.inl (s _ _ h1 h2 h))
  · exact .inl (.inr ⟨o, s _ _ h1 h2 h⟩)
  · exact .inr h
theorem cut63 (ns : List Int) : ∃ ms : List Int, cutV (ns.map V.int) none (some 63) = ms.map V.int ∧ ms.length ≤ 63 := by
  refine ⟨ns.take (min 63 ns.length), ?_, ?_⟩
  · unfold cutV
    rw [HT.sIx_none, show HT.sIx (ns.map V.int).length (ns.map V.int).length (some 63) = min 63 (ns.map V.int).length from HT.sIx_nat _ _ 63, List.drop_zero, List.map_take, List.length_map, Nat.sub_zero]
  · rw [List.length_take]
    omega
theorem small_le {n : Nat} (h : n ≤ 1000) : n ≤ sizeLine := Nat.le_of_lt (small1000 h)
section
variable {P : Program} {w : World} {K : PySem.W.Frag} {mg : Str → Option Value} {base : Heap}
abbrev s_law_deck : Stmt := topS 12
theorem sc_law_deck : FnScope ["_law_script", "_law_cells"] ["_law_script"] (defScope s_law_deck) := ⟨rfl, rfl, rfl, by decide +kernel, rfl, by decide +kernel, by decide +kernel⟩
def sp_deck (K : PySem.W.Frag) : Sp := fun vs H Q _ => ∃ (a : Addr) (ns : List Int), vs = [.ref a] ∧ SqL K H a (ns.map V.int) ∧ ∀ H' d c, Same H H' → H d = none → Deck H' d c 0 → Q (.ref d) H'
theorem ok_deck {f : Addr} {fd : FuncData} {k : Nat} (F : Fun K "_law_deck" "_law_deck" s_law_deck f fd) (mlist : mg "list" = none) (msum : mg "sum" = none) (mlen : mg "len" = none) :
    FnOk P w K mg base CX0 (k + 1) f fd ["_law_script"] (sp_deck K) := by
  have nd := sc_law_deck.nd
  refine F.ok sc_law_deck (fun vs H Q E h => ?_) (fun cdv A outer s H vs Q E hr h => ?_)
  · obtain ⟨a, ns, rfl, _⟩ := h
    rfl
  obtain ⟨a, ns, rfl, hS, q⟩ := h
  obtain ⟨ms, hms, hl⟩ := cut63 ns
  refine ⟨_, (pss_cons (ps_set (i := 1) nd rfl (.inl rfl) (pe_callTy call_list_of (by rfl) mlist boot_list (pa_cons (pe_slice sl_list (pv 0) po_none (po_some pe_int)) pa_nil)))
      (pss_one (ps_ret (pe_lst (pa_cons (pe_revL (pv 1)) (pa_cons (pe_op op_add (pe_op op_mod (pe_callB (cr_sum rfl) (by rfl) msum boot_sum (pa_cons (pv 1) pa_nil)) pe_int) (pe_op op_mul pe_int (pe_callB call_len_seq (by rfl) mlen PySem.boot_len (pa_cons (pv 1) pa_nil)))) (pa_cons pe_int pa_nil))))))), ?_⟩
  refine ⟨.ref a, rfl, 63, rfl, a, _, rfl, hS, fun p np => ?_⟩
  rw [hms]
  have s1 : Same H (upd H p (.lst (ms.map V.int))) := same_upd np
  refine ⟨p, _, rfl, .inl (.inl (.inl upd_same)), fun l nl => ?_⟩
  have s2 := same_upd (o := .lst (ms.map V.int)) nl
  have hl2 : SqL K (upd (upd H p (.lst (ms.map V.int))) l (.lst (ms.map V.int))) l (ms.map V.int) := .inl (.inl upd_same)
  refine ⟨.ref l, rfl, l, _, rfl, hl2, fun c nc => ?_⟩
  have s3 := same_upd (o := .lst (ms.map V.int).reverse) nc
  refine ⟨.ref l, rfl, l, ms, rfl, s3.seq hl2, _, 2147483629, rfl, rfl, (show (0 : Int) < 2147483629 by decide), .ref l, rfl, l, _, rfl, .inl (s3.seq hl2), 48271, _, rfl, rfl, .inl ⟨by decide, by decide⟩, _, _, rfl, rfl, small_le (show 3 ≤ 1000 by decide), fun d nd' => ?_⟩
  refine q _ d c ((s1.trans s2).trans (s3.trans (same_upd nd'))) ?_ ?_
  · exact s1.free (s2.free (s3.free nd'))
  · refine ⟨ms.reverse, _, 0, upd_same, ?_, ?_, Int.le_refl 0, Int.le_refl 0⟩
    · have : c ≠ d := ne_of_none (show upd _ c _ c = _ from upd_same) nd'
      rw [upd_ne this, upd_same, List.map_reverse]
    · rw [List.length_reverse]
      exact hl
end
theorem Deck.new {H : Hp} {d c a : Addr} {N : Int} (D : Deck H d c N) (na : H a = none) : a ≠ d ∧ a ≠ c := by
  obtain ⟨cells, m, n, h1, h2, _⟩ := D
  exact ⟨(ne_of_none h1 na).symm, (ne_of_none h2 na).symm⟩
theorem Keep.free {d c a : Addr} {H H' : Hp} (s : Keep d c H H') (na : H' a = none) (h1 : a ≠ d) (h2 : a ≠ c) : H a = none := by
  cases q : H a with
  | none => rfl
  | some o =>
    rw [s a o h1 h2 q] at na
    cases na
end L18

namespace L18
open PySem PySem.Spec PyProof.Rows L2 GR
abbrev L26 : Str := "abcdefghijklmnopqrstuvwxyz"
def sgn (c : Nat) : Str := ⟨#[c]⟩
theorem l26_len : L26.length = 26 := by decide
theorem l26_at : ∀ k, k < 26 → L26.cps.toList[k]? = some (97 + k) := by decide
theorem l26_occ : ∀ k, k < 26 → Builtin.Str.occurrences L26 (sgn (97 + k)) 0 L26.length 1 = [k] := by decide +kernel
def Low (c : Nat) : Prop := 97 ≤ c ∧ c ≤ 122
/-- the words that are no names -/
def barred : List Str := ["key", "if", "at", "count", "sum", "most", "first", "let", "need", "put", "each", "tell"]
/-- a name -/
def Nm (z : Str) : Prop := 1 ≤ z.cps.toList.length ∧ z.cps.toList.length ≤ 8 ∧ (∀ c, c ∈ z.cps.toList → Low c) ∧ z ∉ barred
theorem nm_lit {z : Str} (h : (decide (1 ≤ z.cps.toList.length) && decide (z.cps.toList.length ≤ 8) && z.cps.toList.all (fun c => decide (97 ≤ c) && decide (c ≤ 122)) && decide (z ∉ barred)) = true) : Nm z := by
  simp only [Bool.and_eq_true, decide_eq_true_eq, List.all_eq_true] at h
  obtain ⟨⟨⟨h1, h2⟩, h3⟩, h4⟩ := h
  exact ⟨h1, h2, fun c hc => h3 c hc, h4⟩
theorem barred_q : ∀ z, z ∈ barred → z.cps.toList.head? ≠ some 113 := by decide
/-- the text of single signs, joined -/
theorem join_signs : ∀ cs : List Nat, (Txt.join Str.empty (cs.map sgn)).cps.toList = cs := by
  intro cs
  have hj : ∀ cs : List Nat, TL.joinL [] (cs.map fun c => [c]) = cs := by
    intro cs
    induction cs with
    | nil => rfl
    | cons a r ih =>
      cases r with
      | nil => rfl
      | cons b r =>
        show [a] ++ ([] ++ TL.joinL [] ((b :: r).map fun c => [c])) = a :: b :: r
        rw [ih]
        rfl
  have := TL.tl_join Str.empty (cs.map sgn)
  rw [List.map_map] at this
  rw [TL.join_eq]
  exact this.trans (hj cs)
section
variable {P : Program} {w : World} {K : PySem.W.Frag} {mg : Str → Option Value} {base : Heap}
abbrev s_law_pick : Stmt := topS 14
theorem sc_law_pick : FnScope ["_law_deck_here", "_law_some"] ["_law_deck_here", "_law_some"] (defScope s_law_pick) := ⟨rfl, rfl, rfl, by decide +kernel, rfl, by decide +kernel, by decide +kernel⟩
/-- a pick from a list, or from the letters -/
def sp_pick (K : PySem.W.Frag) : Sp := fun vs H Q _ =>
  (∃ (d c a : Addr) (N : Int) (xs : List V), vs = [.ref d, .ref a] ∧ Deck H d c N ∧ N < 2 ^ 60 ∧ SqL K H a xs ∧ xs ≠ [] ∧ xs.length ≤ 1000 ∧ a ≠ d ∧ a ≠ c ∧ ∀ H' v, Keep d c H H' → Deck H' d c (N + 1) → v ∈ xs → Q v H') ∨
  (∃ (d c : Addr) (N : Int), vs = [.ref d, .str L26] ∧ Deck H d c N ∧ N < 2 ^ 60 ∧ ∀ H' k, Keep d c H H' → Deck H' d c (N + 1) → k < 26 → Q (.str (sgn (97 + k))) H')
theorem ok_pick {f f_law_draw : Addr} {fd fd_law_draw : FuncData} {k : Nat} (F : Fun K "_law_pick" "_law_pick" s_law_pick f fd) (G_law_draw : FnOk P w K mg base CX0 k f_law_draw fd_law_draw ["_law_deck_here", "_law_most"] sp_draw)
    (g_law_draw : mg "_law_draw" = some (.ref f_law_draw)) (K_law_draw : PySem.W.keepIn K (.ref f_law_draw) = true) (b_law_draw : Binds K fd_law_draw ["_law_deck_here", "_law_most"] []) (mlen : mg "len" = none) :
    FnOk P w K mg base CX0 (k + 1) f fd ["_law_deck_here", "_law_some"] (sp_pick K) := by
  have nd := sc_law_pick.nd
  refine F.ok sc_law_pick (fun vs H Q E h => ?_) (fun cdv A outer s H vs Q E hr h => ?_)
  · rcases h with ⟨d, c, a, N, xs, rfl, _⟩ | ⟨d, c, N, rfl, _⟩ <;> rfl
  refine ⟨_, (pss_one (ps_ret (pe_ix ix_seq (pv 1) (pe_call G_law_draw hr (by rfl) g_law_draw K_law_draw b_law_draw .nil pass0 (pa_cons (pv 0) (pa_cons (pe_callB call_len (by rfl) mlen PySem.boot_len (pa_cons (pv 1) pa_nil)) pa_nil))) (fun _ _ => rfl)))), ?_⟩
  rcases h with ⟨d, c, a, N, xs, rfl, D, hN, hS, hne, hlen, had, hac, q⟩ | ⟨d, c, N, rfl, D, hN, q⟩
  · have hpos : 0 < xs.length := List.length_pos_iff.mpr hne
    refine ⟨.ref a, rfl, .ref d, rfl, .ref a, rfl, .ref a, xs.length, rfl, .inl ⟨xs, hS, rfl⟩, d, c, N, (xs.length : Int), rfl, D, hN, by omega, by omega, fun H' r kp D' r0 r1 => ?_⟩
    obtain ⟨j, rfl⟩ := Int.eq_ofNat_of_zero_le r0
    have hj : j < xs.length := by omega
    exact .inl ⟨a, xs, j, xs[j], rfl, rfl, kp.seq hS had hac, atI_nat (List.getElem?_eq_getElem hj), q H' _ kp D' (List.getElem_mem hj)⟩
  · refine ⟨.str L26, rfl, .ref d, rfl, .str L26, rfl, .str L26, 26, rfl, ⟨by rw [l26_len]; decide, l26_len.symm⟩, d, c, N, 26, rfl, D, hN, by decide, by decide, fun H' r kp D' r0 r1 => ?_⟩
    obtain ⟨j, rfl⟩ := Int.eq_ofNat_of_zero_le r0
    have hj : j < 26 := by omega
    exact .inr (.inr ⟨L26, j, 97 + j, rfl, rfl, by rw [l26_len]; decide, atI_nat (l26_at j hj), q H' j kp D' hj⟩)
end
end L18

namespace L18
open PySem PySem.Spec PyProof.Rows L2 GR
/-- lists of texts of single signs -/
def sg (cs : List Nat) : List V := (cs.map sgn).map V.str
theorem sg_length (cs : List Nat) : (sg cs).length = cs.length := by
  unfold sg
  rw [List.length_map, List.length_map]
theorem sg_snoc (cs : List Nat) (c : Nat) : sg cs ++ [V.str (sgn c)] = sg (cs ++ [c]) := by
  unfold sg
  simp
theorem sg_set (cs : List Nat) (i c : Nat) : (sg cs).set i (V.str (sgn c)) = sg (cs.set i c) := by
  unfold sg
  rw [List.map_set, List.map_set]
theorem sg_get {cs : List Nat} {i c : Nat} (h : cs[i]? = some c) : (sg cs)[i]? = some (V.str (sgn c)) := by
  unfold sg
  rw [List.getElem?_map, List.getElem?_map, h]
  rfl
theorem nm_signs {z : Str} {cs : List Nat} (hz : z.cps.toList = 113 :: cs) (h0 : cs.length ≤ 7) (hl : ∀ c, c ∈ cs → Low c) : Nm z := by
  refine ⟨by rw [hz]; simp, by rw [hz, List.length_cons]; omega, ?_, fun hb => ?_⟩
  · rw [hz]
    intro c hc
    rcases List.mem_cons.mp hc with rfl | hc
    · exact ⟨by decide, by decide⟩
    · exact hl c hc
  · have := barred_q z hb
    rw [hz] at this
    exact this rfl
theorem sgn_length (cs : List Nat) : ((cs.map sgn).map (·.length)).sum = cs.length := by
  induction cs with
  | nil => rfl
  | cons c r ih =>
    rw [List.map_cons, List.map_cons, List.sum_cons, ih, List.length_cons]
    show 1 + r.length = r.length + 1
    omega
section
variable {P : Program} {w : World} {K : PySem.W.Frag} {mg : Str → Option Value} {base : Heap}
abbrev s_law_names : Stmt := topS 15
abbrev N_names : List Str := ["_law_deck_here", "_law_many", "_law_letters", "_law_k", "_law_word", "_law_at", "_law_first", "_law_found"]
theorem sc_law_names : FnScope N_names ["_law_deck_here", "_law_many"] (defScope s_law_names) := ⟨rfl, rfl, rfl, by decide +kernel, rfl, by decide +kernel, by decide +kernel⟩
/-- a new list of names -/
def sp_names : Sp := fun vs H Q _ => ∃ (d c : Addr) (N : Int) (many : Nat), vs = [.ref d, .int (many : Int)] ∧ Deck H d c N ∧ N < 2 ^ 55 ∧ many ≤ 100 ∧
  ∀ H' p (zs : List Str), Keep d c H H' → Deck H' d c (N + 20) → H p = none → H' p = some (.lst (zs.map V.str)) → zs.length = many → (∀ z, z ∈ zs → Nm z) → Q (.ref p) H'
theorem ok_names {f f_law_draw f_law_pick : Addr} {fd fd_law_draw fd_law_pick : FuncData} {k : Nat} (F : Fun K "_law_names" "_law_names" s_law_names f fd) (G_law_draw : FnOk P w K mg base CX0 k f_law_draw fd_law_draw ["_law_deck_here", "_law_most"] sp_draw)
    (g_law_draw : mg "_law_draw" = some (.ref f_law_draw)) (K_law_draw : PySem.W.keepIn K (.ref f_law_draw) = true) (b_law_draw : Binds K fd_law_draw ["_law_deck_here", "_law_most"] [])
    (G_law_pick : FnOk P w K mg base CX0 k f_law_pick fd_law_pick ["_law_deck_here", "_law_some"] (sp_pick K))
    (g_law_pick : mg "_law_pick" = some (.ref f_law_pick)) (K_law_pick : PySem.W.keepIn K (.ref f_law_pick) = true) (b_law_pick : Binds K fd_law_pick ["_law_deck_here", "_law_some"] [])
    (mrange : mg "range" = none) (mlen : mg "len" = none) : FnOk P w K mg base CX0 (k + 1) f fd ["_law_deck_here", "_law_many"] sp_names := by
  have nd := sc_law_names.nd
  refine F.ok sc_law_names (fun vs H Q E h => ?_) (fun cdv A outer s H vs Q E hr h => ?_)
  · obtain ⟨d, c, N, many, rfl, _⟩ := h
    rfl
  obtain ⟨d, c, N, many, rfl, D, hN, hmany, q⟩ := h
  refine ⟨_, (pss_cons (ps_set (i := 2) nd rfl (.inr rfl) pe_str)
      (Evl.pss_cut (ps_set (i := 4) nd rfl (.inl rfl) (pe_op op_cat (pe_lst (pa_cons pe_str pa_nil)) (pe_lc (own := [("_law_k", 3)]) rfl nd (pi_range1 rfl mrange (pa_cons (pe_op op_add pe_int (pe_call G_law_draw hr (by rfl) g_law_draw K_law_draw b_law_draw .nil pass0 (pa_cons (pv 0) (pa_cons pe_int pa_nil)))) pa_nil)) (blkOk_by (N := N_names) (sc := defScope s_law_names) (by decide +kernel)) (fun _ _ _ _ _ => (pg_name (i := 3) nd rfl (Or.inl rfl))) (fun _ _ _ _ _ => pts_nil)
          (te := tCall (sp_pick K) [] E0 (tCons (tVar 0) (tCons (tVar 2) tNil)))
          (fun _ _ _ _ _ => (pe_call G_law_pick hr (by rfl) g_law_pick K_law_pick b_law_pick .nil pass0 (pa_cons (pv 0) (pa_cons (pv 2) pa_nil)))))))
      (pss_cons (ps_set (i := 5) nd rfl (.inl rfl) (pe_op op_add pe_int (pe_call G_law_draw hr (by rfl) g_law_draw K_law_draw b_law_draw .nil pass0 (pa_cons (pv 0) (pa_cons (pe_op op_sub (pe_callB call_len_seq (by rfl) mlen PySem.boot_len (pa_cons (pv 4) pa_nil)) pe_int) pa_nil)))))
      (pss_cons (ps_set (i := 6) nd rfl (.inl rfl) (pe_bm PySem.F.plainAttrs_str PySem.F.slot_str_index PySem.F.type_str_index mt_sindex (pv 2) (pa_cons (pe_ix ix_list (pv 4) (pv 5) (fun _ _ => rfl)) pa_nil)))
      (pss_cons (ps_set (i := 7) nd rfl (.inl rfl) (pe_lst pa_nil))
      (pss_cons (ps_for PassesOwn.never rfl (pi_range1 rfl mrange (pa_cons (pv 1) pa_nil)) (pg_name (i := 3) nd rfl (Or.inl rfl))
      (pss_cons (ps_asg (pe_ix ix_str (pv 2) (pe_op op_mod (pe_op op_add (pv 6) (pv 3)) pe_int) (fun _ _ => rfl)) (pg_sub (pv 4) (pv 5) set_list))
        (pss_one (ps_expr (pe_bm PySem.F.plainAttrs_list PySem.F.slot_list_append PySem.F.type_list_append mt_append (pv 7) (pa_cons (pe_join pe_str (pv 4)) pa_nil))))))
      (pss_one (ps_ret (pv 7))))))))), ?_⟩
  -- word = ['q'] + [..]
  refine ⟨fun σ' H' => ∃ wd cs, σ' = [some (.ref d), some (.int (many : Int)), some (.str L26), none, some (.ref wd), none, none, none] ∧ Keep d c H H' ∧ Deck H' d c (N + 8) ∧ H wd = none ∧ wd ≠ d ∧ wd ≠ c ∧ H' wd = some (.lst (sg (113 :: cs))) ∧ 1 ≤ cs.length ∧ cs.length ≤ 7 ∧ (∀ x, x ∈ cs → Low x), ?_, ?_⟩
  · refine ⟨Nat.le_of_lt (small1000 (show 1 ≤ 1000 by decide)), fun l nl => ?_⟩
    have sl := same_upd (o := .lst [.str "q"]) nl
    have D1 := D.same sl
    have hl := D.new nl
    have hl1 : upd H l (.lst [.str "q"]) l = some (.lst [.str "q"]) := upd_same
    refine ⟨.ref d, rfl, d, c, N, 7, rfl, D1, by omega, by decide, by decide, fun H1 r k1 D2 r0 r1 => ?_⟩
    obtain ⟨n, rfl⟩ := Int.eq_ofNat_of_zero_le r0
    refine ⟨1, (n : Int), rfl, rfl, 1 + (n : Int), rfl, by omega, by omega, fun B nB => ?_⟩
    have hB := D2.new nB
    have nlB : l ≠ B := ne_of_none (k1 _ _ hl.1 hl.2 hl1) nB
    have e1n : (1 + (n : Int)).toNat = n + 1 := by omega
    rw [e1n]
    refine lc_range (n := n + 1) (fun i H' => ∃ cs, cs.length = i ∧ (∀ x, x ∈ cs → Low x) ∧ H' B = some (.lst (sg cs)) ∧ (∀ b o, b ≠ d → b ≠ c → b ≠ B → H1 b = some o → H' b = some o) ∧ Deck H' d c (N + 1 + (i : Int))) ?_ ?_ ?_
    · refine ⟨[], rfl, fun x hx => (nomatch hx), upd_same, fun b o _ _ nb e => by rw [upd_ne nb]; exact e, ?_⟩
      exact (D2.same (same_upd nB)).mono (by omega)
    · rintro i H3 hi ⟨cs, hlen, hlow, hB3, k3, D3⟩
      refine ⟨rfl, yes_then ⟨.ref d, rfl, .str L26, rfl, .inr ⟨d, c, _, rfl, D3, by omega, fun H4 j k4 D4 hj => ?_⟩⟩⟩
      refine ⟨_, k4 _ _ hB.1 hB.2 hB3, ?_, cs ++ [97 + j], ?_, ?_, ?_, ?_, ?_⟩
      · rw [sg_length]
        exact small1000 (by omega)
      · rw [List.length_append, hlen]
        rfl
      · intro x hx
        rcases List.mem_append.mp hx with hx | hx
        · exact hlow x hx
        · rw [List.mem_singleton.mp hx]
          unfold Low
          omega
      · rw [upd_same, sg_snoc]
      · intro b o n1 n2 n3 e
        rw [upd_ne n3]
        exact k4 _ _ n1 n2 (k3 b o n1 n2 n3 e)
      · obtain ⟨cells, m, x, g1, g2, g3, g4, g5⟩ := D4
        refine ⟨cells, m, x, ?_, ?_, g3, g4, by omega⟩
        · rw [upd_ne hB.1.symm]
          exact g1
        · rw [upd_ne hB.2.symm]
          exact g2
    · rintro H3 ⟨cs, hlen, hlow, hB3, k3, D3⟩
      have hl3 := k3 _ _ hl.1 hl.2 nlB (k1 _ _ hl.1 hl.2 hl1)
      refine ⟨l, B, _, _, rfl, rfl, hl3, hB3, ?_, fun wd nwd => ?_⟩
      · rw [sg_length]
        exact small_le (show 1 + cs.length ≤ 1000 by omega)
      have hw := D3.new nwd
      have sw := same_upd (o := .lst ([.str "q"] ++ sg cs)) nwd
      refine ⟨wd, cs, rfl, ?_, (D3.same sw).mono (by omega), ?_, hw.1, hw.2, ?_, by omega, by omega, hlow⟩
      · intro b o n1 n2 e
        refine sw _ _ (k3 b o n1 n2 ?_ (k1 _ _ n1 n2 (sl _ _ e)))
        exact ne_of_none (k1 _ _ n1 n2 (sl _ _ e)) nB
      · cases e : H wd with
        | none => rfl
        | some o =>
          have nb := ne_of_none (k1 _ _ hw.1 hw.2 (sl _ _ e)) nB
          rw [k3 wd o hw.1 hw.2 nb (k1 _ _ hw.1 hw.2 (sl _ _ e))] at nwd
          cases nwd
      · exact upd_same
  rintro σ' H1 ⟨wd, cs, rfl, k1, D1, nwd, hwd, hwc, hw1, c1, c7, hlow⟩
  -- at, first
  refine ⟨.ref d, rfl, .ref wd, rfl, wd, _, rfl, .inl (.inl (.inl hw1)), _, 1, rfl, rfl, d, c, N + 8, ((sg (113 :: cs)).length : Int) - 1, rfl, D1, by omega, ?_, ?_, fun H2 r k2 D2 r0 r1 => ⟨_, _, rfl, rfl, ?_⟩⟩
  · rw [sg_length, List.length_cons]
    omega
  · rw [sg_length, List.length_cons]
    omega
  rw [sg_length, List.length_cons] at r1
  obtain ⟨j, rfl⟩ := Int.eq_ofNat_of_zero_le r0
  have hj : j < cs.length := by omega
  have hw2 := k2 _ _ hwd hwc hw1
  have hcj : (113 :: cs)[j + 1]? = some cs[j] := by
    rw [List.getElem?_cons_succ]
    exact List.getElem?_eq_getElem hj
  have hlj := hlow _ (List.getElem_mem hj)
  obtain ⟨m, hm, hm26⟩ : ∃ m, cs[j] = 97 + m ∧ m < 26 := ⟨cs[j] - 97, by unfold Low at hlj; omega, by unfold Low at hlj; omega⟩
  refine ⟨.str L26, rfl, rfl, .ref wd, rfl, .int (1 + (j : Int)), rfl, wd, _, 1 + (j : Int), .str (sgn (97 + m)), rfl, rfl, .inl (.inl hw2), at_of (j := j + 1) (by omega) (by rw [sg_get hcj, hm]), L26, sgn (97 + m), m, [], rfl, rfl, l26_occ m hm26, ?_⟩
  refine ⟨Nat.zero_le _, fun fo nfo => ?_⟩
  have sf := same_upd (o := .lst []) nfo
  have hfo := D2.new nfo
  have nwf : wd ≠ fo := ne_of_none hw2 nfo
  refine ⟨.int (many : Int), rfl, (many : Int), rfl, by omega, by omega, ?_⟩
  have emany : ((many : Int)).toNat = many := by omega
  rw [emany]
  refine for_range (n := many) (fun i σ H' => ∃ (y3 : Option V) (cs' : List Nat) (zs : List Str), σ = [some (.ref d), some (.int (many : Int)), some (.str L26), y3, some (.ref wd), some (.int (1 + (j : Int))), some (.int (m : Int)), some (.ref fo)] ∧ H' wd = some (.lst (sg (113 :: cs'))) ∧ cs'.length = cs.length ∧ (∀ x, x ∈ cs' → Low x) ∧
      H' fo = some (.lst (zs.map V.str)) ∧ zs.length = i ∧ (∀ z, z ∈ zs → Nm z) ∧ (∀ b o, b ≠ wd → b ≠ fo → H2 b = some o → H' b = some o)) ?_ ?_ ?_
  · refine ⟨none, cs, [], rfl, ?_, rfl, hlow, upd_same, rfl, fun z hz => (nomatch hz), fun b o n1 n2 e => by rw [upd_ne n2]; exact e⟩
    rw [upd_ne nwf]
    exact hw2
  · rintro i σ H3 hi ⟨y3, cs', zs, rfl, hw3, hl3, hlow3, hf3, hz3, hnm3, k3⟩
    have hmod : ∃ t : Nat, ((m : Int) + (0 + (i : Int))) % 26 = (t : Int) ∧ t < 26 := ⟨(m + i) % 26, by omega, Nat.mod_lt _ (by decide)⟩
    obtain ⟨t, ht, ht26⟩ := hmod
    refine ⟨.str L26, rfl, .int (m : Int), rfl, .int (0 + (i : Int)), rfl, _, _, rfl, rfl, _, 26, rfl, rfl, (show (0 : Int) < 26 by decide), L26, (t : Int), 97 + t, rfl, congrArg V.int ht, by rw [l26_len]; decide, atI_nat (l26_at t ht26), ?_⟩
    have hix : ixN (sg (113 :: cs')).length (1 + (j : Int)) = some (j + 1) := by
      unfold ixN
      rw [if_pos (by omega), if_pos (by rw [sg_length, List.length_cons]; omega)]
      exact congrArg some (by omega)
    refine ⟨.ref wd, rfl, .int (1 + (j : Int)), rfl, wd, _, 1 + (j : Int), j + 1, rfl, rfl, hw3, hix, ?_⟩
    have hset : (sg (113 :: cs')).set (j + 1) (.str (sgn (97 + t))) = sg (113 :: cs'.set j (97 + t)) := sg_set _ _ _
    have hw4 : upd H3 wd (.lst ((sg (113 :: cs')).set (j + 1) (.str (sgn (97 + t))))) wd = some (.lst (sg (113 :: cs'.set j (97 + t)))) := by rw [upd_same, hset]
    have hf4 : upd H3 wd (.lst ((sg (113 :: cs')).set (j + 1) (.str (sgn (97 + t))))) fo = some (.lst (zs.map V.str)) := by
      rw [upd_ne nwf.symm]
      exact hf3
    refine ⟨.ref fo, rfl, .inl ⟨rfl, _, .inl (.inl hf4)⟩, ⟨_, rfl⟩, .ref wd, rfl, Str.empty, wd, (113 :: cs'.set j (97 + t)).map sgn, rfl, rfl, .inl (.inl (.inl hw4)), ?_, fo, _, _, rfl, rfl, hf4, ?_, ?_⟩
    · rw [sgn_length, List.length_map, List.length_cons, List.length_set]
      show _ + _ * 0 ≤ _
      omega
    · rw [List.length_map]
      exact small1000 (by omega)
    · refine ⟨_, cs'.set j (97 + t), zs ++ [Txt.join Str.empty ((113 :: cs'.set j (97 + t)).map sgn)], rfl, ?_, by rw [List.length_set]; exact hl3, ?_, ?_, by rw [List.length_append, hz3]; rfl, ?_, ?_⟩
      · rw [upd_ne nwf]
        exact hw4
      · intro x hx
        rcases List.mem_or_eq_of_mem_set hx with hx | rfl
        · exact hlow3 x hx
        · unfold Low
          omega
      · rw [upd_same, List.map_append]
        rfl
      · intro z hz
        rcases List.mem_append.mp hz with hz | hz
        · exact hnm3 z hz
        · rw [List.mem_singleton.mp hz]
          refine nm_signs (cs := cs'.set j (97 + t)) (join_signs _) (by rw [List.length_set]; omega) ?_
          intro x hx
          rcases List.mem_or_eq_of_mem_set hx with hx | rfl
          · exact hlow3 x hx
          · unfold Low
            omega
      · intro b o n1 n2 e
        rw [upd_ne n2, upd_ne n1]
        exact k3 b o n1 n2 e
  · rintro σ H3 ⟨y3, cs', zs, rfl, hw3, hl3, hlow3, hf3, hz3, hnm3, k3⟩
    have nHfo : H fo = none := (k1.trans k2).free nfo hfo.1 hfo.2
    refine ⟨.ref fo, rfl, q H3 fo zs ?_ ?_ nHfo hf3 hz3 hnm3⟩
    · intro b o n1 n2 e
      exact k3 b o (ne_of_none e nwd) (ne_of_none e nHfo) (k2 _ _ n1 n2 (k1 _ _ n1 n2 e))
    · obtain ⟨cells, mm, x, e1, e2, e3, e4, e5⟩ := D2
      exact ⟨cells, mm, x, k3 _ _ hwd.symm hfo.1.symm e1, k3 _ _ hwc.symm hfo.2.symm e2, e3, e4, by omega⟩
end
end L18

namespace L18
open PySem PySem.Spec PyProof.Rows L2 GR
theorem Deck.upd {H : Hp} {d c p : Addr} {N : Int} {o : HO} (D : Deck H d c N) (h1 : p ≠ d) (h2 : p ≠ c) : Deck (L2.upd H p o) d c N := by
  obtain ⟨cells, m, n, e1, e2, e3⟩ := D
  exact ⟨cells, m, n, by rw [upd_ne h1.symm]; exact e1, by rw [upd_ne h2.symm]; exact e2, e3⟩
def wD (tl cl nl : Addr) : List (Key × V) := [(.inr "tables", .ref tl), (.inr "columns", .ref cl), (.inr "names", .ref nl)]
theorem wD_t (tl cl nl : Addr) : valV (wD tl cl nl) (.inr "tables") = some (.ref tl) := valV_pos rfl
theorem wD_c (tl cl nl : Addr) : valV (wD tl cl nl) (.inr "columns") = some (.ref cl) := (valV_neg (show ¬ ((.inr "tables" : Key) = .inr "columns") by decide)).trans (valV_pos rfl)
theorem wD_n (tl cl nl : Addr) : valV (wD tl cl nl) (.inr "names") = some (.ref nl) := (valV_neg (show ¬ ((.inr "tables" : Key) = .inr "names") by decide)).trans ((valV_neg (show ¬ ((.inr "columns" : Key) = .inr "names") by decide)).trans (valV_pos rfl))
/-- the world at u: lists of tables, columns, variables -/
structure Wd (H : Hp) (d c u tl cl nl : Addr) (ts cs ns : List Str) : Prop where
  dct : H u = some (.dK (wD tl cl nl))
  ht : H tl = some (.lst (ts.map V.str))
  hc : H cl = some (.lst (cs.map V.str))
  hn : H nl = some (.lst (ns.map V.str))
  t0 : tl ≠ d ∧ tl ≠ c
  c0 : cl ≠ d ∧ cl ≠ c
  n0 : nl ≠ d ∧ nl ≠ c
  u0 : u ≠ d ∧ u ≠ c
  lt : ts.length = 2
  lc : cs.length = 3
  ln : ns.length = 3
  at' : ∀ z, z ∈ ts → Nm z
  ac : ∀ z, z ∈ cs → Nm z
  an : ∀ z, z ∈ ns → Nm z
theorem Wd.keep {H H' : Hp} {d c u tl cl nl : Addr} {ts cs ns : List Str} (W : Wd H d c u tl cl nl ts cs ns) (k : Keep d c H H') : Wd H' d c u tl cl nl ts cs ns :=
  ⟨k _ _ W.u0.1 W.u0.2 W.dct, k _ _ W.t0.1 W.t0.2 W.ht, k _ _ W.c0.1 W.c0.2 W.hc, k _ _ W.n0.1 W.n0.2 W.hn, W.t0, W.c0, W.n0, W.u0, W.lt, W.lc, W.ln, W.at', W.ac, W.an⟩
theorem in_nm : Nm "in" := nm_lit (by decide)
theorem cut_map (zs : List Str) (lo hi : Option Int) (a b : Nat) (h1 : HT.sIx zs.length 0 lo = a) (h2 : HT.sIx zs.length zs.length hi = b) : cutV (zs.map V.str) lo hi = ((zs.drop a).take (b - a)).map V.str := by
  unfold cutV
  rw [List.length_map, h1, h2, List.map_take, List.map_drop]
section
variable {P : Program} {w : World} {K : PySem.W.Frag} {mg : Str → Option Value} {base : Heap}
abbrev s_law_world : Stmt := topS 16
theorem sc_law_world : FnScope ["_law_deck_here", "_law_names_here"] ["_law_deck_here"] (defScope s_law_world) := ⟨rfl, rfl, rfl, by decide +kernel, rfl, by decide +kernel, by decide +kernel⟩
def sp_world : Sp := fun vs H Q _ => ∃ (d c : Addr) (N : Int), vs = [.ref d] ∧ Deck H d c N ∧ N < 2 ^ 54 ∧
  ∀ H' u tl cl nl ts cs ns, Keep d c H H' → Deck H' d c (N + 30) → H u = none → Wd H' d c u tl cl nl ts cs ns → Q (.ref u) H'
theorem ok_world {f f_law_draw f_law_names : Addr} {fd fd_law_draw fd_law_names : FuncData} {k : Nat} (F : Fun K "_law_world" "_law_world" s_law_world f fd) (G_law_draw : FnOk P w K mg base CX0 k f_law_draw fd_law_draw ["_law_deck_here", "_law_most"] sp_draw)
    (g_law_draw : mg "_law_draw" = some (.ref f_law_draw)) (K_law_draw : PySem.W.keepIn K (.ref f_law_draw) = true) (b_law_draw : Binds K fd_law_draw ["_law_deck_here", "_law_most"] [])
    (G_law_names : FnOk P w K mg base CX0 k f_law_names fd_law_names ["_law_deck_here", "_law_many"] sp_names)
    (g_law_names : mg "_law_names" = some (.ref f_law_names)) (K_law_names : PySem.W.keepIn K (.ref f_law_names) = true) (b_law_names : Binds K fd_law_names ["_law_deck_here", "_law_many"] []) : FnOk P w K mg base CX0 (k + 1) f fd ["_law_deck_here"] sp_world := by
  have nd := sc_law_world.nd
  refine F.ok sc_law_world (fun vs H Q E h => ?_) (fun cdv A outer s H vs Q E hr h => ?_)
  · obtain ⟨d, c, N, rfl, _⟩ := h
    rfl
  obtain ⟨d, c, N, rfl, D, hN, q⟩ := h
  refine ⟨_, (pss_cons (ps_set (i := 1) nd rfl (.inl rfl) (pe_call G_law_names hr (by rfl) g_law_names K_law_names b_law_names .nil pass0 (pa_cons (pv 0) (pa_cons pe_int pa_nil))))
      (Evl.pss_cut (ps_if (pt_cmpR op_eq (pe_call G_law_draw hr (by rfl) g_law_draw K_law_draw b_law_draw .nil pass0 (pa_cons (pv 0) (pa_cons pe_int pa_nil))) pe_int (nomark _))
      (pss_one (ps_asg (pe_ix ix_list (pv 1) pe_int (fun _ _ => rfl)) (pg_sub (pv 1) pe_int set_list)))
      pss_nil)
      (pss_one (ps_ret (pe_disp (pps_cons pe_str (pe_slice sl_list (pv 1) po_none (po_some pe_int)) (pps_cons pe_str (pe_op op_cat (pe_slice sl_list (pv 1) (po_some pe_int) (po_some pe_int)) (pe_lst (pa_cons pe_str pa_nil))) (pps_cons pe_str (pe_slice sl_list (pv 1) (po_some pe_int) po_none) pps_nil))) (by decide) rfl (by simp) (by decide)))))), ?_⟩
  refine ⟨.ref d, rfl, d, c, N, 7, rfl, D, by omega, by decide, fun H1 p zs k1 D1 np hp hlen hnm => ?_⟩
  have hpn : p ≠ d ∧ p ≠ c := by
    obtain ⟨cells, m, n, h1, h2, _⟩ := D
    exact ⟨(ne_of_none h1 np).symm, (ne_of_none h2 np).symm⟩
  refine ⟨fun σ' H' => ∃ zs' : List Str, σ' = [some (.ref d), some (.ref p)] ∧ Keep d c H H' ∧ Deck H' d c (N + 25) ∧ H' p = some (.lst (zs'.map V.str)) ∧ zs'.length = 7 ∧ ∀ z, z ∈ zs' → Nm z, ?_, ?_⟩
  · refine ⟨.ref d, rfl, d, c, _, 4, rfl, D1, by omega, by decide, by decide, fun H2 r k2 D2 r0 r1 => ⟨rfl, _, rfl, ite2 (fun e => ?_) (fun e => ?_)⟩⟩
    · have hp2 := k2 _ _ hpn.1 hpn.2 hp
      have h2 : (zs.map V.str)[2]? = some (.str (zs[2]'(by omega))) := by
        rw [List.getElem?_map, List.getElem?_eq_getElem (by omega)]
        rfl
      refine ⟨.ref p, rfl, p, _, 2, _, rfl, rfl, .inl (.inl hp2), atI_nat (j := 2) h2, .ref p, rfl, p, _, 0, 0, rfl, rfl, hp2, ?_, ?_⟩
      · unfold ixN
        rw [if_pos (by decide), List.length_map, hlen]
        rfl
      rw [← List.map_set]
      refine ⟨_, rfl, fun b o n1 n2 e => ?_, ?_, upd_same, by rw [List.length_set, hlen], fun z hz => ?_⟩
      · rw [upd_ne (ne_of_none e np)]
        exact k2 _ _ n1 n2 (k1 _ _ n1 n2 e)
      · exact (D2.upd hpn.1 hpn.2).mono (by omega)
      · rcases List.mem_or_eq_of_mem_set hz with h | rfl
        · exact hnm z h
        · exact hnm _ (List.getElem_mem _)
    · exact ⟨zs, rfl, k1.trans k2, D2.mono (by omega), k2 _ _ hpn.1 hpn.2 hp, hlen, hnm⟩
  rintro σ' H2 ⟨zs, rfl, k2, D2, hp2, hlen, hnm⟩
  intro u nu
  have su := same_upd (o := .dK []) nu
  have hu := D2.new nu
  refine ⟨.ref p, rfl, 2, rfl, p, _, rfl, .inl (.inl (su _ _ hp2)), fun tl ntl => ?_⟩
  have e1 := cut_map zs none (some 2) 0 2 rfl (by rw [show (some (2 : Int)) = some ((2 : Nat) : Int) from rfl, HT.sIx_nat, hlen]; rfl)
  have e2 := cut_map zs (some 2) (some 4) 2 4 (by rw [show (some (2 : Int)) = some ((2 : Nat) : Int) from rfl, HT.sIx_nat, hlen]; rfl) (by rw [show (some (4 : Int)) = some ((4 : Nat) : Int) from rfl, HT.sIx_nat, hlen]; rfl)
  have e3 := cut_map zs (some 4) none 4 7 (by rw [show (some (4 : Int)) = some ((4 : Nat) : Int) from rfl, HT.sIx_nat, hlen]; rfl) (by rw [HT.sIx_none, hlen])
  rw [e1]
  have s1 := same_upd (o := .lst (((zs.drop 0).take (2 - 0)).map V.str)) ntl
  refine ⟨.ref p, rfl, 2, rfl, 4, rfl, p, _, rfl, .inl (.inl (s1 _ _ (su _ _ hp2))), fun ml nml => ?_⟩
  rw [e2]
  have s2 := same_upd (o := .lst (((zs.drop 2).take (4 - 2)).map V.str)) nml
  refine ⟨small_le (show 1 ≤ 1000 by decide), fun il nil => ?_⟩
  have s3 := same_upd (o := .lst [.str "in"]) nil
  have l2 : ((zs.drop 2).take (4 - 2)).length = 2 := by rw [List.length_take, List.length_drop, hlen]; rfl
  refine ⟨ml, il, _, _, rfl, rfl, s3 _ _ upd_same, upd_same, by rw [List.length_map, l2]; exact small_le (show 3 ≤ 1000 by decide), fun cl ncl => ?_⟩
  have ec : (((zs.drop 2).take (4 - 2)).map V.str) ++ [V.str "in"] = (((zs.drop 2).take (4 - 2)) ++ [("in" : Str)]).map V.str := by rw [List.map_append]; rfl
  rw [ec]
  have s4 := same_upd (o := .lst ((((zs.drop 2).take (4 - 2)) ++ [("in" : Str)]).map V.str)) ncl
  refine ⟨.ref p, rfl, 4, rfl, p, _, rfl, .inl (.inl (s4 _ _ (s3 _ _ (s2 _ _ (s1 _ _ (su _ _ hp2)))))), fun nl nnl => ?_⟩
  rw [e3]
  have s5 := same_upd (o := .lst (((zs.drop 4).take (7 - 4)).map V.str)) nnl
  have s45 := s4.trans s5
  have s25 := s2.trans (s3.trans s45)
  have s15 := s1.trans s25
  have u5 := s15 _ _ (show upd H2 u (.dK []) u = _ from upd_same)
  have t5 := s25 _ _ (show upd (upd H2 u (.dK [])) tl (.lst (((zs.drop 0).take (2 - 0)).map V.str)) tl = _ from upd_same)
  have c5 := s5 _ _ (show upd (upd (upd (upd (upd H2 u (.dK [])) tl (.lst (((zs.drop 0).take (2 - 0)).map V.str))) ml (.lst (((zs.drop 2).take (4 - 2)).map V.str))) il (.lst [.str "in"])) cl (.lst ((((zs.drop 2).take (4 - 2)) ++ [("in" : Str)]).map V.str)) cl = _ from upd_same)
  have n5 : upd (upd (upd (upd (upd (upd H2 u (.dK [])) tl (.lst (((zs.drop 0).take (2 - 0)).map V.str))) ml (.lst (((zs.drop 2).take (4 - 2)).map V.str))) il (.lst [.str "in"])) cl (.lst ((((zs.drop 2).take (4 - 2)) ++ [("in" : Str)]).map V.str))) nl (.lst (((zs.drop 4).take (7 - 4)).map V.str)) nl = _ := upd_same
  have s05 := su.trans s15
  have dtl := D2.new (su.free ntl)
  have dcl := (D2.same (su.trans (s1.trans (s2.trans s3)))).new ncl
  have dnl := (D2.same (su.trans (s1.trans (s2.trans (s3.trans s4))))).new nnl
  clear nnl ncl nil nml ntl s1 s2 s3 s4 s5 s45 s25
  revert u5 t5 c5 n5 s05
  clear s15
  generalize upd (upd (upd (upd (upd (upd H2 u (.dK [])) tl (.lst (((zs.drop 0).take (2 - 0)).map V.str))) ml (.lst (((zs.drop 2).take (4 - 2)).map V.str))) il (.lst [.str "in"])) cl (.lst ((((zs.drop 2).take (4 - 2)) ++ [("in" : Str)]).map V.str))) nl (.lst (((zs.drop 4).take (7 - 4)).map V.str)) = H6
  intro u5 t5 c5 n5 s05
  have tu : tl ≠ u := ne_of t5 u5 (fun z => by cases z)
  have cu : cl ≠ u := ne_of c5 u5 (fun z => by cases z)
  have nu' : nl ≠ u := ne_of n5 u5 (fun z => by cases z)
  have nHu : H u = none := k2.free nu hu.1 hu.2
  refine ⟨u5, wD tl cl nl, rfl, (show 3 ≤ 15 by decide), q _ u tl cl nl ((zs.drop 0).take (2 - 0)) ((zs.drop 2).take (4 - 2) ++ [("in" : Str)]) ((zs.drop 4).take (7 - 4)) (fun b o n1 n2 e => ?_) (((D2.same s05).upd hu.1 hu.2).mono (by omega)) nHu ?_⟩
  · rw [upd_ne (ne_of_none e nHu)]
    exact s05 _ _ (k2 _ _ n1 n2 e)
  · refine ⟨upd_same, by rw [upd_ne tu]; exact t5, by rw [upd_ne cu]; exact c5, by rw [upd_ne nu']; exact n5, dtl, dcl, dnl, hu, by rw [List.length_take, List.length_drop, hlen]; rfl, by rw [List.length_append, l2]; rfl, by rw [List.length_take, List.length_drop, hlen]; rfl, fun z hz => hnm z (List.mem_of_mem_drop (List.mem_of_mem_take hz)), fun z hz => ?_, fun z hz => hnm z (List.mem_of_mem_drop (List.mem_of_mem_take hz))⟩
    rcases List.mem_append.mp hz with h | h
    · exact hnm z (List.mem_of_mem_drop (List.mem_of_mem_take h))
    · rw [List.mem_singleton.mp h]
      exact in_nm
end
end L18

namespace GR
open PySem PySem.Spec PyProof.Rows L2
theorem FnG.mono {P : Program} {w : World} {K : PySem.W.Frag} {mg : Str → Option Value} {base : Heap} {CX : CXT} {j k : Nat} {f : Addr} {fd : FuncData} {ps : List Str} {sp : Sp} (F : FnG P w K mg base CX j f fd ps sp) (h : j ≤ k) : FnG P w K mg base CX k f fd ps sp :=
  ⟨F.size, fun A outer s H args us vs Q E g hr => F.go A outer s H args us vs Q E g (hr.mono h)⟩
/-! ### the signs of what repr shows -/
abbrev SO (x : Str) : Prop := ∀ c, c ∈ x.cps.toList → c < 0x110000
theorem so_iff {x : Str} : PyData.strOk x = true ↔ SO x := by
  unfold PyData.strOk
  rw [Array.all_eq_true']
  constructor
  · intro h c hc
    have := h c (by simpa using hc)
    simpa using this
  · intro h c hc
    have := h c (by simpa using hc)
    simpa using this
theorem so_append {x y : Str} (hx : SO x) (hy : SO y) : SO (x ++ y) := fun c hc => by
  rcases mem_cps_append.mp hc with h | h
  · exact hx c h
  · exact hy c h
theorem so_join {sep : Str} (hs : SO sep) {ts : List Str} (h : ∀ t, t ∈ ts → SO t) : SO (Str.join sep ts) := fun c hc => by
  rcases (mem_join sep c ts).mp hc with ⟨t, ht, hc⟩ | ⟨_, hc⟩
  · exact h t ht c hc
  · exact hs c hc
theorem hex_so (w c : Nat) : ∀ k, k ∈ List.replicate (w - ((Nat.toDigits 16 c).map Char.toNat).length) 48 ++ (Nat.toDigits 16 c).map Char.toNat → k < 0x110000 := by
  intro k hk
  rcases List.mem_append.mp hk with h | h
  · have := List.eq_of_mem_replicate h
    omega
  · obtain ⟨ch, _, rfl⟩ := List.mem_map.mp h
    have := ch.valid
    have e : ch.toNat = ch.val.toNat := rfl
    rcases this with h | ⟨_, h⟩
    · have h' : ch.val.toNat < 0xd800 := h
      omega
    · have h' : ch.val.toNat < 0x110000 := h
      omega
theorem reprChar_so {q c : Nat} (hc : c < 0x110000) : ∀ k, k ∈ Builtin.Str.reprChar q c → k < 0x110000 := by
  intro k hk
  have h8 := hex_so 8 c k
  have h4 := hex_so 4 c k
  have h2 := hex_so 2 c k
  unfold Builtin.Str.reprChar at hk
  dsimp only at hk
  repeat' split at hk
  all_goals first
    | (rcases List.mem_append.mp hk with hk | hk
       · (simp only [List.mem_cons, List.not_mem_nil, or_false] at hk; omega)
       · first | exact h2 hk | exact h4 hk | exact h8 hk)
    | (simp only [List.mem_cons, List.not_mem_nil, or_false] at hk; omega)
theorem fold_so {q : Nat} : ∀ (l : List Nat) (acc : Array Nat), (∀ c, c ∈ l → c < 0x110000) → (∀ c, c ∈ acc.toList → c < 0x110000) → ∀ c, c ∈ (l.foldl (fun out c => out ++ (Builtin.Str.reprChar q c).toArray) acc).toList → c < 0x110000
  | [], acc, _, h => h
  | d :: r, acc, hl, h => by
    rw [List.foldl_cons]
    refine fold_so r _ (fun c hc => hl c (List.mem_cons_of_mem _ hc)) fun c hc => ?_
    rw [Array.toList_append, List.mem_append] at hc
    rcases hc with hc | hc
    · exact h c hc
    · exact reprChar_so (hl d List.mem_cons_self) c (by simpa using hc)
theorem repr_so {x : Str} (h : SO x) : SO (reprText x) := fun c hc => by
  have hq : reprQuote x < 0x110000 := by
    unfold reprQuote
    split <;> decide
  unfold reprText at hc
  have hc' : c ∈ ((x.cps.foldl (fun out c => out ++ (Builtin.Str.reprChar (reprQuote x) c).toArray) #[reprQuote x]).push (reprQuote x)).toList := hc
  rw [Array.toList_push, List.mem_append] at hc'
  rcases hc' with hc' | hc'
  · rw [← Array.foldl_toList] at hc'
    refine fold_so x.cps.toList _ h (fun c hc => ?_) c hc'
    have : c = reprQuote x := by simpa using hc
    rw [this]
    exact hq
  · have : c = reprQuote x := by simpa using hc'
    rw [this]
    exact hq
mutual
theorem shown_so : ∀ d : PyData, d.canLay0 = true → SO d.shown
  | .none, _ => by rw [PyData.shown_none]; decide
  | .bool b, _ => by
    rw [PyData.shown_bool]
    cases b <;> decide
  | .int i, _ => fun c hc => by
    by_cases h : 57 < c
    · exact absurd hc (shown_int_free' (k := c) ⟨by omega, .inr h⟩ i)
    · omega
  | .str x, h => by
    rw [PyData.shown_str]
    exact repr_so (so_iff.mp (by simpa [PyData.canLay0] using h))
  | .list xs, h => by
    rw [PyData.shown_list]
    exact so_append (so_append (by decide) (so_join (by decide) (shownAll_so xs (by simpa [PyData.canLay0] using h)))) (by decide)
  | .tuple xs, h => by
    rw [PyData.shown_tuple]
    refine so_append (so_append (by decide) (so_join (by decide) (shownAll_so xs (by simpa [PyData.canLay0] using h)))) ?_
    split <;> decide
  | .dict _, h => by simp [PyData.canLay0] at h
theorem shownAll_so : ∀ xs : List PyData, PyData.canLayAll0 xs = true → ∀ t, t ∈ PyData.shownAll xs → SO t
  | [], _, t, ht => by rw [PyData.shownAll_nil] at ht; exact absurd ht (by simp)
  | x :: xs, h, t, ht => by
    have h' : x.canLay0 = true ∧ PyData.canLayAll0 xs = true := by simpa [PyData.canLayAll0] using h
    rw [PyData.shownAll_cons, List.mem_cons] at ht
    rcases ht with rfl | ht
    · exact shown_so x h'.1
    · exact shownAll_so xs h'.2 t ht
end
theorem shown_ok {d : PyData} (h : d.canLay0 = true) : PyData.strOk d.shown = true := so_iff.mpr (shown_so d h)
section
variable {X : Cx} {pins : List (Addr × Obj)} {σ : L2.St} {H : Hp} {s : Shared}
/-- repr of a truth -/
def rReprB : List V → Hp → VK → Prop := fun xs H Q => ∃ b, xs = [.bl b] ∧ Q (.str (PyData.bool b).shown) H
theorem call_reprB : CallR X (.builtin "repr") rReprB := by
  intro pins s σ H xs us Q I r h
  obtain ⟨b, rfl, q⟩ := h
  obtain ⟨u, rfl, rv⟩ := vals1 r
  obtain rfl : u = Value.bool b := rv
  rw [PyData.shown_bool] at q
  exact P.repr_of_bool ⟨.str _, H, I.kept fun _ _ e => e, ⟨_, rfl⟩, q⟩
end
end GR

namespace L18
open PySem PySem.Spec PyProof.Rows L2 GR
/-! ### data of tuples, texts and ints -/
mutual
/-- no lists in it -/
def flatD : PyData → Bool
  | .tuple ds => flatDs ds
  | .int _ => true
  | .str _ => true
  | .bool _ => true
  | .none => true
  | _ => false
def flatDs : List PyData → Bool
  | [] => true
  | d :: ds => flatD d && flatDs ds
end
theorem flatDs_of : ∀ {ds : List PyData}, (∀ d, d ∈ ds → flatD d = true) → flatDs ds = true
  | [], _ => by rw [flatDs]
  | d :: ds, h => by
    rw [flatDs, h d List.mem_cons_self, flatDs_of fun x hx => h x (List.mem_cons_of_mem _ hx)]
    rfl
/-- the tuples stay -/
def KeepT (H H' : Hp) : Prop := (∀ b xs, H b = some (.tup xs) → H' b = some (.tup xs)) ∧ ∀ b o xs, H b = some (.frz o (.tup xs)) → H' b = some (.frz o (.tup xs))
theorem KeepT.of {H H' : Hp} (s : Same H H') : KeepT H H' := ⟨fun b xs e => s b _ e, fun b o xs e => s b _ e⟩
theorem KeepT.refl {H : Hp} : KeepT H H := ⟨fun _ _ e => e, fun _ _ _ e => e⟩
theorem KeepT.trans {H H1 H2 : Hp} (a : KeepT H H1) (b : KeepT H1 H2) : KeepT H H2 := ⟨fun x xs e => b.1 x xs (a.1 x xs e), fun x o xs e => b.2 x o xs (a.2 x o xs e)⟩
theorem KeepT.seqt {K : PySem.W.Frag} {H H' : Hp} (s : KeepT H H') {a : Addr} {xs : List V} (h : SqT K H a xs) : SqT K H' a xs := by
  rcases h with (h | ⟨o, h⟩) | h
  · exact .inl (.inl (s.1 _ _ h))
  · exact .inl (.inr ⟨o, s.2 _ _ _ h⟩)
  · exact .inr h
theorem KeepT.upd {H : Hp} {a : Addr} {o : HO} (ha : ∀ xs, H a ≠ some (.tup xs)) (hb : ∀ u xs, H a ≠ some (.frz u (.tup xs))) : KeepT H (L2.upd H a o) := by
  refine ⟨fun b xs e => ?_, fun b u xs e => ?_⟩
  · have : b ≠ a := by
      rintro rfl
      exact ha xs e
    rw [upd_ne this]
    exact e
  · have : b ≠ a := by
      rintro rfl
      exact hb u xs e
    rw [upd_ne this]
    exact e
theorem KeepT.lst {H : Hp} {a : Addr} {ys : List V} {o : HO} (h : H a = some (.lst ys)) : KeepT H (L2.upd H a o) := KeepT.upd (fun xs e => by rw [h] at e; cases e) (fun u xs e => by rw [h] at e; cases e)
theorem KeepT.dk {H : Hp} {a : Addr} {ys : List (Key × V)} {o : HO} (h : H a = some (.dK ys)) : KeepT H (L2.upd H a o) := KeepT.upd (fun xs e => by rw [h] at e; cases e) (fun u xs e => by rw [h] at e; cases e)
theorem KeepT.non {H : Hp} {a : Addr} {o : HO} (h : H a = none) : KeepT H (L2.upd H a o) := KeepT.of (same_upd h)
theorem Keep.t {H H' : Hp} {d c : Addr} {N : Int} (k : Keep d c H H') (D : Deck H d c N) : KeepT H H' := by
  obtain ⟨cells, m, n, h1, h2, _⟩ := D
  exact ⟨fun b xs e => k _ _ (ne_of e h1 (fun z => by cases z)) (ne_of e h2 (fun z => by cases z)) e,
    fun b o xs e => k _ _ (ne_of e h1 (fun z => by cases z)) (ne_of e h2 (fun z => by cases z)) e⟩
mutual
theorem dp_keep {K : PySem.W.Frag} {H H' : Hp} (s : KeepT H H') : ∀ (d : PyData) (v : V), flatD d = true → Dp K H v d → Dp K H' v d
  | .none, _, _, h => by
    cases h
    exact .non
  | .bool b, _, _, h => by
    cases h
    exact .bl b
  | .int i, _, _, h => by
    cases h
    exact .int i
  | .str z, _, _, h => by
    cases h
    exact .str z
  | .tuple ds, _, hf, h => by
    cases h with
    | tup h1 h2 => exact .tup (s.seqt h1) (dp_keepAll s ds _ (by rw [flatD] at hf; exact hf) h2)
  | .list ds, _, hf, h => by simp only [flatD, Bool.false_eq_true] at hf
  | .dict ds, _, hf, h => by cases h
theorem dp_keepAll {K : PySem.W.Frag} {H H' : Hp} (s : KeepT H H') : ∀ (ds : List PyData) (vs : List V), flatDs ds = true → DpAll K H vs ds → DpAll K H' vs ds
  | [], _, _, h => by
    cases h
    exact .nil
  | d :: ds, _, hf, h => by
    rw [flatDs, Bool.and_eq_true] at hf
    cases h with
    | cons h1 h2 => exact .cons (dp_keep s d _ hf.1 h1) (dp_keepAll s ds _ hf.2 h2)
end
theorem dpAll_len {K : PySem.W.Frag} {H : Hp} : ∀ {vs : List V} {ds : List PyData}, DpAll K H vs ds → vs.length = ds.length
  | [], _, h => by
    cases h
    rfl
  | v :: vs, _, h => by
    cases h with
    | cons _ h2 => rw [List.length_cons, List.length_cons, dpAll_len h2]
theorem dpAll_append {K : PySem.W.Frag} {H : Hp} : ∀ {vs us : List V} {ds es : List PyData}, DpAll K H vs ds → DpAll K H us es → DpAll K H (vs ++ us) (ds ++ es)
  | [], _, _, _, h, g => by
    cases h
    exact g
  | v :: vs, _, _, _, h, g => by
    cases h with
    | cons h1 h2 => exact .cons h1 (dpAll_append h2 g)
theorem dpAll_at {K : PySem.W.Frag} {H : Hp} : ∀ {vs : List V} {ds : List PyData} {i : Nat} {v : V}, DpAll K H vs ds → vs[i]? = some v → ∃ d, ds[i]? = some d ∧ Dp K H v d
  | _, _, 0, v, .cons h _, e => by
    cases e
    exact ⟨_, rfl, h⟩
  | _, _, i + 1, v, .cons _ h, e => by
    rw [List.getElem?_cons_succ] at e ⊢
    exact dpAll_at h e
  | _, _, _, _, .nil, e => by simp at e
theorem flatDs_append : ∀ {xs ys : List PyData}, flatDs xs = true → flatDs ys = true → flatDs (xs ++ ys) = true
  | [], _, _, h => h
  | x :: xs, ys, h, g => by
    rw [flatDs, Bool.and_eq_true] at h
    rw [List.cons_append, flatDs, h.1, flatDs_append h.2 g]
    rfl
theorem new_tup {K : PySem.W.Frag} {H : Hp} {vs : List V} {ds : List PyData} {p : Addr} (hd : DpAll K H vs ds) (hf : flatDs ds = true) (np : H p = none) : Dp K (upd H p (.tup vs)) (.ref p) (.tuple ds) := .tup (.inl (.inl upd_same)) (dp_keepAll (KeepT.non np) _ _ hf hd)
/-! ### how long a text is -/
def sl (d : PyData) : Nat := d.shown.length
def sls : List PyData → Nat
  | [] => 0
  | d :: ds => sl d + 2 + sls ds
theorem sls_eq : ∀ ds : List PyData, ((PyData.shownAll ds).map (·.length)).sum + 2 * ds.length = sls ds
  | [] => by simp only [PyData.shownAll, List.map_nil, List.sum_nil, List.length_nil, sls]
  | d :: ds => by
    have := sls_eq ds
    simp only [PyData.shownAll, List.map_cons, List.sum_cons, List.length_cons, sls, sl]
    omega
theorem sls_append : ∀ (xs ys : List PyData), sls (xs ++ ys) = sls xs + sls ys
  | [], ys => by simp only [List.nil_append, sls, Nat.zero_add]
  | x :: xs, ys => by
    have := sls_append xs ys
    simp only [List.cons_append, sls]
    omega
theorem sls_le {b : PyData → Nat} : ∀ {ds : List PyData}, (∀ d, d ∈ ds → sl d + 2 ≤ b d) → sls ds ≤ (ds.map b).sum
  | [], _ => Nat.le_refl _
  | d :: ds, h => by
    have h1 := h d List.mem_cons_self
    have h2 := sls_le fun x hx => h x (List.mem_cons_of_mem _ hx)
    simp only [sls, List.map_cons, List.sum_cons]
    omega
theorem sl_tup (ds : List PyData) : sl (.tuple ds) ≤ sls ds + 3 := by
  have h1 := tupleText_len_le (PyData.shownAll ds)
  have h2 := sls_eq ds
  rw [PyData.shownAll_length] at h1
  unfold sl
  simp only [PyData.shown]
  omega
theorem sl_lst (ds : List PyData) : sl (.list ds) ≤ sls ds + 3 := by
  have h1 := listText_len_le (PyData.shownAll ds)
  have h2 := sls_eq ds
  rw [PyData.shownAll_length] at h1
  unfold sl
  simp only [PyData.shown]
  omega
theorem sl_name {z : Str} (h : Nm z) : sl (.str z) ≤ 82 := by
  obtain ⟨_, h2, h3, _⟩ := h
  have e := StrLaws.reprText_len z fun c hc => Nat.lt_of_le_of_lt (h3 c hc).2 (by decide)
  have e2 : z.length = z.cps.toList.length := by
    rw [Array.length_toList]
    rfl
  unfold sl
  rw [PyData.shown_str]
  omega
theorem int_nat {n : Int} (h1 : -(10 ^ 18) ≤ n) (h2 : n ≤ 10 ^ 18) : n.natAbs ≤ 1000000000000000000 := by omega
theorem int_log {n : Int} (h1 : -(10 ^ 18) ≤ n) (h2 : n ≤ 10 ^ 18) : n.natAbs.log2 < 60 := by
  by_cases e : n.natAbs = 0
  · rw [e]; decide
  · exact (Nat.log2_lt e).mpr (Nat.lt_of_le_of_lt (int_nat h1 h2) (by decide))
theorem sl_int {n : Int} (h1 : -(10 ^ 18) ≤ n) (h2 : n ≤ 10 ^ 18) : sl (.int n) ≤ 20 := by
  have e := int_text_length_le10 (k := 19) (by decide) (Nat.lt_of_le_of_lt (int_nat h1 h2) (by decide : 1000000000000000000 < 10 ^ 19))
  unfold sl
  rw [PyData.shown_int, PySem.ofString_length]
  exact e

theorem words_len : ∀ w, w ∈ (["int", "key", "var", "cell", "if", "+", "-", "*", "<", "=", "at", "count", "sum", "most", "first", "in", "let", "need", "tell", "put", "each"] : List Str) → sl (.str w) ≤ 7 := by
  have : ∀ w, w ∈ (["int", "key", "var", "cell", "if", "+", "-", "*", "<", "=", "at", "count", "sum", "most", "first", "in", "let", "need", "tell", "put", "each"] : List Str) → (reprText w).length ≤ 7 := by decide +kernel
  intro w hw
  unfold sl
  rw [PyData.shown_str]
  exact this w hw
/-! ### what is drawn -/
/-- data of tuples, texts and ints, of a bounded depth and length -/
structure Fine (k m : Nat) (x : PyData) : Prop where
  flat : flatD x = true
  shw : x.showable = true
  dep : x.depth ≤ k
  len : sl x + 2 ≤ m
theorem Fine.mono {k m k' m' : Nat} {x : PyData} (h : Fine k m x) (h1 : k ≤ k') (h2 : m ≤ m') : Fine k' m' x := ⟨h.flat, h.shw, Nat.le_trans h.dep h1, Nat.le_trans h.len h2⟩
theorem Fine.str {z : Str} (h : Nm z) : Fine 0 84 (.str z) := ⟨by simp only [flatD], by simp only [PyData.showable], by simp only [PyData.depth]; omega, by have := sl_name h; omega⟩
theorem Fine.word {w : Str} (h : w ∈ (["int", "key", "var", "cell", "if", "+", "-", "*", "<", "=", "at", "count", "sum", "most", "first", "in", "let", "need", "tell", "put", "each"] : List Str)) : Fine 0 9 (.str w) := ⟨by simp only [flatD], by simp only [PyData.showable], by simp only [PyData.depth]; omega, by have := words_len w h; omega⟩
theorem Fine.int {n : Int} (h1 : -(10 ^ 18) ≤ n) (h2 : n ≤ 10 ^ 18) : Fine 0 22 (.int n) := ⟨by simp only [flatD], by
  have := int_log h1 h2
  simp only [PyData.showable]
  exact decide_eq_true (by omega), by simp only [PyData.depth]; omega, by have := sl_int h1 h2; omega⟩
/-- parts of a tuple, with their lengths in all -/
inductive Fines (k : Nat) : Nat → List PyData → Prop
  | nil : Fines k 0 []
  | cons {m n : Nat} {x : PyData} {xs : List PyData} : Fine k m x → Fines k n xs → Fines k (m + n) (x :: xs)
theorem Fines.all {k n : Nat} {xs : List PyData} (h : Fines k n xs) : flatDs xs = true ∧ PyData.showableAll xs = true ∧ PyData.depthAll xs ≤ k ∧ sls xs ≤ n := by
  induction h with
  | nil => exact ⟨by simp only [flatDs], by simp only [PyData.showableAll], by simp only [PyData.depthAll]; omega, Nat.le_refl _⟩
  | cons h1 _ ih =>
    obtain ⟨a, b, c, d⟩ := ih
    refine ⟨by simp only [flatDs, h1.flat, a, Bool.and_self], by simp only [PyData.showableAll, h1.shw, b, Bool.and_self], ?_, ?_⟩
    · have := h1.dep
      simp only [PyData.depthAll]
      omega
    · have := h1.len
      simp only [sls]
      omega
theorem Fines.tup {k n : Nat} {xs : List PyData} (h : Fines k n xs) : Fine (k + 1) (n + 5) (.tuple xs) := by
  obtain ⟨a, b, c, d⟩ := h.all
  refine ⟨by simp only [flatD, a], by simp only [PyData.showable, b], by simp only [PyData.depth]; omega, ?_⟩
  have := sl_tup xs
  omega
theorem Fine.k0 {k m : Nat} {x : PyData} (h : Fine 0 m x) : Fine k m x := h.mono (Nat.zero_le _) (Nat.le_refl _)
end L18

namespace L18
open PySem PySem.Spec PyProof.Rows L2 GR
/-- how many draws, how long -/
def dx : Nat → Int
  | 0 => 10
  | n + 1 => 30 + 6 * dx n
theorem dx_pos : ∀ n, 10 ≤ dx n
  | 0 => by simp only [dx]; omega
  | n + 1 => by
    have := dx_pos n
    simp only [dx]
    omega
def em : Nat → Nat
  | 0 => 100
  | n + 1 => 3 * em n + 240
theorem em_pos : ∀ n, 100 ≤ em n
  | 0 => by simp only [em]; omega
  | n + 1 => by
    have := em_pos n
    simp only [em]
    omega
theorem small1000 {n : Nat} (h : n ≤ 1000) : n < sizeLine := by
  have : sizeLine = 16777216 := by decide
  omega
theorem h1000 {n : Nat} (h : n ≤ 1000) : n ≤ sizeLine := small_le h
theorem noSl_str {z : Str} {pos : Pos} {k} : NoSl (.Constant (.str z) k pos) := fun _ _ => rfl
theorem noSl_name {x : Str} {pos : Pos} : NoSl (.Name x pos) := fun _ _ => rfl
theorem iteA {c : Bool} {A B : Prop} (h : A) (h2 : ¬ c = true → B) : if c = true then A else B := by
  split
  · exact h
  · rename_i e
    exact h2 e
def kv4 (a b c e : Addr) : List (Key × V) := [(.inr "count", .ref a), (.inr "sum", .ref b), (.inr "most", .ref c), (.inr "first", .ref e)]
theorem kv4_1 (a b c e : Addr) : valV (mergeK [] (kv4 a b c e)) (.inr "count") = some (.ref a) := valV_pos rfl
theorem kv4_2 (a b c e : Addr) : valV (mergeK [] (kv4 a b c e)) (.inr "sum") = some (.ref b) := (valV_neg (show ¬ ((.inr "count" : Key) = .inr "sum") by decide)).trans (valV_pos rfl)
theorem kv4_3 (a b c e : Addr) : valV (mergeK [] (kv4 a b c e)) (.inr "most") = some (.ref c) := (valV_neg (show ¬ ((.inr "count" : Key) = .inr "most") by decide)).trans ((valV_neg (show ¬ ((.inr "sum" : Key) = .inr "most") by decide)).trans (valV_pos rfl))
theorem kv4_4 (a b c e : Addr) : valV (mergeK [] (kv4 a b c e)) (.inr "first") = some (.ref e) := (valV_neg (show ¬ ((.inr "count" : Key) = .inr "first") by decide)).trans ((valV_neg (show ¬ ((.inr "sum" : Key) = .inr "first") by decide)).trans ((valV_neg (show ¬ ((.inr "most" : Key) = .inr "first") by decide)).trans (valV_pos rfl)))
theorem Fines.append {k m n : Nat} {xs ys : List PyData} (h : Fines k m xs) (g : Fines k n ys) : Fines k (m + n) (xs ++ ys) := by
  induction h with
  | nil => rw [Nat.zero_add]; exact g
  | @cons a b x xs h1 _ ih =>
    rw [Nat.add_assoc]
    exact .cons h1 ih
/-- one that may be picked -/
def GV (K : PySem.W.Frag) (H : Hp) (v : V) : Prop := ∃ x, Dp K H v x ∧ Fine 3 100 x
theorem GV.keep {K : PySem.W.Frag} {H H' : Hp} {v : V} (h : GV K H v) (k : KeepT H H') : GV K H' v := by
  obtain ⟨x, h1, h2⟩ := h
  exact ⟨x, dp_keep k _ _ h2.flat h1, h2⟩
section
variable {P : Program} {w : World} {K : PySem.W.Frag} {mg : Str → Option Value} {base : Heap}
abbrev s_law_expression : Stmt := topS 17
abbrev N_ex : List Str := ["_law_deck_here", "_law_world_here", "_law_deep", "_law_scope", "_law_loose", "_law_way", "_law_some", "_law_table", "_law_one", "_law_near", "_law_other", "_law_inner", "_law_guard", "_law_word", "_law_name"]
abbrev ps_ex : List Str := ["_law_deck_here", "_law_world_here", "_law_deep", "_law_scope", "_law_loose"]
theorem sc_law_expression : FnScope N_ex ps_ex (defScope s_law_expression) := ⟨rfl, rfl, rfl, by decide +kernel, rfl, by decide +kernel, by decide +kernel⟩
/-- the list of variables that may be used -/
structure Scp (H : Hp) (d c sc : Addr) (scope : List Str) : Prop where
  at' : H sc = some (.lst (scope.map V.str))
  n0 : sc ≠ d ∧ sc ≠ c
  nm : ∀ z, z ∈ scope → Nm z
  len : scope.length ≤ 10
theorem Scp.keep {H H' : Hp} {d c sc : Addr} {scope : List Str} (S : Scp H d c sc scope) (k : Keep d c H H') : Scp H' d c sc scope := ⟨k _ _ S.n0.1 S.n0.2 S.at', S.n0, S.nm, S.len⟩
def sp_expr (K : PySem.W.Frag) (n : Nat) : Sp := fun vs H Q _ => ∃ (d c u tl cl nl sc : Addr) (N deep loose : Int) (ts cs ns scope : List Str), vs = [.ref d, .ref u, .int deep, .ref sc, .int loose] ∧ Deck H d c N ∧ N + dx n < 2 ^ 54 ∧ Wd H d c u tl cl nl ts cs ns ∧ Scp H d c sc scope ∧
  deep ≤ (n : Int) ∧ 0 ≤ loose ∧ loose ≤ 2 ∧ ∀ H' v x, Keep d c H H' → Deck H' d c (N + dx n) → Fine (n + 3) (em n) x → Dp K H' v x → Q v H'
/-- tuples of a word and one more -/
theorem tup2 {k m : Nat} {w : Str} {x : PyData} (hw : w ∈ (["int", "key", "var", "cell", "if", "+", "-", "*", "<", "=", "at", "count", "sum", "most", "first", "in", "let", "need", "tell", "put", "each"] : List Str)) (hx : Fine k m x) : Fine (k + 1) (m + 14) (.tuple [.str w, x]) :=
  ((Fines.cons (Fine.word hw).k0 (.cons hx .nil)).tup).mono (Nat.le_refl _) (by omega)
theorem fine_key : Fine 1 14 (.tuple [.str "key"]) := ((Fines.cons (Fine.word (w := "key") (by decide)).k0 .nil).tup).mono (Nat.le_refl _) (by decide)
theorem ok_expr_step {n : Nat} {f f_law_draw f_law_pick : Addr} {fd fd_law_draw fd_law_pick : FuncData} {k : Nat} (F : Fun K "_law_expression" "_law_expression" s_law_expression f fd) (G_law_draw : FnOk P w K mg base CX0 k f_law_draw fd_law_draw ["_law_deck_here", "_law_most"] sp_draw)
    (g_law_draw : mg "_law_draw" = some (.ref f_law_draw)) (K_law_draw : PySem.W.keepIn K (.ref f_law_draw) = true) (b_law_draw : Binds K fd_law_draw ["_law_deck_here", "_law_most"] [])
    (G_law_pick : FnOk P w K mg base CX0 k f_law_pick fd_law_pick ["_law_deck_here", "_law_some"] (sp_pick K))
    (g_law_pick : mg "_law_pick" = some (.ref f_law_pick)) (K_law_pick : PySem.W.keepIn K (.ref f_law_pick) = true) (b_law_pick : Binds K fd_law_pick ["_law_deck_here", "_law_some"] [])
    (G : FnOk P w K mg base CX0 k f fd ps_ex (fun vs H Q E => ∃ m, n = m + 1 ∧ sp_expr K m vs H Q E)) (g : mg "_law_expression" = some (.ref f)) (Kf : PySem.W.keepIn K (.ref f) = true) (b : Binds K fd ps_ex [])
    (mint : mg "int" = none) (mmax : mg "max" = none) : FnOk P w K mg base CX0 (k + 1) f fd ps_ex (sp_expr K n) := by
  have nd := sc_law_expression.nd
  refine F.ok sc_law_expression (fun vs H Q E h => ?_) (fun cdv A outer s H vs Q E hr h => ?_)
  · obtain ⟨d, c, u, tl, cl, nl, sc, N, deep, loose, ts, cs, ns, scope, rfl, _⟩ := h
    rfl
  obtain ⟨d, c, u, tl, cl, nl, sc, N, deep, loose, ts, cs, ns, scope, rfl, D, hN, W, S, hdeep, hl0, hl2, q⟩ := h
  have hp := dx_pos n
  have hu1 : (A.deeper (envOfC "_law_expression" (defScope s_law_expression) s.heap.objs.size f cdv)).units + 1 < cLine := by
    have := hr.units
    omega
  refine ⟨_, (pss_cons (ps_set (i := 5) nd rfl (.inl rfl) (pe_call G_law_draw hr (by rfl) g_law_draw K_law_draw b_law_draw .nil pass0 (pa_cons (pv 0) (pa_cons pe_int pa_nil))))
      (pss_cons (ps_if (PW.pt (pw_or (pt_cmpR op_lt (pv 2) pe_int (nomark _)) (pw_or1 (pt_cmpR op_lt (pv 5) pe_int (nomark _)))))
      (pss_cons (ps_set (i := 6) nd rfl (.inl rfl) (pe_lst (pa_cons (pe_tup (pa_cons pe_str (pa_cons (pe_call G_law_draw hr (by rfl) g_law_draw K_law_draw b_law_draw .nil pass0 (pa_cons (pv 0) (pa_cons pe_int pa_nil))) pa_nil))) (pa_cons (pe_tup (pa_cons pe_str (pa_cons (pe_ix ix_list (pe_lst (pa_cons (pe_op op_sub (pe_call G_law_draw hr (by rfl) g_law_draw K_law_draw b_law_draw .nil pass0 (pa_cons (pv 0) (pa_cons pe_int pa_nil))) pe_int) (pa_cons (pe_op op_pow pe_int pe_int) pa_nil))) (pe_callTy call_int1 (by rfl) mint boot_int (pa_cons (pe_cmpR op_eq (pe_call G_law_draw hr (by rfl) g_law_draw K_law_draw b_law_draw .nil pass0 (pa_cons (pv 0) (pa_cons pe_int pa_nil))) pe_int (nomark _)) pa_nil)) (fun _ _ => rfl)) pa_nil))) pa_nil))))
        (pss_one (ps_ret (pe_call G_law_pick hr (by rfl) g_law_pick K_law_pick b_law_pick .nil pass0 (pa_cons (pv 0) (pa_cons (pe_op op_cat (pe_op op_cat (pv 6) (pe_lc (own := [("_law_name", 14)]) rfl nd (pi_list (pv 3)) (blkOk_by (N := N_ex) (sc := defScope s_law_expression) (by decide +kernel)) (fun _ _ _ _ _ => (pg_name (i := 14) nd rfl (Or.inl rfl))) (fun _ _ _ _ _ => pts_nil) (te := tTup (tCons (tC (.str "var")) (tCons (tVar 14) tNil))) (fun _ _ _ _ _ => (pe_tup (pa_cons pe_str (pa_cons (pv 14) pa_nil)))))) (pe_op op_rep (pe_lst (pa_cons (pe_tup (pa_cons pe_str pa_nil)) pa_nil)) (pe_callTy call_int1 (by rfl) mint boot_int (pa_cons (pe_cmpR op_gt (pv 4) pe_int (nomark _)) pa_nil)))) pa_nil))))))
      pss_nil)
      (pss_cons (ps_set (i := 7) nd rfl (.inl rfl) (pe_call G_law_pick hr (by rfl) g_law_pick K_law_pick b_law_pick .nil pass0 (pa_cons (pv 0) (pa_cons (pe_dget hu1 (pv 1) pe_str noSl_str) pa_nil))))
      (pss_cons (ps_set (i := 8) nd rfl (.inl rfl) (pe_call G hr (by rfl) g Kf b .nil pass0 (pa_cons (pv 0) (pa_cons (pv 1) (pa_cons (pe_op op_sub (pv 2) pe_int) (pa_cons (pv 3) (pa_cons (pv 4) pa_nil)))))))
      (Evl.pss_cut (ps_set (i := 9) nd rfl (.inl rfl) (pe_ifExp (pt_cmpR op_eq (pv 4) pe_int (nomark _)) (pe_call G hr (by rfl) g Kf b .nil pass0 (pa_cons (pv 0) (pa_cons (pv 1) (pa_cons pe_int (pa_cons (pv 3) (pa_cons (pv 4) pa_nil)))))) (pv 8)))
      (pss_cons (ps_if (pt_cmpR op_lt (pv 5) pe_int (nomark _))
      (pss_one (ps_ret (pe_tup (pa_cons pe_str (pa_cons (pv 7) (pa_cons (pv 9) (pa_cons (pe_call G_law_pick hr (by rfl) g_law_pick K_law_pick b_law_pick .nil pass0 (pa_cons (pv 0) (pa_cons (pe_dget hu1 (pv 1) pe_str noSl_str) pa_nil))) pa_nil)))))))
      pss_nil)
      (pss_cons (ps_set (i := 10) nd rfl (.inl rfl) (pe_call G hr (by rfl) g Kf b .nil pass0 (pa_cons (pv 0) (pa_cons (pv 1) (pa_cons (pe_op op_sub (pv 2) pe_int) (pa_cons (pv 3) (pa_cons (pv 4) pa_nil)))))))
      (pss_cons (ps_if (pt_cmpR op_lt (pv 5) pe_int (nomark _))
      (pss_one (ps_ret (pe_tup (pa_cons (pe_call G_law_pick hr (by rfl) g_law_pick K_law_pick b_law_pick .nil pass0 (pa_cons (pv 0) (pa_cons (pe_lst (pa_cons pe_str (pa_cons pe_str (pa_cons pe_str (pa_cons pe_str (pa_cons pe_str (pa_cons pe_str pa_nil))))))) pa_nil))) (pa_cons (pv 8) (pa_cons (pv 10) pa_nil))))))
      pss_nil)
      (pss_cons (ps_set (i := 11) nd rfl (.inl rfl) (pe_call G hr (by rfl) g Kf b .nil pass0 (pa_cons (pv 0) (pa_cons (pv 1) (pa_cons (pe_op op_sub (pv 2) pe_int) (pa_cons (pv 3) (pa_cons (pe_callB (call_max2 rfl) (by rfl) mmax boot_max (pa_cons pe_int (pa_cons (pv 4) pa_nil))) pa_nil)))))))
      (pss_cons (ps_if (pt_cmpR op_eq (pv 5) pe_int (nomark _))
      (pss_one (ps_ret (pe_tup (pa_cons pe_str (pa_cons (pv 9) (pa_cons (pv 11) pa_nil))))))
      pss_nil)
      (pss_cons (ps_if (PW.pt (pw_or (pt_cmpR op_eq (pv 5) pe_int (nomark _)) (pw_or1 (pt_cmpR op_eq (pv 4) pe_int (nomark _)))))
      (pss_one (ps_ret (pe_tup (pa_cons pe_str (pa_cons (pv 8) (pa_cons (pv 10) (pa_cons (pe_call G hr (by rfl) g Kf b .nil pass0 (pa_cons (pv 0) (pa_cons (pv 1) (pa_cons (pe_op op_sub (pv 2) pe_int) (pa_cons (pv 3) (pa_cons (pv 4) pa_nil)))))) pa_nil)))))))
      pss_nil)
      (pss_cons (ps_set (i := 12) nd rfl (.inl rfl) (pe_call G hr (by rfl) g Kf b .nil pass0 (pa_cons (pv 0) (pa_cons (pv 1) (pa_cons (pe_op op_sub (pv 2) pe_int) (pa_cons (pv 3) (pa_cons pe_int pa_nil)))))))
      (pss_cons (ps_set (i := 13) nd rfl (.inl rfl) (pe_call G_law_pick hr (by rfl) g_law_pick K_law_pick b_law_pick .nil pass0 (pa_cons (pv 0) (pa_cons (pe_lst (pa_cons pe_str (pa_cons pe_str (pa_cons pe_str (pa_cons pe_str pa_nil))))) pa_nil))))
      (pss_cons (ps_set (i := 6) nd rfl (.inl rfl) (pe_tup (pa_cons (pv 13) (pa_cons (pv 7) (pa_cons (pe_tup pa_nil) (pa_cons (pe_tup (pa_cons pe_str (pa_cons (pv 7) (pa_cons (pe_tup (pa_cons pe_str pa_nil)) (pa_cons pe_str pa_nil))))) (pa_cons (pv 12) pa_nil)))))))
      (pss_one (ps_ret (pe_op op_catT (pv 6) (pe_dget hu1 (pe_disp (pps_cons pe_str (pe_tup pa_nil) (pps_cons pe_str (pe_tup (pa_cons (pv 11) pa_nil)) (pps_cons pe_str (pe_tup (pa_cons (pv 11) (pa_cons (pv 10) pa_nil))) (pps_cons pe_str (pe_tup (pa_cons (pv 10) pa_nil)) pps_nil)))) (by decide) rfl (by simp) (by decide)) (pv 13) noSl_name)))))))))))))))))), ?_⟩
  have LIM : (10 : Int) ^ 18 = 1000000000000000000 := by decide
  refine ⟨.ref d, rfl, d, c, N, 12, rfl, D, by omega, by decide, by decide, fun H1 way k1 D1 w0 w1 => ?_⟩
  refine ⟨.int deep, rfl, _, _, rfl, rfl, _, rfl, iteA ?leaf (fun e => ⟨.int way, rfl, _, _, rfl, rfl, _, rfl, iteA ?leaf (fun e2 => ?rest)⟩)⟩
  case leaf =>
    have S1 := S.keep k1
    refine ⟨.ref d, rfl, d, c, _, 5, rfl, D1, by omega, by decide, by decide, fun H2 r2 k2 D2 a2 b2 => ⟨h1000 (show 2 ≤ 1000 by decide), fun p1 n1 => ?_⟩⟩
    have g1 : GV K (upd H2 p1 (.tup [.str "int", .int r2])) (.ref p1) := ⟨_, new_tup (.cons (.str "int") (.cons (.int r2) .nil)) rfl n1, (tup2 (by decide) (Fine.int (by omega) (by omega))).mono (by decide) (by decide)⟩
    have s1 := same_upd (o := .tup [.str "int", .int r2]) n1
    have D3 := D2.same s1
    have k3 := (k1.trans k2).trans (Keep.of s1)
    revert g1 D3 k3
    clear s1
    generalize upd H2 p1 (.tup [.str "int", .int r2]) = H3
    intro g1 D3 k3
    refine ⟨.ref d, rfl, d, c, _, 9, rfl, D3, by omega, by decide, by decide, fun H4 r4 k4 D4 a4 b4 => ⟨_, _, rfl, rfl, _, _, rfl, rfl, ?_⟩⟩
    refine ⟨⟨by decide, by decide⟩, h1000 (show 2 ≤ 1000 by decide), fun l nl => ?_⟩
    dsimp only
    rw [show (10 : Int) ^ (18 : Int).toNat = 10 ^ 18 from rfl]
    have sl := same_upd (o := .lst [.int (r4 - 3), .int (10 ^ 18)]) nl
    have hl : upd H4 l (.lst [.int (r4 - 3), .int (10 ^ 18)]) l = some (.lst [.int (r4 - 3), .int (10 ^ 18)]) := upd_same
    have hln := D4.new nl
    have D5 := D4.same sl
    have g4 := (g1.keep (k4.t D3)).keep (KeepT.of sl)
    have k5 := (k3.trans k4).trans (Keep.of sl)
    revert hl D5 g4 k5
    clear sl
    generalize upd H4 l (.lst [.int (r4 - 3), .int (10 ^ 18)]) = H5
    intro hl D5 g4 k5
    refine ⟨.ref d, rfl, d, c, _, 8, rfl, D5, by omega, by decide, by decide, fun H6 r6 k6 D6 a6 b6 => ⟨rfl, .inr ⟨_, rfl, ?_⟩⟩⟩
    have hl6 := k6 _ _ hln.1 hln.2 hl
    have g6 := g4.keep (k6.t D5)
    have k06 := k5.trans k6
    obtain ⟨y, hy1, hy2, hy3⟩ : ∃ y : Int, -(10 ^ 18) ≤ y ∧ y ≤ 10 ^ 18 ∧ atI [V.int (r4 - 3), V.int (10 ^ 18)] (if decide (V.int r6 = V.int 5) = true then 1 else 0) = some (.int y) := by
      by_cases e : V.int r6 = V.int 5
      · rw [decide_eq_true e]
        exact ⟨10 ^ 18, by omega, by omega, at1⟩
      · rw [decide_eq_false e]
        exact ⟨r4 - 3, by omega, by omega, at0⟩
    refine ⟨l, _, _, .int y, rfl, rfl, .inl (.inl hl6), hy3, h1000 (show 2 ≤ 1000 by decide), fun p2 n2 => ⟨h1000 (show 2 ≤ 1000 by decide), fun ls nls => ?_⟩⟩
    have g7 : GV K (upd H6 p2 (.tup [.str "int", .int y])) (.ref p2) := ⟨_, new_tup (.cons (.str "int") (.cons (.int y) .nil)) rfl n2, (tup2 (by decide) (Fine.int hy1 hy2)).mono (by decide) (by decide)⟩
    have s7 := same_upd (o := .tup [.str "int", .int y]) n2
    have s8 := same_upd (o := .lst [.ref p1, .ref p2]) nls
    have hls : upd (upd H6 p2 (.tup [.str "int", .int y])) ls (.lst [.ref p1, .ref p2]) ls = some (.lst [.ref p1, .ref p2]) := upd_same
    have s78 := s7.trans s8
    have g8 := g7.keep (KeepT.of s8)
    have g81 := g6.keep (KeepT.of s78)
    have D8 := D6.same s78
    have k8 := k06.trans (Keep.of s78)
    revert hls g8 g81 D8 k8
    clear s78 s8 s7 g7 nls n2
    generalize upd (upd H6 p2 (.tup [.str "int", .int y])) ls (.lst [.ref p1, .ref p2]) = H8
    intro hls g8 g81 D8 k8
    have S8 := S.keep k8
    refine ⟨.ref d, rfl, .ref ls, rfl, .ref sc, rfl, sc, rfl, ⟨_, .inl (.inl S8.at')⟩, fun B nB => ?_⟩
    have hBd := D8.new nB
    have hBs : sc ≠ B := ne_of_none S8.at' nB
    have hBl : ls ≠ B := ne_of_none hls nB
    refine lc_list (xs := scope.map V.str) (fun i H' => ∃ us, H' B = some (.lst us) ∧ us.length = i ∧ (∀ v, v ∈ us → GV K H' v) ∧ ∀ b ob, b ≠ B → H8 b = some ob → H' b = some ob) ?_ ?_ ?_ ?_
    · exact ⟨[], upd_same, rfl, fun v hv => (nomatch hv), fun b ob nb e => by rw [upd_ne nb]; exact e⟩
    · rintro i H' _ ⟨us, _, _, _, kk⟩
      exact .inl (.inl (kk _ _ hBs S8.at'))
    · rintro i x H9 hx ⟨us, hB, hl9, hg, kk⟩
      rw [List.getElem?_map] at hx
      obtain ⟨z, hz, rfl⟩ := Option.map_eq_some_iff.mp hx
      have hi : i < scope.length := (List.getElem?_eq_some_iff.mp hz).1
      have hsl := S.len
      refine ⟨rfl, yes_then ⟨.str z, rfl, h1000 (show 2 ≤ 1000 by decide), fun pz npz => ?_⟩⟩
      have sz := same_upd (o := .tup [.str "var", .str z]) npz
      have gz : GV K (upd H9 pz (.tup [.str "var", .str z])) (.ref pz) := ⟨_, new_tup (.cons (.str "var") (.cons (.str z) .nil)) rfl npz, (tup2 (by decide) (Fine.str (S.nm z (List.mem_of_getElem? hz)))).mono (by decide) (by decide)⟩
      have hB2 := sz _ _ hB
      have kB : KeepT (upd H9 pz (.tup [.str "var", .str z])) (upd (upd H9 pz (.tup [.str "var", .str z])) B (.lst (us ++ [.ref pz]))) := KeepT.lst hB2
      refine ⟨us, hB2, small1000 (by omega), us ++ [.ref pz], upd_same, by rw [List.length_append, hl9]; rfl, fun v hv => ?_, fun b ob nb e => ?_⟩
      · rcases List.mem_append.mp hv with h | h
        · exact ((hg v h).keep (KeepT.of sz)).keep kB
        · rw [List.mem_singleton.mp h]
          exact gz.keep kB
      · rw [upd_ne nb]
        exact sz _ _ (kk b ob nb e)
    · rintro H9 ⟨us, hB, hl9, hg, kk⟩
      rw [List.length_map] at hl9
      have hsl := S.len
      have s89 : Same H8 H9 := fun b ob e => kk b ob (ne_of_none e nB) e
      refine ⟨ls, B, _, _, rfl, rfl, s89 _ _ hls, hB, h1000 (show 2 + us.length ≤ 1000 by omega), fun L1 nL1 => ?_⟩
      have sA := same_upd (o := .lst ([.ref p1, .ref p2] ++ us)) nL1
      have hL1 : upd H9 L1 (.lst ([.ref p1, .ref p2] ++ us)) L1 = some (.lst ([.ref p1, .ref p2] ++ us)) := upd_same
      have hgA : ∀ v, v ∈ [.ref p1, .ref p2] ++ us → GV K (upd H9 L1 (.lst ([.ref p1, .ref p2] ++ us))) v := fun v hv => by
        rcases List.mem_append.mp hv with h | h
        · simp only [List.mem_cons, List.not_mem_nil, or_false] at h
          rcases h with rfl | rfl
          · exact g81.keep (KeepT.of (s89.trans sA))
          · exact g8.keep (KeepT.of (s89.trans sA))
        · exact (hg v h).keep (KeepT.of sA)
      have D9 := D8.same (s89.trans sA)
      have k9 := k8.trans (Keep.of (s89.trans sA))
      have lA : ([V.ref p1, .ref p2] ++ us).length ≤ 12 := by
        rw [List.length_append]
        show 2 + us.length ≤ 12
        omega
      have nA : [V.ref p1, .ref p2] ++ us ≠ [] := List.cons_ne_nil _ _
      revert hL1 hgA D9 k9 lA nA
      clear sA nL1
      generalize [V.ref p1, .ref p2] ++ us = uA
      generalize upd H9 L1 (.lst uA) = H10
      intro hL1 hgA D9 k9 lA nA
      refine ⟨h1000 (show 1 ≤ 1000 by decide), fun pk npk => ⟨h1000 (show 1 ≤ 1000 by decide), fun lk nlk => ⟨.int loose, rfl, _, _, rfl, rfl, .inr ⟨_, rfl, ?_⟩⟩⟩⟩
      have gk : GV K (upd H10 pk (.tup [.str "key"])) (.ref pk) := ⟨_, new_tup (.cons (.str "key") .nil) rfl npk, fine_key.mono (by decide) (by decide)⟩
      have sk := same_upd (o := .tup [.str "key"]) npk
      have skl := same_upd (o := .lst [.ref pk]) nlk
      have hlk : upd (upd H10 pk (.tup [.str "key"])) lk (.lst [.ref pk]) lk = some (.lst [.ref pk]) := upd_same
      have gk2 := gk.keep (KeepT.of skl)
      have s10 := sk.trans skl
      revert hlk gk2 s10
      clear sk skl gk nlk npk
      generalize upd (upd H10 pk (.tup [.str "key"])) lk (.lst [.ref pk]) = H11
      intro hlk gk2 s10
      refine ⟨lk, _, _, rfl, rfl, hlk, ?_, ?_, ?_, fun L2 nL2 => ?_⟩
      · split <;> decide
      · split <;> decide
      · split
        · exact h1000 (show 1 * 1 ≤ 1000 by decide)
        · exact h1000 (show 1 * 0 ≤ 1000 by decide)
      have hB1 : ∀ v, v ∈ (List.replicate (if decide (loose > 0) = true then 1 else 0 : Int).toNat [V.ref pk]).flatten → v = V.ref pk := by
        intro v hv
        split at hv <;> simpa using hv
      have hB2 : (List.replicate (if decide (loose > 0) = true then 1 else 0 : Int).toNat [V.ref pk]).flatten.length ≤ 1 := by
        split
        · exact Nat.le_refl 1
        · exact Nat.zero_le 1
      revert hB1 hB2
      generalize (List.replicate (if decide (loose > 0) = true then 1 else 0 : Int).toNat [V.ref pk]).flatten = uB
      intro hB1 hB2
      have s11 := same_upd (o := .lst uB) nL2
      have hL2 : upd H11 L2 (.lst uB) L2 = some (.lst uB) := upd_same
      have s12 := s10.trans s11
      have g12 := gk2.keep (KeepT.of s11)
      revert hL2 s12 g12
      clear s11 nL2
      generalize upd H11 L2 (.lst uB) = H12
      intro hL2 s12 g12
      refine ⟨L1, L2, _, _, rfl, rfl, s12 _ _ hL1, hL2, h1000 (by omega), fun L3 nL3 => ?_⟩
      have s13 := same_upd (o := .lst (uA ++ uB)) nL3
      have D13 := D9.same (s12.trans s13)
      have k13 := k9.trans (Keep.of (s12.trans s13))
      have h3 := (D9.same s12).new nL3
      refine .inl ⟨d, c, L3, _, uA ++ uB, rfl, D13, by omega, .inl (.inl upd_same), fun e => nA (List.append_eq_nil_iff.mp e).1, by rw [List.length_append]; omega, h3.1, h3.2, fun H14 v k14 D14 hv => ?_⟩
      obtain ⟨x, hx1, hx2⟩ : GV K (upd H12 L3 (.lst (uA ++ uB))) v := by
        rcases List.mem_append.mp hv with h | h
        · exact (hgA v h).keep (KeepT.of (s12.trans s13))
        · rw [hB1 v h]
          exact g12.keep (KeepT.of s13)
      exact q H14 v x (k13.trans k14) (D14.mono (by omega)) (hx2.mono (by omega) (em_pos n)) (dp_keep (k14.t D13) _ _ hx2.flat hx1)
  case rest =>
    have e' : ¬ deep < 1 := by simpa using e
    obtain ⟨m, rfl⟩ : ∃ m, n = m + 1 := ⟨n - 1, by omega⟩
    have hdx : dx (m + 1) = 30 + 6 * dx m := rfl
    have hem : em (m + 1) = 3 * em m + 240 := rfl
    have hpm := dx_pos m
    have hme := em_pos m
    have W1 := W.keep k1
    -- the table
    refine ⟨.ref d, rfl, .ref u, rfl, u, .ref tl, rfl, ?_, .inl ⟨d, c, tl, _, _, rfl, D1, by omega, .inl (.inl W1.ht), ?_, ?_, W1.t0.1, W1.t0.2, fun H2 vt k2 D2 hvt => ?_⟩⟩
    · rw [← wD_t tl cl nl]
      exact DGet.k (k := .inr "tables") W1.dct
    · intro e
      have := congrArg List.length e
      rw [List.length_map, W.lt] at this
      cases this
    · rw [List.length_map, W.lt]
      decide
    obtain ⟨t, ht, rfl⟩ := List.mem_map.mp hvt
    have ft := Fine.str (W.at' t ht)
    have k02 := k1.trans k2
    -- one
    refine ⟨.ref d, rfl, .ref u, rfl, .int deep, rfl, deep, 1, rfl, rfl, .ref sc, rfl, .int loose, rfl, m, rfl, d, c, u, tl, cl, nl, sc, _, deep - 1, loose, ts, cs, ns, scope, rfl, D2, by omega, W.keep k02, S.keep k02, by omega, hl0, hl2, fun H3 v1 x1 k3 D3x f1 p1 => ?_⟩
    have k03 := k02.trans k3
    -- near
    refine ⟨fun σ' H' => ∃ vn xn, σ' = [some (.ref d), some (.ref u), some (.int deep), some (.ref sc), some (.int loose), some (.int way), none, some (.str t), some v1, some vn, none, none, none, none, none] ∧ Keep d c H H' ∧ Deck H' d c (N + 2 + 2 * dx m) ∧ Dp K H' v1 x1 ∧ Dp K H' vn xn ∧ Fine (m + 3) (em m) xn, ?_, ?_⟩
    · refine ⟨.int loose, rfl, rfl, _, rfl, ite2 (fun e3 => ?_) (fun e3 => ?_)⟩
      · refine ⟨.ref d, rfl, .ref u, rfl, .ref sc, rfl, .int loose, rfl, m, rfl, d, c, u, tl, cl, nl, sc, _, 0, loose, ts, cs, ns, scope, rfl, D3x, by omega, W.keep k03, S.keep k03, by omega, hl0, hl2, fun H4 vn xn k4 D4 fn pn => ?_⟩
        exact ⟨vn, xn, rfl, k03.trans k4, D4.mono (by omega), dp_keep (k4.t D3x) _ _ f1.flat p1, pn, fn⟩
      · exact ⟨v1, rfl, v1, x1, rfl, k03, D3x.mono (by omega), p1, p1, f1⟩
    rintro σ' H4 ⟨vn, xn, rfl, k04, D4, p14, pn4, fn⟩
    have W4 := W.keep k04
    have S4 := S.keep k04
    -- a cell
    refine ⟨.int way, rfl, _, _, rfl, rfl, _, rfl, ite2 (fun e4 => ?_) (fun e4 => ?_)⟩
    · refine ⟨.str t, rfl, vn, rfl, .ref d, rfl, .ref u, rfl, u, .ref cl, rfl, ?_, .inl ⟨d, c, cl, _, _, rfl, D4, by omega, .inl (.inl W4.hc), ?_, ?_, W4.c0.1, W4.c0.2, fun H5 vc k5 D5 hvc => ?_⟩⟩
      · rw [← wD_c tl cl nl]
        exact DGet.k (k := .inr "columns") W4.dct
      · intro e
        have := congrArg List.length e
        rw [List.length_map, W.lc] at this
        cases this
      · rw [List.length_map, W.lc]
        decide
      obtain ⟨z, hz, rfl⟩ := List.mem_map.mp hvc
      have fz := Fine.str (W.ac z hz)
      refine ⟨h1000 (show 4 ≤ 1000 by decide), fun p np => ?_⟩
      have s6 := same_upd (o := .tup [.str "cell", .str t, vn, .str z]) np
      have pn5 := dp_keep (k5.t D4) _ _ fn.flat pn4
      have F := (Fines.cons (Fine.word (w := "cell") (by decide)).k0 (.cons ft.k0 (.cons fn (.cons fz.k0 .nil)))).tup
      exact q _ _ _ ((k04.trans k5).trans (Keep.of s6)) ((D5.same s6).mono (by omega)) (F.mono (by omega) (by omega)) (new_tup (.cons (.str _) (.cons (.str _) (.cons pn5 (.cons (.str _) .nil)))) (by simp only [flatDs, flatD, fn.flat, Bool.and_self]) np)
    -- the other
    refine ⟨.ref d, rfl, .ref u, rfl, .int deep, rfl, deep, 1, rfl, rfl, .ref sc, rfl, .int loose, rfl, m, rfl, d, c, u, tl, cl, nl, sc, _, deep - 1, loose, ts, cs, ns, scope, rfl, D4, by omega, W4, S4, by omega, hl0, hl2, fun H5 v2 x2 k5 D5 f2 p2 => ?_⟩
    have k05 := k04.trans k5
    have p15 := dp_keep (k5.t D4) _ _ f1.flat p14
    have pn5 := dp_keep (k5.t D4) _ _ fn.flat pn4
    refine ⟨.int way, rfl, _, _, rfl, rfl, _, rfl, ite2 (fun e5 => ?_) (fun e5 => ?_)⟩
    · refine ⟨.ref d, rfl, h1000 (show 6 ≤ 1000 by decide), fun l nl => ?_⟩
      have sl := same_upd (o := .lst [.str "+", .str "-", .str "*", .str "<", .str "=", .str "+"]) nl
      have hln := D5.new nl
      refine .inl ⟨d, c, l, _, [.str "+", .str "-", .str "*", .str "<", .str "=", .str "+"], rfl, D5.same sl, by omega, .inl (.inl upd_same), List.cons_ne_nil _ _, (show 6 ≤ 1000 by decide), hln.1, hln.2, fun H6 vo k6 D6 hvo => ?_⟩
      obtain ⟨o, ho, rfl⟩ : ∃ o : Str, o ∈ (["int", "key", "var", "cell", "if", "+", "-", "*", "<", "=", "at", "count", "sum", "most", "first", "in", "let", "need", "tell", "put", "each"] : List Str) ∧ vo = .str o := by
        simp only [List.mem_cons, List.not_mem_nil, or_false] at hvo
        rcases hvo with rfl | rfl | rfl | rfl | rfl | rfl
        · exact ⟨_, by decide, rfl⟩
        · exact ⟨_, by decide, rfl⟩
        · exact ⟨_, by decide, rfl⟩
        · exact ⟨_, by decide, rfl⟩
        · exact ⟨_, by decide, rfl⟩
        · exact ⟨_, by decide, rfl⟩
      have kt6 := (KeepT.of sl).trans (k6.t (D5.same sl))
      refine ⟨v1, rfl, v2, rfl, h1000 (show 3 ≤ 1000 by decide), fun p np => ?_⟩
      have s7 := same_upd (o := .tup [.str o, v1, v2]) np
      have F := (Fines.cons (Fine.word ho).k0 (.cons f1 (.cons f2 .nil))).tup
      exact q _ _ _ ((k05.trans (Keep.of sl)).trans (k6.trans (Keep.of s7))) ((D6.same s7).mono (by omega)) (F.mono (by omega) (by omega)) (new_tup (.cons (.str _) (.cons (dp_keep kt6 _ _ f1.flat p15) (.cons (dp_keep kt6 _ _ f2.flat p2) .nil))) (by simp only [flatDs, flatD, f1.flat, f2.flat, Bool.and_self]) np)
    -- the inner one
    have W5 := W.keep k05
    have S5 := S.keep k05
    refine ⟨.ref d, rfl, .ref u, rfl, .int deep, rfl, deep, 1, rfl, rfl, .ref sc, rfl, .int loose, rfl, _, _, rfl, m, rfl, d, c, u, tl, cl, nl, sc, _, deep - 1, _, ts, cs, ns, scope, rfl, D5, by omega, W5, S5, by omega, ?_, ?_, fun H6 v3 x3 k6 D6 f3 p3 => ?_⟩
    · split <;> omega
    · split <;> omega
    have k06 := k05.trans k6
    have p16 := dp_keep (k6.t D5) _ _ f1.flat p15
    have pn6 := dp_keep (k6.t D5) _ _ fn.flat pn5
    have p26 := dp_keep (k6.t D5) _ _ f2.flat p2
    refine ⟨.int way, rfl, rfl, _, rfl, ite2 (fun e6 => ?_) (fun e6 => ?_)⟩
    · refine ⟨vn, rfl, v3, rfl, h1000 (show 3 ≤ 1000 by decide), fun p np => ?_⟩
      have s7 := same_upd (o := .tup [.str "at", vn, v3]) np
      have F := (Fines.cons (Fine.word (w := "at") (by decide)).k0 (.cons fn (.cons f3 .nil))).tup
      exact q _ _ _ (k06.trans (Keep.of s7)) ((D6.same s7).mono (by omega)) (F.mono (by omega) (by omega)) (new_tup (.cons (.str _) (.cons pn6 (.cons p3 .nil))) (by simp only [flatDs, flatD, fn.flat, f3.flat, Bool.and_self]) np)
    refine ⟨.int way, rfl, rfl, _, rfl, iteA ?aif (fun e7 => ⟨.int loose, rfl, rfl, _, rfl, iteA ?aif (fun e8 => ?agg)⟩)⟩
    case aif =>
      refine ⟨v1, rfl, v2, rfl, .ref d, rfl, .ref u, rfl, .int deep, rfl, deep, 1, rfl, rfl, .ref sc, rfl, .int loose, rfl, m, rfl, d, c, u, tl, cl, nl, sc, _, deep - 1, loose, ts, cs, ns, scope, rfl, D6, by omega, W.keep k06, S.keep k06, by omega, hl0, hl2, fun H7 v4 x4 k7 D7 f4 p4 => ⟨h1000 (show 4 ≤ 1000 by decide), fun p np => ?_⟩⟩
      have s8 := same_upd (o := .tup [.str "if", v1, v2, v4]) np
      have F := (Fines.cons (Fine.word (w := "if") (by decide)).k0 (.cons f1 (.cons f2 (.cons f4 .nil)))).tup
      exact q _ _ _ ((k06.trans k7).trans (Keep.of s8)) ((D7.same s8).mono (by omega)) (F.mono (by omega) (by omega)) (new_tup (.cons (.str _) (.cons (dp_keep (k7.t D6) _ _ f1.flat p16) (.cons (dp_keep (k7.t D6) _ _ f2.flat p26) (.cons p4 .nil)))) (by simp only [flatDs, flatD, f1.flat, f2.flat, f4.flat, Bool.and_self]) np)
    case agg =>
      refine ⟨.ref d, rfl, .ref u, rfl, .int deep, rfl, deep, 2, rfl, rfl, .ref sc, rfl, m, rfl, d, c, u, tl, cl, nl, sc, _, deep - 2, 1, ts, cs, ns, scope, rfl, D6, by omega, W.keep k06, S.keep k06, by omega, by decide, by decide, fun H7 v5 x5 k7 D7 f5 p5 => ?_⟩
      have k07 := k06.trans k7
      have p27 := dp_keep (k7.t D6) _ _ f2.flat p26
      have p37 := dp_keep (k7.t D6) _ _ f3.flat p3
      refine ⟨.ref d, rfl, h1000 (show 4 ≤ 1000 by decide), fun l nl => ?_⟩
      have sl := same_upd (o := .lst [.str "count", .str "sum", .str "most", .str "first"]) nl
      have hln := D7.new nl
      refine .inl ⟨d, c, l, _, [.str "count", .str "sum", .str "most", .str "first"], rfl, D7.same sl, by omega, .inl (.inl upd_same), List.cons_ne_nil _ _, (show 4 ≤ 1000 by decide), hln.1, hln.2, fun H8 vo k8 D8 hvo => ?_⟩
      have kt8 := (KeepT.of sl).trans (k8.t (D7.same sl))
      have k08 := (k07.trans (Keep.of sl)).trans k8
      have p28 := dp_keep kt8 _ _ f2.flat p27
      have p38 := dp_keep kt8 _ _ f3.flat p37
      have p58 := dp_keep kt8 _ _ f5.flat p5
      obtain ⟨o, ho4, rfl⟩ : ∃ o : Str, (o = "count" ∨ o = "sum" ∨ o = "most" ∨ o = "first") ∧ vo = .str o := by
        simp only [List.mem_cons, List.not_mem_nil, or_false] at hvo
        rcases hvo with rfl | rfl | rfl | rfl
        · exact ⟨_, .inl rfl, rfl⟩
        · exact ⟨_, .inr (.inl rfl), rfl⟩
        · exact ⟨_, .inr (.inr (.inl rfl)), rfl⟩
        · exact ⟨_, .inr (.inr (.inr rfl)), rfl⟩
      have ho : o ∈ (["int", "key", "var", "cell", "if", "+", "-", "*", "<", "=", "at", "count", "sum", "most", "first", "in", "let", "need", "tell", "put", "each"] : List Str) := by
        rcases ho4 with rfl | rfl | rfl | rfl <;> decide
      refine ⟨.str o, rfl, .str t, rfl, Nat.zero_le _, fun z0 m0 => ⟨.str t, rfl, h1000 (show 1 ≤ 1000 by decide), fun z1 m1 => ⟨h1000 (show 4 ≤ 1000 by decide), fun z2 m2 => ⟨v5, rfl, h1000 (show 5 ≤ 1000 by decide), fun z3 m3 => ?_⟩⟩⟩⟩
      have t0 := same_upd (o := .tup []) m0
      have t1 := same_upd (o := .tup [.str "key"]) m1
      have t2 := same_upd (o := .tup [.str "cell", .str t, .ref z1, .str "in"]) m2
      have t3 := same_upd (o := .tup [.str o, .str t, .ref z0, .ref z2, v5]) m3
      have b0 : Dp K (upd H8 z0 (.tup [])) (.ref z0) (.tuple []) := .tup (.inl (.inl upd_same)) .nil
      have b1 := new_tup (K := K) (.cons (.str "key") .nil) rfl m1
      have b2 := new_tup (K := K) (.cons (.str "cell") (.cons (.str t) (.cons b1 (.cons (.str "in") .nil)))) rfl m2
      have b0' := dp_keep (KeepT.of ((t1.trans t2).trans t3)) _ _ rfl b0
      have b2' := dp_keep (KeepT.of t3) _ _ rfl b2
      have t03 := ((t0.trans t1).trans t2).trans t3
      have hz3 : upd (upd (upd (upd H8 z0 (.tup [])) z1 (.tup [.str "key"])) z2 (.tup [.str "cell", .str t, .ref z1, .str "in"])) z3 (.tup [.str o, .str t, .ref z0, .ref z2, v5]) z3 = some (.tup [.str o, .str t, .ref z0, .ref z2, v5]) := upd_same
      clear t0 t1 t2 t3 b0 b1 b2 m0 m1 m2 m3
      revert b0' b2' t03 hz3
      generalize upd (upd (upd (upd H8 z0 (.tup [])) z1 (.tup [.str "key"])) z2 (.tup [.str "cell", .str t, .ref z1, .str "in"])) z3 (.tup [.str o, .str t, .ref z0, .ref z2, v5]) = H9
      intro b0' b2' t03 hz3
      have p29 := dp_keep (KeepT.of t03) _ _ f2.flat p28
      have p39 := dp_keep (KeepT.of t03) _ _ f3.flat p38
      have p59 := dp_keep (KeepT.of t03) _ _ f5.flat p58
      have k09 := k08.trans (Keep.of t03)
      have D9 := D8.same t03
      refine ⟨.ref z3, rfl, fun pd npd => ⟨Nat.zero_le _, fun y0 j0 => ⟨v3, rfl, h1000 (show 1 ≤ 1000 by decide), fun y1 j1 => ⟨v3, rfl, v2, rfl, h1000 (show 2 ≤ 1000 by decide), fun y2 j2 => ⟨v2, rfl, h1000 (show 1 ≤ 1000 by decide), fun y3 j3 => ?_⟩⟩⟩⟩⟩
      have r0 := same_upd (o := .dK []) npd
      have r1 := same_upd (o := .tup []) j0
      have r2 := same_upd (o := .tup [v3]) j1
      have r3 := same_upd (o := .tup [v3, v2]) j2
      have r4 := same_upd (o := .tup [v2]) j3
      have r14 := ((r1.trans r2).trans r3).trans r4
      have hpd := r14 _ _ (show upd H9 pd (.dK []) pd = _ from upd_same)
      have a0 := ((r2.trans r3).trans r4) _ _ (show upd (upd H9 pd (.dK [])) y0 (.tup []) y0 = _ from upd_same)
      have a1 := (r3.trans r4) _ _ (show upd (upd (upd H9 pd (.dK [])) y0 (.tup [])) y1 (.tup [v3]) y1 = _ from upd_same)
      have a2 := r4 _ _ (show upd (upd (upd (upd H9 pd (.dK [])) y0 (.tup [])) y1 (.tup [v3])) y2 (.tup [v3, v2]) y2 = _ from upd_same)
      have a3 : upd (upd (upd (upd (upd H9 pd (.dK [])) y0 (.tup [])) y1 (.tup [v3])) y2 (.tup [v3, v2])) y3 (.tup [v2]) y3 = _ := upd_same
      have r04 := r0.trans r14
      clear r0 r1 r2 r3 r4 r14 j0 j1 j2 j3
      revert hpd a0 a1 a2 a3 r04
      generalize upd (upd (upd (upd (upd H9 pd (.dK [])) y0 (.tup [])) y1 (.tup [v3])) y2 (.tup [v3, v2])) y3 (.tup [v2]) = H10
      intro hpd a0 a1 a2 a3 r04
      have r05 : Same H9 (upd H10 pd (.dK (mergeK [] (kv4 y0 y1 y2 y3)))) := fun b ob e => by
        rw [upd_ne (ne_of_none e npd)]
        exact r04 _ _ e
      have tu : ∀ (b : Addr) (xs : List V), H10 b = some (.tup xs) → upd H10 pd (.dK (mergeK [] (kv4 y0 y1 y2 y3))) b = some (.tup xs) := fun b xs e => by
        rw [upd_ne (ne_of e hpd (fun z => by cases z))]
        exact e
      have hpd2 : upd H10 pd (.dK (mergeK [] (kv4 y0 y1 y2 y3))) pd = some (.dK (mergeK [] (kv4 y0 y1 y2 y3))) := upd_same
      have a0' := tu _ _ a0
      have a1' := tu _ _ a1
      have a2' := tu _ _ a2
      have a3' := tu _ _ a3
      refine ⟨hpd, kv4 y0 y1 y2 y3, rfl, (show 4 ≤ 15 by decide), .str o, rfl, ?_⟩
      clear tu a0 a1 a2 a3 r04
      revert r05 hpd2 a0' a1' a2' a3'
      generalize upd H10 pd (.dK (mergeK [] (kv4 y0 y1 y2 y3))) = H11
      intro r05 hpd2 a0' a1' a2' a3'
      have z11 := r05 _ _ hz3
      have q0 := dp_keep (KeepT.of r05) _ _ rfl b0'
      have q2 := dp_keep (KeepT.of r05) _ _ rfl b2'
      have q5 := dp_keep (KeepT.of r05) _ _ f5.flat p59
      have q3 := dp_keep (KeepT.of r05) _ _ f3.flat p39
      have q2' := dp_keep (KeepT.of r05) _ _ f2.flat p29
      have k11 := k09.trans (Keep.of r05)
      have D11 := D9.same r05
      obtain ⟨yo, vs, ds, L, hval, hyo, hds, hfs, hL, hvl⟩ : ∃ (yo : Addr) (vs : List V) (ds : List PyData) (L : Nat), valV (mergeK [] (kv4 y0 y1 y2 y3)) (.inr o) = some (.ref yo) ∧ H11 yo = some (.tup vs) ∧ DpAll K H11 vs ds ∧ Fines (m + 3) L ds ∧ L ≤ 2 * em m ∧ vs.length ≤ 2 := by
        rcases ho4 with rfl | rfl | rfl | rfl
        · exact ⟨y0, [], [], 0, kv4_1 _ _ _ _, a0', .nil, .nil, Nat.zero_le _, Nat.zero_le _⟩
        · exact ⟨y1, _, [x3], _, kv4_2 _ _ _ _, a1', .cons q3 .nil, .cons f3 .nil, by omega, (show 1 ≤ 2 by decide)⟩
        · exact ⟨y2, _, [x3, x2], _, kv4_3 _ _ _ _, a2', .cons q3 (.cons q2' .nil), .cons f3 (.cons f2 .nil), by omega, Nat.le_refl _⟩
        · exact ⟨y3, _, [x2], _, kv4_4 _ _ _ _, a3', .cons q2' .nil, .cons f2 .nil, by omega, (show 1 ≤ 2 by decide)⟩
      refine ⟨pd, .ref yo, rfl, by rw [← hval]; exact DGet.k (k := .inr o) hpd2, ?_⟩
      have fX : Fine 2 121 (.tuple [.str "cell", .str t, .tuple [.str "key"], .str "in"]) := ((Fines.cons (Fine.word (w := "cell") (by decide)).k0 (.cons ft.k0 (.cons fine_key (.cons (Fine.word (w := "in") (by decide)).k0 .nil)))).tup).mono (Nat.le_refl _) (by decide)
      have fE : Fine 1 5 (.tuple []) := (Fines.nil (k := 0)).tup
      have FS : Fines (m + 3) (9 + (84 + (5 + (121 + (em m + 0))))) [.str o, .str t, .tuple [], .tuple [.str "cell", .str t, .tuple [.str "key"], .str "in"], x5] := .cons (Fine.word ho).k0 (.cons ft.k0 (.cons (fE.mono (by omega) (Nat.le_refl _)) (.cons (fX.mono (by omega) (Nat.le_refl _)) (.cons f5 .nil))))
      have FA := (FS.append hfs).tup
      have dS : DpAll K H11 [.str o, .str t, .ref z0, .ref z2, v5] [.str o, .str t, .tuple [], .tuple [.str "cell", .str t, .tuple [.str "key"], .str "in"], x5] := .cons (.str _) (.cons (.str _) (.cons q0 (.cons q2 (.cons q5 .nil))))
      refine ⟨z3, yo, _, _, rfl, rfl, .inl (.inl z11), .inl (.inl hyo), List.cons_ne_nil _ _, h1000 (show 5 + vs.length ≤ 1000 by omega), fun e => ?_, fun _ p np => ?_⟩
      · obtain rfl : ds = [] := by
          rw [e] at hds
          cases hds
          rfl
        rw [List.append_nil] at FA
        exact q _ _ _ k11 (D11.mono (by omega)) (FA.mono (by omega) (by omega)) (.tup (.inl (.inl z11)) dS)
      · have s12 := same_upd (o := .tup ([.str o, .str t, .ref z0, .ref z2, v5] ++ vs)) np
        have hfA := FA.flat
        rw [flatD] at hfA
        exact q _ _ _ (k11.trans (Keep.of s12)) ((D11.same s12).mono (by omega)) (FA.mono (by omega) (by omega)) (new_tup (dpAll_append dS hds) hfA np)
end
end L18

namespace L18
open PySem PySem.Spec PyProof.Rows L2 GR
section
variable {P : Program} {w : World} {K : PySem.W.Frag} {mg : Str → Option Value} {base : Heap}
theorem ok_none {k : Nat} {f : Addr} {fd : FuncData} {ps : List Str} {sp : Sp} (h : ∀ vs H Q E, ¬ sp vs H Q E) : FnOk P w K mg base CX0 k f fd ps sp :=
  ⟨fun vs H Q E q => absurd q (h vs H Q E), fun A outer s H args us vs Q E hr he hb hv hs => absurd hs (h vs H Q E)⟩
theorem ok_exprs {f f_law_draw f_law_pick : Addr} {fd fd_law_draw fd_law_pick : FuncData} {k : Nat} (F : Fun K "_law_expression" "_law_expression" s_law_expression f fd) (G_law_draw : FnOk P w K mg base CX0 k f_law_draw fd_law_draw ["_law_deck_here", "_law_most"] sp_draw)
    (g_law_draw : mg "_law_draw" = some (.ref f_law_draw)) (K_law_draw : PySem.W.keepIn K (.ref f_law_draw) = true) (b_law_draw : Binds K fd_law_draw ["_law_deck_here", "_law_most"] [])
    (G_law_pick : FnOk P w K mg base CX0 k f_law_pick fd_law_pick ["_law_deck_here", "_law_some"] (sp_pick K))
    (g_law_pick : mg "_law_pick" = some (.ref f_law_pick)) (K_law_pick : PySem.W.keepIn K (.ref f_law_pick) = true) (b_law_pick : Binds K fd_law_pick ["_law_deck_here", "_law_some"] [])
    (g : mg "_law_expression" = some (.ref f)) (Kf : PySem.W.keepIn K (.ref f) = true) (b : Binds K fd ps_ex [])
    (mint : mg "int" = none) (mmax : mg "max" = none) : ∀ n : Nat, FnOk P w K mg base CX0 (k + n + 1) f fd ps_ex (sp_expr K n)
  | 0 => ok_expr_step (k := k) F G_law_draw g_law_draw K_law_draw b_law_draw G_law_pick g_law_pick K_law_pick b_law_pick (ok_none fun vs H Q E ⟨m, h, _⟩ => by omega) g Kf b mint mmax
  | n + 1 => by
    have ih := ok_exprs F G_law_draw g_law_draw K_law_draw b_law_draw G_law_pick g_law_pick K_law_pick b_law_pick g Kf b mint mmax n
    refine ok_expr_step (k := k + n + 1) F (G_law_draw.mono (by omega)) g_law_draw K_law_draw b_law_draw (G_law_pick.mono (by omega)) g_law_pick K_law_pick b_law_pick (ih.imp ?_) g Kf b mint mmax
    rintro vs H Q E ⟨m, hm, h⟩
    obtain rfl : n = m := by omega
    exact h
/-! ### statements -/
/-- the form of a statement: its word, the next thing, the others -/
def SF (w : Str) (v1 : V) (vs : List V) : Prop := (w = "let" ∧ ∃ z e, v1 = .str z ∧ Nm z ∧ vs = [e]) ∨ ((w = "need" ∨ w = "tell") ∧ vs = []) ∨ ((w = "put" ∨ w = "each") ∧ ∃ t e z f, v1 = .str t ∧ vs = [e, .str z, f] ∧ Nm t ∧ Nm z)
theorem SF.let' {w : Str} {v1 : V} {vs : List V} (h : SF w v1 vs) (e : w = "let") : ∃ z, v1 = .str z ∧ Nm z := by
  subst e
  rcases h with ⟨_, z, _, h1, h2, _⟩ | ⟨h, _⟩ | ⟨h, _⟩
  · exact ⟨z, h1, h2⟩
  · rcases h with h | h <;> exact absurd h (by decide)
  · rcases h with h | h <;> exact absurd h (by decide)
/-- a statement: a tuple of one of these forms -/
def SV (K : PySem.W.Frag) (H : Hp) (v : V) (x : PyData) : Prop := ∃ (p : Addr) (w : Str) (v1 : V) (vs : List V), v = .ref p ∧ H p = some (.tup (.str w :: v1 :: vs)) ∧ SF w v1 vs ∧ Dp K H v x ∧ Fine 8 12000 x
theorem SV.keep {K : PySem.W.Frag} {H H' : Hp} {v : V} {x : PyData} (h : SV K H v x) (k : KeepT H H') : SV K H' v x := by
  obtain ⟨p, w, v1, vs, rfl, h1, h2, h3, h4⟩ := h
  exact ⟨p, w, v1, vs, rfl, k.1 _ _ h1, h2, dp_keep k _ _ h4.flat h3, h4⟩
abbrev s_law_statement : Stmt := topS 18
abbrev N_st : List Str := ["_law_deck_here", "_law_world_here", "_law_scope", "_law_deep", "_law_way", "_law_table", "_law_column", "_law_left", "_law_one", "_law_inner", "_law_name"]
abbrev ps_st : List Str := ["_law_deck_here", "_law_world_here", "_law_scope", "_law_deep"]
theorem sc_law_statement : FnScope N_st ps_st (defScope s_law_statement) := ⟨rfl, rfl, rfl, by decide +kernel, rfl, by decide +kernel, by decide +kernel⟩
def sp_stmt (K : PySem.W.Frag) : Sp := fun vs H Q _ => ∃ (d c u tl cl nl sc : Addr) (N deep : Int) (ts cs ns scope : List Str), vs = [.ref d, .ref u, .ref sc, .int deep] ∧ deep ≤ 3 ∧ Deck H d c N ∧ N < 2 ^ 53 ∧ Wd H d c u tl cl nl ts cs ns ∧ Scp H d c sc scope ∧
  ∀ H' v x, Keep d c H H' → Deck H' d c (N + 20000) → SV K H' v x → Q v H'
theorem nm_ok {z : Str} (h : Nm z) : PyData.strOk z = true := so_iff.mpr fun c hc => Nat.lt_of_le_of_lt (h.2.2.1 c hc).2 (by decide)
theorem dp_strs {K : PySem.W.Frag} {H : Hp} : ∀ zs : List Str, DpAll K H (zs.map V.str) (zs.map PyData.str)
  | [] => .nil
  | z :: zs => .cons (.str z) (dp_strs zs)
theorem shaped_strs {zs : List Str} (h : ∀ z, z ∈ zs → Nm z) : SeqAt.shaped (.list (zs.map PyData.str)) = true := by
  have h1 : PyData.canLayAll0 (zs.map PyData.str) = true := by
    induction zs with
    | nil => simp only [List.map_nil, PyData.canLayAll0]
    | cons z zs ih => simp only [List.map_cons, PyData.canLayAll0, PyData.canLay0, nm_ok (h z List.mem_cons_self), ih fun y hy => h y (List.mem_cons_of_mem _ hy), Bool.and_self]
  have h2 : PyData.depthAll (zs.map PyData.str) ≤ 1 := by
    clear h h1
    induction zs with
    | nil => simp only [List.map_nil, PyData.depthAll]; omega
    | cons z zs ih =>
      simp only [List.map_cons, PyData.depthAll, PyData.depth]
      omega
  unfold SeqAt.shaped
  rw [Bool.and_eq_true]
  refine ⟨by simp only [PyData.canLay0, h1], decide_eq_true ?_⟩
  simp only [PyData.depth]
  omega
theorem neq_nilS : ∀ zs : List Str, (!PyData.eqv (.list (zs.map PyData.str)) (.list [])) = !zs.isEmpty
  | [] => by simp only [List.map_nil, PyData.eqv, PyData.eqvAll, List.isEmpty_nil]
  | n :: ns => by simp only [List.map_cons, PyData.eqv, PyData.eqvAll, List.isEmpty_cons]
theorem flat_map_str (zs : List Str) : (zs.map V.str).all flatV = true := by
  rw [List.all_eq_true]
  intro v hv
  obtain ⟨z, _, rfl⟩ := List.mem_map.mp hv
  rfl
theorem ok_stmt {f f_law_draw f_law_pick f_ex : Addr} {fd fd_law_draw fd_law_pick d_ex : FuncData} {k : Nat} (F : Fun K "_law_statement" "_law_statement" s_law_statement f fd) (G_law_draw : FnOk P w K mg base CX0 k f_law_draw fd_law_draw ["_law_deck_here", "_law_most"] sp_draw)
    (g_law_draw : mg "_law_draw" = some (.ref f_law_draw)) (K_law_draw : PySem.W.keepIn K (.ref f_law_draw) = true) (b_law_draw : Binds K fd_law_draw ["_law_deck_here", "_law_most"] [])
    (G_law_pick : FnOk P w K mg base CX0 k f_law_pick fd_law_pick ["_law_deck_here", "_law_some"] (sp_pick K))
    (g_law_pick : mg "_law_pick" = some (.ref f_law_pick)) (K_law_pick : PySem.W.keepIn K (.ref f_law_pick) = true) (b_law_pick : Binds K fd_law_pick ["_law_deck_here", "_law_some"] [])
    (G : FnOk P w K mg base CX0 k f_ex d_ex ps_ex (sp_expr K 3)) (g : mg "_law_expression" = some (.ref f_ex)) (Kf : PySem.W.keepIn K (.ref f_ex) = true) (b : Binds K d_ex ps_ex []) : FnOk P w K mg base CX0 (k + 1) f fd ps_st (sp_stmt K) := by
  have nd := sc_law_statement.nd
  refine F.ok sc_law_statement (fun vs H Q E h => ?_) (fun cdv A outer s H vs Q E hr h => ?_)
  · obtain ⟨d, c, u, tl, cl, nl, sc, N, deep, ts, cs, ns, scope, rfl, _⟩ := h
    rfl
  obtain ⟨d, c, u, tl, cl, nl, sc, N, deep, ts, cs, ns, scope, rfl, hdeep, D, hN, W, S, q⟩ := h
  have hu1 : (A.deeper (envOfC "_law_statement" (defScope s_law_statement) s.heap.objs.size f cdv)).units + 1 < cLine := by
    have := hr.units
    omega
  refine ⟨_, (pss_cons (ps_set (i := 4) nd rfl (.inl rfl) (pe_call G_law_draw hr (by rfl) g_law_draw K_law_draw b_law_draw .nil pass0 (pa_cons (pv 0) (pa_cons pe_int pa_nil))))
      (pss_cons (ps_par (i := 5) (j := 6) rfl nd rfl rfl (by decide) rfl rfl (pa_cons (pe_call G_law_pick hr (by rfl) g_law_pick K_law_pick b_law_pick .nil pass0 (pa_cons (pv 0) (pa_cons (pe_dget hu1 (pv 1) pe_str noSl_str) pa_nil))) (pa_cons (pe_call G_law_pick hr (by rfl) g_law_pick K_law_pick b_law_pick .nil pass0 (pa_cons (pv 0) (pa_cons (pe_dget hu1 (pv 1) pe_str noSl_str) pa_nil))) pa_nil)) (by rfl))
      (pss_cons (ps_setLc (i := 7) (own := [("_law_name", 10)]) (tt := tTest (tOp (rIn K true) (tVar 10) (tVar 2))) (te := tVar 10) rfl nd rfl rfl (sw_true rfl rfl rfl (by decide +kernel)) (pi_list (pe_dget hu1 (pv 1) pe_str noSl_str)) (blkOk_by (N := N_st) (sc := defScope s_law_statement) (by decide +kernel)) (fun _ _ _ _ _ => (pg_name (i := 10) nd rfl (Or.inl rfl))) (fun _ _ _ _ _ => (pts_one (pt_cmpR op_notIn_seq (pv 10) (pv 2) (by rfl)))) (fun _ _ _ _ _ => (pv 10)))
      (pss_cons (ps_set (i := 8) nd rfl (.inl rfl) (pe_call G hr (by rfl) g Kf b .nil pass0 (pa_cons (pv 0) (pa_cons (pv 1) (pa_cons (pv 3) (pa_cons (pv 2) (pa_cons pe_int pa_nil)))))))
      (Evl.pss_cut (ps_if (PW.pt (pw_and (pt_cmpR op_lt (pv 4) pe_int (nomark _)) (pw_and1 (pt_cmpR (op_neD hr.units) (pv 7) (pe_lst pa_nil) (nomark _)))))
      (pss_one (ps_ret (pe_tup (pa_cons pe_str (pa_cons (pe_ix ix_list (pv 7) pe_int (fun _ _ => rfl)) (pa_cons (pv 8) pa_nil))))))
      pss_nil)
      (pss_cons (ps_if (pt_cmpR op_lt (pv 4) pe_int (nomark _))
      (pss_one (ps_ret (pe_ix ix_list (pe_lst (pa_cons (pe_tup (pa_cons pe_str (pa_cons (pe_tup (pa_cons pe_str (pa_cons (pe_tup (pa_cons pe_str (pa_cons (pe_op op_sub pe_int pe_int) pa_nil))) (pa_cons (pv 8) pa_nil)))) pa_nil))) (pa_cons (pe_tup (pa_cons pe_str (pa_cons (pv 8) pa_nil))) pa_nil))) (pe_op op_mod (pv 4) pe_int) (fun _ _ => rfl))))
      pss_nil)
      (pss_cons (ps_if (pt_cmpR op_lt (pv 4) pe_int (nomark _))
      (pss_cons (ps_set (i := 9) nd rfl (.inl rfl) (pe_call G hr (by rfl) g Kf b .nil pass0 (pa_cons (pv 0) (pa_cons (pv 1) (pa_cons (pv 3) (pa_cons (pv 2) (pa_cons pe_int pa_nil)))))))
        (pss_one (ps_ret (pe_tup (pa_cons pe_str (pa_cons (pv 5) (pa_cons (pv 9) (pa_cons (pv 6) (pa_cons (pe_call G hr (by rfl) g Kf b .nil pass0 (pa_cons (pv 0) (pa_cons (pv 1) (pa_cons (pv 3) (pa_cons (pv 2) (pa_cons pe_int pa_nil)))))) pa_nil)))))))))
      pss_nil)
      (pss_cons (ps_if (pt_cmpR op_lt (pv 4) pe_int (nomark _))
      (pss_one (ps_ret (pe_tup (pa_cons pe_str (pa_cons (pv 5) (pa_cons (pe_call G hr (by rfl) g Kf b .nil pass0 (pa_cons (pv 0) (pa_cons (pv 1) (pa_cons pe_int (pa_cons (pv 2) (pa_cons pe_int pa_nil)))))) (pa_cons pe_str (pa_cons (pe_tup (pa_cons pe_str (pa_cons (pe_call G_law_draw hr (by rfl) g_law_draw K_law_draw b_law_draw .nil pass0 (pa_cons (pv 0) (pa_cons pe_int pa_nil))) pa_nil))) pa_nil))))))))
      pss_nil)
      (pss_one (ps_ret (pe_tup (pa_cons pe_str (pa_cons (pv 5) (pa_cons (pe_call G hr (by rfl) g Kf b .nil pass0 (pa_cons (pv 0) (pa_cons (pv 1) (pa_cons (pe_op op_sub (pv 3) pe_int) (pa_cons (pv 2) (pa_cons pe_int pa_nil)))))) (pa_cons (pv 6) (pa_cons (pv 8) pa_nil)))))))))))))))), ?_⟩
  have hdx : dx 3 = 3450 + 0 := by decide
  have hem : em 3 = 5820 := by decide
  refine ⟨.ref d, rfl, d, c, N, 12, rfl, D, by omega, by decide, by decide, fun H1 way k1 D1 w0 w1 => ?_⟩
  have W1 := W.keep k1
  refine ⟨.ref d, rfl, .ref u, rfl, u, .ref tl, rfl, ?_, .inl ⟨d, c, tl, _, _, rfl, D1, by omega, .inl (.inl W1.ht), ?_, ?_, W1.t0.1, W1.t0.2, fun H2 vt k2 D2 hvt => ?_⟩⟩
  · rw [← wD_t tl cl nl]
    exact DGet.k (k := .inr "tables") W1.dct
  · intro e
    have := congrArg List.length e
    rw [List.length_map, W.lt] at this
    cases this
  · rw [List.length_map, W.lt]
    decide
  obtain ⟨t, ht, rfl⟩ := List.mem_map.mp hvt
  have ft := Fine.str (W.at' t ht)
  have k02 := k1.trans k2
  have W2 := W.keep k02
  refine ⟨.ref d, rfl, .ref u, rfl, u, .ref cl, rfl, ?_, .inl ⟨d, c, cl, _, _, rfl, D2, by omega, .inl (.inl W2.hc), ?_, ?_, W2.c0.1, W2.c0.2, fun H3 vc k3 D3 hvc => ?_⟩⟩
  · rw [← wD_c tl cl nl]
    exact DGet.k (k := .inr "columns") W2.dct
  · intro e
    have := congrArg List.length e
    rw [List.length_map, W.lc] at this
    cases this
  · rw [List.length_map, W.lc]
    decide
  obtain ⟨z, hz, rfl⟩ := List.mem_map.mp hvc
  have fz := Fine.str (W.ac z hz)
  have k03 := k02.trans k3
  have W3 := W.keep k03
  have S3 := S.keep k03
  refine ⟨_, _, rfl, ?_⟩
  -- what is left
  refine ⟨.ref u, rfl, u, .ref nl, rfl, ?_, nl, rfl, ⟨_, .inl (.inl W3.hn)⟩, fun B nB => ?_⟩
  · rw [← wD_n tl cl nl]
    exact DGet.k (k := .inr "names") W3.dct
  have hBd := D3.new nB
  have hBn : nl ≠ B := ne_of_none W3.hn nB
  have hBs : sc ≠ B := ne_of_none S3.at' nB
  refine lc_list (xs := ns.map V.str) (fun i H' => ∃ zs : List Str, H' B = some (.lst (zs.map V.str)) ∧ zs.length ≤ i ∧ (∀ y, y ∈ zs → Nm y) ∧ ∀ b ob, b ≠ B → H3 b = some ob → H' b = some ob) ?_ ?_ ?_ ?_
  · exact ⟨[], upd_same, Nat.le_refl _, fun v hv => (nomatch hv), fun b ob nb e => by rw [upd_ne nb]; exact e⟩
  · rintro i H' _ ⟨_, _, _, _, kk⟩
    exact .inl (.inl (kk _ _ hBn W3.hn))
  · rintro i x H4 hx ⟨zs, hB, hl4, hg, kk⟩
    rw [List.getElem?_map] at hx
    obtain ⟨y, hy, rfl⟩ := Option.map_eq_some_iff.mp hx
    have hi : i < ns.length := (List.getElem?_eq_some_iff.mp hy).1
    have hln := W.ln
    refine ⟨rfl, .str y, rfl, .ref sc, rfl, sc, _, rfl, .inl (.inl (.inl (kk _ _ hBs S3.at'))), rfl, flat_map_str _, _, rfl, ?_⟩
    refine ite2 (fun e => ?_) (fun e => ?_)
    · refine ⟨.str y, rfl, _, hB, small1000 (by rw [List.length_map]; omega), zs ++ [y], by rw [List.map_append]; exact upd_same, by rw [List.length_append]; exact Nat.succ_le_succ hl4, fun v hv => ?_, fun b ob nb e => by rw [upd_ne nb]; exact kk b ob nb e⟩
      rcases List.mem_append.mp hv with h | h
      · exact hg v h
      · rw [List.mem_singleton.mp h]
        exact W.an y (List.mem_of_getElem? hy)
    · exact ⟨zs, hB, by omega, hg, kk⟩
  · rintro H4 ⟨zs, hB, hl4, hg, kk⟩
    rw [List.length_map, W.ln] at hl4
    have s34 : Same H3 H4 := fun b ob e => kk b ob (ne_of_none e nB) e
    have k04 := k03.trans (Keep.of s34)
    have D4 := D3.same s34
    have ew : ∀ z : Str, Fine 6 9 (.str z) → Fine 6 9 (.str z) := fun z h => h
    refine ⟨.ref d, rfl, .ref u, rfl, .int deep, rfl, .ref sc, rfl, d, c, u, tl, cl, nl, sc, _, deep, 0, ts, cs, ns, scope, rfl, D4, by omega, W.keep k04, S.keep k04, by omega, by decide, by decide, fun H5 v1 x1 k5 D5 f1 p1 => ?_⟩
    rw [hem] at f1
    have k05 := k04.trans k5
    have hB5 := k5 _ _ hBd.1 hBd.2 hB
    have D5' := D5.mono (show N + 1 + 1 + 1 + dx 3 ≤ N + 3500 by omega)
    -- a let
    refine ⟨fun σ' H' => σ' = [some (.ref d), some (.ref u), some (.ref sc), some (.int deep), some (.int way), some (.str t), some (.str z), some (.ref B), some v1, none, none] ∧ Same H5 H', ?_, ?_⟩
    · refine ⟨.int way, rfl, _, _, rfl, rfl, _, rfl, ite2 (fun e1 => ⟨.ref B, rfl, Nat.zero_le _, fun l nl' => ⟨_, _, .lst (.inl (.inl (same_upd nl' _ _ hB5))) (dp_strs zs), .lst (.inl (.inl upd_same)) .nil, shaped_strs hg, rfl, ?_⟩⟩) (fun e1 => ?_)⟩
      · rw [neq_nilS]
        have sl := same_upd (o := .lst []) nl'
        refine ⟨_, rfl, ite2 (fun e2 => ?_) (fun e2 => ⟨rfl, sl⟩)⟩
        obtain ⟨y, ys, rfl⟩ : ∃ y ys, zs = y :: ys := by
          cases zs with
          | nil => exact absurd e2 (by decide)
          | cons y ys => exact ⟨y, ys, rfl⟩
        have fy := Fine.str (hg y List.mem_cons_self)
        refine ⟨.ref B, rfl, B, _, 0, .str y, rfl, rfl, .inl (.inl (sl _ _ hB5)), at0, v1, rfl, h1000 (show 3 ≤ 1000 by decide), fun p np => ?_⟩
        have s6 := same_upd (o := .tup [.str "let", .str y, v1]) np
        have F := (Fines.cons (Fine.word (w := "let") (by decide)).k0 (.cons fy.k0 (.cons f1 .nil))).tup
        exact q _ _ _ (k05.trans (Keep.of (sl.trans s6))) ((D5'.same (sl.trans s6)).mono (by omega)) ⟨p, "let", .str y, [v1], rfl, upd_same, .inl ⟨rfl, y, v1, rfl, hg y List.mem_cons_self, rfl⟩, new_tup (.cons (.str _) (.cons (.str _) (.cons (dp_keep (KeepT.of sl) _ _ f1.flat p1) .nil))) (by simp only [flatDs, flatD, f1.flat, Bool.and_self]) np, F.mono (by omega) (by omega)⟩
      · exact ⟨rfl, fun _ _ e => e⟩
    rintro σ' H6 ⟨rfl, s56⟩
    have k06 := k05.trans (Keep.of s56)
    have D6 := D5'.same s56
    have p16 := dp_keep (KeepT.of s56) _ _ f1.flat p1
    have W6 := W.keep k06
    have S6 := S.keep k06
    clear hB5 hB kk
    -- a need, a tell
    refine ⟨.int way, rfl, _, _, rfl, rfl, _, rfl, ite2 (fun e1 => ?_) (fun e1 => ?_)⟩
    · refine ⟨_, _, rfl, rfl, h1000 (show 2 ≤ 1000 by decide), fun a1 m1 => ⟨v1, rfl, h1000 (show 3 ≤ 1000 by decide), fun a2 m2 => ⟨h1000 (show 2 ≤ 1000 by decide), fun a3 m3 => ⟨v1, rfl, h1000 (show 2 ≤ 1000 by decide), fun a4 m4 => ⟨h1000 (show 2 ≤ 1000 by decide), fun l ml => ?_⟩⟩⟩⟩⟩
      dsimp only
      have t1 := same_upd (o := .tup [.str "int", .int (0 - 3)]) m1
      have t2 := same_upd (o := .tup [.str "<", .ref a1, v1]) m2
      have t3 := same_upd (o := .tup [.str "need", .ref a2]) m3
      have t4 := same_upd (o := .tup [.str "tell", v1]) m4
      have tl5 := same_upd (o := .lst [.ref a3, .ref a4]) ml
      have b1 := new_tup (K := K) (.cons (.str "int") (.cons (.int (0 - 3)) .nil)) rfl m1
      have b2 := new_tup (K := K) (.cons (.str "<") (.cons b1 (.cons (dp_keep (KeepT.of t1) _ _ f1.flat p16) .nil))) (by simp only [flatDs, flatD, f1.flat, Bool.and_self]) m2
      have b3 := new_tup (K := K) (.cons (.str "need") (.cons b2 .nil)) (by simp only [flatDs, flatD, f1.flat, Bool.and_self]) m3
      have b4 := new_tup (K := K) (.cons (.str "tell") (.cons (dp_keep (KeepT.of (t1.trans (t2.trans t3))) _ _ f1.flat p16) .nil)) (by simp only [flatDs, flatD, f1.flat, Bool.and_self]) m4
      have fi : Fine 1 36 (.tuple [.str "int", .int (0 - 3)]) := (tup2 (by decide) (Fine.int (by decide) (by decide)))
      have F3 := tup2 (w := "need") (by decide) (((Fines.cons (Fine.word (w := "<") (by decide)).k0 (.cons (fi.mono (show 1 ≤ 6 by decide) (Nat.le_refl _)) (.cons f1 .nil))).tup))
      have F4 := tup2 (w := "tell") (by decide) f1
      have hs3 : SV K _ (.ref a3) (.tuple [.str "need", .tuple [.str "<", .tuple [.str "int", .int (0 - 3)], x1]]) := ⟨a3, "need", .ref a2, [], rfl, upd_same, .inr (.inl ⟨.inl rfl, rfl⟩), b3, F3.mono (by decide) (by decide)⟩
      have hs4 : SV K _ (.ref a4) (.tuple [.str "tell", x1]) := ⟨a4, "tell", v1, [], rfl, upd_same, .inr (.inl ⟨.inr rfl, rfl⟩), b4, F4.mono (by decide) (by decide)⟩
      have h3 := (hs3.keep (KeepT.of t4)).keep (KeepT.of tl5)
      have h4 := hs4.keep (KeepT.of tl5)
      have t15 := t1.trans (t2.trans (t3.trans (t4.trans tl5)))
      have hl : upd (upd (upd (upd (upd H6 a1 (.tup [.str "int", .int (0 - 3)])) a2 (.tup [.str "<", .ref a1, v1])) a3 (.tup [.str "need", .ref a2])) a4 (.tup [.str "tell", v1])) l (.lst [.ref a3, .ref a4]) l = some (.lst [.ref a3, .ref a4]) := upd_same
      clear t1 t2 t3 t4 tl5 b1 b2 b3 b4 hs3 hs4 m1 m2 m3 m4 ml
      revert h3 h4 t15 hl
      generalize upd (upd (upd (upd (upd H6 a1 (.tup [.str "int", .int (0 - 3)])) a2 (.tup [.str "<", .ref a1, v1])) a3 (.tup [.str "need", .ref a2])) a4 (.tup [.str "tell", v1])) l (.lst [.ref a3, .ref a4]) = H7
      intro h3 h4 t15 hl
      have k07 := k06.trans (Keep.of t15)
      have D7 := (D6.same t15).mono (show N + 3500 ≤ N + 20000 by omega)
      have hw2 : way % 2 = 0 ∨ way % 2 = 1 := by omega
      refine ⟨.int way, rfl, _, _, rfl, rfl, (show (0 : Int) < 2 by decide), ?_⟩
      dsimp only
      rcases hw2 with e2 | e2
      · rw [e2]
        exact ⟨l, _, 0, .ref a3, rfl, rfl, .inl (.inl hl), at0, q _ _ _ k07 D7 h3⟩
      · rw [e2]
        exact ⟨l, _, 1, .ref a4, rfl, rfl, .inl (.inl hl), at1, q _ _ _ k07 D7 h4⟩
    -- an each
    refine ⟨.int way, rfl, _, _, rfl, rfl, _, rfl, ite2 (fun e2 => ?_) (fun e2 => ?_)⟩
    · refine ⟨.ref d, rfl, .ref u, rfl, .int deep, rfl, .ref sc, rfl, d, c, u, tl, cl, nl, sc, _, deep, 2, ts, cs, ns, scope, rfl, D6, by omega, W6, S6, by omega, by decide, by decide, fun H7 v2 x2 k7 D7 f2 p2 => ?_⟩
      have k07 := k06.trans k7
      rw [hem] at f2
      refine ⟨.str t, rfl, v2, rfl, .str z, rfl, .ref d, rfl, .ref u, rfl, .int deep, rfl, .ref sc, rfl, d, c, u, tl, cl, nl, sc, _, deep, 2, ts, cs, ns, scope, rfl, D7, by omega, W.keep k07, S.keep k07, by omega, by decide, by decide, fun H8 v3 x3 k8 D8 f3 p3 => ⟨h1000 (show 5 ≤ 1000 by decide), fun p np => ?_⟩⟩
      rw [hem] at f3
      have s9 := same_upd (o := .tup [.str "each", .str t, v2, .str z, v3]) np
      have F := (Fines.cons (Fine.word (w := "each") (by decide)).k0 (.cons ft.k0 (.cons f2 (.cons fz.k0 (.cons f3 .nil))))).tup
      exact q _ _ _ ((k07.trans k8).trans (Keep.of s9)) ((D8.same s9).mono (by omega)) ⟨p, "each", .str t, [v2, .str z, v3], rfl, upd_same, .inr (.inr ⟨.inr rfl, t, v2, z, v3, rfl, rfl, W.at' t ht, W.ac z hz⟩), new_tup (.cons (.str _) (.cons (.str _) (.cons (dp_keep (k8.t D7) _ _ f2.flat p2) (.cons (.str _) (.cons p3 .nil))))) (by simp only [flatDs, flatD, f2.flat, f3.flat, Bool.and_self]) np, F.mono (by omega) (by omega)⟩
    -- a put to in
    refine ⟨.int way, rfl, _, _, rfl, rfl, _, rfl, ite2 (fun e3 => ?_) (fun e3 => ?_)⟩
    · refine ⟨.str t, rfl, .ref d, rfl, .ref u, rfl, .ref sc, rfl, d, c, u, tl, cl, nl, sc, _, 0, 0, ts, cs, ns, scope, rfl, D6, by omega, W6, S6, by decide, by decide, by decide, fun H7 v2 x2 k7 D7 f2 p2 => ?_⟩
      have k07 := k06.trans k7
      rw [hem] at f2
      refine ⟨.ref d, rfl, d, c, _, 4, rfl, D7, by omega, by decide, by decide, fun H8 r k8 D8 r0 r1 => ⟨h1000 (show 2 ≤ 1000 by decide), fun p1 np1 => ⟨h1000 (show 5 ≤ 1000 by decide), fun p np => ?_⟩⟩⟩
      have s9 := same_upd (o := .tup [.str "int", .int r]) np1
      have s10 := same_upd (o := .tup [.str "put", .str t, v2, .str "in", .ref p1]) np
      have bi := new_tup (K := K) (.cons (.str "int") (.cons (.int r) .nil)) rfl np1
      have fi : Fine 1 36 (.tuple [.str "int", .int r]) := tup2 (by decide) (Fine.int (by omega) (by omega))
      have F := (Fines.cons (Fine.word (w := "put") (by decide)).k0 (.cons ft.k0 (.cons f2 (.cons (Fine.word (w := "in") (by decide)).k0 (.cons (fi.mono (show 1 ≤ 6 by decide) (Nat.le_refl _)) .nil))))).tup
      exact q _ _ _ ((k07.trans k8).trans (Keep.of (s9.trans s10))) ((D8.same (s9.trans s10)).mono (by omega)) ⟨p, "put", .str t, [v2, .str "in", .ref p1], rfl, upd_same, .inr (.inr ⟨.inl rfl, t, v2, "in", .ref p1, rfl, rfl, W.at' t ht, in_nm⟩), new_tup (.cons (.str _) (.cons (.str _) (.cons (dp_keep ((k8.t D7).trans (KeepT.of s9)) _ _ f2.flat p2) (.cons (.str _) (.cons bi .nil))))) (by simp only [flatDs, flatD, f2.flat, Bool.and_self]) np, F.mono (by omega) (by omega)⟩
    -- a put
    refine ⟨.str t, rfl, .ref d, rfl, .ref u, rfl, .int deep, rfl, deep, 1, rfl, rfl, .ref sc, rfl, d, c, u, tl, cl, nl, sc, _, _, 0, ts, cs, ns, scope, rfl, D6, by omega, W6, S6, by omega, by decide, by decide, fun H7 v2 x2 k7 D7 f2 p2 => ?_⟩
    rw [hem] at f2
    refine ⟨.str z, rfl, v1, rfl, h1000 (show 5 ≤ 1000 by decide), fun p np => ?_⟩
    have s9 := same_upd (o := .tup [.str "put", .str t, v2, .str z, v1]) np
    have F := (Fines.cons (Fine.word (w := "put") (by decide)).k0 (.cons ft.k0 (.cons f2 (.cons fz.k0 (.cons f1 .nil))))).tup
    exact q _ _ _ ((k06.trans k7).trans (Keep.of s9)) ((D7.same s9).mono (by omega)) ⟨p, "put", .str t, [v2, .str z, v1], rfl, upd_same, .inr (.inr ⟨.inl rfl, t, v2, z, v1, rfl, rfl, W.at' t ht, W.ac z hz⟩), new_tup (.cons (.str _) (.cons (.str _) (.cons p2 (.cons (.str _) (.cons (dp_keep (k7.t D6) _ _ f1.flat p16) .nil))))) (by simp only [flatDs, flatD, f1.flat, f2.flat, Bool.and_self]) np, F.mono (by omega) (by omega)⟩
end
end L18

namespace L18
open PySem PySem.Spec PyProof.Rows L2 GR
abbrev SVs (K : PySem.W.Frag) (H : Hp) : List V → List PyData → Prop := Paired (SV K H)
theorem svs_keep {K : PySem.W.Frag} {H H' : Hp} (k : KeepT H H') : ∀ {vs : List V} {ds : List PyData}, SVs K H vs ds → SVs K H' vs ds
  | _, _, .nil => .nil
  | _, _, .cons h t => .cons (h.keep k) (svs_keep k t)
theorem svs_append {K : PySem.W.Frag} {H : Hp} : ∀ {vs us : List V} {ds es : List PyData}, SVs K H vs ds → SVs K H us es → SVs K H (vs ++ us) (ds ++ es)
  | _, _, _, _, .nil, h => h
  | _, _, _, _, .cons h t, g => .cons h (svs_append t g)
theorem svs_len {K : PySem.W.Frag} {H : Hp} {vs : List V} {ds : List PyData} (h : SVs K H vs ds) : vs.length = ds.length := Paired.length h
section
variable {P : Program} {w : World} {K : PySem.W.Frag} {mg : Str → Option Value} {base : Heap}
abbrev s_law_transaction : Stmt := topS 19
abbrev N_tr : List Str := ["_law_deck_here", "_law_world_here", "_law_most", "_law_deep", "_law_scope", "_law_found", "_law_k"]
abbrev ps_tr : List Str := ["_law_deck_here", "_law_world_here", "_law_most", "_law_deep"]
theorem sc_law_transaction : FnScope N_tr ps_tr (defScope s_law_transaction) := ⟨rfl, rfl, rfl, by decide +kernel, rfl, by decide +kernel, by decide +kernel⟩
def sp_tran (K : PySem.W.Frag) : Sp := fun vs H Q _ => ∃ (d c u tl cl nl : Addr) (N deep : Int) (many : Nat) (ts cs ns : List Str), vs = [.ref d, .ref u, .int (many : Int), .int deep] ∧ deep ≤ 3 ∧ many ≤ 6 ∧ Deck H d c N ∧ N < 2 ^ 52 ∧ Wd H d c u tl cl nl ts cs ns ∧
  ∀ H' p us ds, Keep d c H H' → Deck H' d c (N + 200000) → H' p = some (.tup us) → SVs K H' us ds → us.length ≤ 6 → Q (.ref p) H'
theorem ok_tran {f f_law_draw f_st : Addr} {fd fd_law_draw d_st : FuncData} {k : Nat} (F : Fun K "_law_transaction" "_law_transaction" s_law_transaction f fd) (G_law_draw : FnOk P w K mg base CX0 k f_law_draw fd_law_draw ["_law_deck_here", "_law_most"] sp_draw)
    (g_law_draw : mg "_law_draw" = some (.ref f_law_draw)) (K_law_draw : PySem.W.keepIn K (.ref f_law_draw) = true) (b_law_draw : Binds K fd_law_draw ["_law_deck_here", "_law_most"] [])
    (G : FnOk P w K mg base CX0 k f_st d_st ps_st (sp_stmt K)) (g : mg "_law_statement" = some (.ref f_st)) (Kf : PySem.W.keepIn K (.ref f_st) = true) (b : Binds K d_st ps_st []) (mrange : mg "range" = none) (mint : mg "int" = none) (mtuple : mg "tuple" = none) : FnOk P w K mg base CX0 (k + 1) f fd ps_tr (sp_tran K) := by
  have nd := sc_law_transaction.nd
  refine F.ok sc_law_transaction (fun vs H Q E h => ?_) (fun cdv A outer s H vs Q E hr h => ?_)
  · obtain ⟨d, c, u, tl, cl, nl, N, deep, many, ts, cs, ns, rfl, _⟩ := h
    rfl
  obtain ⟨d, c, u, tl, cl, nl, N, deep, many, ts, cs, ns, rfl, hdeep, hmany, D, hN, W, q⟩ := h
  refine ⟨_, (pss_cons (ps_set (i := 4) nd rfl (.inl rfl) (pe_lst pa_nil))
      (pss_cons (ps_set (i := 5) nd rfl (.inl rfl) (pe_lst pa_nil))
      (pss_cons (ps_for PassesOwn.never rfl (pi_range1 rfl mrange (pa_cons (pe_call G_law_draw hr (by rfl) g_law_draw K_law_draw b_law_draw .nil pass0 (pa_cons (pv 0) (pa_cons (pe_op op_add (pv 2) pe_int) pa_nil))) pa_nil)) (pg_name (i := 6) nd rfl (Or.inl rfl))
      (pss_cons (ps_expr (pe_bm PySem.F.plainAttrs_list PySem.F.slot_list_append PySem.F.type_list_append mt_append (pv 5) (pa_cons (pe_call G hr (by rfl) g Kf b .nil pass0 (pa_cons (pv 0) (pa_cons (pv 1) (pa_cons (pv 4) (pa_cons (pv 3) pa_nil))))) pa_nil)))
        (pss_one (ps_set (i := 4) nd rfl (.inl rfl) (pe_op op_cat (pv 4) (pe_op op_rep (pe_lst (pa_cons (pe_ix ix_tup (pe_ix ix_list (pv 5) (pe_un un_neg pe_int) (fun _ _ => rfl)) pe_int (fun _ _ => rfl)) pa_nil)) (pe_callTy call_int1 (by rfl) mint boot_int (pa_cons (pe_cmpR op_eq (pe_ix ix_tup (pe_ix ix_list (pv 5) (pe_un un_neg pe_int) (fun _ _ => rfl)) pe_int (fun _ _ => rfl)) pe_str (nomark _)) pa_nil))))))))
      (pss_one (ps_ret (pe_callTy call_tuple_of (by rfl) mtuple boot_tuple (pa_cons (pv 5) pa_nil))))))), ?_⟩
  refine ⟨Nat.zero_le _, fun sc nsc => ⟨Nat.zero_le _, fun fo nfo => ?_⟩⟩
  have s1 := same_upd (o := .lst []) nsc
  have s2 := same_upd (o := .lst []) nfo
  have hsc := D.new nsc
  have hfo := (D.same s1).new nfo
  have h1 := s2 _ _ (show upd H sc (.lst []) sc = _ from upd_same)
  have h2 : upd (upd H sc (.lst [])) fo (.lst []) fo = some (.lst []) := upd_same
  have nfoH : H fo = none := s1.free nfo
  have hsf : sc ≠ fo := ne_of_none (show upd H sc (.lst []) sc = some (.lst []) from upd_same) nfo
  have s12 := s1.trans s2
  revert h1 h2 s12
  clear s1 s2
  generalize upd (upd H sc (.lst [])) fo (.lst []) = H1
  intro h1 h2 s12
  have D1 := D.same s12
  refine ⟨.ref d, rfl, .int (many : Int), rfl, (many : Int), 1, rfl, rfl, d, c, N, (many : Int) + 1, rfl, D1, by omega, by omega, by omega, fun H2 r k2 D2 r0 r1 => ?_⟩
  obtain ⟨m, rfl⟩ := Int.eq_ofNat_of_zero_le r0
  refine ⟨(m : Int), rfl, by omega, by omega, ?_⟩
  rw [show ((m : Int)).toNat = m by omega]
  refine for_range (n := m) (fun i σ H' => ∃ (sc : Addr) (y6 : Option V) (us : List V) (ds : List PyData) (scope : List Str), σ = [some (.ref d), some (.ref u), some (.int (many : Int)), some (.int deep), some (.ref sc), some (.ref fo), y6] ∧ Keep d c H H' ∧ Deck H' d c (N + 1 + 20000 * (i : Int)) ∧ H' fo = some (.lst us) ∧ SVs K H' us ds ∧ us.length = i ∧ Scp H' d c sc scope ∧ scope.length ≤ i ∧ sc ≠ fo) ?_ ?_ ?_
  · exact ⟨sc, none, [], [], [], rfl, (Keep.of s12).trans k2, D2.mono (by omega), k2 _ _ hfo.1 hfo.2 h2, .nil, rfl, ⟨k2 _ _ hsc.1 hsc.2 h1, hsc, fun z hz => (nomatch hz), Nat.zero_le _⟩, Nat.zero_le _, hsf⟩
  · rintro i σ H3 hi ⟨sc, y6, us, ds, scope, rfl, k3, D3, hf, hs, hl, S, hsl, nsf⟩
    refine ⟨.ref fo, rfl, .inl ⟨rfl, us, .inl (.inl hf)⟩, .ref d, rfl, .ref u, rfl, .ref sc, rfl, .int deep, rfl, d, c, u, tl, cl, nl, sc, _, deep, ts, cs, ns, scope, rfl, hdeep, D3, by omega, W.keep k3, S, fun H4 v x k4 D4 sv => ?_⟩
    have hf4 := k4 _ _ hfo.1 hfo.2 hf
    have S4 := S.keep k4
    have hs4 := svs_keep (k4.t D3) hs
    refine ⟨fo, us, v, rfl, rfl, hf4, small1000 (by omega), ?_⟩
    have kf : KeepT H4 (upd H4 fo (.lst (us ++ [v]))) := KeepT.lst hf4
    have hf5 : upd H4 fo (.lst (us ++ [v])) fo = some (.lst (us ++ [v])) := upd_same
    have hs5 := svs_append (svs_keep kf hs4) (.cons (sv.keep kf) .nil)
    have sv5 := sv.keep kf
    have D5 := D4.upd (o := .lst (us ++ [v])) hfo.1 hfo.2
    have k5 : Keep d c H (upd H4 fo (.lst (us ++ [v]))) := fun b o n1 n2 e => by
      rw [upd_ne (ne_of_none e nfoH)]
      exact k4 _ _ n1 n2 (k3 _ _ n1 n2 e)
    have hsc5 : upd H4 fo (.lst (us ++ [v])) sc = some (.lst (scope.map V.str)) := by
      rw [upd_ne nsf]
      exact S4.at'
    revert hf5 hs5 sv5 D5 k5 hsc5
    generalize upd H4 fo (.lst (us ++ [v])) = H5
    intro hf5 hs5 sv5 D5 k5 hsc5
    obtain ⟨p, w', v1, vs, rfl, hp, hsf, hdp, hfin⟩ := id sv5
    have hlet := hsf.let'
    refine ⟨.ref sc, rfl, .ref fo, rfl, 1, rfl, fo, _, -1, .ref p, rfl, rfl, .inl (.inl hf5), atI_last _ _, p, _, 1, v1, rfl, rfl, .inl (.inl hp), at1, h1000 (show 1 ≤ 1000 by decide), fun l1 nl1 => ?_⟩
    have s6 := same_upd (o := .lst [v1]) nl1
    have hl1 : upd H5 l1 (.lst [v1]) l1 = some (.lst [v1]) := upd_same
    revert s6 hl1
    generalize upd H5 l1 (.lst [v1]) = H6
    intro s6 hl1
    refine ⟨.ref fo, rfl, 1, rfl, fo, _, -1, .ref p, rfl, rfl, .inl (.inl (s6 _ _ hf5)), atI_last _ _, p, _, 0, .str w', rfl, rfl, .inl (.inl (s6 _ _ hp)), at0, rfl, .inr ⟨_, rfl, ?_⟩⟩
    refine ⟨l1, _, [v1], rfl, rfl, hl1, ?_, ?_, ?_, fun l2 nl2 => ?_⟩
    · split <;> decide
    · split <;> decide
    · split
      · exact h1000 (show 1 * 1 ≤ 1000 by decide)
      · exact h1000 (show 1 * 0 ≤ 1000 by decide)
    obtain ⟨more, hmore, hm1, hmn⟩ : ∃ more : List Str, (List.replicate (if decide (V.str w' = V.str "let") = true then 1 else 0 : Int).toNat [v1]).flatten = more.map V.str ∧ more.length ≤ 1 ∧ ∀ z, z ∈ more → Nm z := by
      by_cases e : V.str w' = V.str "let"
      · obtain ⟨z, rfl, hz⟩ := hlet (V.str.inj e)
        rw [decide_eq_true e]
        exact ⟨[z], rfl, Nat.le_refl _, fun y hy => by rw [List.mem_singleton.mp hy]; exact hz⟩
      · rw [decide_eq_false e]
        exact ⟨[], rfl, Nat.zero_le _, fun y hy => (nomatch hy)⟩
    rw [hmore]
    have s7 := same_upd (o := .lst (more.map V.str)) nl2
    have hl2 : upd H6 l2 (.lst (more.map V.str)) l2 = some (.lst (more.map V.str)) := upd_same
    have s67 := s6.trans s7
    revert s67 hl2
    clear s7 nl2
    generalize upd H6 l2 (.lst (more.map V.str)) = H7
    intro hl2 s67
    refine ⟨sc, l2, _, _, rfl, rfl, s67 _ _ hsc5, hl2, ?_, fun sc2 nsc2 => ?_⟩
    · rw [List.length_map, List.length_map]
      exact h1000 (by omega)
    rw [← List.map_append]
    have s8 := same_upd (o := .lst ((scope ++ more).map V.str)) nsc2
    have s58 := s67.trans s8
    have hsc2 := (D5.same s67).new nsc2
    exact ⟨sc2, _, us ++ [.ref p], ds ++ [x], scope ++ more, rfl, k5.trans (Keep.of s58), (D5.same s58).mono (by omega), s58 _ _ hf5, svs_keep (KeepT.of s58) hs5, by rw [List.length_append, hl]; rfl, ⟨upd_same, hsc2, fun z hz => by
      rcases List.mem_append.mp hz with h | h
      · exact S.nm z h
      · exact hmn z h, by rw [List.length_append]; omega⟩, by rw [List.length_append]; omega, (ne_of_none (s67 _ _ hf5) nsc2).symm⟩
  · rintro σ H3 ⟨sc, y6, us, ds, scope, rfl, k3, D3, hf, hs, hl, S, hsl, nsf⟩
    refine ⟨.ref fo, rfl, fo, us, rfl, .inl ⟨.inl (.inl hf), fun p np => ?_⟩⟩
    have s4 := same_upd (o := .tup us) np
    exact q _ p us ds (k3.trans (Keep.of s4)) ((D3.same s4).mono (by omega)) upd_same (svs_keep (KeepT.of s4) hs) (by omega)
end
end L18

namespace WX
open PySem PySem.Spec PySem.AutoSeq1
theorem ext_tup (l : Addr) (items : Array Value) (n : Nat) (b : Addr) (items2 : Array Value) (n2 : Nat) (dd : Option Addr) (sl : Array (Option Value)) (hs0 : ¬(!items.isEmpty && Builtin.List.listTooLong (items.size + items2.size)) = true) (hs1 : items.size ≤ sizeLine) (hs2 : items.size + items2.size ≤ sizeLine + 1) :
    Meets (Builtin.«list.extend» ⟨[.ref l, .ref b], []⟩) (fun _ R s => s.heap.get? l = some { cls := .type "list", dict := none, data := .seq items n, slots := #[] } ∧ s.heap.get? b = some { cls := .type "tuple", dict := dd, data := .seq items2 n2, slots := sl } ∧ R (.ok (.ret Value.none)) { s with heap := s.heap.update l (Obj.mapSeq fun x => x ++ items2), toks := s.toks }) := by
  refine .of_wp fun prog w A R s h => ?_
  obtain ⟨hp, g, d, tk, os⟩ := s
  obtain ⟨hl, hb, h⟩ := h
  have f1 := idx_int
  have f2 := sub_tuple_tuple
  have f3 := sub_list_list
  have f4 := sub_tuple_list
  have f5 := sub_list_tuple
  have hz' : (items ++ items2).size ≤ sizeLine + 1 := by
    rw [Array.size_append]
    exact hs2
  wp_walk using (wpAny_updateSeq hl rfl (hz := hs1) (_hz' := hz')), wpAny_loadPart' hl, wpAny_loadPart' hb
  exact ⟨_, rfl, h⟩
end WX

/-! Words that the hand layer lacks: a list extended by a tuple. -/
namespace WX
open PySem PySem.Spec PyProof.Rows L2
def rExtendT (K : PySem.W.Frag) : V → List V → Hp → VK → Prop := fun x vs H Q => ∃ (l b : Addr) (xs zs : List V), x = .ref l ∧ vs = [.ref b] ∧ H l = some (.lst xs) ∧ SqT K H b zs ∧ xs.length + zs.length ≤ sizeLine ∧ Q .non (upd H l (.lst (xs ++ zs)))
section
variable {X : Cx}
theorem mt_extendT : MtM X "list.extend" (rExtendT X.K) := by
  intro pins s σ H x vs v us Q I rx rv h
  obtain ⟨l, b, xs, zs, rfl, rfl, hH, hB, hz, q⟩ := h
  cases rx
  obtain ⟨u, rfl, ru⟩ := rv.one
  cases ru
  obtain ⟨z, its, n, r, hl, e⟩ := I.lstM hH
  obtain ⟨its2, r2, ⟨⟨c2, d2, dat2, sl2⟩, g2, hc2, n2, hd2⟩, z2⟩ := I.tuple hB
  have hc2 : c2 = .type "tuple" := hc2
  have hd2 : dat2 = .seq its2.toArray n2 := hd2
  subst hc2
  subst hd2
  have hl2 := r2.length
  have small : its.toArray.size + its2.toArray.size ≤ sizeLine := by
    rw [List.size_toArray, List.size_toArray]
    omega
  have short : ¬ (!its.toArray.isEmpty && Builtin.List.listTooLong (its.toArray.size + its2.toArray.size)) = true := by
    rw [notLongL small, Bool.and_false]
    exact Bool.false_ne_true
  refine call_meets F.slot_list_extend ⟨_, e, rfl⟩ F.entry_list_extend (F.args_list_extend_2 _ _)
    (ext_tup l its.toArray n b its2.toArray n2 d2 sl2 short (by rw [List.size_toArray]; omega) (by omega)) ⟨e, g2, ?_⟩
  refine ⟨.non, _, I.lset (its' := its ++ its2) hH e (by simp) (r.append r2) ?_, rfl, q⟩
  rw [List.length_append]
  omega
/-- a list extended by a list or by a tuple -/
def rExtendA (K : PySem.W.Frag) : V → List V → Hp → VK → Prop := fun x vs H Q => rExtend x vs H Q ∨ rExtendT K x vs H Q
theorem mt_extendA : MtM X "list.extend" (rExtendA X.K) := by
  intro pins s σ H x vs v us Q I rx rv h
  rcases h with h | h
  · exact mt_extend pins s σ H x vs v us Q I rx rv h
  · exact mt_extendT pins s σ H x vs v us Q I rx rv h
end
end WX

/-! Words that the hand layer lacks: a call by place of a def with a star; max(list of ints, default=); frozen tuples; dict(tuple of pairs). -/
namespace SC
open PySem PySem.Spec PyProof.Rows L2
section
variable {X : Cx} {CX : CXT} {k : Nat} {f : Addr} {sp : Sp} {E : XK} {x : Str} {e : Expr} {es : List Expr} {t : TA} {p pos : Pos}
theorem pe_callR (F : FnR X.prog X.w X.K X.mg X.base CX k f sp) (hr : Room k X.A) (hg : Gl X x) (hm : X.mg x = some (.ref f)) (hk : PySem.W.keepIn X.K (.ref f) = true) (hx : Passes CX X E)
    (ha : PA X (e :: es) t) (hdb : (x == ("__debug__" : Str)) = false := by decide) (he : starEach (e :: es) X.env = (false, eval e X.env) :: starEach es X.env := by rfl) (hpl : (backTo pos (starEach es X.env)).any (·.1) = false := by rfl) :
    PE X (.Call (.Name x p) (e :: es) [] pos) (tCall sp [] E t) := by
  refine ⟨fun pins s σ H Q I h => ?_⟩
  refine wpAny_Call_Name_kw (ld_glob I hg hm ?_ hdb)
  refine PySem.W.callWith_K (h₀ := X.base) I.ok.mod.kin hk (thn (ha.run pos pins s σ H _ I h) fun us s1 ⟨vs, H1, I1, r, q⟩ => ⟨I1.kIn, ?_⟩) he hpl
  have q : sp (vs ++ []) H1 Q E := q
  rw [List.append_nil] at q
  exact wpAny_call (run_fnR F hr hx I1 r q)
theorem pe_callR0 (F : FnR X.prog X.w X.K X.mg X.base CX k f sp) (hr : Room k X.A) (hg : Gl X x) (hm : X.mg x = some (.ref f)) (hk : PySem.W.keepIn X.K (.ref f) = true) (hx : Passes CX X E)
    (hdb : (x == ("__debug__" : Str)) = false := by decide) : PE X (.Call (.Name x p) [] [] pos) (tCall sp [] E tNil) := by
  refine ⟨fun pins s σ H Q I h => ?_⟩
  refine wpAny_Call_Name_kw (ld_glob I hg hm ?_ hdb)
  exact PySem.W.callWith_K0 I.kIn hk (wpAny_call (run_fnR (us := []) F hr hx I .nil h))
end
/-! ### max of a list of ints, with a default -/
def rMaxI (K : PySem.W.Frag) : List V → List V → Hp → VK → Prop := fun vs zs H Q => ∃ (a : Addr) (ns : List Int) (d : V), vs = [.ref a] ∧ zs = [d] ∧ SqL K H a (ns.map V.int) ∧ ns ≠ [] ∧ ∀ n, n ∈ ns → (∀ m, m ∈ ns → m ≤ n) → Q (.int n) H
theorem holdAll_ints {h : Heap} : ∀ {ns : List Int} {us : List Value}, Vals (ns.map V.int) us → PySem.W.HoldAll h us ns
  | [], us, r => by
    rw [List.map_nil] at r
    cases r
    exact ⟨[], .nil⟩
  | n :: ns, us, r => by
    rw [List.map_cons] at r
    cases r with
    | cons a b =>
      obtain ⟨t, rfl⟩ := a
      obtain ⟨as, ih⟩ := holdAll_ints b
      exact ⟨_, .cons (.int n t) ih⟩
theorem maxI_ge : ∀ (xs : List Int) (x : Int), x ≤ PySem.W.maxOf x xs ∧ ∀ y, y ∈ xs → y ≤ PySem.W.maxOf x xs
  | [], x => ⟨Int.le_refl _, fun y h => nomatch h⟩
  | z :: xs, x => by
    have e : PySem.W.maxOf x (z :: xs) = PySem.W.maxOf (if x < z then z else x) xs := by
      show List.foldl _ _ xs = List.foldl _ _ xs
      congr 1
      show (if decide (x < z) = true then z else x) = _
      by_cases h : x < z
      · rw [if_pos h, if_pos (decide_eq_true h)]
      · rw [if_neg h, if_neg (by simpa using h)]
    obtain ⟨h1, h2⟩ := maxI_ge xs (if x < z then z else x)
    rw [e]
    refine ⟨Int.le_trans ?_ h1, fun y hy => ?_⟩
    · split <;> omega
    · rcases List.mem_cons.mp hy with rfl | hy
      · exact Int.le_trans (by split <;> omega) h1
      · exact h2 y hy
section
variable {X : Cx}
theorem cr_maxD (hc : X.calm = true) (hu : X.A.units + 1 + 0 < cLine) : CallRK X (.builtin "max") [Str.ofString "default"] (rMaxI X.K) := by
  intro pins s σ H vs zs us ws Q I r rz h
  obtain ⟨a, ns, d, rfl, rfl, hs, h0, q⟩ := h
  obtain rfl := Vals.ref1 r
  obtain ⟨w1, rfl, e1⟩ := vals1 rz
  obtain ⟨its, rv, hl, hz⟩ := I.list hs
  refine PySem.W.max_list_datum_default (α := Int) (I.ok.hd hc) hl.isList (holdAll_ints (by simpa using rv)) hu (fun z => absurd z h0) fun y ys i v h' tk e hi hv hk => ?_
  subst e
  obtain ⟨as, hv⟩ := hv
  obtain ⟨t, rfl, _⟩ := PyProof.Rows.reads_int_inv hv
  have hm : PySem.W.maxOf y ys ∈ y :: ys := by
    have hi' : its[i]? = some (.int (PySem.W.maxOf y ys) t) := by simpa using hi
    have hlt : i < its.length := (List.getElem?_eq_some_iff.mp hi').1
    rw [← rv.length, List.length_map] at hlt
    obtain ⟨u, g1, g2⟩ := rv.get (show ((y :: ys).map V.int)[i]? = some (V.int ((y :: ys)[i])) by rw [List.getElem?_map, List.getElem?_eq_getElem hlt]; rfl)
    rw [hi'] at g1
    cases g1
    obtain ⟨t', e'⟩ := g2
    have e2 : PySem.W.maxOf y ys = (y :: ys)[i] := by injection e'
    rw [e2]
    exact List.getElem_mem hlt
  have hg := maxI_ge ys y
  exact ⟨.int _, H, I.kept (t' := tk) hk, ⟨t, rfl⟩, q _ hm fun m hm' => by
    rcases List.mem_cons.mp hm' with rfl | hm'
    · exact hg.1
    · exact hg.2 m hm'⟩
end
/-! ### tuples whose objects are known; dict of such -/
/-- a tuple of which it is known that its object holds no dict -/
def TupF (H : Hp) (a : Addr) (xs : List V) : Prop := ∃ o : Obj, H a = some (.frz o (.tup xs)) ∧ o.dict = none
theorem TupF.sq {K : PySem.W.Frag} {H : Hp} {a : Addr} {xs : List V} (h : TupF H a xs) : SqT K H a xs := let ⟨o, e, _⟩ := h; .inl (.inr ⟨o, e⟩)
section
variable {X : Cx}
theorem call_tupleF : CallR X (.type "tuple") (fun xs H Q => ∃ p ys, xs = [.ref p] ∧ SqL X.K H p ys ∧ ∀ l o, o.dict = none → H l = none → Q (.ref l) (upd H l (.frz o (.tup ys)))) := by
  intro pins s σ H xs us Q I r h
  obtain ⟨p, ys, rfl, hq, q⟩ := h
  obtain ⟨u, rfl, rx⟩ := vals1 r
  cases rx
  obtain ⟨its, r', pl, hz⟩ := I.list hq
  have hlen := r'.length
  refine call_tuple_list pl.isList (fun h' kp => ?_) (by simp only [List.size_toArray] <;> omega)
  have I1 : Inv X pins σ H { s with heap := h' } := I.kept (t' := s.toks) kp
  have I2 : Inv X pins σ (upd H h'.objs.size (.frz { cls := .type "tuple", data := .seq its.toArray } (.tup ys))) { s with heap := h'.push { cls := .type "tuple", data := .seq its.toArray } } :=
    I1.laid (t' := s.toks) (fun b o e => Heap.get?_push_of_some _ e) (Nat.le_refl _) (show ObjOk X.prog X.w _ _ _ (.frz _ (.tup ys)) from ⟨Heap.get?_push_size _ rfl, hz, its, r', IsTup.new _ _⟩)
  exact ⟨.ref h'.objs.size, _, I2, rfl, q _ _ rfl (I1.hok.fresh (Nat.le_refl _))⟩
theorem pairs_of2 {pins : List (Addr × Obj)} {σ : L2.St} {H : Hp} {s : Shared} (I : Inv X pins σ H s) : ∀ {ps : List Addr} {kvs : List (Key × V)}, Paired (fun p kv => SqT X.K H p [kV kv.1, kv.2]) ps kvs →
    ∃ (prs : List (Key × Value)) (qs : List (Value × Value)), KV kvs prs ∧ prs.length = ps.length ∧ qs.length = ps.length ∧
      (∀ (j : Nat) (u v : Value), qs[j]? = some (u, v) → ∃ (b : Addr) (k : Key), ps[j]? = some b ∧ prs[j]? = some (k, v) ∧ IsTup s.heap b #[u, v] ∧ keyIs k u = true)
  | _, _, .nil => ⟨[], [], .nil, rfl, rfl, fun j u v e => by simp at e⟩
  | _, _, .cons (a := p) (b := kv) h t => by
    obtain ⟨prs, qs, r, hl, hl2, hp⟩ := pairs_of2 I t
    obtain ⟨its, rv, ht, _⟩ := I.tuple h
    obtain ⟨u, y, ei, ru, ry⟩ := vals2 rv
    subst ei
    refine ⟨(kv.1, y) :: prs, (u, y) :: qs, .cons ⟨rfl, ry⟩ r, by rw [List.length_cons, List.length_cons, hl], by rw [List.length_cons, List.length_cons, hl2], fun j u' v' e => ?_⟩
    cases j with
    | zero =>
      have e' : (u, y) = (u', v') := Option.some.inj e
      cases e'
      exact ⟨p, kv.1, rfl, rfl, ht, kV_is (P := X.prog) (w := X.w) ru⟩
    | succ j =>
      obtain ⟨b, k, e1, e2, e3, e4⟩ := hp j u' v' (by simpa using e)
      exact ⟨b, k, by simpa using e1, by simpa using e2, e3, e4⟩
theorem call_dictT (hcalm : X.calm = true) : CallR X (.type "dict") (fun xs H Q => ∃ (a : Addr) (ps : List Addr) (kvs : List (Key × V)), xs = [.ref a] ∧ TupF H a (ps.map V.ref) ∧ Paired (fun p kv => SqT X.K H p [kV kv.1, kv.2]) ps kvs ∧
    ∀ p, H p = none → Q (.ref p) (upd H p (.dK (mergeK [] kvs)))) := by
  intro pins s σ H xs us Q I r q
  obtain ⟨a, ps, kvs, ex, ⟨o, hq, hdn⟩, hp, q⟩ := q
  subst ex
  obtain ⟨u, eu, rx⟩ := vals1 r
  subst eu
  cases rx
  obtain ⟨ho, hz, its, rv, o', ho', hc, n, hdat⟩ := I.hok _ _ hq
  rw [ho] at ho'
  cases ho'
  have ei := refs_at rv
  subst ei
  rw [List.length_map] at hz
  obtain ⟨prs, qs, rel, hl, hl2, hpr⟩ := pairs_of2 I hp
  refine PySem.call_dict_pairs (knd := mixKind X.prog X.w) (kvs := prs) (PySem.PairArg.tuple a (ps.map Value.ref).toArray (fun j => ps.getD j 0) qs) (I.ok.hd hcalm) ⟨⟨o, n, ho, hc, hdn, hdat⟩, by simp [hl2], fun j k v e => ?_⟩ ⟨by rw [hl, hl2], fun i key v e => ?_⟩ (by rw [hl2]; exact hz) fun h' tk hd' k => ?_
  · obtain ⟨b, k', e1, e2, e3, e4⟩ := hpr j k v e
    have eb : ps.getD j 0 = b := by rw [List.getD_eq_getElem?_getD, e1]; rfl
    show _ ∧ PySem.PairAt s.heap (ps.getD j 0) k v
    rw [eb]
    exact ⟨by simp [e1], .inl e3⟩
  · obtain ⟨b, k', e1, e2, e3, e4⟩ := hpr i key v e
    exact ⟨k', e2, e4⟩
  · have hm : (s.heap.objs.size == sysModules) = false := beq_eq_false_iff_ne.mpr (Nat.ne_of_gt I.big)
    have hlen : (mergeK [] kvs).length ≤ sizeLine := by
      refine Nat.le_trans (length_mergeK kvs []) ?_
      rw [List.length_nil, Nat.zero_add, rel.length, hl]
      exact hz
    exact ⟨.ref s.heap.objs.size, upd H s.heap.objs.size (.dK (mergeK [] kvs)), I.laid (t' := tk) (fun b ob e => k b ob (fun z => nomatch z) e) (Nat.le_refl _) (show ObjOk X.prog X.w _ _ _ (.dK (mergeK [] kvs)) from ⟨hlen, hm, merged [] prs, KV.merge rel .nil, hd'⟩), rfl, q _ (I.hok.fresh (Nat.le_refl _))⟩
end
end SC

namespace L18
open PySem PySem.Spec PyProof.Rows L2 GR
abbrev St1 := V × PyData
abbrev En := Int × V × PyData
/-- an entry at r -/
def EnOk (K : PySem.W.Frag) (H : Hp) (r : Addr) (e : En) : Prop := H r = some (.tup [.int e.1, e.2.1]) ∧ SV K H e.2.1 e.2.2
theorem EnOk.keep {K : PySem.W.Frag} {H H' : Hp} {r : Addr} {e : En} (h : EnOk K H r e) (k : KeepT H H') : EnOk K H' r e := ⟨k.1 _ _ h.1, h.2.keep k⟩
abbrev EnsOk (K : PySem.W.Frag) (H : Hp) : List Addr → List En → Prop := Paired (EnOk K H)
theorem ens_keep {K : PySem.W.Frag} {H H' : Hp} (k : KeepT H H') : ∀ {rs : List Addr} {es : List En}, EnsOk K H rs es → EnsOk K H' rs es
  | _, _, .nil => .nil
  | _, _, .cons h t => .cons (h.keep k) (ens_keep k t)
theorem ens_append {K : PySem.W.Frag} {H : Hp} : ∀ {rs us : List Addr} {es fs : List En}, EnsOk K H rs es → EnsOk K H us fs → EnsOk K H (rs ++ us) (es ++ fs)
  | _, _, _, _, .nil, h => h
  | _, _, _, _, .cons h t, g => .cons h (ens_append t g)
theorem ens_len {K : PySem.W.Frag} {H : Hp} {rs : List Addr} {es : List En} (h : EnsOk K H rs es) : rs.length = es.length := Paired.length h
def ed (e : En) : PyData := .tuple [.int e.1, e.2.2]
def logD (ms : List Int) (es : List En) : PyData := .tuple [.tuple (ms.map PyData.int), .tuple (es.map ed)]
/-- a log at p -/
def Lg (K : PySem.W.Frag) (H : Hp) (p : Addr) (ms : List Int) (es : List En) : Prop := ∃ (mp ep : Addr) (rs : List Addr), H p = some (.tup [.ref mp, .ref ep]) ∧ H mp = some (.tup (ms.map V.int)) ∧ Rd H ep (.tup (rs.map V.ref)) ∧ EnsOk K H rs es
theorem rd_keep {H H' : Hp} {a : Addr} {xs : List V} (h : Rd H a (.tup xs)) (k : KeepT H H') : Rd H' a (.tup xs) := by
  rcases h with h | ⟨o, h⟩
  · exact .inl (k.1 _ _ h)
  · exact .inr ⟨o, k.2 _ _ _ h⟩
/-- a log whose tuple of entries has an object known to hold no dict -/
def LgF (K : PySem.W.Frag) (H : Hp) (p : Addr) (ms : List Int) (es : List En) : Prop := ∃ (mp ep : Addr) (rs : List Addr), H p = some (.tup [.ref mp, .ref ep]) ∧ H mp = some (.tup (ms.map V.int)) ∧ SC.TupF H ep (rs.map V.ref) ∧ EnsOk K H rs es
theorem LgF.lg {K : PySem.W.Frag} {H : Hp} {p : Addr} {ms : List Int} {es : List En} (h : LgF K H p ms es) : Lg K H p ms es := by
  obtain ⟨mp, ep, rs, h1, h2, ⟨o, h3, _⟩, h4⟩ := h
  exact ⟨mp, ep, rs, h1, h2, .inr ⟨o, h3⟩, h4⟩
theorem tupF_keep {H H' : Hp} {a : Addr} {xs : List V} (h : SC.TupF H a xs) (k : KeepT H H') : SC.TupF H' a xs := let ⟨o, e, d⟩ := h; ⟨o, k.2 _ _ _ e, d⟩
theorem LgF.keep {K : PySem.W.Frag} {H H' : Hp} {p : Addr} {ms : List Int} {es : List En} (h : LgF K H p ms es) (k : KeepT H H') : LgF K H' p ms es := by
  obtain ⟨mp, ep, rs, h1, h2, h3, h4⟩ := h
  exact ⟨mp, ep, rs, k.1 _ _ h1, k.1 _ _ h2, tupF_keep h3 k, ens_keep k h4⟩
theorem Lg.keep {K : PySem.W.Frag} {H H' : Hp} {p : Addr} {ms : List Int} {es : List En} (h : Lg K H p ms es) (k : KeepT H H') : Lg K H' p ms es := by
  obtain ⟨mp, ep, rs, h1, h2, h3, h4⟩ := h
  exact ⟨mp, ep, rs, k.1 _ _ h1, k.1 _ _ h2, rd_keep h3 k, ens_keep k h4⟩
theorem dp_ints' {K : PySem.W.Frag} {H : Hp} : ∀ ns : List Int, DpAll K H (ns.map V.int) (ns.map PyData.int)
  | [] => .nil
  | n :: ns => .cons (.int n) (dp_ints' ns)
theorem sv_dp {K : PySem.W.Frag} {H : Hp} {v : V} {x : PyData} (h : SV K H v x) : Dp K H v x ∧ Fine 8 12000 x := by
  obtain ⟨p, w, v1, vs, rfl, h1, h2, h3, h4⟩ := h
  exact ⟨h3, h4⟩
theorem ens_dp {K : PySem.W.Frag} {H : Hp} : ∀ {rs : List Addr} {es : List En}, EnsOk K H rs es → DpAll K H (rs.map V.ref) (es.map ed)
  | _, _, .nil => .nil
  | _, _, .cons h t => .cons (.tup (.inl (.inl h.1)) (.cons (.int _) (.cons (sv_dp h.2).1 .nil))) (ens_dp t)
theorem Lg.dp {K : PySem.W.Frag} {H : Hp} {p : Addr} {ms : List Int} {es : List En} (h : Lg K H p ms es) : Dp K H (.ref p) (logD ms es) := by
  obtain ⟨mp, ep, rs, h1, h2, h3, h4⟩ := h
  exact .tup (.inl (.inl h1)) (.cons (.tup (.inl (.inl h2)) (dp_ints' ms)) (.cons (.tup (.inl h3) (ens_dp h4)) .nil))
/-- what is true of its numbers -/
structure OkL (ms : List Int) (es : List En) : Prop where
  asc : (es.map (·.1)).Pairwise (· < ·)
  mono : ms.Pairwise (· ≤ ·)
  eb : ∀ e, e ∈ es → 0 ≤ e.1 ∧ e.1 ≤ 10000
  mb : ∀ m, m ∈ ms → 0 ≤ m ∧ m ≤ 10000
  m0 : (0 : Int) ∈ ms
  ml : ms.length ≤ 6
  el : es.length ≤ 30
/-- the transactions in the list at so -/
structure Sm (K : PySem.W.Frag) (H : Hp) (so : Addr) (T : List (Addr × List St1)) : Prop where
  at' : H so = some (.lst (T.map fun t => V.ref t.1))
  tr : ∀ t, t ∈ T → H t.1 = some (.tup (t.2.map (·.1))) ∧ t.2.length ≤ 6 ∧ ∀ s, s ∈ t.2 → SV K H s.1 s.2
  len : T.length ≤ 5
theorem Sm.keep {K : PySem.W.Frag} {H H' : Hp} {so : Addr} {T : List (Addr × List St1)} (h : Sm K H so T) (k : KeepT H H') (hs : H' so = H so) : Sm K H' so T :=
  ⟨hs.trans h.at', fun t ht => ⟨k.1 _ _ (h.tr t ht).1, (h.tr t ht).2.1, fun s hs' => ((h.tr t ht).2.2 s hs').keep k⟩, h.len⟩
def entN (k : Nat) : List St1 → List En
  | [] => []
  | s :: l => ((k : Int), s.1, s.2) :: entN (k + 1) l
def mks (k : Nat) : List (List St1) → List Int
  | [] => []
  | t :: T => ((k + t.length : Nat) : Int) :: mks (k + t.length) T
theorem entN_append : ∀ (a b : List St1) (k : Nat), entN k (a ++ b) = entN k a ++ entN (k + a.length) b
  | [], b, k => rfl
  | s :: a, b, k => by
    rw [List.cons_append, entN, entN, entN_append a b (k + 1), List.cons_append, List.length_cons, show k + 1 + a.length = k + (a.length + 1) by omega]
theorem entN_len : ∀ (a : List St1) (k : Nat), (entN k a).length = a.length
  | [], k => rfl
  | s :: a, k => by rw [entN, List.length_cons, List.length_cons, entN_len a (k + 1)]
theorem mks_append : ∀ (a b : List (List St1)) (k : Nat), mks k (a ++ b) = mks k a ++ mks (k + a.flatten.length) b
  | [], b, k => rfl
  | t :: a, b, k => by
    rw [List.cons_append, mks, mks, mks_append a b, List.cons_append, List.flatten_cons, List.length_append, Nat.add_assoc]
theorem mks_len : ∀ (a : List (List St1)) (k : Nat), (mks k a).length = a.length
  | [], k => rfl
  | t :: a, k => by rw [mks, List.length_cons, List.length_cons, mks_len a]
theorem entN_ge : ∀ (a : List St1) (k : Nat) (e : En), e ∈ entN k a → (k : Int) ≤ e.1 ∧ e.1 < ((k + a.length : Nat) : Int)
  | [], k, e, h => (nomatch h)
  | s :: a, k, e, h => by
    rw [entN] at h
    rw [List.length_cons]
    rcases List.mem_cons.mp h with rfl | h
    · exact ⟨Int.le_refl _, by show (k : Int) < _; omega⟩
    · have := entN_ge a (k + 1) e h
      omega
theorem entN_asc : ∀ (a : List St1) (k : Nat), ((entN k a).map (·.1)).Pairwise (· < ·)
  | [], k => .nil
  | s :: a, k => by
    rw [entN, List.map_cons]
    refine .cons (fun m hm => ?_) (entN_asc a (k + 1))
    obtain ⟨e, he, rfl⟩ := List.mem_map.mp hm
    have := (entN_ge a (k + 1) e he).1
    show (k : Int) < e.1
    omega
theorem mks_ge : ∀ (a : List (List St1)) (k : Nat) (m : Int), m ∈ mks k a → (k : Int) ≤ m ∧ m ≤ ((k + a.flatten.length : Nat) : Int)
  | [], k, m, h => (nomatch h)
  | t :: a, k, m, h => by
    rw [mks] at h
    rw [List.flatten_cons, List.length_append]
    rcases List.mem_cons.mp h with rfl | h
    · omega
    · have := mks_ge a (k + t.length) m h
      omega
theorem mks_mono : ∀ (a : List (List St1)) (k : Nat), (mks k a).Pairwise (· ≤ ·)
  | [], k => .nil
  | t :: a, k => by
    rw [mks]
    exact .cons (fun m hm => (mks_ge a _ m hm).1) (mks_mono a _)
theorem flat_len {T : List (List St1)} {b : Nat} : (∀ t, t ∈ T → t.length ≤ b) → T.flatten.length ≤ T.length * b := by
  induction T with
  | nil => intro _; exact Nat.zero_le _
  | cons t T ih =>
    intro h
    have h1 := h t List.mem_cons_self
    have h2 := ih fun y hy => h y (List.mem_cons_of_mem _ hy)
    rw [List.flatten_cons, List.length_append, List.length_cons, Nat.succ_mul]
    omega
theorem okL_counted {T : List (List St1)} (h1 : T.length ≤ 5) (h2 : ∀ t, t ∈ T → t.length ≤ 6) : OkL (0 :: mks 0 T) (entN 0 T.flatten) := by
  have hf := flat_len h2
  have hf30 : T.flatten.length ≤ 30 := by omega
  refine ⟨entN_asc _ _, .cons (fun m hm => (mks_ge T 0 m hm).1) (mks_mono T 0), fun e he => ?_, fun m hm => ?_, List.mem_cons_self, by rw [List.length_cons, mks_len]; omega, by rw [entN_len]; exact hf30⟩
  · have := entN_ge _ _ e he
    omega
  · rcases List.mem_cons.mp hm with rfl | hm
    · omega
    · have := mks_ge T 0 m hm
      omega
/-! ### how it is shown -/
theorem fines_ints {k : Nat} : ∀ {ms : List Int}, (∀ m, m ∈ ms → 0 ≤ m ∧ m ≤ 10000) → Fines k (22 * ms.length) (ms.map PyData.int)
  | [], _ => .nil
  | m :: ms, h => by
    have h1 := h m List.mem_cons_self
    have h2 := fines_ints (k := k) fun y hy => h y (List.mem_cons_of_mem _ hy)
    rw [List.length_cons, show 22 * (ms.length + 1) = 22 + 22 * ms.length by omega, List.map_cons]
    exact .cons (Fine.int (by omega) (by omega)).k0 h2
theorem fines_ens {es : List En} (h : ∀ e, e ∈ es → (0 ≤ e.1 ∧ e.1 ≤ 10000) ∧ Fine 8 12000 e.2.2) : Fines 9 (12030 * es.length) (es.map ed) := by
  induction es with
  | nil => exact .nil
  | cons e es ih =>
    have h1 := h e List.mem_cons_self
    rw [List.length_cons, show 12030 * (es.length + 1) = 12030 + 12030 * es.length by omega, List.map_cons]
    exact .cons (((Fines.cons (Fine.int (by omega) (by omega)).k0 (.cons h1.2 .nil)).tup).mono (by decide) (by decide)) (ih fun y hy => h y (List.mem_cons_of_mem _ hy))
theorem ens_fine {K : PySem.W.Frag} {H : Hp} : ∀ {rs : List Addr} {es : List En}, EnsOk K H rs es → ∀ e, e ∈ es → Fine 8 12000 e.2.2
  | _, _, .nil, e, h => (nomatch h)
  | _, _, .cons h t, e, he => by
    rcases List.mem_cons.mp he with rfl | he
    · exact (sv_dp h.2).2
    · exact ens_fine t e he
theorem Lg.fine {K : PySem.W.Frag} {H : Hp} {p : Addr} {ms : List Int} {es : List En} (h : Lg K H p ms es) (o : OkL ms es) : Fine 11 400000 (logD ms es) := by
  obtain ⟨mp, ep, rs, h1, h2, h3, h4⟩ := h
  have a := (fines_ints (k := 0) o.mb).tup
  have b := (fines_ens fun e he => ⟨o.eb e he, ens_fine h4 e he⟩).tup
  have ml := o.ml
  have el := o.el
  exact ((Fines.cons (a.mono (show 0 + 1 ≤ 10 by decide) (Nat.le_refl _)) (.cons b .nil)).tup).mono (by decide) (by omega)
theorem Sm.upd {K : PySem.W.Frag} {H : Hp} {so b : Addr} {T : List (Addr × List St1)} {ys zs : List V} (h : Sm K H so T) (hb : H b = some (.lst ys)) (n : so ≠ b) : Sm K (L2.upd H b (.lst zs)) so T := h.keep (KeepT.lst hb) (upd_ne n)
theorem Sm.same {K : PySem.W.Frag} {H H' : Hp} {so : Addr} {T : List (Addr × List St1)} (h : Sm K H so T) (s : Same H H') : Sm K H' so T := h.keep (KeepT.of s) (by rw [h.at']; exact s _ _ h.at')
theorem take_next {α : Type} {l : List α} {i : Nat} {x : α} (h : l[i]? = some x) : l.take (i + 1) = l.take i ++ [x] := by
  rw [List.take_add_one, h]
  rfl
end L18

namespace L18
open PySem PySem.Spec PyProof.Rows L2 GR
/-! ### what stands where -/
/-- the statement at a place -/
def stAt : List En → Int → V
  | [], _ => .non
  | e :: es, p => if e.1 = p then e.2.1 else stAt es p
theorem ens_get {K : PySem.W.Frag} {H : Hp} : ∀ {rs : List Addr} {es : List En}, EnsOk K H rs es → ∀ {i : Nat} {e : En}, es[i]? = some e → ∃ r, rs[i]? = some r ∧ EnOk K H r e
  | _, _, .nil, i, e, h => by simp at h
  | _, _, .cons (a := r) h t, 0, e, h' => by cases h'; exact ⟨r, rfl, h⟩
  | _, _, .cons h t, i + 1, e, h' => by
    obtain ⟨r, h1, h2⟩ := ens_get t (by simpa using h')
    exact ⟨r, by simpa using h1, h2⟩
theorem ens_at {K : PySem.W.Frag} {H : Hp} : ∀ {rs : List Addr} {es : List En}, EnsOk K H rs es → ∀ {i : Nat} {r : Addr}, rs[i]? = some r → ∃ e, es[i]? = some e ∧ EnOk K H r e
  | _, _, .nil, i, e, h => by simp at h
  | _, _, .cons (b := e) h t, 0, r, h' => by cases h'; exact ⟨e, rfl, h⟩
  | _, _, .cons h t, i + 1, r, h' => by
    obtain ⟨e, h1, h2⟩ := ens_at t (by simpa using h')
    exact ⟨e, by simpa using h1, h2⟩
theorem drop_at {α : Type} {l : List α} {i : Nat} {x : α} (h : l[i]? = some x) : l.drop i = x :: l.drop (i + 1) := by
  obtain ⟨hi, e⟩ := List.getElem?_eq_some_iff.mp h
  rw [List.drop_eq_getElem_cons hi, e]
section
variable {P : Program} {w : World} {K : PySem.W.Frag} {mg : Str → Option Value} {base : Heap}
abbrev s_statement_at : Stmt := topS 5
abbrev N_sat : List Str := ["log", "position", "place", "statement"]
theorem sc_statement_at : FnScope N_sat ["log", "position"] (defScope s_statement_at) := ⟨rfl, rfl, rfl, by decide +kernel, rfl, by decide +kernel, by decide +kernel⟩
def sp_sat (K : PySem.W.Frag) : Sp := fun vs H Q _ => ∃ (p : Addr) (n : Int) (ms : List Int) (es : List En), vs = [.ref p, .int n] ∧ Lg K H p ms es ∧ Q (stAt es n) H
theorem ok_statement_at {f : Addr} {fd : FuncData} {k : Nat} (F : Fun K "statement_at" "statement_at" s_statement_at f fd) : FnOk P w K mg base CX0 (k + 1) f fd ["log", "position"] (sp_sat K) := by
  have nd := sc_statement_at.nd
  refine F.ok sc_statement_at (fun vs H Q E h => ?_) (fun cdv A outer s H vs Q E hr h => ?_)
  · obtain ⟨p, n, ms, es, rfl, _⟩ := h
    rfl
  obtain ⟨p, n, ms, es, rfl, ⟨mp, ep, rs, h1, h2, h3, h4⟩, q⟩ := h
  refine ⟨_, (pss_cons (ps_for PassesOwn.never rfl (pi_tup (pe_ix ix_tup (pv 0) pe_int (fun _ _ => rfl))) (pg_tup rfl (pgs_cons (pg_name (i := 2) nd rfl (Or.inl rfl)) (pgs_cons (pg_name (i := 3) nd rfl (Or.inl rfl)) pgs_nil)))
      (pss_one (ps_if (pt_cmpR op_eq (pv 2) (pv 1) (nomark _))
        (pss_one (ps_ret (pv 3)))
        pss_nil)))
      (pss_one (ps_ret pe_non))), ?_⟩
  refine ⟨.ref p, rfl, p, _, 1, .ref ep, rfl, rfl, .inl (.inl h1), rfl, ep, rfl, ⟨_, .inl h3⟩, ?_⟩
  have hl := ens_len h4
  refine for_tup (xs := rs.map V.ref) (fun i σ H' => H' = H ∧ ∃ y2 y3, σ = [some (.ref p), some (.int n), y2, y3] ∧ stAt es n = stAt (es.drop i) n) ?_ ?_ ?_ ?_
  · exact ⟨rfl, none, none, rfl, rfl⟩
  · rintro i σ H' _ ⟨rfl, _⟩
    exact .inl h3
  · rintro i x σ H' hx ⟨rfl, y2, y3, rfl, hst⟩
    rw [List.getElem?_map] at hx
    obtain ⟨r, hr', rfl⟩ := Option.map_eq_some_iff.mp hx
    obtain ⟨e, he, h5⟩ := ens_at h4 hr'
    rw [drop_at he] at hst
    refine ⟨r, _, rfl, .inl (.inl h5.1), rfl, _, _, rfl, _, _, rfl, rfl, ?_⟩
    refine ⟨.int e.1, rfl, .int n, rfl, rfl, _, rfl, ?_⟩
    rw [dec_int]
    rw [stAt] at hst
    by_cases hc : e.1 = n
    · rw [if_pos hc] at hst
      rw [hc, beq_self_eq_true]
      refine iteT ⟨e.2.1, rfl, ?_⟩
      rw [← hst]
      exact q
    · rw [if_neg hc] at hst
      rw [show (e.1 == n) = false from beq_eq_false_iff_ne.mpr hc]
      exact iteF ⟨rfl, _, _, rfl, hst⟩
  · rintro σ H' ⟨rfl, y2, y3, rfl, hst⟩
    rw [List.length_map, hl, List.drop_length] at hst
    show Q .non H'
    have e : stAt es n = .non := hst
    rw [← e]
    exact q
end
/-! ### lets -/
/-- the variable that a statement lets -/
def leto (H : Hp) (v : V) : Option Str := match v with
  | .ref p => (match H p with
    | some (.tup (.str w :: .str z :: _)) => if w = "let" then some z else none
    | _ => none)
  | _ => none
def letsOf (H : Hp) (lo hi : Int) : List En → List (Key × V)
  | [] => []
  | e :: es => if lo ≤ e.1 ∧ e.1 < hi then (match leto H e.2.1 with
    | some z => (.inr z, .int e.1) :: letsOf H lo hi es
    | none => letsOf H lo hi es) else letsOf H lo hi es
theorem sv_lets {K : PySem.W.Frag} {H : Hp} {v : V} {x : PyData} (h : SV K H v x) : ∃ (p : Addr) (w : Str) (v1 : V) (vs : List V), v = .ref p ∧ H p = some (.tup (.str w :: v1 :: vs)) ∧
    ((w = "let" ∧ ∃ z, v1 = .str z ∧ Nm z ∧ leto H v = some z) ∨ (w ≠ "let" ∧ leto H v = none)) := by
  obtain ⟨p, w, v1, vs, rfl, h1, h2, _⟩ := h
  refine ⟨p, w, v1, vs, rfl, h1, ?_⟩
  by_cases hw : w = "let"
  · obtain ⟨z, rfl, hz⟩ := h2.let' hw
    refine .inl ⟨hw, z, rfl, hz, ?_⟩
    show (match H p with | some (.tup (.str w :: .str z :: _)) => if w = "let" then some z else none | _ => none) = _
    rw [h1]
    exact if_pos hw
  · refine .inr ⟨hw, ?_⟩
    show (match H p with | some (.tup (.str w :: .str z :: _)) => if w = "let" then some z else none | _ => none) = _
    rw [h1]
    cases v1 <;> first | exact if_neg hw | rfl
theorem leto_keep {K : PySem.W.Frag} {H H' : Hp} {v : V} {x : PyData} (h : SV K H v x) (k : KeepT H H') : leto H' v = leto H v := by
  obtain ⟨p, w, v1, vs, rfl, h1, _⟩ := h
  show (match H' p with | some (.tup (.str w :: .str z :: _)) => if w = "let" then some z else none | _ => none) = (match H p with | some (.tup (.str w :: .str z :: _)) => if w = "let" then some z else none | _ => none)
  rw [h1, k.1 _ _ h1]
theorem lets_keep {K : PySem.W.Frag} {H H' : Hp} {lo hi : Int} (k : KeepT H H') : ∀ {rs : List Addr} {es : List En}, EnsOk K H rs es → letsOf H' lo hi es = letsOf H lo hi es
  | _, _, .nil => rfl
  | _, _, .cons h t => by
    rw [letsOf, letsOf, leto_keep h.2 k, lets_keep k t]
theorem lets_append (H : Hp) (lo hi : Int) : ∀ (a b : List En), letsOf H lo hi (a ++ b) = letsOf H lo hi a ++ letsOf H lo hi b
  | [], b => rfl
  | e :: a, b => by
    rw [List.cons_append, letsOf, letsOf, lets_append H lo hi a b]
    split
    · split <;> rfl
    · rfl
theorem lets_len (H : Hp) (lo hi : Int) : ∀ (a : List En), (letsOf H lo hi a).length ≤ a.length
  | [] => Nat.le_refl _
  | e :: a => by
    have := lets_len H lo hi a
    rw [letsOf, List.length_cons]
    split
    · split
      · rw [List.length_cons]; omega
      · omega
    · omega
theorem merge_snoc (l : List (Key × V)) (x : Key × V) : mergeK [] (l ++ [x]) = putK (mergeK [] l) x.1 x.2 := by
  unfold mergeK
  rw [List.foldl_append]
  rfl
theorem merge_len (l : List (Key × V)) : (mergeK [] l).length ≤ l.length := by
  have := length_mergeK l []
  simpa using this
/-- before the entry at i there is no other up to its place -/
theorem lets_cut {H : Hp} {lo hi : Int} {es : List En} (ha : (es.map (·.1)).Pairwise (· < ·)) {i : Nat} {e : En} (he : es[i]? = some e) (hhi : e.1 < hi) : letsOf H lo e.1 es = letsOf H lo hi (es.take i) := by
  have a1 : ∀ l : List En, (∀ x, x ∈ l → ¬ x.1 < e.1) → letsOf H lo e.1 l = [] := fun l => by
    induction l with
    | nil => intro _; rfl
    | cons x l ih =>
      intro h
      rw [letsOf, if_neg (fun z => h x List.mem_cons_self z.2)]
      exact ih fun y hy => h y (List.mem_cons_of_mem _ hy)
  have a2 : ∀ l : List En, (∀ x, x ∈ l → x.1 < e.1) → letsOf H lo e.1 l = letsOf H lo hi l := fun l => by
    induction l with
    | nil => intro _; rfl
    | cons x l ih =>
      intro h
      have h1 := h x List.mem_cons_self
      rw [letsOf, letsOf, ih fun y hy => h y (List.mem_cons_of_mem _ hy)]
      by_cases c : lo ≤ x.1
      · rw [if_pos ⟨c, h1⟩, if_pos ⟨c, by omega⟩]
      · rw [if_neg (fun z => c z.1), if_neg (fun z => c z.1)]
  have hs : es = es.take i ++ es.drop i := (List.take_append_drop i es).symm
  have hd := drop_at he
  have ha' : ((es.take i).map (·.1) ++ (es.drop i).map (·.1)).Pairwise (· < ·) := by rw [← List.map_append, List.take_append_drop]; exact ha
  obtain ⟨_, p2, p3⟩ := List.pairwise_append.mp ha'
  rw [hd, List.map_cons] at p2 p3
  rw [show letsOf H lo e.1 es = letsOf H lo e.1 (es.take i ++ es.drop i) by rw [List.take_append_drop], lets_append, a2 (es.take i) fun x hx => ?_, a1 (es.drop i) fun x hx => ?_, List.append_nil]
  · rw [hd] at hx
    rcases List.mem_cons.mp hx with rfl | hx
    · omega
    · have := (List.pairwise_cons.mp p2).1 x.1 (List.mem_map_of_mem hx)
      omega
  · exact p3 x.1 (List.mem_map_of_mem hx) e.1 List.mem_cons_self
end L18

namespace L18
open PySem PySem.Spec PyProof.Rows L2 GR
/-- the numbers of a log that is being made; a: the next place -/
structure Nu (ms : List Int) (es : List En) (a : Int) : Prop where
  asc : (es.map (·.1)).Pairwise (· < ·)
  lt : ∀ e, e ∈ es → 0 ≤ e.1 ∧ e.1 < a
  mono : ms.Pairwise (· ≤ ·)
  le : ∀ m, m ∈ ms → 0 ≤ m ∧ m ≤ a
  m0 : ms.head? = some 0
  a0 : 0 ≤ a
theorem Nu.more {ms : List Int} {es : List En} {a b : Int} (h : Nu ms es a) (k : a ≤ b) : Nu ms es b :=
  ⟨h.asc, fun e he => by have := h.lt e he; omega, h.mono, fun m hm => by have := h.le m hm; omega, h.m0, by have := h.a0; omega⟩
theorem Nu.line {ms : List Int} {es : List En} {a : Int} (h : Nu ms es a) (v : V) (x : PyData) : Nu ms (es ++ [(a, v, x)]) (a + 1) := by
  refine ⟨?_, fun e he => ?_, h.mono, fun m hm => by have := h.le m hm; omega, h.m0, by have := h.a0; omega⟩
  · rw [List.map_append, List.pairwise_append]
    refine ⟨h.asc, List.pairwise_singleton _ _, fun x hx y hy => ?_⟩
    obtain ⟨e, he, rfl⟩ := List.mem_map.mp hx
    rw [List.mem_singleton.mp hy]
    exact (h.lt e he).2
  · rcases List.mem_append.mp he with he | he
    · have := h.lt e he
      omega
    · rw [List.mem_singleton.mp he]
      have := h.a0
      exact ⟨this, by show a < a + 1; omega⟩
theorem Nu.mark {ms : List Int} {es : List En} {a : Int} (h : Nu ms es a) : Nu (ms ++ [a]) es a := by
  refine ⟨h.asc, h.lt, ?_, fun m hm => ?_, ?_, h.a0⟩
  · rw [List.pairwise_append]
    refine ⟨h.mono, List.pairwise_singleton _ _, fun x hx y hy => ?_⟩
    rw [List.mem_singleton.mp hy]
    exact (h.le x hx).2
  · rcases List.mem_append.mp hm with hm | hm
    · exact h.le m hm
    · rw [List.mem_singleton.mp hm]
      exact ⟨h.a0, Int.le_refl _⟩
  · rw [List.head?_append, h.m0]
    rfl
theorem head_mem {l : List Int} {a : Int} (h : l.head? = some a) : a ∈ l := by
  cases l with
  | nil => cases h
  | cons b l => cases h; exact List.mem_cons_self
theorem Nu.ok {ms : List Int} {es : List En} {a : Int} (h : Nu ms es a) (h1 : a ≤ 10000) (h2 : ms.length ≤ 6) (h3 : es.length ≤ 30) : OkL ms es :=
  ⟨h.asc, h.mono, fun e he => by have := h.lt e he; omega, fun m hm => by have := h.le m hm; omega, head_mem h.m0, h2, h3⟩
/-- the last mark becomes 10000 -/
theorem Nu.last {ms : List Int} {es : List En} {a : Int} (h : Nu ms es a) (h1 : a ≤ 10000) (h2 : ms.length ≤ 6) (h3 : es.length ≤ 30) (h4 : 1 < ms.length) : OkL (ms.set (ms.length - 1) 10000) es := by
  obtain ⟨fr, b, rfl⟩ : ∃ fr b, ms = fr ++ [b] := ⟨ms.dropLast, ms.getLast (fun z => by rw [z] at h4; cases h4), (List.dropLast_concat_getLast _).symm⟩
  have e : (fr ++ [b]).set ((fr ++ [b]).length - 1) 10000 = fr ++ [10000] := by
    rw [List.length_append, List.length_singleton, Nat.add_sub_cancel, List.set_append_right _ _ (Nat.le_refl _), Nat.sub_self]
    rfl
  rw [e]
  have hm := (List.pairwise_append.mp h.mono).1
  refine ⟨h.asc, ?_, fun e he => by have := h.lt e he; omega, fun m hm => ?_, ?_, by rw [List.length_append] at h2 ⊢; exact h2, h3⟩
  · rw [List.pairwise_append]
    refine ⟨hm, List.pairwise_singleton _ _, fun x hx y hy => ?_⟩
    rw [List.mem_singleton.mp hy]
    have := h.le x (List.mem_append_left _ hx)
    omega
  · rcases List.mem_append.mp hm with hm | hm
    · have := h.le m (List.mem_append_left _ hm)
      omega
    · rw [List.mem_singleton.mp hm]
      omega
  · cases fr with
    | nil => simp at h4
    | cons f fr =>
      have := h.m0
      cases this
      exact List.mem_cons_self
/-- two lists are being made beside a deck -/
structure He (K : PySem.W.Frag) (d c : Addr) (H0 : Hp) (mb lb : Addr) (ms : List Int) (es : List En) (H : Hp) : Prop where
  hm : H mb = some (.lst (ms.map V.int))
  hl : ∃ rs : List Addr, H lb = some (.lst (rs.map V.ref)) ∧ EnsOk K H rs es
  old : ∀ b ob, b ≠ d → b ≠ c → b ≠ mb → b ≠ lb → H0 b = some ob → H b = some ob
theorem He.keep {K : PySem.W.Frag} {d c : Addr} {H0 H H' : Hp} {mb lb : Addr} {ms : List Int} {es : List En} (t : He K d c H0 mb lb ms es H) (k : Keep d c H H') (kt : KeepT H H') (m : mb ≠ d ∧ mb ≠ c) (l : lb ≠ d ∧ lb ≠ c) : He K d c H0 mb lb ms es H' := by
  obtain ⟨rs, h1, h2⟩ := t.hl
  exact ⟨k _ _ m.1 m.2 t.hm, ⟨rs, k _ _ l.1 l.2 h1, ens_keep kt h2⟩, fun b ob n1 n2 n3 n4 e => k _ _ n1 n2 (t.old b ob n1 n2 n3 n4 e)⟩
theorem He.line {K : PySem.W.Frag} {d c : Addr} {H0 H : Hp} {mb lb r : Addr} {ms : List Int} {es : List En} {e : En} (t : He K d c H0 mb lb ms es H) (hml : mb ≠ lb) (hr : EnOk K H r e) : ∃ rs : List Addr, H lb = some (.lst (rs.map V.ref)) ∧ rs.length = es.length ∧ He K d c H0 mb lb ms (es ++ [e]) (upd H lb (.lst (rs.map V.ref ++ [.ref r]))) := by
  obtain ⟨rs, h1, h2⟩ := t.hl
  have kt : KeepT H (upd H lb (.lst (rs.map V.ref ++ [.ref r]))) := KeepT.lst h1
  refine ⟨rs, h1, ens_len h2, by rw [upd_ne hml]; exact t.hm, ⟨rs ++ [r], by rw [List.map_append]; exact upd_same, ens_append (ens_keep kt h2) (.cons (hr.keep kt) .nil)⟩, fun b ob n1 n2 n3 n4 e => ?_⟩
  rw [upd_ne n4]
  exact t.old b ob n1 n2 n3 n4 e
theorem He.marks {K : PySem.W.Frag} {d c : Addr} {H0 H : Hp} {mb lb : Addr} {ms ms' : List Int} {es : List En} (t : He K d c H0 mb lb ms es H) (hml : mb ≠ lb) : He K d c H0 mb lb ms' es (upd H mb (.lst (ms'.map V.int))) := by
  obtain ⟨rs, h1, h2⟩ := t.hl
  have kt : KeepT H (upd H mb (.lst (ms'.map V.int))) := KeepT.lst t.hm
  refine ⟨upd_same, ⟨rs, by rw [upd_ne hml.symm]; exact h1, ens_keep kt h2⟩, fun b ob n1 n2 n3 n4 e => ?_⟩
  rw [upd_ne n3]
  exact t.old b ob n1 n2 n3 n4 e
end L18

namespace L18
open PySem PySem.Spec PyProof.Rows L2 GR
section
variable {P : Program} {w : World} {K : PySem.W.Frag} {mg : Str → Option Value} {base : Heap}
abbrev s_law_spread : Stmt := topS 20
abbrev N_sp : List Str := ["_law_deck_here", "_law_some", "_law_marks", "_law_lines", "_law_at", "_law_transaction_here", "_law_statement_here"]
theorem sc_law_spread : FnScope N_sp ["_law_deck_here", "_law_some"] (defScope s_law_spread) := ⟨rfl, rfl, rfl, by decide +kernel, rfl, by decide +kernel, by decide +kernel⟩
def sp_spread (K : PySem.W.Frag) : Sp := fun vs H Q _ => ∃ (d c so : Addr) (N : Int) (T : List (Addr × List St1)), vs = [.ref d, .ref so] ∧ Deck H d c N ∧ N < 2 ^ 59 ∧ Sm K H so T ∧ so ≠ d ∧ so ≠ c ∧
  ∀ H' p ms es, Keep d c H H' → Deck H' d c (N + 100) → LgF K H' p ms es → OkL ms es → Q (.ref p) H'
/-- the state between statements -/
structure Zu (K : PySem.W.Frag) (d c so : Addr) (N : Int) (T : List (Addr × List St1)) (H0 : Hp) (mb lb : Addr) (ms : List Int) (es : List En) (a : Int) (H : Hp) : Prop where
  he : He K d c H0 mb lb ms es H
  nu : Nu ms es a
  dk : Deck H d c N
  sm : Sm K H so T
theorem Zu.draw {K : PySem.W.Frag} {d c so : Addr} {N M : Int} {T : List (Addr × List St1)} {H0 H H' : Hp} {mb lb : Addr} {ms : List Int} {es : List En} {a : Int} (z : Zu K d c so N T H0 mb lb ms es a H) (k : Keep d c H H') (D : Deck H' d c M) (m : mb ≠ d ∧ mb ≠ c) (l : lb ≠ d ∧ lb ≠ c) (o : so ≠ d ∧ so ≠ c) : Zu K d c so M T H0 mb lb ms es a H' :=
  ⟨z.he.keep k (k.t z.dk) m l, z.nu, D, z.sm.keep (k.t z.dk) (by rw [z.sm.at']; exact k _ _ o.1 o.2 z.sm.at')⟩
theorem Zu.same {K : PySem.W.Frag} {d c so : Addr} {N : Int} {T : List (Addr × List St1)} {H0 H H' : Hp} {mb lb : Addr} {ms : List Int} {es : List En} {a : Int} (z : Zu K d c so N T H0 mb lb ms es a H) (s : Same H H') (m : mb ≠ d ∧ mb ≠ c) (l : lb ≠ d ∧ lb ≠ c) (o : so ≠ d ∧ so ≠ c) : Zu K d c so N T H0 mb lb ms es a H' := z.draw (Keep.of s) (z.dk.same s) m l o
theorem ok_spread {f f_law_draw f_law_pick : Addr} {fd fd_law_draw fd_law_pick : FuncData} {k : Nat} (F : Fun K "_law_spread" "_law_spread" s_law_spread f fd) (G_law_draw : FnOk P w K mg base CX0 k f_law_draw fd_law_draw ["_law_deck_here", "_law_most"] sp_draw)
    (g_law_draw : mg "_law_draw" = some (.ref f_law_draw)) (K_law_draw : PySem.W.keepIn K (.ref f_law_draw) = true) (b_law_draw : Binds K fd_law_draw ["_law_deck_here", "_law_most"] [])
    (G_law_pick : FnOk P w K mg base CX0 k f_law_pick fd_law_pick ["_law_deck_here", "_law_some"] (sp_pick K))
    (g_law_pick : mg "_law_pick" = some (.ref f_law_pick)) (K_law_pick : PySem.W.keepIn K (.ref f_law_pick) = true) (b_law_pick : Binds K fd_law_pick ["_law_deck_here", "_law_some"] [])
    (mlen : mg "len" = none) (mtuple : mg "tuple" = none) : FnOk P w K mg base CX0 (k + 1) f fd ["_law_deck_here", "_law_some"] (sp_spread K) := by
  have nd := sc_law_spread.nd
  refine F.ok sc_law_spread (fun vs H Q E h => ?_) (fun cdv A outer s H vs Q E hr h => ?_)
  · obtain ⟨d, c, so, N, T, rfl, _⟩ := h
    rfl
  obtain ⟨d, c, so, N, T, rfl, D, hN, S, hsd, hsc, q⟩ := h
  refine ⟨_, (pss_cons (ps_set (i := 2) nd rfl (.inl rfl) (pe_lst (pa_cons pe_int pa_nil)))
      (pss_cons (ps_set (i := 3) nd rfl (.inl rfl) (pe_lst pa_nil))
      (pss_cons (ps_set (i := 4) nd rfl (.inl rfl) pe_int)
      (pss_cons (ps_for PassesOwn.never rfl (pi_list (pv 1)) (pg_name (i := 5) nd rfl (Or.inl rfl))
      (pss_cons (ps_for PassesOwn.never rfl (pi_tup (pv 5)) (pg_name (i := 6) nd rfl (Or.inl rfl))
        (pss_cons (ps_set (i := 4) nd rfl (.inl rfl) (pe_op op_add (pv 4) (pe_call G_law_pick hr (by rfl) g_law_pick K_law_pick b_law_pick .nil pass0 (pa_cons (pv 0) (pa_cons (pe_lst (pa_cons pe_int (pa_cons pe_int (pa_cons pe_int (pa_cons pe_int pa_nil))))) pa_nil)))))
          (pss_cons (ps_expr (pe_bm PySem.F.plainAttrs_list PySem.F.slot_list_append PySem.F.type_list_append mt_append (pv 3) (pa_cons (pe_tup (pa_cons (pv 4) (pa_cons (pv 6) pa_nil))) pa_nil)))
          (pss_one (ps_set (i := 4) nd rfl (.inl rfl) (pe_op op_add (pv 4) pe_int))))))
        (pss_cons (ps_set (i := 4) nd rfl (.inl rfl) (pe_op op_add (pv 4) (pe_call G_law_pick hr (by rfl) g_law_pick K_law_pick b_law_pick .nil pass0 (pa_cons (pv 0) (pa_cons (pe_lst (pa_cons pe_int (pa_cons pe_int (pa_cons pe_int (pa_cons pe_int pa_nil))))) pa_nil)))))
        (Evl.pss_cut (ps_if (PW.pt (pw_and (pt_cmpR op_lt (pv 4) pe_int (nomark _)) (pw_and1 (pt_cmpR op_eq (pe_call G_law_draw hr (by rfl) g_law_draw K_law_draw b_law_draw .nil pass0 (pa_cons (pv 0) (pa_cons pe_int pa_nil))) pe_int (nomark _)))))
        (pss_one (ps_set (i := 4) nd rfl (.inl rfl) (pe_op op_add (pv 4) pe_int)))
        pss_nil)
        (pss_one (ps_expr (pe_bm PySem.F.plainAttrs_list PySem.F.slot_list_append PySem.F.type_list_append mt_append (pv 2) (pa_cons (pv 4) pa_nil))))))))
      (Evl.pss_cut (ps_if (PW.pt (pw_and (pt_cmpR op_gt (pe_callB call_len_seq (by rfl) mlen PySem.boot_len (pa_cons (pv 2) pa_nil)) pe_int (nomark _)) (pw_and1 (pt_cmpR op_eq (pe_call G_law_draw hr (by rfl) g_law_draw K_law_draw b_law_draw .nil pass0 (pa_cons (pv 0) (pa_cons pe_int pa_nil))) pe_int (nomark _)))))
      (pss_one (ps_asg pe_int (pg_sub (pv 2) (pe_un un_neg pe_int) set_list)))
      pss_nil)
      (pss_one (ps_ret (pe_tup (pa_cons (pe_callTy call_tuple_of (by rfl) mtuple boot_tuple (pa_cons (pv 2) pa_nil)) (pa_cons (pe_callTy SC.call_tupleF (by rfl) mtuple boot_tuple (pa_cons (pv 3) pa_nil)) pa_nil)))))))))), ?_⟩
  refine ⟨h1000 (show 1 ≤ 1000 by decide), fun mb nmb => ⟨Nat.zero_le _, fun lb nlb => ?_⟩⟩
  have s1 := same_upd (o := .lst [.int 0]) nmb
  have s2 := same_upd (o := .lst []) nlb
  have nlH : H lb = none := s1.free nlb
  have hml : mb ≠ lb := ne_of_none (show upd H mb (.lst [.int 0]) mb = some (.lst [.int 0]) from upd_same) nlb
  have hmd := D.new nmb
  have hld := D.new nlH
  have s12 := s1.trans s2
  have hsm : so ≠ mb := ne_of_none S.at' nmb
  have hsl : so ≠ lb := ne_of_none S.at' nlH
  have Z1 : Zu K d c so N T H mb lb [0] [] 0 (upd (upd H mb (.lst [.int 0])) lb (.lst [])) :=
    ⟨⟨s2 _ _ upd_same, ⟨[], upd_same, .nil⟩, fun b ob _ _ n1 n2 e => s12 _ _ e⟩, ⟨.nil, fun e he => (nomatch he), List.pairwise_singleton _ _, fun m hm => by rw [List.mem_singleton.mp hm]; exact ⟨Int.le_refl _, Int.le_refl _⟩, rfl, Int.le_refl _⟩, D.same s12, S.same s12⟩
  revert Z1
  generalize upd (upd H mb (.lst [.int 0])) lb (.lst []) = H1
  intro Z1
  -- a draw of one of four
  have pick : ∀ {H' : Hp} {ms : List Int} {es : List En} {a M n4 : Int} {Q : VK}, Zu K d c so M T H mb lb ms es a H' → M < 2 ^ 60 → 1 ≤ n4 → (∀ H'' r, 0 ≤ r → r ≤ n4 → Zu K d c so (M + 1) T H mb lb ms es a H'' → Q (.int r) H'') →
      4 ≤ sizeLine ∧ ∀ l, H' l = none → sp_pick K [.ref d, .ref l] (upd H' l (.lst [.int 0, .int 0, .int 1, .int n4])) Q E0 := fun {H' ms es a M n4 Q} Z hM p1 hQ => by
    refine ⟨h1000 (show 4 ≤ 1000 by decide), fun l nl => .inl ⟨d, c, l, M, [.int 0, .int 0, .int 1, .int n4], rfl, ?_⟩⟩
    have sl := same_upd (o := .lst [.int 0, .int 0, .int 1, .int n4]) nl
    have hl := Z.dk.new nl
    have Z' := Z.same sl hmd hld ⟨hsd, hsc⟩
    refine ⟨Z'.dk, hM, .inl (.inl upd_same), List.cons_ne_nil _ _, by show 4 ≤ 1000; decide, hl.1, hl.2, fun H'' v k D' hv => ?_⟩
    have Z'' := Z'.draw k D' hmd hld ⟨hsd, hsc⟩
    rcases List.mem_cons.mp hv with rfl | hv
    · exact hQ H'' _ (by omega) (by omega) Z''
    rcases List.mem_cons.mp hv with rfl | hv
    · exact hQ H'' _ (by omega) (by omega) Z''
    rcases List.mem_cons.mp hv with rfl | hv
    · exact hQ H'' _ (by omega) (by omega) Z''
    rw [List.mem_singleton.mp hv]
    exact hQ H'' _ (by omega) (by omega) Z''
  have hT5 := S.len
  refine ⟨.ref so, rfl, so, rfl, ⟨_, .inl (.inl Z1.sm.at')⟩, ?_⟩
  refine for_list (xs := T.map fun t => V.ref t.1) (fun i σ H' => ∃ (a : Int) (y5 y6 : Option V) (ms : List Int) (es : List En), σ = [some (.ref d), some (.ref so), some (.ref mb), some (.ref lb), some (.int a), y5, y6] ∧ Zu K d c so (N + 10 * (i : Int)) T H mb lb ms es a H' ∧ a ≤ 9000 + 21 * (i : Int) ∧ ms.length = i + 1 ∧ es.length ≤ 6 * i) ?_ ?_ ?_ ?_
  · exact ⟨0, none, none, [0], [], rfl, by rw [show N + 10 * ((0 : Nat) : Int) = N by omega]; exact Z1, by omega, rfl, Nat.zero_le _⟩
  · rintro i σ H' _ ⟨_, _, _, _, _, rfl, Z, _⟩
    exact .inl (.inl Z.sm.at')
  · rintro i x σ H2 hx ⟨a, y5, y6, ms, es, rfl, Z2, ha, hms, hes⟩
    rw [List.getElem?_map] at hx
    obtain ⟨t, ht, rfl⟩ := Option.map_eq_some_iff.mp hx
    have htm := List.mem_of_getElem? ht
    have hi : i < T.length := (List.getElem?_eq_some_iff.mp ht).1
    have ht6 := (Z2.sm.tr t htm).2.1
    refine ⟨.ref t.1, rfl, t.1, rfl, ⟨_, .inl (.inl (Z2.sm.tr t htm).1)⟩, ?_⟩
    refine for_tup (xs := t.2.map (·.1)) (fun j σ H' => ∃ (b : Int) (y6 : Option V) (es : List En), σ = [some (.ref d), some (.ref so), some (.ref mb), some (.ref lb), some (.int b), some (.ref t.1), y6] ∧ Zu K d c so (N + 10 * (i : Int) + (j : Int)) T H mb lb ms es b H' ∧ b ≤ a + 3 * (j : Int) ∧ es.length ≤ 6 * i + j) ?_ ?_ ?_ ?_
    · exact ⟨a, y6, es, rfl, by rw [show N + 10 * (i : Int) + ((0 : Nat) : Int) = N + 10 * (i : Int) by omega]; exact Z2, by omega, hes⟩
    · rintro j σ H' _ ⟨_, _, _, rfl, Z, _⟩
      exact .inl (.inl (Z.sm.tr t htm).1)
    · rintro j x σ H3 hx ⟨b, y6, es, rfl, Z3, hb, hes3⟩
      rw [List.getElem?_map] at hx
      obtain ⟨s', hs, rfl⟩ := Option.map_eq_some_iff.mp hx
      have hj : j < t.2.length := (List.getElem?_eq_some_iff.mp hs).1
      refine ⟨.int b, rfl, .ref d, rfl, pick (n4 := 2) Z3 (by omega) (by decide) fun H'' r r0 r2 Z => ?_⟩
      refine ⟨b, r, rfl, rfl, ?_⟩
      obtain ⟨rs0, hl0, he0⟩ := Z.he.hl
      refine ⟨.ref lb, rfl, .inl ⟨rfl, _, .inl (.inl hl0)⟩, .int (b + r), rfl, s'.1, rfl, h1000 (show 2 ≤ 1000 by decide), fun r' nr => ?_⟩
      have s4 := same_upd (o := .tup [.int (b + r), s'.1]) nr
      have hr4 : upd H'' r' (.tup [.int (b + r), s'.1]) r' = some (.tup [.int (b + r), s'.1]) := upd_same
      have Z4 := Z.same s4 hmd hld ⟨hsd, hsc⟩
      revert s4 hr4 Z4
      generalize upd H'' r' (.tup [.int (b + r), s'.1]) = H4
      intro s4 hr4 Z4
      have hsv := (Z4.sm.tr t htm).2.2 s' (List.mem_of_getElem? hs)
      obtain ⟨rs, hl5, hl6, h5⟩ := Z4.he.line (e := (b + r, s'.1, s'.2)) hml ⟨hr4, hsv⟩
      refine ⟨lb, _, .ref r', rfl, rfl, hl5, small1000 (by rw [List.length_map, hl6]; omega), ?_⟩
      have nu5 := (Z4.nu.more (b := b + r) (by omega)).line s'.1 s'.2
      have D5 := Z4.dk.upd (o := .lst (rs.map V.ref ++ [.ref r'])) hld.1 hld.2
      have S5 := Z4.sm.upd (zs := rs.map V.ref ++ [.ref r']) hl5 hsl
      refine ⟨.int (b + r), rfl, b + r, 1, rfl, rfl, b + r + 1, some s'.1, _, rfl, ⟨h5, nu5, ?_, S5⟩, by omega, ?_⟩
      · exact D5.mono (by omega)
      · rw [List.length_append, List.length_singleton]; omega
    · rintro σ H3 ⟨b, y6, es, rfl, Z3, hb, hes3⟩
      rw [List.length_map] at Z3 hb hes3
      refine ⟨.int b, rfl, .ref d, rfl, pick (n4 := 3) Z3 (by omega) (by decide) fun H'' r r0 r2 Z => ?_⟩
      refine ⟨b, r, rfl, rfl, ?_⟩
      refine ⟨fun σ' H' => ∃ a' : Int, σ' = [some (.ref d), some (.ref so), some (.ref mb), some (.ref lb), some (.int a'), some (.ref t.1), y6] ∧ Zu K d c so (N + 10 * (i : Int) + 9) T H mb lb ms es a' H' ∧ a' ≤ 9000 + 21 * ((i + 1 : Nat) : Int), ?_, ?_⟩
      · have Zm : ∀ {a' H'}, Zu K d c so (N + 10 * (i : Int) + 9) T H mb lb ms es a' H' → Zu K d c so (N + 10 * (i : Int) + 9) T H mb lb ms es a' H' := fun z => z
        refine ⟨.int (b + r), rfl, b + r, 5000, rfl, rfl, _, rfl, ?_⟩
        by_cases c1 : b + r < 5000
        · rw [decide_eq_true c1]
          refine iteT ⟨.ref d, rfl, d, c, _, 8, rfl, Z.dk, by omega, by decide, by decide, fun H4 j k4 D4 j0 j8 => ⟨rfl, _, rfl, ?_⟩⟩
          have Z4 := Z.draw k4 D4 hmd hld ⟨hsd, hsc⟩
          rw [dec_int]
          cases (j == 5) with
          | true => exact iteT ⟨.int (b + r), rfl, b + r, 4000, rfl, rfl, b + r + 4000, rfl, ⟨Z4.he, Z4.nu.more (by omega), Z4.dk.mono (by omega), Z4.sm⟩, by omega⟩
          | false => exact iteF ⟨b + r, rfl, ⟨Z4.he, Z4.nu.more (by omega), Z4.dk.mono (by omega), Z4.sm⟩, by omega⟩
        · rw [decide_eq_false c1]
          exact iteF ⟨b + r, rfl, ⟨Z.he, Z.nu.more (by omega), Z.dk.mono (by omega), Z.sm⟩, by omega⟩
      · rintro σ' H4 ⟨a', rfl, Z4, ha'⟩
        refine ⟨.ref mb, rfl, .inl ⟨rfl, _, .inl (.inl Z4.he.hm)⟩, .int a', rfl, mb, _, .int a', rfl, rfl, Z4.he.hm, small1000 (by rw [List.length_map]; omega), ?_⟩
        have hm5 := Z4.he.marks (ms' := ms ++ [a']) hml
        rw [List.map_append] at hm5
        refine ⟨a', some (.ref t.1), y6, ms ++ [a'], es, rfl, ⟨hm5, Z4.nu.mark, (Z4.dk.upd hmd.1 hmd.2).mono (by omega), Z4.sm.upd Z4.he.hm hsm⟩, ha', by rw [List.length_append, hms]; rfl, by omega⟩
  · rintro σ H2 ⟨a, y5, y6, ms, es, rfl, Z2, ha, hms, hes⟩
    rw [List.length_map] at Z2 ha hms hes
    refine ⟨fun σ' H' => ∃ ms' : List Int, σ' = [some (.ref d), some (.ref so), some (.ref mb), some (.ref lb), some (.int a), y5, y6] ∧ He K d c H mb lb ms' es H' ∧ Deck H' d c (N + 99) ∧ OkL ms' es, ?_, ?_⟩
    · refine ⟨.ref mb, rfl, mb, _, rfl, .inl (.inl (.inl Z2.he.hm)), _, 1, rfl, rfl, _, rfl, ?_⟩
      rw [List.length_map, hms]
      by_cases c1 : (1 : Int) < ((T.length + 1 : Nat) : Int)
      · rw [decide_eq_true c1]
        refine iteT ⟨.ref d, rfl, d, c, _, 8, rfl, Z2.dk, by omega, by decide, by decide, fun H4 j k4 D4 j0 j8 => ⟨rfl, _, rfl, ?_⟩⟩
        have Z4 := Z2.draw k4 D4 hmd hld ⟨hsd, hsc⟩
        rw [dec_int]
        cases (j == 5) with
        | true =>
          refine iteT ⟨.ref mb, rfl, 1, rfl, mb, _, -1, T.length, rfl, rfl, Z4.he.hm, ?_, ?_⟩
          · rw [List.length_map, hms]
            unfold ixN
            rw [if_neg (by decide), if_pos (by omega)]
            congr 1
            omega
          · have e1 : (ms.map V.int).set T.length (.int 10000) = (ms.set T.length 10000).map V.int := (List.map_set).symm
            rw [e1]
            have hl' := Z4.nu.last (by omega) (by omega) (by omega) (by omega)
            rw [hms, Nat.add_sub_cancel] at hl'
            exact ⟨_, rfl, Z4.he.marks hml, (Z4.dk.upd hmd.1 hmd.2).mono (by omega), hl'⟩
        | false => exact iteF ⟨ms, rfl, Z4.he, Z4.dk.mono (by omega), Z4.nu.ok (by omega) (by omega) (by omega)⟩
      · rw [decide_eq_false c1]
        exact iteF ⟨ms, rfl, Z2.he, Z2.dk.mono (by omega), Z2.nu.ok (by omega) (by omega) (by omega)⟩
    · rintro σ' H3 ⟨ms', rfl, h3, D3, ok⟩
      obtain ⟨rs, hl0, he0⟩ := h3.hl
      refine ⟨.ref mb, rfl, mb, _, rfl, .inl ⟨.inl (.inl h3.hm), fun mp nmp => ?_⟩⟩
      have s3 := same_upd (o := .tup (ms'.map V.int)) nmp
      refine ⟨.ref lb, rfl, lb, _, rfl, .inl (.inl (s3 _ _ hl0)), fun ep o ho nep => ⟨h1000 (show 2 ≤ 1000 by decide), fun p np => ?_⟩⟩
      have s4 := same_upd (o := .frz o (.tup (rs.map V.ref))) nep
      have s5 := same_upd (o := .tup [.ref mp, .ref ep]) np
      have s345 := (s3.trans s4).trans s5
      refine q _ p ms' es (fun b ob n1 n2 e => s345 _ _ (h3.old b ob n1 n2 (ne_of_none e nmb) (ne_of_none e nlH) e)) ((D3.same s345).mono (by omega)) ⟨mp, ep, rs, upd_same, (s4.trans s5) _ _ upd_same, ⟨o, s5 _ _ upd_same, ho⟩, ens_keep (KeepT.of s345) he0⟩ ok
end
end L18

/-! Data of all kinds, dicts too, in the abstract heap; ok tells which addresses its lists and dicts may have. -/
namespace AD
open PySem PySem.Spec PyProof.Rows L2 GR
def keyD : Key → PyData
  | .inl i => .int i
  | .inr x => .str x
mutual
inductive Dd (K : PySem.W.Frag) (ok : Addr → Prop) (H : Hp) : V → PyData → Prop
  | non : Dd K ok H .non .none
  | bl (b : Bool) : Dd K ok H (.bl b) (.bool b)
  | int (i : Int) : Dd K ok H (.int i) (.int i)
  | str (x : Str) : Dd K ok H (.str x) (.str x)
  | lst {a : Addr} {xs : List V} {ds : List PyData} : H a = some (.lst xs) → ok a → DdAll K ok H xs ds → Dd K ok H (.ref a) (.list ds)
  | tup {a : Addr} {xs : List V} {ds : List PyData} : SqT K H a xs → DdAll K ok H xs ds → Dd K ok H (.ref a) (.tuple ds)
  | dk {a : Addr} {kvs : List (Key × V)} {ds : List PyData} : H a = some (.dK kvs) → ok a → DdAll K ok H (kvs.map (·.2)) ds → Dd K ok H (.ref a) (.dict ((kvs.map fun p => keyD p.1).zip ds))
inductive DdAll (K : PySem.W.Frag) (ok : Addr → Prop) (H : Hp) : List V → List PyData → Prop
  | nil : DdAll K ok H [] []
  | cons {v : V} {vs : List V} {d : PyData} {ds : List PyData} : Dd K ok H v d → DdAll K ok H vs ds → DdAll K ok H (v :: vs) (d :: ds)
end
/-- tuples stay, and what lies where ok allows it -/
structure KeepO (ok : Addr → Prop) (H H' : Hp) : Prop where
  tup : ∀ b xs, H b = some (.tup xs) → H' b = some (.tup xs)
  frz : ∀ b o xs, H b = some (.frz o (.tup xs)) → H' b = some (.frz o (.tup xs))
  oth : ∀ b o, ok b → H b = some o → H' b = some o
theorem KeepO.of {ok : Addr → Prop} {H H' : Hp} (s : Same H H') : KeepO ok H H' := ⟨fun b _ e => s b _ e, fun b _ _ e => s b _ e, fun b _ _ e => s b _ e⟩
theorem KeepO.trans {ok : Addr → Prop} {H H1 H2 : Hp} (a : KeepO ok H H1) (b : KeepO ok H1 H2) : KeepO ok H H2 := ⟨fun x _ e => b.tup x _ (a.tup x _ e), fun x _ _ e => b.frz x _ _ (a.frz x _ _ e), fun x o h e => b.oth x o h (a.oth x o h e)⟩
theorem KeepO.seqt {ok : Addr → Prop} {K : PySem.W.Frag} {H H' : Hp} (s : KeepO ok H H') {a : Addr} {xs : List V} (h : SqT K H a xs) : SqT K H' a xs := by
  rcases h with (h | ⟨o, h⟩) | h
  · exact .inl (.inl (s.tup _ _ h))
  · exact .inl (.inr ⟨o, s.frz _ _ _ h⟩)
  · exact .inr h
section
variable {K : PySem.W.Frag} {ok ok' : Addr → Prop} {H H' : Hp}
mutual
theorem Dd.keep (k : KeepO ok H H') : ∀ {v : V} {d : PyData}, Dd K ok H v d → Dd K ok H' v d
  | _, _, .non => .non
  | _, _, .bl b => .bl b
  | _, _, .int i => .int i
  | _, _, .str x => .str x
  | _, _, .lst h o q => .lst (k.oth _ _ o h) o (DdAll.keep k q)
  | _, _, .tup h q => .tup (k.seqt h) (DdAll.keep k q)
  | _, _, .dk h o q => .dk (k.oth _ _ o h) o (DdAll.keep k q)
theorem DdAll.keep (k : KeepO ok H H') : ∀ {vs : List V} {ds : List PyData}, DdAll K ok H vs ds → DdAll K ok H' vs ds
  | _, _, .nil => .nil
  | _, _, .cons h q => .cons (Dd.keep k h) (DdAll.keep k q)
end
mutual
theorem Dd.mono (k : ∀ a, ok a → ok' a) : ∀ {v : V} {d : PyData}, Dd K ok H v d → Dd K ok' H v d
  | _, _, .non => .non
  | _, _, .bl b => .bl b
  | _, _, .int i => .int i
  | _, _, .str x => .str x
  | _, _, .lst h o q => .lst h (k _ o) (DdAll.mono k q)
  | _, _, .tup h q => .tup h (DdAll.mono k q)
  | _, _, .dk h o q => .dk h (k _ o) (DdAll.mono k q)
theorem DdAll.mono (k : ∀ a, ok a → ok' a) : ∀ {vs : List V} {ds : List PyData}, DdAll K ok H vs ds → DdAll K ok' H vs ds
  | _, _, .nil => .nil
  | _, _, .cons h q => .cons (Dd.mono k h) (DdAll.mono k q)
end
theorem DdAll.len : ∀ {vs : List V} {ds : List PyData}, DdAll K ok H vs ds → vs.length = ds.length
  | _, _, .nil => rfl
  | _, _, .cons _ q => by rw [List.length_cons, List.length_cons, DdAll.len q]
end
/-- the entries of a dict, its keys read -/
theorem keys_read {P : Program} {w : World} {h : Heap} {es : List DictEntry} {vs : List (Key × Value)} (p : PySem.Pairs (mixKind P w) es vs) : ReadsAll h (es.map (·.key)) (vs.map fun q => keyD q.1) [] := by
  induction p with
  | nil => exact .nil
  | @cons e kv es kvs h1 _ _ ih =>
    rw [List.map_cons, List.map_cons]
    rcases keyIs_shape h1 with ⟨i, t, e1, e2⟩ | ⟨x, t, e1, e2⟩
    · rw [e1, e2]
      exact .cons (.int i t) ih
    · rw [e1, e2]
      exact .cons (.str x t) ih
theorem pairs_val {P : Program} {w : World} {es : List DictEntry} {vs : List (Key × Value)} (p : PySem.Pairs (mixKind P w) es vs) : es.map (·.val) = vs.map (·.2) := by
  induction p with
  | nil => rfl
  | cons _ h2 _ ih => rw [List.map_cons, List.map_cons, h2, ih]
theorem kv_keys {kvs : List (Key × V)} {vs : List (Key × Value)} (r : KV kvs vs) : vs.map (fun q => keyD q.1) = kvs.map fun q => keyD q.1 := by
  induction r with
  | nil => rfl
  | cons h _ ih => rw [List.map_cons, List.map_cons, ih, h.1]
theorem kv_vals {kvs : List (Key × V)} {vs : List (Key × Value)} (r : KV kvs vs) : Vals (kvs.map (·.2)) (vs.map (·.2)) := by
  induction r with
  | nil => exact .nil
  | cons h _ ih => exact .cons h.2 ih
section
variable {X : Cx} {pins : List (Addr × Obj)} {σ : L2.St} {H : Hp} {s : Shared} {ok : Addr → Prop}
mutual
theorem Dd.reads (I : Inv X pins σ H s) (hok : ∀ a, ok a → a ≠ sysModules) : ∀ {v : V} {d : PyData}, Dd X.K ok H v d → ∀ u, RelV v u → ∃ as, Reads s.heap u d as ∧ sysModules ∉ as
  | _, _, .non, _, r => by
    cases r
    exact ⟨_, .none, List.not_mem_nil⟩
  | _, _, .bl b, _, r => by
    cases r
    exact ⟨_, .bool b, List.not_mem_nil⟩
  | _, _, .int i, _, r => by
    obtain ⟨t, rfl⟩ := r
    exact ⟨_, .int i t, List.not_mem_nil⟩
  | _, _, .str x, _, r => by
    obtain ⟨t, rfl⟩ := r
    exact ⟨_, .str x t, List.not_mem_nil⟩
  | _, _, .lst hs o q, _, r => by
    cases r
    obtain ⟨its, rv, ⟨ob, n, ho, hc, _, hd⟩, _⟩ := I.list (.inl (.inl hs))
    obtain ⟨as, hr, hn⟩ := DdAll.reads I hok q its rv
    exact ⟨_, .list ho hc hd hr, fun z => (List.mem_cons.mp z).elim (fun e => hok _ o e.symm) hn⟩
  | _, _, .tup hs q, _, r => by
    cases r
    obtain ⟨its, rv, ⟨ob, ho, hc, n, hd⟩, _⟩ := I.tuple hs
    obtain ⟨as, hr, hn⟩ := DdAll.reads I hok q its rv
    exact ⟨_, .tuple ho hc hd hr, hn⟩
  | _, _, .dk (kvs := kvs) (ds := ds) hs o q, _, r => by
    cases r
    obtain ⟨_, hsys, vs, rk, ob, es, ep, ho, hex, hd, _, hp, _⟩ := I.hok _ _ hs
    obtain ⟨as, hr, hn⟩ := DdAll.reads I hok q _ (kv_vals rk)
    have hk := keys_read (h := s.heap) hp
    have hv := pairs_val hp
    have hl := q.len
    rw [List.length_map] at hl
    rw [kv_keys rk] at hk
    rw [← hv] at hr
    refine ⟨_, .dict (kvs := (kvs.map fun p => keyD p.1).zip ds) ho hex.1 hd (as := []) (bs := as) ?_ ?_, fun z => ?_⟩
    · rw [List.map_fst_zip (by rw [List.length_map]; omega)]
      exact hk
    · rw [List.map_snd_zip (by rw [List.length_map]; omega)]
      exact hr
    · rcases List.mem_append.mp z with z | z
      · exact hok _ o (List.mem_singleton.mp z).symm
      · exact hn z
theorem DdAll.reads (I : Inv X pins σ H s) (hok : ∀ a, ok a → a ≠ sysModules) : ∀ {vs : List V} {ds : List PyData}, DdAll X.K ok H vs ds → ∀ us, Vals vs us → ∃ as, ReadsAll s.heap us ds as ∧ sysModules ∉ as
  | _, _, .nil, _, r => by
    cases r
    exact ⟨_, .nil, List.not_mem_nil⟩
  | _, _, .cons h q, _, r => by
    cases r with
    | cons r1 r2 =>
      obtain ⟨as, q1, n1⟩ := Dd.reads I hok h _ r1
      obtain ⟨bs, q2, n2⟩ := DdAll.reads I hok q _ r2
      exact ⟨_, .cons q1 q2, fun z => (List.mem_append.mp z).elim n1 n2⟩
end
/-- what is shown fits -/
structure Shw (d : PyData) : Prop where
  shw : d.showable = true
  dep : d.depth ≤ 60
  len : d.shown.length ≤ sizeLine
/-- repr of anything -/
def rReprA (X : Cx) : List V → Hp → VK → Prop := fun xs H Q => ∃ (v : V) (d : PyData) (ok : Addr → Prop), xs = [v] ∧ (∀ a, ok a → a ≠ sysModules) ∧ Dd X.K ok H v d ∧ Shw d ∧ Q (.str d.shown) H
theorem call_reprA {k : Nat} (hg : X.A.guards = some []) (hr : Room k X.A) : CallR X (.builtin "repr") (rReprA X) := by
  intro pins s σ H xs us Q I r h
  obtain ⟨v, d, ok, rfl, hok, hd, ⟨h1, h2, h3⟩, q⟩ := h
  obtain ⟨u, rfl, rv⟩ := vals1 r
  obtain ⟨as, hR, hn⟩ := Dd.reads I hok hd u rv
  have hu := hr.units
  have big : ∀ a, u = .ref a → wpAny (model X.prog X.w) X.A (call (.builtin "repr") [.ref a]) (EP X pins σ Q) X.xe s := fun a e => by
    rw [e] at hR
    exact repr_of_reads' hR h1 (fun _ => hn) hg (by omega) (fun _ _ e => e) (fun h' u tk hk => ⟨.str d.shown, H, I.kept hk, ⟨_, rfl⟩, q⟩) h3
  cases hd with
  | non =>
    cases rv
    rw [PyData.shown_none] at q
    exact PySem.P.repr_of_none ⟨.str _, H, I.tok _, ⟨_, rfl⟩, q⟩
  | bl b =>
    cases rv
    rw [PyData.shown_bool] at q
    exact P.repr_of_bool ⟨.str _, H, I.kept fun _ _ e => e, ⟨_, rfl⟩, q⟩
  | int i =>
    obtain ⟨t, rfl⟩ := rv
    rw [PyData.shown_int] at q
    exact PySem.P.repr_of_int (by simpa [PyData.showable] using h1) ⟨.str _, H, I.tok _, ⟨_, rfl⟩, q⟩
  | str x =>
    obtain ⟨t, rfl⟩ := rv
    rw [PyData.shown_str] at q h3
    exact P.repr_of_str ⟨.str _, H, I.tok _, ⟨_, rfl⟩, q⟩ h3
  | lst _ _ _ =>
    cases rv
    exact big _ rfl
  | tup _ _ =>
    cases rv
    exact big _ rfl
  | dk _ _ _ =>
    cases rv
    exact big _ rfl
/-- str of a list, a tuple, a dict -/
def rStrA (X : Cx) : List V → Hp → VK → Prop := fun xs H Q => ∃ (a : Addr) (d : PyData) (ok : Addr → Prop), xs = [.ref a] ∧ (∀ a, ok a → a ≠ sysModules) ∧ Dd X.K ok H (.ref a) d ∧ Shw d ∧ Q (.str d.shown) H
theorem call_strA {k : Nat} (hg : X.A.guards = some []) (hr : Room k X.A) : CallR X (.type "str") (rStrA X) := by
  intro pins s σ H xs us Q I r h
  obtain ⟨a, d, ok, rfl, hok, hd, ⟨h1, h2, h3⟩, q⟩ := h
  obtain ⟨u, rfl, rv⟩ := vals1 r
  obtain rfl : u = Value.ref a := rv
  obtain ⟨as, hR, hn⟩ := Dd.reads I hok hd _ rfl
  have hu := hr.units
  exact str_of_reads hR h1 (fun _ => hn) hg (by omega) (fun _ _ e => e) (fun h' u tk hk => ⟨.str d.shown, H, I.kept hk, ⟨_, rfl⟩, q⟩) h3
/-- the class's name -/
def tyN : PyData → String
  | .none => "NoneType"
  | .bool _ => "bool"
  | .int _ => "int"
  | .str _ => "str"
  | .list _ => "list"
  | .tuple _ => "tuple"
  | .dict _ => "dict"
theorem Dd.ty {K : PySem.W.Frag} {v : V} {d : PyData} (h : Dd K ok H v d) : TyX K H v (.type (tyN d)) := by
  cases h with
  | non => exact .base .non
  | bl b => exact .base (.bl b)
  | int i => exact .base (.int i)
  | str x => exact .base (.str x)
  | lst h _ _ => exact .base (.lst h)
  | tup h _ =>
    rcases h with (h | ⟨o, h⟩) | ⟨o, its, n, h1, h2, _⟩
    · exact .base (.tup h)
    · exact .fTuple h
    · exact .kTuple h1 h2
  | dk h _ _ => exact .base (.dK h)
/-- == of anything but dicts -/
def rEqA (X : Cx) : R2 := fun x y H Q => ∃ (d e : PyData) (ok : Addr → Prop), (∀ a, ok a → a ≠ sysModules) ∧ Dd X.K ok H x d ∧ Dd X.K ok H y e ∧ SeqAt.shaped d = true ∧ SeqAt.shaped e = true ∧ Q (.bl (PyData.eqv d e)) H
theorem op_eqA (hu : X.A.units + 64 < cLine) : OpR X (compareOp .Eq) (rEqA X) := by
  intro pins s σ H x y v u Q I rx ry h
  obtain ⟨d, e, ok, hok, hd, he, sd, se, q⟩ := h
  obtain ⟨as, r1, _⟩ := Dd.reads I hok hd v rx
  obtain ⟨bs, r2, _⟩ := Dd.reads I hok he u ry
  exact SeqAt.compareEq_shaped r1 r2 sd se hu ⟨.bl _, H, I, rfl, q⟩
/-- in, not in, of anything but dicts, in a tuple of such -/
def rInA (X : Cx) (neg : Bool) : R2 := fun x y H Q => ∃ (d : PyData) (ds : List PyData) (ok : Addr → Prop), (∀ a, ok a → a ≠ sysModules) ∧ Dd X.K ok H x d ∧ Dd X.K ok H y (.tuple ds) ∧ SeqAt.shaped d = true ∧ SeqAt.shaped (.tuple ds) = true ∧ Q (.bl (if neg then !ds.any (fun z => PyData.eqv z d) else ds.any fun z => PyData.eqv z d)) H
theorem op_inA (hu : X.A.units + 65 < cLine) : OpR X (compareOp .In) (rInA X false) := by
  intro pins s σ H x y v u Q I rx ry h
  obtain ⟨d, ds, ok, hok, hd, he, sd, se, q⟩ := h
  obtain ⟨as, r1, _⟩ := Dd.reads I hok hd v rx
  obtain ⟨bs, r2, _⟩ := Dd.reads I hok he u ry
  exact SeqAt.in_tuple_reads r2 r1 (SeqAt.canLay_of_shaped se) (SeqAt.canLay_of_shaped sd) (room_in_shaped sd hu) ⟨.bl _, H, I, rfl, q⟩
theorem op_notInA (hu : X.A.units + 65 < cLine) : OpR X (compareOp .NotIn) (rInA X true) := by
  intro pins s σ H x y v u Q I rx ry h
  obtain ⟨d, ds, ok, hok, hd, he, sd, se, q⟩ := h
  obtain ⟨as, r1, _⟩ := Dd.reads I hok hd v rx
  obtain ⟨bs, r2, _⟩ := Dd.reads I hok he u ry
  exact SeqAt.notIn_tuple_reads r2 r1 (SeqAt.canLay_of_shaped se) (SeqAt.canLay_of_shaped sd) (room_in_shaped sd hu) ⟨.bl _, H, I, rfl, q⟩
/-- [e, ..]: a new list, not where the modules are -/
def tLstS (t : TA) : TE := fun σ H Q => t σ H fun xs H1 => xs.length ≤ sizeLine ∧ ∀ p, H1 p = none → p ≠ sysModules → Q (.ref p) (upd H1 p (.lst xs))
theorem pe_lstS {es : List Expr} {pos : Pos} {t : TA} (h : PA X es t) : PE X (.List es pos) (tLstS t) := by
  constructor
  intro pins s σ H Q I hq
  refine wpAny_List_spliced (thn (h.run pos pins s σ H _ I hq) ?_)
  rintro us s1 ⟨xs, H1, I1, r, z, q⟩
  refine ⟨by rw [← r.length]; exact z, ?_⟩
  have new := I1.hok.fresh (Nat.le_refl s1.heap.objs.size)
  have far : s1.heap.objs.size ≠ sysModules := (Nat.ne_of_lt I1.big).symm
  refine ⟨.ref s1.heap.objs.size, _, I1.laid (t' := s1.toks) (o := .lst xs) (fun b u e => Heap.get?_push_of_some _ e) (Nat.le_refl _) ⟨z, us, 0, r, Heap.get?_push_size _ rfl⟩, rfl, q _ new far⟩
/-- a dict does not lie where the modules are -/
def tSys (t : TE) : TE := fun σ H Q => t σ H fun v H' => (∀ a kvs, H' a = some (.dK kvs) → a ≠ sysModules) → Q v H'
theorem pe_sys {e : Expr} {t : TE} (h : PE X e t) : PE X e (tSys t) := by
  constructor
  intro pins s σ H Q I hq
  refine thn (h.run pins s σ H _ I hq) ?_
  rintro u s1 ⟨v, H1, I1, r, q⟩
  exact ⟨v, H1, I1, r, q fun a kvs e => fun z => by
    have := (I1.hok a _ e).2.1
    rw [z] at this
    exact absurd this (by decide)⟩
end
end AD

namespace L18
open PySem PySem.Spec PyProof.Rows L2 GR AD
def isI : PyData → Bool
  | .int _ => true
  | _ => false
def isS : PyData → Bool
  | .str _ => true
  | _ => false
def isTu : PyData → Bool
  | .tuple _ => true
  | _ => false
def isIB : PyData → Bool
  | .int _ => true
  | .bool _ => true
  | _ => false
def isB : PyData → Bool
  | .bool _ => true
  | _ => false
theorem kit_i (K : PySem.W.Frag) : ∀ d : PyData, PySem.W.kitOne K (.type (tyN d)) (.type "int") = some (isIB d)
  | .none => kit_ty (show kitB "NoneType" "int" = some false by decide +kernel)
  | .bool _ => kit_ty (show kitB "bool" "int" = some true by decide +kernel)
  | .int _ => kit_ty (show kitB "int" "int" = some true by decide +kernel)
  | .str _ => kit_ty (show kitB "str" "int" = some false by decide +kernel)
  | .list _ => kit_ty (show kitB "list" "int" = some false by decide +kernel)
  | .tuple _ => kit_ty (show kitB "tuple" "int" = some false by decide +kernel)
  | .dict _ => kit_ty (show kitB "dict" "int" = some false by decide +kernel)
theorem kit_b (K : PySem.W.Frag) : ∀ d : PyData, PySem.W.kitOne K (.type (tyN d)) (.type "bool") = some (isB d)
  | .none => kit_ty (show kitB "NoneType" "bool" = some false by decide +kernel)
  | .bool _ => kit_ty (show kitB "bool" "bool" = some true by decide +kernel)
  | .int _ => kit_ty (show kitB "int" "bool" = some false by decide +kernel)
  | .str _ => kit_ty (show kitB "str" "bool" = some false by decide +kernel)
  | .list _ => kit_ty (show kitB "list" "bool" = some false by decide +kernel)
  | .tuple _ => kit_ty (show kitB "tuple" "bool" = some false by decide +kernel)
  | .dict _ => kit_ty (show kitB "dict" "bool" = some false by decide +kernel)
theorem kit_s (K : PySem.W.Frag) : ∀ d : PyData, PySem.W.kitOne K (.type (tyN d)) (.type "str") = some (isS d)
  | .none => kit_ty (show kitB "NoneType" "str" = some false by decide +kernel)
  | .bool _ => kit_ty (show kitB "bool" "str" = some false by decide +kernel)
  | .int _ => kit_ty (show kitB "int" "str" = some false by decide +kernel)
  | .str _ => kit_ty (show kitB "str" "str" = some true by decide +kernel)
  | .list _ => kit_ty (show kitB "list" "str" = some false by decide +kernel)
  | .tuple _ => kit_ty (show kitB "tuple" "str" = some false by decide +kernel)
  | .dict _ => kit_ty (show kitB "dict" "str" = some false by decide +kernel)
theorem kit_t (K : PySem.W.Frag) : ∀ d : PyData, PySem.W.kitOne K (.type (tyN d)) (.type "tuple") = some (isTu d)
  | .none => kit_ty (show kitB "NoneType" "tuple" = some false by decide +kernel)
  | .bool _ => kit_ty (show kitB "bool" "tuple" = some false by decide +kernel)
  | .int _ => kit_ty (show kitB "int" "tuple" = some false by decide +kernel)
  | .str _ => kit_ty (show kitB "str" "tuple" = some false by decide +kernel)
  | .list _ => kit_ty (show kitB "list" "tuple" = some false by decide +kernel)
  | .tuple _ => kit_ty (show kitB "tuple" "tuple" = some true by decide +kernel)
  | .dict _ => kit_ty (show kitB "dict" "tuple" = some false by decide +kernel)
/-- a test whose answer is told -/
theorem iteB {c : Bool} {A B : Prop} (h1 : c = true → A) (h2 : c = false → B) : if c = true then A else B := by
  cases c with
  | true => exact iteT (h1 rfl)
  | false => exact iteF (h2 rfl)
theorem Dd.tup_inv {K : PySem.W.Frag} {ok : Addr → Prop} {H : Hp} {v : V} {ds : List PyData} (h : Dd K ok H v (.tuple ds)) : ∃ a xs, v = .ref a ∧ SqT K H a xs ∧ DdAll K ok H xs ds := by
  cases h with
  | tup h1 h2 => exact ⟨_, _, rfl, h1, h2⟩
section
variable {P : Program} {w : World} {K : PySem.W.Frag} {mg : Str → Option Value} {base : Heap}
/-- a def of one thing that tells a truth of it -/
def sp_is (K : PySem.W.Frag) (f : PyData → Bool) : Sp := fun vs H Q _ => ∃ (v : V) (d : PyData) (ok : Addr → Prop), vs = [v] ∧ Dd K ok H v d ∧ Q (.bl (f d)) H
abbrev s_is_integer : Stmt := topS 2
theorem sc_is_integer : FnScope ["thing"] ["thing"] (defScope s_is_integer) := ⟨rfl, rfl, rfl, by decide +kernel, rfl, by decide +kernel, by decide +kernel⟩
theorem ok_is_integer {f : Addr} {fd : FuncData} {k : Nat} (F : Fun K "is_integer" "is_integer" s_is_integer f fd) (misi : mg "isinstance" = none) (mint : mg "int" = none) (mbool : mg "bool" = none) : FnOk P w K mg base CX0 (k + 1) f fd ["thing"] (sp_is K isI) := by
  have nd := sc_is_integer.nd
  refine F.ok sc_is_integer (fun vs H Q E h => ?_) (fun cdv A outer s H vs Q E hr h => ?_)
  · obtain ⟨v, d, ok, rfl, _⟩ := h
    rfl
  obtain ⟨v, d, ok, rfl, hd, q⟩ := h
  refine ⟨_, (pss_one (ps_ret (pe_and (pe_callB call_isi (by rfl) misi boot_isinstance (pa_cons (pv 0) (pa_cons (pe_bltn (v := .ty "int") (by rfl) mint boot_int rfl) pa_nil))) (pe_one (pe_not (pe_callB call_isi (by rfl) misi boot_isinstance (pa_cons (pv 0) (pa_cons (pe_bltn (v := .ty "bool") (by rfl) mbool boot_bool rfl) pa_nil)))))))), ?_⟩
  refine ⟨v, rfl, v, .ty "int", _, _, _, rfl, .ty "int", hd.ty, kit_i K d, _, rfl, ?_⟩
  cases d with
  | int i => exact iteT ⟨v, rfl, v, .ty "bool", _, _, _, rfl, .ty "bool", hd.ty, kit_b K _, _, rfl, q⟩
  | bool b => exact iteT ⟨v, rfl, v, .ty "bool", _, _, _, rfl, .ty "bool", hd.ty, kit_b K _, _, rfl, q⟩
  | _ => exact iteF q
abbrev s_law_is_whole : Stmt := topS 21
theorem sc_law_is_whole : FnScope ["_law_thing"] ["_law_thing"] (defScope s_law_is_whole) := ⟨rfl, rfl, rfl, by decide +kernel, rfl, by decide +kernel, by decide +kernel⟩
theorem ok_is_whole {f : Addr} {fd : FuncData} {k : Nat} (F : Fun K "_law_is_whole" "_law_is_whole" s_law_is_whole f fd) (misi : mg "isinstance" = none) (mint : mg "int" = none) (mbool : mg "bool" = none) : FnOk P w K mg base CX0 (k + 1) f fd ["_law_thing"] (sp_is K isI) := by
  have nd := sc_law_is_whole.nd
  refine F.ok sc_law_is_whole (fun vs H Q E h => ?_) (fun cdv A outer s H vs Q E hr h => ?_)
  · obtain ⟨v, d, ok, rfl, _⟩ := h
    rfl
  obtain ⟨v, d, ok, rfl, hd, q⟩ := h
  refine ⟨_, (pss_one (ps_ret (pe_and (pe_callB call_isi (by rfl) misi boot_isinstance (pa_cons (pv 0) (pa_cons (pe_bltn (v := .ty "int") (by rfl) mint boot_int rfl) pa_nil))) (pe_one (pe_not (pe_callB call_isi (by rfl) misi boot_isinstance (pa_cons (pv 0) (pa_cons (pe_bltn (v := .ty "bool") (by rfl) mbool boot_bool rfl) pa_nil)))))))), ?_⟩
  refine ⟨v, rfl, v, .ty "int", _, _, _, rfl, .ty "int", hd.ty, kit_i K d, _, rfl, ?_⟩
  cases d with
  | int i => exact iteT ⟨v, rfl, v, .ty "bool", _, _, _, rfl, .ty "bool", hd.ty, kit_b K _, _, rfl, q⟩
  | bool b => exact iteT ⟨v, rfl, v, .ty "bool", _, _, _, rfl, .ty "bool", hd.ty, kit_b K _, _, rfl, q⟩
  | _ => exact iteF q
/-- a value of the language -/
def isV : PyData → Bool
  | .int i => decide (-LIM ≤ i) && decide (i ≤ LIM)
  | _ => false
abbrev s_is_value : Stmt := topS 3
theorem sc_is_value : FnScope ["thing"] ["thing"] (defScope s_is_value) := ⟨rfl, rfl, rfl, by decide +kernel, rfl, by decide +kernel, by decide +kernel⟩
theorem ok_is_value {f fi : Addr} {fd di : FuncData} {k : Nat} {tl : Tok} (F : Fun K "is_value" "is_value" s_is_value f fd) (G : FnOk P w K mg base CX0 k fi di ["thing"] (sp_is K isI)) (g : mg "is_integer" = some (.ref fi)) (Kf : PySem.W.keepIn K (.ref fi) = true) (b : Binds K di ["thing"] []) (mLIMIT : mg "LIMIT" = some (.int LIM tl)) :
    FnOk P w K mg base CX0 (k + 1) f fd ["thing"] (sp_is K isV) := by
  have nd := sc_is_value.nd
  refine F.ok sc_is_value (fun vs H Q E h => ?_) (fun cdv A outer s H vs Q E hr h => ?_)
  · obtain ⟨v, d, ok, rfl, _⟩ := h
    rfl
  obtain ⟨v, d, ok, rfl, hd, q⟩ := h
  refine ⟨_, (pss_one (ps_ret (pe_and (pe_call G hr (by rfl) g Kf b .nil pass0 (pa_cons (pv 0) pa_nil)) (pe_one (pe_chain op_le op_le (pe_un un_neg (pe_glob (v := .int LIM) rfl mLIMIT ⟨_, rfl⟩)) (pv 0) (pe_glob (v := .int LIM) rfl mLIMIT ⟨_, rfl⟩)))))), ?_⟩
  refine ⟨v, rfl, v, d, ok, rfl, hd, _, rfl, ?_⟩
  cases hd with
  | int i =>
    replace q : Q (.bl (decide (-LIM ≤ i) && decide (i ≤ LIM))) H := q
    refine iteT ⟨LIM, rfl, .int i, rfl, -LIM, i, rfl, rfl, _, rfl, ?_⟩
    cases c : decide (-LIM ≤ i) with
    | true =>
      refine iteT ⟨i, LIM, rfl, rfl, ?_⟩
      rw [c, Bool.true_and] at q
      exact q
    | false =>
      rw [c, Bool.false_and] at q
      exact iteF q
  | _ => exact iteF q
/-- the form that is looked at first -/
def formS : PyData → Bool
  | .tuple [.int _, .str _] => true
  | .tuple [.int _, .str _, _] => true
  | _ => false
abbrev s_has_slot_form : Stmt := topS 9
theorem sc_has_slot_form : FnScope ["thing"] ["thing"] (defScope s_has_slot_form) := ⟨rfl, rfl, rfl, by decide +kernel, rfl, by decide +kernel, by decide +kernel⟩
def sp_isS (K : PySem.W.Frag) (f : PyData → Bool) : Sp := fun vs H Q _ => ∃ (v : V) (d : PyData) (ok : Addr → Prop), vs = [v] ∧ Dd K ok H v d ∧ ∀ H', Same H H' → Q (.bl (f d)) H'
theorem in23 (n : Nat) : inV (.int (n : Int)) [.int 2, .int 3] = decide (n = 2 ∨ n = 3) := by
  unfold inV
  rw [List.any_cons, List.any_cons, List.any_nil, Bool.or_false, Bool.eq_iff_iff, Bool.or_eq_true, decide_eq_true_eq]
  show ((2 : Int) == (n : Int)) = true ∨ ((3 : Int) == (n : Int)) = true ↔ _
  rw [beq_iff_eq, beq_iff_eq]
  omega
theorem ok_has_slot_form {f fi : Addr} {fd di : FuncData} {k : Nat} (F : Fun K "has_slot_form" "has_slot_form" s_has_slot_form f fd) (G : FnOk P w K mg base CX0 k fi di ["thing"] (sp_is K isI)) (g : mg "is_integer" = some (.ref fi)) (Kf : PySem.W.keepIn K (.ref fi) = true) (b : Binds K di ["thing"] [])
    (misi : mg "isinstance" = none) (mtuple : mg "tuple" = none) (mstr : mg "str" = none) (mlen : mg "len" = none) : FnOk P w K mg base CX0 (k + 1) f fd ["thing"] (sp_isS K formS) := by
  have nd := sc_has_slot_form.nd
  refine F.ok sc_has_slot_form (fun vs H Q E h => ?_) (fun cdv A outer s H vs Q E hr h => ?_)
  · obtain ⟨v, d, ok, rfl, _⟩ := h
    rfl
  obtain ⟨v, d, ok, rfl, hd, q⟩ := h
  refine ⟨_, (pss_cons (ps_if (PW.pt (pw_or (pt_not (pt_val (pe_callB call_isi (by rfl) misi boot_isinstance (pa_cons (pv 0) (pa_cons (pe_bltn (v := .ty "tuple") (by rfl) mtuple boot_tuple rfl) pa_nil))))) (pw_or1 (pt_cmpR op_notIn_seq (pe_callB call_len_seq (by rfl) mlen PySem.boot_len (pa_cons (pv 0) pa_nil)) (pe_tup (pa_cons pe_int (pa_cons pe_int pa_nil))) (by rfl)))))
      (pss_one (ps_ret pe_bl))
      pss_nil)
      (pss_one (ps_ret (pe_and (pe_call G hr (by rfl) g Kf b .nil pass0 (pa_cons (pe_ix ix_tup (pv 0) pe_int (fun _ _ => rfl)) pa_nil)) (pe_one (pe_callB call_isi (by rfl) misi boot_isinstance (pa_cons (pe_ix ix_tup (pv 0) pe_int (fun _ _ => rfl)) (pa_cons (pe_bltn (v := .ty "str") (by rfl) mstr boot_str rfl) pa_nil)))))))), ?_⟩
  refine ⟨v, rfl, v, .ty "tuple", _, _, _, rfl, .ty "tuple", hd.ty, kit_t K d, _, rfl, ?_⟩
  cases hd with
  | tup hs ha =>
    rename_i a xs ds
    refine iteF ⟨.ref a, rfl, a, xs, rfl, .inr hs, le2, fun t nt => ?_⟩
    have st := same_upd (o := .tup [.int 2, .int 3]) nt
    refine ⟨t, _, rfl, .inr (.inl (.inl upd_same)), rfl, rfl, _, rfl, ?_⟩
    rw [if_pos rfl, in23, ha.len]
    have ha1 := ha.keep (KeepO.of st)
    have hs1 := (KeepO.of (ok := ok) st).seqt hs
    have q1 : ∀ H', Same (upd H t (.tup [.int 2, .int 3])) H' → Q (.bl (formS (.tuple ds))) H' := fun H' s => q H' (st.trans s)
    revert ha1 hs1 q1
    generalize upd H t (.tup [.int 2, .int 3]) = H1
    intro ha1 hs1 q1
    have q2 := q1 H1 (fun _ _ e => e)
    cases ha1 with
    | nil => exact iteT q2
    | cons h1 r1 =>
      rename_i v1 vs1 d1 ds1
      cases r1 with
      | nil =>
        refine iteT ?_
        have : formS (.tuple [d1]) = false := by cases d1 <;> rfl
        rw [this] at q2
        exact q2
      | cons h2 r2 =>
        rename_i v2 vs2 d2 ds2
        by_cases c : ds2.length ≤ 1
        · have cl : ((d1 :: d2 :: ds2).length = 2 ∨ (d1 :: d2 :: ds2).length = 3) := by
            rw [List.length_cons, List.length_cons]
            omega
          rw [decide_eq_true cl]
          refine iteF ⟨.ref a, rfl, a, _, 0, v1, rfl, rfl, hs1, at0, v1, d1, ok, rfl, h1, _, rfl, ?_⟩
          cases e1 : isI d1 with
          | false =>
            have : formS (.tuple (d1 :: d2 :: ds2)) = false := by
              cases d1 <;> first | rfl | cases e1
            rw [this] at q2
            exact iteF q2
          | true =>
            refine iteT ⟨.ref a, rfl, a, _, 1, v2, rfl, rfl, hs1, at1, v2, .ty "str", _, _, _, rfl, .ty "str", h2.ty, kit_s K d2, ?_⟩
            have : formS (.tuple (d1 :: d2 :: ds2)) = isS d2 := by
              cases d1 <;> first | cases e1 | skip
              cases ds2 with
              | nil => cases d2 <;> rfl
              | cons d3 r =>
                cases r with
                | nil => cases d2 <;> rfl
                | cons d4 r => exact absurd c (by simp)
            rw [this] at q2
            exact q2
        · have cl : ¬ ((d1 :: d2 :: ds2).length = 2 ∨ (d1 :: d2 :: ds2).length = 3) := by
            rw [List.length_cons, List.length_cons]
            omega
          rw [decide_eq_false cl]
          refine iteT ?_
          have : formS (.tuple (d1 :: d2 :: ds2)) = false := by
            cases ds2 with
            | nil => exact absurd (by simp) c
            | cons d3 r =>
              cases r with
              | nil => exact absurd (by simp) c
              | cons d4 r => cases d1 <;> cases d2 <;> rfl
          rw [this] at q2
          exact q2
  | _ => exact iteT (q H (fun _ _ e => e))
end
end L18

namespace L18
open PySem PySem.Spec PyProof.Rows L2 GR AD
theorem wanted_in (f : Str) (W : List Str) : inV (.str f) (W.map V.str) = decide (f ∈ W) := by
  unfold inV
  rw [List.any_map, Bool.eq_iff_iff, List.any_eq_true, decide_eq_true_eq]
  constructor
  · rintro ⟨z, hz, e⟩
    have e2 : (z == f) = true := e
    exact (beq_iff_eq.mp e2) ▸ hz
  · intro h
    exact ⟨f, h, by show (f == f) = true; exact beq_self_eq_true f⟩
theorem flat_strs (W : List Str) : (W.map V.str).all flatV = true := by
  rw [List.all_map, List.all_eq_true]
  intro z _
  rfl
/-- the words of the statements, and of their slots -/
def sw : List Str := ["let", "need", "put", "each", "tell"]
def allw (w : Str) : List Str := if w = "put" then ["key", "value"] else if w = "each" then ["guard", "value"] else [w]
theorem SF.sw {w : Str} {v1 : V} {vs : List V} (h : SF w v1 vs) : w ∈ sw := by
  rcases h with ⟨rfl, _⟩ | ⟨rfl | rfl, _⟩ | ⟨rfl | rfl, _⟩ <;> decide
/-- the word of a statement -/
def wdV (H : Hp) (v : V) : Option Str := match v with
  | .ref p => (match H p with
    | some (.tup (.str w :: _)) => some w
    | _ => none)
  | _ => none
theorem wdV_at {H : Hp} {p : Addr} {w : Str} {vs : List V} (h : H p = some (.tup (.str w :: vs))) : wdV H (.ref p) = some w := by
  show (match H p with | some (.tup (.str w :: _)) => some w | _ => none) = _
  rw [h]
/-- whether what stands behind the position is that of a slot of such a statement -/
def slotR (w : Option Str) (r : List PyData) : Bool := match w with
  | none => false
  | some w => match r with
    | [.str z] => decide (w ≠ "each") && decide (z ∈ allw w)
    | [.str z, k] => decide (w = "each") && decide (z ∈ allw w) && isV k
    | _ => false
/-- the written table at fA -/
def SlK (K : PySem.W.Frag) (w : World) (fA : Addr) : Prop := ∀ wd, wd ∈ sw → ∃ p, KDct K w fA wd (.ref p) ∧ ∀ H, SqT K H p ((allw wd).map V.str)
section
variable {P : Program} {w : World} {K : PySem.W.Frag} {mg : Str → Option Value} {base : Heap}
abbrev s_is_slot_of : Stmt := topS 10
theorem sc_is_slot_of : FnScope ["statement", "thing"] ["statement", "thing"] (defScope s_is_slot_of) := ⟨rfl, rfl, rfl, by decide +kernel, rfl, by decide +kernel, by decide +kernel⟩
def sp_iso (K : PySem.W.Frag) : Sp := fun vs H Q _ => ∃ (sv : V) (tp : Addr) (ok : Addr → Prop) (n : Int) (z : Str) (xs : List V) (ds : List PyData), vs = [sv, .ref tp] ∧ (sv = .non ∨ ∃ x, SV K H sv x) ∧ SqT K H tp (.int n :: .str z :: xs) ∧ DdAll K ok H xs ds ∧ ds.length ≤ 1 ∧
  Q (.bl (slotR (wdV H sv) (.str z :: ds))) H
theorem ok_is_slot_of {f fA fi : Addr} {fd di : FuncData} {k : Nat} (F : Fun K "is_slot_of" "is_slot_of" s_is_slot_of f fd) (mSLOTS : mg "SLOTS" = some (.ref fA)) (T : SlK K w fA) (G : FnOk P w K mg base CX0 k fi di ["thing"] (sp_is K isV)) (g : mg "is_value" = some (.ref fi)) (Kf : PySem.W.keepIn K (.ref fi) = true) (b : Binds K di ["thing"] [])
    (mlen : mg "len" = none) : FnOk P w K mg base CX0 (k + 1) f fd ["statement", "thing"] (sp_iso K) := by
  have nd := sc_is_slot_of.nd
  refine F.ok sc_is_slot_of (fun vs H Q E h => ?_) (fun cdv A outer s H vs Q E hr h => ?_)
  · obtain ⟨sv, tp, ok, n, z, xs, ds, rfl, _⟩ := h
    rfl
  obtain ⟨sv, tp, ok, n, z, xs, ds, rfl, hsv, hs, ha, hl, q⟩ := h
  refine ⟨_, (pss_cons (ps_if (PW.pt (pw_or (pt_cmpR op_isN (pv 0) pe_non (nomark _)) (pw_or1 (pt_cmpR op_notIn_seq (pe_ix ix_tup (pv 1) pe_int (fun _ _ => rfl)) (pe_ix ix_kdict (pe_glob rfl mSLOTS (v := .ref fA) rfl) (pe_ix ix_tup (pv 0) pe_int (fun _ _ => rfl)) (fun _ _ => rfl)) (by rfl)))))
      (pss_one (ps_ret pe_bl))
      pss_nil)
      (pss_cons (ps_if (pt_cmpR op_eq (pe_ix ix_tup (pv 0) pe_int (fun _ _ => rfl)) pe_str (nomark _))
      (pss_one (ps_ret (pe_and (pe_cmpR op_eq (pe_callB call_len_seq (by rfl) mlen PySem.boot_len (pa_cons (pv 1) pa_nil)) pe_int (nomark _)) (pe_one (pe_call G hr (by rfl) g Kf b .nil pass0 (pa_cons (pe_ix ix_tup (pv 1) pe_int (fun _ _ => rfl)) pa_nil))))))
      pss_nil)
      (pss_one (ps_ret (pe_cmpR op_eq (pe_callB call_len_seq (by rfl) mlen PySem.boot_len (pa_cons (pv 1) pa_nil)) pe_int (nomark _)))))), ?_⟩
  refine ⟨sv, rfl, rfl, _, rfl, ?_⟩
  rcases hsv with rfl | ⟨x, p, wd, v1, vs', rfl, hp, hf, hdp, _⟩
  · rw [decide_eq_true rfl]
    exact iteT q
  rw [decide_eq_false (fun z => nomatch z)]
  rw [wdV_at hp] at q
  obtain ⟨sp, hK, hS⟩ := T wd hf.sw
  have hlen := ha.len
  refine iteF ⟨.ref tp, rfl, tp, _, 1, .str z, rfl, rfl, hs, at1, .ref p, rfl, p, _, 0, .str wd, rfl, rfl, .inl (.inl hp), at0, fA, wd, .ref sp, rfl, rfl, hK, sp, _, rfl, .inr (hS H), rfl, flat_strs _, _, rfl, ?_⟩
  rw [if_pos rfl, wanted_in]
  cases cz : decide (z ∈ allw wd) with
  | false =>
    refine iteT ?_
    have : slotR (some wd) (.str z :: ds) = false := by
      cases ds with
      | nil => show (decide (wd ≠ "each") && decide (z ∈ allw wd)) = false; rw [cz, Bool.and_false]
      | cons d r => cases r with
        | nil => show (decide (wd = "each") && decide (z ∈ allw wd) && isV d) = false; rw [cz, Bool.and_false, Bool.false_and]
        | cons _ _ => rfl
    rw [this] at q
    exact q
  | true =>
    refine iteF ⟨.ref p, rfl, p, _, 0, .str wd, rfl, rfl, .inl (.inl hp), at0, rfl, _, rfl, ?_⟩
    by_cases ce : wd = "each"
    · subst ce
      rw [decide_eq_true rfl]
      refine iteT ⟨.ref tp, rfl, tp, _, rfl, .inr hs, rfl, _, rfl, ?_⟩
      cases ha with
      | nil =>
        exact iteF q
      | cons h1 r1 =>
        cases r1 with
        | nil =>
          rename_i v1' d1
          refine iteT ⟨.ref tp, rfl, tp, _, 2, v1', rfl, rfl, hs, at2, v1', d1, ok, rfl, h1, ?_⟩
          have : slotR (some "each") [.str z, d1] = isV d1 := by
            show (decide (("each" : Str) = "each") && decide (z ∈ allw "each") && isV d1) = _
            rw [cz, decide_eq_true rfl, Bool.and_self, Bool.true_and]
          rw [this] at q
          exact q
        | cons _ _ => exact absurd hl (by simp)
    · rw [decide_eq_false (fun e => ce (by injection e))]
      refine iteF ⟨.ref tp, rfl, tp, _, rfl, .inr hs, rfl, ?_⟩
      cases ha with
      | nil =>
        have : slotR (some wd) [.str z] = true := by
          show (decide (wd ≠ "each") && decide (z ∈ allw wd)) = true
          rw [cz, decide_eq_true ce, Bool.and_self]
        rw [this] at q
        exact q
      | cons h1 r1 =>
        cases r1 with
        | nil =>
          rename_i v1' d1
          have : slotR (some wd) [.str z, d1] = false := by
            show (decide (wd = "each") && decide (z ∈ allw wd) && isV d1) = _
            rw [decide_eq_false ce, Bool.false_and, Bool.false_and]
          rw [this] at q
          exact q
        | cons _ _ => exact absurd hl (by simp)
theorem ens_sat {H : Hp} : ∀ {rs : List Addr} {es : List En}, EnsOk K H rs es → ∀ n, stAt es n = .non ∨ ∃ x, SV K H (stAt es n) x
  | _, _, .nil, n => .inl rfl
  | _, _, .cons (b := e) h t, n => by
    rw [stAt]
    split
    · exact .inr ⟨_, h.2⟩
    · exact ens_sat t n
/-- whether d is a slot of the log with these entries -/
def slotB (H : Hp) (es : List En) : PyData → Bool
  | .tuple (.int n :: r) => slotR (wdV H (stAt es n)) r
  | _ => false
theorem wdV_keep {H H' : Hp} {v : V} (h : v = .non ∨ ∃ x, SV K H v x) (k : KeepT H H') : wdV H' v = wdV H v := by
  rcases h with rfl | ⟨x, p, wd, v1, vs', rfl, hp, _⟩
  · rfl
  · rw [wdV_at hp, wdV_at (k.1 _ _ hp)]
theorem slotB_keep {H H' : Hp} {rs : List Addr} {es : List En} (h : EnsOk K H rs es) (k : KeepT H H') (d : PyData) : slotB H' es d = slotB H es d := by
  unfold slotB
  split
  · rw [wdV_keep (ens_sat h _) k]
  · rfl
abbrev s_is_slot : Stmt := topS 8
theorem sc_is_slot : FnScope ["log", "thing"] ["log", "thing"] (defScope s_is_slot) := ⟨rfl, rfl, rfl, by decide +kernel, rfl, by decide +kernel, by decide +kernel⟩
def sp_islot (K : PySem.W.Frag) : Sp := fun vs H Q _ => ∃ (p : Addr) (v : V) (d : PyData) (ok : Addr → Prop) (ms : List Int) (es : List En), vs = [.ref p, v] ∧ Lg K H p ms es ∧ Dd K ok H v d ∧ ∀ H', Same H H' → Q (.bl (slotB H es d)) H'
theorem form_inv : ∀ {d : PyData}, formS d = true → ∃ n z ds, d = .tuple (.int n :: .str z :: ds) ∧ ds.length ≤ 1
  | .tuple [.int n, .str z], _ => ⟨n, z, [], rfl, by decide⟩
  | .tuple [.int n, .str z, k], _ => ⟨n, z, [k], rfl, by simp⟩
theorem form_no (H : Hp) (es : List En) : ∀ {d : PyData}, formS d = false → slotB H es d = false := fun {d} h => by
  cases d with
  | tuple ds =>
    cases ds with
    | nil => rfl
    | cons d1 r =>
      cases d1 with
      | int n =>
        show slotR (wdV H (stAt es n)) r = false
        cases hw : wdV H (stAt es n) with
        | none => rfl
        | some wd =>
          cases r with
          | nil => rfl
          | cons d2 r2 =>
            cases d2 with
            | str z =>
              cases r2 with
              | nil => exact absurd h (by simp [formS])
              | cons d3 r3 =>
                cases r3 with
                | nil => exact absurd h (by simp [formS])
                | cons _ _ => rfl
            | _ => rfl
      | _ => rfl
  | _ => rfl
theorem ok_is_slot {f fh fo fs : Addr} {fd dh d_o ds : FuncData} {k : Nat} (F : Fun K "is_slot" "is_slot" s_is_slot f fd)
    (Gh : FnOk P w K mg base CX0 k fh dh ["thing"] (sp_isS K formS)) (gh : mg "has_slot_form" = some (.ref fh)) (Kh : PySem.W.keepIn K (.ref fh) = true) (bh : Binds K dh ["thing"] [])
    (Go : FnOk P w K mg base CX0 k fo d_o ["statement", "thing"] (sp_iso K)) (go : mg "is_slot_of" = some (.ref fo)) (Ko : PySem.W.keepIn K (.ref fo) = true) (bo : Binds K d_o ["statement", "thing"] [])
    (Gs : FnOk P w K mg base CX0 k fs ds ["log", "position"] (sp_sat K)) (gs : mg "statement_at" = some (.ref fs)) (Ks : PySem.W.keepIn K (.ref fs) = true) (bs : Binds K ds ["log", "position"] []) : FnOk P w K mg base CX0 (k + 1) f fd ["log", "thing"] (sp_islot K) := by
  have nd := sc_is_slot.nd
  refine F.ok sc_is_slot (fun vs H Q E h => ?_) (fun cdv A outer s H vs Q E hr h => ?_)
  · obtain ⟨p, v, d, ok, ms, es, rfl, _⟩ := h
    rfl
  obtain ⟨p, v, d, ok, ms, es, rfl, L, hd, q⟩ := h
  refine ⟨_, (pss_one (ps_ret (pe_and (pe_call Gh hr (by rfl) gh Kh bh .nil pass0 (pa_cons (pv 1) pa_nil)) (pe_one (pe_call Go hr (by rfl) go Ko bo .nil pass0 (pa_cons (pe_call Gs hr (by rfl) gs Ks bs .nil pass0 (pa_cons (pv 0) (pa_cons (pe_ix ix_tup (pv 1) pe_int (fun _ _ => rfl)) pa_nil))) (pa_cons (pv 1) pa_nil))))))), ?_⟩
  refine ⟨v, rfl, v, d, ok, rfl, hd, fun H1 s1 => ⟨_, rfl, ?_⟩⟩
  cases hf : formS d with
  | false =>
    have := q H1 s1
    rw [form_no H es hf] at this
    exact iteF this
  | true =>
    obtain ⟨n, z, ds', rfl, hl⟩ := form_inv hf
    obtain ⟨a, xs, rfl, hs, ha⟩ := L18.Dd.tup_inv (hd.keep (KeepO.of s1))
    cases ha with
    | cons h1 r1 =>
    cases r1 with
    | cons h2 r2 =>
    cases h1
    cases h2
    have L1 := L.keep (KeepT.of s1)
    obtain ⟨mp, ep, rs, e1, e2, e3, e4⟩ := id L1
    obtain ⟨_, _, rs0, _, _, _, e5⟩ := id L
    refine iteT ⟨.ref p, rfl, .ref a, rfl, a, _, 0, .int n, rfl, rfl, hs, at0, p, n, ms, es, rfl, L1, .ref a, rfl, stAt es n, a, ok, n, z, _, _, rfl, ens_sat e4 n, hs, r2, hl, ?_⟩
    have := q H1 s1
    rw [← slotB_keep e5 (KeepT.of s1)] at this
    exact this
end
end L18

namespace L18
open PySem PySem.Spec PyProof.Rows L2 GR AD
/-- the dict of the places -/
def plK (es : List En) : List (Key × V) := es.map fun e => (.inl e.1, e.2.1)
theorem putK_new {acc : List (Key × V)} {k : Key} {v : V} (h : ∀ q, q ∈ acc → q.1 ≠ k) : putK acc k v = acc ++ [(k, v)] := by
  unfold putK
  rw [if_neg]
  intro z
  obtain ⟨q, hq, e⟩ := List.any_eq_true.mp z
  exact h q hq (of_decide_eq_true e)
theorem merge_new : ∀ (more acc : List (Key × V)), (∀ p, p ∈ more → ∀ q, q ∈ acc → q.1 ≠ p.1) → (more.map (·.1)).Nodup → mergeK acc more = acc ++ more
  | [], acc, _, _ => (List.append_nil _).symm
  | p :: more, acc, h, hn => by
    rw [List.map_cons, List.nodup_cons] at hn
    show mergeK (putK acc p.1 p.2) more = _
    rw [putK_new (h p List.mem_cons_self), merge_new more (acc ++ [(p.1, p.2)]) (fun x hx q hq => ?_) hn.2, List.append_assoc]
    · rfl
    · rcases List.mem_append.mp hq with hq | hq
      · exact h x (List.mem_cons_of_mem _ hx) q hq
      · rw [List.mem_singleton.mp hq]
        intro z
        exact hn.1 (List.mem_map.mpr ⟨x, hx, z.symm⟩)
theorem plK_merge {es : List En} (ha : (es.map (·.1)).Pairwise (· < ·)) : mergeK [] (plK es) = plK es := by
  have : (plK es).map (·.1) = (es.map (·.1)).map Sum.inl := by
    unfold plK
    rw [List.map_map, List.map_map]
    rfl
  have hn : ((plK es).map (·.1)).Nodup := by
    rw [this]
    refine List.pairwise_map.mpr (ha.imp fun {a b} h z => ?_)
    injection z with z
    omega
  exact merge_new (plK es) [] (fun p _ q hq => absurd hq (by simp)) hn
theorem plK_val : ∀ (es : List En) (n : Int), (valV (plK es) (.inl n)).getD .non = stAt es n
  | [], n => rfl
  | e :: es, n => by
    have ih := plK_val es n
    show (valV ((.inl e.1, e.2.1) :: plK es) (.inl n)).getD .non = _
    rw [stAt]
    by_cases c : e.1 = n
    · rw [if_pos c, valV_pos (by show (Sum.inl e.1 : Key) = _; rw [c])]
      rfl
    · rw [if_neg c, valV_neg (fun z => c (by injection z)), ih]
theorem ens_pairs {K : PySem.W.Frag} {H : Hp} : ∀ {rs : List Addr} {es : List En}, EnsOk K H rs es → Paired (fun p kv => SqT K H p [kV kv.1, kv.2]) rs (plK es)
  | _, _, .nil => .nil
  | _, _, .cons h t => .cons (.inl (.inl h.1)) (ens_pairs t)
/-- what stands at a place may be shown -/
theorem stAt_shown {K : PySem.W.Frag} {H : Hp} : ∀ {rs : List Addr} {es : List En}, EnsOk K H rs es → ∀ n, ∃ d : PyData, (stAt es n = .non ∧ d = .none) ∨ ((∃ a, stAt es n = .ref a) ∧ Dp K H (stAt es n) d ∧ Fine 8 12000 d)
  | _, _, .nil, n => ⟨_, .inl ⟨rfl, rfl⟩⟩
  | _, _, .cons (b := e) h t, n => by
    rw [stAt]
    split
    · obtain ⟨h1, h2⟩ := sv_dp h.2
      obtain ⟨p, _, _, _, e1, _⟩ := h.2
      exact ⟨e.2.2, .inr ⟨⟨p, e1⟩, h1, h2⟩⟩
    · exact stAt_shown t n
theorem plK_some {K : PySem.W.Frag} {H : Hp} : ∀ {rs : List Addr} {es : List En}, EnsOk K H rs es → ∀ {n : Int} {v : V}, valV (plK es) (.inl n) = some v → stAt es n = v ∧ ∃ x, SV K H v x
  | _, _, .nil, n, v, e => by cases e
  | _, _, .cons (b := e) h t, n, v, q => by
    have q : valV ((.inl e.1, e.2.1) :: plK _) (.inl n) = some v := q
    rw [stAt]
    by_cases c : e.1 = n
    · rw [valV_pos (by show (Sum.inl e.1 : Key) = _; rw [c])] at q
      rw [if_pos c]
      cases q
      exact ⟨rfl, _, h.2⟩
    · rw [valV_neg (fun z => c (by injection z))] at q
      rw [if_neg c]
      exact plK_some t q
def inTwo (a b : Str) : PyData → Bool
  | .str z => decide (z ∈ [a, b])
  | _ => false
theorem in_two (a b : Str) (y : PyData) : ([PyData.str a, PyData.str b].any fun z => PyData.eqv z y) = inTwo a b y := by
  cases y with
  | str z =>
    rw [List.any_cons, List.any_cons, List.any_nil, Bool.or_false, PyData.eqv, PyData.eqv]
    show _ = decide (z ∈ [a, b])
    rw [Bool.eq_iff_iff, Bool.or_eq_true, decide_eq_true_eq, beq_iff_eq, beq_iff_eq, List.mem_cons, List.mem_singleton]
    exact ⟨fun h => h.imp Eq.symm Eq.symm, fun h => h.imp Eq.symm Eq.symm⟩
  | _ => simp only [List.any_cons, List.any_nil, PyData.eqv, Bool.or_false]; rfl
theorem shaped_two {a b : Str} (ha : PyData.strOk a = true) (hb : PyData.strOk b = true) : SeqAt.shaped (.tuple [.str a, .str b]) = true := by
  unfold SeqAt.shaped
  simp only [PyData.canLay0, PyData.canLayAll0, ha, hb, PyData.depth, PyData.depthAll]
  rfl
theorem shaped_str {a : Str} (ha : PyData.strOk a = true) : SeqAt.shaped (.str a) = true := by
  unfold SeqAt.shaped
  simp only [PyData.canLay0, ha, PyData.depth]
  rfl
theorem sw_ok : ∀ w, w ∈ sw → PyData.strOk w = true := by decide +kernel
/-- what stands second may be compared -/
def Sec (d : PyData) : Prop := ∀ x y r, d = .tuple (x :: y :: r) → SeqAt.shaped y = true
/-- the law's own answer, of what stands behind the position -/
def lawR (w : Option Str) (r : List PyData) : Bool := match w with
  | none => false
  | some w => if w = "each" then (match r with
      | [y, k] => inTwo "guard" "value" y && isV k
      | _ => false)
    else match r with
      | [y] => if w = "put" then inTwo "key" "value" y else PyData.eqv y (.str w)
      | _ => false
theorem law_slot {w : Str} (hw : w ∈ sw) : ∀ r : List PyData, lawR (some w) r = slotR (some w) r := by
  intro r
  simp only [sw, List.mem_cons, List.not_mem_nil, or_false] at hw
  have two : ∀ (a b : Str) (y : PyData), inTwo a b y = match y with | .str z => decide (z ∈ [a, b]) | _ => false := fun a b y => by cases y <;> rfl
  have one : ∀ (a : Str) (y : PyData), PyData.eqv y (.str a) = match y with | .str z => decide (z ∈ [a]) | _ => false := fun a y => by
    cases y with
    | str z =>
      rw [PyData.eqv]
      show _ = decide (z ∈ [a])
      rw [Bool.eq_iff_iff, beq_iff_eq, decide_eq_true_eq, List.mem_singleton]
    | _ => rw [PyData.eqv]
  cases r with
  | nil => rcases hw with rfl | rfl | rfl | rfl | rfl <;> rfl
  | cons y r =>
    cases r with
    | nil =>
      rcases hw with rfl | rfl | rfl | rfl | rfl
      · show PyData.eqv y (.str "let") = _; rw [one]; cases y <;> rfl
      · show PyData.eqv y (.str "need") = _; rw [one]; cases y <;> rfl
      · show inTwo "key" "value" y = _; rw [two]; cases y <;> rfl
      · show false = _; cases y <;> rfl
      · show PyData.eqv y (.str "tell") = _; rw [one]; cases y <;> rfl
    | cons k r =>
      cases r with
      | nil =>
        rcases hw with rfl | rfl | rfl | rfl | rfl
        · show false = _; cases y <;> rfl
        · show false = _; cases y <;> rfl
        · show false = _; cases y <;> rfl
        · show (inTwo "guard" "value" y && isV k) = _; rw [two]; cases y <;> rfl
        · show false = _; cases y <;> rfl
      | cons k2 r => rcases hw with rfl | rfl | rfl | rfl | rfl <;> cases y <;> rfl
theorem isV_int (i : Int) : isV (.int i) = (decide (0 - (10 : Int) ^ 18 ≤ i) && decide (i ≤ (10 : Int) ^ 18)) := by
  have e : (10 : Int) ^ 18 = LIM := by decide
  have e2 : 0 - LIM = -LIM := by decide
  rw [e, e2]
  rfl
section
variable {P : Program} {w : World} {K : PySem.W.Frag} {mg : Str → Option Value} {base : Heap}
abbrev s_law_is_slot : Stmt := topS 22
abbrev N_lis : List Str := ["_law_places", "_law_thing", "_law_word"]
theorem sc_law_is_slot : FnScope N_lis ["_law_places", "_law_thing"] (defScope s_law_is_slot) := ⟨rfl, rfl, rfl, by decide +kernel, rfl, by decide +kernel, by decide +kernel⟩
def sp_lis (K : PySem.W.Frag) : Sp := fun vs H Q _ => ∃ (pd : Addr) (v : V) (d : PyData) (ok : Addr → Prop) (rs : List Addr) (es : List En), vs = [.ref pd, v] ∧ H pd = some (.dK (plK es)) ∧ EnsOk K H rs es ∧ (∀ a, ok a → a ≠ sysModules) ∧ Dd K ok H v d ∧ Sec d ∧ ∀ H', Same H H' → Q (.bl (slotB H es d)) H'
theorem noSl_sub {o i : Expr} {pos : Pos} : NoSl (.Subscript o i pos) := fun _ _ => rfl
theorem ok_law_is_slot {f fi : Addr} {fd di : FuncData} {k : Nat} (F : Fun K "_law_is_slot" "_law_is_slot" s_law_is_slot f fd) (G : FnOk P w K mg base CX0 k fi di ["_law_thing"] (sp_is K isI)) (g : mg "_law_is_whole" = some (.ref fi)) (Kf : PySem.W.keepIn K (.ref fi) = true) (b : Binds K di ["_law_thing"] [])
    (misi : mg "isinstance" = none) (mtuple : mg "tuple" = none) (mlen : mg "len" = none) : FnOk P w K mg base CX0 (k + 1) f fd ["_law_places", "_law_thing"] (sp_lis K) := by
  have nd := sc_law_is_slot.nd
  refine F.ok sc_law_is_slot (fun vs H Q E h => ?_) (fun cdv A outer s H vs Q E hr h => ?_)
  · obtain ⟨pd, v, d, ok, rs, es, rfl, _⟩ := h
    rfl
  obtain ⟨pd, v, d, ok, rs, es, rfl, hpd, hes, hok, hd, hsec, q⟩ := h
  have hu1 := hu_of hr
  have hu65 : (A.deeper (envOfC "_law_is_slot" (defScope s_law_is_slot) s.heap.objs.size f cdv)).units + 65 < cLine := by
    have := hr.un
    omega
  have hu64 : (A.deeper (envOfC "_law_is_slot" (defScope s_law_is_slot) s.heap.objs.size f cdv)).units + 64 < cLine := by omega
  refine ⟨_, (pss_cons (ps_if (PW.pt (pw_or (pt_not (pt_val (pe_callB call_isi (by rfl) misi boot_isinstance (pa_cons (pv 1) (pa_cons (pe_bltn (v := .ty "tuple") (by rfl) mtuple boot_tuple rfl) pa_nil))))) (pw_or (pt_cmpR op_lt (pe_callB call_len_seq (by rfl) mlen PySem.boot_len (pa_cons (pv 1) pa_nil)) pe_int (nomark _)) (pw_or (pt_not (pt_val (pe_call G hr (by rfl) g Kf b .nil pass0 (pa_cons (pe_ix ix_tup (pv 1) pe_int (fun _ _ => rfl)) pa_nil)))) (pw_or1 (pt_cmp (pc_dnotin hu1 (pe_ix ix_tup (pv 1) pe_int (fun _ _ => rfl)) (pv 0))))))))
      (pss_one (ps_ret pe_bl))
      pss_nil)
      (pss_cons (ps_set (i := 2) nd rfl (.inl rfl) (pe_ix ix_tup (pe_dget hu1 (pv 0) (pe_ix ix_tup (pv 1) pe_int (fun _ _ => rfl)) noSl_sub) pe_int (fun _ _ => rfl)))
      (pss_cons (ps_if (pt_cmpR op_eq (pv 2) pe_str (nomark _))
      (pss_cons (ps_if (PW.pt (pw_or (pt_cmpR op_ne (pe_callB call_len_seq (by rfl) mlen PySem.boot_len (pa_cons (pv 1) pa_nil)) pe_int (nomark _)) (pw_or (pt_cmpR (op_notInA hu65) (pe_ix ix_tup (pv 1) pe_int (fun _ _ => rfl)) (pe_tup (pa_cons pe_str (pa_cons pe_str pa_nil))) (by rfl)) (pw_or1 (pt_not (pt_val (pe_call G hr (by rfl) g Kf b .nil pass0 (pa_cons (pe_ix ix_tup (pv 1) pe_int (fun _ _ => rfl)) pa_nil))))))))
        (pss_one (ps_ret pe_bl))
        pss_nil)
        (pss_one (ps_ret (pe_chain op_le op_le (pe_op op_sub pe_int (pe_op op_pow pe_int pe_int)) (pe_ix ix_tup (pv 1) pe_int (fun _ _ => rfl)) (pe_op op_pow pe_int pe_int)))))
      pss_nil)
      (pss_cons (ps_if (pt_cmpR op_eq (pv 2) pe_str (nomark _))
      (pss_one (ps_ret (pe_and (pe_cmpR op_eq (pe_callB call_len_seq (by rfl) mlen PySem.boot_len (pa_cons (pv 1) pa_nil)) pe_int (nomark _)) (pe_one (pe_cmpR (op_inA hu65) (pe_ix ix_tup (pv 1) pe_int (fun _ _ => rfl)) (pe_tup (pa_cons pe_str (pa_cons pe_str pa_nil))) (by rfl))))))
      pss_nil)
      (pss_one (ps_ret (pe_and (pe_cmpR op_eq (pe_callB call_len_seq (by rfl) mlen PySem.boot_len (pa_cons (pv 1) pa_nil)) pe_int (nomark _)) (pe_one (pe_cmpR (op_eqA hu64) (pe_ix ix_tup (pv 1) pe_int (fun _ _ => rfl)) (pv 2) (nomark _)))))))))), ?_⟩
  have q0 := q H (fun _ _ e => e)
  refine ⟨v, rfl, v, .ty "tuple", _, _, _, rfl, .ty "tuple", hd.ty, kit_t K d, _, rfl, ?_⟩
  cases hd with
  | tup hs ha =>
    rename_i a xs ds
    refine iteF ⟨.ref a, rfl, a, xs, rfl, .inr hs, _, _, rfl, rfl, _, rfl, ?_⟩
    rw [ha.len]
    cases ha with
    | nil => exact iteT q0
    | cons h1 r1 =>
      rename_i v1 vs1 d1 ds1
      cases r1 with
      | nil =>
        refine iteT ?_
        have : slotB H es (.tuple [d1]) = false := by
          cases d1 with
          | int n => show slotR (wdV H (stAt es n)) [] = false; cases wdV H (stAt es n) <;> rfl
          | _ => rfl
        rw [this] at q0
        exact q0
      | cons h2 r2 =>
        rename_i v2 vs2 d2 ds2
        have c2 : decide ((((d1 :: d2 :: ds2).length : Nat) : Int) < 2) = false := by
          rw [List.length_cons, List.length_cons]
          exact decide_eq_false (by omega)
        rw [c2]
        refine iteF ⟨.ref a, rfl, a, _, 0, v1, rfl, rfl, hs, at0, v1, d1, ok, rfl, h1, _, rfl, ?_⟩
        cases h1 with
        | int n =>
          refine iteF ⟨.ref a, rfl, a, _, 0, .int n, rfl, rfl, hs, at0, .ref pd, rfl, pd, _, rfl, DGet.k (k := .inl n) hpd, _, rfl, ?_⟩
          have q1 : ∀ H', Same H H' → Q (.bl (slotR (wdV H (stAt es n)) (d2 :: ds2))) H' := q
          cases hv : valV (plK es) (.inl n) with
          | none =>
            have e := plK_val es n
            rw [hv] at e
            have e : V.non = stAt es n := e
            rw [← e] at q1
            exact iteT (q1 H fun _ _ e => e)
          | some sv =>
            obtain ⟨e1, x, p, wd, v1', vs', rfl, hp, hf, _, _⟩ := plK_some hes hv
            rw [e1, wdV_at hp] at q1
            have hsh := hsec _ _ _ rfl
            have hsw := hf.sw
            have q1 : ∀ H', Same H H' → Q (.bl (lawR (some wd) (d2 :: ds2))) H' := fun H' s => by
              rw [law_slot hsw]
              exact q1 H' s
            have q2 := q1 H fun _ _ e => e
            have hdg : DGet H pd (.int n) (some (.ref p)) := by
              have := DGet.k (k := .inl n) hpd
              rw [hv] at this
              exact this
            refine iteF ⟨.ref pd, rfl, .ref a, rfl, a, _, 0, .int n, rfl, rfl, hs, at0, pd, .ref p, rfl, hdg, p, _, 0, .str wd, rfl, rfl, .inl (.inl hp), at0, ?_⟩
            have hlen := r2.len
            refine ⟨.str wd, rfl, rfl, _, rfl, ?_⟩
            by_cases ce : wd = "each"
            · subst ce
              rw [decide_eq_true rfl]
              refine iteT ⟨.ref a, rfl, a, _, rfl, .inr hs, rfl, _, rfl, ?_⟩
              cases r2 with
              | nil =>
                have q' : Q (.bl false) H := q1 H fun _ _ e => e
                exact iteT q'
              | @cons v3 vs3 d3 ds3 h3 r3 =>
                cases r3 with
                | @cons v4 vs4 d4 ds4 h4 r4 =>
                  have q' : Q (.bl false) H := q1 H fun _ _ e => e
                  have cl : (!decide (V.int ((((V.int n) :: v2 :: v3 :: v4 :: vs4).length : Nat) : Int) = V.int 3)) = true := by
                    rw [dec_int]
                    have : ((((V.int n) :: v2 :: v3 :: v4 :: vs4).length : Nat) : Int) ≠ 3 := by
                      simp only [List.length_cons]
                      omega
                    simpa using this
                  rw [cl]
                  exact iteT q'
                | nil =>
                  have q' : ∀ H', Same H H' → Q (.bl (inTwo "guard" "value" d2 && isV d3)) H' := q1
                  refine iteF ⟨.ref a, rfl, a, _, 1, v2, rfl, rfl, hs, at1, le2, fun t nt => ?_⟩
                  have st := same_upd (o := .tup [.str "guard", .str "value"]) nt
                  have ht : upd H t (.tup [.str "guard", .str "value"]) t = some (.tup [.str "guard", .str "value"]) := upd_same
                  have h2' := h2.keep (KeepO.of st)
                  have h3' := h3.keep (KeepO.of st)
                  have hs' := (KeepO.of (ok := ok) st).seqt hs
                  have q2' : ∀ H', Same (upd H t (.tup [.str "guard", .str "value"])) H' → Q (.bl (inTwo "guard" "value" d2 && isV d3)) H' := fun H' s => q' H' (st.trans s)
                  revert ht h2' h3' hs' q2'
                  generalize upd H t (.tup [.str "guard", .str "value"]) = H1
                  intro ht h2' h3' hs' q2'
                  have q4 := q2' H1 fun _ _ e => e
                  refine ⟨d2, [.str "guard", .str "value"], ok, hok, h2', .tup (.inl (.inl ht)) (.cons (.str _) (.cons (.str _) .nil)), hsh, shaped_two (by decide +kernel) (by decide +kernel), _, rfl, ?_⟩
                  rw [if_pos rfl, in_two]
                  cases ci : inTwo "guard" "value" d2 with
                  | false =>
                    rw [ci, Bool.false_and] at q4
                    exact iteT q4
                  | true =>
                    rw [ci, Bool.true_and] at q4
                    refine iteF ⟨.ref a, rfl, a, _, 2, v3, rfl, rfl, hs', at2, v3, d3, ok, rfl, h3', _, rfl, ?_⟩
                    cases h3' with
                    | int i =>
                      rw [isV_int] at q4
                      refine iteF ⟨_, _, rfl, rfl, ⟨by decide, by decide⟩, 0, _, rfl, rfl, ?_⟩
                      refine ⟨.ref a, rfl, a, _, 2, .int i, rfl, rfl, hs', at2, _, i, rfl, rfl, decide (0 - (10 : Int) ^ 18 ≤ i), rfl, ?_⟩
                      cases c9 : decide (0 - (10 : Int) ^ 18 ≤ i) with
                      | false =>
                        rw [c9, Bool.false_and] at q4
                        exact iteF q4
                      | true =>
                        rw [c9, Bool.true_and] at q4
                        exact iteT ⟨10, 18, rfl, rfl, ⟨by decide, by decide⟩, i, _, rfl, rfl, q4⟩
                    | _ => exact iteT q4
            · rw [decide_eq_false (fun e => ce (by injection e))]
              refine iteF ⟨.str wd, rfl, rfl, _, rfl, ?_⟩
              have q5 : ds2 ≠ [] → Q (.bl false) H := fun hne => by
                have : lawR (some wd) (d2 :: ds2) = false := by
                  unfold lawR
                  dsimp only
                  rw [if_neg ce]
                  cases ds2 with
                  | nil => exact absurd rfl hne
                  | cons _ _ => rfl
                rw [this] at q2
                exact q2
              have q6 : ds2 = [] → ∀ H', Same H H' → Q (.bl (if wd = "put" then inTwo "key" "value" d2 else PyData.eqv d2 (.str wd))) H' := fun he H' s => by
                have := q1 H' s
                rw [he] at this
                unfold lawR at this
                dsimp only at this
                rw [if_neg ce] at this
                exact this
              have l2 : ∀ {A B : Prop}, (ds2 = [] → A) → (ds2 ≠ [] → B) → if decide (V.int ((((V.int n) :: v2 :: vs2).length : Nat) : Int) = V.int 2) = true then A else B := fun {A B} hA hB => by
                rw [dec_int]
                cases ds2 with
                | nil =>
                  have : vs2 = [] := List.eq_nil_of_length_eq_zero hlen
                  rw [this]
                  exact iteT (hA rfl)
                | cons d3 ds3 =>
                  have : ((((V.int n) :: v2 :: vs2).length : Nat) : Int) ≠ 2 := by
                    rw [List.length_cons] at hlen
                    rw [List.length_cons, List.length_cons]
                    omega
                  rw [show (((((V.int n) :: v2 :: vs2).length : Nat) : Int) == 2) = false from beq_eq_false_iff_ne.mpr this]
                  exact iteF (hB (List.cons_ne_nil _ _))
              by_cases cp : wd = "put"
              · rw [decide_eq_true (congrArg V.str cp)]
                refine iteT ⟨.ref a, rfl, a, _, rfl, .inr hs, rfl, _, rfl, l2 (fun he => ?_) q5⟩
                have q7 := q6 he
                rw [if_pos cp] at q7
                refine ⟨.ref a, rfl, a, _, 1, v2, rfl, rfl, hs, at1, le2, fun t nt => ?_⟩
                have st := same_upd (o := .tup [.str "key", .str "value"]) nt
                refine ⟨d2, [.str "key", .str "value"], ok, hok, h2.keep (KeepO.of st), .tup (.inl (.inl upd_same)) (.cons (.str _) (.cons (.str _) .nil)), hsh, shaped_two (by decide +kernel) (by decide +kernel), ?_⟩
                rw [if_neg Bool.false_ne_true, in_two]
                exact q7 _ st
              · rw [decide_eq_false (fun e => cp (by injection e))]
                refine iteF ⟨.ref a, rfl, a, _, rfl, .inr hs, rfl, _, rfl, l2 (fun he => ?_) q5⟩
                have q7 := q6 he H (fun _ _ e => e)
                rw [if_neg cp] at q7
                exact ⟨.ref a, rfl, a, _, 1, v2, rfl, rfl, hs, at1, .str wd, rfl, d2, .str wd, ok, hok, h2, .str wd, hsh, shaped_str (sw_ok wd hsw), q7⟩
        | _ => exact iteT q0
  | _ => exact iteT q0
end
end L18

namespace L18
open PySem PySem.Spec PyProof.Rows L2 GR AD
/-! ### things of a bounded depth and length -/
structure Sz (k m : Nat) (x : PyData) : Prop where
  shw : x.showable = true
  dep : x.depth ≤ k
  len : sl x + 2 ≤ m
theorem Sz.mono {k m k' m' : Nat} {x : PyData} (h : Sz k m x) (h1 : k ≤ k') (h2 : m ≤ m') : Sz k' m' x := ⟨h.shw, Nat.le_trans h.dep h1, Nat.le_trans h.len h2⟩
theorem Sz.shown {k m : Nat} {x : PyData} (h : Sz k m x) (h1 : k ≤ 60) (h2 : m ≤ 16000000) : Shw x := ⟨h.shw, Nat.le_trans h.dep h1, by
  have z3 : x.shown.length + 2 ≤ m := h.len
  have z24 : sizeLine = 16777216 := by decide
  omega⟩
inductive Szs (k : Nat) : Nat → List PyData → Prop
  | nil : Szs k 0 []
  | cons {m n : Nat} {x : PyData} {xs : List PyData} : Sz k m x → Szs k n xs → Szs k (m + n) (x :: xs)
theorem Szs.all {k n : Nat} {xs : List PyData} (h : Szs k n xs) : PyData.showableAll xs = true ∧ PyData.depthAll xs ≤ k ∧ sls xs ≤ n := by
  induction h with
  | nil => exact ⟨by simp only [PyData.showableAll], by simp only [PyData.depthAll]; omega, Nat.le_refl _⟩
  | cons h1 _ ih =>
    obtain ⟨b, c, d⟩ := ih
    refine ⟨by simp only [PyData.showableAll, h1.shw, b, Bool.and_self], ?_, ?_⟩
    · have := h1.dep
      simp only [PyData.depthAll]
      omega
    · have := h1.len
      simp only [sls]
      omega
theorem Szs.tup {k n : Nat} {xs : List PyData} (h : Szs k n xs) : Sz (k + 1) (n + 5) (.tuple xs) := by
  obtain ⟨b, c, d⟩ := h.all
  refine ⟨by simp only [PyData.showable, b], by simp only [PyData.depth]; omega, ?_⟩
  have := sl_tup xs
  omega
theorem Szs.lst {k n : Nat} {xs : List PyData} (h : Szs k n xs) : Sz (k + 1) (n + 5) (.list xs) := by
  obtain ⟨b, c, d⟩ := h.all
  refine ⟨by simp only [PyData.showable, b], by simp only [PyData.depth]; omega, ?_⟩
  have := sl_lst xs
  omega
theorem Sz.k0 {k m : Nat} {x : PyData} (h : Sz 0 m x) : Sz k m x := h.mono (Nat.zero_le _) (Nat.le_refl _)
theorem Sz.int {n : Int} (h : n.natAbs < 10 ^ 40) : Sz 0 43 (.int n) := by
  refine ⟨?_, by simp only [PyData.depth]; omega, ?_⟩
  · simp only [PyData.showable]
    refine decide_eq_true ?_
    by_cases e : n.natAbs = 0
    · rw [e]; decide
    · exact (Nat.log2_lt e).mpr (Nat.lt_of_lt_of_le h (by decide +kernel))
  · have e := int_text_length_le10 (k := 40) (by decide) h
    unfold sl
    rw [PyData.shown_int, PySem.ofString_length]
    omega
theorem Sz.str {z : Str} (h : (reprText z).length ≤ 40) : Sz 0 42 (.str z) := ⟨by simp only [PyData.showable], by simp only [PyData.depth]; omega, by unfold sl; rw [PyData.shown_str]; omega⟩
theorem Sz.bl (b : Bool) : Sz 0 42 (.bool b) := ⟨by simp only [PyData.showable], by simp only [PyData.depth]; omega, by unfold sl; rw [PyData.shown_bool]; cases b <;> decide⟩
theorem Sz.non : Sz 0 42 .none := ⟨by simp only [PyData.showable], by simp only [PyData.depth]; omega, by unfold sl; rw [PyData.shown_none]; decide⟩
theorem Sz.dict0 : Sz 1 42 (.dict []) := ⟨by simp only [PyData.showable, PyData.showableKv], by simp only [PyData.depth, PyData.depthKv]; omega, by
  have h := dictText_len_le (PyData.shownKv [])
  unfold sl
  simp only [PyData.shown]
  simp only [PyData.shownKv, List.map_nil, List.sum_nil, List.length_nil] at h ⊢
  omega⟩
theorem Sz.dict1 {i : Int} {z : Str} {m : Nat} (h1 : Sz 0 43 (.int i)) (h2 : Sz 0 42 (.str z)) : Sz 1 100 (.dict [(.int i, .str z)]) := ⟨by simp only [PyData.showable, PyData.showableKv]; have := h1.shw; simp only [PyData.showable] at this; rw [this]; rfl, by simp only [PyData.depth, PyData.depthKv]; omega, by
  have h := dictText_len_le (PyData.shownKv [(.int i, .str z)])
  have l1 := h1.len
  have l2 := h2.len
  unfold sl at l1 l2 ⊢
  simp only [PyData.shown]
  simp only [PyData.shown] at l1 l2
  simp only [PyData.shownKv, PyData.shown, List.map_cons, List.map_nil, List.sum_cons, List.sum_nil, List.length_cons, List.length_nil, strLen_append] at h ⊢
  have : (": " : Str).length = 2 := by decide
  omega⟩
/-! ### where its lists and dicts may lie -/
mutual
theorem Dd.new {K : PySem.W.Frag} {ok : Addr → Prop} {H : Hp} {p : Addr} (np : H p = none) : ∀ {v : V} {d : PyData}, Dd K ok H v d → Dd K (fun a => ok a ∧ a ≠ p) H v d
  | _, _, .non => .non
  | _, _, .bl b => .bl b
  | _, _, .int i => .int i
  | _, _, .str x => .str x
  | _, _, .lst h o q => .lst h ⟨o, ne_of_none h np⟩ (DdAll.new np q)
  | _, _, .tup h q => .tup h (DdAll.new np q)
  | _, _, .dk h o q => .dk h ⟨o, ne_of_none h np⟩ (DdAll.new np q)
theorem DdAll.new {K : PySem.W.Frag} {ok : Addr → Prop} {H : Hp} {p : Addr} (np : H p = none) : ∀ {vs : List V} {ds : List PyData}, DdAll K ok H vs ds → DdAll K (fun a => ok a ∧ a ≠ p) H vs ds
  | _, _, .nil => .nil
  | _, _, .cons h q => .cons (Dd.new np h) (DdAll.new np q)
end
def okd (d c : Addr) : Addr → Prop := fun a => a ≠ sysModules ∧ a ≠ d ∧ a ≠ c
/-- .. and they are new -/
def okn (d c : Addr) (H : Hp) : Addr → Prop := fun a => okd d c a ∧ H a = none
/-- a list is changed where nothing of the data lies -/
theorem KeepO.at' {ok : Addr → Prop} {H : Hp} {p : Addr} {ys : List V} {o : HO} (h : H p = some (.lst ys)) : KeepO (fun a => ok a ∧ a ≠ p) H (upd H p o) :=
  ⟨(KeepT.lst h).1, (KeepT.lst h).2, fun b u ho e => by rw [upd_ne ho.2]; exact e⟩
theorem Keep.o {d c : Addr} {H H' : Hp} {N : Int} {ok : Addr → Prop} (k : Keep d c H H') (D : Deck H d c N) (h : ∀ a, ok a → okd d c a) : KeepO ok H H' :=
  ⟨(Keep.t k D).1, (Keep.t k D).2, fun b u ho e => k _ _ (h _ ho).2.1 (h _ ho).2.2 e⟩
/-- something that may be shown -/
def Ge (K : PySem.W.Frag) (ok : Addr → Prop) (k m : Nat) (H : Hp) (v : V) : Prop := ∃ x, Dd K ok H v x ∧ Sz k m x
theorem Ge.keep {K : PySem.W.Frag} {ok : Addr → Prop} {k m : Nat} {H H' : Hp} {v : V} (h : Ge K ok k m H v) (s : KeepO ok H H') : Ge K ok k m H' v := let ⟨x, a, b⟩ := h; ⟨x, a.keep s, b⟩
theorem Ge.int {K : PySem.W.Frag} {ok : Addr → Prop} {k m : Nat} {H : Hp} {i : Int} (h : i.natAbs < 10 ^ 40) (hm : 43 ≤ m) : Ge K ok k m H (.int i) := ⟨_, .int i, ((Sz.int h).mono (Nat.zero_le _) hm)⟩
section
variable {P : Program} {w : World} {K : PySem.W.Frag} {mg : Str → Option Value} {base : Heap}
abbrev s_law_keys : Stmt := topS 23
abbrev N_keys : List Str := ["_law_deck_here", "_law_some"]
theorem sc_law_keys : FnScope N_keys ["_law_deck_here"] (defScope s_law_keys) := ⟨rfl, rfl, rfl, by decide +kernel, rfl, by decide +kernel, by decide +kernel⟩
def sp_keys (K : PySem.W.Frag) : Sp := fun vs H Q _ => ∃ (d c : Addr) (N : Int), vs = [.ref d] ∧ Deck H d c N ∧ N < 2 ^ 59 ∧
  ∀ H' p xs, Keep d c H H' → Deck H' d c (N + 1) → H p = none → H' p = some (.lst xs) → xs.length = 15 → (∀ v, v ∈ xs → Ge K (okn d c H) 2 60 H' v) → Q (.ref p) H'
theorem ok_keys {f f_law_draw : Addr} {fd fd_law_draw : FuncData} {k : Nat} (F : Fun K "_law_keys" "_law_keys" s_law_keys f fd) (G_law_draw : FnOk P w K mg base CX0 k f_law_draw fd_law_draw ["_law_deck_here", "_law_most"] sp_draw)
    (g_law_draw : mg "_law_draw" = some (.ref f_law_draw)) (K_law_draw : PySem.W.keepIn K (.ref f_law_draw) = true) (b_law_draw : Binds K fd_law_draw ["_law_deck_here", "_law_most"] []) : FnOk P w K mg base CX0 (k + 1) f fd ["_law_deck_here"] (sp_keys K) := by
  have nd := sc_law_keys.nd
  refine F.ok sc_law_keys (fun vs H Q E h => ?_) (fun cdv A outer s H vs Q E hr h => ?_)
  · obtain ⟨d, c, N, rfl, _⟩ := h
    rfl
  obtain ⟨d, c, N, rfl, D, hN, q⟩ := h
  refine ⟨_, (pss_cons (ps_set (i := 1) nd rfl (.inl rfl) (pe_lst (pa_cons (pe_op op_sub (pe_call G_law_draw hr (by rfl) g_law_draw K_law_draw b_law_draw .nil pass0 (pa_cons (pv 0) (pa_cons pe_int pa_nil))) pe_int) (pa_cons pe_int (pa_cons (pe_op op_pow pe_int pe_int) (pa_cons (pe_op op_sub pe_int (pe_op op_pow pe_int pe_int)) (pa_cons (pe_op op_add (pe_op op_pow pe_int pe_int) pe_int) (pa_cons (pe_op op_sub (pe_op op_sub pe_int (pe_op op_pow pe_int pe_int)) pe_int) (pa_cons (pe_op op_pow pe_int pe_int) pa_nil)))))))))
      (pss_one (ps_ret (pe_op op_cat (pv 1) (pe_lst (pa_cons pe_bl (pa_cons pe_bl (pa_cons pe_non (pa_cons pe_str (pa_cons (pe_tup pa_nil) (pa_cons (pe_tup (pa_cons pe_int pa_nil)) (pa_cons (pe_lstS (pa_cons pe_int pa_nil)) (pa_cons (pe_sys pe_dnewK) pa_nil)))))))))))))  , ?_⟩
  refine ⟨.ref d, rfl, d, c, N, 9, rfl, D, by omega, by decide, by decide, fun H1 r k1 D1 r0 r1 => ⟨_, _, rfl, rfl, _, _, rfl, rfl, ⟨by decide, by decide⟩, _, _, rfl, rfl, ⟨by decide, by decide⟩, _, _, rfl, rfl, _, _, rfl, rfl, ⟨by decide, by decide⟩, _, _, rfl, rfl, _, _, rfl, rfl, ⟨by decide, by decide⟩, _, _, rfl, rfl, _, _, rfl, rfl, _, _, rfl, rfl, ⟨by decide, by decide⟩, ?_⟩⟩
  refine ⟨h1000 (show 7 ≤ 1000 by decide), fun l1 n1 => ?_⟩
  dsimp only
  have s1 := same_upd (o := .lst [.int (r - 4), .int 0, .int (10 ^ (18 : Int).toNat), .int (0 - 10 ^ (18 : Int).toNat), .int (10 ^ (18 : Int).toNat + 1), .int (0 - 10 ^ (18 : Int).toNat - 1), .int (10 ^ (39 : Int).toNat)]) n1
  have hl1 : upd H1 l1 (.lst [.int (r - 4), .int 0, .int (10 ^ (18 : Int).toNat), .int (0 - 10 ^ (18 : Int).toNat), .int (10 ^ (18 : Int).toNat + 1), .int (0 - 10 ^ (18 : Int).toNat - 1), .int (10 ^ (39 : Int).toNat)]) l1 = _ := upd_same
  revert s1 hl1
  generalize upd H1 l1 (.lst [.int (r - 4), .int 0, .int (10 ^ (18 : Int).toNat), .int (0 - 10 ^ (18 : Int).toNat), .int (10 ^ (18 : Int).toNat + 1), .int (0 - 10 ^ (18 : Int).toNat - 1), .int (10 ^ (39 : Int).toNat)]) = H2
  intro s1 hl1
  have D2 := D1.same s1
  refine ⟨.ref l1, rfl, Nat.zero_le _, fun t0 m0 => ⟨h1000 (show 1 ≤ 1000 by decide), fun t1 m1 => ⟨h1000 (show 1 ≤ 1000 by decide), fun l2 m2 y2 => fun e0 m3 y3 => ⟨h1000 (show 8 ≤ 1000 by decide), fun l3 m4 => ?_⟩⟩⟩⟩
  have a0 := same_upd (o := .tup []) m0
  have a1 := same_upd (o := .tup [.int 1]) m1
  have a2 := same_upd (o := .lst [.int 1]) m2
  have a3 := same_upd (o := .dK []) m3
  have a4 := same_upd (o := .lst [.bl true, .bl false, .non, .str "0", .ref t0, .ref t1, .ref l2, .ref e0]) m4
  have f2 := (s1.trans (a0.trans a1)).free m2
  have f3 := (s1.trans ((a0.trans a1).trans a2)).free m3
  have ok2 : okn d c H l2 := ⟨⟨y2, (D2.same (a0.trans a1)).new m2⟩, k1.free f2 (D1.new f2).1 (D1.new f2).2⟩
  have ok3 : okn d c H e0 := ⟨⟨y3 _ _ upd_same, (D2.same ((a0.trans a1).trans a2)).new m3⟩, k1.free f3 (D1.new f3).1 (D1.new f3).2⟩
  have g0 : Dd K (okn d c H) (upd H2 t0 (.tup [])) (.ref t0) (.tuple []) := .tup (.inl (.inl upd_same)) .nil
  have g1 : Dd K (okn d c H) (upd (upd H2 t0 (.tup [])) t1 (.tup [.int 1])) (.ref t1) (.tuple [.int 1]) := .tup (.inl (.inl upd_same)) (.cons (.int 1) .nil)
  have g2 : Dd K (okn d c H) (upd (upd (upd H2 t0 (.tup [])) t1 (.tup [.int 1])) l2 (.lst [.int 1])) (.ref l2) (.list [.int 1]) := .lst upd_same ok2 (.cons (.int 1) .nil)
  have g3 : Dd K (okn d c H) (upd (upd (upd (upd H2 t0 (.tup [])) t1 (.tup [.int 1])) l2 (.lst [.int 1])) e0 (.dK [])) (.ref e0) (.dict []) := .dk (kvs := []) (ds := []) upd_same ok3 .nil
  have b3 := g3.keep (KeepO.of a4)
  have b2 := g2.keep (KeepO.of (a3.trans a4))
  have b1 := g1.keep (KeepO.of (a2.trans (a3.trans a4)))
  have b0 := g0.keep (KeepO.of (a1.trans (a2.trans (a3.trans a4))))
  have s2 := a0.trans (a1.trans (a2.trans (a3.trans a4)))
  have hl3 : upd (upd (upd (upd (upd H2 t0 (.tup [])) t1 (.tup [.int 1])) l2 (.lst [.int 1])) e0 (.dK [])) l3 (.lst [.bl true, .bl false, .non, .str "0", .ref t0, .ref t1, .ref l2, .ref e0]) l3 = _ := upd_same
  clear a0 a1 a2 a3 a4 g0 g1 g2 g3 m0 m1 m2 m3 m4 y3
  revert b0 b1 b2 b3 s2 hl3
  generalize upd (upd (upd (upd (upd H2 t0 (.tup [])) t1 (.tup [.int 1])) l2 (.lst [.int 1])) e0 (.dK [])) l3 (.lst [.bl true, .bl false, .non, .str "0", .ref t0, .ref t1, .ref l2, .ref e0]) = H3
  intro b3 b2 b1 b0 s2 hl3
  refine ⟨l1, l3, _, _, rfl, rfl, s2 _ _ hl1, hl3, h1000 (show 15 ≤ 1000 by decide), fun l4 n4 => ?_⟩
  have s4 := same_upd (o := .lst ([.int (r - 4), .int 0, .int (10 ^ (18 : Int).toNat), .int (0 - 10 ^ (18 : Int).toNat), .int (10 ^ (18 : Int).toNat + 1), .int (0 - 10 ^ (18 : Int).toNat - 1), .int (10 ^ (39 : Int).toNat)] ++ [.bl true, .bl false, .non, .str "0", .ref t0, .ref t1, .ref l2, .ref e0])) n4
  have kk := k1.trans (Keep.of ((s1.trans s2).trans s4))
  refine q _ l4 _ kk (D1.same ((s1.trans s2).trans s4)) (k1.free ((s1.trans s2).free n4) (D1.new ((s1.trans s2).free n4)).1 (D1.new ((s1.trans s2).free n4)).2) upd_same rfl fun v hv => ?_
  have iz : ∀ i : Int, i.natAbs < 10 ^ 40 → Ge K (okn d c H) 2 60 (upd H3 l4 (.lst ([.int (r - 4), .int 0, .int (10 ^ (18 : Int).toNat), .int (0 - 10 ^ (18 : Int).toNat), .int (10 ^ (18 : Int).toNat + 1), .int (0 - 10 ^ (18 : Int).toNat - 1), .int (10 ^ (39 : Int).toNat)] ++ [.bl true, .bl false, .non, .str "0", .ref t0, .ref t1, .ref l2, .ref e0]))) (.int i) := fun i h => Ge.int h (by decide)
  simp only [List.cons_append, List.nil_append, List.mem_cons, List.not_mem_nil, or_false] at hv
  have rr : (r - 4).natAbs < 10 ^ 40 := by omega
  rcases hv with rfl | rfl | rfl | rfl | rfl | rfl | rfl | rfl | rfl | rfl | rfl | rfl | rfl | rfl | rfl
  · exact iz _ rr
  · exact iz _ (by decide +kernel)
  · exact iz _ (by decide +kernel)
  · exact iz _ (by decide +kernel)
  · exact iz _ (by decide +kernel)
  · exact iz _ (by decide +kernel)
  · exact iz _ (by decide +kernel)
  · exact ⟨_, .bl true, (Sz.bl true).mono (by decide) (by decide)⟩
  · exact ⟨_, .bl false, (Sz.bl false).mono (by decide) (by decide)⟩
  · exact ⟨_, .non, Sz.non.mono (by decide) (by decide)⟩
  · exact ⟨_, .str "0", (Sz.str (by decide +kernel)).mono (by decide) (by decide)⟩
  · exact ⟨_, b0.keep (KeepO.of s4), (Szs.nil (k := 0)).tup.mono (by decide) (by decide)⟩
  · exact ⟨_, b1.keep (KeepO.of s4), ((Szs.cons (Sz.int (n := 1) (by decide +kernel)) .nil).tup).mono (by decide) (by decide)⟩
  · exact ⟨_, b2.keep (KeepO.of s4), ((Szs.cons (Sz.int (n := 1) (by decide +kernel)) .nil).lst).mono (by decide) (by decide)⟩
  · exact ⟨_, b3.keep (KeepO.of s4), Sz.dict0.mono (by decide) (by decide)⟩
end
end L18

namespace L18
open PySem PySem.Spec PyProof.Rows L2 GR AD
theorem Sz.text {z : Str} (h1 : z.length ≤ 90) (h2 : SO z) : Sz 0 904 (.str z) := ⟨by simp only [PyData.showable], by simp only [PyData.depth]; omega, by
  have e := StrLaws.reprText_len z fun c hc => Nat.lt_trans (h2 c hc) (by decide)
  unfold sl
  rw [PyData.shown_str]
  omega⟩
section
variable {K : PySem.W.Frag} {ok ok' : Addr → Prop} {H H' : Hp} {v v1 v2 v3 : V} {p : Addr}
def okp (d c pd : Addr) : Addr → Prop := fun a => okd d c a ∧ a ≠ pd
theorem new_t {vs : List V} {ds : List PyData} (h : DdAll K ok H vs ds) (np : H p = none) : Dd K ok (upd H p (.tup vs)) (.ref p) (.tuple ds) := .tup (.inl (.inl upd_same)) (h.keep (KeepO.of (same_upd np)))
theorem new_l {vs : List V} {ds : List PyData} (h : DdAll K ok H vs ds) (np : H p = none) (o : ok p) : Dd K ok (upd H p (.lst vs)) (.ref p) (.list ds) := .lst upd_same o (h.keep (KeepO.of (same_upd np)))
/-- what may stand second -/
def Wk (K : PySem.W.Frag) (ok : Addr → Prop) (H : Hp) (v : V) : Prop := ∃ x, Dd K ok H v x ∧ Sz 2 60 x ∧ SeqAt.shaped x = true
theorem Wk.keep (h : Wk K ok H v) (s : KeepO ok H H') : Wk K ok H' v := let ⟨x, a, b⟩ := h; ⟨x, a.keep s, b⟩
theorem Wk.str {z : Str} (h : (reprText z).length ≤ 40) (hz : PyData.strOk z = true) : Wk K ok H (.str z) := ⟨_, .str z, (Sz.str h).mono (by decide) (by decide), shaped_str hz⟩
/-- a thing that is asked about -/
def Th (K : PySem.W.Frag) (ok : Addr → Prop) (H : Hp) (v : V) : Prop := ∃ x, Dd K ok H v x ∧ Sz 5 1000 x ∧ Sec x
theorem Th.keep (h : Th K ok H v) (s : KeepO ok H H') : Th K ok H' v := let ⟨x, a, b⟩ := h; ⟨x, a.keep s, b⟩
theorem Th.mono (h : Th K ok H v) (s : ∀ a, ok a → ok' a) : Th K ok' H v := let ⟨x, a, b⟩ := h; ⟨x, a.mono s, b⟩
theorem Th.new (h : Th K ok H v) (np : H p = none) : Th K (fun a => ok a ∧ a ≠ p) H v := let ⟨x, a, b⟩ := h; ⟨x, Dd.new np a, b⟩
theorem Wk.new (h : Wk K ok H v) (np : H p = none) : Wk K (fun a => ok a ∧ a ≠ p) H v := let ⟨x, a, b⟩ := h; ⟨x, Dd.new np a, b⟩
theorem Ge.new {k m : Nat} (h : Ge K ok k m H v) (np : H p = none) : Ge K (fun a => ok a ∧ a ≠ p) k m H v := let ⟨x, a, b⟩ := h; ⟨x, Dd.new np a, b⟩
theorem Ge.mono {k m : Nat} (h : Ge K ok k m H v) (s : ∀ a, ok a → ok' a) : Ge K ok' k m H v := let ⟨x, a, b⟩ := h; ⟨x, a.mono s, b⟩
theorem sec_no {x : PyData} (h : ∀ a b r, x ≠ .tuple (a :: b :: r)) : Sec x := fun a b r e => absurd e (h a b r)
theorem th2 (h1 : Ge K ok 2 60 H v1) (h2 : Wk K ok H v2) (np : H p = none) : Th K ok (upd H p (.tup [v1, v2])) (.ref p) := by
  obtain ⟨x1, a1, b1⟩ := h1
  obtain ⟨x2, a2, b2, s2⟩ := h2
  refine ⟨_, new_t (.cons a1 (.cons a2 .nil)) np, ((Szs.cons b1 (.cons b2 .nil)).tup).mono (by decide) (by decide), fun x y r e => ?_⟩
  cases e
  exact s2
theorem th3 (h1 : Ge K ok 2 60 H v1) (h2 : Wk K ok H v2) (h3 : Ge K ok 2 60 H v3) (np : H p = none) : Th K ok (upd H p (.tup [v1, v2, v3])) (.ref p) := by
  obtain ⟨x1, a1, b1⟩ := h1
  obtain ⟨x2, a2, b2, s2⟩ := h2
  obtain ⟨x3, a3, b3⟩ := h3
  refine ⟨_, new_t (.cons a1 (.cons a2 (.cons a3 .nil))) np, ((Szs.cons b1 (.cons b2 (.cons b3 .nil))).tup).mono (by decide) (by decide), fun x y r e => ?_⟩
  cases e
  exact s2
theorem KeepO.lock {d c pd : Addr} {kvs : List (Key × V)} {od : Obj} (h : H pd = some (.dK kvs)) : KeepO (okp d c pd) H (upd H pd (.frz od (.dK kvs))) :=
  ⟨(KeepT.dk h).1, (KeepT.dk h).2, fun b o ho e => by rw [upd_ne ho.2]; exact e⟩
theorem KeepO.unlock {d c pd : Addr} {kvs : List (Key × V)} {od : Obj} (h : H pd = some (.frz od (.dK kvs))) : KeepO (okp d c pd) H (upd H pd (.dK kvs)) :=
  have k : KeepT H (upd H pd (.dK kvs)) := KeepT.upd (fun xs e => by rw [h] at e; cases e) (fun u xs e => by rw [h] at e; cases e)
  ⟨k.1, k.2, fun b o ho e => by rw [upd_ne ho.2]; exact e⟩
theorem ne_of_none' {a b : Addr} {o : HO} (h : H b = some o) (n : H a = none) : a ≠ b := fun z => by rw [z, h] at n; cases n
theorem small1000' {n : Nat} (h : n ≤ 100000) : n < sizeLine := by
  have : sizeLine = 16777216 := by decide
  omega
theorem th_t {vs : List V} {ds : List PyData} {m : Nat} (h : DdAll K ok H vs ds) (z : Szs 4 m ds) (hm : m ≤ 995) (s : Sec (.tuple ds)) (np : H p = none) : Th K ok (upd H p (.tup vs)) (.ref p) := ⟨_, new_t h np, z.tup.mono (by decide) (by omega), s⟩
theorem th_l {vs : List V} {ds : List PyData} {m : Nat} (h : DdAll K ok H vs ds) (z : Szs 4 m ds) (hm : m ≤ 995) (o : ok p) (np : H p = none) : Th K ok (upd H p (.lst vs)) (.ref p) := ⟨_, new_l h np o, z.lst.mono (by decide) (by omega), sec_no fun _ _ _ e => (nomatch e)⟩
theorem new_d (np : H p = none) (o : ok p) : Dd K ok (upd H p (.dK [])) (.ref p) (.dict []) := .dk (kvs := []) (ds := []) upd_same o .nil
theorem th_d (np : H p = none) (o : ok p) : Th K ok (upd H p (.dK [])) (.ref p) := ⟨_, new_d np o, Sz.dict0.mono (by decide) (by decide), sec_no fun _ _ _ q => (nomatch q)⟩
theorem sec_cons {x y : PyData} {r : List PyData} (h : SeqAt.shaped y = true) : Sec (.tuple (x :: y :: r)) := fun a b r' e => by cases e; exact h
theorem shaped_int (i : Int) : SeqAt.shaped (.int i) = true := by
  unfold SeqAt.shaped
  simp only [PyData.canLay0, PyData.depth]
  rfl
theorem sec_one {x : PyData} : Sec (.tuple [x]) := sec_no fun _ _ _ e => by cases e
/-- the state in the second walk over the places -/
structure Ph (K : PySem.W.Frag) (d c pd : Addr) (od : Obj) (es : List En) (M : Int) (L : Nat) (H0 : Hp) (fo : Addr) (xs : List V) (H : Hp) : Prop where
  hp : H pd = some (.frz od (.dK (plK es)))
  hf : H fo = some (.lst xs)
  fd : fo ≠ d ∧ fo ≠ c
  ln : xs.length ≤ L
  th : ∀ v, v ∈ xs → Th K (okp d c pd) H v
  dk : Deck H d c M
  kp : ∀ b o, b ≠ d → b ≠ c → b ≠ pd → H0 b = some o → H b = some o
theorem Ph.more {d c pd : Addr} {od : Obj} {es : List En} {M : Int} {L : Nat} {H0 : Hp} {fo l q : Addr} {xs zs : List V} {H1 : Hp} (h : Ph K d c pd od es M L H0 fo xs H) (s : Same H H1) (hl : H1 l = some (.lst zs)) (hz : ∀ v, v ∈ zs → Th K (okp d c pd) H1 v) (nq : H1 q = none) :
    Ph K d c pd od es M (L + zs.length) H0 q (xs ++ zs) (upd H1 q (.lst (xs ++ zs))) := by
  have sq := same_upd (o := .lst (xs ++ zs)) nq
  have ss := s.trans sq
  refine ⟨ss _ _ h.hp, upd_same, (h.dk.same s).new nq, by rw [List.length_append]; have := h.ln; omega, fun v hv => ?_, h.dk.same ss, fun b o n1 n2 n3 e => ss _ _ (h.kp b o n1 n2 n3 e)⟩
  rcases List.mem_append.mp hv with hv | hv
  · exact (h.th v hv).keep (KeepO.of ss)
  · exact (hz v hv).keep (KeepO.of sq)
/-- but for the deck and the list at p all stays -/
def KeepB (d c p : Addr) (H H' : Hp) : Prop := ∀ b o, b ≠ d → b ≠ c → b ≠ p → H b = some o → H' b = some o
theorem KeepB.o {d c : Addr} {N : Int} {ys : List V} (k : KeepB d c p H H') (D : Deck H d c N) (hp : H p = some (.lst ys)) (h : ∀ a, ok a → okd d c a) : KeepO (fun a => ok a ∧ a ≠ p) H H' := by
  obtain ⟨cells, m, n, h1, h2, _⟩ := D
  exact ⟨fun b xs e => k _ _ (ne_of e h1 (fun z => by cases z)) (ne_of e h2 (fun z => by cases z)) (ne_of e hp (fun z => by cases z)) e,
    fun b o xs e => k _ _ (ne_of e h1 (fun z => by cases z)) (ne_of e h2 (fun z => by cases z)) (ne_of e hp (fun z => by cases z)) e, fun b o ho e => k _ _ (h _ ho.1).2.1 (h _ ho.1).2.2 ho.2 e⟩
end
section
variable {P : Program} {w : World} {K : PySem.W.Frag} {mg : Str → Option Value} {base : Heap}
abbrev s_law_things : Stmt := topS 24
abbrev N_th : List Str := ["_law_deck_here", "_law_places", "_law_words", "_law_near", "_law_position", "_law_found", "_law_word", "_law_key"]
theorem sc_law_things : FnScope N_th ["_law_deck_here", "_law_places"] (defScope s_law_things) := ⟨rfl, rfl, rfl, by decide +kernel, rfl, by decide +kernel, by decide +kernel⟩
def sp_things (K : PySem.W.Frag) : Sp := fun vs H Q _ => ∃ (d c pd : Addr) (N : Int) (es : List En), vs = [.ref d, .ref pd] ∧ Deck H d c N ∧ N < 2 ^ 50 ∧ H pd = some (.dK (plK es)) ∧ es.length ≤ 30 ∧ (∀ e, e ∈ es → 0 ≤ e.1 ∧ e.1 ≤ 10000) ∧
  ∀ H' p xs, Keep d c H H' → Deck H' d c (N + 20000) → H' p = some (.lst xs) → p ≠ d → p ≠ c → xs.length ≤ 10000 → (∀ v, v ∈ xs → Th K (okd d c) H' v) → Q (.ref p) H'
theorem ok_things {f f_pick f_keys : Addr} {fd d_pick d_keys : FuncData} {k : Nat} (F : Fun K "_law_things" "_law_things" s_law_things f fd)
    (G_pick : FnOk P w K mg base CX0 k f_pick d_pick ["_law_deck_here", "_law_some"] (sp_pick K)) (g_pick : mg "_law_pick" = some (.ref f_pick)) (K_pick : PySem.W.keepIn K (.ref f_pick) = true) (b_pick : Binds K d_pick ["_law_deck_here", "_law_some"] [])
    (G_keys : FnOk P w K mg base CX0 k f_keys d_keys ["_law_deck_here"] (sp_keys K)) (g_keys : mg "_law_keys" = some (.ref f_keys)) (K_keys : PySem.W.keepIn K (.ref f_keys) = true) (b_keys : Binds K d_keys ["_law_deck_here"] [])
    (mstr : mg "str" = none) : FnG P w K mg base CX0 (k + 1) f fd ["_law_deck_here", "_law_places"] (sp_things K) := by
  have nd := sc_law_things.nd
  refine ok_g F sc_law_things (fun vs H Q E h => ?_) (fun cdv A outer s H vs Q E hg hr h => ?_)
  · obtain ⟨d, c, pd, N, es, rfl, _⟩ := h
    rfl
  obtain ⟨d, c, pd, N, es, rfl, D, hN, hpd, hl, hb, q⟩ := h
  refine ⟨_, (pss_cons (ps_set (i := 2) nd rfl (.inl rfl) (pe_lst (pa_cons pe_str (pa_cons pe_str (pa_cons pe_str (pa_cons pe_str (pa_cons pe_str (pa_cons pe_str (pa_cons pe_str (pa_cons pe_str (pa_cons pe_str (pa_cons pe_str (pa_cons pe_non (pa_cons pe_int (pa_cons pe_bl pa_nil)))))))))))))))
      (Evl.pss_cut (ps_set (i := 2) nd rfl (.inl rfl) (pe_op op_cat (pv 2) (pe_lst (pa_cons (pe_lstS (pa_cons pe_str pa_nil)) (pa_cons (pe_tup (pa_cons pe_str pa_nil)) pa_nil)))))
      (Evl.pss_cut (ps_set (i := 3) nd rfl (.inl rfl) (pe_lst (pa_cons (pe_un un_neg pe_int) (pa_cons pe_int (pa_cons pe_int (pa_cons pe_bl (pa_cons pe_str (pa_cons pe_non (pa_cons (pe_tup (pa_cons pe_int pa_nil)) (pa_cons (pe_lstS (pa_cons pe_int pa_nil)) pa_nil))))))))))
      (Evl.pss_cut (ps_lock (ps_for PassesOwn.never rfl (pi_keys (pv 1)) (pg_name (i := 4) nd rfl (Or.inr rfl))
      (pss_one (ps_set (i := 3) nd rfl (.inl rfl) (pe_op op_cat (pv 3) (pe_lst (pa_cons (pv 4) (pa_cons (pe_op op_add (pv 4) pe_int) pa_nil))))))))
      (pss_cons (ps_set (i := 5) nd rfl (.inl rfl) (pe_lst pa_nil))
      (Evl.pss_cut (ps_for PassesOwn.never rfl (pi_list (pv 3)) (pg_name (i := 4) nd rfl (Or.inr rfl))
      (pss_one (ps_for PassesOwn.never rfl (pi_list (pv 2)) (pg_name (i := 6) nd rfl (Or.inr rfl))
        (pss_cons (ps_expr (pe_bm PySem.F.plainAttrs_list PySem.F.slot_list_append PySem.F.type_list_append mt_append (pv 5) (pa_cons (pe_tup (pa_cons (pv 4) (pa_cons (pv 6) pa_nil))) pa_nil)))
          (pss_one (ps_expr (pe_bm PySem.F.plainAttrs_list PySem.F.slot_list_append PySem.F.type_list_append mt_append (pv 5) (pa_cons (pe_tup (pa_cons (pv 4) (pa_cons (pv 6) (pa_cons (pe_call G_pick hr (by rfl) g_pick K_pick b_pick .nil pass0 (pa_cons (pv 0) (pa_cons (pe_call G_keys hr (by rfl) g_keys K_keys b_keys .nil pass0 (pa_cons (pv 0) pa_nil)) pa_nil))) pa_nil)))) pa_nil))))))))
      (Evl.pss_cut (ps_lock (ps_for PassesOwn.never rfl (pi_keys (pv 1)) (pg_name (i := 4) nd rfl (Or.inr rfl))
      (pss_one (ps_for PassesOwn.never rfl (pi_list (pe_lst (pa_cons pe_str (pa_cons pe_str (pa_cons pe_str pa_nil))))) (pg_name (i := 6) nd rfl (Or.inr rfl))
        (Evl.pss_cut (ps_set (i := 5) nd rfl (.inl rfl) (pe_op op_cat (pv 5) (pe_lc (own := [("_law_key", 7)]) (te := tTup (tCons (tVar 4) (tCons (tVar 6) (tCons (tVar 7) tNil)))) rfl nd (pi_list (pe_call G_keys hr (by rfl) g_keys K_keys b_keys .nil pass0 (pa_cons (pv 0) pa_nil))) (blkOk_by (N := N_th) (sc := defScope s_law_things) (by decide +kernel)) (fun _ _ _ _ _ => (pg_name (i := 7) nd rfl (Or.inl rfl))) (fun _ _ _ _ _ => pts_nil) (fun _ _ _ _ _ => (pe_tup (pa_cons (pv 4) (pa_cons (pv 6) (pa_cons (pv 7) pa_nil))))))))
          (Evl.pss_cut (ps_set (i := 5) nd rfl (.inl rfl) (pe_op op_cat (pv 5) (pe_lst (pa_cons (pe_tup (pa_cons (pv 4) (pa_cons (pv 6) (pa_cons pe_int (pa_cons pe_int pa_nil))))) (pa_cons (pe_lstS (pa_cons (pv 4) (pa_cons (pv 6) pa_nil))) (pa_cons (pe_lstS (pa_cons (pv 4) (pa_cons (pv 6) (pa_cons pe_int pa_nil)))) (pa_cons (pe_tup (pa_cons (pe_tup (pa_cons (pv 4) (pa_cons (pv 6) pa_nil))) pa_nil)) pa_nil)))))))
          (pss_one (ps_set (i := 5) nd rfl (.inl rfl) (pe_op op_cat (pv 5) (pe_lst (pa_cons (pe_tup (pa_cons (pv 6) (pa_cons (pv 4) pa_nil))) (pa_cons (pe_tup (pa_cons (pv 4) pa_nil)) (pa_cons (pe_sys (pe_disp (pps_cons (pv 4) (pv 6) pps_nil) (by decide) rfl (by simp) (by decide))) (pa_cons (pe_callTy (call_strA hg hr) (by rfl) mstr boot_str (pa_cons (pe_tup (pa_cons (pv 4) (pa_cons (pv 6) pa_nil))) pa_nil)) pa_nil))))))))))))))
      (pss_one (ps_ret (pe_op op_cat (pv 5) (pe_lst (pa_cons pe_non (pa_cons pe_bl (pa_cons pe_int (pa_cons pe_str (pa_cons pe_str (pa_cons (pe_tup pa_nil) (pa_cons (pe_lstS pa_nil) (pa_cons (pe_sys pe_dnewK) (pa_cons (pe_tup (pa_cons (pe_tup pa_nil) (pa_cons (pe_tup pa_nil) pa_nil))) (pa_cons (pe_tup (pa_cons (pe_sys pe_dnewK) (pa_cons pe_str pa_nil))) (pa_cons (pe_tup (pa_cons (pe_lstS pa_nil) (pa_cons pe_str (pa_cons pe_int pa_nil)))) pa_nil)))))))))))))))))))))), ?_⟩
  have hpdc : pd ≠ d ∧ pd ≠ c := by
    obtain ⟨cells, m, n, h1, h2, _⟩ := D
    exact ⟨ne_of hpd h1 (fun z => by cases z), ne_of hpd h2 (fun z => by cases z)⟩
  refine ⟨h1000 (show 13 ≤ 1000 by decide), fun l1 n1 => ?_⟩
  refine ⟨fun σ' H' => ∃ (wl : Addr) (ws : List V), σ' = [some (.ref d), some (.ref pd), some (.ref wl), none, none, none, none, none] ∧ Same H H' ∧ H wl = none ∧ H' wl = some (.lst ws) ∧ ws.length = 15 ∧ ∀ v, v ∈ ws → Wk K (okp d c pd) H' v, ?_, ?_⟩
  · have s1 := same_upd (o := .lst [.str "let", .str "need", .str "tell", .str "key", .str "value", .str "guard", .str "put", .str "each", .str "in", .str "", .non, .int 0, .bl true]) n1
    have hl1 : upd H l1 (.lst [.str "let", .str "need", .str "tell", .str "key", .str "value", .str "guard", .str "put", .str "each", .str "in", .str "", .non, .int 0, .bl true]) l1 = _ := upd_same
    have np1 : ∀ a, upd H l1 (.lst [.str "let", .str "need", .str "tell", .str "key", .str "value", .str "guard", .str "put", .str "each", .str "in", .str "", .non, .int 0, .bl true]) a = none → a ≠ pd := fun a ha => (ne_of_none (s1 _ _ hpd) ha).symm
    revert s1 hl1 np1
    generalize upd H l1 (.lst [.str "let", .str "need", .str "tell", .str "key", .str "value", .str "guard", .str "put", .str "each", .str "in", .str "", .non, .int 0, .bl true]) = H1
    intro s1 hl1 np1
    have D1 := D.same s1
    refine ⟨.ref l1, rfl, h1000 (show 1 ≤ 1000 by decide), fun lv m1 y1 => ⟨h1000 (show 1 ≤ 1000 by decide), fun tv m2 => ⟨h1000 (show 2 ≤ 1000 by decide), fun l2 m3 => ?_⟩⟩⟩
    have a1 := same_upd (o := .lst [.str "value"]) m1
    have a2 := same_upd (o := .tup [.str "value"]) m2
    have a3 := same_upd (o := .lst [.ref lv, .ref tv]) m3
    have okv : okp d c pd lv := ⟨⟨y1, D1.new m1⟩, np1 _ m1⟩
    have g1 : Dd K (okp d c pd) (upd H1 lv (.lst [.str "value"])) (.ref lv) (.list [.str "value"]) := new_l (.cons (.str _) .nil) m1 okv
    have g2 : Dd K (okp d c pd) (upd (upd H1 lv (.lst [.str "value"])) tv (.tup [.str "value"])) (.ref tv) (.tuple [.str "value"]) := new_t (.cons (.str _) .nil) m2
    have b1 := g1.keep (KeepO.of (a2.trans a3))
    have b2 := g2.keep (KeepO.of a3)
    have s2 := a1.trans (a2.trans a3)
    have hl2 : upd (upd (upd H1 lv (.lst [.str "value"])) tv (.tup [.str "value"])) l2 (.lst [.ref lv, .ref tv]) l2 = _ := upd_same
    clear g1 g2 a1 a2 a3 m1 m2 m3
    revert b1 b2 s2 hl2
    generalize upd (upd (upd H1 lv (.lst [.str "value"])) tv (.tup [.str "value"])) l2 (.lst [.ref lv, .ref tv]) = H2
    intro b1 b2 s2 hl2
    refine ⟨l1, l2, _, _, rfl, rfl, s2 _ _ hl1, hl2, h1000 (show 15 ≤ 1000 by decide), fun wl nwl => ?_⟩
    have s3 := same_upd (o := .lst ([.str "let", .str "need", .str "tell", .str "key", .str "value", .str "guard", .str "put", .str "each", .str "in", .str "", .non, .int 0, .bl true] ++ [.ref lv, .ref tv])) nwl
    refine ⟨wl, _, rfl, (s1.trans s2).trans s3, (s1.trans s2).free nwl, upd_same, rfl, fun v hv => ?_⟩
    simp only [List.cons_append, List.nil_append, List.mem_cons, List.not_mem_nil, or_false] at hv
    rcases hv with rfl | rfl | rfl | rfl | rfl | rfl | rfl | rfl | rfl | rfl | rfl | rfl | rfl | rfl | rfl
    · exact Wk.str (by decide +kernel) (by decide +kernel)
    · exact Wk.str (by decide +kernel) (by decide +kernel)
    · exact Wk.str (by decide +kernel) (by decide +kernel)
    · exact Wk.str (by decide +kernel) (by decide +kernel)
    · exact Wk.str (by decide +kernel) (by decide +kernel)
    · exact Wk.str (by decide +kernel) (by decide +kernel)
    · exact Wk.str (by decide +kernel) (by decide +kernel)
    · exact Wk.str (by decide +kernel) (by decide +kernel)
    · exact Wk.str (by decide +kernel) (by decide +kernel)
    · exact Wk.str (by decide +kernel) (by decide +kernel)
    · exact ⟨_, .non, Sz.non.mono (by decide) (by decide), by decide +kernel⟩
    · exact ⟨_, .int 0, (Sz.int (by decide +kernel)).mono (by decide) (by decide), by decide +kernel⟩
    · exact ⟨_, .bl true, (Sz.bl true).mono (by decide) (by decide), by decide +kernel⟩
    · exact ⟨_, b1.keep (KeepO.of s3), ((Szs.cons (Sz.str (z := "value") (by decide +kernel)) .nil).lst).mono (by decide) (by decide), by decide +kernel⟩
    · exact ⟨_, b2.keep (KeepO.of s3), ((Szs.cons (Sz.str (z := "value") (by decide +kernel)) .nil).tup).mono (by decide) (by decide), by decide +kernel⟩
  rintro σ' H1 ⟨wl, ws, rfl, s1, nwl, hwl, lws, hws⟩
  refine ⟨fun σ' H' => ∃ (nr : Addr) (ys : List V), σ' = [some (.ref d), some (.ref pd), some (.ref wl), some (.ref nr), none, none, none, none] ∧ Same H1 H' ∧ H1 nr = none ∧ H' nr = some (.lst ys) ∧ ys.length = 8 ∧ ∀ v, v ∈ ys → Ge K (okp d c pd) 2 60 H' v, ?_, ?_⟩
  · refine ⟨1, rfl, h1000 (show 1 ≤ 1000 by decide), fun t0 m0 => ⟨h1000 (show 1 ≤ 1000 by decide), fun l0 m1 y1 => ⟨h1000 (show 8 ≤ 1000 by decide), fun nr nnr => ?_⟩⟩⟩
    have a0 := same_upd (o := .tup [.int 0]) m0
    have a1 := same_upd (o := .lst [.int 0]) m1
    have D1 := D.same s1
    have ok0 : okp d c pd l0 := ⟨⟨y1, (D1.same a0).new m1⟩, (ne_of_none (a0 _ _ (s1 _ _ hpd)) m1).symm⟩
    have g0 : Dd K (okp d c pd) (upd H1 t0 (.tup [.int 0])) (.ref t0) (.tuple [.int 0]) := new_t (.cons (.int _) .nil) m0
    have g1 : Dd K (okp d c pd) (upd (upd H1 t0 (.tup [.int 0])) l0 (.lst [.int 0])) (.ref l0) (.list [.int 0]) := new_l (.cons (.int _) .nil) m1 ok0
    have b0 := g0.keep (KeepO.of a1)
    have s2 := a0.trans a1
    clear g0 a0 a1 m0 m1
    revert b0 g1 s2 nnr
    generalize upd (upd H1 t0 (.tup [.int 0])) l0 (.lst [.int 0]) = H2
    intro nnr g1 b0 s2
    have s3 := same_upd (o := .lst [.int (-1), .int 0, .int 10000, .bl true, .str "0", .non, .ref t0, .ref l0]) nnr
    refine ⟨nr, _, rfl, s2.trans s3, s2.free nnr, upd_same, rfl, fun v hv => ?_⟩
    simp only [List.mem_cons, List.not_mem_nil, or_false] at hv
    rcases hv with rfl | rfl | rfl | rfl | rfl | rfl | rfl | rfl
    · exact Ge.int (by decide +kernel) (by decide)
    · exact Ge.int (by decide +kernel) (by decide)
    · exact Ge.int (by decide +kernel) (by decide)
    · exact ⟨_, .bl true, (Sz.bl true).mono (by decide) (by decide)⟩
    · exact ⟨_, .str "0", (Sz.str (by decide +kernel)).mono (by decide) (by decide)⟩
    · exact ⟨_, .non, Sz.non.mono (by decide) (by decide)⟩
    · exact ⟨_, b0.keep (KeepO.of s3), ((Szs.cons (Sz.int (n := 0) (by decide +kernel)) .nil).tup).mono (by decide) (by decide)⟩
    · exact ⟨_, g1.keep (KeepO.of s3), ((Szs.cons (Sz.int (n := 0) (by decide +kernel)) .nil).lst).mono (by decide) (by decide)⟩
  rintro σ' H2 ⟨nr, ys, rfl, s2, nnr, hnr, lys, hys⟩
  refine ⟨fun σ' H' => ∃ (nr : Addr) (ys : List V) (y4 : Option V), σ' = [some (.ref d), some (.ref pd), some (.ref wl), some (.ref nr), y4, none, none, none] ∧ Same H2 H' ∧ H1 nr = none ∧ H' nr = some (.lst ys) ∧ ys.length ≤ 68 ∧ ∀ v, v ∈ ys → Ge K (okp d c pd) 2 60 H' v, ?_, ?_⟩
  · have hpd2 := s2 _ _ (s1 _ _ hpd)
    have nrp : nr ≠ pd := (ne_of_none (s1 _ _ hpd) nnr).symm
    refine ⟨pd, .dK (plK es), hpd2, trivial, fun od => ⟨.ref pd, rfl, pd, od, rfl, .inl ⟨plK es, upd_same, ?_⟩⟩⟩
    refine for_it walk_keys (fun i σ H' => ∃ (nr : Addr) (ys : List V) (y4 : Option V), σ = [some (.ref d), some (.ref pd), some (.ref wl), some (.ref nr), y4, none, none, none] ∧ H' pd = some (.frz od (.dK (plK es))) ∧ H1 nr = none ∧ H' nr = some (.lst ys) ∧ ys.length = 8 + 2 * i ∧ (∀ v, v ∈ ys → Ge K (okp d c pd) 2 60 H' v) ∧ ∀ b o, b ≠ pd → H2 b = some o → H' b = some o) ?_ ?_ ?_ ?_
    · exact ⟨nr, ys, none, rfl, upd_same, nnr, by rw [upd_ne nrp]; exact hnr, lys, fun v hv => (hys v hv).keep (KeepO.lock hpd2), fun b o nb e => by rw [upd_ne nb]; exact e⟩
    · rintro i σ H' _ ⟨_, _, _, rfl, h, _⟩
      exact h
    · rintro i x σ H3 H' hi ⟨nr3, ys3, y4, rfl, hpd3, nn3, hn3, hl3, hg3, kp⟩ ⟨rfl, k', v', hk, rfl⟩
      obtain ⟨e, he, hke⟩ : ∃ e : En, es[i]? = some e ∧ k' = .inl e.1 := by
        unfold plK at hk
        rw [List.getElem?_map] at hk
        obtain ⟨e, he, e2⟩ := Option.map_eq_some_iff.mp hk
        injection e2 with e2 e3
        exact ⟨e, he, e2.symm⟩
      subst hke
      have hi30 : i < es.length := (List.getElem?_eq_some_iff.mp he).1
      have hbe := hb e (List.mem_of_getElem? he)
      refine ⟨.ref nr3, rfl, .int e.1, rfl, .int e.1, rfl, e.1, 1, rfl, rfl, h1000 (show 2 ≤ 1000 by decide), fun l nl => ?_⟩
      have sl := same_upd (o := .lst [.int e.1, .int (e.1 + 1)]) nl
      refine ⟨nr3, l, _, _, rfl, rfl, sl _ _ hn3, upd_same, h1000 (by rw [hl3]; show _ + 2 ≤ 1000; omega), fun r nr' => ?_⟩
      have sr := same_upd (o := .lst (ys3 ++ [.int e.1, .int (e.1 + 1)])) nr'
      have srr := sl.trans sr
      refine ⟨r, _, _, rfl, srr _ _ hpd3, ?_, upd_same, by rw [List.length_append, hl3]; show 8 + 2 * i + 2 = _; omega, fun v hv => ?_, fun b o nb e => srr _ _ (kp b o nb e)⟩
      · have n3 := sl.free nr'
        cases e1 : H1 r with
        | none => rfl
        | some o =>
          have hne : r ≠ pd := fun z => by rw [z, hpd3] at n3; cases n3
          rw [kp r o hne (s2 _ _ e1)] at n3
          cases n3
      · rcases List.mem_append.mp hv with hv | hv
        · exact (hg3 v hv).keep (KeepO.of srr)
        · simp only [List.mem_cons, List.not_mem_nil, or_false] at hv
          rcases hv with rfl | rfl
          · exact Ge.int (by omega) (by decide)
          · exact Ge.int (by omega) (by decide)
    · rintro σ H3 ⟨nr3, ys3, y4, rfl, hpd3, nn3, hn3, hl3, hg3, kp⟩
      refine ⟨hpd3, nr3, ys3, y4, rfl, fun b o e => ?_, nn3, ?_, ?_, fun v hv => (hg3 v hv).keep (KeepO.unlock hpd3)⟩
      · by_cases hb' : b = pd
        · subst hb'
          rw [upd_same, ← hpd2, e]
        · rw [upd_ne hb']
          exact kp b o hb' e
      · rw [upd_ne ((ne_of_none (s1 _ _ hpd) nn3).symm)]
        exact hn3
      · have : (plK es).length = es.length := by unfold plK; rw [List.length_map]
        omega
  rintro σ' H3 ⟨nr, ys, y4, rfl, s3, nnr, hnr, lys, hys⟩
  have hws3 : ∀ v, v ∈ ws → Wk K (okp d c pd) H3 v := fun v hv => (hws v hv).keep (KeepO.of (s2.trans s3))
  have s13 := s1.trans (s2.trans s3)
  have D3 := D.same s13
  have hpd3 := s13 _ _ hpd
  have hwl3 := s3 _ _ (s2 _ _ hwl)
  have nrd := (D.same s1).new nnr
  have wld := D.new nwl
  refine ⟨Nat.zero_le _, fun fo nfo => ?_⟩
  have fod := D3.new nfo
  have fop : fo ≠ pd := (ne_of_none hpd3 nfo).symm
  have fon : nr ≠ fo := ne_of_none hnr nfo
  have fow : wl ≠ fo := ne_of_none hwl3 nfo
  have okf : ∀ a, (okp d c pd a ∧ a ≠ fo) → okd d c a := fun a h => h.1.1
  refine ⟨fun σ' H' => ∃ (y4 y6 : Option V) (xs : List V), σ' = [some (.ref d), some (.ref pd), some (.ref wl), some (.ref nr), y4, some (.ref fo), y6, none] ∧ H' fo = some (.lst xs) ∧ xs.length ≤ 30 * 68 ∧ (∀ v, v ∈ xs → Th K (okp d c pd) H' v) ∧ Deck H' d c (N + 3000) ∧ Keep d c H3 H', ?_, ?_⟩
  · have sf := same_upd (o := .lst []) nfo
    have h4 : upd H3 fo (.lst []) fo = some (.lst []) := upd_same
    have D4 := D3.same sf
    have nr4 := sf _ _ hnr
    have wl4 := sf _ _ hwl3
    have ge4 : ∀ v, v ∈ ys → Ge K (fun a => okp d c pd a ∧ a ≠ fo) 2 60 (upd H3 fo (.lst [])) v := fun v hv => ((hys v hv).new nfo).keep (KeepO.of sf)
    have wk4 : ∀ v, v ∈ ws → Wk K (fun a => okp d c pd a ∧ a ≠ fo) (upd H3 fo (.lst [])) v := fun v hv => ((hws3 v hv).new nfo).keep (KeepO.of sf)
    revert sf h4 D4 nr4 wl4 ge4 wk4
    generalize upd H3 fo (.lst []) = H4
    intro sf h4 D4 nr4 wl4 ge4 wk4
    refine ⟨.ref nr, rfl, nr, rfl, ⟨_, .inl (.inl nr4)⟩, ?_⟩
    refine for_list (xs := ys) (fun i σ H' => ∃ (y4 y6 : Option V) (xs : List V), σ = [some (.ref d), some (.ref pd), some (.ref wl), some (.ref nr), y4, some (.ref fo), y6, none] ∧ H' fo = some (.lst xs) ∧ xs.length = 30 * i ∧ (∀ v, v ∈ xs → Th K (fun a => okp d c pd a ∧ a ≠ fo) H' v) ∧ Deck H' d c (N + 30 * (i : Int)) ∧ KeepB d c fo H4 H') ?_ ?_ ?_ ?_
    · exact ⟨y4, none, [], rfl, h4, rfl, fun v hv => (nomatch hv), D4.mono (by omega), fun b o _ _ _ e => e⟩
    · rintro i σ H' _ ⟨_, _, _, rfl, _, _, _, _, kb⟩
      exact .inl (.inl (kb _ _ nrd.1 nrd.2 fon nr4))
    · rintro i v1 σ H5 hx ⟨y4, y6, xs, rfl, hf5, lx5, th5, D5, kb5⟩
      have m1 := List.mem_of_getElem? hx
      have hi : i < ys.length := (List.getElem?_eq_some_iff.mp hx).1
      refine ⟨.ref wl, rfl, wl, rfl, ⟨_, .inl (.inl (kb5 _ _ wld.1 wld.2 fow wl4))⟩, ?_⟩
      refine for_list (xs := ws) (fun j σ H' => ∃ (y6 : Option V) (xs : List V), σ = [some (.ref d), some (.ref pd), some (.ref wl), some (.ref nr), some v1, some (.ref fo), y6, none] ∧ H' fo = some (.lst xs) ∧ xs.length = 30 * i + 2 * j ∧ (∀ v, v ∈ xs → Th K (fun a => okp d c pd a ∧ a ≠ fo) H' v) ∧ Deck H' d c (N + 30 * (i : Int) + 2 * (j : Int)) ∧ KeepB d c fo H4 H') ?_ ?_ ?_ ?_
      · exact ⟨y6, xs, rfl, hf5, lx5, th5, D5.mono (by omega), kb5⟩
      · rintro j σ H' _ ⟨_, _, rfl, _, _, _, _, kb⟩
        exact .inl (.inl (kb _ _ wld.1 wld.2 fow wl4))
      · rintro j v2 σ H6 hx2 ⟨y6, xs, rfl, hf6, lx6, th6, D6, kb6⟩
        have m2 := List.mem_of_getElem? hx2
        have hj : j < ws.length := (List.getElem?_eq_some_iff.mp hx2).1
        have ko6 : KeepO (fun a => okp d c pd a ∧ a ≠ fo) H4 H6 := kb6.o D4 h4 (fun a h => h.1)
        have g1 := (ge4 v1 m1).keep ko6
        have g2 := (wk4 v2 m2).keep ko6
        refine ⟨.ref fo, rfl, .inl ⟨rfl, _, .inl (.inl hf6)⟩, v1, rfl, v2, rfl, le2, fun t nt => ?_⟩
        have st := same_upd (o := .tup [v1, v2]) nt
        have t1 := th2 g1 g2 nt
        have hf7 := st _ _ hf6
        refine ⟨fo, xs, .ref t, rfl, rfl, hf7, small1000' (by omega), ?_⟩
        have kf := KeepO.at' (ok := okp d c pd) (o := .lst (xs ++ [.ref t])) hf7
        have D8 := (D6.same st).upd (o := .lst (xs ++ [.ref t])) fod.1 fod.2
        have th8 : ∀ v, v ∈ xs ++ [.ref t] → Th K (fun a => okp d c pd a ∧ a ≠ fo) (upd (upd H6 t (.tup [v1, v2])) fo (.lst (xs ++ [.ref t]))) v := fun v hv => by
          rcases List.mem_append.mp hv with hv | hv
          · exact (th6 v hv).keep ((KeepO.of st).trans kf)
          · rw [List.mem_singleton.mp hv]
            exact t1.keep kf
        have g18 := g1.keep ((KeepO.of st).trans kf)
        have g28 := g2.keep ((KeepO.of st).trans kf)
        have hf8 : upd (upd H6 t (.tup [v1, v2])) fo (.lst (xs ++ [.ref t])) fo = some (.lst (xs ++ [.ref t])) := upd_same
        have kb8 : KeepB d c fo H4 (upd (upd H6 t (.tup [v1, v2])) fo (.lst (xs ++ [.ref t]))) := fun b o n1 n2 n3 e => by
          rw [upd_ne n3]
          exact st _ _ (kb6 b o n1 n2 n3 e)
        clear kf t1 hf7 g1 g2
        revert D8 th8 g18 g28 hf8 kb8
        generalize upd (upd H6 t (.tup [v1, v2])) fo (.lst (xs ++ [.ref t])) = H8
        intro D8 th8 g18 g28 hf8 kb8
        refine ⟨.ref fo, rfl, .inl ⟨rfl, _, .inl (.inl hf8)⟩, v1, rfl, v2, rfl, .ref d, rfl, .ref d, rfl, d, c, _, rfl, D8, by omega, fun H9 kp kxs k9 D9 nk hk lk gk => .inl ⟨d, c, kp, _, kxs, rfl, D9, by omega, .inl (.inl hk), (fun z => by rw [z] at lk; cases lk), by omega, (D8.new nk).1, (D8.new nk).2, fun H10 v3 k10 D10 hv3 => ⟨h1000 (show 3 ≤ 1000 by decide), fun t2 nt2 => ?_⟩⟩⟩
        have k89 := k9.trans k10
        have ko := k89.o (ok := fun a => okp d c pd a ∧ a ≠ fo) D8 okf
        have hpd8 : H8 pd = some (.dK (plK es)) := kb8 _ _ hpdc.1 hpdc.2 fop.symm (sf _ _ hpd3)
        have g3 : Ge K (fun a => okp d c pd a ∧ a ≠ fo) 2 60 H10 v3 := ((gk v3 hv3).mono (fun a h => ⟨⟨h.1, ne_of_none' hpd8 h.2⟩, ne_of_none' hf8 h.2⟩)).keep (k10.o D9 okf)
        have hf10 := k89 _ _ fod.1 fod.2 hf8
        have t3 := th3 (g18.keep ko) (g28.keep ko) g3 nt2
        have st2 := same_upd (o := .tup [v1, v2, v3]) nt2
        have hf11 := st2 _ _ hf10
        refine ⟨fo, _, .ref t2, rfl, rfl, hf11, small1000' (by rw [List.length_append, List.length_singleton]; omega), ?_⟩
        have kf := KeepO.at' (ok := okp d c pd) (o := .lst (xs ++ [.ref t] ++ [.ref t2])) hf11
        refine ⟨some v2, _, rfl, upd_same, ?_, fun v hv => ?_, ((D10.same st2).upd fod.1 fod.2).mono (by omega), fun b o n1 n2 n3 e => ?_⟩
        · rw [List.length_append, List.length_append, List.length_singleton, List.length_singleton]
          omega
        · rcases List.mem_append.mp hv with hv | hv
          · exact (th8 v hv).keep ((ko.trans (KeepO.of st2)).trans kf)
          · rw [List.mem_singleton.mp hv]
            exact t3.keep kf
        · rw [upd_ne n3]
          exact st2 _ _ (k89 _ _ n1 n2 (kb8 b o n1 n2 n3 e))
      · rintro σ H6 ⟨y6, xs, rfl, hf6, lx6, th6, D6, kb6⟩
        exact ⟨some v1, y6, xs, rfl, hf6, by omega, th6, D6.mono (by omega), kb6⟩
    · rintro σ H5 ⟨y4, y6, xs, rfl, hf5, lx5, th5, D5, kb5⟩
      refine ⟨y4, y6, xs, rfl, hf5, by omega, fun v hv => (th5 v hv).mono fun a h => h.1, D5.mono (by omega), fun b o n1 n2 e => ?_⟩
      exact kb5 b o n1 n2 (ne_of_none e nfo) (sf _ _ e)
  rintro σ' H4 ⟨y4, y6, xs, rfl, hf4, lx4, th4, D4, k34⟩
  have hpd4 := k34 _ _ hpdc.1 hpdc.2 hpd3
  have okz : ∀ a, okp d c pd a → okd d c a := fun a h => h.1
  refine ⟨fun σ' H' => ∃ (y4 y6 : Option V) (fo : Addr) (xs : List V), σ' = [some (.ref d), some (.ref pd), some (.ref wl), some (.ref nr), y4, some (.ref fo), y6, none] ∧ H' fo = some (.lst xs) ∧ fo ≠ d ∧ fo ≠ c ∧ xs.length ≤ 5000 ∧ (∀ v, v ∈ xs → Th K (okp d c pd) H' v) ∧ Deck H' d c (N + 4000) ∧ Keep d c H4 H', ?_, ?_⟩
  · refine ⟨pd, .dK (plK es), hpd4, trivial, fun od => ⟨.ref pd, rfl, pd, od, rfl, .inl ⟨plK es, upd_same, ?_⟩⟩⟩
    refine for_it walk_keys (fun i σ H' => ∃ (y4 y6 : Option V) (fo : Addr) (xs : List V), σ = [some (.ref d), some (.ref pd), some (.ref wl), some (.ref nr), y4, some (.ref fo), y6, none] ∧ Ph K d c pd od es (N + 3000 + 10 * (i : Int)) (2040 + 69 * i) H4 fo xs H') ?_ ?_ ?_ ?_
    · refine ⟨y4, y6, fo, xs, rfl, upd_same, by rw [upd_ne fop]; exact hf4, fod, lx4, fun v hv => (th4 v hv).keep (KeepO.lock hpd4), (D4.upd hpdc.1 hpdc.2).mono (by omega), fun b o _ _ nb e => by rw [upd_ne nb]; exact e⟩
    · rintro i σ H' _ ⟨_, _, _, _, rfl, h⟩
      exact h.hp
    · rintro i x σ H0' H5 hi ⟨y4, y6, fo, xs, rfl, S5⟩ ⟨rfl, k', v', hk, rfl⟩
      obtain ⟨e, he, hke⟩ : ∃ e : En, es[i]? = some e ∧ k' = .inl e.1 := by
        unfold plK at hk
        rw [List.getElem?_map] at hk
        obtain ⟨e, he, e2⟩ := Option.map_eq_some_iff.mp hk
        injection e2 with e2 e3
        exact ⟨e, he, e2.symm⟩
      subst hke
      have hi30 : i < es.length := (List.getElem?_eq_some_iff.mp he).1
      have hbe := hb e (List.mem_of_getElem? he)
      have hz1 : e.1.natAbs < 10 ^ 40 := by omega
      refine ⟨h1000 (show 3 ≤ 1000 by decide), fun w3 nw3 => ⟨w3, rfl, ⟨_, .inl (.inl upd_same)⟩, ?_⟩⟩
      have sw3 := same_upd (o := .lst [.str "guard", .str "value", .str "key"]) nw3
      have hw3 : upd H5 w3 (.lst [.str "guard", .str "value", .str "key"]) w3 = some (.lst [.str "guard", .str "value", .str "key"]) := upd_same
      have w3d := S5.dk.new nw3
      have w3p : w3 ≠ pd := (ne_of_none S5.hp nw3).symm
      have S6 : Ph K d c pd od es (N + 3000 + 10 * (i : Int)) (2040 + 69 * i) H4 fo xs (upd H5 w3 (.lst [.str "guard", .str "value", .str "key"])) :=
        ⟨sw3 _ _ S5.hp, sw3 _ _ S5.hf, S5.fd, S5.ln, fun v hv => (S5.th v hv).keep (KeepO.of sw3), S5.dk.same sw3, fun b o n1 n2 n3 q => sw3 _ _ (S5.kp b o n1 n2 n3 q)⟩
      revert hw3 S6
      generalize upd H5 w3 (.lst [.str "guard", .str "value", .str "key"]) = H6
      intro hw3 S6
      clear sw3 S5 nw3
      refine for_list (xs := [.str "guard", .str "value", .str "key"]) (fun j σ H' => ∃ (y6 : Option V) (fo : Addr) (xs : List V), σ = [some (.ref d), some (.ref pd), some (.ref wl), some (.ref nr), some (.int e.1), some (.ref fo), y6, none] ∧ Ph K d c pd od es (N + 3000 + 10 * (i : Int) + 2 * (j : Int)) (2040 + 69 * i + 23 * j) H4 fo xs H' ∧ H' w3 = some (.lst [.str "guard", .str "value", .str "key"])) ?_ ?_ ?_ ?_
      · exact ⟨y6, fo, xs, rfl, ⟨S6.hp, S6.hf, S6.fd, S6.ln, S6.th, S6.dk.mono (by omega), S6.kp⟩, hw3⟩
      · rintro j σ H' _ ⟨_, _, _, rfl, _, h⟩
        exact .inl (.inl h)
      · rintro j v2 σ H7 hx2 ⟨y6, fo, xs, rfl, S7, hw7⟩
        have hj : j < 3 := (List.getElem?_eq_some_iff.mp hx2).1
        obtain ⟨z, rfl, hzr, hzo⟩ : ∃ z : Str, v2 = .str z ∧ (reprText z).length ≤ 40 ∧ PyData.strOk z = true := by
          have := List.mem_of_getElem? hx2
          simp only [List.mem_cons, List.not_mem_nil, or_false] at this
          rcases this with rfl | rfl | rfl
          · exact ⟨_, rfl, by decide +kernel, by decide +kernel⟩
          · exact ⟨_, rfl, by decide +kernel, by decide +kernel⟩
          · exact ⟨_, rfl, by decide +kernel, by decide +kernel⟩
        have zn : Sz 0 43 (.int e.1) := Sz.int hz1
        have zz : Sz 0 42 (.str z) := Sz.str hzr
        have ss := shaped_str hzo
        refine ⟨fun σ' H' => ∃ (fo : Addr) (xs : List V), σ' = [some (.ref d), some (.ref pd), some (.ref wl), some (.ref nr), some (.int e.1), some (.ref fo), some (.str z), none] ∧ Ph K d c pd od es (N + 3000 + 10 * (i : Int) + 2 * (j : Int) + 1) (2040 + 69 * i + 23 * j + 15) H4 fo xs H' ∧ H' w3 = some (.lst [.str "guard", .str "value", .str "key"]), ?_, ?_⟩
        · refine ⟨.ref fo, rfl, .ref d, rfl, d, c, _, rfl, S7.dk, by omega, fun H8 kp kxs k8 D8 nk hk lk gk => ⟨kp, rfl, ⟨_, .inl (.inl hk)⟩, fun B nB => ?_⟩⟩
          have ge8 : ∀ v, v ∈ kxs → Ge K (okp d c pd) 2 60 H8 v := fun v hv => (gk v hv).mono fun a h => ⟨h.1, ne_of_none' S7.hp h.2⟩
          have ko := k8.o (ok := okp d c pd) S7.dk okz
          have S8 : Ph K d c pd od es (N + 3000 + 10 * (i : Int) + 2 * (j : Int) + 1) (2040 + 69 * i + 23 * j) H4 fo xs H8 :=
            ⟨k8 _ _ hpdc.1 hpdc.2 S7.hp, k8 _ _ S7.fd.1 S7.fd.2 S7.hf, S7.fd, S7.ln, fun v hv => (S7.th v hv).keep ko, D8, fun b o n1 n2 n3 q => k8 _ _ n1 n2 (S7.kp b o n1 n2 n3 q)⟩
          have hw8 := k8 _ _ w3d.1 w3d.2 hw7
          refine lc_list (xs := kxs) (fun m H' => ∃ zs : List V, H' B = some (.lst zs) ∧ zs.length = m ∧ (∀ v, v ∈ zs → Th K (fun a => okp d c pd a ∧ a ≠ B) H' v) ∧ ∀ b o, b ≠ B → H8 b = some o → H' b = some o) ?_ ?_ ?_ ?_
          · exact ⟨[], upd_same, rfl, fun v hv => (nomatch hv), fun b o nb q => by rw [upd_ne nb]; exact q⟩
          · rintro m H' _ ⟨_, _, _, _, kb⟩
            exact .inl (.inl (kb _ _ (ne_of_none hk nB) hk))
          · rintro m v3 H' hx3 ⟨zs, hB, lz, tz, kb⟩
            have hm : m < kxs.length := (List.getElem?_eq_some_iff.mp hx3).1
            have sB : Same H8 H' := fun b o q => kb b o (ne_of_none q nB) q
            have g3 := ((ge8 v3 (List.mem_of_getElem? hx3)).new nB).keep (KeepO.of sB)
            refine ⟨rfl, yes_then ⟨.int e.1, rfl, .str z, rfl, v3, rfl, h1000 (show 3 ≤ 1000 by decide), fun t nt => ?_⟩⟩
            have st := same_upd (o := .tup [.int e.1, .str z, v3]) nt
            have t3 : Th K (fun a => okp d c pd a ∧ a ≠ B) _ (.ref t) := th3 (v1 := .int e.1) (v2 := .str z) (Ge.int hz1 (by decide)) (Wk.str hzr hzo) g3 nt
            have hB' := st _ _ hB
            have kf := KeepO.at' (ok := okp d c pd) (o := .lst (zs ++ [.ref t])) hB'
            refine ⟨_, hB', small1000' (by omega), zs ++ [.ref t], upd_same, by rw [List.length_append, lz]; rfl, fun v hv => ?_, fun b o nb q => by rw [upd_ne nb]; exact st _ _ (kb b o nb q)⟩
            rcases List.mem_append.mp hv with hv | hv
            · exact (tz v hv).keep ((KeepO.of st).trans kf)
            · rw [List.mem_singleton.mp hv]
              exact t3.keep kf
          · rintro H9 ⟨zs, hB, lz, tz, kb⟩
            have sB : Same H8 H9 := fun b o q => kb b o (ne_of_none q nB) q
            have ln := S8.ln
            refine ⟨fo, B, _, _, rfl, rfl, sB _ _ S8.hf, hB, Nat.le_of_lt (small1000' (by omega)), fun q' nq => ?_⟩
            have M := S8.more sB hB (fun v hv => (tz v hv).mono fun a h => h.1) nq
            exact ⟨q', _, rfl, ⟨M.hp, M.hf, M.fd, by have := M.ln; omega, M.th, M.dk, M.kp⟩, same_upd nq _ _ (sB _ _ hw8)⟩
        rintro σ' H8 ⟨fo, xs, rfl, S8, hw8⟩
        refine ⟨fun σ' H' => ∃ (fo : Addr) (xs : List V), σ' = [some (.ref d), some (.ref pd), some (.ref wl), some (.ref nr), some (.int e.1), some (.ref fo), some (.str z), none] ∧ Ph K d c pd od es (N + 3000 + 10 * (i : Int) + 2 * (j : Int) + 1) (2040 + 69 * i + 23 * j + 19) H4 fo xs H' ∧ H' w3 = some (.lst [.str "guard", .str "value", .str "key"]), ?_, ?_⟩
        · refine ⟨.ref fo, rfl, .int e.1, rfl, .str z, rfl, h1000 (show 4 ≤ 1000 by decide), fun t1 m1 => ⟨.int e.1, rfl, .str z, rfl, h1000 (show 2 ≤ 1000 by decide), fun l1 m2 y2 => ⟨.int e.1, rfl, .str z, rfl, h1000 (show 3 ≤ 1000 by decide), fun l2 m3 y3 => ⟨.int e.1, rfl, .str z, rfl, h1000 (show 2 ≤ 1000 by decide), fun t2 m4 => ⟨h1000 (show 1 ≤ 1000 by decide), fun t3 m5 => ⟨h1000 (show 4 ≤ 1000 by decide), fun l m6 => ?_⟩⟩⟩⟩⟩⟩
          have a1 := same_upd (o := .tup [.int e.1, .str z, .int 1, .int 1]) m1
          have a2 := same_upd (o := .lst [.int e.1, .str z]) m2
          have a3 := same_upd (o := .lst [.int e.1, .str z, .int 1]) m3
          have a4 := same_upd (o := .tup [.int e.1, .str z]) m4
          have a5 := same_upd (o := .tup [.ref t2]) m5
          have a6 := same_upd (o := .lst [.ref t1, .ref l1, .ref l2, .ref t3]) m6
          have o1 : Sz 0 43 (.int 1) := Sz.int (by decide +kernel)
          have ok1 : okp d c pd l1 := ⟨⟨y2, (S8.dk.same a1).new m2⟩, ne_of_none' (a1 _ _ S8.hp) m2⟩
          have ok2 : okp d c pd l2 := ⟨⟨y3, ((S8.dk.same a1).same a2).new m3⟩, ne_of_none' ((a1.trans a2) _ _ S8.hp) m3⟩
          have g1 := th_t (K := K) (ok := okp d c pd) (.cons (.int e.1) (.cons (.str z) (.cons (.int 1) (.cons (.int 1) .nil)))) (.cons zn.k0 (.cons zz.k0 (.cons o1.k0 (.cons o1.k0 .nil)))) (by decide) (sec_cons ss) m1
          have g2 := th_l (K := K) (.cons (.int e.1) (.cons (.str z) .nil)) (.cons zn.k0 (.cons zz.k0 .nil)) (by decide) ok1 m2
          have g3 := th_l (K := K) (.cons (.int e.1) (.cons (.str z) (.cons (.int 1) .nil))) (.cons zn.k0 (.cons zz.k0 (.cons o1.k0 .nil))) (by decide) ok2 m3
          have g4 := new_t (K := K) (ok := okp d c pd) (.cons (.int e.1) (.cons (.str z) .nil)) m4
          have g5 := th_t (K := K) (ok := okp d c pd) (.cons g4 .nil) (.cons (((Szs.cons zn (.cons zz .nil)).tup).mono (show 1 ≤ 4 by decide) (Nat.le_refl _)) .nil) (by decide) sec_one m5
          have b5 := g5.keep (KeepO.of a6)
          have b3 := g3.keep (KeepO.of (a4.trans (a5.trans a6)))
          have b2 := g2.keep (KeepO.of (a3.trans (a4.trans (a5.trans a6))))
          have b1 := g1.keep (KeepO.of (a2.trans (a3.trans (a4.trans (a5.trans a6)))))
          have sA := a1.trans (a2.trans (a3.trans (a4.trans (a5.trans a6))))
          refine ⟨fo, l, _, _, rfl, rfl, sA _ _ S8.hf, upd_same, Nat.le_of_lt (small1000' (by have := S8.ln; simp only [List.length_cons, List.length_nil]; omega)), fun q' nq => ?_⟩
          have M := S8.more sA upd_same (fun v hv => by
            simp only [List.mem_cons, List.not_mem_nil, or_false] at hv
            rcases hv with rfl | rfl | rfl | rfl
            · exact b1
            · exact b2
            · exact b3
            · exact b5) nq
          exact ⟨q', _, rfl, ⟨M.hp, M.hf, M.fd, by have := M.ln; simp only [List.length_cons, List.length_nil] at this; omega, M.th, M.dk, M.kp⟩, same_upd nq _ _ (sA _ _ hw8)⟩
        rintro σ' H9 ⟨fo, xs, rfl, S9, hw9⟩
        refine ⟨.ref fo, rfl, .str z, rfl, .int e.1, rfl, h1000 (show 2 ≤ 1000 by decide), fun t1 m1 => ⟨.int e.1, rfl, h1000 (show 1 ≤ 1000 by decide), fun t2 m2 => ?_⟩⟩
        have a1 := same_upd (o := .tup [.str z, .int e.1]) m1
        have a2 := same_upd (o := .tup [.int e.1]) m2
        have g1 := th_t (K := K) (ok := okp d c pd) (.cons (.str z) (.cons (.int e.1) .nil)) (.cons zz.k0 (.cons zn.k0 .nil)) (by decide) (sec_cons (shaped_int e.1)) m1
        have g2 := th_t (K := K) (ok := okp d c pd) (.cons (.int e.1) .nil) (.cons zn.k0 .nil) (by decide) sec_one m2
        have b1 := g1.keep (KeepO.of a2)
        have sA := a1.trans a2
        clear a1 a2 g1 m1 m2
        revert b1 g2 sA
        generalize upd (upd H9 t1 (.tup [.str z, .int e.1])) t2 (.tup [.int e.1]) = H10
        intro g2 b1 sA
        intro dd m3
        refine ⟨.int e.1, rfl, .str z, rfl, upd_same, [(.inl e.1, .str z)], rfl, (show 1 ≤ 15 by decide), fun ysys => ?_⟩
        have em : mergeK ([] : List (Key × V)) [(.inl e.1, .str z)] = [(.inl e.1, .str z)] := rfl
        rw [em] at ysys ⊢
        have okd' : okp d c pd dd := ⟨⟨ysys _ _ upd_same, (S9.dk.same sA).new m3⟩, ne_of_none' (sA _ _ S9.hp) m3⟩
        have a3 : Same H10 (upd (upd H10 dd (.dK [])) dd (.dK [(.inl e.1, .str z)])) := fun b o q => by
          rw [upd_ne (ne_of_none q m3), upd_ne (ne_of_none q m3)]
          exact q
        have g3 : Th K (okp d c pd) (upd (upd H10 dd (.dK [])) dd (.dK [(.inl e.1, .str z)])) (.ref dd) := ⟨_, .dk (kvs := [(.inl e.1, .str z)]) (ds := [.str z]) upd_same okd' (.cons (.str z) .nil), (Sz.dict1 (m := 0) zn zz).mono (by decide) (by decide), sec_no fun _ _ _ q => (nomatch q)⟩
        revert a3 g3
        generalize upd (upd H10 dd (.dK [])) dd (.dK [(.inl e.1, .str z)]) = H11
        intro a3 g3
        refine ⟨.int e.1, rfl, .str z, rfl, h1000 (show 2 ≤ 1000 by decide), fun t4 m4 => ?_⟩
        have a4 := same_upd (o := .tup [.int e.1, .str z]) m4
        have g4 := new_t (K := K) (ok := okp d c pd) (.cons (.int e.1) (.cons (.str z) .nil)) m4
        have z4 := (Szs.cons zn (.cons zz .nil)).tup
        have cl4 : PyData.canLay0 (.tuple [.int e.1, .str z]) = true := by
          simp only [PyData.canLay0, PyData.canLayAll0, hzo]
          rfl
        refine ⟨t4, _, okp d c pd, rfl, fun a h => h.1.1, g4, z4.shown (by decide) (by decide), h1000 (show 4 ≤ 1000 by decide), fun l m5 => ?_⟩
        have a5 := same_upd (o := .lst [.ref t1, .ref t2, .ref dd, .str (PyData.tuple [.int e.1, .str z]).shown]) m5
        have tx : Sz 0 904 (.str (PyData.tuple [.int e.1, .str z]).shown) := Sz.text (by
          have := z4.len
          unfold sl at this
          omega) (shown_so _ cl4)
        have sB := a3.trans (a4.trans a5)
        have sC := sA.trans sB
        refine ⟨fo, l, _, _, rfl, rfl, sC _ _ S9.hf, upd_same, Nat.le_of_lt (small1000' (by have := S9.ln; simp only [List.length_cons, List.length_nil]; omega)), fun q' nq => ?_⟩
        have M := S9.more sC upd_same (fun v hv => by
          simp only [List.mem_cons, List.not_mem_nil, or_false] at hv
          rcases hv with rfl | rfl | rfl | rfl
          · exact b1.keep (KeepO.of sB)
          · exact g2.keep (KeepO.of sB)
          · exact g3.keep (KeepO.of (a4.trans a5))
          · exact ⟨_, .str _, tx.mono (by decide) (by decide), sec_no fun _ _ _ q => (nomatch q)⟩) nq
        exact ⟨some (.str z), q', _, rfl, ⟨M.hp, M.hf, M.fd, by have := M.ln; simp only [List.length_cons, List.length_nil] at this; omega, M.th, M.dk.mono (by omega), M.kp⟩, same_upd nq _ _ (sC _ _ hw9)⟩
      · rintro σ H7 ⟨y6, fo, xs, rfl, S7, _⟩
        exact ⟨some (.int e.1), y6, fo, xs, rfl, S7.hp, S7.hf, S7.fd, by have := S7.ln; simp only [List.length_cons, List.length_nil] at this; omega, S7.th, S7.dk.mono (by simp only [List.length_cons, List.length_nil]; omega), S7.kp⟩
    · rintro σ H5 ⟨y4, y6, fo, xs, rfl, S5⟩
      have hpl : (plK es).length = es.length := by unfold plK; rw [List.length_map]
      have fop5 : fo ≠ pd := fun z => by
        have := S5.hf
        rw [z, S5.hp] at this
        cases this
      have ln := S5.ln
      refine ⟨S5.hp, y4, y6, fo, xs, rfl, by rw [upd_ne fop5]; exact S5.hf, S5.fd.1, S5.fd.2, by omega, fun v hv => (S5.th v hv).keep (KeepO.unlock S5.hp), (S5.dk.upd hpdc.1 hpdc.2).mono (by omega), fun b o n1 n2 e => ?_⟩
      by_cases hb' : b = pd
      · subst hb'
        rw [upd_same, ← hpd4, e]
      · rw [upd_ne hb']
        exact S5.kp b o n1 n2 hb' e
  rintro σ' H5 ⟨y4, y6, fo, xs, rfl, hf5, fo1, fo2, lx5, th5, D5, k45⟩
  have hpd5 := k45 _ _ hpdc.1 hpdc.2 hpd4
  have sec0 : Sec (.tuple []) := sec_no fun _ _ _ e => by cases e
  have z0 : Sz 1 5 (.tuple []) := (Szs.nil (k := 0)).tup
  have zl : Sz 1 5 (.list []) := (Szs.nil (k := 0)).lst
  refine ⟨.ref fo, rfl, Nat.zero_le _, fun t0 m0 => ⟨Nat.zero_le _, fun l0 m1 y1 => fun e0 m2 y2 => ⟨Nat.zero_le _, fun t1 m3 => ⟨Nat.zero_le _, fun t2 m4 => ⟨h1000 (show 2 ≤ 1000 by decide), fun t3 m5 => ?_⟩⟩⟩⟩⟩
  have a0 := same_upd (o := .tup []) m0
  have a1 := same_upd (o := .lst []) m1
  have a2 := same_upd (o := .dK []) m2
  have a3 := same_upd (o := .tup []) m3
  have a4 := same_upd (o := .tup []) m4
  have a5 := same_upd (o := .tup [.ref t1, .ref t2]) m5
  have ok1 : okp d c pd l0 := ⟨⟨y1, (D5.same a0).new m1⟩, ne_of_none' (a0 _ _ hpd5) m1⟩
  have ok2 : okp d c pd e0 := ⟨⟨y2 _ _ upd_same, (D5.same (a0.trans a1)).new m2⟩, ne_of_none' ((a0.trans a1) _ _ hpd5) m2⟩
  have g0 := th_t (K := K) (ok := okp d c pd) .nil .nil (by decide) sec0 m0
  have g1 := th_l (K := K) .nil .nil (by decide) ok1 m1
  have g2 := th_d (K := K) m2 ok2
  have g3 := new_t (K := K) (ok := okp d c pd) .nil m3
  have g4 := new_t (K := K) (ok := okp d c pd) .nil m4
  have g5 := th_t (K := K) (ok := okp d c pd) (.cons (g3.keep (KeepO.of a4)) (.cons g4 .nil)) (.cons (z0.mono (show 1 ≤ 4 by decide) (Nat.le_refl _)) (.cons (z0.mono (show 1 ≤ 4 by decide) (Nat.le_refl _)) .nil)) (by decide) (sec_cons (by decide +kernel)) m5
  have b2 := g2.keep (KeepO.of (a3.trans (a4.trans a5)))
  have b1 := g1.keep (KeepO.of (a2.trans (a3.trans (a4.trans a5))))
  have b0 := g0.keep (KeepO.of (a1.trans (a2.trans (a3.trans (a4.trans a5)))))
  have sA := a0.trans (a1.trans (a2.trans (a3.trans (a4.trans a5))))
  clear a0 a1 a2 a3 a4 a5 g0 g1 g2 g3 g4 m0 m1 m2 m3 m4 m5 y2
  revert g5 b2 b1 b0 sA
  generalize upd (upd (upd (upd (upd (upd H5 t0 (.tup [])) l0 (.lst [])) e0 (.dK [])) t1 (.tup [])) t2 (.tup [])) t3 (.tup [.ref t1, .ref t2]) = H6
  intro g5 b2 b1 b0 sA
  refine fun e1 m6 y6 => ⟨h1000 (show 2 ≤ 1000 by decide), fun t4 m7 => ⟨Nat.zero_le _, fun l1 m8 y8 => ⟨h1000 (show 3 ≤ 1000 by decide), fun t5 m9 => ⟨h1000 (show 11 ≤ 1000 by decide), fun l m10 => ?_⟩⟩⟩⟩
  have a6 := same_upd (o := .dK []) m6
  have a7 := same_upd (o := .tup [.ref e1, .str "let"]) m7
  have a8 := same_upd (o := .lst []) m8
  have a9 := same_upd (o := .tup [.ref l1, .str "value", .int 0]) m9
  have ok6 : okp d c pd e1 := ⟨⟨y6 _ _ upd_same, (D5.same sA).new m6⟩, ne_of_none' (sA _ _ hpd5) m6⟩
  have ok8 : okp d c pd l1 := ⟨⟨y8, (D5.same (sA.trans (a6.trans a7))).new m8⟩, ne_of_none' ((sA.trans (a6.trans a7)) _ _ hpd5) m8⟩
  have g6 := new_d (K := K) m6 ok6
  have g7 := th_t (K := K) (ok := okp d c pd) (.cons g6 (.cons (.str "let") .nil)) (.cons (Sz.dict0.mono (show 1 ≤ 4 by decide) (Nat.le_refl _)) (.cons (Sz.str (z := "let") (by decide +kernel)).k0 .nil)) (by decide) (sec_cons (by decide +kernel)) m7
  have g8 := new_l (K := K) .nil m8 ok8
  have g9 := th_t (K := K) (ok := okp d c pd) (.cons g8 (.cons (.str "value") (.cons (.int 0) .nil))) (.cons (zl.mono (show 1 ≤ 4 by decide) (Nat.le_refl _)) (.cons (Sz.str (z := "value") (by decide +kernel)).k0 (.cons (Sz.int (n := 0) (by decide +kernel)).k0 .nil))) (by decide) (sec_cons (by decide +kernel)) m9
  have s9 := a6.trans (a7.trans (a8.trans a9))
  have g7' := g7.keep (KeepO.of (a8.trans a9))
  have hf9 := (sA.trans s9) _ _ hf5
  have th9 : ∀ v, v ∈ ([.non, .bl true, .int 0, .str "", .str "0 let", .ref t0, .ref l0, .ref e0, .ref t3, .ref t4, .ref t5] : List V) → Th K (okp d c pd) (upd (upd (upd (upd H6 e1 (.dK [])) t4 (.tup [.ref e1, .str "let"])) l1 (.lst [])) t5 (.tup [.ref l1, .str "value", .int 0])) v := fun v hv => by
    simp only [List.mem_cons, List.not_mem_nil, or_false] at hv
    rcases hv with rfl | rfl | rfl | rfl | rfl | rfl | rfl | rfl | rfl | rfl | rfl
    · exact ⟨_, .non, Sz.non.mono (by decide) (by decide), sec_no fun _ _ _ q => (nomatch q)⟩
    · exact ⟨_, .bl true, (Sz.bl true).mono (by decide) (by decide), sec_no fun _ _ _ q => (nomatch q)⟩
    · exact ⟨_, .int 0, (Sz.int (by decide +kernel)).mono (by decide) (by decide), sec_no fun _ _ _ q => (nomatch q)⟩
    · exact ⟨_, .str _, (Sz.str (by decide +kernel)).mono (by decide) (by decide), sec_no fun _ _ _ q => (nomatch q)⟩
    · exact ⟨_, .str _, (Sz.str (by decide +kernel)).mono (by decide) (by decide), sec_no fun _ _ _ q => (nomatch q)⟩
    · exact b0.keep (KeepO.of s9)
    · exact b1.keep (KeepO.of s9)
    · exact b2.keep (KeepO.of s9)
    · exact g5.keep (KeepO.of s9)
    · exact g7'
    · exact g9
  revert s9 hf9 th9 m10
  clear a6 a7 a8 a9 g6 g7 g8 g9 g7' m6 m7 m8 m9 y6
  generalize upd (upd (upd (upd H6 e1 (.dK [])) t4 (.tup [.ref e1, .str "let"])) l1 (.lst [])) t5 (.tup [.ref l1, .str "value", .int 0]) = H7
  intro m10 s9 hf9 th9
  have a10 := same_upd (o := .lst [.non, .bl true, .int 0, .str "", .str "0 let", .ref t0, .ref l0, .ref e0, .ref t3, .ref t4, .ref t5]) m10
  refine ⟨fo, l, _, _, rfl, rfl, a10 _ _ hf9, upd_same, Nat.le_of_lt (small1000' (by simp only [List.length_cons, List.length_nil]; omega)), fun q' nq => ?_⟩
  have aq := same_upd (o := .lst (xs ++ [.non, .bl true, .int 0, .str "", .str "0 let", .ref t0, .ref l0, .ref e0, .ref t3, .ref t4, .ref t5])) nq
  have sE := sA.trans (s9.trans (a10.trans aq))
  have nq5 := (sA.trans (s9.trans a10)).free nq
  refine q _ q' _ (fun b o n1 n2 e => sE _ _ (k45 _ _ n1 n2 (k34 _ _ n1 n2 (s13 _ _ e)))) ((D5.same sE).mono (by omega)) upd_same (D5.new nq5).1 (D5.new nq5).2 (by rw [List.length_append]; simp only [List.length_cons, List.length_nil]; omega) fun v hv => ?_
  rcases List.mem_append.mp hv with hv | hv
  · exact ((th5 v hv).keep (KeepO.of sE)).mono fun a h => h.1
  · exact ((th9 v hv).keep (KeepO.of (a10.trans aq))).mono fun a h => h.1
end
end L18

namespace L18
open PySem PySem.Spec PyProof.Rows L2 GR AD
theorem svs_zip {K : PySem.W.Frag} {H : Hp} : ∀ {us : List V} {ds : List PyData}, SVs K H us ds → ∃ l : List St1, l.map (·.1) = us ∧ ∀ s, s ∈ l → SV K H s.1 s.2
  | _, _, .nil => ⟨[], rfl, fun s hs => (nomatch hs)⟩
  | _, _, .cons (a := u) (b := d) h t => by
    obtain ⟨l, h1, h2⟩ := svs_zip t
    refine ⟨(u, d) :: l, by rw [List.map_cons, h1], fun s hs => ?_⟩
    rcases List.mem_cons.mp hs with rfl | hs
    · exact h
    · exact h2 s hs
theorem seql_same {K : PySem.W.Frag} {H H' : Hp} {a : Addr} {xs : List V} (h : SqL K H a xs) (s : Same H H') : SqL K H' a xs := by
  rcases h with (h | ⟨o, h⟩) | h
  · exact .inl (.inl (s _ _ h))
  · exact .inl (.inr ⟨o, s _ _ h⟩)
  · exact .inr h
theorem Wd.keepB {H H' : Hp} {d c u tl cl nl B : Addr} {ts cs ns : List Str} (W : Wd H d c u tl cl nl ts cs ns) (k : ∀ b o, b ≠ d → b ≠ c → b ≠ B → H b = some o → H' b = some o) (n : H B = none) : Wd H' d c u tl cl nl ts cs ns :=
  ⟨k _ _ W.u0.1 W.u0.2 (ne_of_none W.dct n) W.dct, k _ _ W.t0.1 W.t0.2 (ne_of_none W.ht n) W.ht, k _ _ W.c0.1 W.c0.2 (ne_of_none W.hc n) W.hc, k _ _ W.n0.1 W.n0.2 (ne_of_none W.hn n) W.hn, W.t0, W.c0, W.n0, W.u0, W.lt, W.lc, W.ln, W.at', W.ac, W.an⟩
theorem bool_ok (b : Bool) : PyData.strOk (PyData.bool b).shown = true := by
  rw [PyData.shown_bool]
  cases b <;> decide +kernel
theorem shaped_pair {a b : Str} (ha : PyData.strOk a = true) (hb : PyData.strOk b = true) : SeqAt.shaped (.list [.str a, .str b]) = true := by
  unfold SeqAt.shaped
  simp only [PyData.canLay0, PyData.canLayAll0, ha, hb, PyData.depth, PyData.depthAll]
  rfl
section
variable {P : Program} {w : World} {K : PySem.W.Frag} {mg : Str → Option Value} {base : Heap}
abbrev s_law_right : Stmt := topS 25
abbrev N_ri : List Str := ["_law_made", "_law_thing", "_law_before", "_law_due", "_law_k"]
theorem sc_law_right : FnScope N_ri ["_law_made", "_law_thing"] (defScope s_law_right) := ⟨rfl, rfl, rfl, by decide +kernel, rfl, by decide +kernel, by decide +kernel⟩
def sp_right (K : PySem.W.Frag) : Sp := fun vs H Q _ => ∃ (p : Addr) (v : V) (ok : Addr → Prop) (ms : List Int) (es : List En), vs = [.ref p, v] ∧ LgF K H p ms es ∧ OkL ms es ∧ (∀ a, ok a → a ≠ sysModules) ∧ Th K ok H v ∧ ∀ H', Same H H' → Q (.bl true) H'
theorem ok_right {f f_l f_s : Addr} {fd d_l d_s : FuncData} {k : Nat} (F : Fun K "_law_right" "_law_right" s_law_right f fd)
    (GL : FnOk P w K mg base CX0 k f_l d_l ["_law_places", "_law_thing"] (sp_lis K)) (gL : mg "_law_is_slot" = some (.ref f_l)) (KL : PySem.W.keepIn K (.ref f_l) = true) (bL : Binds K d_l ["_law_places", "_law_thing"] [])
    (GS : FnOk P w K mg base CX0 k f_s d_s ["log", "thing"] (sp_islot K)) (gS : mg "is_slot" = some (.ref f_s)) (KS : PySem.W.keepIn K (.ref f_s) = true) (bS : Binds K d_s ["log", "thing"] [])
    (mrepr : mg "repr" = none) (mdict : mg "dict" = none) (mrange : mg "range" = none) : FnG P w K mg base CX0 (k + 1) f fd ["_law_made", "_law_thing"] (sp_right K) := by
  have nd := sc_law_right.nd
  refine ok_g F sc_law_right (fun vs H Q E h => ?_) (fun cdv A outer s H vs Q E hg hr h => ?_)
  · obtain ⟨p, v, ok, ms, es, rfl, _⟩ := h
    rfl
  obtain ⟨p, v, ok, ms, es, rfl, L, okl, hok, ⟨x, hx, zx, sx⟩, q⟩ := h
  refine ⟨_, (pss_cons (ps_set (i := 2) nd rfl (.inl rfl) (pe_callB (call_reprA hg hr) (by rfl) mrepr boot_repr (pa_cons (pv 1) pa_nil)))
      (pss_cons (ps_set (i := 3) nd rfl (.inl rfl) (pe_callB call_reprB (by rfl) mrepr boot_repr (pa_cons (pe_call GL hr (by rfl) gL KL bL .nil pass0 (pa_cons (pe_callTy (SC.call_dictT rfl) (by rfl) mdict boot_dict (pa_cons (pe_ix ix_tup (pv 0) pe_int (fun _ _ => rfl)) pa_nil)) (pa_cons (pv 1) pa_nil))) pa_nil)))
      (pss_one (ps_ret (pe_and (pe_cmpR (op_eqD hr.units) (pe_lc (own := [("_law_k", 4)]) (te := tCB rReprB (tCons (tCall (sp_islot K) [] E0 (tCons (tVar 0) (tCons (tVar 1) tNil))) tNil)) rfl nd (pi_range1 rfl mrange (pa_cons pe_int pa_nil)) (blkOk_by (N := N_ri) (sc := defScope s_law_right) (by decide +kernel)) (fun _ _ _ _ _ => (pg_name (i := 4) nd rfl (Or.inl rfl))) (fun _ _ _ _ _ => pts_nil) (fun _ _ _ _ _ => (pe_callB call_reprB (by rfl) mrepr boot_repr (pa_cons (pe_call GS hr (by rfl) gS KS bS .nil pass0 (pa_cons (pv 0) (pa_cons (pv 1) pa_nil))) pa_nil)))) (pe_lst (pa_cons (pv 3) (pa_cons (pv 3) pa_nil))) (nomark _)) (pe_one (pe_cmpR op_eq (pe_callB (call_reprA hg hr) (by rfl) mrepr boot_repr (pa_cons (pv 1) pa_nil)) (pv 2) (nomark _)))))))), ?_⟩
  have zs := zx.shown (by decide) (by decide)
  refine ⟨v, rfl, v, x, ok, rfl, hok, hx, zs, ?_⟩
  obtain ⟨mp, ep, rs, h1, h2, h3, h4⟩ := id L
  refine ⟨.ref p, rfl, p, _, 1, .ref ep, rfl, rfl, .inl (.inl h1), rfl, ep, rs, plK es, rfl, h3, ens_pairs h4, fun dd ndd => ?_⟩
  rw [plK_merge okl.asc]
  have sd := same_upd (o := .dK (plK es)) ndd
  refine ⟨v, rfl, dd, v, x, ok, rs, es, rfl, upd_same, ens_keep (KeepT.of sd) h4, hok, hx.keep (KeepO.of sd), sx, fun H2 s2 => ⟨_, rfl, ?_⟩⟩
  rw [slotB_keep h4 (KeepT.of sd)]
  have s02 := sd.trans s2
  clear sd s2 ndd
  generalize hb : slotB H es x = b
  have tok := bool_ok b
  generalize ht : (PyData.bool b).shown = t at tok ⊢
  refine ⟨2, rfl, by decide, by decide, fun B nB => ?_⟩
  refine lc_range (n := 2) (fun i H' => H' B = some (.lst (List.replicate i (.str t))) ∧ ∀ b' o, b' ≠ B → H2 b' = some o → H' b' = some o) ?_ ?_ ?_
  · exact ⟨upd_same, fun b' o nb e => by rw [upd_ne nb]; exact e⟩
  · rintro i H' hi ⟨hB, kb⟩
    have sB : Same H2 H' := fun b' o e => kb b' o (ne_of_none e nB) e
    have s03 := s02.trans sB
    refine ⟨rfl, yes_then ⟨.ref p, rfl, v, rfl, p, v, x, ok, ms, es, rfl, (L.keep (KeepT.of s03)).lg, hx.keep (KeepO.of s03), fun H4 s4 => ⟨_, rfl, ?_⟩⟩⟩
    rw [slotB_keep h4 (KeepT.of s03), hb, ht]
    refine ⟨_, s4 _ _ hB, small1000 (by rw [List.length_replicate]; omega), ?_, fun b' o nb e => by rw [upd_ne nb]; exact s4 _ _ (kb b' o nb e)⟩
    rw [List.replicate_succ']
    exact upd_same
  · rintro H3 ⟨hB, kb⟩
    have sB : Same H2 H3 := fun b' o e => kb b' o (ne_of_none e nB) e
    refine ⟨.str t, rfl, .str t, rfl, le2, fun l nl => ?_⟩
    have sl := same_upd (o := .lst [.str t, .str t]) nl
    have s05 := s02.trans (sB.trans sl)
    have hS := shaped_pair tok tok
    refine ⟨.list [.str t, .str t], .list [.str t, .str t], .lst (.inl (.inl (sl _ _ hB))) (.cons (.str t) (.cons (.str t) .nil)), .lst (.inl (.inl upd_same)) (.cons (.str t) (.cons (.str t) .nil)), hS, hS, _, rfl, ?_⟩
    have : PyData.eqv (.list [.str t, .str t]) (.list [.str t, .str t]) = true := by simp only [PyData.eqv, PyData.eqvAll, beq_self_eq_true, Bool.and_self]
    rw [this]
    refine iteT ⟨v, rfl, v, x, ok, rfl, hok, hx.keep (KeepO.of s05), zs, .str x.shown, rfl, rfl, ?_⟩
    rw [decide_eq_true rfl]
    exact q _ s05
end
end L18

namespace L18
open PySem PySem.Spec PyProof.Rows L2 GR AD
section
variable {P : Program} {w : World} {K : PySem.W.Frag} {mg : Str → Option Value} {base : Heap}
abbrev s_law : Stmt := topS 26
abbrev N_law : List Str := ["_law_script", "_law_deck_here", "_law_turn", "_law_world_here", "_law_made", "_law_k", "_law_thing"]
theorem sc_law : FnScope N_law ["_law_script"] (defScope s_law) := ⟨rfl, rfl, rfl, by decide +kernel, rfl, by decide +kernel, by decide +kernel⟩
def sp_law (K : PySem.W.Frag) : Sp := fun vs H Q _ => ∃ (a : Addr) (ns : List Int), vs = [.ref a] ∧ SqL K H a (ns.map V.int) ∧ ∀ H', Q (.bl true) H'
theorem ok_law {f f_deck f_draw f_world f_tran f_ri f_spr f_th : Addr} {fd d_deck d_draw d_world d_tran d_ri d_spr d_th : FuncData} {k : Nat} (F : Fun K "law" "law" s_law f fd)
    (G_deck : FnOk P w K mg base CX0 k f_deck d_deck ["_law_script"] (sp_deck K)) (g_deck : mg "_law_deck" = some (.ref f_deck)) (K_deck : PySem.W.keepIn K (.ref f_deck) = true) (b_deck : Binds K d_deck ["_law_script"] [])
    (G_draw : FnOk P w K mg base CX0 k f_draw d_draw ["_law_deck_here", "_law_most"] sp_draw) (g_draw : mg "_law_draw" = some (.ref f_draw)) (K_draw : PySem.W.keepIn K (.ref f_draw) = true) (b_draw : Binds K d_draw ["_law_deck_here", "_law_most"] [])
    (G_world : FnOk P w K mg base CX0 k f_world d_world ["_law_deck_here"] sp_world) (g_world : mg "_law_world" = some (.ref f_world)) (K_world : PySem.W.keepIn K (.ref f_world) = true) (b_world : Binds K d_world ["_law_deck_here"] [])
    (G_tran : FnOk P w K mg base CX0 k f_tran d_tran ps_tr (sp_tran K)) (g_tran : mg "_law_transaction" = some (.ref f_tran)) (K_tran : PySem.W.keepIn K (.ref f_tran) = true) (b_tran : Binds K d_tran ps_tr [])
    (G_ri : FnG P w K mg base CX0 k f_ri d_ri ["_law_made", "_law_thing"] (sp_right K)) (g_ri : mg "_law_right" = some (.ref f_ri)) (K_ri : PySem.W.keepIn K (.ref f_ri) = true) (b_ri : Binds K d_ri ["_law_made", "_law_thing"] [])
    (G_spr : FnOk P w K mg base CX0 k f_spr d_spr ["_law_deck_here", "_law_some"] (sp_spread K)) (g_spr : mg "_law_spread" = some (.ref f_spr)) (K_spr : PySem.W.keepIn K (.ref f_spr) = true) (b_spr : Binds K d_spr ["_law_deck_here", "_law_some"] [])
    (G_th : FnG P w K mg base CX0 k f_th d_th ["_law_deck_here", "_law_places"] (sp_things K)) (g_th : mg "_law_things" = some (.ref f_th)) (K_th : PySem.W.keepIn K (.ref f_th) = true) (b_th : Binds K d_th ["_law_deck_here", "_law_places"] [])
    (mrange : mg "range" = none) (mmax : mg "max" = none) (mmin : mg "min" = none) (mlen : mg "len" = none) (mdict : mg "dict" = none) : FnG P w K mg base CX0 (k + 1) f fd ["_law_script"] (sp_law K) := by
  have nd := sc_law.nd
  refine ok_g F sc_law (fun vs H Q E h => ?_) (fun cdv A outer s H vs Q E hg hr h => ?_)
  · obtain ⟨a, ns, rfl, _⟩ := h
    rfl
  obtain ⟨a, ns, rfl, hS, q⟩ := h
  refine ⟨_, (pss_cons (ps_set (i := 1) nd rfl (.inr rfl) (pe_call G_deck hr (by rfl) g_deck K_deck b_deck .nil pass0 (pa_cons (pv 0) pa_nil)))
      (pss_cons (ps_for PassesOwn.never rfl (pi_range1 rfl mrange (pa_cons (pe_callB (call_max2 rfl) (by rfl) mmax boot_max (pa_cons pe_int (pa_cons (pe_callB (call_min2 rfl) (by rfl) mmin boot_min (pa_cons (pe_callB call_len_seq (by rfl) mlen PySem.boot_len (pa_cons (pv 0) pa_nil)) (pa_cons pe_int pa_nil))) pa_nil))) pa_nil)) (pg_name (i := 2) nd rfl (Or.inl rfl))
      (pss_cons (ps_set (i := 3) nd rfl (.inr rfl) (pe_call G_world hr (by rfl) g_world K_world b_world .nil pass0 (pa_cons (pv 1) pa_nil)))
        (pss_cons (ps_set (i := 4) nd rfl (.inr rfl) (pe_call G_spr hr (by rfl) g_spr K_spr b_spr .nil pass0 (pa_cons (pv 1) (pa_cons (pe_lc (own := [("_law_k", 5)]) (te := tCall (sp_tran K) [] E0 (tCons (tVar 1) (tCons (tVar 3) (tCons (tC (.int 5)) (tCons (tC (.int 2)) tNil))))) rfl nd (pi_range1 rfl mrange (pa_cons (pe_call G_draw hr (by rfl) g_draw K_draw b_draw .nil pass0 (pa_cons (pv 1) (pa_cons pe_int pa_nil))) pa_nil)) (blkOk_by (N := N_law) (sc := defScope s_law) (by decide +kernel)) (fun _ _ _ _ _ => (pg_name (i := 5) nd rfl (Or.inl rfl))) (fun _ _ _ _ _ => pts_nil) (fun _ _ _ _ _ => (pe_call G_tran hr (by rfl) g_tran K_tran b_tran .nil pass0 (pa_cons (pv 1) (pa_cons (pv 3) (pa_cons pe_int (pa_cons pe_int pa_nil))))))) pa_nil))))
        (pss_one (ps_if (pt_cmpR (op_neD hr.units) (pe_lc (own := [("_law_thing", 6)]) (tt := tNot (tB (tCall (sp_right K) [] E0 (tCons (tVar 4) (tCons (tVar 6) tNil))))) rfl nd (pi_list (pe_callG G_th hg hr (by rfl) g_th K_th b_th pass0 (pa_cons (pv 1) (pa_cons (pe_callTy (SC.call_dictT rfl) (by rfl) mdict boot_dict (pa_cons (pe_ix ix_tup (pv 4) pe_int (fun _ _ => rfl)) pa_nil)) pa_nil)))) (blkOk_by (N := N_law) (sc := defScope s_law) (by decide +kernel)) (fun _ _ _ _ _ => (pg_name (i := 6) nd rfl (Or.inl rfl))) (fun _ _ _ _ _ => (pts_one (pt_not (pt_val (pe_callG G_ri hg hr (by rfl) g_ri K_ri b_ri pass0 (pa_cons (pv 4) (pa_cons (pv 6) pa_nil))))))) (fun _ _ _ _ _ => (pv 6))) (pe_lst pa_nil) (nomark _))
        (pss_one (ps_ret pe_bl))
        pss_nil)))))
      (pss_one (ps_ret pe_bl)))), ?_⟩
  refine ⟨.ref a, rfl, a, ns, rfl, hS, fun H1 d c s1 n1 D1 => ?_⟩
  have hS1 : SqL K H1 a (ns.map V.int) := seql_same hS s1
  obtain ⟨m, hm, hm3⟩ : ∃ m : Nat, (if (if (3 : Int) < ((ns.map V.int).length : Int) then 3 else ((ns.map V.int).length : Int)) > 1 then (if (3 : Int) < ((ns.map V.int).length : Int) then 3 else ((ns.map V.int).length : Int)) else 1) = (m : Int) ∧ m ≤ 3 := by
    refine ⟨(if (if (3 : Int) < ((ns.map V.int).length : Int) then 3 else ((ns.map V.int).length : Int)) > 1 then (if (3 : Int) < ((ns.map V.int).length : Int) then 3 else ((ns.map V.int).length : Int)) else 1).toNat, ?_⟩
    split <;> split <;> omega
  refine ⟨.ref a, rfl, a, _, rfl, .inl hS1, _, _, rfl, _, _, rfl, ?_⟩
  rw [hm]
  refine ⟨(m : Int), rfl, by omega, by omega, ?_⟩
  rw [show ((m : Int)).toNat = m by omega]
  refine for_range (n := m) (fun i σ H' => ∃ y2 y3 y4, σ = [some (.ref a), some (.ref d), y2, y3, y4, none, none] ∧ Deck H' d c (2000000 * (i : Int))) ?_ ?_ ?_
  · exact ⟨none, none, none, rfl, D1.mono (by omega)⟩
  · rintro i σ H2 hi ⟨y2, y3, y4, rfl, D2⟩
    refine ⟨.ref d, rfl, d, c, _, rfl, D2, by omega, fun H3 u tl cl nl ts cs nms k3 D3 nu W3 => ?_⟩
    refine ⟨.ref d, rfl, .ref d, rfl, d, c, _, 5, rfl, D3, by omega, by decide, by decide, fun H4 r k4 D4 r0 r6 => ?_⟩
    obtain ⟨n, rfl⟩ := Int.eq_ofNat_of_zero_le r0
    refine ⟨(n : Int), rfl, by omega, by omega, fun B nB => ?_⟩
    rw [show ((n : Int)).toNat = n by omega]
    have hBd := D4.new nB
    have W4 := W3.keep k4
    refine lc_range (n := n) (fun j H' => ∃ T : List (Addr × List St1), H' B = some (.lst (T.map fun t => V.ref t.1)) ∧ T.length = j ∧ (∀ t, t ∈ T → H' t.1 = some (.tup (t.2.map (·.1))) ∧ t.2.length ≤ 6 ∧ ∀ s, s ∈ t.2 → SV K H' s.1 s.2) ∧ Deck H' d c (2000000 * (i : Int) + 31 + 200000 * (j : Int)) ∧ ∀ b o, b ≠ d → b ≠ c → b ≠ B → H4 b = some o → H' b = some o) ?_ ?_ ?_
    · have sB := same_upd (o := .lst []) nB
      exact ⟨[], upd_same, rfl, fun t ht => (nomatch ht), (D4.same sB).mono (by omega), fun b o _ _ _ e => sB _ _ e⟩
    · rintro j H5 hj ⟨T, hB, hTl, hT, D5, kB⟩
      have W5 := W4.keepB kB nB
      refine ⟨rfl, yes_then ⟨.ref d, rfl, .ref u, rfl, d, c, u, tl, cl, nl, _, 2, 5, ts, cs, nms, rfl, by decide, by decide, D5, by omega, W5, fun H6 p us ds k6 D6 hp hus hul => ?_⟩⟩
      obtain ⟨l, hl1, hl2⟩ := svs_zip hus
      have hB6 := k6 _ _ hBd.1 hBd.2 hB
      have kt6 := k6.t D5
      have ktB : KeepT H6 (upd H6 B (.lst ((T.map fun t => V.ref t.1) ++ [.ref p]))) := KeepT.lst hB6
      refine ⟨_, hB6, small1000 (by rw [List.length_map]; omega), T ++ [(p, l)], by rw [List.map_append]; exact upd_same, by rw [List.length_append, hTl]; rfl, fun t ht => ?_, (D6.upd hBd.1 hBd.2).mono (by omega), ?_⟩
      · rcases List.mem_append.mp ht with ht | ht
        · obtain ⟨g1, g2, g3⟩ := hT t ht
          exact ⟨ktB.1 _ _ (kt6.1 _ _ g1), g2, fun s hs => ((g3 s hs).keep kt6).keep ktB⟩
        · rw [List.mem_singleton.mp ht]
          refine ⟨ktB.1 _ _ (by rw [hp, ← hl1]), by rw [← List.length_map (f := (·.1)), hl1]; exact hul, fun s hs => (hl2 s hs).keep ktB⟩
      · exact fun b o n1 n2 n3 e => by rw [upd_ne n3]; exact k6 _ _ n1 n2 (kB b o n1 n2 n3 e)
    · rintro H5 ⟨T, hB, hTl, hT, D5, kB⟩
      have S5 : Sm K H5 B T := ⟨hB, hT, by omega⟩
      refine ⟨d, c, B, _, T, rfl, D5, by omega, S5, hBd.1, hBd.2, fun H6 p6 ms es k6 D6 L6 ok6 => ?_⟩
      obtain ⟨mp, ep, rs, h1, h2, h3, h4⟩ := id L6
      refine ⟨.ref d, rfl, .ref p6, rfl, p6, _, 1, .ref ep, rfl, rfl, .inl (.inl h1), rfl, ep, rs, plK es, rfl, h3, ens_pairs h4, fun dd ndd => ?_⟩
      rw [plK_merge ok6.asc]
      have sd := same_upd (o := .dK (plK es)) ndd
      refine ⟨d, c, dd, _, es, rfl, D6.same sd, by omega, upd_same, ok6.el, ok6.eb, fun H7 pt xs k7 D7 hpt pt1 pt2 lxs hth => ⟨pt, rfl, ⟨_, .inl (.inl hpt)⟩, fun B2 nB2 => ?_⟩⟩
      have L7 := (L6.keep (KeepT.of sd)).keep (k7.t (D6.same sd))
      refine lc_list (xs := xs) (fun j H' => H' B2 = some (.lst []) ∧ ∀ b o, b ≠ B2 → H7 b = some o → H' b = some o) ?_ ?_ ?_ ?_
      · exact ⟨upd_same, fun b o nb e => by rw [upd_ne nb]; exact e⟩
      · rintro j H' _ ⟨_, kb⟩
        exact .inl (.inl (kb _ _ (ne_of_none hpt nB2) hpt))
      · rintro j v H' hx ⟨hB2, kb⟩
        have sB : Same H7 H' := fun b o e => kb b o (ne_of_none e nB2) e
        refine ⟨rfl, .ref p6, rfl, v, rfl, p6, v, okd d c, ms, es, rfl, L7.keep (KeepT.of sB), ok6, fun a h => h.1, (hth v (List.mem_of_getElem? hx)).keep (KeepO.of sB), fun H8 s8 => ⟨_, rfl, iteF ⟨s8 _ _ hB2, fun b o nb e => s8 _ _ (kb b o nb e)⟩⟩⟩
      · rintro H8 ⟨hB2, kb⟩
        have sB : Same H7 H8 := fun b o e => kb b o (ne_of_none e nB2) e
        refine ⟨Nat.zero_le _, fun l nl => ⟨.list [], .list [], .lst (.inl (.inl (same_upd nl _ _ hB2))) .nil, .lst (.inl (.inl upd_same)) .nil, by decide +kernel, by decide +kernel, _, rfl, ?_⟩⟩
        have : PyData.eqv (.list []) (.list []) = true := by simp only [PyData.eqv, PyData.eqvAll]
        rw [this]
        exact iteF ⟨_, _, _, rfl, ((D7.same sB).same (same_upd nl)).mono (by omega)⟩
  · rintro σ H2 ⟨y2, y3, y4, rfl, D2⟩
    exact q _
end
end L18

namespace L18
open PySem PySem.Spec PyProof.Rows L2 GR AD
/-- a def stands in the text's top -/
def Has (K : PySem.W.Frag) (x : Str) (st : Stmt) : Prop := ∃ (f : Addr) (fd : FuncData), PySem.W.nsIn K mainGlobals x = some (some (.ref f)) ∧ Fun K x x st f fd
theorem has_mk {K : PySem.W.Frag} {x : Str} {st : Stmt} {f : Addr} {oc : Value} {od an : Option Addr} {osl : Array (Option Value)} {kV doc pm cdv ct : Value} (a : PySem.W.nsIn K mainGlobals x = some (some (.ref f)))
    (l : K.lookup f = some ⟨oc, od, .func (PySem.W.fnOf x x (defArgs st) (defBody st) (defScope st) .none kV doc pm an cdv ct), osl⟩) (c : PySem.W.codeIn K cdv x = true) (k : PySem.W.keepIn K (.ref f) = true) : Has K x st := ⟨f, _, a, fun_mk l c k⟩
/-- a written tuple of texts -/
def KTx (K : PySem.W.Frag) (p : Addr) (fs : List Str) : Prop := ∀ H, SqT K H p (fs.map V.str)
theorem ktx_mk {K : PySem.W.Frag} {p : Addr} {fs : List Str} {d : Option Addr} {its : Array Value} {n : Nat} {sl : Array (Option Value)} (l : K.lookup p = some ⟨.type "tuple", d, .seq its n, sl⟩) (hv : Vals (fs.map V.str) its.toList) (hs : fs.length ≤ 100) : KTx K p fs := fun H =>
  .inr ⟨_, its, n, l, rfl, rfl, by have h1 := hv.length; rw [List.length_map] at h1; have h2 : its.toList.length = its.size := Array.length_toList ..; exact small_le (by omega), hv⟩
theorem slk_mk {K : PySem.W.Frag} {w : World} {fA : Addr} {es : Array DictEntry} {n : Nat} (l : K.lookup fA = some ⟨.type "dict", none, .dict es n, #[]⟩) (kl : PySem.W.KeysLit w.params es.toList)
    {p0 : Addr} (q0 : PySem.W.nsIn K fA "let" = some (some (.ref p0))) (r0 : KTx K p0 ["let"])
    {p1 : Addr} (q1 : PySem.W.nsIn K fA "need" = some (some (.ref p1))) (r1 : KTx K p1 ["need"])
    {p2 : Addr} (q2 : PySem.W.nsIn K fA "put" = some (some (.ref p2))) (r2 : KTx K p2 ["key", "value"])
    {p3 : Addr} (q3 : PySem.W.nsIn K fA "each" = some (some (.ref p3))) (r3 : KTx K p3 ["guard", "value"])
    {p4 : Addr} (q4 : PySem.W.nsIn K fA "tell" = some (some (.ref p4))) (r4 : KTx K p4 ["tell"])
    : SlK K w fA := by
  intro wd h
  simp only [sw, List.mem_cons, List.not_mem_nil, or_false] at h
  rcases h with rfl | rfl | rfl | rfl | rfl
  · exact ⟨p0, ⟨es, n, _, l, kl, q0, rfl⟩, r0⟩
  · exact ⟨p1, ⟨es, n, _, l, kl, q1, rfl⟩, r1⟩
  · exact ⟨p2, ⟨es, n, _, l, kl, q2, rfl⟩, r2⟩
  · exact ⟨p3, ⟨es, n, _, l, kl, q3, rfl⟩, r3⟩
  · exact ⟨p4, ⟨es, n, _, l, kl, q4, rfl⟩, r4⟩
theorem all_mk {P : Program} {w : World} {K : PySem.W.Frag} {h : Heap} {mg : Str → Option Value} {fa : Addr} (X : K.In h) (G : h.Ns mainGlobals mg) (hfa : mg "law" = some (.ref fa))
    (X_is_integer : Has K "is_integer" s_is_integer)
    (X_is_value : Has K "is_value" s_is_value)
    (X_statement_at : Has K "statement_at" s_statement_at)
    (X_is_slot : Has K "is_slot" s_is_slot)
    (X_has_slot_form : Has K "has_slot_form" s_has_slot_form)
    (X_is_slot_of : Has K "is_slot_of" s_is_slot_of)
    (X_law_deck : Has K "_law_deck" s_law_deck)
    (X_law_draw : Has K "_law_draw" s_law_draw)
    (X_law_pick : Has K "_law_pick" s_law_pick)
    (X_law_names : Has K "_law_names" s_law_names)
    (X_law_world : Has K "_law_world" s_law_world)
    (X_law_expression : Has K "_law_expression" s_law_expression)
    (X_law_statement : Has K "_law_statement" s_law_statement)
    (X_law_transaction : Has K "_law_transaction" s_law_transaction)
    (X_law_spread : Has K "_law_spread" s_law_spread)
    (X_law_is_whole : Has K "_law_is_whole" s_law_is_whole)
    (X_law_is_slot : Has K "_law_is_slot" s_law_is_slot)
    (X_law_keys : Has K "_law_keys" s_law_keys)
    (X_law_things : Has K "_law_things" s_law_things)
    (X_law_right : Has K "_law_right" s_law_right)
    (X_law : Has K "law" s_law)
    (z_list : PySem.W.nsIn K mainGlobals "list" = some none) (z_sum : PySem.W.nsIn K mainGlobals "sum" = some none) (z_len : PySem.W.nsIn K mainGlobals "len" = some none) (z_range : PySem.W.nsIn K mainGlobals "range" = some none) (z_int : PySem.W.nsIn K mainGlobals "int" = some none) (z_repr : PySem.W.nsIn K mainGlobals "repr" = some none) (z_tuple : PySem.W.nsIn K mainGlobals "tuple" = some none) (z_dict : PySem.W.nsIn K mainGlobals "dict" = some none) (z_min : PySem.W.nsIn K mainGlobals "min" = some none) (z_max : PySem.W.nsIn K mainGlobals "max" = some none) (z_isinstance : PySem.W.nsIn K mainGlobals "isinstance" = some none) (z_bool : PySem.W.nsIn K mainGlobals "bool" = some none) (z_str : PySem.W.nsIn K mainGlobals "str" = some none)
    {tk_LIMIT : Tok} (c_LIMIT : PySem.W.nsIn K mainGlobals "LIMIT" = some (some (.int LIM tk_LIMIT)))
    {fA : Addr} (z_SLOTS : PySem.W.nsIn K mainGlobals "SLOTS" = some (some (.ref fA))) (T_SLOTS : SlK K w fA)
    : ∃ fd : FuncData, (∀ (s : Shared) (v : Value), BindsTo s fd ⟨[v], []⟩ [("_law_script", v)]) ∧ ∀ base : Heap, K.In base → base.Ns mainGlobals mg → FnG P w K mg base CX0 9 fa fd ["_law_script"] (sp_law K) := by
  obtain ⟨fis_integer, dis_integer, ais_integer, Fis_integer⟩ := X_is_integer
  have gis_integer := PySem.W.mg_of X G ais_integer
  have bis_integer : Binds K dis_integer ["thing"] [] := Fis_integer.binds (ps := ["thing"]) fun _ _ _ _ _ _ us hl => match us, hl with | [_], _ => rfl
  obtain ⟨fis_value, dis_value, ais_value, Fis_value⟩ := X_is_value
  have gis_value := PySem.W.mg_of X G ais_value
  have bis_value : Binds K dis_value ["thing"] [] := Fis_value.binds (ps := ["thing"]) fun _ _ _ _ _ _ us hl => match us, hl with | [_], _ => rfl
  obtain ⟨fstatement_at, dstatement_at, astatement_at, Fstatement_at⟩ := X_statement_at
  have gstatement_at := PySem.W.mg_of X G astatement_at
  have bstatement_at : Binds K dstatement_at ["log", "position"] [] := Fstatement_at.binds (ps := ["log", "position"]) fun _ _ _ _ _ _ us hl => match us, hl with | [_, _], _ => rfl
  obtain ⟨fis_slot, dis_slot, ais_slot, Fis_slot⟩ := X_is_slot
  have gis_slot := PySem.W.mg_of X G ais_slot
  have bis_slot : Binds K dis_slot ["log", "thing"] [] := Fis_slot.binds (ps := ["log", "thing"]) fun _ _ _ _ _ _ us hl => match us, hl with | [_, _], _ => rfl
  obtain ⟨fhas_slot_form, dhas_slot_form, ahas_slot_form, Fhas_slot_form⟩ := X_has_slot_form
  have ghas_slot_form := PySem.W.mg_of X G ahas_slot_form
  have bhas_slot_form : Binds K dhas_slot_form ["thing"] [] := Fhas_slot_form.binds (ps := ["thing"]) fun _ _ _ _ _ _ us hl => match us, hl with | [_], _ => rfl
  obtain ⟨fis_slot_of, dis_slot_of, ais_slot_of, Fis_slot_of⟩ := X_is_slot_of
  have gis_slot_of := PySem.W.mg_of X G ais_slot_of
  have bis_slot_of : Binds K dis_slot_of ["statement", "thing"] [] := Fis_slot_of.binds (ps := ["statement", "thing"]) fun _ _ _ _ _ _ us hl => match us, hl with | [_, _], _ => rfl
  obtain ⟨f_law_deck, d_law_deck, a_law_deck, F_law_deck⟩ := X_law_deck
  have g_law_deck := PySem.W.mg_of X G a_law_deck
  have b_law_deck : Binds K d_law_deck ["_law_script"] [] := F_law_deck.binds (ps := ["_law_script"]) fun _ _ _ _ _ _ us hl => match us, hl with | [_], _ => rfl
  obtain ⟨f_law_draw, d_law_draw, a_law_draw, F_law_draw⟩ := X_law_draw
  have g_law_draw := PySem.W.mg_of X G a_law_draw
  have b_law_draw : Binds K d_law_draw ["_law_deck_here", "_law_most"] [] := F_law_draw.binds (ps := ["_law_deck_here", "_law_most"]) fun _ _ _ _ _ _ us hl => match us, hl with | [_, _], _ => rfl
  obtain ⟨f_law_pick, d_law_pick, a_law_pick, F_law_pick⟩ := X_law_pick
  have g_law_pick := PySem.W.mg_of X G a_law_pick
  have b_law_pick : Binds K d_law_pick ["_law_deck_here", "_law_some"] [] := F_law_pick.binds (ps := ["_law_deck_here", "_law_some"]) fun _ _ _ _ _ _ us hl => match us, hl with | [_, _], _ => rfl
  obtain ⟨f_law_names, d_law_names, a_law_names, F_law_names⟩ := X_law_names
  have g_law_names := PySem.W.mg_of X G a_law_names
  have b_law_names : Binds K d_law_names ["_law_deck_here", "_law_many"] [] := F_law_names.binds (ps := ["_law_deck_here", "_law_many"]) fun _ _ _ _ _ _ us hl => match us, hl with | [_, _], _ => rfl
  obtain ⟨f_law_world, d_law_world, a_law_world, F_law_world⟩ := X_law_world
  have g_law_world := PySem.W.mg_of X G a_law_world
  have b_law_world : Binds K d_law_world ["_law_deck_here"] [] := F_law_world.binds (ps := ["_law_deck_here"]) fun _ _ _ _ _ _ us hl => match us, hl with | [_], _ => rfl
  obtain ⟨f_law_expression, d_law_expression, a_law_expression, F_law_expression⟩ := X_law_expression
  have g_law_expression := PySem.W.mg_of X G a_law_expression
  have b_law_expression : Binds K d_law_expression ["_law_deck_here", "_law_world_here", "_law_deep", "_law_scope", "_law_loose"] [] := F_law_expression.binds (ps := ["_law_deck_here", "_law_world_here", "_law_deep", "_law_scope", "_law_loose"]) fun _ _ _ _ _ _ us hl => match us, hl with | [_, _, _, _, _], _ => rfl
  obtain ⟨f_law_statement, d_law_statement, a_law_statement, F_law_statement⟩ := X_law_statement
  have g_law_statement := PySem.W.mg_of X G a_law_statement
  have b_law_statement : Binds K d_law_statement ["_law_deck_here", "_law_world_here", "_law_scope", "_law_deep"] [] := F_law_statement.binds (ps := ["_law_deck_here", "_law_world_here", "_law_scope", "_law_deep"]) fun _ _ _ _ _ _ us hl => match us, hl with | [_, _, _, _], _ => rfl
  obtain ⟨f_law_transaction, d_law_transaction, a_law_transaction, F_law_transaction⟩ := X_law_transaction
  have g_law_transaction := PySem.W.mg_of X G a_law_transaction
  have b_law_transaction : Binds K d_law_transaction ["_law_deck_here", "_law_world_here", "_law_most", "_law_deep"] [] := F_law_transaction.binds (ps := ["_law_deck_here", "_law_world_here", "_law_most", "_law_deep"]) fun _ _ _ _ _ _ us hl => match us, hl with | [_, _, _, _], _ => rfl
  obtain ⟨f_law_spread, d_law_spread, a_law_spread, F_law_spread⟩ := X_law_spread
  have g_law_spread := PySem.W.mg_of X G a_law_spread
  have b_law_spread : Binds K d_law_spread ["_law_deck_here", "_law_some"] [] := F_law_spread.binds (ps := ["_law_deck_here", "_law_some"]) fun _ _ _ _ _ _ us hl => match us, hl with | [_, _], _ => rfl
  obtain ⟨f_law_is_whole, d_law_is_whole, a_law_is_whole, F_law_is_whole⟩ := X_law_is_whole
  have g_law_is_whole := PySem.W.mg_of X G a_law_is_whole
  have b_law_is_whole : Binds K d_law_is_whole ["_law_thing"] [] := F_law_is_whole.binds (ps := ["_law_thing"]) fun _ _ _ _ _ _ us hl => match us, hl with | [_], _ => rfl
  obtain ⟨f_law_is_slot, d_law_is_slot, a_law_is_slot, F_law_is_slot⟩ := X_law_is_slot
  have g_law_is_slot := PySem.W.mg_of X G a_law_is_slot
  have b_law_is_slot : Binds K d_law_is_slot ["_law_places", "_law_thing"] [] := F_law_is_slot.binds (ps := ["_law_places", "_law_thing"]) fun _ _ _ _ _ _ us hl => match us, hl with | [_, _], _ => rfl
  obtain ⟨f_law_keys, d_law_keys, a_law_keys, F_law_keys⟩ := X_law_keys
  have g_law_keys := PySem.W.mg_of X G a_law_keys
  have b_law_keys : Binds K d_law_keys ["_law_deck_here"] [] := F_law_keys.binds (ps := ["_law_deck_here"]) fun _ _ _ _ _ _ us hl => match us, hl with | [_], _ => rfl
  obtain ⟨f_law_things, d_law_things, a_law_things, F_law_things⟩ := X_law_things
  have g_law_things := PySem.W.mg_of X G a_law_things
  have b_law_things : Binds K d_law_things ["_law_deck_here", "_law_places"] [] := F_law_things.binds (ps := ["_law_deck_here", "_law_places"]) fun _ _ _ _ _ _ us hl => match us, hl with | [_, _], _ => rfl
  obtain ⟨f_law_right, d_law_right, a_law_right, F_law_right⟩ := X_law_right
  have g_law_right := PySem.W.mg_of X G a_law_right
  have b_law_right : Binds K d_law_right ["_law_made", "_law_thing"] [] := F_law_right.binds (ps := ["_law_made", "_law_thing"]) fun _ _ _ _ _ _ us hl => match us, hl with | [_, _], _ => rfl
  obtain ⟨f_law0, d_law0, a_law0, F_law0⟩ := X_law
  have e := hfa.symm.trans (PySem.W.mg_of X G a_law0)
  cases e
  have mlist := PySem.W.mg_none_of X G z_list
  have msum := PySem.W.mg_none_of X G z_sum
  have mlen := PySem.W.mg_none_of X G z_len
  have mrange := PySem.W.mg_none_of X G z_range
  have mint := PySem.W.mg_none_of X G z_int
  have mrepr := PySem.W.mg_none_of X G z_repr
  have mtuple := PySem.W.mg_none_of X G z_tuple
  have mdict := PySem.W.mg_none_of X G z_dict
  have mmin := PySem.W.mg_none_of X G z_min
  have mmax := PySem.W.mg_none_of X G z_max
  have misinstance := PySem.W.mg_none_of X G z_isinstance
  have mbool := PySem.W.mg_none_of X G z_bool
  have mstr := PySem.W.mg_none_of X G z_str
  have mLIMIT := PySem.W.mg_of X G c_LIMIT
  have mSLOTS := PySem.W.mg_of X G z_SLOTS
  obtain ⟨oc, od, kV, doc, pm, an, cdv, ct, osl, hfd, _, _⟩ := F_law0.ex
  refine ⟨d_law0, fun s v => ?_, fun base _ _ => ?_⟩
  · subst hfd
    exact .of_eq rfl
  · have Gdraw := ok_draw (P := P) (w := w) (mg := mg) (base := base) (k := 0) F_law_draw
    have Gpick := ok_pick (k := 1) F_law_pick Gdraw g_law_draw F_law_draw.kp b_law_draw mlen
    have Gnames := ok_names (k := 2) F_law_names (Gdraw.mono (by decide)) g_law_draw F_law_draw.kp b_law_draw Gpick g_law_pick F_law_pick.kp b_law_pick mrange mlen
    have Gworld := ok_world (k := 3) F_law_world (Gdraw.mono (by decide)) g_law_draw F_law_draw.kp b_law_draw Gnames g_law_names F_law_names.kp b_law_names
    have Gdeck := ok_deck (P := P) (w := w) (mg := mg) (base := base) (k := 0) F_law_deck mlist msum mlen
    have Gex := ok_exprs (k := 2) F_law_expression (Gdraw.mono (by decide)) g_law_draw F_law_draw.kp b_law_draw Gpick g_law_pick F_law_pick.kp b_law_pick g_law_expression F_law_expression.kp b_law_expression mint mmax 3
    have Gst := ok_stmt (k := 6) F_law_statement (Gdraw.mono (by decide)) g_law_draw F_law_draw.kp b_law_draw (Gpick.mono (by decide)) g_law_pick F_law_pick.kp b_law_pick Gex g_law_expression F_law_expression.kp b_law_expression
    have Gtr := ok_tran (k := 7) F_law_transaction (Gdraw.mono (by decide)) g_law_draw F_law_draw.kp b_law_draw Gst g_law_statement F_law_statement.kp b_law_statement mrange mint mtuple
    have Gsat := ok_statement_at (P := P) (w := w) (mg := mg) (base := base) (k := 0) Fstatement_at
    have Gspr := ok_spread (k := 2) F_law_spread (Gdraw.mono (by decide)) g_law_draw F_law_draw.kp b_law_draw Gpick g_law_pick F_law_pick.kp b_law_pick mlen mtuple
    have Gii := ok_is_integer (P := P) (w := w) (mg := mg) (base := base) (k := 0) Fis_integer misinstance mint mbool
    have Giv := ok_is_value (k := 1) Fis_value Gii gis_integer Fis_integer.kp bis_integer mLIMIT
    have Ghf := ok_has_slot_form (k := 1) Fhas_slot_form Gii gis_integer Fis_integer.kp bis_integer misinstance mtuple mstr mlen
    have Gio := ok_is_slot_of (k := 2) Fis_slot_of mSLOTS T_SLOTS Giv gis_value Fis_value.kp bis_value mlen
    have Gis := ok_is_slot (k := 3) Fis_slot (Ghf.mono (by decide)) ghas_slot_form Fhas_slot_form.kp bhas_slot_form Gio gis_slot_of Fis_slot_of.kp bis_slot_of (Gsat.mono (by decide)) gstatement_at Fstatement_at.kp bstatement_at
    have Gw := ok_is_whole (P := P) (w := w) (mg := mg) (base := base) (k := 0) F_law_is_whole misinstance mint mbool
    have Glis := ok_law_is_slot (k := 1) F_law_is_slot Gw g_law_is_whole F_law_is_whole.kp b_law_is_whole misinstance mtuple mlen
    have Gky := ok_keys (k := 1) F_law_keys Gdraw g_law_draw F_law_draw.kp b_law_draw
    have Gth := ok_things (k := 2) F_law_things Gpick g_law_pick F_law_pick.kp b_law_pick Gky g_law_keys F_law_keys.kp b_law_keys mstr
    have Gri := ok_right (k := 4) F_law_right (Glis.mono (by decide)) g_law_is_slot F_law_is_slot.kp b_law_is_slot Gis gis_slot Fis_slot.kp bis_slot mrepr mdict mrange
    exact ok_law (k := 8) F_law0 (Gdeck.mono (by decide)) g_law_deck F_law_deck.kp b_law_deck (Gdraw.mono (by decide)) g_law_draw F_law_draw.kp b_law_draw (Gworld.mono (by decide)) g_law_world F_law_world.kp b_law_world Gtr g_law_transaction F_law_transaction.kp b_law_transaction (Gri.mono (by decide)) g_law_right F_law_right.kp b_law_right (Gspr.mono (by decide)) g_law_spread F_law_spread.kp b_law_spread (Gth.mono (by decide)) g_law_things F_law_things.kp b_law_things mrange mmax mmin mlen mdict
end L18
open PySem PySem.W PyProof.Rows
set_option maxHeartbeats 0 in
theorem PySem.Challenge.cw_lookdone_k18_what_is_a_slot_holds : PySem.Challenge.rw_lookdone_k18_what_is_a_slot.Holds := by
  w_on; o_law; k_head; (case hw => w_witness2)
  k_fill
  refine GR.walk_g (l := PySem.Challenge.rw_lookdone_k18_what_is_a_slot) (n := 63) (k := 9) (x := "_law_script") (sp := L18.sp_law) rfl (by decide) rfl ⟨rfl, by decide, by decide⟩ (fun w h Y => PySem.W.kIn_of Y) ?F (fun _ _ a ns hl _ hS => ⟨a, ns, rfl, hS, fun _ => rfl⟩)
  case F =>
    intro w mg fa h KX G hmg
    refine' L18.all_mk KX G hmg (L18.has_mk ?a_is_integer ?l_is_integer ?c_is_integer ?k_is_integer) (L18.has_mk ?a_is_value ?l_is_value ?c_is_value ?k_is_value) (L18.has_mk ?a_statement_at ?l_statement_at ?c_statement_at ?k_statement_at) (L18.has_mk ?a_is_slot ?l_is_slot ?c_is_slot ?k_is_slot) (L18.has_mk ?a_has_slot_form ?l_has_slot_form ?c_has_slot_form ?k_has_slot_form) (L18.has_mk ?a_is_slot_of ?l_is_slot_of ?c_is_slot_of ?k_is_slot_of) (L18.has_mk ?a_law_deck ?l_law_deck ?c_law_deck ?k_law_deck) (L18.has_mk ?a_law_draw ?l_law_draw ?c_law_draw ?k_law_draw) (L18.has_mk ?a_law_pick ?l_law_pick ?c_law_pick ?k_law_pick) (L18.has_mk ?a_law_names ?l_law_names ?c_law_names ?k_law_names) (L18.has_mk ?a_law_world ?l_law_world ?c_law_world ?k_law_world) (L18.has_mk ?a_law_expression ?l_law_expression ?c_law_expression ?k_law_expression) (L18.has_mk ?a_law_statement ?l_law_statement ?c_law_statement ?k_law_statement) (L18.has_mk ?a_law_transaction ?l_law_transaction ?c_law_transaction ?k_law_transaction) (L18.has_mk ?a_law_spread ?l_law_spread ?c_law_spread ?k_law_spread) (L18.has_mk ?a_law_is_whole ?l_law_is_whole ?c_law_is_whole ?k_law_is_whole) (L18.has_mk ?a_law_is_slot ?l_law_is_slot ?c_law_is_slot ?k_law_is_slot) (L18.has_mk ?a_law_keys ?l_law_keys ?c_law_keys ?k_law_keys) (L18.has_mk ?a_law_things ?l_law_things ?c_law_things ?k_law_things) (L18.has_mk ?a_law_right ?l_law_right ?c_law_right ?k_law_right) (L18.has_mk ?a_law ?l_law ?c_law ?k_law) ?z_list ?z_sum ?z_len ?z_range ?z_int ?z_repr ?z_tuple ?z_dict ?z_min ?z_max ?z_isinstance ?z_bool ?z_str ?c0_LIMIT ?z_SLOTS (L18.slk_mk ?l_F ?kl_F ?q_0 (L18.ktx_mk ?l_0 ?v_0 (by decide)) ?q_1 (L18.ktx_mk ?l_1 ?v_1 (by decide)) ?q_2 (L18.ktx_mk ?l_2 ?v_2 (by decide)) ?q_3 (L18.ktx_mk ?l_3 ?v_3 (by decide)) ?q_4 (L18.ktx_mk ?l_4 ?v_4 (by decide)))
    (case a_is_integer => k_is)
    (case l_is_integer => k_is)
    (case c_is_integer => k_is)
    (case k_is_integer => k_is)
    (case a_is_value => k_is)
    (case l_is_value => k_is)
    (case c_is_value => k_is)
    (case k_is_value => k_is)
    (case a_statement_at => k_is)
    (case l_statement_at => k_is)
    (case c_statement_at => k_is)
    (case k_statement_at => k_is)
    (case a_is_slot => k_is)
    (case l_is_slot => k_is)
    (case c_is_slot => k_is)
    (case k_is_slot => k_is)
    (case a_has_slot_form => k_is)
    (case l_has_slot_form => k_is)
    (case c_has_slot_form => k_is)
    (case k_has_slot_form => k_is)
    (case a_is_slot_of => k_is)
    (case l_is_slot_of => k_is)
    (case c_is_slot_of => k_is)
    (case k_is_slot_of => k_is)
    (case a_law_deck => k_is)
    (case l_law_deck => k_is)
    (case c_law_deck => k_is)
    (case k_law_deck => k_is)
    (case a_law_draw => k_is)
    (case l_law_draw => k_is)
    (case c_law_draw => k_is)
    (case k_law_draw => k_is)
    (case a_law_pick => k_is)
    (case l_law_pick => k_is)
    (case c_law_pick => k_is)
    (case k_law_pick => k_is)
    (case a_law_names => k_is)
    (case l_law_names => k_is)
    (case c_law_names => k_is)
    (case k_law_names => k_is)
    (case a_law_world => k_is)
    (case l_law_world => k_is)
    (case c_law_world => k_is)
    (case k_law_world => k_is)
    (case a_law_expression => k_is)
    (case l_law_expression => k_is)
    (case c_law_expression => k_is)
    (case k_law_expression => k_is)
    (case a_law_statement => k_is)
    (case l_law_statement => k_is)
    (case c_law_statement => k_is)
    (case k_law_statement => k_is)
    (case a_law_transaction => k_is)
    (case l_law_transaction => k_is)
    (case c_law_transaction => k_is)
    (case k_law_transaction => k_is)
    (case a_law_spread => k_is)
    (case l_law_spread => k_is)
    (case c_law_spread => k_is)
    (case k_law_spread => k_is)
    (case a_law_is_whole => k_is)
    (case l_law_is_whole => k_is)
    (case c_law_is_whole => k_is)
    (case k_law_is_whole => k_is)
    (case a_law_is_slot => k_is)
    (case l_law_is_slot => k_is)
    (case c_law_is_slot => k_is)
    (case k_law_is_slot => k_is)
    (case a_law_keys => k_is)
    (case l_law_keys => k_is)
    (case c_law_keys => k_is)
    (case k_law_keys => k_is)
    (case a_law_things => k_is)
    (case l_law_things => k_is)
    (case c_law_things => k_is)
    (case k_law_things => k_is)
    (case a_law_right => k_is)
    (case l_law_right => k_is)
    (case c_law_right => k_is)
    (case k_law_right => k_is)
    (case a_law => k_is)
    (case l_law => k_is)
    (case c_law => k_is)
    (case k_law => k_is)
    (case z_list => k_is)
    (case z_sum => k_is)
    (case z_len => k_is)
    (case z_range => k_is)
    (case z_int => k_is)
    (case z_repr => k_is)
    (case z_tuple => k_is)
    (case z_dict => k_is)
    (case z_min => k_is)
    (case z_max => k_is)
    (case z_isinstance => k_is)
    (case z_bool => k_is)
    (case z_str => k_is)
    (case c0_LIMIT => k_is)
    (case z_SLOTS => k_is)
    (case l_F => k_is)
    (case kl_F => k_keys)
    (case q_0 => k_is)
    (case l_0 => k_is)
    (case v_0 => repeat (first | exact .nil | refine .cons ⟨_, rfl⟩ ?_))
    (case q_1 => k_is)
    (case l_1 => k_is)
    (case v_1 => repeat (first | exact .nil | refine .cons ⟨_, rfl⟩ ?_))
    (case q_2 => k_is)
    (case l_2 => k_is)
    (case v_2 => repeat (first | exact .nil | refine .cons ⟨_, rfl⟩ ?_))
    (case q_3 => k_is)
    (case l_3 => k_is)
    (case v_3 => repeat (first | exact .nil | refine .cons ⟨_, rfl⟩ ?_))
    (case q_4 => k_is)
    (case l_4 => k_is)
    (case v_4 => repeat (first | exact .nil | refine .cons ⟨_, rfl⟩ ?_))
